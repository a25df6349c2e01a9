/-
  The document's example comes out as it says (awake), and who asks as the model has it (model). No condition.
-/
import Derived.Test.YtnbpglaklhfgmaaRef2
namespace Go.Proofs.Ytnbpglaklhfgmaa
open Go Go.RowKit

theorem ints1 (W : World) (a : Int) : IntsR (W.alloc (.cells #[.int .i64 a] 3)) (.slice (some ⟨W.heap.size, 0, none⟩) 1 1) [a] := by
  refine ⟨_, _, rfl, fun k x hk => ⟨_, rfl, ?_⟩⟩
  match k, hk with
  | 0, hk => simp at hk; subst hk; simp [Addr.add]
theorem ret_val {a b : Value} (h : a = b) : Ending.returned a = .returned b := by rw [h]
theorem model_any (u g : Int) (A : Option Addr) (n c : Nat) (w : World) :
    Calls Try.prog 10 #[.agg #[.int .i64 u, .int .i64 g, .slice A n c]] w fun e w' => e = .returned (.agg #[.int .i64 u, .int .i64 g, .slice A n c]) ∧ Below w.heap.size w w' := by
  go_enter Try.func10, Try.ntmps10
  go_wp2
  exact bodyPost_ret (v := .agg #[.int .i64 u, .int .i64 g, .slice A n c]) (by simp [results, Try.results10, go_sem]) rfl ⟨rfl, by repeat (first | exact Below.refl _ _ | refine Below.setCell ?_ (by simp) _ | refine Below.alloc ?_ (by simp) _)⟩
/-- Who asks, in a cell of its own, and what has been since. -/
def Cr (w0 : World) (b : Nat) (u g : Int) (A : Option Addr) (n c : Nat) (gs : List Int) (w : World) : Prop :=
  Below w0.heap.size w0 w ∧ IntsR w (.slice A n c) gs ∧ w.cell? ⟨b, 0, none⟩ = some (.int .i64 u) ∧ w.cell? ⟨b, 1, none⟩ = some (.int .i64 g) ∧ w.cell? ⟨b, 2, none⟩ = some (.slice A n c)
theorem Cr.below {w0 : World} {b : Nat} {u g : Int} {A : Option Addr} {n c : Nat} {gs : List Int} {w w' : World} (h : Cr w0 b u g A n c gs w) (hb : Below w.heap.size w w') : Cr w0 b u g A n c gs w' :=
  ⟨bt hb h.1, h.2.1.below hb, bc hb h.2.2.1, bc hb h.2.2.2.1, bc hb h.2.2.2.2⟩
set_option maxHeartbeats 2000000 in
theorem awake_any (w : World) : Calls Try.prog 9 #[] w fun e w' => e = .returned (.bool true) ∧ Below w.heap.size w w' := by
  have H1 := Lib.hid (fun (W : World) A c (h : IntsR W (.slice A 1 c) [2]) => class_of 1 1 A 1 c [2] 2 2 W h (by decide))
  rw [show (if (2 : Int) = 1 then (0 : Int) else if ((2 : Int) == 1 || [(2 : Int)].contains 2) = true then 1 else 2) = 1 by decide] at H1
  have H2 := Lib.hid (fun (W : World) A c (h : IntsR W (.slice A 1 c) [2]) => can_any 1 1 A 1 c [2] 2 2 504 7 W h (by decide))
  rw [show ((1 : Int) == 0 || lets 7 (cls 504 (clsOf 1 1 [2] 2 2))) = true by decide] at H2
  have H3 := Lib.hid (fun (W : World) A c (h : IntsR W (.slice A 1 c) [2]) => can_any 1 1 A 1 c [2] 2 2 455 1 W h (by decide))
  rw [show ((1 : Int) == 0 || lets 1 (cls 455 (clsOf 1 1 [2] 2 2))) = false by decide] at H3
  have H4 := Lib.hid (fun (W : World) A c (h : IntsR W (.slice A 1 c) [2]) => member_any 1 1 A 1 c [2] 2 W h (by decide))
  rw [show ((2 : Int) == 1 || [(2 : Int)].contains 2) = true by decide] at H4
  have H5 := Lib.hid (fun (W : World) A c (h : IntsR W (.slice A 1 c) [2]) => member_any 1 1 A 1 c [2] 3 W h (by decide))
  rw [show ((3 : Int) == 1 || [(2 : Int)].contains 3) = false by decide] at H5
  have H6 := Lib.hid (fun (W : World) A c => mayMode_any 1 1 A 1 c 2 W)
  rw [show ((1 : Int) == 0 || (2 : Int) == 1) = false by decide] at H6
  have H7 := Lib.hid (fun (W : World) => can_any 0 0 none 0 0 [] 5 5 0 7 W ⟨_, _, rfl, fun k g hk => by simp at hk⟩ (by decide))
  rw [show ((0 : Int) == 0 || lets 7 (cls 0 (clsOf 0 0 [] 5 5))) = true by decide] at H7
  have C0 := Lib.hid (show Cr w (w.alloc (.cells #[.int .i64 2] 3)).heap.size 1 1 (some ⟨w.heap.size, 0, none⟩) 1 1 [2] ((w.alloc (.cells #[.int .i64 2] 3)).alloc (.cells #[.int .i64 1, .int .i64 1, .slice (some ⟨w.heap.size, 0, none⟩) 1 1] 24)) from
    ⟨(ba _ _).alloc (by simp) _, (ints1 w 2).below (ba _ _), by simp, by simp, by simp⟩)
  rw [show (w.alloc (.cells #[.int .i64 2] 3)).heap.size = w.heap.size + 1 by simp] at C0
  go_enter Try.func9, Try.ntmps9
  go_wp2_with fail
  refine (H1.out _ _ _ C0.out.2.1).mono ?_
  rintro e w1 ⟨rfl, hb1⟩
  have C1 := Lib.hid (C0.out.below hb1)
  obtain ⟨-, -, k0, k1, k2⟩ := C1.out
  clear hb1
  go_wp2_with fail
  refine (H2.out _ _ _ C1.out.2.1).mono ?_
  clear k0 k1 k2
  rintro e w2 ⟨rfl, hb2⟩
  have C2 := Lib.hid (C1.out.below hb2)
  obtain ⟨-, -, k0, k1, k2⟩ := C2.out
  clear hb2
  go_wp2_with fail
  refine (H3.out _ _ _ C2.out.2.1).mono ?_
  clear k0 k1 k2
  rintro e w3 ⟨rfl, hb3⟩
  have C3 := Lib.hid (C2.out.below hb3)
  obtain ⟨-, -, k0, k1, k2⟩ := C3.out
  clear hb3
  go_wp2_with fail
  refine (H4.out _ _ _ C3.out.2.1).mono ?_
  clear k0 k1 k2
  rintro e w4 ⟨rfl, hb4⟩
  have C4 := Lib.hid (C3.out.below hb4)
  obtain ⟨-, -, k0, k1, k2⟩ := C4.out
  clear hb4
  go_wp2_with fail
  refine (H5.out _ _ _ C4.out.2.1).mono ?_
  clear k0 k1 k2
  rintro e w5 ⟨rfl, hb5⟩
  have C5 := Lib.hid (C4.out.below hb5)
  obtain ⟨-, -, k0, k1, k2⟩ := C5.out
  clear hb5
  go_wp2_with fail
  refine (H6.out _ _ _).mono ?_
  clear k0 k1 k2
  rintro e w6 ⟨rfl, hb6⟩
  have C6 := Lib.hid (C5.out.below hb6)
  obtain ⟨-, -, k0, k1, k2⟩ := C6.out
  clear hb6
  go_wp2_with fail
  refine (H7.out _).mono ?_
  clear k0 k1 k2
  rintro e w7 ⟨rfl, hb7⟩
  have C7 := Lib.hid (C6.out.below hb7)
  go_wp2
  go_ret
  exact ⟨rfl, C7.out.1⟩
end Go.Proofs.Ytnbpglaklhfgmaa
