/-
  Who asks is of a group: Member, Class and isRoot, of whatever groups lie behind. The condition: no more groups than a million.
-/
import Derived.Test.YtnbpglaklhfgmaaIdx
import Derived.Test.YtnbpglaklhfgmaaMInts
import Derived.Deep.RegionHeld3
import Derived.StillTailTactics
namespace Go.Proofs.Ytnbpglaklhfgmaa
open Go Go.RowKit

theorem isRoot_any (u g : Int) (A : Option Addr) (n c : Nat) (w : World) :
    Calls Try.prog 30 #[.agg #[.int .i64 u, .int .i64 g, .slice A n c]] w fun e w' => e = .returned (.bool (u == 0)) ∧ Below w.heap.size w w' := by
  go_enter Try.func30, Try.ntmps30
  go_wp2
  go_ret
  exact ⟨rfl, (Below.refl _ _).alloc (Nat.le_refl _) _⟩
theorem bools2 (W : World) (a b : Bool) : BoolsR (W.alloc (.cells #[.bool a, .bool b] 4)) (.slice (some ⟨W.heap.size, 0, none⟩) 2 2) [a, b] := by
  refine ⟨_, _, rfl, fun k x hk => ⟨_, rfl, ?_⟩⟩
  match k, hk with
  | 0, hk => simp at hk; subst hk; simp [Addr.add]
  | 1, hk => simp at hk; subst hk; simp [Addr.add]
theorem bools3 (W : World) (a b c : Bool) : BoolsR (W.alloc (.cells #[.bool a, .bool b, .bool c] 4)) (.slice (some ⟨W.heap.size, 0, none⟩) 3 3) [a, b, c] := by
  refine ⟨_, _, rfl, fun k x hk => ⟨_, rfl, ?_⟩⟩
  match k, hk with
  | 0, hk => simp at hk; subst hk; simp [Addr.add]
  | 1, hk => simp at hk; subst hk; simp [Addr.add]
  | 2, hk => simp at hk; subst hk; simp [Addr.add]
theorem bools4 (W : World) (a b c d : Bool) : BoolsR (W.alloc (.cells #[.bool a, .bool b, .bool c, .bool d] 4)) (.slice (some ⟨W.heap.size, 0, none⟩) 4 4) [a, b, c, d] := by
  refine ⟨_, _, rfl, fun k x hk => ⟨_, rfl, ?_⟩⟩
  match k, hk with
  | 0, hk => simp at hk; subst hk; simp [Addr.add]
  | 1, hk => simp at hk; subst hk; simp [Addr.add]
  | 2, hk => simp at hk; subst hk; simp [Addr.add]
  | 3, hk => simp at hk; subst hk; simp [Addr.add]
theorem anyOf2 (W : World) (a b : Bool) : Calls Try.prog 28 #[.slice (some ⟨W.heap.size, 0, none⟩) 2 2] (W.alloc (.cells #[.bool a, .bool b] 4)) fun e w' => e = .returned (.bool (a || b)) ∧ W.alloc (.cells #[.bool a, .bool b] 4) = w' :=
  (anyOf_any _ _ _ (bools2 W a b) (by simp)).mono fun _ _ h => ⟨h.1.trans (ret_bool (by cases a <;> cases b <;> rfl)), h.2⟩
theorem anyOf3 (W : World) (a b c : Bool) : Calls Try.prog 28 #[.slice (some ⟨W.heap.size, 0, none⟩) 3 3] (W.alloc (.cells #[.bool a, .bool b, .bool c] 4)) fun e w' => e = .returned (.bool (a || b || c)) ∧ W.alloc (.cells #[.bool a, .bool b, .bool c] 4) = w' :=
  (anyOf_any _ _ _ (bools3 W a b c) (by simp)).mono fun _ _ h => ⟨h.1.trans (ret_bool (by cases a <;> cases b <;> cases c <;> rfl)), h.2⟩
theorem anyOf4 (W : World) (a b c d : Bool) : Calls Try.prog 28 #[.slice (some ⟨W.heap.size, 0, none⟩) 4 4] (W.alloc (.cells #[.bool a, .bool b, .bool c, .bool d] 4)) fun e w' => e = .returned (.bool (a || b || c || d)) ∧ W.alloc (.cells #[.bool a, .bool b, .bool c, .bool d] 4) = w' :=
  (anyOf_any _ _ _ (bools4 W a b c d) (by simp)).mono fun _ _ h => ⟨h.1.trans (ret_bool (by cases a <;> cases b <;> cases c <;> cases d <;> rfl)), h.2⟩
theorem member_any (u g : Int) (A : Option Addr) (n c : Nat) (gs : List Int) (x : Int) (w : World) (h : IntsR w (.slice A n c) gs) (hn : gs.length ≤ 1000000) :
    Calls Try.prog 11 #[.agg #[.int .i64 u, .int .i64 g, .slice A n c], .int .i64 x] w fun e w' => e = .returned (.bool (x == g || gs.contains x)) ∧ Below w.heap.size w w' := by
  have HG := Lib.hid (fun w' hb => conI _ gs x w' (h.below hb) hn)
  clear h
  obtain ⟨R, hR⟩ : ∃ R, gs.contains x = R := ⟨_, rfl⟩
  rw [hR] at HG ⊢
  clear hR
  go_enter Try.func11, Try.ntmps11
  go_wp2_with fail
  have k1 : (w.alloc (.cells #[.int .i64 u, .int .i64 g, .slice A n c] 24)).cell? ⟨w.heap.size, 1, none⟩ = some (.int .i64 g) := by simp
  have k2 : (w.alloc (.cells #[.int .i64 u, .int .i64 g, .slice A n c] 24)).cell? ⟨w.heap.size, 2, none⟩ = some (.slice A n c) := by simp
  have hb : Below w.heap.size w (w.alloc (.cells #[.int .i64 u, .int .i64 g, .slice A n c] 24)) := (Below.refl _ _).alloc (Nat.le_refl _) _
  generalize w.alloc (.cells #[.int .i64 u, .int .i64 g, .slice A n c] 24) = W1 at k1 k2 hb ⊢
  have HB := Lib.hid hb
  clear hb
  go_still_tail 8, (by kernel_rfl)
  still_call ((HG.out _ (by exact HB.out.drew)).mono fun _ _ h => ⟨h.1, h.2.symm⟩)
  repeat still_step
  refine wpStill_nil ?_
  change wpList _ _ _ _ _ (World.drew _)
  have HB2 := Lib.hid HB.out.drew
  generalize W1.drew = W2 at HB2 ⊢
  go_wp2_with fail
  refine (anyOf2 _ _ _).mono ?_
  rintro e w2 ⟨rfl, rfl⟩
  go_wp2
  go_ret
  exact ⟨rfl, HB2.out.alloc HB2.out.size _⟩
theorem class_of (u g : Int) (A : Option Addr) (n c : Nat) (gs : List Int) (x y : Int) (w : World) (h : IntsR w (.slice A n c) gs) (hn : gs.length ≤ 1000000) :
    Calls Try.prog 13 #[.agg #[.int .i64 u, .int .i64 g, .slice A n c], .int .i64 x, .int .i64 y] w fun e w' => e = .returned (.int .i64 (if x = u then 0 else if (y == g || gs.contains y) = true then 1 else 2)) ∧ Below w.heap.size w w' := by
  have hb : Below w.heap.size w (w.alloc (.cells #[.int .i64 u, .int .i64 g, .slice A n c] 24)) := (Below.refl _ _).alloc (Nat.le_refl _) _
  have HM := Lib.hid (member_any u g A n c gs y _ (h.below hb) hn)
  have HB := Lib.hid hb
  clear h hb
  obtain ⟨R, hR⟩ : ∃ R, (y == g || gs.contains y) = R := ⟨_, rfl⟩
  rw [hR] at HM ⊢
  clear hR
  by_cases hx : x = u
  · subst hx
    rw [if_pos rfl]
    go_enter Try.func13, Try.ntmps13
    go_wp2
    go_ret
    exact ⟨rfl, HB.out⟩
  · rw [if_neg hx]
    have hx' : (x == u) = false := by simpa using hx
    clear hx
    cases R with
    | true =>
      go_enter Try.func13, Try.ntmps13
      go_wp2_with fail
      refine HM.out.mono ?_
      rintro e w2 ⟨rfl, hb2⟩
      have HB2 := Lib.hid hb2
      clear hb2
      go_wp2
      go_ret
      exact ⟨rfl, bt HB2.out HB.out⟩
    | false =>
      go_enter Try.func13, Try.ntmps13
      go_wp2_with fail
      refine HM.out.mono ?_
      rintro e w2 ⟨rfl, hb2⟩
      have HB2 := Lib.hid hb2
      clear hb2
      go_wp2
      go_ret
      exact ⟨rfl, bt HB2.out HB.out⟩
end Go.Proofs.Ytnbpglaklhfgmaa
