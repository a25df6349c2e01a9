/-
  What MayMode, MayOwn, Mode, Written and Sticky of package cred answer, and the reference's. The condition: no more groups than a million.
-/
import Derived.Test.YtinalglbibmmpaaCM
import Derived.Test.YtinalglbibmmpaaBC
namespace Go.Proofs.Ytinalglbibmmpaa
open Go Go.RowKit

theorem mayMode_any (u g : Int) (A : Option Addr) (n c : Nat) (x : Int) (w : World) :
    Calls Try.prog 25 #[.agg #[.int .i64 u, .int .i64 g, .slice A n c], .int .i64 x] w fun e w' => e = .returned (.bool (u == 0 || x == u)) ∧ Below w.heap.size w w' := by
  go_enter Try.func25, Try.ntmps25
  go_wp2_with fail
  have k0 : (w.alloc (.cells #[.int .i64 u, .int .i64 g, .slice A n c] 25)).cell? ⟨w.heap.size, 0, none⟩ = some (.int .i64 u) := by simp
  have k1 : (w.alloc (.cells #[.int .i64 u, .int .i64 g, .slice A n c] 25)).cell? ⟨w.heap.size, 1, none⟩ = some (.int .i64 g) := by simp
  have k2 : (w.alloc (.cells #[.int .i64 u, .int .i64 g, .slice A n c] 25)).cell? ⟨w.heap.size, 2, none⟩ = some (.slice A n c) := by simp
  have hb : Below w.heap.size w (w.alloc (.cells #[.int .i64 u, .int .i64 g, .slice A n c] 25)) := ba _ _
  generalize w.alloc (.cells #[.int .i64 u, .int .i64 g, .slice A n c] 25) = W1 at k0 k1 k2 hb ⊢
  have hs0 : W1.drew.cell? ⟨w.heap.size, 0, none⟩ = some (.int .i64 u) := k0
  have hs1 : W1.drew.cell? ⟨w.heap.size, 1, none⟩ = some (.int .i64 g) := k1
  have hs2 : W1.drew.cell? ⟨w.heap.size, 2, none⟩ = some (.slice A n c) := k2
  have hs3 := hb.drew
  go_region_held3 (fun w' => w'.cell? ⟨w.heap.size, 0, none⟩ = some (.int .i64 u) ∧ w'.cell? ⟨w.heap.size, 1, none⟩ = some (.int .i64 g) ∧ w'.cell? ⟨w.heap.size, 2, none⟩ = some (.slice A n c) ∧ Below w.heap.size w w')
    (first | exact ⟨hs0, hs1, hs2, hs3⟩ | exact ⟨bc hb4 hs0, bc hb4 hs1, bc hb4 hs2, bt hb4 hs3⟩ | exact ⟨bc (ba _ _) (bc hb4 hs0), bc (ba _ _) (bc hb4 hs1), bc (ba _ _) (bc hb4 hs2), bt (ba _ _) (bt hb4 hs3)⟩)
    (first | (go_at_call 34; refine (isRoot_any _ _ _ _ _ _).mono ?_; rintro e w4 ⟨rfl, hb4⟩) | (go_at_call 35; refine (anyOf2 _ _ _).mono ?_; rintro e w5 ⟨rfl, rfl⟩))
  all_goals
    go_wp2
    go_ret
    exact ⟨rfl, bt (ba _ _) (bt hb4 hs3)⟩

theorem mayOwn_any (u g : Int) (A : Option Addr) (n c : Nat) (gs : List Int) (x y tu tg : Int) (w : World) (h : IntsR w (.slice A n c) gs) (hn : gs.length ≤ 1000000) :
    Calls Try.prog 19 #[.agg #[.int .i64 u, .int .i64 g, .slice A n c], .int .i64 x, .int .i64 y, .int .i64 tu, .int .i64 tg] w fun e w' => e = .returned (.bool (mayOwn u g gs x y tu tg)) ∧ Below w.heap.size w w' := by
  have HM := Lib.hid (fun w' hb => member_any u g A n c gs tg w' (h.below hb) hn)
  clear h
  unfold mayOwn
  obtain ⟨R, hR⟩ : ∃ R, (tg == g || gs.contains tg) = R := ⟨_, rfl⟩
  rw [hR] at HM ⊢
  clear hR
  have HB := Lib.hid (ba w (.cells #[.int .i64 u, .int .i64 g, .slice A n c] 25))
  by_cases hu : u = 0
  · subst hu
    go_enter Try.func19, Try.ntmps19
    go_wp2_with fail
    refine (isRoot_any _ _ _ _ _ _).mono ?_
    rintro e w3 ⟨rfl, hb3⟩
    have HB3 := Lib.hid (bt hb3 HB.out)
    clear hb3
    go_wp2
    go_ret
    exact ⟨rfl, HB3.out⟩
  have hu' : (u == 0) = false := by simpa using hu
  by_cases hx : x = u
  · subst hx
    have hx' : (x == x) = true := by simp
    rw [hu', hx']
    obtain ⟨Q, hQ⟩ : ∃ Q, (tu == x || decide (tu < 0)) = Q := ⟨_, rfl⟩
    rw [hQ]
    have HQ := Lib.hid hQ
    clear hQ
    cases Q with
    | true =>
      go_enter Try.func19, Try.ntmps19
      go_wp2_with fail
      refine (isRoot_any _ _ _ _ _ _).mono ?_
      rintro e w3 ⟨rfl, hb3⟩
      rw [hu']
      have k0 : w3.cell? ⟨w.heap.size, 0, none⟩ = some (.int .i64 x) := bc hb3 (by simp)
      have k1 : w3.cell? ⟨w.heap.size, 1, none⟩ = some (.int .i64 g) := bc hb3 (by simp)
      have k2 : w3.cell? ⟨w.heap.size, 2, none⟩ = some (.slice A n c) := bc hb3 (by simp)
      have HB3 := Lib.hid (bt hb3 HB.out)
      clear hb3
      go_wp2_with fail
      refine (anyOf2 _ _ _).mono ?_
      rintro e w4 ⟨rfl, rfl⟩
      rw [HQ.out]
      have HB4 := Lib.hid (HB3.out.alloc HB3.out.size (.cells #[.bool (tu == x), .bool (decide (tu < 0))] 4))
      have j0 := bc (ba w3 (.cells #[.bool (tu == x), .bool (decide (tu < 0))] 4)) k0
      have j1 := bc (ba w3 (.cells #[.bool (tu == x), .bool (decide (tu < 0))] 4)) k1
      have j2 := bc (ba w3 (.cells #[.bool (tu == x), .bool (decide (tu < 0))] 4)) k2
      generalize w3.alloc (.cells #[.bool (tu == x), .bool (decide (tu < 0))] 4) = w4 at j0 j1 j2 HB4 ⊢
      clear k0 k1 k2
      go_wp2_with fail
      refine (HM.out _ HB4.out).mono ?_
      rintro e w5 ⟨rfl, hb5⟩
      have HB5 := Lib.hid (bt hb5 HB4.out)
      clear hb5
      go_wp2_with fail
      refine (anyOf3 _ _ _ _).mono ?_
      rintro e w6 ⟨rfl, rfl⟩
      go_wp2
      go_ret
      exact ⟨rfl, HB5.out.alloc HB5.out.size _⟩
    | false =>
      go_enter Try.func19, Try.ntmps19
      go_wp2_with fail
      refine (isRoot_any _ _ _ _ _ _).mono ?_
      rintro e w3 ⟨rfl, hb3⟩
      rw [hu']
      have k0 : w3.cell? ⟨w.heap.size, 0, none⟩ = some (.int .i64 x) := bc hb3 (by simp)
      have HB3 := Lib.hid (bt hb3 HB.out)
      clear hb3
      go_wp2_with fail
      refine (anyOf2 _ _ _).mono ?_
      rintro e w4 ⟨rfl, rfl⟩
      rw [HQ.out]
      go_wp2
      go_ret
      exact ⟨rfl, HB3.out.alloc HB3.out.size _⟩
  · have hx' : (x == u) = false := by simpa using hx
    rw [hu', hx']
    clear hx
    go_enter Try.func19, Try.ntmps19
    go_wp2_with fail
    refine (isRoot_any _ _ _ _ _ _).mono ?_
    rintro e w3 ⟨rfl, hb3⟩
    rw [hu']
    have k0 : w3.cell? ⟨w.heap.size, 0, none⟩ = some (.int .i64 u) := bc hb3 (by simp)
    have HB3 := Lib.hid (bt hb3 HB.out)
    clear hb3
    go_wp2
    go_ret
    exact ⟨rfl, HB3.out⟩
/-- What the closure works on: the mode that is left, in a cell that was made since. -/
def Drp (w0 : World) (b : Nat) (y : Int) (w : World) : Prop := Below w0.heap.size w0 w ∧ w0.heap.size ≤ b ∧ w.cell? ⟨b, 0, none⟩ = some (.int .i64 y) ∧ w.frozen? ⟨b, 0, none⟩ = false
theorem Drp.below {w0 : World} {b : Nat} {y : Int} {w w' : World} (h : Drp w0 b y w) (hb : Below w.heap.size w w') : Drp w0 b y w' :=
  ⟨bt hb h.1, h.2.1, bc hb h.2.2.1, (hb.frozen (World.block_lt_of_cell? _ _ h.2.2.1)).trans h.2.2.2⟩
theorem Drp.drew {w0 : World} {b : Nat} {y : Int} {w : World} (h : Drp w0 b y w) : Drp w0 b y w.drew := ⟨h.1.drew, h.2.1, h.2.2.1, h.2.2.2⟩
theorem Drp.store {w0 : World} {b : Nat} {y : Int} {w : World} (h : Drp w0 b y w) (y' : Int) : Drp w0 b y' (w.setCell ⟨b, 0, none⟩ (.int .i64 y')) :=
  ⟨h.1.setCell h.2.1 _, h.2.1, World.cell?_setCell_same _ _ _ h.2.2.1, by rw [World.frozen?_setCell]; exact h.2.2.2⟩

theorem cd_drop_any (k : Int) (t : Bool) (w0 : World) (b : Nat) (y : Int) (w : World) (h : Drp w0 b y w) :
    Calls Try.prog 51 #[.int .i64 k, .bool t, .pointer (some ⟨b, 0, none⟩)] w fun e w' => e = .returned (.int .i64 (dropM t y k)) ∧ Drp w0 b (dropM t y k) w' ∧ ∀ (a : Addr) (v : Value), a.block ≠ b → w.cell? a = some v → w'.cell? a = some v := by
  have HD := Lib.hid h
  obtain ⟨-, -, h3, h4⟩ := h
  cases t with
  | false =>
    go_enter Try.func51, Try.ntmps51
    go_wp2
    go_ret
    exact ⟨rfl, HD.out, fun _ _ _ h => h⟩
  | true =>
    go_enter Try.func51, Try.ntmps51
    have j3 := World.cell?_setCell_same w ⟨b, 0, none⟩ (.int .i64 (bits .andNot .i64 y k)) h3
    go_wp2
    go_ret
    exact ⟨rfl, HD.out.store _, fun a v hne h => by rw [World.cell?_setCell_other _ _ _ _ (by intro e; subst e; exact hne rfl)]; exact h⟩
theorem dropper_any (m : Int) (w : World) :
    Calls Try.prog 37 #[.int .i64 m] w fun e w' => e = .returned (.func (.func 51) #[] #[.pointer (some ⟨w.heap.size, 0, none⟩)]) ∧ Drp w w.heap.size (m % 4096) w' := by
  have hmf : ∀ (fn : Fn) (first cap : Array Value) (w : World), (Instr.makeFunc fn first cap).run Try.prog w = .ok (.func fn first cap) w := fun _ _ _ _ => rfl
  go_enter Try.func37, Try.ntmps37
  go_wp2
  go_ret
  rw [and4095]
  exact ⟨rfl, ba _ _, Nat.le_refl _, by simp, by simp⟩
set_option maxHeartbeats 2000000 in
theorem mode_any (u g : Int) (A : Option Addr) (n c : Nat) (gs : List Int) (kind y m : Int) (w : World) (h : IntsR w (.slice A n c) gs) (hn : gs.length ≤ 1000000) :
    Calls Try.prog 26 #[.agg #[.int .i64 u, .int .i64 g, .slice A n c], .int .i64 kind, .int .i64 y, .int .i64 m] w fun e w' => e = .returned (.int .i64 (modeM u g gs kind y m)) ∧ Below w.heap.size w w' := by
  have HM := Lib.hid (fun w' hb => member_any u g A n c gs y w' (h.below hb) hn)
  clear h
  unfold modeM
  obtain ⟨R, hR⟩ : ∃ R, (y == g || gs.contains y) = R := ⟨_, rfl⟩
  rw [hR] at HM ⊢
  clear hR
  have HB := Lib.hid (ba w (.cells #[.int .i64 u, .int .i64 g, .slice A n c] 25))
  go_enter Try.func26, Try.ntmps26
  go_wp2_with fail
  refine (dropper_any _ _).mono ?_
  rintro e w2 ⟨rfl, hd2⟩
  have k0 : w2.cell? ⟨w.heap.size, 0, none⟩ = some (.int .i64 u) := bc hd2.1 (by simp)
  have k1 : w2.cell? ⟨w.heap.size, 1, none⟩ = some (.int .i64 g) := bc hd2.1 (by simp)
  have k2 : w2.cell? ⟨w.heap.size, 2, none⟩ = some (.slice A n c) := bc hd2.1 (by simp)
  have hd : Drp w (w.heap.size + 1) (m % 4096) w2 := ⟨bt hd2.1 HB.out, by omega, by simpa using hd2.2.2.1, by simpa using hd2.2.2.2⟩
  clear hd2
  go_wp2_with fail
  have hs0 : w2.drew.cell? ⟨w.heap.size, 0, none⟩ = some (.int .i64 u) := k0
  have hs1 : w2.drew.cell? ⟨w.heap.size, 1, none⟩ = some (.int .i64 g) := k1
  have hs2 : w2.drew.cell? ⟨w.heap.size, 2, none⟩ = some (.slice A n c) := k2
  have hs3 := hd.drew
  clear k0 k1 k2 hd
  go_region_held3 (fun w' => w'.cell? ⟨w.heap.size, 0, none⟩ = some (.int .i64 u) ∧ w'.cell? ⟨w.heap.size, 1, none⟩ = some (.int .i64 g) ∧ w'.cell? ⟨w.heap.size, 2, none⟩ = some (.slice A n c) ∧ ∃ y, Drp w (w.heap.size + 1) y w')
    (first | exact ⟨hs0, hs1, hs2, _, hs3⟩ | exact ⟨bc hb4 hs0, bc hb4 hs1, bc hb4 hs2, _, hs3.below hb4⟩ | exact ⟨bc hb5 (bc hb4 hs0), bc hb5 (bc hb4 hs1), bc hb5 (bc hb4 hs2), _, (hs3.below hb4).below hb5⟩ | exact ⟨bc (ba _ _) (bc hb5 (bc hb4 hs0)), bc (ba _ _) (bc hb5 (bc hb4 hs1)), bc (ba _ _) (bc hb5 (bc hb4 hs2)), _, ((hs3.below hb4).below hb5).below (ba _ _)⟩ | exact ⟨hk7 _ _ (by simp) (bc (ba _ _) (bc hb5 (bc hb4 hs0))), hk7 _ _ (by simp) (bc (ba _ _) (bc hb5 (bc hb4 hs1))), hk7 _ _ (by simp) (bc (ba _ _) (bc hb5 (bc hb4 hs2))), _, hd7⟩)
    (first | (go_at_call 34; refine (isRoot_any _ _ _ _ _ _).mono ?_; rintro e w4 ⟨rfl, hb4⟩) | (go_at_call 36; refine (HM.out _ (hs3.below hb4).1).mono ?_; rintro e w5 ⟨rfl, hb5⟩) | (go_at_call 35; refine (anyOf3 _ _ _ _).mono ?_; rintro e w6 ⟨rfl, rfl⟩) | (go_at_call 51; refine (cd_drop_any _ _ w _ _ _ (((hs3.below hb4).below hb5).below (ba _ _))).mono ?_; rintro e w7 ⟨rfl, hd7, hk7⟩))
  all_goals
    go_wp2
    go_ret
    exact ⟨rfl, hd7.1⟩

set_option maxHeartbeats 2000000 in
theorem written_any (u g : Int) (A : Option Addr) (n c : Nat) (kind m : Int) (w : World) :
    Calls Try.prog 21 #[.agg #[.int .i64 u, .int .i64 g, .slice A n c], .int .i64 kind, .int .i64 m] w fun e w' => e = .returned (.int .i64 (writM u kind m)) ∧ Below w.heap.size w w' := by
  unfold writM
  obtain ⟨L, hL⟩ : ∃ L, (!(u == 0) && !(kind != 1)) = L := ⟨_, rfl⟩
  rw [hL]
  have HL := Lib.hid hL
  clear hL
  have HB := Lib.hid (ba w (.cells #[.int .i64 u, .int .i64 g, .slice A n c] 25))
  go_enter Try.func21, Try.ntmps21
  go_wp2_with fail
  refine (dropper_any _ _).mono ?_
  rintro e w2 ⟨rfl, hd2⟩
  have k0 : w2.cell? ⟨w.heap.size, 0, none⟩ = some (.int .i64 u) := bc hd2.1 (by simp)
  have k1 : w2.cell? ⟨w.heap.size, 1, none⟩ = some (.int .i64 g) := bc hd2.1 (by simp)
  have k2 : w2.cell? ⟨w.heap.size, 2, none⟩ = some (.slice A n c) := bc hd2.1 (by simp)
  have HD := Lib.hid (show Drp w (w.heap.size + 1) (m % 4096) w2 from ⟨bt hd2.1 HB.out, by omega, by simpa using hd2.2.2.1, by simpa using hd2.2.2.2⟩)
  clear hd2
  go_wp2_with fail
  refine (isRoot_any _ _ _ _ _ _).mono ?_
  rintro e w4 ⟨rfl, hb4⟩
  have HD4 := Lib.hid (HD.out.below hb4)
  clear hb4 k0 k1 k2
  go_wp2_with fail
  refine (anyOf2 _ _ _).mono ?_
  rintro e w5 ⟨rfl, rfl⟩
  have HD5 := Lib.hid (HD4.out.below (ba w4 (.cells #[.bool (u == 0), .bool (kind != 1)] 4)))
  generalize w4.alloc (.cells #[.bool (u == 0), .bool (kind != 1)] 4) = w5 at HD5 ⊢
  go_wp2_with fail
  refine (class_any _ _ _).mono ?_
  rintro e w6 ⟨rfl, rfl⟩
  rw [HL.out]
  cases L with
  | true =>
    go_wp2_with fail
    refine (cd_drop_any _ _ w _ _ _ HD5.out).mono ?_
    rintro e w7 ⟨rfl, hd7, -⟩
    have HD7 := Lib.hid hd7
    clear hd7
    go_wp2_with fail
    refine (cd_drop_any _ _ w _ _ _ HD7.out).mono ?_
    rintro e w8 ⟨rfl, hd8, -⟩
    go_wp2
    go_ret
    exact ⟨rfl, hd8.1⟩
  | false =>
    go_wp2_with fail
    refine (cd_drop_any _ _ w _ _ _ HD5.out).mono ?_
    rintro e w7 ⟨rfl, hd7, -⟩
    have HD7 := Lib.hid hd7
    clear hd7
    go_wp2_with fail
    refine (cd_drop_any _ _ w _ _ _ HD7.out).mono ?_
    rintro e w8 ⟨rfl, hd8, -⟩
    go_wp2
    go_ret
    exact ⟨rfl, hd8.1⟩
end Go.Proofs.Ytinalglbibmmpaa
