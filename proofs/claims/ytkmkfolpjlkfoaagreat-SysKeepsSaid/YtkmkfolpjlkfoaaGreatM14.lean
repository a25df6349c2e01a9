/-
  What MayMode, MayOwn, Mode, Written and Sticky of package cred answer, and the reference's. The condition: no more groups than a million. Changes of a node, one behind the other, and root's, as plain mathematics. No condition. What becomes of a node whose mode, owner or group is changed. No condition. What package attr's closures do to a node. The conditions are said at each. What package attr's closure that changes an owner does to a node. The conditions are said at each. Package attr's change: what becomes of the node to which a path leads. The conditions are said at each. Package attr's Chmod and Chown. The conditions are said at each.
-/
import Derived.Test.YtkmkfolpjlkfoaaGreatM1
import Derived.Test.YtkmkfolpjlkfoaaGreatM5
import Derived.Test.YtkmkfolpjlkfoaaGreatM6
import Derived.Test.YtkmkfolpjlkfoaaGreatM10
import Derived.Test.YtkmkfolpjlkfoaaGreatM11
import Derived.Deep.RegionHeld3
import Derived.Deep.RegionWith
import Derived.BigRegion
import Derived.Deep.RegionLaw
namespace Go.Proofs.YtkmkfolpjlkfoaaGreat
open Go Go.RowKit

theorem mayMode_any (u g : Int) (A : Option Addr) (n c : Nat) (x : Int) (w : World) :
    Calls Tryz.prog 152 #[.agg #[.int .i64 u, .int .i64 g, .slice A n c], .int .i64 x] w fun e w' => e = .returned (.bool (u == 0 || x == u)) ∧ Below w.heap.size w w' := by
  go_enter Tryz.func152, Tryz.ntmps152
  go_wp2_with fail
  have k0 : (w.alloc (.cells #[.int .i64 u, .int .i64 g, .slice A n c] 35)).cell? ⟨w.heap.size, 0, none⟩ = some (.int .i64 u) := by simp
  have k1 : (w.alloc (.cells #[.int .i64 u, .int .i64 g, .slice A n c] 35)).cell? ⟨w.heap.size, 1, none⟩ = some (.int .i64 g) := by simp
  have k2 : (w.alloc (.cells #[.int .i64 u, .int .i64 g, .slice A n c] 35)).cell? ⟨w.heap.size, 2, none⟩ = some (.slice A n c) := by simp
  have hb : Below w.heap.size w (w.alloc (.cells #[.int .i64 u, .int .i64 g, .slice A n c] 35)) := ba _ _
  generalize w.alloc (.cells #[.int .i64 u, .int .i64 g, .slice A n c] 35) = W1 at k0 k1 k2 hb ⊢
  have hs0 : W1.drew.cell? ⟨w.heap.size, 0, none⟩ = some (.int .i64 u) := k0
  have hs1 : W1.drew.cell? ⟨w.heap.size, 1, none⟩ = some (.int .i64 g) := k1
  have hs2 : W1.drew.cell? ⟨w.heap.size, 2, none⟩ = some (.slice A n c) := k2
  have hs3 := hb.drew
  go_region_held3 (fun w' => w'.cell? ⟨w.heap.size, 0, none⟩ = some (.int .i64 u) ∧ w'.cell? ⟨w.heap.size, 1, none⟩ = some (.int .i64 g) ∧ w'.cell? ⟨w.heap.size, 2, none⟩ = some (.slice A n c) ∧ Below w.heap.size w w')
    (first | exact ⟨hs0, hs1, hs2, hs3⟩ | exact ⟨bc hb4 hs0, bc hb4 hs1, bc hb4 hs2, bt hb4 hs3⟩ | exact ⟨bc (ba _ _) (bc hb4 hs0), bc (ba _ _) (bc hb4 hs1), bc (ba _ _) (bc hb4 hs2), bt (ba _ _) (bt hb4 hs3)⟩)
    (first | (go_at_call 212; refine (isRoot_any _ _ _ _ _ _).mono ?_; rintro e w4 ⟨rfl, hb4⟩) | (go_at_call 211; refine (anyOf2 _ _ _).mono ?_; rintro e w5 ⟨rfl, rfl⟩))
  all_goals
    go_wp2
    go_ret
    exact ⟨rfl, bt (ba _ _) (bt hb4 hs3)⟩

theorem sticky_any (u g : Int) (A : Option Addr) (n c : Nat) (m d x : Int) (w : World) :
    Calls Tryz.prog 248 #[.agg #[.int .i64 u, .int .i64 g, .slice A n c], .int .i64 m, .int .i64 d, .int .i64 x] w fun e w' => e = .returned (.bool (u == 0 || bits .and .i64 m 512 == 0 || d == u || x == u)) ∧ Below w.heap.size w w' := by
  go_enter Tryz.func248, Tryz.ntmps248
  go_wp2_with fail
  have k0 : (w.alloc (.cells #[.int .i64 u, .int .i64 g, .slice A n c] 35)).cell? ⟨w.heap.size, 0, none⟩ = some (.int .i64 u) := by simp
  have k1 : (w.alloc (.cells #[.int .i64 u, .int .i64 g, .slice A n c] 35)).cell? ⟨w.heap.size, 1, none⟩ = some (.int .i64 g) := by simp
  have k2 : (w.alloc (.cells #[.int .i64 u, .int .i64 g, .slice A n c] 35)).cell? ⟨w.heap.size, 2, none⟩ = some (.slice A n c) := by simp
  have hb : Below w.heap.size w (w.alloc (.cells #[.int .i64 u, .int .i64 g, .slice A n c] 35)) := ba _ _
  generalize w.alloc (.cells #[.int .i64 u, .int .i64 g, .slice A n c] 35) = W1 at k0 k1 k2 hb ⊢
  have hs0 : W1.drew.cell? ⟨w.heap.size, 0, none⟩ = some (.int .i64 u) := k0
  have hs1 : W1.drew.cell? ⟨w.heap.size, 1, none⟩ = some (.int .i64 g) := k1
  have hs2 : W1.drew.cell? ⟨w.heap.size, 2, none⟩ = some (.slice A n c) := k2
  have hs3 := hb.drew
  go_region_held3 (fun w' => w'.cell? ⟨w.heap.size, 0, none⟩ = some (.int .i64 u) ∧ w'.cell? ⟨w.heap.size, 1, none⟩ = some (.int .i64 g) ∧ w'.cell? ⟨w.heap.size, 2, none⟩ = some (.slice A n c) ∧ Below w.heap.size w w')
    (first | exact ⟨hs0, hs1, hs2, hs3⟩ | exact ⟨bc hb4 hs0, bc hb4 hs1, bc hb4 hs2, bt hb4 hs3⟩ | exact ⟨bc (ba _ _) (bc hb4 hs0), bc (ba _ _) (bc hb4 hs1), bc (ba _ _) (bc hb4 hs2), bt (ba _ _) (bt hb4 hs3)⟩)
    (first | (go_at_call 212; refine (isRoot_any _ _ _ _ _ _).mono ?_; rintro e w4 ⟨rfl, hb4⟩) | (go_at_call 211; refine (anyOf4 _ _ _ _ _).mono ?_; rintro e w5 ⟨rfl, rfl⟩))
  all_goals
    go_wp2
    go_ret
    exact ⟨rfl, bt (ba _ _) (bt hb4 hs3)⟩

theorem mayOwn_any (u g : Int) (A : Option Addr) (n c : Nat) (gs : List Int) (x y tu tg : Int) (w : World) (h : IntsR w (.slice A n c) gs) (hn : gs.length ≤ 1000000) :
    Calls Tryz.prog 155 #[.agg #[.int .i64 u, .int .i64 g, .slice A n c], .int .i64 x, .int .i64 y, .int .i64 tu, .int .i64 tg] w fun e w' => e = .returned (.bool (mayOwn u g gs x y tu tg)) ∧ Below w.heap.size w w' := by
  have HM := Lib.hid (fun w' hb => member_any u g A n c gs tg w' (h.below hb) hn)
  clear h
  unfold mayOwn
  obtain ⟨R, hR⟩ : ∃ R, (tg == g || gs.contains tg) = R := ⟨_, rfl⟩
  rw [hR] at HM ⊢
  clear hR
  have HB := Lib.hid (ba w (.cells #[.int .i64 u, .int .i64 g, .slice A n c] 35))
  by_cases hu : u = 0
  · subst hu
    go_enter Tryz.func155, Tryz.ntmps155
    go_wp2_with fail
    refine (isRoot_any _ _ _ _ _ _).mono ?_
    rintro e w3 ⟨rfl, hb3⟩
    have HB3 := Lib.hid (bt hb3 HB.out)
    clear hb3
    go_wp2
    go_ret
    exact ⟨rfl, HB3.out⟩
  have hu' : (u == 0) = false := by simpa using hu
  by_cases hx : x = u
  · subst hx
    have hx' : (x == x) = true := by simp
    rw [hu', hx']
    obtain ⟨Q, hQ⟩ : ∃ Q, (tu == x || decide (tu < 0)) = Q := ⟨_, rfl⟩
    rw [hQ]
    have HQ := Lib.hid hQ
    clear hQ
    cases Q with
    | true =>
      go_enter Tryz.func155, Tryz.ntmps155
      go_wp2_with fail
      refine (isRoot_any _ _ _ _ _ _).mono ?_
      rintro e w3 ⟨rfl, hb3⟩
      rw [hu']
      have k0 : w3.cell? ⟨w.heap.size, 0, none⟩ = some (.int .i64 x) := bc hb3 (by simp)
      have k1 : w3.cell? ⟨w.heap.size, 1, none⟩ = some (.int .i64 g) := bc hb3 (by simp)
      have k2 : w3.cell? ⟨w.heap.size, 2, none⟩ = some (.slice A n c) := bc hb3 (by simp)
      have HB3 := Lib.hid (bt hb3 HB.out)
      clear hb3
      go_wp2_with fail
      refine (anyOf2 _ _ _).mono ?_
      rintro e w4 ⟨rfl, rfl⟩
      rw [HQ.out]
      have HB4 := Lib.hid (HB3.out.alloc HB3.out.size (.cells #[.bool (tu == x), .bool (decide (tu < 0))] 4))
      have j0 := bc (ba w3 (.cells #[.bool (tu == x), .bool (decide (tu < 0))] 4)) k0
      have j1 := bc (ba w3 (.cells #[.bool (tu == x), .bool (decide (tu < 0))] 4)) k1
      have j2 := bc (ba w3 (.cells #[.bool (tu == x), .bool (decide (tu < 0))] 4)) k2
      generalize w3.alloc (.cells #[.bool (tu == x), .bool (decide (tu < 0))] 4) = w4 at j0 j1 j2 HB4 ⊢
      clear k0 k1 k2
      go_wp2_with fail
      refine (HM.out _ HB4.out).mono ?_
      rintro e w5 ⟨rfl, hb5⟩
      have HB5 := Lib.hid (bt hb5 HB4.out)
      clear hb5
      go_wp2_with fail
      refine (anyOf3 _ _ _ _).mono ?_
      rintro e w6 ⟨rfl, rfl⟩
      go_wp2
      go_ret
      exact ⟨rfl, HB5.out.alloc HB5.out.size _⟩
    | false =>
      go_enter Tryz.func155, Tryz.ntmps155
      go_wp2_with fail
      refine (isRoot_any _ _ _ _ _ _).mono ?_
      rintro e w3 ⟨rfl, hb3⟩
      rw [hu']
      have k0 : w3.cell? ⟨w.heap.size, 0, none⟩ = some (.int .i64 x) := bc hb3 (by simp)
      have HB3 := Lib.hid (bt hb3 HB.out)
      clear hb3
      go_wp2_with fail
      refine (anyOf2 _ _ _).mono ?_
      rintro e w4 ⟨rfl, rfl⟩
      rw [HQ.out]
      go_wp2
      go_ret
      exact ⟨rfl, HB3.out.alloc HB3.out.size _⟩
  · have hx' : (x == u) = false := by simpa using hx
    rw [hu', hx']
    clear hx
    go_enter Tryz.func155, Tryz.ntmps155
    go_wp2_with fail
    refine (isRoot_any _ _ _ _ _ _).mono ?_
    rintro e w3 ⟨rfl, hb3⟩
    rw [hu']
    have k0 : w3.cell? ⟨w.heap.size, 0, none⟩ = some (.int .i64 u) := bc hb3 (by simp)
    have HB3 := Lib.hid (bt hb3 HB.out)
    clear hb3
    go_wp2
    go_ret
    exact ⟨rfl, HB3.out⟩
def Drp (w0 : World) (b : Nat) (y : Int) (w : World) : Prop := Below w0.heap.size w0 w ∧ w0.heap.size ≤ b ∧ w.cell? ⟨b, 0, none⟩ = some (.int .i64 y) ∧ w.frozen? ⟨b, 0, none⟩ = false
theorem Drp.below {w0 : World} {b : Nat} {y : Int} {w w' : World} (h : Drp w0 b y w) (hb : Below w.heap.size w w') : Drp w0 b y w' :=
  ⟨bt hb h.1, h.2.1, bc hb h.2.2.1, (hb.frozen (World.block_lt_of_cell? _ _ h.2.2.1)).trans h.2.2.2⟩
theorem Drp.drew {w0 : World} {b : Nat} {y : Int} {w : World} (h : Drp w0 b y w) : Drp w0 b y w.drew := ⟨h.1.drew, h.2.1, h.2.2.1, h.2.2.2⟩
theorem Drp.store {w0 : World} {b : Nat} {y : Int} {w : World} (h : Drp w0 b y w) (y' : Int) : Drp w0 b y' (w.setCell ⟨b, 0, none⟩ (.int .i64 y')) :=
  ⟨h.1.setCell h.2.1 _, h.2.1, World.cell?_setCell_same _ _ _ h.2.2.1, by rw [World.frozen?_setCell]; exact h.2.2.2⟩

theorem cd_drop_any (k : Int) (t : Bool) (w0 : World) (b : Nat) (y : Int) (w : World) (h : Drp w0 b y w) :
    Calls Tryz.prog 245 #[.int .i64 k, .bool t, .pointer (some ⟨b, 0, none⟩)] w fun e w' => e = .returned (.int .i64 (dropM t y k)) ∧ Drp w0 b (dropM t y k) w' ∧ ∀ (a : Addr) (v : Value), a.block ≠ b → w.cell? a = some v → w'.cell? a = some v := by
  have HD := Lib.hid h
  obtain ⟨-, -, h3, h4⟩ := h
  cases t with
  | false =>
    go_enter Tryz.func245, Tryz.ntmps245
    go_wp2
    go_ret
    exact ⟨rfl, HD.out, fun _ _ _ h => h⟩
  | true =>
    go_enter Tryz.func245, Tryz.ntmps245
    have j3 := World.cell?_setCell_same w ⟨b, 0, none⟩ (.int .i64 (bits .andNot .i64 y k)) h3
    go_wp2
    go_ret
    exact ⟨rfl, HD.out.store _, fun a v hne h => by rw [World.cell?_setCell_other _ _ _ _ (by intro e; subst e; exact hne rfl)]; exact h⟩
theorem dropper_any (m : Int) (w : World) :
    Calls Tryz.prog 213 #[.int .i64 m] w fun e w' => e = .returned (.func (.func 245) #[] #[.pointer (some ⟨w.heap.size, 0, none⟩)]) ∧ Drp w w.heap.size (m % 4096) w' := by
  have hmf : ∀ (fn : Fn) (first cap : Array Value) (w : World), (Instr.makeFunc fn first cap).run Tryz.prog w = .ok (.func fn first cap) w := fun _ _ _ _ => rfl
  go_enter Tryz.func213, Tryz.ntmps213
  go_wp2
  go_ret
  rw [and4095]
  exact ⟨rfl, ba _ _, Nat.le_refl _, by simp, by simp⟩
set_option maxHeartbeats 2000000 in
theorem mode_any (u g : Int) (A : Option Addr) (n c : Nat) (gs : List Int) (kind y m : Int) (w : World) (h : IntsR w (.slice A n c) gs) (hn : gs.length ≤ 1000000) :
    Calls Tryz.prog 153 #[.agg #[.int .i64 u, .int .i64 g, .slice A n c], .int .i64 kind, .int .i64 y, .int .i64 m] w fun e w' => e = .returned (.int .i64 (modeM u g gs kind y m)) ∧ Below w.heap.size w w' := by
  have HM := Lib.hid (fun w' hb => member_any u g A n c gs y w' (h.below hb) hn)
  clear h
  unfold modeM
  obtain ⟨R, hR⟩ : ∃ R, (y == g || gs.contains y) = R := ⟨_, rfl⟩
  rw [hR] at HM ⊢
  clear hR
  have HB := Lib.hid (ba w (.cells #[.int .i64 u, .int .i64 g, .slice A n c] 35))
  go_enter Tryz.func153, Tryz.ntmps153
  go_wp2_with fail
  refine (dropper_any _ _).mono ?_
  rintro e w2 ⟨rfl, hd2⟩
  have k0 : w2.cell? ⟨w.heap.size, 0, none⟩ = some (.int .i64 u) := bc hd2.1 (by simp)
  have k1 : w2.cell? ⟨w.heap.size, 1, none⟩ = some (.int .i64 g) := bc hd2.1 (by simp)
  have k2 : w2.cell? ⟨w.heap.size, 2, none⟩ = some (.slice A n c) := bc hd2.1 (by simp)
  have hd : Drp w (w.heap.size + 1) (m % 4096) w2 := ⟨bt hd2.1 HB.out, by omega, by simpa using hd2.2.2.1, by simpa using hd2.2.2.2⟩
  clear hd2
  go_wp2_with fail
  have hs0 : w2.drew.cell? ⟨w.heap.size, 0, none⟩ = some (.int .i64 u) := k0
  have hs1 : w2.drew.cell? ⟨w.heap.size, 1, none⟩ = some (.int .i64 g) := k1
  have hs2 : w2.drew.cell? ⟨w.heap.size, 2, none⟩ = some (.slice A n c) := k2
  have hs3 := hd.drew
  clear k0 k1 k2 hd
  go_region_held3 (fun w' => w'.cell? ⟨w.heap.size, 0, none⟩ = some (.int .i64 u) ∧ w'.cell? ⟨w.heap.size, 1, none⟩ = some (.int .i64 g) ∧ w'.cell? ⟨w.heap.size, 2, none⟩ = some (.slice A n c) ∧ ∃ y, Drp w (w.heap.size + 1) y w')
    (first | exact ⟨hs0, hs1, hs2, _, hs3⟩ | exact ⟨bc hb4 hs0, bc hb4 hs1, bc hb4 hs2, _, hs3.below hb4⟩ | exact ⟨bc hb5 (bc hb4 hs0), bc hb5 (bc hb4 hs1), bc hb5 (bc hb4 hs2), _, (hs3.below hb4).below hb5⟩ | exact ⟨bc (ba _ _) (bc hb5 (bc hb4 hs0)), bc (ba _ _) (bc hb5 (bc hb4 hs1)), bc (ba _ _) (bc hb5 (bc hb4 hs2)), _, ((hs3.below hb4).below hb5).below (ba _ _)⟩ | exact ⟨hk7 _ _ (by simp) (bc (ba _ _) (bc hb5 (bc hb4 hs0))), hk7 _ _ (by simp) (bc (ba _ _) (bc hb5 (bc hb4 hs1))), hk7 _ _ (by simp) (bc (ba _ _) (bc hb5 (bc hb4 hs2))), _, hd7⟩)
    (first | (go_at_call 212; refine (isRoot_any _ _ _ _ _ _).mono ?_; rintro e w4 ⟨rfl, hb4⟩) | (go_at_call 214; refine (HM.out _ (hs3.below hb4).1).mono ?_; rintro e w5 ⟨rfl, hb5⟩) | (go_at_call 211; refine (anyOf3 _ _ _ _).mono ?_; rintro e w6 ⟨rfl, rfl⟩) | (go_at_call 245; refine (cd_drop_any _ _ w _ _ _ (((hs3.below hb4).below hb5).below (ba _ _))).mono ?_; rintro e w7 ⟨rfl, hd7, hk7⟩))
  all_goals
    go_wp2
    go_ret
    exact ⟨rfl, hd7.1⟩

set_option maxHeartbeats 2000000 in
theorem written_any (u g : Int) (A : Option Addr) (n c : Nat) (kind m : Int) (w : World) :
    Calls Tryz.prog 157 #[.agg #[.int .i64 u, .int .i64 g, .slice A n c], .int .i64 kind, .int .i64 m] w fun e w' => e = .returned (.int .i64 (writM u kind m)) ∧ Below w.heap.size w w' := by
  unfold writM
  obtain ⟨L, hL⟩ : ∃ L, (!(u == 0) && !(kind != 1)) = L := ⟨_, rfl⟩
  rw [hL]
  have HL := Lib.hid hL
  clear hL
  have HB := Lib.hid (ba w (.cells #[.int .i64 u, .int .i64 g, .slice A n c] 35))
  go_enter Tryz.func157, Tryz.ntmps157
  go_wp2_with fail
  refine (dropper_any _ _).mono ?_
  rintro e w2 ⟨rfl, hd2⟩
  have k0 : w2.cell? ⟨w.heap.size, 0, none⟩ = some (.int .i64 u) := bc hd2.1 (by simp)
  have k1 : w2.cell? ⟨w.heap.size, 1, none⟩ = some (.int .i64 g) := bc hd2.1 (by simp)
  have k2 : w2.cell? ⟨w.heap.size, 2, none⟩ = some (.slice A n c) := bc hd2.1 (by simp)
  have HD := Lib.hid (show Drp w (w.heap.size + 1) (m % 4096) w2 from ⟨bt hd2.1 HB.out, by omega, by simpa using hd2.2.2.1, by simpa using hd2.2.2.2⟩)
  clear hd2
  go_wp2_with fail
  refine (isRoot_any _ _ _ _ _ _).mono ?_
  rintro e w4 ⟨rfl, hb4⟩
  have HD4 := Lib.hid (HD.out.below hb4)
  clear hb4 k0 k1 k2
  go_wp2_with fail
  refine (anyOf2 _ _ _).mono ?_
  rintro e w5 ⟨rfl, rfl⟩
  have HD5 := Lib.hid (HD4.out.below (ba w4 (.cells #[.bool (u == 0), .bool (kind != 1)] 4)))
  generalize w4.alloc (.cells #[.bool (u == 0), .bool (kind != 1)] 4) = w5 at HD5 ⊢
  go_wp2_with fail
  refine (class_any _ _ _).mono ?_
  rintro e w6 ⟨rfl, rfl⟩
  rw [HL.out]
  cases L with
  | true =>
    go_wp2_with fail
    refine (cd_drop_any _ _ w _ _ _ HD5.out).mono ?_
    rintro e w7 ⟨rfl, hd7, -⟩
    have HD7 := Lib.hid hd7
    clear hd7
    go_wp2_with fail
    refine (cd_drop_any _ _ w _ _ _ HD7.out).mono ?_
    rintro e w8 ⟨rfl, hd8, -⟩
    go_wp2
    go_ret
    exact ⟨rfl, hd8.1⟩
  | false =>
    go_wp2_with fail
    refine (cd_drop_any _ _ w _ _ _ HD5.out).mono ?_
    rintro e w7 ⟨rfl, hd7, -⟩
    have HD7 := Lib.hid hd7
    clear hd7
    go_wp2_with fail
    refine (cd_drop_any _ _ w _ _ _ HD7.out).mono ?_
    rintro e w8 ⟨rfl, hd8, -⟩
    go_wp2
    go_ret
    exact ⟨rfl, hd8.1⟩
end Go.Proofs.YtkmkfolpjlkfoaaGreat
namespace Go.Proofs.YtkmkfolpjlkfoaaGreat
open Go Go.RowKit
set_option maxRecDepth 100000

theorem chmE_in {t : List Nd} {c : Wh} {p : Nm} {m : Int} (h0 : 0 ≤ m) (h1 : m ≤ 4095) : chmE t c p m = chmF t c (staM t c p true) := if_neg (by omega)
theorem chwE_in {t : List Nd} {c : Wh} {p : Nm} {u g : Int} {f : Bool} (h0 : u ≤ 65535) (h1 : g ≤ 65535) : chwE t c p u g f = chwF t c (staM t c p f) u g := if_neg (by omega)
theorem set_same {t : List Nd} {i : Int} (hi : 1 ≤ i ∧ i ≤ t.length) : setT t i (tget t i) = t := by
  unfold setT tget
  rw [if_pos hi]
  refine List.ext_getElem? (fun k => ?_)
  rw [List.getElem?_set]
  split
  · rename_i q
    subst q
    rw [if_pos (by omega), List.getD_eq_getElem?_getD, List.getElem?_eq_getElem (by omega)]
    rfl
  · rfl
end Go.Proofs.YtkmkfolpjlkfoaaGreat
namespace Go.Proofs.YtkmkfolpjlkfoaaGreat
open Go Go.RowKit
set_option maxRecDepth 100000

def chgF (t : List Nd) (R : Sta × Int) (E : Nd → Int) : Int := if R.2 ≠ 0 then R.2 else E (tget t R.1.node)
def chgT (t : List Nd) (R : Sta × Int) (E : Nd → Int) (N : Nd → Nd) : List Nd := if chgF t R E ≠ 0 then t else setT t R.1.node (N (tget t R.1.node))
def mayE (c : Wh) (n : Nd) : Int := if mayM c n.uid = false then 1 else 0
def ownE (c : Wh) (uid gid : Int) (n : Nd) : Int := if mayO c n uid gid = false then 1 else 0
def ownN (c : Wh) (uid gid : Int) (n : Nd) : Nd := if uid < 0 ∧ gid < 0 then n else chwN c n uid gid
theorem chg_chm {t : List Nd} {c : Wh} {p : Nm} {mode : Int} (h : 0 ≤ mode ∧ mode ≤ 4095) : chgF t (staM t c p true) (mayE c) = chmE t c p mode ∧ chgT t (staM t c p true) (mayE c) (fun n => chmN c n mode) = chmT t c p mode := by
  have e1 : chgF t (staM t c p true) (mayE c) = chmE t c p mode := by
    rw [chmE_in h.1 h.2]
    rfl
  refine ⟨e1, ?_⟩
  unfold chgT chmT
  rw [e1]
theorem chg_chw {t : List Nd} {c : Wh} {p : Nm} {uid gid : Int} {f : Bool} (h : uid ≤ 65535 ∧ gid ≤ 65535) : chgF t (staM t c p f) (ownE c uid gid) = chwE t c p uid gid f ∧ chgT t (staM t c p f) (ownE c uid gid) (ownN c uid gid) = chwT t c p uid gid f := by
  have e1 : chgF t (staM t c p f) (ownE c uid gid) = chwE t c p uid gid f := by
    rw [chwE_in h.1 h.2]
    rfl
  refine ⟨e1, ?_⟩
  unfold chgT chwT ownN
  rw [e1]
  split
  · rfl
  · rename_i q
    split
    · have hz := (chw_zero (Classical.byContradiction q : chwE t c p uid gid f = 0)).2.1
      exact set_same (sta_there hz).2
    · rfl
theorem chg_m {t : List Nd} (h : okT t) (h1 : (tget t 1).kind ≠ 3) {c : Wh} {p : Nm} {mode : Int} (hz : (staM t c p true).2 = 0) : rightP (chmN c (tget t (staM t c p true).1.node) mode) := chm_right (tis_right h (sta_there hz).1) (sta_nolinkO h h1 hz) c mode
theorem chg_w {t : List Nd} (h : okT t) {c : Wh} {p : Nm} {uid gid : Int} {f : Bool} (hu : uid ≤ 65535) (hg : gid ≤ 65535) (hz : (staM t c p f).2 = 0) : rightP (ownN c uid gid (tget t (staM t c p f).1.node)) := by
  have hr := tis_right h (sta_there hz).1
  unfold ownN
  split
  · exact hr
  · exact chw_right hr c hu hg
end Go.Proofs.YtkmkfolpjlkfoaaGreat
namespace Go.Proofs.YtkmkfolpjlkfoaaGreat
open Go Go.RowKit
set_option maxRecDepth 100000

attribute [local go_sem] cell_off4 cell_blk4
theorem told_any (x y : Int) (w : World) : Calls Tryz.prog 156 #[.int .i64 x, .int .i64 y] w fun e w' => e = .returned (.int .i64 (if x < 0 then y else x)) ∧ w = w' := by
  by_cases h : x < 0
  · rw [if_pos h]
    go_enter Tryz.func156, Tryz.ntmps156
    go_wp2
    go_ret
    exact ⟨rfl, rfl⟩
  · rw [if_neg h]
    go_enter Tryz.func156, Tryz.ntmps156
    go_wp2
    go_ret
    exact ⟨rfl, rfl⟩
theorem cell_othA {w : World} {a b : Addr} {u v : Value} (h : w.cell? b = some u) (hne : a ≠ b) : (w.setCell a v).cell? b = some u := by
  first
    | (rw [World.cell?_setCell_other _ _ _ _ (fun e => hne e)]; exact h)
    | (rw [World.cell?_setCell_other _ _ _ _ (fun e => hne e.symm)]; exact h)
theorem oth_neA {b c i j : Nat} (h : b ≠ c ∨ i ≠ j) : (⟨b, i, none⟩ : Addr) ≠ ⟨c, j, none⟩ := fun e => by
  injection e with e1 e2
  rcases h with h | h
  · exact h e1
  · exact h e2
set_option maxHeartbeats 8000000 in
theorem chmC_any (c : Wh) (A0 : Option Addr) (m k kb mb z : Nat) (mode : Int) (n : Nd) (vd ve : Value) (w : World) (hk : Blk w kb 35 #[.int .i64 c.u, .int .i64 c.g, .slice A0 m k]) (hm : w.cell? ⟨mb, 0, none⟩ = some (.int .i64 mode)) (hkz : kb ≠ z) (hmz : mb ≠ z) (hi : IntsR w (.slice A0 m k) c.gs) (hl : c.gs.length ≤ 1000000) (hz : Blk w z 82 (ndC n vd ve)) :
    Calls Tryz.prog 151 #[.pointer (some ⟨z, 0, none⟩), .pointer (some ⟨kb, 0, none⟩), .pointer (some ⟨mb, 0, none⟩)] w fun e w' => e = .returned (.int .i64 (mayE c n)) ∧ Blk w' z 82 (ndC (if mayE c n = 0 then chmN c n mode else n) vd ve) ∧ w.grownBy w' (some z) := by
  have HZ := Lib.hid hz
  have HPR := Lib.hid (fun (W : World) (hb : Below w.heap.size w W) => show W.cell? ⟨kb, 0, none⟩ = some (.int .i64 c.u) ∧ W.cell? ⟨kb, 1, none⟩ = some (.int .i64 c.g) ∧ W.cell? ⟨kb, 2, none⟩ = some (.slice A0 m k) ∧ W.cell? ⟨mb, 0, none⟩ = some (.int .i64 mode) ∧ W.cell? ⟨z, 0, none⟩ = some (.int .i64 n.kind) ∧ W.cell? ⟨z, 2, none⟩ = some (.int .i64 n.uid) ∧ W.cell? ⟨z, 3, none⟩ = some (.int .i64 n.gid) from
    ⟨(hk.below hb).cell 0, (hk.below hb).cell 1, (hk.below hb).cell 2, bc hb hm, (hz.below hb).cell 0, (hz.below hb).cell 2, (hz.below hb).cell 3⟩)
  have HPS := Lib.hid (fun (W : World) (hb : Below w.heap.size w W) (u : Value) => show (W.setCell ⟨z, 1, none⟩ u).cell? ⟨kb, 0, none⟩ = some (.int .i64 c.u) ∧ (W.setCell ⟨z, 1, none⟩ u).cell? ⟨kb, 1, none⟩ = some (.int .i64 c.g) ∧ (W.setCell ⟨z, 1, none⟩ u).cell? ⟨kb, 2, none⟩ = some (.slice A0 m k) ∧ (W.setCell ⟨z, 1, none⟩ u).cell? ⟨mb, 0, none⟩ = some (.int .i64 mode) ∧ (W.setCell ⟨z, 1, none⟩ u).cell? ⟨z, 0, none⟩ = some (.int .i64 n.kind) ∧ (W.setCell ⟨z, 1, none⟩ u).cell? ⟨z, 2, none⟩ = some (.int .i64 n.uid) ∧ (W.setCell ⟨z, 1, none⟩ u).cell? ⟨z, 3, none⟩ = some (.int .i64 n.gid) from
    ⟨cell_othA (HPR.out W hb).1 (oth_neA (.inl hkz.symm)), cell_othA (HPR.out W hb).2.1 (oth_neA (.inl hkz.symm)), cell_othA (HPR.out W hb).2.2.1 (oth_neA (.inl hkz.symm)), cell_othA (HPR.out W hb).2.2.2.1 (oth_neA (.inl hmz.symm)), cell_othA (HPR.out W hb).2.2.2.2.1 (oth_neA (.inr (by decide))), cell_othA (HPR.out W hb).2.2.2.2.2.1 (oth_neA (.inr (by decide))), cell_othA (HPR.out W hb).2.2.2.2.2.2 (oth_neA (.inr (by decide)))⟩)
  obtain ⟨q, hq⟩ : ∃ q, mayM c n.uid = q := ⟨_, rfl⟩
  have HM := Lib.hid (fun (W : World) => show Calls Tryz.prog 152 #[.agg #[.int .i64 c.u, .int .i64 c.g, .slice A0 m k], .int .i64 n.uid] W fun e w' => e = .returned (.bool q) ∧ Below W.heap.size W w' from by have h1 := mayMode_any c.u c.g A0 m k n.uid W; rw [show (c.u == 0 || n.uid == c.u) = q from hq] at h1; exact h1)
  obtain ⟨M, hM⟩ : ∃ M, modeM c.u c.g c.gs n.kind n.gid mode = M := ⟨_, rfl⟩
  have HD := Lib.hid (fun (W : World) (hb : Below w.heap.size w W) => show Calls Tryz.prog 153 #[.agg #[.int .i64 c.u, .int .i64 c.g, .slice A0 m k], .int .i64 n.kind, .int .i64 n.gid, .int .i64 mode] W fun e w' => e = .returned (.int .i64 M) ∧ Below W.heap.size W w' from by have h1 := mode_any c.u c.g A0 m k c.gs n.kind n.gid mode W (hi.below hb) hl; rw [hM] at h1; exact h1)
  have HE := Lib.hid (show mayE c n = if q = false then 1 else 0 from by unfold mayE; rw [hq])
  have HN := Lib.hid (show chmN c n mode = modN n M n.uid n.gid from by unfold chmN; rw [hM])
  obtain ⟨p0, p1, p2, p3, p4, p5, p6⟩ := HPR.out w (Below.refl _ _)
  have j0 : Below w.heap.size w w.drew := (Below.refl _ _).drew
  clear hk hm hz hi hl hq hM hkz hmz
  rw [HE.out, HN.out]
  cases q with
  | false =>
    go_enter Tryz.func151, Tryz.ntmps151
    go_upto_region 1 with fail
    go_region_held3 (fun w' => w'.cell? ⟨kb, 0, none⟩ = some (.int .i64 c.u) ∧ w'.cell? ⟨kb, 1, none⟩ = some (.int .i64 c.g) ∧ w'.cell? ⟨kb, 2, none⟩ = some (.slice A0 m k) ∧ w'.cell? ⟨mb, 0, none⟩ = some (.int .i64 mode) ∧ w'.cell? ⟨z, 0, none⟩ = some (.int .i64 n.kind) ∧ w'.cell? ⟨z, 2, none⟩ = some (.int .i64 n.uid) ∧ w'.cell? ⟨z, 3, none⟩ = some (.int .i64 n.gid))
      (first | (with_reducible exact HPR.out _ j0) | (with_reducible exact HPR.out _ j1))
      (first | (go_at_call 152; (with_reducible refine (HM.out _).mono ?_); rintro e1 w4 ⟨rfl, hb4⟩; have j1 := bt hb4 j0; clear hb4))
    all_goals (
      go_wp2
      go_ret
      exact ⟨rfl, HZ.out.below j1, grown_below j1 _⟩)
  | true =>
    go_enter Tryz.func151, Tryz.ntmps151
    go_upto_region 1 with fail
    go_region_held3 (fun w' => w'.cell? ⟨kb, 0, none⟩ = some (.int .i64 c.u) ∧ w'.cell? ⟨kb, 1, none⟩ = some (.int .i64 c.g) ∧ w'.cell? ⟨kb, 2, none⟩ = some (.slice A0 m k) ∧ w'.cell? ⟨mb, 0, none⟩ = some (.int .i64 mode) ∧ w'.cell? ⟨z, 0, none⟩ = some (.int .i64 n.kind) ∧ w'.cell? ⟨z, 2, none⟩ = some (.int .i64 n.uid) ∧ w'.cell? ⟨z, 3, none⟩ = some (.int .i64 n.gid))
      (first | (with_reducible exact HPR.out _ j0) | (with_reducible exact HPR.out _ j1))
      (first | (go_at_call 152; (with_reducible refine (HM.out _).mono ?_); rintro e1 w4 ⟨rfl, hb4⟩; have j1 := bt hb4 j0; clear hb4))
    all_goals (
      have j2 := j1.drew
      clear p0 p1 p2 p3 p4 p5 p6
      obtain ⟨p0, p1, p2, p3, p4, p5, p6⟩ := HPR.out w4 j1
      go_upto_region 3 with fail
      go_region_held3 (fun w' => w'.cell? ⟨kb, 0, none⟩ = some (.int .i64 c.u) ∧ w'.cell? ⟨kb, 1, none⟩ = some (.int .i64 c.g) ∧ w'.cell? ⟨kb, 2, none⟩ = some (.slice A0 m k) ∧ w'.cell? ⟨mb, 0, none⟩ = some (.int .i64 mode) ∧ w'.cell? ⟨z, 0, none⟩ = some (.int .i64 n.kind) ∧ w'.cell? ⟨z, 2, none⟩ = some (.int .i64 n.uid) ∧ w'.cell? ⟨z, 3, none⟩ = some (.int .i64 n.gid))
        (first | (with_reducible exact HPR.out _ j2) | (with_reducible exact HPR.out _ j3) | (with_reducible exact HPS.out _ j3 _))
        (first | (go_at_call 153; (with_reducible refine (HD.out _ j2).mono ?_); rintro e2 w5 ⟨rfl, hb5⟩; have j3 := bt hb5 j2; have hz5 := HZ.out.below j3; obtain ⟨x0, x1, x2, x3, x4, x5, x6⟩ := hz5.c7; obtain ⟨f0, f1, f2, f3, f4, f5, f6⟩ := hz5.f7; clear hb5 hz5))
      all_goals (
        go_wp2
        go_ret
        exact ⟨rfl, (HZ.out.below j3).set_ 1 _, grown_trans (grown_below j3 _) (grown_setCell _ _ _)⟩))
end Go.Proofs.YtkmkfolpjlkfoaaGreat
namespace Go.Proofs.YtkmkfolpjlkfoaaGreat
open Go Go.RowKit
set_option maxRecDepth 100000

attribute [local go_sem] cell_off4 cell_blk4
theorem two_blk {w : World} {z : Nat} {n : Nd} {vd ve : Value} (h : Blk w z 82 (ndC n vd ve)) (U G : Int) : Blk ((w.setCell ⟨z, 2, none⟩ (.int .i64 U)).setCell ⟨z, 3, none⟩ (.int .i64 G)) z 82 (ndC (modN n n.mode U G) vd ve) := (h.set_ 2 _).set_ 3 _
theorem two_grownA (w : World) (z : Nat) (a b : Nat) (u v : Value) : w.grownBy ((w.setCell ⟨z, a, none⟩ u).setCell ⟨z, b, none⟩ v) (some z) := grown_trans (grown_setCell _ _ _) (grown_setCell _ _ _)
structure Two (w W : World) (z : Nat) (n : Nd) (vd ve : Value) : Prop where
  blk : Blk W z 82 (ndC n vd ve)
  grown : w.grownBy W (some z)
theorem two_all {w W : World} {z : Nat} {n : Nd} {vd ve : Value} (h : Blk W z 82 (ndC n vd ve)) (hg : w.grownBy W (some z)) (U G : Int) : Two w ((W.setCell ⟨z, 2, none⟩ (.int .i64 U)).setCell ⟨z, 3, none⟩ (.int .i64 G)).drew z (modN n n.mode U G) vd ve :=
  ⟨(two_blk h U G).below (Below.refl _ _).drew, grown_trans (grown_trans hg (two_grownA W z 2 3 (.int .i64 U) (.int .i64 G))) (grown_below (Below.refl _ _).drew _)⟩
theorem cell_grown {w W : World} {z b i : Nat} {u : Value} (h : w.cell? ⟨b, i, none⟩ = some u) (hg : w.grownBy W (some z)) (hne : b ≠ z) : W.cell? ⟨b, i, none⟩ = some u := by
  rw [← h]
  exact World.cell?_of_block (hg.block _ (World.block_lt_of_cell? _ _ h) (by intro q; injection q with q; exact hne q))
set_option maxHeartbeats 16000000 in
theorem chwC_any (c : Wh) (A0 : Option Addr) (m k kb ub gb z : Nat) (uid gid : Int) (n : Nd) (vd ve : Value) (w : World) (hk : Blk w kb 35 #[.int .i64 c.u, .int .i64 c.g, .slice A0 m k]) (hu : w.cell? ⟨ub, 0, none⟩ = some (.int .i64 uid)) (hg : w.cell? ⟨gb, 0, none⟩ = some (.int .i64 gid)) (hkz : kb ≠ z) (huz : ub ≠ z) (hgz : gb ≠ z) (hi : IntsR w (.slice A0 m k) c.gs) (hl : c.gs.length ≤ 1000000) (hz : Blk w z 82 (ndC n vd ve)) :
    Calls Tryz.prog 154 #[.pointer (some ⟨z, 0, none⟩), .pointer (some ⟨kb, 0, none⟩), .pointer (some ⟨ub, 0, none⟩), .pointer (some ⟨gb, 0, none⟩)] w fun e w' => e = .returned (.int .i64 (ownE c uid gid n)) ∧ Blk w' z 82 (ndC (if ownE c uid gid n = 0 then ownN c uid gid n else n) vd ve) ∧ w.grownBy w' (some z) := by
  have HZ := Lib.hid hz
  have HPR := Lib.hid (fun (W : World) (hb : Below w.heap.size w W) => show W.cell? ⟨kb, 0, none⟩ = some (.int .i64 c.u) ∧ W.cell? ⟨kb, 1, none⟩ = some (.int .i64 c.g) ∧ W.cell? ⟨kb, 2, none⟩ = some (.slice A0 m k) ∧ W.cell? ⟨ub, 0, none⟩ = some (.int .i64 uid) ∧ W.cell? ⟨gb, 0, none⟩ = some (.int .i64 gid) ∧ W.cell? ⟨z, 0, none⟩ = some (.int .i64 n.kind) ∧ W.cell? ⟨z, 1, none⟩ = some (.int .i64 n.mode) ∧ W.cell? ⟨z, 2, none⟩ = some (.int .i64 n.uid) ∧ W.cell? ⟨z, 3, none⟩ = some (.int .i64 n.gid) from
    ⟨(hk.below hb).cell 0, (hk.below hb).cell 1, (hk.below hb).cell 2, bc hb hu, bc hb hg, (hz.below hb).cell 0, (hz.below hb).cell 1, (hz.below hb).cell 2, (hz.below hb).cell 3⟩)
  have HPK := Lib.hid (fun (W V : World) (hb : Below w.heap.size w W) (hgr : W.grownBy V (some z)) => show V.cell? ⟨kb, 0, none⟩ = some (.int .i64 c.u) ∧ V.cell? ⟨kb, 1, none⟩ = some (.int .i64 c.g) ∧ V.cell? ⟨kb, 2, none⟩ = some (.slice A0 m k) from
    ⟨cell_grown ((hk.below hb).cell 0) hgr hkz, cell_grown ((hk.below hb).cell 1) hgr hkz, cell_grown ((hk.below hb).cell 2) hgr hkz⟩)
  have HSU := Lib.hid (fun (W : World) (hb : Below w.heap.size w W) (i : Nat) (u : Value) => show (W.setCell ⟨z, i, none⟩ u).cell? ⟨ub, 0, none⟩ = some (.int .i64 uid) from cell_othA (bc hb hu) (oth_neA (.inl huz.symm)))
  have HSG := Lib.hid (fun (W : World) (hb : Below w.heap.size w W) (i : Nat) (u : Value) => show (W.setCell ⟨z, i, none⟩ u).cell? ⟨gb, 0, none⟩ = some (.int .i64 gid) from cell_othA (bc hb hg) (oth_neA (.inl hgz.symm)))
  have HV1 := Lib.hid (fun (W : World) (hb : Below w.heap.size w W) (u : Value) => show (W.setCell ⟨z, 3, none⟩ u).cell? ⟨z, 2, none⟩ = some (.int .i64 n.uid) from cell_othA ((hz.below hb).cell 2) (oth_neA (.inr (by decide))))
  have HV2 := Lib.hid (fun (W : World) (hb : Below w.heap.size w W) (u : Value) => show (W.setCell ⟨z, 2, none⟩ u).cell? ⟨z, 3, none⟩ = some (.int .i64 n.gid) from cell_othA ((hz.below hb).cell 3) (oth_neA (.inr (by decide))))
  obtain ⟨q, hq⟩ : ∃ q, mayO c n uid gid = q := ⟨_, rfl⟩
  have HM := Lib.hid (fun (W : World) (hb : Below w.heap.size w W) => show Calls Tryz.prog 155 #[.agg #[.int .i64 c.u, .int .i64 c.g, .slice A0 m k], .int .i64 n.uid, .int .i64 n.gid, .int .i64 uid, .int .i64 gid] W fun e w' => e = .returned (.bool q) ∧ Below W.heap.size W w' from by have h1 := mayOwn_any c.u c.g A0 m k c.gs n.uid n.gid uid gid W (hi.below hb) hl; rw [show mayOwn c.u c.g c.gs n.uid n.gid uid gid = q from hq] at h1; exact h1)
  obtain ⟨M, hM⟩ : ∃ M, writM c.u n.kind n.mode = M := ⟨_, rfl⟩
  obtain ⟨U, hU⟩ : ∃ U, (if uid < 0 then n.uid else uid) = U := ⟨_, rfl⟩
  obtain ⟨G, hG⟩ : ∃ G, (if gid < 0 then n.gid else gid) = G := ⟨_, rfl⟩
  have HD := Lib.hid (fun (W : World) => show Calls Tryz.prog 157 #[.agg #[.int .i64 c.u, .int .i64 c.g, .slice A0 m k], .int .i64 n.kind, .int .i64 n.mode] W fun e w' => e = .returned (.int .i64 M) ∧ Below W.heap.size W w' from by have h1 := written_any c.u c.g A0 m k n.kind n.mode W; rw [hM] at h1; exact h1)
  have HT1 := Lib.hid (fun (W : World) => show Calls Tryz.prog 156 #[.int .i64 uid, .int .i64 n.uid] W fun e w' => e = .returned (.int .i64 U) ∧ W = w' from by have h1 := told_any uid n.uid W; rw [hU] at h1; exact h1)
  have HT2 := Lib.hid (fun (W : World) => show Calls Tryz.prog 156 #[.int .i64 gid, .int .i64 n.gid] W fun e w' => e = .returned (.int .i64 G) ∧ W = w' from by have h1 := told_any gid n.gid W; rw [hG] at h1; exact h1)
  have HE := Lib.hid (show ownE c uid gid n = if q = false then 1 else 0 from by unfold ownE; rw [hq])
  have HN := Lib.hid (show ownN c uid gid n = if uid < 0 ∧ gid < 0 then n else modN n M U G from by unfold ownN chwN; rw [hM, hU, hG])
  obtain ⟨p0, p1, p2, p3, p4, p5, p6, p7, p8⟩ := HPR.out w (Below.refl _ _)
  have j0 : Below w.heap.size w w.drew := (Below.refl _ _).drew
  clear hk hu hg hz hi hl hq hM hU hG hkz huz hgz
  rw [HE.out, HN.out]
  cases q with
  | false =>
    rw [show (if false = false then (1 : Int) else 0) = 1 from rfl, if_neg (by decide : ¬ (1 : Int) = 0)]
    go_enter Tryz.func154, Tryz.ntmps154
    go_upto_region 1 with fail
    go_region_held3 (fun w' => w'.cell? ⟨kb, 0, none⟩ = some (.int .i64 c.u) ∧ w'.cell? ⟨kb, 1, none⟩ = some (.int .i64 c.g) ∧ w'.cell? ⟨kb, 2, none⟩ = some (.slice A0 m k) ∧ w'.cell? ⟨ub, 0, none⟩ = some (.int .i64 uid) ∧ w'.cell? ⟨gb, 0, none⟩ = some (.int .i64 gid) ∧ w'.cell? ⟨z, 0, none⟩ = some (.int .i64 n.kind) ∧ w'.cell? ⟨z, 1, none⟩ = some (.int .i64 n.mode) ∧ w'.cell? ⟨z, 2, none⟩ = some (.int .i64 n.uid) ∧ w'.cell? ⟨z, 3, none⟩ = some (.int .i64 n.gid))
      (first | (with_reducible exact HPR.out _ j0) | (with_reducible exact HPR.out _ j1))
      (first | (go_at_call 155; (with_reducible refine (HM.out _ j0).mono ?_); rintro e1 w4 ⟨rfl, hb4⟩; have j1 := bt hb4 j0; clear hb4))
    all_goals (
      go_wp2
      go_ret
      exact ⟨rfl, HZ.out.below j1, grown_below j1 _⟩)
  | true =>
    rw [show (if true = false then (1 : Int) else 0) = 0 from rfl, if_pos (rfl : (0 : Int) = 0)]
    obtain ⟨N', hN'⟩ : ∃ N', (if uid < 0 ∧ gid < 0 then n else modN n M U G) = N' := ⟨_, rfl⟩
    have HX := Lib.hid (show uid < 0 → gid < 0 → N' = n from fun h1 h2 => by rw [← hN', if_pos ⟨h1, h2⟩])
    have HY := Lib.hid (show ¬ (uid < 0 ∧ gid < 0) → N' = modN n M U G from fun h => by rw [← hN', if_neg h])
    rw [hN']
    clear hN'
    go_enter Tryz.func154, Tryz.ntmps154
    go_upto_region 1 with fail
    go_region_held3 (fun w' => w'.cell? ⟨kb, 0, none⟩ = some (.int .i64 c.u) ∧ w'.cell? ⟨kb, 1, none⟩ = some (.int .i64 c.g) ∧ w'.cell? ⟨kb, 2, none⟩ = some (.slice A0 m k) ∧ w'.cell? ⟨ub, 0, none⟩ = some (.int .i64 uid) ∧ w'.cell? ⟨gb, 0, none⟩ = some (.int .i64 gid) ∧ w'.cell? ⟨z, 0, none⟩ = some (.int .i64 n.kind) ∧ w'.cell? ⟨z, 1, none⟩ = some (.int .i64 n.mode) ∧ w'.cell? ⟨z, 2, none⟩ = some (.int .i64 n.uid) ∧ w'.cell? ⟨z, 3, none⟩ = some (.int .i64 n.gid))
      (first | (with_reducible exact HPR.out _ j0) | (with_reducible exact HPR.out _ j1))
      (first | (go_at_call 155; (with_reducible refine (HM.out _ j0).mono ?_); rintro e1 w4 ⟨rfl, hb4⟩; have j1 := bt hb4 j0; clear hb4))
    all_goals (
      clear p0 p1 p2 p3 p4 p5 p6 p7 p8
      obtain ⟨p0, p1, p2, p3, p4, p5, p6, p7, p8⟩ := HPR.out w4 j1
      by_cases hneg : uid < 0 ∧ gid < 0
      · obtain ⟨hu, hg⟩ := hneg
        have HN2 := Lib.hid (HX.out hu hg)
        go_wp2
        go_ret
        exact ⟨rfl, by rw [HN2.out]; exact HZ.out.below j1, grown_below j1 _⟩
      · have HNEG := Lib.hid hneg
        have j2 := j1.drew
        go_upto_region 3 with fail
        go_cut [24] (fun s24 wx => s24 = .bool false ∧ wx = w4)
        case first =>
          by_cases hu : uid < 0
          · have hg : ¬ gid < 0 := fun h => HNEG.out ⟨hu, h⟩
            clear hneg
            go_wp2
            go_meet
            exact ⟨rfl, rfl⟩
          · clear hneg
            go_wp2
            go_meet
            exact ⟨rfl, rfl⟩
        case rest =>
          obtain ⟨rfl, rfl⟩ := hcut
          clear hneg
          go_upto_region 5 with fail
          have HNN := Lib.hid (HY.out HNEG.out)
          have u1 := HSU.out _ j1 3 (.int .i64 G)
          have u2 := HSG.out _ j1 2 (.int .i64 U)
          have hz2 := HZ.out.below j1
          obtain ⟨f0, f1, f2, f3, f4, f5, f6⟩ := hz2.f7
          have v1 := HV1.out _ j1 (.int .i64 G)
          have v2 := HV2.out _ j1 (.int .i64 U)
          clear hz2
          go_cut [5] (fun s5 wx => s5 = .int .i64 0 ∧ Two w wx z (modN n n.mode U G) vd ve)
          case first =>
            go_region_law (first
              | (go_simp; go_at_call 156; (with_reducible refine (HT1.out _).mono ?_); rintro e1 w5 ⟨rfl, rfl⟩)
              | (go_simp; go_at_call 156; (with_reducible refine (HT2.out _).mono ?_); rintro e1 w5 ⟨rfl, rfl⟩))
            all_goals (
              go_wp2
              go_meet
              exact ⟨rfl, two_all (HZ.out.below j1) (grown_below j1 _) U G⟩)
          case rest =>
            obtain ⟨rfl, h6⟩ := hcut
            have HZ6 := Lib.hid h6.blk
            have HG6 := Lib.hid h6.grown
            obtain ⟨t0, t1, t2⟩ := HPK.out w _ (Below.refl _ _) h6.grown
            have hz6 := h6.blk
            obtain ⟨t3, t4, -⟩ := hz6.c7
            simp only [show (modN n n.mode U G).kind = n.kind from rfl, show (modN n n.mode U G).mode = n.mode from rfl] at t3 t4
            clear h6 hz6 p0 p1 p2 p3 p4 p5 p6 p7 p8 u1 u2 v1 v2 f0 f1 f2 f3 f4 f5 f6
            go_upto_region 6 with fail
            go_region_law (go_simp; go_at_call 157; (with_reducible refine (HD.out _).mono ?_); rintro e2 w6 ⟨rfl, hb6⟩; have hz7 := HZ6.out.below (bt hb6 (Below.refl _ _).drew); obtain ⟨x0, x1, x2, x3, x4, x5, x6⟩ := hz7.c7; obtain ⟨f0, f1, f2, f3, f4, f5, f6⟩ := hz7.f7; have HB6 := Lib.hid (bt hb6 (Below.refl _ _).drew); clear hb6 hz7)
            all_goals (
              go_wp2
              go_ret
              exact ⟨rfl, by rw [HNN.out]; exact (HZ6.out.below HB6.out).set_ 1 _, grown_trans HG6.out (grown_trans (grown_below HB6.out _) (grown_setCell _ _ _))⟩))
end Go.Proofs.YtkmkfolpjlkfoaaGreat
namespace Go.Proofs.YtkmkfolpjlkfoaaGreat
open Go Go.RowKit
set_option maxRecDepth 100000

attribute [local go_sem] cell_off4 cell_blk4
theorem cf_chm (args : Array Value) (W : World) : (callFunc 151 args).run Tryz.prog W = .ok (.enter 151 args) W := by
  first | (simp only [go_sem]; done) | rfl
theorem cf_chw (args : Array Value) (W : World) : (callFunc 154 args).run Tryz.prog W = .ok (.enter 154 args) W := by
  first | (simp only [go_sem]; done) | rfl
def ClR (w : World) (F : FuncId) (caps : Array Value) (E : Nd → Int) (N : Nd → Nd) : Prop := ∀ (n : Nd) (vd ve : Value) (z : Nat) (W : World), Below w.heap.size w W → w.heap.size ≤ z → Blk W z 82 (ndC n vd ve) →
  Calls Tryz.prog F (#[.pointer (some ⟨z, 0, none⟩)] ++ caps) W fun e w' => e = .returned (.int .i64 (E n)) ∧ Blk w' z 82 (ndC (if E n = 0 then N n else n) vd ve) ∧ W.grownBy w' (some z)
theorem sta_res {t : List Nd} {c : Wh} {p : Nm} {f : Bool} {R : Fo} {e : Int} (h : resM t c p f = (R, e)) (hz : (staM t c p f).2 ≠ 0) : (e ≠ 0 ∧ (staM t c p f).2 = e) ∨ (e = 0 ∧ tis t R.node = false ∧ (staM t c p f).2 = 2) := by
  unfold staM at hz ⊢
  rw [h] at hz ⊢
  by_cases q : e = 0
  · right
    cases hi : tis t R.node with
    | true =>
      rw [staF_good (R := (R, e)) q hi] at hz
      exact absurd rfl hz
    | false =>
      refine ⟨q, rfl, ?_⟩
      unfold staF
      rw [if_neg (fun r => r q), if_neg (by show ¬ tis t R.node = true; rw [hi]; decide)]
  · left
    rw [staF_err (R := (R, e)) q]
    exact ⟨q, rfl⟩
set_option maxHeartbeats 8000000 in
theorem change_err (v : Value) (t : List Nd) (c : Wh) (A0 : Option Addr) (m k : Nat) (p : Nm) (f : Bool) (F : FuncId) (caps : Array Value) (w : World) (h : TabP w v t) (hc : CrR w c A0 m k) (hz : (staM t c p f).2 ≠ 0) :
    Calls Tryz.prog 150 #[v, .agg #[.int .i64 c.u, .int .i64 c.g, .slice A0 m k], .string (bA p), .bool f, .func (.func F) #[] caps] w fun e w' => e = .returned (.int .i64 (staM t c p f).2) ∧ Below w.heap.size w w' := by
  have hb1 := ba w (.cells #[.int .i64 c.u, .int .i64 c.g, .slice A0 m k] 35)
  have hk1 := Blk.new w 35 #[.int .i64 c.u, .int .i64 c.g, .slice A0 m k]
  obtain ⟨W1, hW1⟩ : ∃ W1, w.alloc (.cells #[.int .i64 c.u, .int .i64 c.g, .slice A0 m k] 35) = W1 := ⟨_, rfl⟩
  rw [hW1] at hb1 hk1
  obtain ⟨RE, hRE⟩ : ∃ RE, resM t c p f = RE := ⟨_, rfl⟩
  obtain ⟨R, e0⟩ := RE
  have HRS := Lib.hid (resolve_any v t c A0 m k p f W1 (h.below hb1) (hc.below hb1) (R, e0) hRE)
  have HS := Lib.hid (sta_res hRE hz)
  have HT := Lib.hid (h.below hb1)
  have HB1 := Lib.hid hb1
  obtain ⟨X, hX⟩ : ∃ X, (staM t c p f).2 = X := ⟨_, rfl⟩
  rw [hX] at HS ⊢
  clear h hc hz hRE hb1 hX
  obtain ⟨k0, k1, k2⟩ := hk1.c3
  clear hk1
  go_enter Tryz.func150, Tryz.ntmps150
  go_wp2_with fail
  clear hW1
  refine HRS.out.mono ?_
  rintro e w3 ⟨rfl, hb3⟩
  have hbx := al hb3 (.cells #[.int .i64 R.dir, .string (bA R.name), .int .i64 R.node] 223)
  have HB4 := Lib.hid (bt hbx HB1.out)
  have HT4 := Lib.hid (HT.out.below hbx)
  have hf4 := Blk.new w3 223 #[.int .i64 R.dir, .string (bA R.name), .int .i64 R.node]
  obtain ⟨y, hy⟩ : ∃ y, w3.heap.size = y := ⟨_, rfl⟩
  obtain ⟨W4, hW4⟩ : ∃ W4, w3.alloc (.cells #[.int .i64 R.dir, .string (bA R.name), .int .i64 R.node] 223) = W4 := ⟨_, rfl⟩
  rw [hW4] at HB4 HT4 hf4
  rw [hy] at hf4
  clear hb3 hbx k0 k1 k2 HRS HT
  rcases HS.out with ⟨qE, hX⟩ | ⟨qE, hi, hX⟩
  · have qE1 : (e0 != 0) = true := by simpa using qE
    clear qE hf4
    go_wp2
    go_ret
    exact ⟨by rw [hX]; rfl, HB4.out⟩
  · have qE1 : (e0 != 0) = false := by simpa using qE
    obtain ⟨b0, b1, b2⟩ := hf4.c3
    have HG := Lib.hid (get_any v t R.node W4 HT4.out)
    rw [hi] at HG
    generalize tget t R.node = n at HG
    clear qE hf4 hi
    go_wp2_with fail
    clear hW4 hy
    refine HG.out.mono ?_
    rintro e w5 ⟨vd, ve, rfl, hd, he, -, -, hb5⟩
    have HB5 := Lib.hid (bt (al hb5 (.cells (ndC n vd ve) 82)) HB4.out)
    obtain ⟨A1, c1, hv1⟩ := bytesT_form hd
    obtain ⟨A2, c2, hv2⟩ := entsT_form he
    subst hv1 hv2
    unfold nodeV
    unfold ndC at HB5
    clear hd he hb5 b0 b1 b2 HG
    go_wp2
    go_ret
    exact ⟨by rw [hX]; rfl, HB5.out⟩
set_option maxHeartbeats 16000000 in
theorem change_go (g : Nat) (t : List Nd) (P : Nat → Prop) (c : Wh) (A0 : Option Addr) (m k : Nat) (p : Nm) (f : Bool) (F : FuncId) (caps : Array Value) (E : Nd → Int) (N : Nd → Nd) (w : World) (h : TabR w g t P) (hc : CrR w c A0 m k) (hP : ∀ b, w.heap.size ≤ b → P b) (hF : ClR w F caps E N) (hcf : ∀ (args : Array Value) (W : World), (callFunc F args).run Tryz.prog W = .ok (.enter F args) W) (hz : (staM t c p f).2 = 0) (i : Int) (hi : (staM t c p f).1.node = i) (hN : E (tget t i) = 0 → rightP (N (tget t i))) (hD : (N (tget t i)).data = (tget t i).data) (hE : (N (tget t i)).ents = (tget t i).ents) :
    Calls Tryz.prog 150 #[.pointer (some ⟨g, 0, none⟩), .agg #[.int .i64 c.u, .int .i64 c.g, .slice A0 m k], .string (bA p), .bool f, .func (.func F) #[] caps] w fun e w' => e = .returned (.int .i64 (E (tget t i))) ∧ TabR w' g (if E (tget t i) = 0 then setT t i (N (tget t i)) else t) P ∧ w.grownBy w' (some g) := by
  have hb1 := ba w (.cells #[.int .i64 c.u, .int .i64 c.g, .slice A0 m k] 35)
  have hk1 := Blk.new w 35 #[.int .i64 c.u, .int .i64 c.g, .slice A0 m k]
  obtain ⟨W1, hW1⟩ : ∃ W1, w.alloc (.cells #[.int .i64 c.u, .int .i64 c.g, .slice A0 m k] 35) = W1 := ⟨_, rfl⟩
  rw [hW1] at hb1 hk1
  obtain ⟨s1, s2, s3, -⟩ := staM_zero hz
  rw [hi] at s2 s3
  obtain ⟨RE, hRE⟩ : ∃ RE, resM t c p f = RE := ⟨_, rfl⟩
  obtain ⟨R, e0⟩ := RE
  have HRS := Lib.hid (resolve_any (.pointer (some ⟨g, 0, none⟩)) t c A0 m k p f W1 (h.below hb1).ptr (hc.below hb1) (R, e0) hRE)
  rw [hRE] at s1 s3
  have e1 : e0 = 0 := s1
  have e2 : R.node = i := s3
  subst e1
  subst e2
  have HI := Lib.hid s2
  have HT := Lib.hid h
  have HB1 := Lib.hid hb1
  have HP := Lib.hid hP
  have HN := Lib.hid hN
  have HND := Lib.hid hD
  have HNE := Lib.hid hE
  have HCL := Lib.hid hF
  obtain ⟨T2, hT2⟩ : ∃ T2, (if E (tget t R.node) = 0 then setT t R.node (N (tget t R.node)) else t) = T2 := ⟨_, rfl⟩
  rw [hT2]
  obtain ⟨EE, hEE⟩ : ∃ EE, E (tget t R.node) = EE := ⟨_, rfl⟩
  rw [hEE] at hT2 ⊢
  have HEE := Lib.hid hEE
  have HT2 := Lib.hid hT2
  clear h hc hz hRE hb1 hP hN hD hE hF s1 s2 s3 hi hEE hT2
  obtain ⟨k0, k1, k2⟩ := hk1.c3
  clear hk1
  go_enter Tryz.func150, Tryz.ntmps150
  go_wp2_with fail
  clear hW1
  refine HRS.out.mono ?_
  rintro e w3 ⟨rfl, hb3⟩
  have hbx := al hb3 (.cells #[.int .i64 R.dir, .string (bA R.name), .int .i64 R.node] 223)
  have HB4 := Lib.hid (bt hbx HB1.out)
  have hf4 := Blk.new w3 223 #[.int .i64 R.dir, .string (bA R.name), .int .i64 R.node]
  obtain ⟨y, hy⟩ : ∃ y, w3.heap.size = y := ⟨_, rfl⟩
  obtain ⟨W4, hW4⟩ : ∃ W4, w3.alloc (.cells #[.int .i64 R.dir, .string (bA R.name), .int .i64 R.node] 223) = W4 := ⟨_, rfl⟩
  rw [hW4] at HB4 hf4
  rw [hy] at hf4
  have HF4 := Lib.hid hf4
  have HT4 := Lib.hid (HT.out.below HB4.out)
  clear hb3 hbx k0 k1 k2 HRS
  obtain ⟨b0, b1, b2⟩ := hf4.c3
  have HG := Lib.hid (get_any (.pointer (some ⟨g, 0, none⟩)) t R.node W4 HT4.out.ptr)
  rw [HI.out] at HG
  have HFW := Lib.hid (fun h => right_few (HN.out h))
  generalize tget t R.node = n at HG HN HND HNE HFW HEE HT2
  rw [HEE.out] at HN HFW
  clear hf4
  go_wp2_with fail
  clear hW4 hy
  refine HG.out.mono ?_
  rintro e w5 ⟨vd, ve, rfl, hd, he, -, -, hb5⟩
  have hbx := al hb5 (.cells (ndC n vd ve) 82)
  have hkn := Blk.new w5 82 (ndC n vd ve)
  have hd6 := hd.below (ba w5 (.cells (ndC n vd ve) 82))
  have he6 := he.below (ba w5 (.cells (ndC n vd ve) 82))
  have HB6 := Lib.hid (bt hbx HB4.out)
  have HF6 := Lib.hid (HF4.out.below hbx)
  have HT6 := Lib.hid (HT4.out.below hbx)
  have HZ := Lib.hid (show w.heap.size ≤ w5.heap.size from (bt hb5 HB4.out).size)
  have HYZ := Lib.hid (show y ≠ w5.heap.size from Nat.ne_of_lt (HF4.out.below hb5).lt)
  have HGZ := Lib.hid (show g ≠ w5.heap.size from Nat.ne_of_lt (HT4.out.below hb5).lt)
  obtain ⟨A1, c1, hv1⟩ := bytesT_form hd
  obtain ⟨A2, c2, hv2⟩ := entsT_form he
  subst hv1 hv2
  obtain ⟨z, hz⟩ : ∃ z, w5.heap.size = z := ⟨_, rfl⟩
  obtain ⟨W6, hW6⟩ : ∃ W6, w5.alloc (.cells (ndC n (.slice A1 n.data.length c1) (.slice A2 n.ents.length c2)) 82) = W6 := ⟨_, rfl⟩
  rw [hW6] at HB6 HF6 HT6 hkn hd6 he6
  rw [hz] at HZ HYZ HGZ hkn
  have HK6 := Lib.hid hkn
  have HD6 := Lib.hid hd6
  have HE6 := Lib.hid he6
  have HC6 := Lib.hid (HCL.out n _ _ z W6 HB6.out HZ.out hkn)
  unfold nodeV
  unfold ndC at hW6
  clear hd he hb5 hbx hkn hd6 he6 b0 b1 b2 HG HCL
  go_wp2_with fail
  clear hW6 hz hcf
  refine HC6.out.mono ?_
  rintro e w7 ⟨rfl, hk7, hg7⟩
  have hf7 := HF6.out.kept hg7 (some_ne HYZ.out)
  have HT7 := Lib.hid (show TabR w7 g t P from HT6.out.kind hg7 HGZ.out HK6.out (by decide) (by decide))
  have HD7 := Lib.hid (HD6.out.other hg7 (fun ad n c hv => by obtain ⟨cs, h⟩ := HD6.out.2 ad n c hv; exact blk_ne h HK6.out (by decide)))
  have HE7 := Lib.hid (HE6.out.other hg7 (fun ad n c hv => by obtain ⟨cs, h⟩ := HE6.out.2 ad n c hv; exact blk_ne h HK6.out (by decide)))
  have HB7 := Lib.hid (below_grown HB6.out hg7 HZ.out)
  rw [HEE.out] at hk7 ⊢
  clear hg7 HC6
  by_cases q : EE = 0
  · have q1 : (EE != 0) = false := by simpa using q
    rw [if_pos q] at hk7
    have HRT := Lib.hid (HN.out q)
    have HPT := Lib.hid (put_any g t P R.node (N n) _ _ w7 HT7.out (by rw [HND.out]; exact HD7.out.1) (by rw [HNE.out]; exact HE7.out.1) (HFW.out q) (fun b r => HP.out b (Nat.le_trans HB7.out.size r)))
    have HFI := Lib.hid (show actT t 0 R.node (N n) (toB (rightP (N n))) = T2 from by rw [← HT2.out, if_pos q, actT, if_pos rfl, if_pos ⟨HI.out, toB_true HRT.out⟩])
    have HPE := Lib.hid (show putE t R.node (toB (rightP (N n))) = EE from by rw [putE, if_neg (by rw [HI.out]; decide), toB_true HRT.out, if_neg (by decide)]; exact q.symm)
    rw [HPE.out, HFI.out] at HPT
    obtain ⟨n2, hn2⟩ : ∃ n2, N n = n2 := ⟨_, rfl⟩
    rw [hn2] at hk7 HPT
    obtain ⟨x0, x1, x2, x3, x4, x5, x6⟩ := hk7.c7
    obtain ⟨b0, b1, b2⟩ := hf7.c3
    unfold nodeV at HPT
    clear q hk7 hf7 HN HFW HRT HPE HND HNE hn2 HFI HT2
    go_wp2_with fail
    refine HPT.out.mono ?_
    rintro e w8 ⟨rfl, h8, hg8⟩
    have H8 := Lib.hid h8
    have HG8 := Lib.hid (grown_trans (grown_below HB7.out (some g)) hg8)
    clear h8 hg8
    go_wp2
    go_ret
    exact ⟨rfl, H8.out, HG8.out⟩
  · have q1 : (EE != 0) = true := by simpa using q
    have HFI := Lib.hid (show T2 = t from by rw [← HT2.out, if_neg q])
    clear q hk7 hf7 HN HFW HND HNE
    go_wp2
    go_ret
    exact ⟨rfl, by rw [HFI.out]; exact HT7.out, grown_below HB7.out _⟩
end Go.Proofs.YtkmkfolpjlkfoaaGreat
namespace Go.Proofs.YtkmkfolpjlkfoaaGreat
open Go Go.RowKit
set_option maxRecDepth 100000

attribute [local go_sem] cell_off4 cell_blk4
theorem change_any (g : Nat) (t : List Nd) (P : Nat → Prop) (c : Wh) (A0 : Option Addr) (m k : Nat) (p : Nm) (f : Bool) (F : FuncId) (caps : Array Value) (E : Nd → Int) (N : Nd → Nd) (w : World) (h : TabR w g t P) (hc : CrR w c A0 m k) (hP : ∀ b, w.heap.size ≤ b → P b) (hF : ClR w F caps E N) (hcf : ∀ (args : Array Value) (W : World), (callFunc F args).run Tryz.prog W = .ok (.enter F args) W) (hN : (staM t c p f).2 = 0 → rightP (N (tget t (staM t c p f).1.node))) (hD : ∀ n, (N n).data = n.data) (hE : ∀ n, (N n).ents = n.ents) :
    Calls Tryz.prog 150 #[.pointer (some ⟨g, 0, none⟩), .agg #[.int .i64 c.u, .int .i64 c.g, .slice A0 m k], .string (bA p), .bool f, .func (.func F) #[] caps] w fun e w' => e = .returned (.int .i64 (chgF t (staM t c p f) E)) ∧ TabR w' g (chgT t (staM t c p f) E N) P ∧ w.grownBy w' (some g) := by
  by_cases hz : (staM t c p f).2 = 0
  · refine (change_go g t P c A0 m k p f F caps E N w h hc hP hF hcf hz _ rfl (fun _ => hN hz) (hD _) (hE _)).mono ?_
    rintro e w' ⟨rfl, h1, h2⟩
    have e1 : chgF t (staM t c p f) E = E (tget t (staM t c p f).1.node) := if_neg (fun q => q hz)
    have e2 : chgT t (staM t c p f) E N = if E (tget t (staM t c p f).1.node) = 0 then setT t (staM t c p f).1.node (N (tget t (staM t c p f).1.node)) else t := by
      unfold chgT
      rw [e1]
      by_cases q : E (tget t (staM t c p f).1.node) = 0
      · rw [if_neg (fun r => r q), if_pos q]
      · rw [if_pos q, if_neg q]
    exact ⟨by rw [e1], by rw [e2]; exact h1, h2⟩
  · refine (change_err (.pointer (some ⟨g, 0, none⟩)) t c A0 m k p f F caps w h.ptr hc hz).mono ?_
    rintro e w' ⟨rfl, hb⟩
    have e1 : chgF t (staM t c p f) E = (staM t c p f).2 := if_pos hz
    have e2 : chgT t (staM t c p f) E N = t := by
      unfold chgT
      rw [e1, if_pos hz]
    exact ⟨by rw [e1], by rw [e2]; exact h.below hb, grown_below hb _⟩
theorem cl_chm (c : Wh) (A0 : Option Addr) (m k kb mb : Nat) (mode : Int) (w : World) (hk : Blk w kb 35 #[.int .i64 c.u, .int .i64 c.g, .slice A0 m k]) (hm : w.cell? ⟨mb, 0, none⟩ = some (.int .i64 mode)) (hi : CrR w c A0 m k) :
    ClR w 151 #[.pointer (some ⟨kb, 0, none⟩), .pointer (some ⟨mb, 0, none⟩)] (mayE c) (fun n => chmN c n mode) := fun n vd ve z W hb hz hzb => by
  have h1 := hk.lt
  have h2 := World.block_lt_of_cell? _ _ hm
  have h3 : mb < w.heap.size := h2
  exact chmC_any c A0 m k kb mb z mode n vd ve W (hk.below hb) (bc hb hm) (by omega) (by omega) (hi.below hb).1 (by have := hi.2; omega) hzb
theorem cl_chw (c : Wh) (A0 : Option Addr) (m k kb ub gb : Nat) (uid gid : Int) (w : World) (hk : Blk w kb 35 #[.int .i64 c.u, .int .i64 c.g, .slice A0 m k]) (hu : w.cell? ⟨ub, 0, none⟩ = some (.int .i64 uid)) (hg : w.cell? ⟨gb, 0, none⟩ = some (.int .i64 gid)) (hi : CrR w c A0 m k) :
    ClR w 154 #[.pointer (some ⟨kb, 0, none⟩), .pointer (some ⟨ub, 0, none⟩), .pointer (some ⟨gb, 0, none⟩)] (ownE c uid gid) (ownN c uid gid) := fun n vd ve z W hb hz hzb => by
  have h1 := hk.lt
  have h3 : ub < w.heap.size := World.block_lt_of_cell? _ _ hu
  have h4 : gb < w.heap.size := World.block_lt_of_cell? _ _ hg
  exact chwC_any c A0 m k kb ub gb z uid gid n vd ve W (hk.below hb) (bc hb hu) (bc hb hg) (by omega) (by omega) (by omega) (hi.below hb).1 (by have := hi.2; omega) hzb
theorem ownN_data (c : Wh) (uid gid : Int) (n : Nd) : (ownN c uid gid n).data = n.data ∧ (ownN c uid gid n).ents = n.ents := by
  unfold ownN
  split
  · exact ⟨rfl, rfl⟩
  · exact ⟨rfl, rfl⟩
set_option maxHeartbeats 8000000 in
theorem chmod_of (v : Value) (c : Wh) (A0 : Option Addr) (m k : Nat) (p : Nm) (mode : Int) (w : World) (Q : Int → World → Prop) (h0 : mode < 0 ∨ 4095 < mode → ∀ w', Below w.heap.size w w' → Q 22 w') (h1 : 0 ≤ mode ∧ mode ≤ 4095 → ∀ (kb mb : Nat) (W : World), Below w.heap.size w W → Blk W kb 35 #[.int .i64 c.u, .int .i64 c.g, .slice A0 m k] → W.cell? ⟨mb, 0, none⟩ = some (.int .i64 mode) →
      Calls Tryz.prog 150 #[v, .agg #[.int .i64 c.u, .int .i64 c.g, .slice A0 m k], .string (bA p), .bool true, .func (.func 151) #[] #[.pointer (some ⟨kb, 0, none⟩), .pointer (some ⟨mb, 0, none⟩)]] W fun e w' => ∃ x, e = .returned (.int .i64 x) ∧ Q x w') :
    Calls Tryz.prog 110 #[v, .agg #[.int .i64 c.u, .int .i64 c.g, .slice A0 m k], .string (bA p), .int .i64 mode] w fun e w' => ∃ x, e = .returned (.int .i64 x) ∧ Q x w' := by
  have hmf : ∀ (fn : Fn) (first cap : Array Value) (w : World), (Instr.makeFunc fn first cap).run Tryz.prog w = .ok (.func fn first cap) w := fun _ _ _ _ => rfl
  have hb1 := ba w (.cells #[.int .i64 c.u, .int .i64 c.g, .slice A0 m k] 35)
  have hk1 := Blk.new w 35 #[.int .i64 c.u, .int .i64 c.g, .slice A0 m k]
  obtain ⟨W1, hW1⟩ : ∃ W1, w.alloc (.cells #[.int .i64 c.u, .int .i64 c.g, .slice A0 m k] 35) = W1 := ⟨_, rfl⟩
  rw [hW1] at hb1 hk1
  have hb2 := al hb1 (.cells #[.int .i64 mode] 3)
  have hk2 := hk1.below (ba W1 (.cells #[.int .i64 mode] 3))
  have hm2 := Blk.new W1 3 #[.int .i64 mode]
  obtain ⟨mb, hmb⟩ : ∃ mb, W1.heap.size = mb := ⟨_, rfl⟩
  obtain ⟨W2, hW2⟩ : ∃ W2, W1.alloc (.cells #[.int .i64 mode] 3) = W2 := ⟨_, rfl⟩
  rw [hW2] at hb2 hk2 hm2
  rw [hmb] at hm2
  have p0 := hm2.cell 0
  simp at p0
  have H0 := Lib.hid (fun h => h0 h W2 hb2)
  have H1 := Lib.hid (fun h => h1 h _ mb W2 hb2 hk2 p0)
  obtain ⟨k0, k1, k2⟩ := hk2.c3
  clear h0 h1 hb1 hk1 hb2 hk2 hm2
  by_cases q0 : mode < 0
  · have y := H0.out (.inl q0)
    have HY := Lib.hid y
    clear y
    go_enter Tryz.func110, Tryz.ntmps110
    go_wp2
    go_ret
    exact ⟨_, rfl, HY.out⟩
  · by_cases q1 : mode > 4095
    · have y := H0.out (.inr q1)
      have HY := Lib.hid y
      clear y
      go_enter Tryz.func110, Tryz.ntmps110
      go_wp2
      go_ret
      exact ⟨_, rfl, HY.out⟩
    · have HY := Lib.hid (H1.out ⟨by omega, by omega⟩)
      go_enter Tryz.func110, Tryz.ntmps110
      go_wp2_with fail
      refine HY.out.mono ?_
      rintro e w3 ⟨x, rfl, h3⟩
      have H3 := Lib.hid h3
      clear h3
      go_wp2
      go_ret
      exact ⟨_, rfl, H3.out⟩
set_option maxHeartbeats 8000000 in
theorem chown_of (v : Value) (c : Wh) (A0 : Option Addr) (m k : Nat) (p : Nm) (uid gid : Int) (f : Bool) (w : World) (Q : Int → World → Prop) (h0 : 65535 < uid ∨ 65535 < gid → ∀ w', Below w.heap.size w w' → Q 22 w') (h1 : uid ≤ 65535 ∧ gid ≤ 65535 → ∀ (kb ub gb : Nat) (W : World), Below w.heap.size w W → Blk W kb 35 #[.int .i64 c.u, .int .i64 c.g, .slice A0 m k] → W.cell? ⟨ub, 0, none⟩ = some (.int .i64 uid) → W.cell? ⟨gb, 0, none⟩ = some (.int .i64 gid) →
      Calls Tryz.prog 150 #[v, .agg #[.int .i64 c.u, .int .i64 c.g, .slice A0 m k], .string (bA p), .bool f, .func (.func 154) #[] #[.pointer (some ⟨kb, 0, none⟩), .pointer (some ⟨ub, 0, none⟩), .pointer (some ⟨gb, 0, none⟩)]] W fun e w' => ∃ x, e = .returned (.int .i64 x) ∧ Q x w') :
    Calls Tryz.prog 111 #[v, .agg #[.int .i64 c.u, .int .i64 c.g, .slice A0 m k], .string (bA p), .int .i64 uid, .int .i64 gid, .bool f] w fun e w' => ∃ x, e = .returned (.int .i64 x) ∧ Q x w' := by
  have hmf : ∀ (fn : Fn) (first cap : Array Value) (w : World), (Instr.makeFunc fn first cap).run Tryz.prog w = .ok (.func fn first cap) w := fun _ _ _ _ => rfl
  have hb1 := ba w (.cells #[.int .i64 c.u, .int .i64 c.g, .slice A0 m k] 35)
  have hk1 := Blk.new w 35 #[.int .i64 c.u, .int .i64 c.g, .slice A0 m k]
  obtain ⟨W1, hW1⟩ : ∃ W1, w.alloc (.cells #[.int .i64 c.u, .int .i64 c.g, .slice A0 m k] 35) = W1 := ⟨_, rfl⟩
  rw [hW1] at hb1 hk1
  have hb2 := al hb1 (.cells #[.int .i64 uid] 3)
  have hk2 := hk1.below (ba W1 (.cells #[.int .i64 uid] 3))
  have hm2 := Blk.new W1 3 #[.int .i64 uid]
  obtain ⟨ub, hub⟩ : ∃ ub, W1.heap.size = ub := ⟨_, rfl⟩
  obtain ⟨W2, hW2⟩ : ∃ W2, W1.alloc (.cells #[.int .i64 uid] 3) = W2 := ⟨_, rfl⟩
  rw [hW2] at hb2 hk2 hm2
  rw [hub] at hm2
  have hb3 := al hb2 (.cells #[.int .i64 gid] 3)
  have hk3 := hk2.below (ba W2 (.cells #[.int .i64 gid] 3))
  have hu3 := hm2.below (ba W2 (.cells #[.int .i64 gid] 3))
  have hg3 := Blk.new W2 3 #[.int .i64 gid]
  obtain ⟨gb, hgb⟩ : ∃ gb, W2.heap.size = gb := ⟨_, rfl⟩
  obtain ⟨W3, hW3⟩ : ∃ W3, W2.alloc (.cells #[.int .i64 gid] 3) = W3 := ⟨_, rfl⟩
  rw [hW3] at hb3 hk3 hu3 hg3
  rw [hgb] at hg3
  have p0 := hu3.cell 0
  have p1 := hg3.cell 0
  simp at p0 p1
  have H0 := Lib.hid (fun h => h0 h W3 hb3)
  have H1 := Lib.hid (fun h => h1 h _ ub gb W3 hb3 hk3 p0 p1)
  obtain ⟨k0, k1, k2⟩ := hk3.c3
  clear h0 h1 hb1 hk1 hb2 hk2 hm2 hb3 hk3 hu3 hg3
  by_cases q0 : uid > 65535
  · have y := H0.out (.inl q0)
    have HY := Lib.hid y
    clear y
    go_enter Tryz.func111, Tryz.ntmps111
    go_wp2
    go_ret
    exact ⟨_, rfl, HY.out⟩
  · by_cases q1 : gid > 65535
    · have y := H0.out (.inr q1)
      have HY := Lib.hid y
      clear y
      go_enter Tryz.func111, Tryz.ntmps111
      go_wp2
      go_ret
      exact ⟨_, rfl, HY.out⟩
    · have HY := Lib.hid (H1.out ⟨by omega, by omega⟩)
      go_enter Tryz.func111, Tryz.ntmps111
      go_wp2_with fail
      refine HY.out.mono ?_
      rintro e w3 ⟨x, rfl, h3⟩
      have H3 := Lib.hid h3
      clear h3
      go_wp2
      go_ret
      exact ⟨_, rfl, H3.out⟩
theorem chmod_any (g : Nat) (t : List Nd) (P : Nat → Prop) (c : Wh) (A0 : Option Addr) (m k : Nat) (p : Nm) (mode : Int) (w : World) (h : TabR w g t P) (ht : okT t) (h1r : (tget t 1).kind ≠ 3) (hc : CrR w c A0 m k) (hP : ∀ b, w.heap.size ≤ b → P b) :
    Calls Tryz.prog 110 #[.pointer (some ⟨g, 0, none⟩), .agg #[.int .i64 c.u, .int .i64 c.g, .slice A0 m k], .string (bA p), .int .i64 mode] w fun e w' => e = .returned (.int .i64 (chmE t c p mode)) ∧ TabR w' g (chmT t c p mode) P ∧ w.grownBy w' (some g) := by
  refine (chmod_of (.pointer (some ⟨g, 0, none⟩)) c A0 m k p mode w (fun x w' => x = chmE t c p mode ∧ TabR w' g (chmT t c p mode) P ∧ w.grownBy w' (some g)) (fun hr w' hb => ?_) (fun hr kb mb W hb hk hm => ?_)).mono ?_
  · have e1 : chmE t c p mode = 22 := if_pos hr
    exact ⟨e1.symm, by rw [chmT_err (by rw [e1]; decide)]; exact h.below hb, grown_below hb _⟩
  · obtain ⟨e1, e2⟩ := chg_chm (t := t) (c := c) (p := p) hr
    refine (change_any g t P c A0 m k p true 151 _ (mayE c) (fun n => chmN c n mode) W (h.below hb) (hc.below hb) (fun b q => hP b (Nat.le_trans hb.size q)) (cl_chm c A0 m k kb mb mode W hk hm (hc.below hb)) cf_chm (fun hz => chg_m ht h1r hz) (fun n => rfl) (fun n => rfl)).mono ?_
    rintro e w' ⟨rfl, h1, h2⟩
    rw [e1]
    rw [e2] at h1
    exact ⟨_, rfl, rfl, h1, grown_trans (grown_below hb _) h2⟩
  · rintro e w' ⟨x, rfl, rfl, h1, h2⟩
    exact ⟨rfl, h1, h2⟩
theorem chown_any (g : Nat) (t : List Nd) (P : Nat → Prop) (c : Wh) (A0 : Option Addr) (m k : Nat) (p : Nm) (uid gid : Int) (f : Bool) (w : World) (h : TabR w g t P) (ht : okT t) (hc : CrR w c A0 m k) (hP : ∀ b, w.heap.size ≤ b → P b) :
    Calls Tryz.prog 111 #[.pointer (some ⟨g, 0, none⟩), .agg #[.int .i64 c.u, .int .i64 c.g, .slice A0 m k], .string (bA p), .int .i64 uid, .int .i64 gid, .bool f] w fun e w' => e = .returned (.int .i64 (chwE t c p uid gid f)) ∧ TabR w' g (chwT t c p uid gid f) P ∧ w.grownBy w' (some g) := by
  refine (chown_of (.pointer (some ⟨g, 0, none⟩)) c A0 m k p uid gid f w (fun x w' => x = chwE t c p uid gid f ∧ TabR w' g (chwT t c p uid gid f) P ∧ w.grownBy w' (some g)) (fun hr w' hb => ?_) (fun hr kb ub gb W hb hk hu hg => ?_)).mono ?_
  · have e1 : chwE t c p uid gid f = 22 := if_pos hr
    exact ⟨e1.symm, by rw [chwT_err (by rw [e1]; decide)]; exact h.below hb, grown_below hb _⟩
  · obtain ⟨e1, e2⟩ := chg_chw (t := t) (c := c) (p := p) (f := f) hr
    refine (change_any g t P c A0 m k p f 154 _ (ownE c uid gid) (ownN c uid gid) W (h.below hb) (hc.below hb) (fun b q => hP b (Nat.le_trans hb.size q)) (cl_chw c A0 m k kb ub gb uid gid W hk hu hg (hc.below hb)) cf_chw (fun hz => chg_w ht hr.1 hr.2 hz) (fun n => (ownN_data c uid gid n).1) (fun n => (ownN_data c uid gid n).2)).mono ?_
    rintro e w' ⟨rfl, h1, h2⟩
    rw [e1]
    rw [e2] at h1
    exact ⟨_, rfl, rfl, h1, grown_trans (grown_below hb _) h2⟩
  · rintro e w' ⟨x, rfl, rfl, h1, h2⟩
    exact ⟨rfl, h1, h2⟩
end Go.Proofs.YtkmkfolpjlkfoaaGreat
