/-
  What package attr's closures do to a node. The conditions are said at each.
-/
import Derived.Test.YtinalglbibmmpaaGreatCD
import Derived.Test.YtinalglbibmmpaaGreatAtT
import Derived.Deep.RegionHeld3
import Derived.Deep.RegionWith
namespace Go.Proofs.YtinalglbibmmpaaGreat
open Go Go.RowKit
set_option maxRecDepth 100000

attribute [local go_sem] cell_off4 cell_blk4
theorem told_any (x y : Int) (w : World) : Calls Tryz.prog 36 #[.int .i64 x, .int .i64 y] w fun e w' => e = .returned (.int .i64 (if x < 0 then y else x)) ∧ w = w' := by
  by_cases h : x < 0
  · rw [if_pos h]
    go_enter Tryz.func36, Tryz.ntmps36
    go_wp2
    go_ret
    exact ⟨rfl, rfl⟩
  · rw [if_neg h]
    go_enter Tryz.func36, Tryz.ntmps36
    go_wp2
    go_ret
    exact ⟨rfl, rfl⟩
theorem cell_oth {w : World} {a b : Addr} {u v : Value} (h : w.cell? b = some u) (hne : a ≠ b) : (w.setCell a v).cell? b = some u := by
  first
    | (rw [World.cell?_setCell_other _ _ _ _ (fun e => hne e)]; exact h)
    | (rw [World.cell?_setCell_other _ _ _ _ (fun e => hne e.symm)]; exact h)
theorem oth_ne {b c i j : Nat} (h : b ≠ c ∨ i ≠ j) : (⟨b, i, none⟩ : Addr) ≠ ⟨c, j, none⟩ := fun e => by
  injection e with e1 e2
  rcases h with h | h
  · exact h e1
  · exact h e2
theorem ndC_mode (n : Nd) (vd ve : Value) (m : Int) : (ndC n vd ve).setIfInBounds 1 (.int .i64 m) = ndC (modN n m n.uid n.gid) vd ve := rfl
set_option maxHeartbeats 8000000 in
theorem chmC_any (c : Wh) (A0 : Option Addr) (m k kb mb z : Nat) (mode : Int) (n : Nd) (vd ve : Value) (w : World) (hk : Blk w kb 25 #[.int .i64 c.u, .int .i64 c.g, .slice A0 m k]) (hm : w.cell? ⟨mb, 0, none⟩ = some (.int .i64 mode)) (hkz : kb ≠ z) (hmz : mb ≠ z) (hi : IntsR w (.slice A0 m k) c.gs) (hl : c.gs.length ≤ 1000000) (hz : Blk w z 55 (ndC n vd ve)) :
    Calls Tryz.prog 29 #[.pointer (some ⟨z, 0, none⟩), .pointer (some ⟨kb, 0, none⟩), .pointer (some ⟨mb, 0, none⟩)] w fun e w' => e = .returned (.int .i64 (mayE c n)) ∧ Blk w' z 55 (ndC (if mayE c n = 0 then chmN c n mode else n) vd ve) ∧ w.grownBy w' (some z) := by
  have HZ := Lib.hid hz
  have HPR := Lib.hid (fun (W : World) (hb : Below w.heap.size w W) => show W.cell? ⟨kb, 0, none⟩ = some (.int .i64 c.u) ∧ W.cell? ⟨kb, 1, none⟩ = some (.int .i64 c.g) ∧ W.cell? ⟨kb, 2, none⟩ = some (.slice A0 m k) ∧ W.cell? ⟨mb, 0, none⟩ = some (.int .i64 mode) ∧ W.cell? ⟨z, 0, none⟩ = some (.int .i64 n.kind) ∧ W.cell? ⟨z, 2, none⟩ = some (.int .i64 n.uid) ∧ W.cell? ⟨z, 3, none⟩ = some (.int .i64 n.gid) from
    ⟨(hk.below hb).cell 0, (hk.below hb).cell 1, (hk.below hb).cell 2, bc hb hm, (hz.below hb).cell 0, (hz.below hb).cell 2, (hz.below hb).cell 3⟩)
  have HPS := Lib.hid (fun (W : World) (hb : Below w.heap.size w W) (u : Value) => show (W.setCell ⟨z, 1, none⟩ u).cell? ⟨kb, 0, none⟩ = some (.int .i64 c.u) ∧ (W.setCell ⟨z, 1, none⟩ u).cell? ⟨kb, 1, none⟩ = some (.int .i64 c.g) ∧ (W.setCell ⟨z, 1, none⟩ u).cell? ⟨kb, 2, none⟩ = some (.slice A0 m k) ∧ (W.setCell ⟨z, 1, none⟩ u).cell? ⟨mb, 0, none⟩ = some (.int .i64 mode) ∧ (W.setCell ⟨z, 1, none⟩ u).cell? ⟨z, 0, none⟩ = some (.int .i64 n.kind) ∧ (W.setCell ⟨z, 1, none⟩ u).cell? ⟨z, 2, none⟩ = some (.int .i64 n.uid) ∧ (W.setCell ⟨z, 1, none⟩ u).cell? ⟨z, 3, none⟩ = some (.int .i64 n.gid) from
    ⟨cell_oth (HPR.out W hb).1 (oth_ne (.inl hkz.symm)), cell_oth (HPR.out W hb).2.1 (oth_ne (.inl hkz.symm)), cell_oth (HPR.out W hb).2.2.1 (oth_ne (.inl hkz.symm)), cell_oth (HPR.out W hb).2.2.2.1 (oth_ne (.inl hmz.symm)), cell_oth (HPR.out W hb).2.2.2.2.1 (oth_ne (.inr (by decide))), cell_oth (HPR.out W hb).2.2.2.2.2.1 (oth_ne (.inr (by decide))), cell_oth (HPR.out W hb).2.2.2.2.2.2 (oth_ne (.inr (by decide)))⟩)
  obtain ⟨q, hq⟩ : ∃ q, mayM c n.uid = q := ⟨_, rfl⟩
  have HM := Lib.hid (fun (W : World) => show Calls Tryz.prog 30 #[.agg #[.int .i64 c.u, .int .i64 c.g, .slice A0 m k], .int .i64 n.uid] W fun e w' => e = .returned (.bool q) ∧ Below W.heap.size W w' from by have h1 := mayMode_any c.u c.g A0 m k n.uid W; rw [show (c.u == 0 || n.uid == c.u) = q from hq] at h1; exact h1)
  obtain ⟨M, hM⟩ : ∃ M, modeM c.u c.g c.gs n.kind n.gid mode = M := ⟨_, rfl⟩
  have HD := Lib.hid (fun (W : World) (hb : Below w.heap.size w W) => show Calls Tryz.prog 31 #[.agg #[.int .i64 c.u, .int .i64 c.g, .slice A0 m k], .int .i64 n.kind, .int .i64 n.gid, .int .i64 mode] W fun e w' => e = .returned (.int .i64 M) ∧ Below W.heap.size W w' from by have h1 := mode_any c.u c.g A0 m k c.gs n.kind n.gid mode W (hi.below hb) hl; rw [hM] at h1; exact h1)
  have HE := Lib.hid (show mayE c n = if q = false then 1 else 0 from by unfold mayE; rw [hq])
  have HN := Lib.hid (show chmN c n mode = modN n M n.uid n.gid from by unfold chmN; rw [hM])
  obtain ⟨p0, p1, p2, p3, p4, p5, p6⟩ := HPR.out w (Below.refl _ _)
  have j0 : Below w.heap.size w w.drew := (Below.refl _ _).drew
  clear hk hm hz hi hl hq hM hkz hmz
  rw [HE.out, HN.out]
  cases q with
  | false =>
    go_enter Tryz.func29, Tryz.ntmps29
    go_upto_region 1 with fail
    go_region_held3 (fun w' => w'.cell? ⟨kb, 0, none⟩ = some (.int .i64 c.u) ∧ w'.cell? ⟨kb, 1, none⟩ = some (.int .i64 c.g) ∧ w'.cell? ⟨kb, 2, none⟩ = some (.slice A0 m k) ∧ w'.cell? ⟨mb, 0, none⟩ = some (.int .i64 mode) ∧ w'.cell? ⟨z, 0, none⟩ = some (.int .i64 n.kind) ∧ w'.cell? ⟨z, 2, none⟩ = some (.int .i64 n.uid) ∧ w'.cell? ⟨z, 3, none⟩ = some (.int .i64 n.gid))
      (first | (with_reducible exact HPR.out _ j0) | (with_reducible exact HPR.out _ j1))
      (first | (go_at_call 30; (with_reducible refine (HM.out _).mono ?_); rintro e1 w4 ⟨rfl, hb4⟩; have j1 := bt hb4 j0; clear hb4))
    all_goals (
      go_wp2
      go_ret
      exact ⟨rfl, HZ.out.below j1, grown_below j1 _⟩)
  | true =>
    go_enter Tryz.func29, Tryz.ntmps29
    go_upto_region 1 with fail
    go_region_held3 (fun w' => w'.cell? ⟨kb, 0, none⟩ = some (.int .i64 c.u) ∧ w'.cell? ⟨kb, 1, none⟩ = some (.int .i64 c.g) ∧ w'.cell? ⟨kb, 2, none⟩ = some (.slice A0 m k) ∧ w'.cell? ⟨mb, 0, none⟩ = some (.int .i64 mode) ∧ w'.cell? ⟨z, 0, none⟩ = some (.int .i64 n.kind) ∧ w'.cell? ⟨z, 2, none⟩ = some (.int .i64 n.uid) ∧ w'.cell? ⟨z, 3, none⟩ = some (.int .i64 n.gid))
      (first | (with_reducible exact HPR.out _ j0) | (with_reducible exact HPR.out _ j1))
      (first | (go_at_call 30; (with_reducible refine (HM.out _).mono ?_); rintro e1 w4 ⟨rfl, hb4⟩; have j1 := bt hb4 j0; clear hb4))
    all_goals (
      have j2 := j1.drew
      clear p0 p1 p2 p3 p4 p5 p6
      obtain ⟨p0, p1, p2, p3, p4, p5, p6⟩ := HPR.out w4 j1
      go_upto_region 3 with fail
      go_region_held3 (fun w' => w'.cell? ⟨kb, 0, none⟩ = some (.int .i64 c.u) ∧ w'.cell? ⟨kb, 1, none⟩ = some (.int .i64 c.g) ∧ w'.cell? ⟨kb, 2, none⟩ = some (.slice A0 m k) ∧ w'.cell? ⟨mb, 0, none⟩ = some (.int .i64 mode) ∧ w'.cell? ⟨z, 0, none⟩ = some (.int .i64 n.kind) ∧ w'.cell? ⟨z, 2, none⟩ = some (.int .i64 n.uid) ∧ w'.cell? ⟨z, 3, none⟩ = some (.int .i64 n.gid))
        (first | (with_reducible exact HPR.out _ j2) | (with_reducible exact HPR.out _ j3) | (with_reducible exact HPS.out _ j3 _))
        (first | (go_at_call 31; (with_reducible refine (HD.out _ j2).mono ?_); rintro e2 w5 ⟨rfl, hb5⟩; have j3 := bt hb5 j2; have hz5 := HZ.out.below j3; obtain ⟨x0, x1, x2, x3, x4, x5, x6⟩ := hz5.c7; obtain ⟨f0, f1, f2, f3, f4, f5, f6⟩ := hz5.f7; clear hb5 hz5))
      all_goals (
        go_wp2
        go_ret
        exact ⟨rfl, (HZ.out.below j3).set_ 1 _, grown_trans (grown_below j3 _) (grown_setCell _ _ _)⟩))
end Go.Proofs.YtinalglbibmmpaaGreat
