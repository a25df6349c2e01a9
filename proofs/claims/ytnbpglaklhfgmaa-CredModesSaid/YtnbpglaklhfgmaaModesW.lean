/-
  The walk of CredModes: it answers true of whoever asks, and of every number.
-/
import Derived.Test.YtnbpglaklhfgmaaAwake
namespace Go.Proofs.Ytnbpglaklhfgmaa
open Go Go.RowKit

set_option maxRecDepth 100000 in
set_option maxHeartbeats 8000000 in
theorem modesWalk (u g : Int) (A : Option Addr) (n c : Nat) (gs : List Int) (kind y m : Int) (w : World) (h : IntsR w (.slice A n c) gs) :
    Calls Try.prog 5 #[.agg #[.int .i64 u, .int .i64 g, .slice A n c], .int .i64 kind, .int .i64 y, .int .i64 m] w fun e w' => e = .returned (.bool true) ∧ Below w.heap.size w w' := by
  have hlen := h.at.1
  subst hlen
  have C0 := Lib.hid (show Cr w w.heap.size u g A gs.length c gs (w.alloc (.cells #[.int .i64 u, .int .i64 g, .slice A gs.length c] 24)) from ⟨ba _ _, h.below (ba _ _), by simp, by simp, by simp⟩)
  clear h
  by_cases hfar : (20 : Int) < (gs.length : Int)
  · go_enter Try.func5, Try.ntmps5
    go_wp2_with fail
    refine (awake_any _).mono ?_
    rintro e w1 ⟨rfl, hb1⟩
    have C1 := Lib.hid (C0.out.below hb1)
    obtain ⟨-, -, k0, k1, k2⟩ := C1.out
    clear hb1
    go_wp2
    go_ret
    exact ⟨rfl, C1.out.1⟩
  have hn : gs.length ≤ 1000000 := by omega
  have HA := Lib.hid (fun W hI => mode_any u g A gs.length c gs kind y m W hI hn)
  have HB := Lib.hid (fun W hI => rmode_any u g A gs.length c gs kind y m W hI hn)
  have HC := Lib.hid (fun W => written_any u g A gs.length c kind m W)
  have HD := Lib.hid (fun W => rwritten_any u g A gs.length c kind m W)
  generalize modeM u g gs kind y m = R1 at HA HB
  generalize writM u kind m = R2 at HC HD
  go_enter Try.func5, Try.ntmps5
  go_wp2_with fail
  refine (awake_any _).mono ?_
  rintro e w1 ⟨rfl, hb1⟩
  have C1 := Lib.hid (C0.out.below hb1)
  obtain ⟨-, -, k0, k1, k2⟩ := C1.out
  clear hb1
  go_wp2_with fail
  refine (model_any _ _ _ _ _ _).mono ?_
  rintro e w2 ⟨rfl, hb2⟩
  have C2 := Lib.hid ((C1.out.below hb2).below (ba _ (.cells #[.int .i64 u, .int .i64 g, .slice A gs.length c] 26)))
  clear hb2 k0 k1 k2
  go_wp2_with fail
  have D2 := Lib.hid (show Cr w w2.heap.size u g A gs.length c gs (w2.alloc (.cells #[.int .i64 u, .int .i64 g, .slice A gs.length c] 26)) from ⟨C2.out.1, C2.out.2.1, by simp, by simp, by simp⟩)
  generalize w2.alloc (.cells #[.int .i64 u, .int .i64 g, .slice A gs.length c] 26) = W at C2 D2 ⊢
  generalize w2.heap.size = b2 at D2 ⊢
  have hI : IntsR W.drew (.slice A gs.length c) gs := C2.out.2.1.below (Below.refl _ _).drew
  obtain ⟨hs6, -, k0, k1, k2⟩ := C2.out
  obtain ⟨-, -, k3, k4, k5⟩ := D2.out
  have hs0 : W.drew.cell? ⟨w.heap.size, 0, none⟩ = some (.int .i64 u) := k0
  have hs1 : W.drew.cell? ⟨w.heap.size, 1, none⟩ = some (.int .i64 g) := k1
  have hs2 : W.drew.cell? ⟨w.heap.size, 2, none⟩ = some (.slice A gs.length c) := k2
  have hs3 : W.drew.cell? ⟨b2, 0, none⟩ = some (.int .i64 u) := k3
  have hs4 : W.drew.cell? ⟨b2, 1, none⟩ = some (.int .i64 g) := k4
  have hs5 : W.drew.cell? ⟨b2, 2, none⟩ = some (.slice A gs.length c) := k5
  replace hs6 := hs6.drew
  clear k0 k1 k2 k3 k4 k5 C0 C1 C2 D2
  go_region_held3 (fun w' => w'.cell? ⟨w.heap.size, 0, none⟩ = some (.int .i64 u) ∧ w'.cell? ⟨w.heap.size, 1, none⟩ = some (.int .i64 g) ∧ w'.cell? ⟨w.heap.size, 2, none⟩ = some (.slice A gs.length c) ∧ w'.cell? ⟨b2, 0, none⟩ = some (.int .i64 u) ∧ w'.cell? ⟨b2, 1, none⟩ = some (.int .i64 g) ∧ w'.cell? ⟨b2, 2, none⟩ = some (.slice A gs.length c) ∧ Below w.heap.size w w')
    (first | exact ⟨hs0, hs1, hs2, hs3, hs4, hs5, hs6⟩ | exact ⟨(bc hb4 hs0), (bc hb4 hs1), (bc hb4 hs2), (bc hb4 hs3), (bc hb4 hs4), (bc hb4 hs5), (bt hb4 hs6)⟩ | exact ⟨(bc hb5 (bc hb4 hs0)), (bc hb5 (bc hb4 hs1)), (bc hb5 (bc hb4 hs2)), (bc hb5 (bc hb4 hs3)), (bc hb5 (bc hb4 hs4)), (bc hb5 (bc hb4 hs5)), (bt hb5 (bt hb4 hs6))⟩ | exact ⟨(bc hb6 (bc hb5 (bc hb4 hs0))), (bc hb6 (bc hb5 (bc hb4 hs1))), (bc hb6 (bc hb5 (bc hb4 hs2))), (bc hb6 (bc hb5 (bc hb4 hs3))), (bc hb6 (bc hb5 (bc hb4 hs4))), (bc hb6 (bc hb5 (bc hb4 hs5))), (bt hb6 (bt hb5 (bt hb4 hs6)))⟩ | exact ⟨(bc hb7 (bc hb6 (bc hb5 (bc hb4 hs0)))), (bc hb7 (bc hb6 (bc hb5 (bc hb4 hs1)))), (bc hb7 (bc hb6 (bc hb5 (bc hb4 hs2)))), (bc hb7 (bc hb6 (bc hb5 (bc hb4 hs3)))), (bc hb7 (bc hb6 (bc hb5 (bc hb4 hs4)))), (bc hb7 (bc hb6 (bc hb5 (bc hb4 hs5)))), (bt hb7 (bt hb6 (bt hb5 (bt hb4 hs6))))⟩)
    (first | (go_at_call 22; refine (HA.out _ hI).mono ?_; rintro e w4 ⟨rfl, hb4⟩) | (go_at_call 23; refine (HB.out _ (hI.below hb4)).mono ?_; rintro e w5 ⟨rfl, hb5⟩) | (go_at_call 24; refine (HC.out _).mono ?_; rintro e w6 ⟨rfl, hb6⟩) | (go_at_call 25; refine (HD.out _).mono ?_; rintro e w7 ⟨rfl, hb7⟩))
  all_goals
    go_wp2
    go_ret
    exact ⟨rfl, (bt hb7 (bt hb6 (bt hb5 (bt hb4 hs6))))⟩
end Go.Proofs.Ytnbpglaklhfgmaa
