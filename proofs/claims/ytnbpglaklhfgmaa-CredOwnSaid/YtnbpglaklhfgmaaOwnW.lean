/-
  The walk of CredOwn: it answers true of whoever asks, and of every number.
-/
import Derived.Test.YtnbpglaklhfgmaaOwnA
namespace Go.Proofs.Ytnbpglaklhfgmaa
open Go Go.RowKit

set_option maxRecDepth 100000 in
set_option maxHeartbeats 8000000 in
theorem ownWalk (u g : Int) (A : Option Addr) (n c : Nat) (gs : List Int) (x y tu tg m : Int) (w : World) (h : IntsR w (.slice A n c) gs) :
    Calls Try.prog 4 #[.agg #[.int .i64 u, .int .i64 g, .slice A n c], .int .i64 x, .int .i64 y, .int .i64 tu, .int .i64 tg, .int .i64 m] w fun e w' => e = .returned (.bool true) ∧ Below w.heap.size w w' := by
  by_cases hur : (u == 0) = true
  · exact ownRoot u g A n c gs x y tu tg m w hur h
  have HU := Lib.hid (show ¬ u = 0 by simpa using hur)
  clear hur
  have hlen := h.at.1
  subst hlen
  have C0 := Lib.hid (show Cr w w.heap.size u g A gs.length c gs (w.alloc (.cells #[.int .i64 u, .int .i64 g, .slice A gs.length c] 24)) from ⟨ba _ _, h.below (ba _ _), by simp, by simp, by simp⟩)
  clear h
  by_cases hfar : (20 : Int) < (gs.length : Int)
  · go_enter Try.func4, Try.ntmps4
    go_wp2_with fail
    refine (awake_any _).mono ?_
    rintro e w1 ⟨rfl, hb1⟩
    have C1 := Lib.hid (C0.out.below hb1)
    obtain ⟨-, -, k0, k1, k2⟩ := C1.out
    clear hb1
    go_wp2
    go_ret
    exact ⟨rfl, C1.out.1⟩
  have hn : gs.length ≤ 1000000 := by omega
  have HA := Lib.hid (fun W => mayMode_any u g A gs.length c x W)
  have HC := Lib.hid (fun W hI => mayOwn_any u g A gs.length c gs x y tu tg W hI hn)
  have HD := Lib.hid (fun W hI => rmayOwn_any u g A gs.length c gs x y tu tg W hI hn)
  have HE := Lib.hid (fun W => sticky_any u g A gs.length c m tu x W)
  have HF := Lib.hid (fun W => rsticky_any u g A gs.length c m tu x W)
  generalize mayOwn u g gs x y tu tg = R2 at HC HD
  generalize (u == 0 || bits .and .i64 m 512 == 0 || tu == u || x == u) = R3 at HE HF
  by_cases hu : u = 0
  · exact absurd hu HU.out
  · have hu' : (u == 0) = false := by simpa using hu
    rw [hu', Bool.false_or, bcomm x u] at HA
    clear hu
    go_enter Try.func4, Try.ntmps4
    go_wp2_with fail
    refine (awake_any _).mono ?_
    rintro e w1 ⟨rfl, hb1⟩
    have C1 := Lib.hid (C0.out.below hb1)
    obtain ⟨-, -, k0, k1, k2⟩ := C1.out
    clear hb1
    go_wp2_with fail
    refine (model_any _ _ _ _ _ _).mono ?_
    rintro e w2 ⟨rfl, hb2⟩
    have C2 := Lib.hid ((C1.out.below hb2).below (ba _ (.cells #[.int .i64 u, .int .i64 g, .slice A gs.length c] 26)))
    clear hb2 k0 k1 k2
    go_wp2_with fail
    have D2 := Lib.hid (show Cr w w2.heap.size u g A gs.length c gs (w2.alloc (.cells #[.int .i64 u, .int .i64 g, .slice A gs.length c] 26)) from ⟨C2.out.1, C2.out.2.1, by simp, by simp, by simp⟩)
    generalize w2.alloc (.cells #[.int .i64 u, .int .i64 g, .slice A gs.length c] 26) = W at C2 D2 ⊢
    generalize w2.heap.size = b2 at D2 ⊢
    have hI : IntsR W.drew (.slice A gs.length c) gs := C2.out.2.1.below (Below.refl _ _).drew
    obtain ⟨hs6, -, k0, k1, k2⟩ := C2.out
    obtain ⟨-, -, k3, k4, k5⟩ := D2.out
    have hs0 : W.drew.cell? ⟨w.heap.size, 0, none⟩ = some (.int .i64 u) := k0
    have hs1 : W.drew.cell? ⟨w.heap.size, 1, none⟩ = some (.int .i64 g) := k1
    have hs2 : W.drew.cell? ⟨w.heap.size, 2, none⟩ = some (.slice A gs.length c) := k2
    have hs3 : W.drew.cell? ⟨b2, 0, none⟩ = some (.int .i64 u) := k3
    have hs4 : W.drew.cell? ⟨b2, 1, none⟩ = some (.int .i64 g) := k4
    have hs5 : W.drew.cell? ⟨b2, 2, none⟩ = some (.slice A gs.length c) := k5
    replace hs6 := hs6.drew
    clear k0 k1 k2 k3 k4 k5 C0 C1 C2 D2
    go_region_held3 (fun w' => w'.cell? ⟨w.heap.size, 0, none⟩ = some (.int .i64 u) ∧ w'.cell? ⟨w.heap.size, 1, none⟩ = some (.int .i64 g) ∧ w'.cell? ⟨w.heap.size, 2, none⟩ = some (.slice A gs.length c) ∧ w'.cell? ⟨b2, 0, none⟩ = some (.int .i64 u) ∧ w'.cell? ⟨b2, 1, none⟩ = some (.int .i64 g) ∧ w'.cell? ⟨b2, 2, none⟩ = some (.slice A gs.length c) ∧ Below w.heap.size w w')
      (first | exact ⟨hs0, hs1, hs2, hs3, hs4, hs5, hs6⟩ | exact ⟨(bc hb4 hs0), (bc hb4 hs1), (bc hb4 hs2), (bc hb4 hs3), (bc hb4 hs4), (bc hb4 hs5), (bt hb4 hs6)⟩ | exact ⟨(bc hb5 (bc hb4 hs0)), (bc hb5 (bc hb4 hs1)), (bc hb5 (bc hb4 hs2)), (bc hb5 (bc hb4 hs3)), (bc hb5 (bc hb4 hs4)), (bc hb5 (bc hb4 hs5)), (bt hb5 (bt hb4 hs6))⟩ | exact ⟨(bc hb6 (bc hb5 (bc hb4 hs0))), (bc hb6 (bc hb5 (bc hb4 hs1))), (bc hb6 (bc hb5 (bc hb4 hs2))), (bc hb6 (bc hb5 (bc hb4 hs3))), (bc hb6 (bc hb5 (bc hb4 hs4))), (bc hb6 (bc hb5 (bc hb4 hs5))), (bt hb6 (bt hb5 (bt hb4 hs6)))⟩ | exact ⟨(bc hb7 (bc hb6 (bc hb5 (bc hb4 hs0)))), (bc hb7 (bc hb6 (bc hb5 (bc hb4 hs1)))), (bc hb7 (bc hb6 (bc hb5 (bc hb4 hs2)))), (bc hb7 (bc hb6 (bc hb5 (bc hb4 hs3)))), (bc hb7 (bc hb6 (bc hb5 (bc hb4 hs4)))), (bc hb7 (bc hb6 (bc hb5 (bc hb4 hs5)))), (bt hb7 (bt hb6 (bt hb5 (bt hb4 hs6))))⟩ | exact ⟨(bc hb8 (bc hb7 (bc hb6 (bc hb5 (bc hb4 hs0))))), (bc hb8 (bc hb7 (bc hb6 (bc hb5 (bc hb4 hs1))))), (bc hb8 (bc hb7 (bc hb6 (bc hb5 (bc hb4 hs2))))), (bc hb8 (bc hb7 (bc hb6 (bc hb5 (bc hb4 hs3))))), (bc hb8 (bc hb7 (bc hb6 (bc hb5 (bc hb4 hs4))))), (bc hb8 (bc hb7 (bc hb6 (bc hb5 (bc hb4 hs5))))), (bt hb8 (bt hb7 (bt hb6 (bt hb5 (bt hb4 hs6)))))⟩)
      (first | (go_at_call 17; refine (HA.out _).mono ?_; rintro e w4 ⟨rfl, hb4⟩) | (go_at_call 18; refine (HC.out _ (hI.below hb4)).mono ?_; rintro e w5 ⟨rfl, hb5⟩) | (go_at_call 19; refine (HD.out _ ((hI.below hb4).below hb5)).mono ?_; rintro e w6 ⟨rfl, hb6⟩) | (go_at_call 20; refine (HE.out _).mono ?_; rintro e w7 ⟨rfl, hb7⟩) | (go_at_call 21; refine (HF.out _).mono ?_; rintro e w8 ⟨rfl, hb8⟩))
    all_goals
      go_wp2
      go_ret
      exact ⟨rfl, (bt hb8 (bt hb7 (bt hb6 (bt hb5 (bt hb4 hs6)))))⟩
end Go.Proofs.Ytnbpglaklhfgmaa
