/-
  The document's examples of stage 14, as mathematics. No condition.
-/
import Derived.Test.YtfopnfgfoicidaaGreatPlP
import Derived.Test.YtfopnfgfoicidaaGreatPlO
import Derived.Test.YtfopnfgfoicidaaGreatBM
namespace Go.Proofs.YtfopnfgfoicidaaGreat
open Go Go.RowKit
set_option maxRecDepth 100000

theorem px {t t' : List Nd} {c : Wh} {p : Nm} {f : Bool} {F : Fo} {k m : Int} {tg : Nm} {n : Nd} {i : Int} (hr : resM t c p f = (F, 0)) (hk : k ≠ 4) (h : F.node = 0) (h2 : canT t c F.dir 3 = true) (h3 : ¬ (8 ≤ (tget t F.dir).ents.length ∨ usedT t = t.length)) (hd : (tget t F.dir).kind = 2) (hn : nok F.name = true) (hm : ¬ F.name ∈ nmE (tget t F.dir).ents)
    (hnd : (plR t c F k m tg).nd = n) (hN : rightP n) (hT : setT (setT t (freeT t 0) n) F.dir (withM (tget t F.dir) F.name (freeT t 0)) = t') (hi : (freeT t 0 : Int) = i) :
    plE t c (resM t c p f) k m tg = 0 ∧ plT t c (resM t c p f) k m tg = t' ∧ plI t c (resM t c p f) k m tg = i := by
  rw [hr]
  obtain ⟨e1, e2, e3, -, -⟩ := pl_w0 (m := m) (tg := tg) hk h h2 h3 hd hn hm (by rw [hnd]; exact hN)
  rw [hnd, hT] at e2
  exact ⟨e1, e2, by rw [e3, hi]⟩
def px0 : Rw := ⟨2, 511, 0, 0, 0, [], [], [], 0⟩
def px1 : Rw := ⟨2, 1533, 0, 7, 1, [100], [], [], 0⟩
def pxD (k m u g : Int) (e : List En) (tg : Nm) : Nd := ⟨k, m, u, g, [], e, tg⟩
def pxT0 : List Nd := [pxD 2 511 0 0 [] [], Nd.zero, Nd.zero, Nd.zero, Nd.zero, Nd.zero, Nd.zero, Nd.zero, Nd.zero]
def pxT1 : List Nd := [pxD 2 511 0 0 [([100], 2)] [], pxD 2 1533 0 7 [] [], Nd.zero, Nd.zero, Nd.zero, Nd.zero, Nd.zero, Nd.zero, Nd.zero]
def pxT2 : List Nd := [pxD 2 511 0 0 [([100], 2), ([120], 3)] [], pxD 2 1533 0 7 [] [], pxD 2 493 1 1 [] [], Nd.zero, Nd.zero, Nd.zero, Nd.zero, Nd.zero, Nd.zero]
def pxT3 : List Nd := [pxD 2 511 0 0 [([100], 2), ([120], 3)] [], pxD 2 1533 0 7 [([120], 4)] [], pxD 2 493 1 1 [] [], pxD 2 1517 1 7 [] [], Nd.zero, Nd.zero, Nd.zero, Nd.zero, Nd.zero]
def pxT4 : List Nd := [pxD 2 511 0 0 [([100], 2), ([102], 5), ([120], 3)] [], pxD 2 1533 0 7 [([120], 4)] [], pxD 2 493 1 1 [] [], pxD 2 1517 1 7 [] [], pxD 1 420 1 1 [] [], Nd.zero, Nd.zero, Nd.zero, Nd.zero]
def pxT5 : List Nd := [pxD 2 511 0 0 [([100], 2), ([102], 5), ([115], 6), ([120], 3)] [], pxD 2 1533 0 7 [([120], 4)] [], pxD 2 493 1 1 [] [], pxD 2 1517 1 7 [] [], pxD 1 420 1 1 [] [], pxD 3 511 1 1 [] [102], Nd.zero, Nd.zero, Nd.zero]
theorem px_dir {m u g : Int} (h1 : 0 ≤ m ∧ m ≤ 4095) (h2 : 0 ≤ u ∧ u ≤ 65535) (h3 : 0 ≤ g ∧ g ≤ 65535) : rightP (pxD 2 m u g [] []) := ⟨⟨h1, h2, h3⟩, .inr (.inl ⟨rfl, rfl, rfl, ents_nil⟩)⟩
theorem px_all : bldA 9 [px0, px1] = .good pxT1 := by
  have r0 : rightP px0.nd := px_dir (by decide) (by decide) (by decide)
  have r1 : rightP px1.nd := px_dir (by decide) (by decide) (by decide)
  have h0 : rtE (newN 9) px0 = 0 := rt_zero.2 ⟨rfl, rfl, rfl, r0, by rw [new_free]; decide⟩
  have e0 : rtT (newN 9) px0 = pxT0 := rfl
  rw [bldA, if_pos h0, e0, bld]
  have k1 : enE pxT0 px1 = 0 := en_zero.2 (.inr ⟨by decide, r1, by decide⟩)
  have i1 : enI pxT0 px1 = 2 := by unfold enI; rw [if_pos k1]; rfl
  have w1 : withE (tget pxT0 1) [100] 2 = 0 := by decide
  have h1 : blE pxT0 px1 = 0 := bl_zero.2 ⟨rfl, k1, by rw [i1]; exact w1⟩
  have e1 : blT pxT0 px1 = pxT1 := by
    unfold blT enT
    rw [if_pos k1, i1]
    rfl
  rw [if_pos h1, e1, bld]
theorem px_trx : Trx pxT1 := (tre_all px_all).1
def whP : Wh := ⟨1, 1, [7]⟩
theorem px_one {t : List Nd} {f : Bool} {n : Nm} {x : Int} (h1 : fitE t n = 0) (h2 : splitP n = [n]) (h3 : srE t whP 1 = 0) (d1 : n ≠ [46]) (d2 : n ≠ [46, 46]) (d3 : ¬ 12 < n.length) (h4 : fnd (tget t 1).ents n = x) (h5 : (tget t x).kind ≠ 3) : resM t whP n f = (⟨1, n, x⟩, 0) := by
  unfold resM
  rw [if_neg (fun q => q h1), h2, wlk_last h3 d1 d2 d3 (by rw [h4]; exact fun q => h5 q.1) rfl, h4]
theorem px_r1 : resM pxT1 whP [120] false = (⟨1, [120], 0⟩, 0) := px_one (by decide +kernel) (by decide +kernel) (by decide +kernel) (by decide) (by decide) (by decide) (by decide +kernel) (by decide +kernel)
theorem px_r2 : resM pxT2 whP [100, 47, 120] false = (⟨2, [120], 0⟩, 0) := by
  have h1 : fitE pxT2 [100, 47, 120] = 0 := by decide +kernel
  have h2 : splitP [100, 47, 120] = [[100], [120]] := by decide +kernel
  have f2 : fnd (tget pxT2 1).ents [100] = 2 := by decide +kernel
  have f3 : fnd (tget pxT2 2).ents [120] = 0 := by decide +kernel
  have s1 : srE pxT2 whP 1 = 0 := by decide +kernel
  have s2 : srE pxT2 whP 2 = 0 := by decide +kernel
  unfold resM
  rw [if_neg (fun q => q h1), h2,
    wlk_on s1 (by decide) (by decide) (by decide) (by rw [f2]; decide) (by rw [f2]; exact fun q => absurd q.1 (by decide +kernel)) (by decide), f2,
    wlk_last s2 (by decide) (by decide) (by decide) (by rw [f3]; exact fun q => absurd q.1 (by decide +kernel)) rfl, f3]
theorem px_r3 : resM pxT3 whP [120] false = (⟨1, [120], 3⟩, 0) := px_one (by decide +kernel) (by decide +kernel) (by decide +kernel) (by decide) (by decide) (by decide) (by decide +kernel) (by decide +kernel)
theorem px_r4 : resM pxT3 whP [102] true = (⟨1, [102], 0⟩, 0) := px_one (by decide +kernel) (by decide +kernel) (by decide +kernel) (by decide) (by decide) (by decide) (by decide +kernel) (by decide +kernel)
theorem px_r5 : resM pxT4 whP [115] false = (⟨1, [115], 0⟩, 0) := px_one (by decide +kernel) (by decide +kernel) (by decide +kernel) (by decide) (by decide) (by decide) (by decide +kernel) (by decide +kernel)
theorem px_m1 : mkM 511 18 = 493 := by decide +kernel
theorem px_m2 : mskM 438 18 = 420 := by decide +kernel
theorem px_1 : plE pxT1 whP (resM pxT1 whP [120] false) 2 (mkM 511 18) [] = 0 ∧ plT pxT1 whP (resM pxT1 whP [120] false) 2 (mkM 511 18) [] = pxT2 ∧ plI pxT1 whP (resM pxT1 whP [120] false) 2 (mkM 511 18) [] = 3 := by
  rw [px_m1]
  exact px (n := pxD 2 493 1 1 [] []) px_r1 (by decide) rfl (by decide +kernel) (by decide +kernel) (by decide +kernel) (by decide +kernel) (by decide +kernel) (by rfl) (px_dir (by decide) (by decide) (by decide)) (by rfl) (by decide +kernel)
theorem px_2 : plE pxT2 whP (resM pxT2 whP [100, 47, 120] false) 2 (mkM 511 18) [] = 0 ∧ plT pxT2 whP (resM pxT2 whP [100, 47, 120] false) 2 (mkM 511 18) [] = pxT3 ∧ plI pxT2 whP (resM pxT2 whP [100, 47, 120] false) 2 (mkM 511 18) [] = 4 := by
  rw [px_m1]
  exact px (n := pxD 2 1517 1 7 [] []) px_r2 (by decide) rfl (by decide +kernel) (by decide +kernel) (by decide +kernel) (by decide +kernel) (by decide +kernel) (by rfl) (px_dir (by decide) (by decide) (by decide)) (by rfl) (by decide +kernel)
theorem px_3 : plE pxT3 whP (resM pxT3 whP [120] false) 2 (mkM 511 18) [] = 17 := by
  rw [px_r3]
  exact pl_w17 (by decide)
theorem px_4 : plE pxT3 whP (resM pxT3 whP [102] true) 1 (mskM 438 18) [] = 0 ∧ plT pxT3 whP (resM pxT3 whP [102] true) 1 (mskM 438 18) [] = pxT4 ∧ plI pxT3 whP (resM pxT3 whP [102] true) 1 (mskM 438 18) [] = 5 := by
  rw [px_m2]
  exact px (n := pxD 1 420 1 1 [] []) px_r4 (by decide) rfl (by decide +kernel) (by decide +kernel) (by decide +kernel) (by decide +kernel) (by decide +kernel) (by rfl) ⟨⟨by decide, by decide, by decide⟩, .inl ⟨rfl, rfl, rfl, by decide⟩⟩ (by rfl) (by decide +kernel)
theorem px_5 : plE pxT4 whP (resM pxT4 whP [115] false) 3 511 [102] = 0 ∧ plT pxT4 whP (resM pxT4 whP [115] false) 3 511 [102] = pxT5 ∧ plI pxT4 whP (resM pxT4 whP [115] false) 3 511 [102] = 6 :=
  px (n := pxD 3 511 1 1 [] [102]) px_r5 (by decide) rfl (by decide +kernel) (by decide +kernel) (by decide +kernel) (by decide +kernel) (by decide +kernel) (by rfl) ⟨⟨by decide, by decide, by decide⟩, .inr (.inr ⟨rfl, rfl, rfl, rfl, by decide +kernel⟩)⟩ (by rfl) (by decide +kernel)
theorem px_trx2 : Trx pxT2 := by rw [← px_1.2.1]; exact pl_trx px_trx whP [120] false _ _ (by decide)
theorem px_trx3 : Trx pxT3 := by rw [← px_2.2.1]; exact pl_trx px_trx2 whP [100, 47, 120] false _ _ (by decide)
theorem px_trx4 : Trx pxT4 := by rw [← px_4.2.1]; exact pl_trx px_trx3 whP [102] true _ _ (by decide)
theorem px_trx5 : Trx pxT5 := by rw [← px_5.2.1]; exact pl_trx px_trx4 whP [115] false _ _ (by decide)
end Go.Proofs.YtfopnfgfoicidaaGreat
