/-
  The document's examples of stage 16, as plain mathematics. No condition.
-/
import Derived.Test.YtfopnfgfoicidaaGreatFiM
import Derived.Test.YtfopnfgfoicidaaGreatPlO
import Derived.Test.YtfopnfgfoicidaaGreatBM
namespace Go.Proofs.YtfopnfgfoicidaaGreat
open Go Go.RowKit
set_option maxRecDepth 100000

def fz0 : Rw := ⟨2, 493, 0, 0, 0, [], [], [], 0⟩
def fz1 : Rw := ⟨2, 488, 1, 1, 1, [100], [], [], 0⟩
def fz2 : Rw := ⟨1, 420, 1, 1, 2, [102], [104, 105], [], 0⟩
def fz3 : Rw := ⟨3, 511, 0, 0, 1, [115], [], [100, 47, 102], 0⟩
def fzD (k m u g : Int) (d : List UInt8) (e : List En) (tg : Nm) : Nd := ⟨k, m, u, g, d, e, tg⟩
def fzA0 : List Nd := [fzD 2 493 0 0 [] [] [], Nd.zero, Nd.zero, Nd.zero, Nd.zero, Nd.zero, Nd.zero, Nd.zero, Nd.zero]
def fzA1 : List Nd := [fzD 2 493 0 0 [] [([100], 2)] [], fzD 2 488 1 1 [] [] [], Nd.zero, Nd.zero, Nd.zero, Nd.zero, Nd.zero, Nd.zero, Nd.zero]
def fzA2 : List Nd := [fzD 2 493 0 0 [] [([100], 2)] [], fzD 2 488 1 1 [] [([102], 3)] [], fzD 1 420 1 1 [104, 105] [] [], Nd.zero, Nd.zero, Nd.zero, Nd.zero, Nd.zero, Nd.zero]
def fzT (d : List UInt8) : List Nd := [fzD 2 493 0 0 [] [([100], 2), ([115], 4)] [], fzD 2 488 1 1 [] [([102], 3)] [], fzD 1 420 1 1 d [] [], fzD 3 511 0 0 [] [] [100, 47, 102], Nd.zero, Nd.zero, Nd.zero, Nd.zero, Nd.zero]
theorem fz_dir {m u g : Int} (h1 : 0 ≤ m ∧ m ≤ 4095) (h2 : 0 ≤ u ∧ u ≤ 65535) (h3 : 0 ≤ g ∧ g ≤ 65535) : rightP (fzD 2 m u g [] [] []) := ⟨⟨h1, h2, h3⟩, .inr (.inl ⟨rfl, rfl, rfl, ents_nil⟩)⟩
theorem fz_all : bldA 9 [fz0, fz1, fz2, fz3] = .good (fzT [104, 105]) := by
  have r0 : rightP fz0.nd := fz_dir (by decide) (by decide) (by decide)
  have r1 : rightP fz1.nd := fz_dir (by decide) (by decide) (by decide)
  have r2 : rightP fz2.nd := ⟨⟨by decide, by decide, by decide⟩, .inl ⟨rfl, rfl, rfl, by decide⟩⟩
  have r3 : rightP fz3.nd := ⟨⟨by decide, by decide, by decide⟩, .inr (.inr ⟨rfl, rfl, rfl, rfl, by decide +kernel⟩)⟩
  have h0 : rtE (newN 9) fz0 = 0 := rt_zero.2 ⟨rfl, rfl, rfl, r0, by rw [new_free]; decide⟩
  have e0 : rtT (newN 9) fz0 = fzA0 := rfl
  rw [bldA, if_pos h0, e0, bld]
  have k1 : enE fzA0 fz1 = 0 := en_zero.2 (.inr ⟨by decide, r1, by decide⟩)
  have i1 : enI fzA0 fz1 = 2 := by unfold enI; rw [if_pos k1]; rfl
  have w1 : withE (tget fzA0 1) [100] 2 = 0 := by decide
  have h1 : blE fzA0 fz1 = 0 := bl_zero.2 ⟨rfl, k1, by rw [i1]; exact w1⟩
  have e1 : blT fzA0 fz1 = fzA1 := by
    unfold blT enT
    rw [if_pos k1, i1]
    rfl
  rw [if_pos h1, e1, bld]
  have k2 : enE fzA1 fz2 = 0 := en_zero.2 (.inr ⟨by decide, r2, by decide⟩)
  have i2 : enI fzA1 fz2 = 3 := by unfold enI; rw [if_pos k2]; rfl
  have w2 : withE (tget fzA1 2) [102] 3 = 0 := by decide
  have h2 : blE fzA1 fz2 = 0 := bl_zero.2 ⟨rfl, k2, by rw [i2]; exact w2⟩
  have e2 : blT fzA1 fz2 = fzA2 := by
    unfold blT enT
    rw [if_pos k2, i2]
    rfl
  rw [if_pos h2, e2, bld]
  have k3 : enE fzA2 fz3 = 0 := en_zero.2 (.inr ⟨by decide, r3, by decide⟩)
  have i3 : enI fzA2 fz3 = 4 := by unfold enI; rw [if_pos k3]; rfl
  have w3 : withE (tget fzA2 1) [115] 4 = 0 := by decide
  have h3 : blE fzA2 fz3 = 0 := bl_zero.2 ⟨rfl, k3, by rw [i3]; exact w3⟩
  have e3 : blT fzA2 fz3 = fzT [104, 105] := by
    unfold blT enT
    rw [if_pos k3, i3]
    rfl
  rw [if_pos h3, e3, bld]
theorem fz_trx : Trx (fzT [104, 105]) := (tre_all fz_all).1
def whF : Wh := ⟨1, 1, []⟩
theorem fz_r1 : resM (fzT [104, 105]) whF [100, 47, 102] false = (⟨2, [102], 3⟩, 0) := by
  have h1 : fitE (fzT [104, 105]) [100, 47, 102] = 0 := by decide +kernel
  have h2 : splitP [100, 47, 102] = [[100], [102]] := by decide +kernel
  have f2 : fnd (tget (fzT [104, 105]) 1).ents [100] = 2 := by decide +kernel
  have f3 : fnd (tget (fzT [104, 105]) 2).ents [102] = 3 := by decide +kernel
  have s1 : srE (fzT [104, 105]) whF 1 = 0 := by decide +kernel
  have s2 : srE (fzT [104, 105]) whF 2 = 0 := by decide +kernel
  unfold resM
  rw [if_neg (fun q => q h1), h2,
    wlk_on s1 (by decide) (by decide) (by decide) (by rw [f2]; decide) (by rw [f2]; exact fun q => absurd q.1 (by decide +kernel)) (by decide), f2,
    wlk_last s2 (by decide) (by decide) (by decide) (by rw [f3]; exact fun q => absurd q.1 (by decide +kernel)) rfl, f3]
theorem fz_r2 : resM (fzT [104, 105]) whF [115] true = (⟨2, [102], 3⟩, 0) := by
  have h1 : fitE (fzT [104, 105]) [115] = 0 := by decide +kernel
  have h2 : splitP [115] = [[115]] := by decide +kernel
  have f1 : fnd (tget (fzT [104, 105]) 1).ents [115] = 4 := by decide +kernel
  have t4 : (tget (fzT [104, 105]) 4).target = [100, 47, 102] := rfl
  have k4 : (tget (fzT [104, 105]) 4).kind = 3 := rfl
  have h3 : splitP [100, 47, 102] = [[100], [102]] := by decide +kernel
  have f2 : fnd (tget (fzT [104, 105]) 1).ents [100] = 2 := by decide +kernel
  have f3 : fnd (tget (fzT [104, 105]) 2).ents [102] = 3 := by decide +kernel
  have s1 : srE (fzT [104, 105]) whF 1 = 0 := by decide +kernel
  have s2 : srE (fzT [104, 105]) whF 2 = 0 := by decide +kernel
  have a0 : ¬ absP [100, 47, 102] = true := by decide +kernel
  unfold resM
  rw [if_neg (fun q => q h1), h2,
    wlk_link s1 (by decide) (by decide) (by decide) (by rw [f1]; exact fun q => absurd q.1 (by decide)) (by rw [f1]; exact ⟨k4, .inl rfl⟩), f1, t4, if_neg a0, h3]
  show wlk (fzT [104, 105]) whF true 7 [[100], [102]] 1 = _
  rw [wlk_on s1 (by decide) (by decide) (by decide) (by rw [f2]; decide) (by rw [f2]; exact fun q => absurd q.1 (by decide +kernel)) (by decide), f2,
    wlk_last s2 (by decide) (by decide) (by decide) (by rw [f3]; exact fun q => absurd q.1 (by decide +kernel)) rfl, f3]
theorem fz_1 : foE (fzT [104, 105]) whF 0 [100, 47, 102] 14 0 = 17 := by
  unfold foE
  rw [show flR 14 = true from by decide +kernel, if_neg (by decide), show flF 14 = false from by decide +kernel, fz_r1, if_neg (fun q => q rfl), if_neg (by decide)]
  decide +kernel
theorem fz_2 : foE (fzT [104, 105]) whF 0 [115] 19 0 = 0 ∧ foT (fzT [104, 105]) whF 0 [115] 19 0 = fzT [] ∧ foI (fzT [104, 105]) whF 0 [115] 19 0 = 3 := by
  have h0 : foE (fzT [104, 105]) whF 0 [115] 19 0 = 0 := by
    unfold foE
    rw [show flR 19 = true from by decide +kernel, if_neg (by decide), show flF 19 = true from by decide +kernel, fz_r2, if_neg (fun q => q rfl), if_neg (by decide)]
    decide +kernel
  refine ⟨h0, ?_, ?_⟩
  · unfold foT
    rw [if_neg (fun q => q h0), show flF 19 = true from by decide +kernel, fz_r2, if_neg (by decide), if_pos (by decide +kernel)]
    rfl
  · unfold foI
    rw [if_neg (fun q => q h0), show flF 19 = true from by decide +kernel, fz_r2, if_neg (by decide)]
theorem fz_3 : fwE (fzT []) 3 0 [120] = 0 ∧ fwT (fzT []) whF 3 0 [120] = fzT [120] := ⟨by decide +kernel, by rfl⟩
theorem fz_4 : fwE (fzT [120]) 3 2 [97, 98] = 0 ∧ fwT (fzT [120]) whF 3 2 [97, 98] = fzT [120, 0, 97, 98] := ⟨by decide +kernel, by rfl⟩
theorem fz_5 : faE (fzT [120, 0, 97, 98]) 3 0 9 = 0 ∧ faB (fzT [120, 0, 97, 98]) 3 0 9 = [120, 0, 97, 98] := ⟨by decide +kernel, by decide +kernel⟩
theorem fz_6 : faE (fzT [120, 0, 97, 98]) 1 0 9 = 9 ∧ faB (fzT [120, 0, 97, 98]) 1 0 9 = [] := ⟨by decide +kernel, by decide +kernel⟩
theorem fz_ok1 : okT (fzT [104, 105]) := fz_trx.ok
theorem fz_rt : rightP (wrN whF (tget (fzT [104, 105]) 3) []) := wr_right (tis_right fz_ok1 (by decide +kernel)) rfl whF (by decide)
theorem fz_ok2 : okT (fzT []) := by
  have h : setT (fzT [104, 105]) 3 (wrN whF (tget (fzT [104, 105]) 3) []) = fzT [] := rfl
  rw [← h]
  exact ok_setT fz_ok1 _ (.inr fz_rt)
theorem fz_ok3 : okT (fzT [120]) := by rw [← fz_3.2]; exact fw_ok fz_ok2 whF 3 0 [120]
theorem fz_ok4 : okT (fzT [120, 0, 97, 98]) := by rw [← fz_4.2]; exact fw_ok fz_ok3 whF 3 2 [97, 98]
end Go.Proofs.YtfopnfgfoicidaaGreat
