/-
  The document's example of stage 13, as mathematics. No condition.
-/
import Derived.Test.YtinalglbibmmpaaGreatAtT
import Derived.Test.YtinalglbibmmpaaGreatRB
namespace Go.Proofs.YtinalglbibmmpaaGreat
open Go Go.RowKit
set_option maxRecDepth 100000

theorem ex_df : resM exT3 whA [100, 47, 102] true = (⟨2, [102], 3⟩, 0) := by
  have h1 : fitE exT3 [100, 47, 102] = 0 := by decide +kernel
  have h2 : splitP [100, 47, 102] = [[100], [102]] := by decide +kernel
  have f2 : fnd (tget exT3 1).ents [100] = 2 := by decide +kernel
  have f3 : fnd (tget exT3 2).ents [102] = 3 := by decide +kernel
  unfold resM
  rw [if_neg (fun q => q h1), h2,
    wlk_on sr_A1 (by decide) (by decide) (by decide) (by rw [f2]; decide) (by rw [f2]; exact fun q => absurd q.1 (by decide +kernel)) (by decide), f2,
    wlk_last sr_A2 (by decide) (by decide) (by decide) (by rw [f3]; exact fun q => absurd q.1 (by decide +kernel)) rfl, f3]
def exS3 : Sta := ⟨3, 1, 420, 1, 1, 1, 2⟩
theorem ex_t3 : staT exT3 3 = exS3 := rfl
theorem ex_stat : staM exT3 whA [115] true = (exS3, 0) := by
  unfold staM
  rw [ex_s, staF_good (R := (⟨2, [102], 3⟩, 0)) rfl (by decide), ex_t3]
theorem ex_statdf : staM exT3 whA [100, 47, 102] true = (exS3, 0) := by
  unfold staM
  rw [ex_df, staF_good (R := (⟨2, [102], 3⟩, 0)) rfl (by decide), ex_t3]
def exN3 : Nd := ⟨1, 420, 1, 1, [104, 105], [], []⟩
theorem ex_n3 : tget exT3 3 = exN3 := rfl
theorem ex_chw1 : chwE exT3 whA [100, 47, 102] (-1) 1 true = 0 := by
  rw [chwE_in (by decide) (by decide), ex_statdf]
  unfold chwF
  rw [if_neg (fun q => q rfl)]
  exact if_neg (by show mayO whA (tget exT3 3) (-1) 1 ≠ false; rw [ex_n3]; decide +kernel)
theorem ex_chw1T : chwT exT3 whA [100, 47, 102] (-1) 1 true = exT3 := by
  rw [chwT_set ex_chw1 (by decide), ex_statdf]
  have e1 : writM 1 1 420 = 420 := by decide +kernel
  have e2 : chwN whA (tget exT3 3) (-1) 1 = tget exT3 3 := by
    rw [ex_n3]
    show modN exN3 (writM 1 1 420) _ _ = exN3
    rw [e1]
    rfl
  show setT exT3 3 (chwN whA (tget exT3 3) (-1) 1) = exT3
  rw [e2]
  exact set_same ⟨by decide, by decide⟩
theorem ex_chw2 : chwE exT3 whA [100, 47, 102] 2 (-1) true = 1 := by
  rw [chwE_in (by decide) (by decide), ex_statdf]
  unfold chwF
  rw [if_neg (fun q => q rfl)]
  exact if_pos (by show mayO whA (tget exT3 3) 2 (-1) = false; rw [ex_n3]; decide +kernel)
theorem ex_chm3 : chmE exT3 whA [115] 4095 = 0 := by
  rw [chmE_in (by decide) (by decide), ex_stat]
  unfold chmF
  rw [if_neg (fun q => q rfl)]
  exact if_neg (by show mayM whA (tget exT3 3).uid ≠ false; rw [ex_n3]; decide +kernel)
theorem ex_chm3T : tget (chmT exT3 whA [115] 4095) 3 = ⟨1, 4095, 1, 1, [104, 105], [], []⟩ ∧ tis (chmT exT3 whA [115] 4095) 3 = true := by
  have e1 : modeM 1 1 [] 1 1 4095 = 4095 := by decide +kernel
  have e2 : tget (chmT exT3 whA [115] 4095) 3 = ⟨1, 4095, 1, 1, [104, 105], [], []⟩ := by
    rw [chm_get ex_chm3, ex_stat]
    show (if (3 : Int) = 3 then chmN whA (tget exT3 3) 4095 else tget exT3 3) = _
    rw [if_pos rfl, ex_n3]
    show modN exN3 (modeM 1 1 [] 1 1 4095) _ _ = _
    rw [e1]
    rfl
  refine ⟨e2, ?_⟩
  unfold tis
  rw [e2]
  decide
theorem ex_trx : Trx exT3 := (tre_all ex_all).1
end Go.Proofs.YtinalglbibmmpaaGreat
