/-
  Why nothing is made at a place that is found, one way behind the other; plain mathematics. The conditions are said at each.
-/
import Derived.Test.YtfopnfgfoicidaaGreatPlM
namespace Go.Proofs.YtfopnfgfoicidaaGreat
open Go Go.RowKit
set_option maxRecDepth 100000

section
variable {t : List Nd} {c : Wh} {F : Fo} {k m : Int} {tg : Nm}
theorem pl_pre {x : Int} (h : x ≠ 0) : plE t c (F, x) k m tg = x := if_pos h
theorem pl_w17 (h : F.node ≠ 0) : plE t c (F, 0) k m tg = 17 := by
  unfold plE
  rw [if_neg (fun q => q rfl), if_pos h]
theorem pl_w13 (h : F.node = 0) (h2 : canT t c F.dir 3 = false) : plE t c (F, 0) k m tg = 13 := by
  unfold plE
  rw [if_neg (fun q => q rfl), if_neg (fun q => q h), if_pos h2]
theorem pl_w28 (h : F.node = 0) (h2 : canT t c F.dir 3 = true) (h3 : 8 ≤ (tget t F.dir).ents.length ∨ usedT t = t.length) : plE t c (F, 0) k m tg = 28 := by
  unfold plE
  rw [if_neg (fun q => q rfl), if_neg (fun q => q h), if_neg (by rw [h2]; decide), if_pos h3]
theorem pl_wr (h : F.node = 0) (h2 : canT t c F.dir 3 = true) (h3 : ¬ (8 ≤ (tget t F.dir).ents.length ∨ usedT t = t.length)) : plE t c (F, 0) k m tg = if toB (rightP (plR t c F k m tg).nd) = false then 22 else 0 := by
  unfold plE
  rw [if_neg (fun q => q rfl), if_neg (fun q => q h), if_neg (by rw [h2]; decide), if_neg h3]
/-- What is made, piece by piece. -/
theorem pl_w0 (hk : k ≠ 4) (h : F.node = 0) (h2 : canT t c F.dir 3 = true) (h3 : ¬ (8 ≤ (tget t F.dir).ents.length ∨ usedT t = t.length)) (hd : (tget t F.dir).kind = 2) (hn : nok F.name = true) (hm : ¬ F.name ∈ nmE (tget t F.dir).ents) (hr : rightP (plR t c F k m tg).nd) :
    plE t c (F, 0) k m tg = 0 ∧ plT t c (F, 0) k m tg = setT (setT t (freeT t 0) (plR t c F k m tg).nd) F.dir (withM (tget t F.dir) F.name (freeT t 0)) ∧ plI t c (F, 0) k m tg = freeT t 0 ∧ withE (tget t F.dir) F.name (freeT t 0) = 0 ∧ freeT t 0 ≠ 0 := by
  have e0 : plE t c (F, 0) k m tg = 0 := by rw [pl_wr h h2 h3, toB_true hr, if_neg (by decide)]
  have hf : freeT t 0 ≠ 0 := fun q => h3 (.inr (free_none.1 q))
  have h8 : (tget t F.dir).ents.length < 8 := Nat.lt_of_not_le (fun q => h3 (.inl q))
  obtain ⟨c1, -, -⟩ := free_is hf
  have hw : withE (tget t F.dir) F.name (freeT t 0) = 0 := withE_zero.2 ⟨hd, c1.1, hn, hm, h8⟩
  have he : enE t (plR t c F k m tg) = 0 := en_zero.2 (.inr ⟨hk, hr, hf⟩)
  have hI : enI t (plR t c F k m tg) = freeT t 0 := by unfold enI; rw [if_pos he]; exact if_neg hk
  have hE : enT t (plR t c F k m tg) = setT t (freeT t 0) (plR t c F k m tg).nd := by unfold enT; rw [if_pos he]; exact if_neg hk
  refine ⟨e0, ?_, by unfold plI; rw [if_pos e0], hw, hf⟩
  unfold plT
  rw [if_pos e0]
  show blT t (plR t c F k m tg) = _
  unfold blT
  rw [hE, hI]
  rfl
end
end Go.Proofs.YtfopnfgfoicidaaGreat
