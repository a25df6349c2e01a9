/-
  What the law PathsSteps asks of a path's beginnings, as plain mathematics. No condition.
-/
import Derived.Test.YthledmbdlengiaaAwake
namespace Go.Proofs.Ythledmbdlengiaa
open Go Go.RowKit

/-- How long the beginning ahead is. -/
def lst (p : ByteArray) (k : Nat) : Nat := if k = 0 then 0 else ((stp (tl p)).getD (k - 1) []).length
theorem lst_next {p : ByteArray} {k : Nat} {st : List UInt8} (h : (stp (tl p))[k]? = some st) : lst p (k + 1) = (bA st).size := by
  rw [lst, if_neg (by omega), Nat.add_sub_cancel, List.getD_eq_getElem?_getD, h, size_bA]
  rfl
theorem step_at {p : ByteArray} {k : Nat} (hk : k < (stp (tl p)).length) : ∃ s : ByteArray, (bAs (stp (tl p)))[k]? = some s ∧ lst p k < s.size ∧ s.size ≤ p.size ∧ p.extract 0 s.size = s ∧ lst p (k + 1) = s.size ∧ (bAs (splitP (tl s))).length = k + 1 ∧ (bAs (splitP (tl s)))[k]? = some (bA (baseP (tl s))) ∧
    ∀ j, k = j + 1 → ∃ q : ByteArray, (bAs (stp (tl p)))[j]? = some q ∧ (bA (upP (tl s))).size ≤ q.size ∧ q.size ≤ p.size := by
  obtain ⟨st, hst⟩ : ∃ st, (stp (tl p))[k]? = some st := ⟨_, List.getElem?_eq_getElem hk⟩
  obtain ⟨⟨r, hr⟩, h0, hl, _⟩ := stp_get hst
  have hlen : st.length ≤ p.size := by rw [← tl_len, hr, List.length_append]; omega
  refine ⟨bA st, bAs_at hst, ?_, by rw [size_bA]; exact hlen, ?_, lst_next hst, ?_, ?_, ?_⟩
  · rw [size_bA, lst]
    split
    · exact List.length_pos_iff.2 h0
    · rename_i hk0
      obtain ⟨x, hx⟩ : ∃ x, (stp (tl p))[k - 1]? = some x := ⟨_, List.getElem?_eq_getElem (by omega)⟩
      rw [List.getD_eq_getElem?_getD, hx]
      exact stp_up (by omega) hx hst
  · rw [pre_bA, size_bA, hr, List.take_left' rfl]
  · rw [bAs_len, tl_bA, stp_names hst]
  · rw [tl_bA]
    exact bAs_at (stp_base hst)
  · intro j hj
    subst hj
    obtain ⟨x, hx⟩ : ∃ x, (stp (tl p))[j]? = some x := ⟨_, List.getElem?_eq_getElem (by omega)⟩
    obtain ⟨⟨r2, hr2⟩, _⟩ := stp_get hx
    refine ⟨bA x, bAs_at hx, ?_, ?_⟩
    · rw [size_bA, size_bA, tl_bA]
      exact stp_above hx hst
    · rw [size_bA, ← tl_len, hr2, List.length_append]
      omega
theorem steps_end (p : ByteArray) : (bAs (splitP (tl p))).length = (bAs (stp (tl p))).length ∨ (bAs (splitP (tl p))).length = (bAs (stp (tl p))).length + 1 ∧ (bAs (splitP (tl p)))[(bAs (stp (tl p))).length]? = some ⟨#[46]⟩ := by
  rw [bAs_len, bAs_len]
  rcases split_len (tl p) with h | ⟨h1, h2⟩
  · exact .inl h
  · exact .inr ⟨h1, bAs_at h2⟩
end Go.Proofs.Ythledmbdlengiaa
