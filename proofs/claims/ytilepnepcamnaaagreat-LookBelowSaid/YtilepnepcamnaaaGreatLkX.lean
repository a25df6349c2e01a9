/-
  What is told of names, as plain mathematics. No condition.
-/
import Derived.Test.YtilepnepcamnaaaGreatLkV
namespace Go.Proofs.YtilepnepcamnaaaGreat
open Go Go.RowKit
set_option maxRecDepth 100000

theorem lst_none {t : List Nd} {c : Wh} {p : Nm} (h : (lstM t c p).2 ≠ 0) : (lstM t c p).1 = [] := by
  unfold lstM at h ⊢
  split
  · rfl
  · rename_i q1
    rw [if_neg q1] at h
    split
    · rfl
    · rename_i q2
      rw [if_neg q2] at h
      split
      · rfl
      · rename_i q3
        rw [if_neg q3] at h
        exact absurd rfl h
/-- What is told of the names that are told. -/
theorem lst_some {t : List Nd} (ht : Trx t) {c : Wh} {p : Nm} (lp : p.length ≤ 40) (h : (lstM t c p).2 = 0) : ∃ S : Sta, staM t c p true = (S, 0) ∧ S.kind = 2 ∧ S.size = ((lstM t c p).1.length : Int) ∧
    ∀ n ∈ (lstM t c p).1, ∃ s : Sta, (s.node ≠ 0 ∧ 1 ≤ s.links) ∧ staM t wh0 (joinP p n) false = (s, 0) ∧ (staM t c (joinP p n) false = (Sta.zero, 13) ∨ staM t c (joinP p n) false = (s, 0)) := by
  unfold lstM at h ⊢
  by_cases q1 : (staM t c p true).2 = 0
  · rw [if_neg (fun r => r q1)] at h ⊢
    by_cases q2 : (staM t c p true).1.kind = 2
    · rw [if_neg (fun r => r q2)] at h ⊢
      by_cases q3 : canT t c (staM t c p true).1.node 4 = false
      · rw [if_pos q3] at h
        exact absurd h (by decide)
      · rw [if_neg q3]
        obtain ⟨h1, h2, h3, h4⟩ := staM_zero q1
        refine ⟨(staM t c p true).1, by rw [← q1], q2, ?_, fun n hn => ?_⟩
        · have hk : (tget t (staM t c p true).1.node).kind = 2 := by rw [← sta_kind h2, ← h4]; exact q2
          have e1 : (staM t c p true).1.size = sizM (tget t (staM t c p true).1.node) := (congrArg Sta.size h4).trans (by rw [sta_is h2])
          rw [e1, siz_dir hk]
          show _ = ((nmE (tget t (staM t c p true).1.node).ents).length : Int)
          rw [len_nmE]
        · obtain ⟨e, he, rfl⟩ := List.mem_map.1 hn
          exact sta_below ht lp q1 q2 he
    · rw [if_pos q2] at h
      exact absurd h (by decide)
  · rw [if_pos q1] at h
    exact absurd h q1
end Go.Proofs.YtilepnepcamnaaaGreat
