/-
  What is told of links, as plain mathematics. No condition.
-/
import Derived.Test.YtilepnepcamnaaaGreatLkT
namespace Go.Proofs.YtilepnepcamnaaaGreat
open Go Go.RowKit
set_option maxRecDepth 100000

theorem srd_link {t : List Nd} (h : Trx t) {c : Wh} {p : Nm} (hz : (resM t c p true).2 = 0) : (tget t (resM t c p true).1.node).kind ≠ 3 := fun q => by
  have hs := res_srd h c p true hz
  have hk := hs.kind
  rw [hs.self (hs.link rfl q), q] at hk
  exact absurd hk (by decide)
/-- The three cases of a name below a path. -/
theorem sta_links {t : List Nd} (h : Trx t) (c : Wh) (d : Nm) {n : Nm} (hn : nok n = true) :
    ((staM t c (joinP d n) false).2 ≠ 0 → (staM t c (joinP d n) true).2 = (staM t c (joinP d n) false).2) ∧
    ((staM t c (joinP d n) false).2 = 0 → (staM t c (joinP d n) false).1.kind ≠ 3 → staM t c (joinP d n) true = staM t c (joinP d n) false) ∧
    ((staM t c (joinP d n) false).2 = 0 → (staM t c (joinP d n) false).1.kind = 3 → ∃ tg : Nm, rdlM t c (joinP d n) = (tg, 0) ∧ (staM t c (joinP d n) false).1.size = (tg.length : Int) ∧ tg ≠ [] ∧
      ((staM t c (joinP d n) true).2 = 40 ∨ ∀ u, u = (if absP tg = true then tg else joinP d tg) → (staM t c u true).2 = 36 ∨ staM t c u true = staM t c (joinP d n) true)) := by
  rcases res_link h (c := c) (d := d) hn with e | ⟨j, id, e1, e2, e3⟩
  · have es : staM t c (joinP d n) true = staM t c (joinP d n) false := by unfold staM; rw [e]
    refine ⟨fun _ => by rw [es], fun _ _ => es, fun hz hk => ?_⟩
    exfalso
    obtain ⟨h1, h2, h3, h4⟩ := staM_zero hz
    rw [h4, sta_kind h2, ← h3, ← e] at hk
    rw [← e] at h1
    exact srd_link h h1 hk
  · have hi : tis t id = true := by
      unfold tis
      rw [e2]
      rfl
    have es : staM t c (joinP d n) false = (staT t id, 0) := by
      unfold staM
      rw [e1, staF_good (R := (⟨j, n, id⟩, 0)) rfl hi]
    have hk : (staT t id).kind = 3 := by rw [sta_kind hi, e2]
    have hr := tis_right h.ok hi
    have hfk : fok (tget t id).target = true := by
      rcases hr.2 with r | r | r
      · rw [r.1] at e2; exact absurd e2 (by decide)
      · rw [r.1] at e2; exact absurd e2 (by decide)
      · exact r.2.2.2.2
    have hne : (tget t id).target ≠ [] := fun q => by
      rw [q] at hfk
      exact absurd hfk (by decide)
    refine ⟨fun q => absurd (by rw [es]) q, fun _ q => absurd (by rw [es]; exact hk) q, fun _ _ => ⟨(tget t id).target, ?_, ?_, hne, ?_⟩⟩
    · rw [rdl_good es hk, sta_node hi]
    · rw [es, sta_is hi]
      show sizM (tget t id) = _
      unfold sizM
      rw [e2]
      rfl
    · rcases e3 with e3 | e3
      · refine .inl ?_
        unfold staM
        rw [staF_err (by rw [e3]; decide), e3]
      · refine .inr (fun u hu => ?_)
        rcases e3 u hu with q | q
        · refine .inl ?_
          have hr : resM t c u true = (Fo.zero, 36) := by
            unfold resM
            rw [q, if_pos (by decide)]
          unfold staM
          rw [hr]
          rfl
        · refine .inr ?_
          unfold staM
          rw [q]
theorem abs_first {st : ByteArray} (h : 0 < st.size) : absP (tl st) = (st[0] == 47) := by
  unfold absP
  rw [List.head?_eq_getElem?, tl_at h]
  rfl
end Go.Proofs.YtilepnepcamnaaaGreat
