/-
  A slice of nodes as an argument: it comes in, however it lies in memory; behind a call that leaves what was there as it was it reads as before. No condition.
-/
import Derived.Test.YtnecnnajngfooaaRowB
import Derived.Test.YtnecnnajngfooaaNdr
namespace Go.Proofs.Ytnecnnajngfooaa
open Go Go.ChangeShapes Go.WideShapes Go.ChangeAt Go.RowKit Go.Deep
set_option maxRecDepth 100000

section
variable {H : Type} {enc : TypeId × Value → H} {w : World} {base : Nat} {spare : Nat → Bool} {held : Bool}
theorem read_entsB {fuel : Nat} {v : Value} {x : DataW H × List MemPlace} (h : DataW.trod enc Try.prog w base spare held fuel 37 [v] = some x) : ∃ l : List En, EntsR w v l ∧ ∀ e ∈ l, e.1.length ≤ maxLen := by
  rcases open_slice Try.underlying37 h with ⟨hv, _⟩ | ⟨a, len, cap, m, n, D, Pl, hcs, _, hl, hm, hmm, _, hi⟩
  · have hv' : v = .slice none 0 0 := by simpa using hv
    exact ⟨[], by rw [hv']; exact EntsR.nil w, by simp⟩
  · have hv : v = .slice (some a) len cap := by simpa using hcs
    have hlm : len ≤ m := by rw [hmm]; split <;> omega
    have key : ∀ i, i < len → ∃ e : En, (w.cell? (a.add (i * 2)) = some (.string (bA e.1)) ∧ w.cell? ⟨(a.add (i * 2)).block, (a.add (i * 2)).off + 1, none⟩ = some (.int .i64 e.2)) ∧ e.1.length ≤ maxLen := by
      intro i hil
      obtain ⟨cs', hc, ht⟩ := hi i (by omega)
      rw [cells_ent] at hc
      obtain ⟨_, hcl, hat⟩ := World.cells?_some hc
      match cs', hcl with
      | [c0, c1], _ =>
        obtain ⟨y0, y1, n', _, _, h0, h1⟩ := trod_struct2 Try.underlying106 ht
        simp only [cells_int, cells_str] at h0 h1
        obtain ⟨s, e0, _, hs⟩ := DataW.trod_string Try.underlying9 h0
        obtain ⟨n1, e1, _, _⟩ := DataW.trod_int Try.underlying3 h1
        simp at e0 e1
        have a0 := hat 0 (by decide)
        have a1 := hat 1 (by decide)
        rw [add_none] at a0
        rw [add_pos _ 1 (by decide)] at a1
        exact ⟨(tl s, n1), ⟨by rw [a0, e0]; simp only [List.getElem?_cons_zero]; rw [bA_tl], by rw [a1, e1]; rfl⟩, by rw [tl_len]; exact hs⟩
    refine ⟨List.ofFn fun i : Fin len => Classical.choose (key i.val i.isLt), ⟨some a, cap, by rw [List.length_ofFn]; exact hv, fun k ca hk => ?_⟩, fun e he => ?_⟩
    · rw [List.getElem?_ofFn] at hk
      split at hk
      · rename_i hlt
        injection hk with hk
        subst hk
        exact ⟨a, rfl, (Classical.choose_spec (key k hlt)).1⟩
      · cases hk
    · obtain ⟨i, hi, rfl⟩ := List.getElem_of_mem he
      rw [List.getElem_ofFn]
      exact (Classical.choose_spec (key i (by rw [List.length_ofFn] at hi; exact hi))).2
theorem read_nodes {r : Reach} {b0 : Nat} {v : Value} {d : DataW H} {p : List MemPlace} (hval : Value.okWide Try.prog w r b0 80 v) (h : DataW.Trod enc Try.prog w base spare held 80 v d p) : ∃ l : List Nd, NodesR w v l ∧ l.length ≤ maxLen := by
  obtain ⟨A, L, C, rfl⟩ := okWide_slice Try.underlying80 hval
  obtain ⟨fuel, h⟩ := h
  rcases open_slice Try.underlying80 h with ⟨hv, _⟩ | ⟨a, len, cap, m, n, D, Pl, hcs, _, hl, hm, hmm, _, hi⟩
  · have hv' : Value.slice A L C = .slice none 0 0 := by simpa [Value.cells] using hv
    exact ⟨[], ⟨none, 0, by simpa using hv', fun k s h => by simp at h⟩, by simp⟩
  · have hv : Value.slice A L C = .slice (some a) len cap := by simpa [Value.cells] using hcs
    have hlm : len ≤ m := by rw [hmm]; split <;> omega
    have key : ∀ i, i < len → ∃ e : Nd, ∃ vd ve : Value, w.cell? (a.add (i * 7)) = some (.int .i64 e.kind) ∧ AtN w (a.add (i * 7)).block (a.add (i * 7)).off e vd ve ∧ BytesR w vd e.data ∧ EntsR w ve e.ents ∧ ∀ f ∈ e.ents, f.1.length ≤ maxLen := by
      intro i hil
      obtain ⟨cs', hc, ht⟩ := hi i (by omega)
      rw [cells_node] at hc
      obtain ⟨_, hcl, hat⟩ := World.cells?_some hc
      match cs', hcl with
      | [c0, c1, c2, c3, c4, c5, c6], _ =>
        obtain ⟨z0, z1, z2, z3, z4, z5, z6, m', g0, g1, g2, g3, g4, g5, g6⟩ := trod_struct7 Try.underlying39 ht
        simp only [cells_int, cells_bs, cells_es, cells_str] at g0 g1 g2 g3 g4 g5 g6
        obtain ⟨a0, f0, _, _⟩ := DataW.trod_int Try.underlying3 g0
        obtain ⟨a1, f1, _, _⟩ := DataW.trod_int Try.underlying3 g1
        obtain ⟨a2, f2, _, _⟩ := DataW.trod_int Try.underlying3 g2
        obtain ⟨a3, f3, _, _⟩ := DataW.trod_int Try.underlying3 g3
        obtain ⟨s6, f6, _⟩ := DataW.trod_string Try.underlying9 g6
        simp at f0 f1 f2 f3 f6
        subst f0 f1 f2 f3 f6
        obtain ⟨ds, hD⟩ := read_bytes' (v := c4) (by simpa using g4)
        obtain ⟨es, hE, hS⟩ := read_entsB (v := c5) (by simpa using g5)
        have k0 := hat 0 (by decide)
        have k1 := hat 1 (by decide)
        have k2 := hat 2 (by decide)
        have k3 := hat 3 (by decide)
        have k4 := hat 4 (by decide)
        have k5 := hat 5 (by decide)
        have k6 := hat 6 (by decide)
        rw [add_none] at k0
        rw [add_pos _ 1 (by decide)] at k1
        rw [add_pos _ 2 (by decide)] at k2
        rw [add_pos _ 3 (by decide)] at k3
        rw [add_pos _ 4 (by decide)] at k4
        rw [add_pos _ 5 (by decide)] at k5
        rw [add_pos _ 6 (by decide)] at k6
        exact ⟨⟨a0, a1, a2, a3, ds, es, tl s6⟩, c4, c5, k0, ⟨k1, k2, k3, k4, k5, by rw [k6]; simp [bA_tl]⟩, hD, hE, hS⟩
    refine ⟨List.ofFn fun i : Fin len => Classical.choose (key i.val i.isLt), ⟨some a, cap, by rw [List.length_ofFn]; exact hv, fun k ca hk => ?_⟩, by rw [List.length_ofFn]; omega⟩
    rw [List.getElem?_ofFn] at hk
    split at hk
    · rename_i hlt
      injection hk with hk
      subst hk
      obtain ⟨vd, ve, hx⟩ := Classical.choose_spec (key k hlt)
      exact ⟨a, vd, ve, rfl, hx⟩
    · cases hk
end
theorem nodes_readable : Try.prog.readableRec 80 = true := by kernel_rfl
section
variable {H : Type} {enc : TypeId × Value → H} {W W' : World} {v : Value} {d : DataW H} {p : List MemPlace}
theorem shut_nodes (h : DataW.Trod enc Try.prog W 0 (fun _ => true) true 80 v d p) (hb : Below W.heap.size W W') : DataW.Trod enc Try.prog W' 0 (fun b => decide (b < W.heap.size)) true 80 v d p := by
  refine Below.trod laid_out nodes_readable (of_decide_eq_true (by kernel_rfl)) h hb ?_
  obtain ⟨n, hn⟩ := h
  exact DataW.trod_lt n _ _ _ hn
end
end Go.Proofs.Ytnecnnajngfooaa
