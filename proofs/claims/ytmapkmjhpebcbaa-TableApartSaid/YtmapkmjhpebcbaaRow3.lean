/-
  Acts as an argument, and numbers: they come in, however they lie in memory; behind a call that leaves what was there as it was they read as before. No condition.
-/
import Derived.Test.YtmapkmjhpebcbaaRow2
import Derived.Test.YtmapkmjhpebcbaaTabK
namespace Go.Proofs.Ytmapkmjhpebcbaa
open Go Go.ChangeShapes Go.WideShapes Go.ChangeAt Go.RowKit Go.Deep

theorem cells_act : Try.prog.cellsOf 41 = 9 := by kernel_rfl
section
variable {H : Type} {enc : TypeId × Value → H} {w : World} {base : Nat} {spare : Nat → Bool} {held : Bool}
set_option maxRecDepth 100000 in
theorem read_acts {r : Reach} {b0 : Nat} {v : Value} {d : DataW H} {p : List MemPlace} (hval : Value.okWide Try.prog w r b0 22 v) (h : DataW.Trod enc Try.prog w base spare held 22 v d p) : ∃ l : List Ac, ActsR w v l ∧ l.length ≤ maxLen := by
  obtain ⟨A, L, C, rfl⟩ := okWide_slice Try.underlying22 hval
  obtain ⟨fuel, h⟩ := h
  rcases open_slice Try.underlying22 h with ⟨hv, _⟩ | ⟨a, len, cap, m, n, D, Pl, hcs, _, hl, hm, hmm, _, hi⟩
  · have hv' : Value.slice A L C = .slice none 0 0 := by simpa [Value.cells] using hv
    exact ⟨[], ⟨none, 0, by simpa using hv', fun k s h => by simp at h⟩, by simp⟩
  · have hv : Value.slice A L C = .slice (some a) len cap := by simpa [Value.cells] using hcs
    have hlm : len ≤ m := by rw [hmm]; split <;> omega
    have key : ∀ i, i < len → ∃ e : Ac, ∃ vd ve : Value, w.cell? (a.add (i * 9)) = some (.int .u8 (co e.d)) ∧ w.cell? ⟨(a.add (i * 9)).block, (a.add (i * 9)).off + 1, none⟩ = some (.int .i64 e.i) ∧ At9 w (a.add (i * 9)).block (a.add (i * 9)).off e.n vd ve ∧ BytesR w vd e.n.data ∧ EntsR w ve e.n.ents ∧ e.n.ents.length ≤ maxLen := by
      intro i hil
      obtain ⟨cs', hc, ht⟩ := hi i (by omega)
      rw [cells_act] at hc
      obtain ⟨_, hcl, hat⟩ := World.cells?_some hc
      match cs', hcl with
      | [c0, c1, c2, c3, c4, c5, c6, c7, c8], _ =>
        obtain ⟨y0, y1, y2, n', _, _, h0, h1, h2⟩ := trod_struct3 Try.underlying41 ht
        simp only [cells_int, cells_u8, cells_node] at h0 h1 h2
        obtain ⟨z0, z1, z2, z3, z4, z5, z6, m', g0, g1, g2, g3, g4, g5, g6⟩ := trod_struct7 Try.underlying39 h2
        simp only [cells_int, cells_bs, cells_es, cells_str] at g0 g1 g2 g3 g4 g5 g6
        obtain ⟨n0, e0, _, w0⟩ := DataW.trod_int Try.underlying5 h0
        obtain ⟨n1, e1, _, _⟩ := DataW.trod_int Try.underlying3 h1
        obtain ⟨a0, f0, _, _⟩ := DataW.trod_int Try.underlying3 g0
        obtain ⟨a1, f1, _, _⟩ := DataW.trod_int Try.underlying3 g1
        obtain ⟨a2, f2, _, _⟩ := DataW.trod_int Try.underlying3 g2
        obtain ⟨a3, f3, _, _⟩ := DataW.trod_int Try.underlying3 g3
        obtain ⟨s, f6, _⟩ := DataW.trod_string Try.underlying9 g6
        simp at e0 e1 f0 f1 f2 f3 f6
        subst e0 e1 f0 f1 f2 f3 f6
        obtain ⟨b, rfl⟩ := byte_of w0
        obtain ⟨ds, hD⟩ := read_bytes' (v := c6) (by simpa using g4)
        obtain ⟨es, hE, hl⟩ := read_ents' (v := c7) (by simpa using g5)
        have k0 := hat 0 (by decide)
        have k1 := hat 1 (by decide)
        have k2 := hat 2 (by decide)
        have k3 := hat 3 (by decide)
        have k4 := hat 4 (by decide)
        have k5 := hat 5 (by decide)
        have k6 := hat 6 (by decide)
        have k7 := hat 7 (by decide)
        have k8 := hat 8 (by decide)
        rw [add_none] at k0
        rw [add_pos _ 1 (by decide)] at k1
        rw [add_pos _ 2 (by decide)] at k2
        rw [add_pos _ 3 (by decide)] at k3
        rw [add_pos _ 4 (by decide)] at k4
        rw [add_pos _ 5 (by decide)] at k5
        rw [add_pos _ 6 (by decide)] at k6
        rw [add_pos _ 7 (by decide)] at k7
        rw [add_pos _ 8 (by decide)] at k8
        exact ⟨⟨b, n1, ⟨a0, a1, a2, a3, ds, es, tl s⟩⟩, c6, c7, k0, k1, ⟨k2, k3, k4, k5, k6, k7, by rw [k8]; simp [bA_tl]⟩, hD, hE, hl⟩
    refine ⟨List.ofFn fun i : Fin len => Classical.choose (key i.val i.isLt), ⟨some a, cap, by rw [List.length_ofFn]; exact hv, fun k ca hk => ?_⟩, by rw [List.length_ofFn]; omega⟩
    rw [List.getElem?_ofFn] at hk
    split at hk
    · rename_i hlt
      injection hk with hk
      subst hk
      obtain ⟨vd, ve, hx⟩ := Classical.choose_spec (key k hlt)
      exact ⟨a, vd, ve, rfl, hx⟩
    · cases hk
set_option maxRecDepth 100000 in
theorem read_nums {r : Reach} {b0 : Nat} {v : Value} {d : DataW H} {p : List MemPlace} (hval : Value.okWide Try.prog w r b0 32 v) (h : DataW.Trod enc Try.prog w base spare held 32 v d p) : ∃ l : List Int, IntsR w v l ∧ l.length ≤ maxLen := by
  obtain ⟨A, L, C, rfl⟩ := okWide_slice Try.underlying32 hval
  obtain ⟨fuel, h⟩ := h
  rcases open_slice1 Try.underlying32 cells_int h with ⟨hv, _⟩ | ⟨a, len, cap, m, n, V, D, Pl, hcs, _, hl, hm, hmm, _, hi⟩
  · have hv' : Value.slice A L C = .slice none 0 0 := by simpa [Value.cells] using hv
    exact ⟨[], ⟨none, 0, by simpa using hv', fun k a hk => by simp at hk⟩, by simp⟩
  · have hv : Value.slice A L C = .slice (some a) len cap := by simpa [Value.cells] using hcs
    have hlm : len ≤ m := by rw [hmm]; split <;> omega
    have key : ∀ i, i < len → ∃ b : Int, w.cell? (a.add i) = some (.int .i64 b) := by
      intro i hil
      obtain ⟨hc, ht⟩ := hi i (by omega)
      obtain ⟨n0, e0, _, w0⟩ := DataW.trod_int Try.underlying3 ht
      simp at e0
      exact ⟨n0, by rw [hc, e0]⟩
    refine ⟨List.ofFn fun i : Fin len => Classical.choose (key i.val i.isLt), ⟨some a, cap, by rw [List.length_ofFn]; exact hv, fun k ca hk => ?_⟩, by rw [List.length_ofFn]; omega⟩
    rw [List.getElem?_ofFn] at hk
    split at hk
    · rename_i hlt
      injection hk with hk
      subst hk
      exact ⟨a, rfl, Classical.choose_spec (key k hlt)⟩
    · cases hk
end
theorem acts_readable : Try.prog.readableRec 22 = true := by kernel_rfl
theorem nums_readable : Try.prog.readableRec 32 = true := by kernel_rfl
section
variable {H : Type} {enc : TypeId × Value → H} {W W' : World} {v : Value} {d : DataW H} {p : List MemPlace}
theorem shut_acts (h : DataW.Trod enc Try.prog W 0 (fun _ => true) true 22 v d p) (hb : Below W.heap.size W W') : DataW.Trod enc Try.prog W' 0 (fun b => decide (b < W.heap.size)) true 22 v d p := by
  refine Below.trod laid_out acts_readable (of_decide_eq_true (by kernel_rfl)) h hb ?_
  obtain ⟨n, hn⟩ := h
  exact DataW.trod_lt n _ _ _ hn
theorem shut_nums (h : DataW.Trod enc Try.prog W 0 (fun _ => true) true 32 v d p) (hb : Below W.heap.size W W') : DataW.Trod enc Try.prog W' 0 (fun b => decide (b < W.heap.size)) true 32 v d p := by
  refine Below.trod laid_out nums_readable (of_decide_eq_true (by kernel_rfl)) h hb ?_
  obtain ⟨n, hn⟩ := h
  exact DataW.trod_lt n _ _ _ hn
end
end Go.Proofs.Ytmapkmjhpebcbaa
