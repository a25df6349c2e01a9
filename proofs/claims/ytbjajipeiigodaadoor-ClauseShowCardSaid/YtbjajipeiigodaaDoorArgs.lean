/-
  Arguments: a slice of clauses that comes in reads as a list of clauses, however it lies in memory; behind a call that leaves what was there as it was it reads as before. No condition.
-/
import Derived.Test.YtbjajipeiigodaaDoorRow
import Derived.Carry
import Derived.Deep.Slices
import Derived.Deep.Strs
namespace Go.Proofs.YtbjajipeiigodaaDoor
open Go Go.ChangeShapes Go.WideShapes Go.ChangeAt Go.RowKit Go.Deep

theorem byte_of {n : Int} (h : (Lit.int .u8 n).wf = true) : ∃ c : UInt8, n = co c := by
  have hb : 0 ≤ n ∧ n ≤ 255 := by simpa [Lit.wf, IntKind.min, IntKind.max, IntKind.signed, IntKind.bits] using h
  refine ⟨UInt8.ofNat n.toNat, ?_⟩
  unfold co
  rw [UInt8.toNat_ofNat']
  omega
theorem cells_act : Tryd.prog.cellsOf 60 = 3 := by kernel_rfl
theorem cells_cl : Tryd.prog.cellsOf 34 = 2 := by kernel_rfl
theorem cells_int : Tryd.prog.cellsOf 3 = 1 := by kernel_rfl
theorem cells_u8 : Tryd.prog.cellsOf 5 = 1 := by kernel_rfl
theorem cells_acts : Tryd.prog.cellsOf 32 = 1 := by kernel_rfl
section
variable {H : Type} {enc : TypeId × Value → H} {w : World} {base : Nat} {spare : Nat → Bool} {held : Bool}
theorem read_acts {fuel : Nat} {v : Value} {x : DataW H × List MemPlace} (h : DataW.trod enc Tryd.prog w base spare held fuel 32 [v] = some x) : ∃ al : List CA, ActsR w v al ∧ al.length ≤ maxLen := by
  rcases open_slice Tryd.underlying32 h with ⟨hv, _⟩ | ⟨a, len, cap, m, n, D, Pl, hcs, _, hl, hm, hmm, _, hi⟩
  · have hv' : v = .slice none 0 0 := by simpa using hv
    exact ⟨[], ⟨none, 0, by simpa using hv', fun k a hk => by simp at hk⟩, by simp⟩
  · have hv : v = .slice (some a) len cap := by simpa using hcs
    have hlm : len ≤ m := by rw [hmm]; split <;> omega
    have key : ∀ i, i < len → ∃ ca : CA, w.cell? (a.add (i * 3)) = some (.int .u8 (co ca.op)) ∧ w.cell? ⟨(a.add (i * 3)).block, (a.add (i * 3)).off + 1, none⟩ = some (.int .i64 ca.perms) ∧ w.cell? ⟨(a.add (i * 3)).block, (a.add (i * 3)).off + 2, none⟩ = some (.int .i64 ca.copy) := by
      intro i hil
      obtain ⟨cs', hc, ht⟩ := hi i (by omega)
      rw [cells_act] at hc
      obtain ⟨_, hcl, hat⟩ := World.cells?_some hc
      match cs', hcl with
      | [c0, c1, c2], _ =>
        obtain ⟨y0, y1, y2, n', _, _, h0, h1, h2⟩ := trod_struct3 Tryd.underlying60 ht
        simp only [cells_int, cells_u8] at h0 h1 h2
        obtain ⟨n0, e0, _, w0⟩ := DataW.trod_int Tryd.underlying5 h0
        obtain ⟨n1, e1, _, _⟩ := DataW.trod_int Tryd.underlying3 h1
        obtain ⟨n2, e2, _, _⟩ := DataW.trod_int Tryd.underlying3 h2
        simp at e0 e1 e2
        obtain ⟨b, rfl⟩ := byte_of w0
        have a0 := hat 0 (by decide)
        have a1 := hat 1 (by decide)
        have a2 := hat 2 (by decide)
        rw [add_none] at a0
        rw [add_pos _ 1 (by decide)] at a1
        rw [add_pos _ 2 (by decide)] at a2
        exact ⟨⟨b, n1, n2⟩, by rw [a0, e0]; rfl, by rw [a1, e1]; rfl, by rw [a2, e2]; rfl⟩
    refine ⟨List.ofFn fun i : Fin len => Classical.choose (key i.val i.isLt), ⟨some a, cap, by rw [List.length_ofFn]; exact hv, fun k ca hk => ?_⟩, by rw [List.length_ofFn]; omega⟩
    rw [List.getElem?_ofFn] at hk
    split at hk
    · rename_i hlt
      injection hk with hk
      subst hk
      exact ⟨a, rfl, Classical.choose_spec (key k hlt)⟩
    · cases hk
set_option maxRecDepth 100000 in
theorem read_cls {r : Reach} {b0 : Nat} {v : Value} {d : DataW H} {p : List MemPlace} (hval : Value.okWide Tryd.prog w r b0 23 v) (h : DataW.Trod enc Tryd.prog w base spare held 23 v d p) : ∃ cs : List CC, ClsR w v cs ∧ cs.length ≤ maxLen ∧ ∀ c ∈ cs, c.acts.length ≤ maxLen := by
  obtain ⟨A, L, C, rfl⟩ := okWide_slice Tryd.underlying23 hval
  obtain ⟨fuel, h⟩ := h
  rcases open_slice Tryd.underlying23 h with ⟨hv, _⟩ | ⟨a, len, cap, m, n, D, Pl, hcs, _, hl, hm, hmm, _, hi⟩
  · have hv' : Value.slice A L C = .slice none 0 0 := by simpa [Value.cells] using hv
    exact ⟨[], ⟨none, 0, by simpa using hv', fun k a hk => by simp at hk⟩, by simp, by simp⟩
  · have hv : Value.slice A L C = .slice (some a) len cap := by simpa [Value.cells] using hcs
    have hlm : len ≤ m := by rw [hmm]; split <;> omega
    have key : ∀ i, i < len → ∃ c : CC, (∃ va : Value, w.cell? (a.add (i * 2)) = some (.int .i64 c.who) ∧ w.cell? ⟨(a.add (i * 2)).block, (a.add (i * 2)).off + 1, none⟩ = some va ∧ ActsR w va c.acts) ∧ c.acts.length ≤ maxLen := by
      intro i hil
      obtain ⟨cs', hc, ht⟩ := hi i (by omega)
      rw [cells_cl] at hc
      obtain ⟨_, hcl, hat⟩ := World.cells?_some hc
      match cs', hcl with
      | [c0, c1], _ =>
        obtain ⟨y0, y1, n', _, _, h0, h1⟩ := trod_struct2 Tryd.underlying34 ht
        simp only [cells_int, cells_acts] at h0 h1
        obtain ⟨n0, e0, _, _⟩ := DataW.trod_int Tryd.underlying3 h0
        obtain ⟨al, hal, hlen⟩ := read_acts h1
        simp at e0
        have a0 := hat 0 (by decide)
        have a1 := hat 1 (by decide)
        rw [add_none] at a0
        rw [add_pos _ 1 (by decide)] at a1
        exact ⟨⟨n0, al⟩, ⟨c1, by rw [a0, e0]; rfl, by rw [a1]; rfl, hal⟩, hlen⟩
    refine ⟨List.ofFn fun i : Fin len => Classical.choose (key i.val i.isLt), ⟨some a, cap, by rw [List.length_ofFn]; exact hv, fun k ca hk => ?_⟩, by rw [List.length_ofFn]; omega, fun c hc => ?_⟩
    · rw [List.getElem?_ofFn] at hk
      split at hk
      · rename_i hlt
        injection hk with hk
        subst hk
        obtain ⟨va, h0, h1, h2⟩ := (Classical.choose_spec (key k hlt)).1
        exact ⟨a, va, rfl, h0, h1, h2⟩
      · cases hk
    · rw [List.mem_ofFn] at hc
      obtain ⟨i, rfl⟩ := hc
      exact (Classical.choose_spec (key i.val i.isLt)).2
end
theorem laid_out : laidOutB Tryd.prog = true := by kernel_rfl
theorem cls_readable : Tryd.prog.readableRec 23 = true := by kernel_rfl
/-- A slice of clauses reads behind the call as it read before. -/
theorem shut_cls {H : Type} {enc : TypeId × Value → H} {W W' : World} {v : Value} {d : DataW H} {p : List MemPlace} (h : DataW.Trod enc Tryd.prog W 0 (fun _ => true) true 23 v d p) (hb : Below W.heap.size W W') : DataW.Trod enc Tryd.prog W' 0 (fun b => decide (b < W.heap.size)) true 23 v d p := by
  refine Below.trod laid_out cls_readable (of_decide_eq_true (by kernel_rfl)) h hb ?_
  obtain ⟨n, hn⟩ := h
  exact DataW.trod_lt n _ _ _ hn
end Go.Proofs.YtbjajipeiigodaaDoor
