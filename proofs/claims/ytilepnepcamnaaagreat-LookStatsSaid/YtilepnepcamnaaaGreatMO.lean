/-
  Arguments of the statements of stage 9, read and shut again. No condition.
-/
import Derived.Test.YtilepnepcamnaaaGreatMB
import Derived.Test.YtilepnepcamnaaaGreatRows
import Derived.ProofKit
import Derived.OpenShut
import Derived.Deep.DeepHandedRow
import Derived.Carry
import Derived.Lib.LaidTab
import Derived.Deep.Slices
import Derived.Deep.Strs
import Derived.Test.YtilepnepcamnaaaGreatMT
namespace Go.Proofs.YtilepnepcamnaaaGreat
open Go Go.ChangeShapes Go.WideShapes Go.ChangeAt Go.RowKit Go.Deep

theorem ownKnobs : ownKnob Tryz.prog.godebug = none := by kernel_rfl
/-- The world of a witness: the settled one. -/
noncomputable def laidWorld (os : Os) : World := World.holding Tryz.prog os ⟨#[], #[], []⟩
section
variable {H : Type} {enc : TypeId × Value → H} {P : Program}
/-- The end of a law's row: it answers one bool, and what was there is as it was. -/
theorem law_post {f : Func} {s : ChangeSpec} {W W' : World} {args : Array Value} {ds : List (DataW H)} {v : Value} {before pa : List MemPlace}
    (hW : DataW.Whole enc P f.params.toList s.vars false W args.toList ds [] before)
    (hres : DataW.TrodAll enc P W' W.heap.size (fun _ => false) false f.resultTypes.toList (v.resultList f.resultTypes.size) (s.fn H (ds ++ [])).results [])
    (hargs : DataW.TrodAll enc P W' 0 (fun b => decide (b < W.heap.size)) true f.params.toList args.toList (s.fn H (ds ++ [])).args pa)
    (hvars : DataW.TrodVars enc P W' (fun b => decide (b < W.heap.size)) s.vars (s.fn H (ds ++ [])).vars [])
    (hb : Below W.heap.size W W') : s.post enc P f false true false false W args v W' :=
  ⟨ds, [], before, [], pa, [], hW, hres, hargs, hvars, hb.frame _, fun h => by cases h⟩
end
theorem cells_str : Tryz.prog.cellsOf 9 = 1 := by kernel_rfl
theorem cells_u8 : Tryz.prog.cellsOf 5 = 1 := by kernel_rfl
theorem byte_of {n : Int} (h : (Lit.int .u8 n).wf = true) : ∃ c : UInt8, n = co c := by
  have hb : 0 ≤ n ∧ n ≤ 255 := by simpa [Lit.wf, IntKind.min, IntKind.max, IntKind.signed, IntKind.bits] using h
  refine ⟨UInt8.ofNat n.toNat, ?_⟩
  unfold co
  rw [UInt8.toNat_ofNat']
  omega
section
variable {H : Type} {enc : TypeId × Value → H} {w : World} {base : Nat} {spare : Nat → Bool} {held : Bool}
set_option maxRecDepth 100000 in
theorem read_strs {r : Reach} {b0 : Nat} {v : Value} {d : DataW H} {p : List MemPlace} (hval : Value.okWide Tryz.prog w r b0 51 v) (h : DataW.Trod enc Tryz.prog w base spare held 51 v d p) : ∃ l : List ByteArray, StrsR w v l ∧ l.length ≤ maxLen ∧ ∀ s ∈ l, s.size ≤ maxLen := by
  obtain ⟨A, L, C, rfl⟩ := okWide_slice Tryz.underlying51 hval
  obtain ⟨fuel, h⟩ := h
  rcases open_strs Tryz.underlying51 Tryz.underlying9 cells_str h with ⟨hv, _⟩ | ⟨a, len, cap, m, Sx, hcs, _, hl, hm, hmm, _, hi⟩
  · have hv' : Value.slice A L C = .slice none 0 0 := by simpa [Value.cells] using hv
    exact ⟨[], by rw [hv']; exact StrsR.nil w, by simp, by simp⟩
  · have hv : Value.slice A L C = .slice (some a) len cap := by simpa [Value.cells] using hcs
    have hlm : len ≤ m := by rw [hmm]; split <;> omega
    refine ⟨List.ofFn fun i : Fin len => Sx i.val, ⟨some a, cap, by rw [List.length_ofFn]; exact hv, ⟨by rw [List.length_ofFn]; exact hl, fun e => by cases e⟩, fun k s hk => ?_⟩, by rw [List.length_ofFn]; omega, fun s hs => ?_⟩
    · rw [List.getElem?_ofFn] at hk
      split at hk
      · rename_i hlt
        injection hk with hk
        subst hk
        exact ⟨a, rfl, (hi k (by omega)).1⟩
      · cases hk
    · rw [List.mem_ofFn] at hs
      obtain ⟨i, rfl⟩ := hs
      exact (hi i.val (by have := i.isLt; omega)).2
set_option maxRecDepth 100000 in
theorem read_bytes {r : Reach} {b0 : Nat} {v : Value} {d : DataW H} {p : List MemPlace} (hval : Value.okWide Tryz.prog w r b0 63 v) (h : DataW.Trod enc Tryz.prog w base spare held 63 v d p) : ∃ l : List UInt8, BytesR w v l ∧ l.length ≤ maxLen := by
  obtain ⟨A, L, C, rfl⟩ := okWide_slice Tryz.underlying63 hval
  obtain ⟨fuel, h⟩ := h
  rcases open_slice1 Tryz.underlying63 cells_u8 h with ⟨hv, _⟩ | ⟨a, len, cap, m, n, V, D, Pl, hcs, _, hl, hm, hmm, _, hi⟩
  · have hv' : Value.slice A L C = .slice none 0 0 := by simpa [Value.cells] using hv
    exact ⟨[], ⟨none, 0, by simpa using hv', fun k a hk => by simp at hk⟩, by simp⟩
  · have hv : Value.slice A L C = .slice (some a) len cap := by simpa [Value.cells] using hcs
    have hlm : len ≤ m := by rw [hmm]; split <;> omega
    have key : ∀ i, i < len → ∃ b : UInt8, w.cell? (a.add i) = some (.int .u8 (co b)) := by
      intro i hil
      obtain ⟨hc, ht⟩ := hi i (by omega)
      obtain ⟨n0, e0, _, w0⟩ := DataW.trod_int Tryz.underlying5 ht
      simp at e0
      obtain ⟨b, rfl⟩ := byte_of w0
      exact ⟨b, by rw [hc, e0]⟩
    refine ⟨List.ofFn fun i : Fin len => Classical.choose (key i.val i.isLt), ⟨some a, cap, by rw [List.length_ofFn]; exact hv, fun k ca hk => ?_⟩, by rw [List.length_ofFn]; omega⟩
    rw [List.getElem?_ofFn] at hk
    split at hk
    · rename_i hlt
      injection hk with hk
      subst hk
      exact ⟨a, rfl, Classical.choose_spec (key k hlt)⟩
    · cases hk
end
theorem laid_out : laidOutB Tryz.prog = true := by kernel_rfl
theorem strs_readable : Tryz.prog.readableRec 51 = true := by kernel_rfl
theorem bytes_readable : Tryz.prog.readableRec 63 = true := by kernel_rfl
section
variable {H : Type} {enc : TypeId × Value → H} {W W' : World} {v : Value} {d : DataW H} {p : List MemPlace}
/-- Texts read behind the call as they read before. -/
theorem shut_strs (h : DataW.Trod enc Tryz.prog W 0 (fun _ => true) true 51 v d p) (hb : Below W.heap.size W W') : DataW.Trod enc Tryz.prog W' 0 (fun b => decide (b < W.heap.size)) true 51 v d p := by
  refine Below.trod laid_out strs_readable (of_decide_eq_true (by kernel_rfl)) h hb ?_
  obtain ⟨n, hn⟩ := h
  exact DataW.trod_lt n _ _ _ hn
/-- Bytes read behind the call as they read before. -/
theorem shut_bytes (h : DataW.Trod enc Tryz.prog W 0 (fun _ => true) true 63 v d p) (hb : Below W.heap.size W W') : DataW.Trod enc Tryz.prog W' 0 (fun b => decide (b < W.heap.size)) true 63 v d p := by
  refine Below.trod laid_out bytes_readable (of_decide_eq_true (by kernel_rfl)) h hb ?_
  obtain ⟨n, hn⟩ := h
  exact DataW.trod_lt n _ _ _ hn
end
end Go.Proofs.YtilepnepcamnaaaGreat
namespace Go.Proofs.YtilepnepcamnaaaGreat
open Go Go.ChangeShapes Go.WideShapes Go.ChangeAt Go.RowKit Go.Deep

theorem cells_int : Tryz.prog.cellsOf 3 = 1 := by kernel_rfl
theorem cells_ent : Tryz.prog.cellsOf 103 = 2 := by kernel_rfl
theorem cells_node : Tryz.prog.cellsOf 70 = 7 := by kernel_rfl
theorem cells_bs : Tryz.prog.cellsOf 63 = 1 := by kernel_rfl
theorem cells_es : Tryz.prog.cellsOf 68 = 1 := by kernel_rfl
section
variable {H : Type} {enc : TypeId × Value → H} {P : Program} {w : World} {base : Nat} {spare : Nat → Bool} {held : Bool}
theorem trod_struct7 {t : TypeId} {f0 f1 f2 f3 f4 f5 f6 : Field} {fuel : Nat} {cs : List Value} {x : DataW H × List MemPlace} (ht : P.underlying t = some (.struct #[f0, f1, f2, f3, f4, f5, f6])) (h : DataW.trod enc P w base spare held fuel t cs = some x) :
    ∃ y0 y1 y2 y3 y4 y5 y6 n, DataW.trod enc P w base spare held n f0.type ((cs.drop f0.offset).take (P.cellsOf f0.type)) = some y0 ∧ DataW.trod enc P w base spare held n f1.type ((cs.drop f1.offset).take (P.cellsOf f1.type)) = some y1 ∧
      DataW.trod enc P w base spare held n f2.type ((cs.drop f2.offset).take (P.cellsOf f2.type)) = some y2 ∧ DataW.trod enc P w base spare held n f3.type ((cs.drop f3.offset).take (P.cellsOf f3.type)) = some y3 ∧
      DataW.trod enc P w base spare held n f4.type ((cs.drop f4.offset).take (P.cellsOf f4.type)) = some y4 ∧ DataW.trod enc P w base spare held n f5.type ((cs.drop f5.offset).take (P.cellsOf f5.type)) = some y5 ∧
      DataW.trod enc P w base spare held n f6.type ((cs.drop f6.offset).take (P.cellsOf f6.type)) = some y6 := by
  obtain ⟨xs, n, _, rfl, hl, hlen, hf⟩ := DataW.trod_struct ht h
  match xs, hlen with
  | [y0, y1, y2, y3, y4, y5, y6], _ => exact ⟨y0, y1, y2, y3, y4, y5, y6, n, by simpa using hf 0 f0 rfl, by simpa using hf 1 f1 rfl, by simpa using hf 2 f2 rfl, by simpa using hf 3 f3 rfl, by simpa using hf 4 f4 rfl, by simpa using hf 5 f5 rfl, by simpa using hf 6 f6 rfl⟩
end
section
variable {H : Type} {enc : TypeId × Value → H} {w : World} {base : Nat} {spare : Nat → Bool} {held : Bool}
theorem read_bytes' {fuel : Nat} {v : Value} {x : DataW H × List MemPlace} (h : DataW.trod enc Tryz.prog w base spare held fuel 63 [v] = some x) : ∃ l : List UInt8, BytesR w v l := by
  rcases open_slice1 Tryz.underlying63 cells_u8 h with ⟨hv, _⟩ | ⟨a, len, cap, m, n, V, D, Pl, hcs, _, hl, hm, hmm, _, hi⟩
  · have hv' : v = .slice none 0 0 := by simpa using hv
    exact ⟨[], by rw [hv']; exact BytesR.nil w⟩
  · have hv : v = .slice (some a) len cap := by simpa using hcs
    have hlm : len ≤ m := by rw [hmm]; split <;> omega
    have key : ∀ i, i < len → ∃ b : UInt8, w.cell? (a.add i) = some (.int .u8 (co b)) := by
      intro i hil
      obtain ⟨hc, ht⟩ := hi i (by omega)
      obtain ⟨n0, e0, _, w0⟩ := DataW.trod_int Tryz.underlying5 ht
      simp at e0
      obtain ⟨b, rfl⟩ := byte_of w0
      exact ⟨b, by rw [hc, e0]⟩
    refine ⟨List.ofFn fun i : Fin len => Classical.choose (key i.val i.isLt), ⟨some a, cap, by rw [List.length_ofFn]; exact hv, fun k ca hk => ?_⟩⟩
    rw [List.getElem?_ofFn] at hk
    split at hk
    · rename_i hlt
      injection hk with hk
      subst hk
      exact ⟨a, rfl, Classical.choose_spec (key k hlt)⟩
    · cases hk
set_option maxRecDepth 100000 in
theorem read_ents' {fuel : Nat} {v : Value} {x : DataW H × List MemPlace} (h : DataW.trod enc Tryz.prog w base spare held fuel 68 [v] = some x) : ∃ l : List En, EntsR w v l ∧ l.length ≤ maxLen := by
  rcases open_slice Tryz.underlying68 h with ⟨hv, _⟩ | ⟨a, len, cap, m, n, D, Pl, hcs, _, hl, hm, hmm, _, hi⟩
  · have hv' : v = .slice none 0 0 := by simpa using hv
    exact ⟨[], by rw [hv']; exact EntsR.nil w, by simp⟩
  · have hv : v = .slice (some a) len cap := by simpa using hcs
    have hlm : len ≤ m := by rw [hmm]; split <;> omega
    have key : ∀ i, i < len → ∃ e : En, w.cell? (a.add (i * 2)) = some (.string (bA e.1)) ∧ w.cell? ⟨(a.add (i * 2)).block, (a.add (i * 2)).off + 1, none⟩ = some (.int .i64 e.2) := by
      intro i hil
      obtain ⟨cs', hc, ht⟩ := hi i (by omega)
      rw [cells_ent] at hc
      obtain ⟨_, hcl, hat⟩ := World.cells?_some hc
      match cs', hcl with
      | [c0, c1], _ =>
        obtain ⟨y0, y1, n', _, _, h0, h1⟩ := trod_struct2 Tryz.underlying103 ht
        simp only [cells_int, cells_str] at h0 h1
        obtain ⟨s, e0, _⟩ := DataW.trod_string Tryz.underlying9 h0
        obtain ⟨n1, e1, _, _⟩ := DataW.trod_int Tryz.underlying3 h1
        simp at e0 e1
        have a0 := hat 0 (by decide)
        have a1 := hat 1 (by decide)
        rw [add_none] at a0
        rw [add_pos _ 1 (by decide)] at a1
        exact ⟨(tl s, n1), by rw [a0, e0]; simp only [List.getElem?_cons_zero]; rw [bA_tl], by rw [a1, e1]; rfl⟩
    refine ⟨List.ofFn fun i : Fin len => Classical.choose (key i.val i.isLt), ⟨some a, cap, by rw [List.length_ofFn]; exact hv, fun k ca hk => ?_⟩, by rw [List.length_ofFn]; omega⟩
    rw [List.getElem?_ofFn] at hk
    split at hk
    · rename_i hlt
      injection hk with hk
      subst hk
      exact ⟨a, rfl, Classical.choose_spec (key k hlt)⟩
    · cases hk
set_option maxRecDepth 100000 in
theorem read_node {r : Reach} {b0 : Nat} {v : Value} {d : DataW H} {p : List MemPlace} (hval : Value.okWide Tryz.prog w r b0 70 v) (h : DataW.Trod enc Tryz.prog w base spare held 70 v d p) : ∃ (n : Nd) (vd ve : Value), v = nodeV n vd ve ∧ BytesR w vd n.data ∧ EntsR w ve n.ents ∧ n.ents.length ≤ maxLen := by
  obtain ⟨cs, rfl, hsz⟩ := okWide_struct Tryz.underlying70 hval
  rw [cells_node] at hsz
  obtain ⟨l⟩ := cs
  match l, hsz with
  | [c0, c1, c2, c3, c4, c5, c6], _ =>
    obtain ⟨fuel, hf⟩ := h
    obtain ⟨y0, y1, y2, y3, y4, y5, y6, m, h0, h1, h2, h3, h4, h5, h6⟩ := trod_struct7 Tryz.underlying70 hf
    simp only [cells_int, cells_bs, cells_es, cells_str] at h0 h1 h2 h3 h4 h5 h6
    obtain ⟨a0, e0, _, _⟩ := DataW.trod_int Tryz.underlying3 h0
    obtain ⟨a1, e1, _, _⟩ := DataW.trod_int Tryz.underlying3 h1
    obtain ⟨a2, e2, _, _⟩ := DataW.trod_int Tryz.underlying3 h2
    obtain ⟨a3, e3, _, _⟩ := DataW.trod_int Tryz.underlying3 h3
    obtain ⟨s, e6, _⟩ := DataW.trod_string Tryz.underlying9 h6
    simp [Value.cells] at e0 e1 e2 e3 e6
    subst e0 e1 e2 e3 e6
    obtain ⟨ds, hD⟩ := read_bytes' (v := c4) (by simpa [Value.cells] using h4)
    obtain ⟨es, hE, hl⟩ := read_ents' (v := c5) (by simpa [Value.cells] using h5)
    exact ⟨⟨a0, a1, a2, a3, ds, es, tl s⟩, c4, c5, by unfold nodeV; rw [bA_tl], hD, hE, hl⟩
end
theorem node_readable : Tryz.prog.readableRec 70 = true := by kernel_rfl
/-- A node reads behind the call as it read before. -/
theorem shut_node {H : Type} {enc : TypeId × Value → H} {W W' : World} {v : Value} {d : DataW H} {p : List MemPlace} (h : DataW.Trod enc Tryz.prog W 0 (fun _ => true) true 70 v d p) (hb : Below W.heap.size W W') : DataW.Trod enc Tryz.prog W' 0 (fun b => decide (b < W.heap.size)) true 70 v d p := by
  refine Below.trod laid_out node_readable (of_decide_eq_true (by kernel_rfl)) h hb ?_
  obtain ⟨n, hn⟩ := h
  exact DataW.trod_lt n _ _ _ hn
end Go.Proofs.YtilepnepcamnaaaGreat
namespace Go.Proofs.YtilepnepcamnaaaGreat
open Go Go.ChangeShapes Go.WideShapes Go.ChangeAt Go.RowKit Go.Deep

section
variable {H : Type} {enc : TypeId × Value → H} {w : World} {base : Nat} {spare : Nat → Bool} {held : Bool}
set_option maxRecDepth 100000 in
theorem read_nums {r : Reach} {b0 : Nat} {v : Value} {d : DataW H} {p : List MemPlace} (hval : Value.okWide Tryz.prog w r b0 23 v) (h : DataW.Trod enc Tryz.prog w base spare held 23 v d p) : ∃ l : List Int, IntsR w v l ∧ l.length ≤ maxLen := by
  obtain ⟨A, L, C, rfl⟩ := okWide_slice Tryz.underlying23 hval
  obtain ⟨fuel, h⟩ := h
  rcases open_slice1 Tryz.underlying23 cells_int h with ⟨hv, _⟩ | ⟨a, len, cap, m, n, V, D, Pl, hcs, _, hl, hm, hmm, _, hi⟩
  · have hv' : Value.slice A L C = .slice none 0 0 := by simpa [Value.cells] using hv
    exact ⟨[], ⟨none, 0, by simpa using hv', fun k a hk => by simp at hk⟩, by simp⟩
  · have hv : Value.slice A L C = .slice (some a) len cap := by simpa [Value.cells] using hcs
    have hlm : len ≤ m := by rw [hmm]; split <;> omega
    have key : ∀ i, i < len → ∃ b : Int, w.cell? (a.add i) = some (.int .i64 b) := by
      intro i hil
      obtain ⟨hc, ht⟩ := hi i (by omega)
      obtain ⟨n0, e0, _, w0⟩ := DataW.trod_int Tryz.underlying3 ht
      simp at e0
      exact ⟨n0, by rw [hc, e0]⟩
    refine ⟨List.ofFn fun i : Fin len => Classical.choose (key i.val i.isLt), ⟨some a, cap, by rw [List.length_ofFn]; exact hv, fun k ca hk => ?_⟩, by rw [List.length_ofFn]; omega⟩
    rw [List.getElem?_ofFn] at hk
    split at hk
    · rename_i hlt
      injection hk with hk
      subst hk
      exact ⟨a, rfl, Classical.choose_spec (key k hlt)⟩
    · cases hk
end
theorem nums_readable : Tryz.prog.readableRec 23 = true := by kernel_rfl
section
variable {H : Type} {enc : TypeId × Value → H} {W W' : World} {v : Value} {d : DataW H} {p : List MemPlace}
theorem shut_nums (h : DataW.Trod enc Tryz.prog W 0 (fun _ => true) true 23 v d p) (hb : Below W.heap.size W W') : DataW.Trod enc Tryz.prog W' 0 (fun b => decide (b < W.heap.size)) true 23 v d p := by
  refine Below.trod laid_out nums_readable (of_decide_eq_true (by kernel_rfl)) h hb ?_
  obtain ⟨n, hn⟩ := h
  exact DataW.trod_lt n _ _ _ hn
end
end Go.Proofs.YtilepnepcamnaaaGreat
