/-
  Arguments of the statements of stages 10 and on, read and shut again. No condition. Arguments of the statements of stage 17, read and shut again: calls, each by who makes it; who ask, with their bulk. No condition. Acts of stage 18 as an argument, read and shut again. No condition.
-/
import Derived.Test.YtnkjaocmfhjnoaaGreatE4
import Derived.Test.YtnkjaocmfhjnoaaGreatE9
import Derived.Test.YtnkjaocmfhjnoaaGreatE10
import Derived.Test.YtnkjaocmfhjnoaaGreatE22
import Derived.ProofKit
import Derived.OpenShut
import Derived.Deep.DeepHandedRow
import Derived.Carry
import Derived.Lib.LaidTab
import Derived.Deep.Slices
import Derived.Deep.Strs
namespace Go.Proofs.YtnkjaocmfhjnoaaGreat
open Go Go.ChangeShapes Go.WideShapes Go.ChangeAt Go.RowKit Go.Deep
set_option maxRecDepth 100000

theorem cells_raw : Tryz.prog.cellsOf 76 = 9 := by kernel_rfl
theorem cells_str' : Tryz.prog.cellsOf 9 = 1 := by kernel_rfl
section
variable {H : Type} {enc : TypeId × Value → H} {P : Program} {w : World} {base : Nat} {spare : Nat → Bool} {held : Bool}
theorem trod_struct9 {t : TypeId} {f0 f1 f2 f3 f4 f5 f6 f7 f8 : Field} {fuel : Nat} {cs : List Value} {x : DataW H × List MemPlace} (ht : P.underlying t = some (.struct #[f0, f1, f2, f3, f4, f5, f6, f7, f8])) (h : DataW.trod enc P w base spare held fuel t cs = some x) :
    ∃ y0 y1 y2 y3 y4 y5 y6 y7 y8 n, DataW.trod enc P w base spare held n f0.type ((cs.drop f0.offset).take (P.cellsOf f0.type)) = some y0 ∧
      DataW.trod enc P w base spare held n f1.type ((cs.drop f1.offset).take (P.cellsOf f1.type)) = some y1 ∧
      DataW.trod enc P w base spare held n f2.type ((cs.drop f2.offset).take (P.cellsOf f2.type)) = some y2 ∧
      DataW.trod enc P w base spare held n f3.type ((cs.drop f3.offset).take (P.cellsOf f3.type)) = some y3 ∧
      DataW.trod enc P w base spare held n f4.type ((cs.drop f4.offset).take (P.cellsOf f4.type)) = some y4 ∧
      DataW.trod enc P w base spare held n f5.type ((cs.drop f5.offset).take (P.cellsOf f5.type)) = some y5 ∧
      DataW.trod enc P w base spare held n f6.type ((cs.drop f6.offset).take (P.cellsOf f6.type)) = some y6 ∧
      DataW.trod enc P w base spare held n f7.type ((cs.drop f7.offset).take (P.cellsOf f7.type)) = some y7 ∧
      DataW.trod enc P w base spare held n f8.type ((cs.drop f8.offset).take (P.cellsOf f8.type)) = some y8 := by
  obtain ⟨xs, n, _, rfl, hl, hlen, hf⟩ := DataW.trod_struct ht h
  match xs, hlen with
  | [y0, y1, y2, y3, y4, y5, y6, y7, y8], _ => exact ⟨y0, y1, y2, y3, y4, y5, y6, y7, y8, n, by simpa using hf 0 f0 rfl, by simpa using hf 1 f1 rfl, by simpa using hf 2 f2 rfl, by simpa using hf 3 f3 rfl, by simpa using hf 4 f4 rfl, by simpa using hf 5 f5 rfl, by simpa using hf 6 f6 rfl, by simpa using hf 7 f7 rfl, by simpa using hf 8 f8 rfl⟩
end
section
variable {H : Type} {enc : TypeId × Value → H} {w : World} {base : Nat} {spare : Nat → Bool} {held : Bool}
theorem read_raws {r : Reach} {b0 : Nat} {v : Value} {d : DataW H} {p : List MemPlace} (hval : Value.okWide Tryz.prog w r b0 22 v) (h : DataW.Trod enc Tryz.prog w base spare held 22 v d p) : ∃ l : List Rw, RawsR w v l ∧ l.length ≤ maxLen ∧ ∀ (A : Option Addr) (n c : Nat), v = .slice A n c → n ≤ c := by
  obtain ⟨A, L, C, rfl⟩ := okWide_slice Tryz.underlying22 hval
  obtain ⟨fuel, h⟩ := h
  rcases open_slice Tryz.underlying22 h with ⟨hv, _⟩ | ⟨a, len, cap, m, n, D, Pl, hcs, _, hl, hm, hmm, _, hi⟩
  · have hv' : Value.slice A L C = .slice none 0 0 := by simpa [Value.cells] using hv
    exact ⟨[], ⟨none, 0, by simpa using hv', fun k s h => by simp at h⟩, by simp, fun A' n' c' h' => by rw [hv'] at h'; injection h' with _ h1 h2; omega⟩
  · have hv : Value.slice A L C = .slice (some a) len cap := by simpa [Value.cells] using hcs
    have hlm : len ≤ m := by rw [hmm]; split <;> omega
    have key : ∀ i, i < len → ∃ e : Rw, ∃ vd : Value, w.cell? (a.add (i * 9)) = some (.int .i64 e.kind) ∧ AtW w (a.add (i * 9)).block (a.add (i * 9)).off e vd ∧ BytesR w vd e.data := by
      intro i hil
      obtain ⟨cs', hc, ht⟩ := hi i (by omega)
      rw [cells_raw] at hc
      obtain ⟨_, hcl, hat⟩ := World.cells?_some hc
      match cs', hcl with
      | [c0, c1, c2, c3, c4, c5, c6, c7, c8], _ =>
        obtain ⟨z0, z1, z2, z3, z4, z5, z6, z7, z8, m', g0, g1, g2, g3, g4, g5, g6, g7, g8⟩ := trod_struct9 Tryz.underlying76 ht
        simp only [cells_int, cells_bs, cells_str'] at g0 g1 g2 g3 g4 g5 g6 g7 g8
        obtain ⟨a0, f0, _, _⟩ := DataW.trod_int Tryz.underlying3 g0
        obtain ⟨a1, f1, _, _⟩ := DataW.trod_int Tryz.underlying3 g1
        obtain ⟨a2, f2, _, _⟩ := DataW.trod_int Tryz.underlying3 g2
        obtain ⟨a3, f3, _, _⟩ := DataW.trod_int Tryz.underlying3 g3
        obtain ⟨a4, f4, _, _⟩ := DataW.trod_int Tryz.underlying3 g4
        obtain ⟨s5, f5, _⟩ := DataW.trod_string Tryz.underlying9 g5
        obtain ⟨s7, f7, _⟩ := DataW.trod_string Tryz.underlying9 g7
        obtain ⟨a8, f8, _, _⟩ := DataW.trod_int Tryz.underlying3 g8
        simp at f0 f1 f2 f3 f4 f5 f7 f8
        subst f0 f1 f2 f3 f4 f5 f7 f8
        obtain ⟨ds, hD⟩ := read_bytes' (v := c6) (by simpa using g6)
        have k0 := hat 0 (by decide)
        have k1 := hat 1 (by decide)
        have k2 := hat 2 (by decide)
        have k3 := hat 3 (by decide)
        have k4 := hat 4 (by decide)
        have k5 := hat 5 (by decide)
        have k6 := hat 6 (by decide)
        have k7 := hat 7 (by decide)
        have k8 := hat 8 (by decide)
        rw [add_none] at k0
        rw [add_pos _ 1 (by decide)] at k1
        rw [add_pos _ 2 (by decide)] at k2
        rw [add_pos _ 3 (by decide)] at k3
        rw [add_pos _ 4 (by decide)] at k4
        rw [add_pos _ 5 (by decide)] at k5
        rw [add_pos _ 6 (by decide)] at k6
        rw [add_pos _ 7 (by decide)] at k7
        rw [add_pos _ 8 (by decide)] at k8
        exact ⟨⟨a0, a1, a2, a3, a4, tl s5, ds, tl s7, a8⟩, c6, k0, ⟨k1, k2, k3, k4, by rw [k5]; simp [bA_tl], k6, by rw [k7]; simp [bA_tl], k8⟩, hD⟩
    refine ⟨List.ofFn fun i : Fin len => Classical.choose (key i.val i.isLt), ⟨some a, cap, by rw [List.length_ofFn]; exact hv, fun k ca hk => ?_⟩, by rw [List.length_ofFn]; omega, fun A' n' c' h' => by rw [hv] at h'; injection h' with _ h1 h2; omega⟩
    rw [List.getElem?_ofFn] at hk
    split at hk
    · rename_i hlt
      injection hk with hk
      subst hk
      obtain ⟨vd, hx⟩ := Classical.choose_spec (key k hlt)
      exact ⟨a, vd, rfl, hx⟩
    · cases hk
end
theorem raws_readable : Tryz.prog.readableRec 22 = true := by kernel_rfl
section
variable {H : Type} {enc : TypeId × Value → H} {W W' : World} {v : Value} {d : DataW H} {p : List MemPlace}
theorem shut_raws (h : DataW.Trod enc Tryz.prog W 0 (fun _ => true) true 22 v d p) (hb : Below W.heap.size W W') : DataW.Trod enc Tryz.prog W' 0 (fun b => decide (b < W.heap.size)) true 22 v d p := by
  refine Below.trod laid_out raws_readable (of_decide_eq_true (by kernel_rfl)) h hb ?_
  obtain ⟨n, hn⟩ := h
  exact DataW.trod_lt n _ _ _ hn
end
end Go.Proofs.YtnkjaocmfhjnoaaGreat
namespace Go.Proofs.YtnkjaocmfhjnoaaGreat
open Go Go.ChangeShapes Go.WideShapes Go.ChangeAt Go.RowKit Go.Deep
set_option maxRecDepth 100000

section
variable {H : Type} {enc : TypeId × Value → H} {P : Program}
end
section
variable {H : Type} {enc : TypeId × Value → H} {w : World} {base : Nat} {spare : Nat → Bool} {held : Bool}
end
end Go.Proofs.YtnkjaocmfhjnoaaGreat
namespace Go.Proofs.YtnkjaocmfhjnoaaGreat
open Go Go.ChangeShapes Go.WideShapes Go.ChangeAt Go.RowKit Go.Deep
set_option maxRecDepth 100000

section
variable {H : Type}
end
section
variable {H : Type} {enc : TypeId × Value → H} {P : Program} {w : World} {base : Nat} {spare : Nat → Bool} {held : Bool}
end
section
variable {H : Type} {enc : TypeId × Value → H} {w : World} {base : Nat} {spare : Nat → Bool} {held : Bool}
end
section
variable {H : Type} {enc : TypeId × Value → H} {W W' : World} {v : Value} {d : DataW H} {p : List MemPlace}
end
end Go.Proofs.YtnkjaocmfhjnoaaGreat
namespace Go.Proofs.YtnkjaocmfhjnoaaGreat
open Go Go.ChangeShapes Go.WideShapes Go.ChangeAt Go.RowKit Go.Deep
set_option maxRecDepth 100000

theorem cells_act18 : Tryz.prog.cellsOf 78 = 9 := by kernel_rfl
section
variable {H : Type} {enc : TypeId × Value → H} {w : World} {base : Nat} {spare : Nat → Bool} {held : Bool}
theorem read_entsN {fuel : Nat} {v : Value} {x : DataW H × List MemPlace} (h : DataW.trod enc Tryz.prog w base spare held fuel 63 [v] = some x) : ∃ l : List En, EntsR w v l ∧ l.length ≤ maxLen ∧ ∀ e ∈ l, e.1.length ≤ maxLen := by
  rcases open_slice Tryz.underlying63 h with ⟨hv, _⟩ | ⟨a, len, cap, m, n, D, Pl, hcs, _, hl, hm, hmm, _, hi⟩
  · have hv' : v = .slice none 0 0 := by simpa using hv
    exact ⟨[], by rw [hv']; exact EntsR.nil w, by simp, by simp⟩
  · have hv : v = .slice (some a) len cap := by simpa using hcs
    have hlm : len ≤ m := by rw [hmm]; split <;> omega
    have key : ∀ i, i < len → ∃ e : En, w.cell? (a.add (i * 2)) = some (.string (bA e.1)) ∧ w.cell? ⟨(a.add (i * 2)).block, (a.add (i * 2)).off + 1, none⟩ = some (.int .i64 e.2) ∧ e.1.length ≤ maxLen := by
      intro i hil
      obtain ⟨cs', hc, ht⟩ := hi i (by omega)
      rw [cells_ent] at hc
      obtain ⟨_, hcl, hat⟩ := World.cells?_some hc
      match cs', hcl with
      | [c0, c1], _ =>
        obtain ⟨y0, y1, n', _, _, h0, h1⟩ := trod_struct2 Tryz.underlying126 ht
        simp only [cells_int, cells_str] at h0 h1
        obtain ⟨s, e0, _, hsz⟩ := DataW.trod_string Tryz.underlying9 h0
        obtain ⟨n1, e1, _, _⟩ := DataW.trod_int Tryz.underlying3 h1
        simp at e0 e1
        have a0 := hat 0 (by decide)
        have a1 := hat 1 (by decide)
        rw [add_none] at a0
        rw [add_pos _ 1 (by decide)] at a1
        exact ⟨(tl s, n1), by rw [a0, e0]; simp only [List.getElem?_cons_zero]; rw [bA_tl], by rw [a1, e1]; rfl, by rw [tl_len]; exact hsz⟩
    refine ⟨List.ofFn fun i : Fin len => Classical.choose (key i.val i.isLt), ⟨some a, cap, by rw [List.length_ofFn]; exact hv, fun k ca hk => ?_⟩, by rw [List.length_ofFn]; omega, fun e he => ?_⟩
    rotate_left
    · obtain ⟨i, rfl⟩ := List.mem_ofFn.1 he
      exact (Classical.choose_spec (key i.val i.isLt)).2.2
    rw [List.getElem?_ofFn] at hk
    split at hk
    · rename_i hlt
      injection hk with hk
      subst hk
      exact ⟨a, rfl, (Classical.choose_spec (key k hlt)).1, (Classical.choose_spec (key k hlt)).2.1⟩
    · cases hk
theorem read_acts18 {r : Reach} {b0 : Nat} {v : Value} {d : DataW H} {p : List MemPlace} (hval : Value.okWide Tryz.prog w r b0 23 v) (h : DataW.Trod enc Tryz.prog w base spare held 23 v d p) : ∃ l : List Ac, ActsR w v l ∧ l.length ≤ maxLen ∧ ∀ a ∈ l, ∀ e ∈ a.n.ents, e.1.length ≤ maxLen := by
  obtain ⟨A, L, C, rfl⟩ := okWide_slice Tryz.underlying23 hval
  obtain ⟨fuel, h⟩ := h
  rcases open_slice Tryz.underlying23 h with ⟨hv, _⟩ | ⟨a, len, cap, m, n, D, Pl, hcs, _, hl, hm, hmm, _, hi⟩
  · have hv' : Value.slice A L C = .slice none 0 0 := by simpa [Value.cells] using hv
    exact ⟨[], ⟨none, 0, by simpa using hv', fun k s h => by simp at h⟩, by simp, by simp⟩
  · have hv : Value.slice A L C = .slice (some a) len cap := by simpa [Value.cells] using hcs
    have hlm : len ≤ m := by rw [hmm]; split <;> omega
    have key : ∀ i, i < len → ∃ e : Ac, ∃ vd ve : Value, w.cell? (a.add (i * 9)) = some (.int .u8 (co e.d)) ∧ w.cell? ⟨(a.add (i * 9)).block, (a.add (i * 9)).off + 1, none⟩ = some (.int .i64 e.i) ∧ At9 w (a.add (i * 9)).block (a.add (i * 9)).off e.n vd ve ∧ BytesR w vd e.n.data ∧ EntsR w ve e.n.ents ∧ e.n.ents.length ≤ maxLen ∧ ∀ x ∈ e.n.ents, x.1.length ≤ maxLen := by
      intro i hil
      obtain ⟨cs', hc, ht⟩ := hi i (by omega)
      rw [cells_act18] at hc
      obtain ⟨_, hcl, hat⟩ := World.cells?_some hc
      match cs', hcl with
      | [c0, c1, c2, c3, c4, c5, c6, c7, c8], _ =>
        obtain ⟨y0, y1, y2, n', _, _, h0, h1, h2⟩ := trod_struct3 Tryz.underlying78 ht
        simp only [cells_int, cells_u8, cells_node] at h0 h1 h2
        obtain ⟨z0, z1, z2, z3, z4, z5, z6, m', g0, g1, g2, g3, g4, g5, g6⟩ := trod_struct7 Tryz.underlying65 h2
        simp only [cells_int, cells_bs, cells_es, cells_str] at g0 g1 g2 g3 g4 g5 g6
        obtain ⟨n0, e0, _, w0⟩ := DataW.trod_int Tryz.underlying5 h0
        obtain ⟨n1, e1, _, _⟩ := DataW.trod_int Tryz.underlying3 h1
        obtain ⟨a0, f0, _, _⟩ := DataW.trod_int Tryz.underlying3 g0
        obtain ⟨a1, f1, _, _⟩ := DataW.trod_int Tryz.underlying3 g1
        obtain ⟨a2, f2, _, _⟩ := DataW.trod_int Tryz.underlying3 g2
        obtain ⟨a3, f3, _, _⟩ := DataW.trod_int Tryz.underlying3 g3
        obtain ⟨s, f6, _⟩ := DataW.trod_string Tryz.underlying9 g6
        simp at e0 e1 f0 f1 f2 f3 f6
        subst e0 e1 f0 f1 f2 f3 f6
        obtain ⟨b, rfl⟩ := byte_of w0
        obtain ⟨ds, hD⟩ := read_bytes' (v := c6) (by simpa using g4)
        obtain ⟨es, hE, hl, hNn⟩ := read_entsN (v := c7) (by simpa using g5)
        have k0 := hat 0 (by decide)
        have k1 := hat 1 (by decide)
        have k2 := hat 2 (by decide)
        have k3 := hat 3 (by decide)
        have k4 := hat 4 (by decide)
        have k5 := hat 5 (by decide)
        have k6 := hat 6 (by decide)
        have k7 := hat 7 (by decide)
        have k8 := hat 8 (by decide)
        rw [add_none] at k0
        rw [add_pos _ 1 (by decide)] at k1
        rw [add_pos _ 2 (by decide)] at k2
        rw [add_pos _ 3 (by decide)] at k3
        rw [add_pos _ 4 (by decide)] at k4
        rw [add_pos _ 5 (by decide)] at k5
        rw [add_pos _ 6 (by decide)] at k6
        rw [add_pos _ 7 (by decide)] at k7
        rw [add_pos _ 8 (by decide)] at k8
        exact ⟨⟨b, n1, ⟨a0, a1, a2, a3, ds, es, tl s⟩⟩, c6, c7, k0, k1, ⟨k2, k3, k4, k5, k6, k7, by rw [k8]; simp [bA_tl]⟩, hD, hE, hl, hNn⟩
    refine ⟨List.ofFn fun i : Fin len => Classical.choose (key i.val i.isLt), ⟨some a, cap, by rw [List.length_ofFn]; exact hv, fun k ca hk => ?_⟩, by rw [List.length_ofFn]; omega, fun c hc => ?_⟩
    rotate_left
    · obtain ⟨i, rfl⟩ := List.mem_ofFn.1 hc
      obtain ⟨vd, ve, hx⟩ := Classical.choose_spec (key i.val i.isLt)
      exact hx.2.2.2.2.2.2
    rw [List.getElem?_ofFn] at hk
    split at hk
    · rename_i hlt
      injection hk with hk
      subst hk
      obtain ⟨vd, ve, hx⟩ := Classical.choose_spec (key k hlt)
      exact ⟨a, vd, ve, rfl, hx.1, hx.2.1, hx.2.2.1, hx.2.2.2.1, hx.2.2.2.2.1, hx.2.2.2.2.2.1⟩
    · cases hk
end
theorem acts_readable18 : Tryz.prog.readableRec 23 = true := by kernel_rfl
section
variable {H : Type} {enc : TypeId × Value → H} {W W' : World} {v : Value} {d : DataW H} {p : List MemPlace}
theorem shut_acts18 (h : DataW.Trod enc Tryz.prog W 0 (fun _ => true) true 23 v d p) (hb : Below W.heap.size W W') : DataW.Trod enc Tryz.prog W' 0 (fun b => decide (b < W.heap.size)) true 23 v d p := by
  refine Below.trod laid_out acts_readable18 (of_decide_eq_true (by kernel_rfl)) h hb ?_
  obtain ⟨n, hn⟩ := h
  exact DataW.trod_lt n _ _ _ hn
end
end Go.Proofs.YtnkjaocmfhjnoaaGreat
