/-
  Arguments of the statements of stages 10 and on, read and shut again. No condition.
-/
import Derived.Test.YtfopnfgfoicidaaGreatBS
import Derived.Test.YtfopnfgfoicidaaGreatBB
import Derived.ProofKit
import Derived.OpenShut
import Derived.Deep.DeepHandedRow
import Derived.Carry
import Derived.Lib.LaidTab
import Derived.Deep.Slices
import Derived.Deep.Strs
namespace Go.Proofs.YtfopnfgfoicidaaGreat
open Go Go.ChangeShapes Go.WideShapes Go.ChangeAt Go.RowKit Go.Deep
set_option maxRecDepth 100000

theorem cells_raw : Tryz.prog.cellsOf 72 = 9 := by kernel_rfl
theorem cells_str' : Tryz.prog.cellsOf 9 = 1 := by kernel_rfl
section
variable {H : Type} {enc : TypeId × Value → H} {P : Program} {w : World} {base : Nat} {spare : Nat → Bool} {held : Bool}
theorem trod_struct9 {t : TypeId} {f0 f1 f2 f3 f4 f5 f6 f7 f8 : Field} {fuel : Nat} {cs : List Value} {x : DataW H × List MemPlace} (ht : P.underlying t = some (.struct #[f0, f1, f2, f3, f4, f5, f6, f7, f8])) (h : DataW.trod enc P w base spare held fuel t cs = some x) :
    ∃ y0 y1 y2 y3 y4 y5 y6 y7 y8 n, DataW.trod enc P w base spare held n f0.type ((cs.drop f0.offset).take (P.cellsOf f0.type)) = some y0 ∧
      DataW.trod enc P w base spare held n f1.type ((cs.drop f1.offset).take (P.cellsOf f1.type)) = some y1 ∧
      DataW.trod enc P w base spare held n f2.type ((cs.drop f2.offset).take (P.cellsOf f2.type)) = some y2 ∧
      DataW.trod enc P w base spare held n f3.type ((cs.drop f3.offset).take (P.cellsOf f3.type)) = some y3 ∧
      DataW.trod enc P w base spare held n f4.type ((cs.drop f4.offset).take (P.cellsOf f4.type)) = some y4 ∧
      DataW.trod enc P w base spare held n f5.type ((cs.drop f5.offset).take (P.cellsOf f5.type)) = some y5 ∧
      DataW.trod enc P w base spare held n f6.type ((cs.drop f6.offset).take (P.cellsOf f6.type)) = some y6 ∧
      DataW.trod enc P w base spare held n f7.type ((cs.drop f7.offset).take (P.cellsOf f7.type)) = some y7 ∧
      DataW.trod enc P w base spare held n f8.type ((cs.drop f8.offset).take (P.cellsOf f8.type)) = some y8 := by
  obtain ⟨xs, n, _, rfl, hl, hlen, hf⟩ := DataW.trod_struct ht h
  match xs, hlen with
  | [y0, y1, y2, y3, y4, y5, y6, y7, y8], _ => exact ⟨y0, y1, y2, y3, y4, y5, y6, y7, y8, n, by simpa using hf 0 f0 rfl, by simpa using hf 1 f1 rfl, by simpa using hf 2 f2 rfl, by simpa using hf 3 f3 rfl, by simpa using hf 4 f4 rfl, by simpa using hf 5 f5 rfl, by simpa using hf 6 f6 rfl, by simpa using hf 7 f7 rfl, by simpa using hf 8 f8 rfl⟩
end
section
variable {H : Type} {enc : TypeId × Value → H} {w : World} {base : Nat} {spare : Nat → Bool} {held : Bool}
theorem read_raws {r : Reach} {b0 : Nat} {v : Value} {d : DataW H} {p : List MemPlace} (hval : Value.okWide Tryz.prog w r b0 22 v) (h : DataW.Trod enc Tryz.prog w base spare held 22 v d p) : ∃ l : List Rw, RawsR w v l ∧ l.length ≤ maxLen ∧ ∀ (A : Option Addr) (n c : Nat), v = .slice A n c → n ≤ c := by
  obtain ⟨A, L, C, rfl⟩ := okWide_slice Tryz.underlying22 hval
  obtain ⟨fuel, h⟩ := h
  rcases open_slice Tryz.underlying22 h with ⟨hv, _⟩ | ⟨a, len, cap, m, n, D, Pl, hcs, _, hl, hm, hmm, _, hi⟩
  · have hv' : Value.slice A L C = .slice none 0 0 := by simpa [Value.cells] using hv
    exact ⟨[], ⟨none, 0, by simpa using hv', fun k s h => by simp at h⟩, by simp, fun A' n' c' h' => by rw [hv'] at h'; injection h' with _ h1 h2; omega⟩
  · have hv : Value.slice A L C = .slice (some a) len cap := by simpa [Value.cells] using hcs
    have hlm : len ≤ m := by rw [hmm]; split <;> omega
    have key : ∀ i, i < len → ∃ e : Rw, ∃ vd : Value, w.cell? (a.add (i * 9)) = some (.int .i64 e.kind) ∧ AtW w (a.add (i * 9)).block (a.add (i * 9)).off e vd ∧ BytesR w vd e.data := by
      intro i hil
      obtain ⟨cs', hc, ht⟩ := hi i (by omega)
      rw [cells_raw] at hc
      obtain ⟨_, hcl, hat⟩ := World.cells?_some hc
      match cs', hcl with
      | [c0, c1, c2, c3, c4, c5, c6, c7, c8], _ =>
        obtain ⟨z0, z1, z2, z3, z4, z5, z6, z7, z8, m', g0, g1, g2, g3, g4, g5, g6, g7, g8⟩ := trod_struct9 Tryz.underlying72 ht
        simp only [cells_int, cells_bs, cells_str'] at g0 g1 g2 g3 g4 g5 g6 g7 g8
        obtain ⟨a0, f0, _, _⟩ := DataW.trod_int Tryz.underlying3 g0
        obtain ⟨a1, f1, _, _⟩ := DataW.trod_int Tryz.underlying3 g1
        obtain ⟨a2, f2, _, _⟩ := DataW.trod_int Tryz.underlying3 g2
        obtain ⟨a3, f3, _, _⟩ := DataW.trod_int Tryz.underlying3 g3
        obtain ⟨a4, f4, _, _⟩ := DataW.trod_int Tryz.underlying3 g4
        obtain ⟨s5, f5, _⟩ := DataW.trod_string Tryz.underlying9 g5
        obtain ⟨s7, f7, _⟩ := DataW.trod_string Tryz.underlying9 g7
        obtain ⟨a8, f8, _, _⟩ := DataW.trod_int Tryz.underlying3 g8
        simp at f0 f1 f2 f3 f4 f5 f7 f8
        subst f0 f1 f2 f3 f4 f5 f7 f8
        obtain ⟨ds, hD⟩ := read_bytes' (v := c6) (by simpa using g6)
        have k0 := hat 0 (by decide)
        have k1 := hat 1 (by decide)
        have k2 := hat 2 (by decide)
        have k3 := hat 3 (by decide)
        have k4 := hat 4 (by decide)
        have k5 := hat 5 (by decide)
        have k6 := hat 6 (by decide)
        have k7 := hat 7 (by decide)
        have k8 := hat 8 (by decide)
        rw [add_none] at k0
        rw [add_pos _ 1 (by decide)] at k1
        rw [add_pos _ 2 (by decide)] at k2
        rw [add_pos _ 3 (by decide)] at k3
        rw [add_pos _ 4 (by decide)] at k4
        rw [add_pos _ 5 (by decide)] at k5
        rw [add_pos _ 6 (by decide)] at k6
        rw [add_pos _ 7 (by decide)] at k7
        rw [add_pos _ 8 (by decide)] at k8
        exact ⟨⟨a0, a1, a2, a3, a4, tl s5, ds, tl s7, a8⟩, c6, k0, ⟨k1, k2, k3, k4, by rw [k5]; simp [bA_tl], k6, by rw [k7]; simp [bA_tl], k8⟩, hD⟩
    refine ⟨List.ofFn fun i : Fin len => Classical.choose (key i.val i.isLt), ⟨some a, cap, by rw [List.length_ofFn]; exact hv, fun k ca hk => ?_⟩, by rw [List.length_ofFn]; omega, fun A' n' c' h' => by rw [hv] at h'; injection h' with _ h1 h2; omega⟩
    rw [List.getElem?_ofFn] at hk
    split at hk
    · rename_i hlt
      injection hk with hk
      subst hk
      obtain ⟨vd, hx⟩ := Classical.choose_spec (key k hlt)
      exact ⟨a, vd, rfl, hx⟩
    · cases hk
end
theorem raws_readable : Tryz.prog.readableRec 22 = true := by kernel_rfl
section
variable {H : Type} {enc : TypeId × Value → H} {W W' : World} {v : Value} {d : DataW H} {p : List MemPlace}
theorem shut_raws (h : DataW.Trod enc Tryz.prog W 0 (fun _ => true) true 22 v d p) (hb : Below W.heap.size W W') : DataW.Trod enc Tryz.prog W' 0 (fun b => decide (b < W.heap.size)) true 22 v d p := by
  refine Below.trod laid_out raws_readable (of_decide_eq_true (by kernel_rfl)) h hb ?_
  obtain ⟨n, hn⟩ := h
  exact DataW.trod_lt n _ _ _ hn
end
end Go.Proofs.YtfopnfgfoicidaaGreat
namespace Go.Proofs.YtfopnfgfoicidaaGreat
open Go Go.ChangeShapes Go.WideShapes Go.ChangeAt Go.RowKit Go.Deep
set_option maxRecDepth 100000

section
variable {H : Type} {enc : TypeId × Value → H} {P : Program}
end
theorem cells_ints : Tryz.prog.cellsOf 23 = 1 := by kernel_rfl
theorem cells_cred : Tryz.prog.cellsOf 25 = 3 := by kernel_rfl
section
variable {H : Type} {enc : TypeId × Value → H} {w : World} {base : Nat} {spare : Nat → Bool} {held : Bool}
theorem read_ints' {fuel : Nat} {v : Value} {x : DataW H × List MemPlace} (h : DataW.trod enc Tryz.prog w base spare held fuel 23 [v] = some x) : ∃ (A : Option Addr) (n c : Nat) (gs : List Int), v = .slice A n c ∧ IntsR w (.slice A n c) gs := by
  rcases open_slice1 Tryz.underlying23 cells_int h with ⟨hv, _⟩ | ⟨a, len, cap, m, n, V, D, Pl, hcs, _, hl, hm, hmm, _, hi⟩
  · exact ⟨none, 0, 0, [], by simpa using hv, ⟨none, 0, rfl, fun k g hk => by simp at hk⟩⟩
  · have hlm : len ≤ m := by rw [hmm]; split <;> omega
    have key : ∀ i, i < len → ∃ g : Int, w.cell? (a.add i) = some (.int .i64 g) := by
      intro i hil
      obtain ⟨hc, ht⟩ := hi i (by omega)
      obtain ⟨n0, e0, _, _⟩ := DataW.trod_int Tryz.underlying3 ht
      simp at e0
      exact ⟨n0, by rw [hc, e0]⟩
    refine ⟨some a, len, cap, List.ofFn fun i : Fin len => Classical.choose (key i.val i.isLt), by simpa using hcs, ⟨some a, cap, by rw [List.length_ofFn], fun k g hk => ?_⟩⟩
    rw [List.getElem?_ofFn] at hk
    split at hk
    · rename_i hlt
      injection hk with hk
      subst hk
      exact ⟨a, rfl, Classical.choose_spec (key k hlt)⟩
    · cases hk
theorem read_ints {r : Reach} {b0 : Nat} {v : Value} {d : DataW H} {p : List MemPlace} (hval : Value.okWide Tryz.prog w r b0 23 v) (h : DataW.Trod enc Tryz.prog w base spare held 23 v d p) : ∃ (A : Option Addr) (n c : Nat) (gs : List Int), v = .slice A n c ∧ IntsR w (.slice A n c) gs := by
  obtain ⟨A, L, C, rfl⟩ := okWide_slice Tryz.underlying23 hval
  obtain ⟨fuel, h⟩ := h
  exact read_ints' h
set_option maxRecDepth 100000 in
theorem read_cred {r : Reach} {b0 : Nat} {v : Value} {d : DataW H} {p : List MemPlace} (hval : Value.okWide Tryz.prog w r b0 25 v) (h : DataW.Trod enc Tryz.prog w base spare held 25 v d p) : ∃ (u g : Int) (A : Option Addr) (n c : Nat) (gs : List Int), v = .agg #[.int .i64 u, .int .i64 g, .slice A n c] ∧ IntsR w (.slice A n c) gs := by
  obtain ⟨cs, rfl, hsz⟩ := okWide_struct Tryz.underlying25 hval
  rw [cells_cred] at hsz
  obtain ⟨l⟩ := cs
  match l, hsz with
  | [c0, c1, c2], _ =>
    obtain ⟨fuel, hf⟩ := h
    obtain ⟨y0, y1, y2, m, hx, _, hy0, hy1, hy2⟩ := trod_struct3 Tryz.underlying25 hf
    simp only [cells_int, cells_ints] at hy0 hy1 hy2
    obtain ⟨a, e0, _, _⟩ := DataW.trod_int Tryz.underlying3 hy0
    obtain ⟨b, e1, _, _⟩ := DataW.trod_int Tryz.underlying3 hy1
    simp [Value.cells] at e0 e1
    subst e0 e1
    obtain ⟨A, n, c, gs, hv, hI⟩ := read_ints' (v := c2) (by simpa [Value.cells] using hy2)
    exact ⟨a, b, A, n, c, gs, by rw [hv], hI⟩
end
theorem ints_readable : Tryz.prog.readableRec 23 = true := by kernel_rfl
theorem cred_readable : Tryz.prog.readableRec 25 = true := by kernel_rfl
/-- Numbers read behind the call as they read before. -/
theorem shut_ints {H : Type} {enc : TypeId × Value → H} {W W' : World} {v : Value} {d : DataW H} {p : List MemPlace} (h : DataW.Trod enc Tryz.prog W 0 (fun _ => true) true 23 v d p) (hb : Below W.heap.size W W') : DataW.Trod enc Tryz.prog W' 0 (fun b => decide (b < W.heap.size)) true 23 v d p := by
  refine Below.trod laid_out ints_readable (of_decide_eq_true (by kernel_rfl)) h hb ?_
  obtain ⟨n, hn⟩ := h
  exact DataW.trod_lt n _ _ _ hn
/-- Who asks reads behind the call as it read before. -/
theorem shut_cred {H : Type} {enc : TypeId × Value → H} {W W' : World} {v : Value} {d : DataW H} {p : List MemPlace} (h : DataW.Trod enc Tryz.prog W 0 (fun _ => true) true 25 v d p) (hb : Below W.heap.size W W') : DataW.Trod enc Tryz.prog W' 0 (fun b => decide (b < W.heap.size)) true 25 v d p := by
  refine Below.trod laid_out cred_readable (of_decide_eq_true (by kernel_rfl)) h hb ?_
  obtain ⟨n, hn⟩ := h
  exact DataW.trod_lt n _ _ _ hn
end Go.Proofs.YtfopnfgfoicidaaGreat
