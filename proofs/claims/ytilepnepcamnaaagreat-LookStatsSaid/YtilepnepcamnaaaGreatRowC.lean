/-
  Who asks, as an argument. No condition.
-/
import Derived.Test.YtilepnepcamnaaaGreatRowB
import Derived.ProofKit
import Derived.OpenShut
import Derived.Deep.DeepHandedRow
import Derived.Carry
import Derived.Lib.LaidTab
import Derived.Deep.Slices
import Derived.Deep.Strs
namespace Go.Proofs.YtilepnepcamnaaaGreat
open Go Go.ChangeShapes Go.WideShapes Go.ChangeAt Go.RowKit Go.Deep
set_option maxRecDepth 100000

section
variable {H : Type} {enc : TypeId × Value → H} {P : Program}
end
theorem cells_ints : Tryz.prog.cellsOf 23 = 1 := by kernel_rfl
theorem cells_cred : Tryz.prog.cellsOf 25 = 3 := by kernel_rfl
section
variable {H : Type} {enc : TypeId × Value → H} {w : World} {base : Nat} {spare : Nat → Bool} {held : Bool}
theorem read_ints' {fuel : Nat} {v : Value} {x : DataW H × List MemPlace} (h : DataW.trod enc Tryz.prog w base spare held fuel 23 [v] = some x) : ∃ (A : Option Addr) (n c : Nat) (gs : List Int), v = .slice A n c ∧ IntsR w (.slice A n c) gs := by
  rcases open_slice1 Tryz.underlying23 cells_int h with ⟨hv, _⟩ | ⟨a, len, cap, m, n, V, D, Pl, hcs, _, hl, hm, hmm, _, hi⟩
  · exact ⟨none, 0, 0, [], by simpa using hv, ⟨none, 0, rfl, fun k g hk => by simp at hk⟩⟩
  · have hlm : len ≤ m := by rw [hmm]; split <;> omega
    have key : ∀ i, i < len → ∃ g : Int, w.cell? (a.add i) = some (.int .i64 g) := by
      intro i hil
      obtain ⟨hc, ht⟩ := hi i (by omega)
      obtain ⟨n0, e0, _, _⟩ := DataW.trod_int Tryz.underlying3 ht
      simp at e0
      exact ⟨n0, by rw [hc, e0]⟩
    refine ⟨some a, len, cap, List.ofFn fun i : Fin len => Classical.choose (key i.val i.isLt), by simpa using hcs, ⟨some a, cap, by rw [List.length_ofFn], fun k g hk => ?_⟩⟩
    rw [List.getElem?_ofFn] at hk
    split at hk
    · rename_i hlt
      injection hk with hk
      subst hk
      exact ⟨a, rfl, Classical.choose_spec (key k hlt)⟩
    · cases hk
theorem read_ints {r : Reach} {b0 : Nat} {v : Value} {d : DataW H} {p : List MemPlace} (hval : Value.okWide Tryz.prog w r b0 23 v) (h : DataW.Trod enc Tryz.prog w base spare held 23 v d p) : ∃ (A : Option Addr) (n c : Nat) (gs : List Int), v = .slice A n c ∧ IntsR w (.slice A n c) gs := by
  obtain ⟨A, L, C, rfl⟩ := okWide_slice Tryz.underlying23 hval
  obtain ⟨fuel, h⟩ := h
  exact read_ints' h
set_option maxRecDepth 100000 in
theorem read_cred {r : Reach} {b0 : Nat} {v : Value} {d : DataW H} {p : List MemPlace} (hval : Value.okWide Tryz.prog w r b0 25 v) (h : DataW.Trod enc Tryz.prog w base spare held 25 v d p) : ∃ (u g : Int) (A : Option Addr) (n c : Nat) (gs : List Int), v = .agg #[.int .i64 u, .int .i64 g, .slice A n c] ∧ IntsR w (.slice A n c) gs := by
  obtain ⟨cs, rfl, hsz⟩ := okWide_struct Tryz.underlying25 hval
  rw [cells_cred] at hsz
  obtain ⟨l⟩ := cs
  match l, hsz with
  | [c0, c1, c2], _ =>
    obtain ⟨fuel, hf⟩ := h
    obtain ⟨y0, y1, y2, m, hx, _, hy0, hy1, hy2⟩ := trod_struct3 Tryz.underlying25 hf
    simp only [cells_int, cells_ints] at hy0 hy1 hy2
    obtain ⟨a, e0, _, _⟩ := DataW.trod_int Tryz.underlying3 hy0
    obtain ⟨b, e1, _, _⟩ := DataW.trod_int Tryz.underlying3 hy1
    simp [Value.cells] at e0 e1
    subst e0 e1
    obtain ⟨A, n, c, gs, hv, hI⟩ := read_ints' (v := c2) (by simpa [Value.cells] using hy2)
    exact ⟨a, b, A, n, c, gs, by rw [hv], hI⟩
end
theorem ints_readable : Tryz.prog.readableRec 23 = true := by kernel_rfl
theorem cred_readable : Tryz.prog.readableRec 25 = true := by kernel_rfl
/-- Numbers read behind the call as they read before. -/
theorem shut_ints {H : Type} {enc : TypeId × Value → H} {W W' : World} {v : Value} {d : DataW H} {p : List MemPlace} (h : DataW.Trod enc Tryz.prog W 0 (fun _ => true) true 23 v d p) (hb : Below W.heap.size W W') : DataW.Trod enc Tryz.prog W' 0 (fun b => decide (b < W.heap.size)) true 23 v d p := by
  refine Below.trod laid_out ints_readable (of_decide_eq_true (by kernel_rfl)) h hb ?_
  obtain ⟨n, hn⟩ := h
  exact DataW.trod_lt n _ _ _ hn
/-- Who asks reads behind the call as it read before. -/
theorem shut_cred {H : Type} {enc : TypeId × Value → H} {W W' : World} {v : Value} {d : DataW H} {p : List MemPlace} (h : DataW.Trod enc Tryz.prog W 0 (fun _ => true) true 25 v d p) (hb : Below W.heap.size W W') : DataW.Trod enc Tryz.prog W' 0 (fun b => decide (b < W.heap.size)) true 25 v d p := by
  refine Below.trod laid_out cred_readable (of_decide_eq_true (by kernel_rfl)) h hb ?_
  obtain ⟨n, hn⟩ := h
  exact DataW.trod_lt n _ _ _ hn
end Go.Proofs.YtilepnepcamnaaaGreat
