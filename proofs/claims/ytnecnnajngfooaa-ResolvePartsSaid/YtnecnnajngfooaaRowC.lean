/-
  Who asks, as an argument. No condition.
-/
import Derived.Test.YtnecnnajngfooaaRowB
import Derived.ProofKit
import Derived.OpenShut
import Derived.Deep.DeepHandedRow
import Derived.Carry
import Derived.Lib.LaidTab
import Derived.Deep.Slices
import Derived.Deep.Strs
namespace Go.Proofs.Ytnecnnajngfooaa
open Go Go.ChangeShapes Go.WideShapes Go.ChangeAt Go.RowKit Go.Deep
set_option maxRecDepth 100000

section
variable {H : Type} {enc : TypeId × Value → H} {P : Program}
end
theorem cells_ints : Try.prog.cellsOf 32 = 1 := by kernel_rfl
theorem cells_cred : Try.prog.cellsOf 87 = 3 := by kernel_rfl
section
variable {H : Type} {enc : TypeId × Value → H} {w : World} {base : Nat} {spare : Nat → Bool} {held : Bool}
theorem read_ints' {fuel : Nat} {v : Value} {x : DataW H × List MemPlace} (h : DataW.trod enc Try.prog w base spare held fuel 32 [v] = some x) : ∃ (A : Option Addr) (n c : Nat) (gs : List Int), v = .slice A n c ∧ IntsR w (.slice A n c) gs := by
  rcases open_slice1 Try.underlying32 cells_int h with ⟨hv, _⟩ | ⟨a, len, cap, m, n, V, D, Pl, hcs, _, hl, hm, hmm, _, hi⟩
  · exact ⟨none, 0, 0, [], by simpa using hv, ⟨none, 0, rfl, fun k g hk => by simp at hk⟩⟩
  · have hlm : len ≤ m := by rw [hmm]; split <;> omega
    have key : ∀ i, i < len → ∃ g : Int, w.cell? (a.add i) = some (.int .i64 g) := by
      intro i hil
      obtain ⟨hc, ht⟩ := hi i (by omega)
      obtain ⟨n0, e0, _, _⟩ := DataW.trod_int Try.underlying3 ht
      simp at e0
      exact ⟨n0, by rw [hc, e0]⟩
    refine ⟨some a, len, cap, List.ofFn fun i : Fin len => Classical.choose (key i.val i.isLt), by simpa using hcs, ⟨some a, cap, by rw [List.length_ofFn], fun k g hk => ?_⟩⟩
    rw [List.getElem?_ofFn] at hk
    split at hk
    · rename_i hlt
      injection hk with hk
      subst hk
      exact ⟨a, rfl, Classical.choose_spec (key k hlt)⟩
    · cases hk
theorem read_ints {r : Reach} {b0 : Nat} {v : Value} {d : DataW H} {p : List MemPlace} (hval : Value.okWide Try.prog w r b0 32 v) (h : DataW.Trod enc Try.prog w base spare held 32 v d p) : ∃ (A : Option Addr) (n c : Nat) (gs : List Int), v = .slice A n c ∧ IntsR w (.slice A n c) gs := by
  obtain ⟨A, L, C, rfl⟩ := okWide_slice Try.underlying32 hval
  obtain ⟨fuel, h⟩ := h
  exact read_ints' h
set_option maxRecDepth 100000 in
theorem read_cred {r : Reach} {b0 : Nat} {v : Value} {d : DataW H} {p : List MemPlace} (hval : Value.okWide Try.prog w r b0 87 v) (h : DataW.Trod enc Try.prog w base spare held 87 v d p) : ∃ (u g : Int) (A : Option Addr) (n c : Nat) (gs : List Int), v = .agg #[.int .i64 u, .int .i64 g, .slice A n c] ∧ IntsR w (.slice A n c) gs := by
  obtain ⟨cs, rfl, hsz⟩ := okWide_struct Try.underlying87 hval
  rw [cells_cred] at hsz
  obtain ⟨l⟩ := cs
  match l, hsz with
  | [c0, c1, c2], _ =>
    obtain ⟨fuel, hf⟩ := h
    obtain ⟨y0, y1, y2, m, hx, _, hy0, hy1, hy2⟩ := trod_struct3 Try.underlying87 hf
    simp only [cells_int, cells_ints] at hy0 hy1 hy2
    obtain ⟨a, e0, _, _⟩ := DataW.trod_int Try.underlying3 hy0
    obtain ⟨b, e1, _, _⟩ := DataW.trod_int Try.underlying3 hy1
    simp [Value.cells] at e0 e1
    subst e0 e1
    obtain ⟨A, n, c, gs, hv, hI⟩ := read_ints' (v := c2) (by simpa [Value.cells] using hy2)
    exact ⟨a, b, A, n, c, gs, by rw [hv], hI⟩
end
theorem ints_readable : Try.prog.readableRec 32 = true := by kernel_rfl
theorem cred_readable : Try.prog.readableRec 87 = true := by kernel_rfl
/-- Numbers read behind the call as they read before. -/
theorem shut_ints {H : Type} {enc : TypeId × Value → H} {W W' : World} {v : Value} {d : DataW H} {p : List MemPlace} (h : DataW.Trod enc Try.prog W 0 (fun _ => true) true 32 v d p) (hb : Below W.heap.size W W') : DataW.Trod enc Try.prog W' 0 (fun b => decide (b < W.heap.size)) true 32 v d p := by
  refine Below.trod laid_out ints_readable (of_decide_eq_true (by kernel_rfl)) h hb ?_
  obtain ⟨n, hn⟩ := h
  exact DataW.trod_lt n _ _ _ hn
/-- Who asks reads behind the call as it read before. -/
theorem shut_cred {H : Type} {enc : TypeId × Value → H} {W W' : World} {v : Value} {d : DataW H} {p : List MemPlace} (h : DataW.Trod enc Try.prog W 0 (fun _ => true) true 87 v d p) (hb : Below W.heap.size W W') : DataW.Trod enc Try.prog W' 0 (fun b => decide (b < W.heap.size)) true 87 v d p := by
  refine Below.trod laid_out cred_readable (of_decide_eq_true (by kernel_rfl)) h hb ?_
  obtain ⟨n, hn⟩ := h
  exact DataW.trod_lt n _ _ _ hn
end Go.Proofs.Ytnecnnajngfooaa
