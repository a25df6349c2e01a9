/-
  Bytes as an argument of the statements of stage 16: read with the room that they have. No condition.
-/
import Derived.Test.YtfopnfgfoicidaaGreatRW
namespace Go.Proofs.YtfopnfgfoicidaaGreat
open Go Go.ChangeShapes Go.WideShapes Go.ChangeAt Go.RowKit Go.Deep
set_option maxRecDepth 100000

theorem u16_wf {n : Int} (h : (Lit.int .u16 n).wf = true) : 0 ≤ n ∧ n ≤ 65535 := by simpa [Lit.wf, IntKind.min, IntKind.max, IntKind.signed, IntKind.bits] using h
theorem u8_wf {n : Int} (h : (Lit.int .u8 n).wf = true) : 0 ≤ n ∧ n ≤ 255 := by simpa [Lit.wf, IntKind.min, IntKind.max, IntKind.signed, IntKind.bits] using h
section
variable {H : Type} {enc : TypeId × Value → H} {w : World} {base : Nat} {spare : Nat → Bool} {held : Bool}
theorem read_bytesC {r : Reach} {b0 : Nat} {v : Value} {d : DataW H} {p : List MemPlace} (hval : Value.okWide Tryz.prog w r b0 43 v) (h : DataW.Trod enc Tryz.prog w base spare held 43 v d p) : ∃ (l : List UInt8) (A : Option Addr) (k : Nat), v = .slice A l.length k ∧ l.length ≤ k ∧ BytesR w (.slice A l.length k) l := by
  obtain ⟨A, L, C, rfl⟩ := okWide_slice Tryz.underlying43 hval
  obtain ⟨fuel, h⟩ := h
  rcases open_slice1 Tryz.underlying43 cells_u8 h with ⟨hv, _⟩ | ⟨a, len, cap, m, n, V, D, Pl, hcs, _, hl, hm, hmm, _, hi⟩
  · have hv' : Value.slice A L C = .slice none 0 0 := by simpa [Value.cells] using hv
    exact ⟨[], none, 0, by simpa using hv', Nat.le_refl _, BytesR.nil w⟩
  · have hv : Value.slice A L C = .slice (some a) len cap := by simpa [Value.cells] using hcs
    have hlm : len ≤ m := by rw [hmm]; split <;> omega
    have key : ∀ i, i < len → ∃ b : UInt8, w.cell? (a.add i) = some (.int .u8 (co b)) := by
      intro i hil
      obtain ⟨hc, ht⟩ := hi i (by omega)
      obtain ⟨n0, e0, _, w0⟩ := DataW.trod_int Tryz.underlying5 ht
      simp at e0
      obtain ⟨b, rfl⟩ := byte_of w0
      exact ⟨b, by rw [hc, e0]⟩
    refine ⟨List.ofFn fun i : Fin len => Classical.choose (key i.val i.isLt), some a, cap, by rw [List.length_ofFn]; exact hv, by rw [List.length_ofFn]; exact hl, ⟨some a, cap, rfl, fun k ca hk => ?_⟩⟩
    rw [List.getElem?_ofFn] at hk
    split at hk
    · rename_i hlt
      injection hk with hk
      subst hk
      exact ⟨a, rfl, Classical.choose_spec (key k hlt)⟩
    · cases hk
end
end Go.Proofs.YtfopnfgfoicidaaGreat
