/-
  What the rows of the laws of node share: texts and bytes as arguments; the world of a witness; the end of a row whose call leaves what was there as it was.
-/
import Derived.Test.YtmapkmjhpebcbaaMem
import Derived.Test.YtmapkmjhpebcbaaRows
import Derived.ProofKit
import Derived.OpenShut
import Derived.Deep.DeepHandedRow
import Derived.Carry
import Derived.Lib.LaidTab
import Derived.Deep.Slices
import Derived.Deep.Strs
namespace Go.Proofs.Ytmapkmjhpebcbaa
open Go Go.ChangeShapes Go.WideShapes Go.ChangeAt Go.RowKit Go.Deep

theorem ownKnobs : ownKnob Try.prog.godebug = none := by kernel_rfl
/-- The world of a witness: the settled one. -/
noncomputable def laidWorld (os : Os) : World := World.holding Try.prog os ⟨#[], #[], []⟩
section
variable {H : Type} {enc : TypeId × Value → H} {P : Program}
/-- The end of a law's row: it answers one bool, and what was there is as it was. -/
theorem law_post {f : Func} {s : ChangeSpec} {W W' : World} {args : Array Value} {ds : List (DataW H)} {v : Value} {before pa : List MemPlace}
    (hW : DataW.Whole enc P f.params.toList s.vars false W args.toList ds [] before)
    (hres : DataW.TrodAll enc P W' W.heap.size (fun _ => false) false f.resultTypes.toList (v.resultList f.resultTypes.size) (s.fn H (ds ++ [])).results [])
    (hargs : DataW.TrodAll enc P W' 0 (fun b => decide (b < W.heap.size)) true f.params.toList args.toList (s.fn H (ds ++ [])).args pa)
    (hvars : DataW.TrodVars enc P W' (fun b => decide (b < W.heap.size)) s.vars (s.fn H (ds ++ [])).vars [])
    (hb : Below W.heap.size W W') : s.post enc P f false true false false W args v W' :=
  ⟨ds, [], before, [], pa, [], hW, hres, hargs, hvars, hb.frame _, fun h => by cases h⟩
end
theorem cells_str : Try.prog.cellsOf 9 = 1 := by kernel_rfl
theorem cells_u8 : Try.prog.cellsOf 5 = 1 := by kernel_rfl
theorem byte_of {n : Int} (h : (Lit.int .u8 n).wf = true) : ∃ c : UInt8, n = co c := by
  have hb : 0 ≤ n ∧ n ≤ 255 := by simpa [Lit.wf, IntKind.min, IntKind.max, IntKind.signed, IntKind.bits] using h
  refine ⟨UInt8.ofNat n.toNat, ?_⟩
  unfold co
  rw [UInt8.toNat_ofNat']
  omega
section
variable {H : Type} {enc : TypeId × Value → H} {w : World} {base : Nat} {spare : Nat → Bool} {held : Bool}
set_option maxRecDepth 100000 in
theorem read_strs {r : Reach} {b0 : Nat} {v : Value} {d : DataW H} {p : List MemPlace} (hval : Value.okWide Try.prog w r b0 31 v) (h : DataW.Trod enc Try.prog w base spare held 31 v d p) : ∃ l : List ByteArray, StrsR w v l ∧ l.length ≤ maxLen ∧ ∀ s ∈ l, s.size ≤ maxLen := by
  obtain ⟨A, L, C, rfl⟩ := okWide_slice Try.underlying31 hval
  obtain ⟨fuel, h⟩ := h
  rcases open_strs Try.underlying31 Try.underlying9 cells_str h with ⟨hv, _⟩ | ⟨a, len, cap, m, Sx, hcs, _, hl, hm, hmm, _, hi⟩
  · have hv' : Value.slice A L C = .slice none 0 0 := by simpa [Value.cells] using hv
    exact ⟨[], by rw [hv']; exact StrsR.nil w, by simp, by simp⟩
  · have hv : Value.slice A L C = .slice (some a) len cap := by simpa [Value.cells] using hcs
    have hlm : len ≤ m := by rw [hmm]; split <;> omega
    refine ⟨List.ofFn fun i : Fin len => Sx i.val, ⟨some a, cap, by rw [List.length_ofFn]; exact hv, ⟨by rw [List.length_ofFn]; exact hl, fun e => by cases e⟩, fun k s hk => ?_⟩, by rw [List.length_ofFn]; omega, fun s hs => ?_⟩
    · rw [List.getElem?_ofFn] at hk
      split at hk
      · rename_i hlt
        injection hk with hk
        subst hk
        exact ⟨a, rfl, (hi k (by omega)).1⟩
      · cases hk
    · rw [List.mem_ofFn] at hs
      obtain ⟨i, rfl⟩ := hs
      exact (hi i.val (by have := i.isLt; omega)).2
set_option maxRecDepth 100000 in
theorem read_bytes {r : Reach} {b0 : Nat} {v : Value} {d : DataW H} {p : List MemPlace} (hval : Value.okWide Try.prog w r b0 36 v) (h : DataW.Trod enc Try.prog w base spare held 36 v d p) : ∃ l : List UInt8, BytesR w v l ∧ l.length ≤ maxLen := by
  obtain ⟨A, L, C, rfl⟩ := okWide_slice Try.underlying36 hval
  obtain ⟨fuel, h⟩ := h
  rcases open_slice1 Try.underlying36 cells_u8 h with ⟨hv, _⟩ | ⟨a, len, cap, m, n, V, D, Pl, hcs, _, hl, hm, hmm, _, hi⟩
  · have hv' : Value.slice A L C = .slice none 0 0 := by simpa [Value.cells] using hv
    exact ⟨[], ⟨none, 0, by simpa using hv', fun k a hk => by simp at hk⟩, by simp⟩
  · have hv : Value.slice A L C = .slice (some a) len cap := by simpa [Value.cells] using hcs
    have hlm : len ≤ m := by rw [hmm]; split <;> omega
    have key : ∀ i, i < len → ∃ b : UInt8, w.cell? (a.add i) = some (.int .u8 (co b)) := by
      intro i hil
      obtain ⟨hc, ht⟩ := hi i (by omega)
      obtain ⟨n0, e0, _, w0⟩ := DataW.trod_int Try.underlying5 ht
      simp at e0
      obtain ⟨b, rfl⟩ := byte_of w0
      exact ⟨b, by rw [hc, e0]⟩
    refine ⟨List.ofFn fun i : Fin len => Classical.choose (key i.val i.isLt), ⟨some a, cap, by rw [List.length_ofFn]; exact hv, fun k ca hk => ?_⟩, by rw [List.length_ofFn]; omega⟩
    rw [List.getElem?_ofFn] at hk
    split at hk
    · rename_i hlt
      injection hk with hk
      subst hk
      exact ⟨a, rfl, Classical.choose_spec (key k hlt)⟩
    · cases hk
end
theorem laid_out : laidOutB Try.prog = true := by kernel_rfl
theorem strs_readable : Try.prog.readableRec 31 = true := by kernel_rfl
theorem bytes_readable : Try.prog.readableRec 36 = true := by kernel_rfl
section
variable {H : Type} {enc : TypeId × Value → H} {W W' : World} {v : Value} {d : DataW H} {p : List MemPlace}
/-- Texts read behind the call as they read before. -/
theorem shut_strs (h : DataW.Trod enc Try.prog W 0 (fun _ => true) true 31 v d p) (hb : Below W.heap.size W W') : DataW.Trod enc Try.prog W' 0 (fun b => decide (b < W.heap.size)) true 31 v d p := by
  refine Below.trod laid_out strs_readable (of_decide_eq_true (by kernel_rfl)) h hb ?_
  obtain ⟨n, hn⟩ := h
  exact DataW.trod_lt n _ _ _ hn
/-- Bytes read behind the call as they read before. -/
theorem shut_bytes (h : DataW.Trod enc Try.prog W 0 (fun _ => true) true 36 v d p) (hb : Below W.heap.size W W') : DataW.Trod enc Try.prog W' 0 (fun b => decide (b < W.heap.size)) true 36 v d p := by
  refine Below.trod laid_out bytes_readable (of_decide_eq_true (by kernel_rfl)) h hb ?_
  obtain ⟨n, hn⟩ := h
  exact DataW.trod_lt n _ _ _ hn
end
end Go.Proofs.Ytmapkmjhpebcbaa
