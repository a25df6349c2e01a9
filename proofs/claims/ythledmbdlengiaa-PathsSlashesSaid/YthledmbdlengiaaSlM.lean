/-
  Paths that are built of names, with slashes between, as plain mathematics. No condition.
-/
import Derived.Test.YthledmbdlengiaaAwake
namespace Go.Proofs.Ythledmbdlengiaa
open Go Go.RowKit

/-- A path of the names so far. -/
structure PB (ab : Bool) (ns : List (List UInt8)) (p : List UInt8) : Prop where
  names : nms p = ns
  abs : absP p = ab
  last : ns ≠ [] → ¬ p.getLast? = some 47
  step : ns ≠ [] → (stp p).getLast? = some p
  zero : ns = [] → ∃ j, p = List.replicate j 47
theorem PB.start (ab : Bool) (j : Nat) (h : decide (0 < j) = ab) : PB ab [] (List.replicate j 47) := by
  refine ⟨?_, ?_, fun h => absurd rfl h, fun h => absurd rfl h, fun _ => ⟨j, rfl⟩⟩
  · have := nms_sl j []
    rw [List.append_nil] at this
    exact this
  · rw [← h]
    cases j with
    | zero => rfl
    | succ j => rfl
theorem abs_app {a b : List UInt8} (h : ¬ a = []) : absP (a ++ b) = absP a := by
  cases a with
  | nil => exact absurd rfl h
  | cons c a => rfl
theorem PB.more {ab : Bool} {ns : List (List UInt8)} {p n : List UInt8} (h : PB ab ns p) (j : Nat) (hj : ns = [] → j = 0) (hj2 : ns ≠ [] → 0 < j) (hn : noSl n) (hn0 : ¬ n = []) : PB ab (ns ++ [n]) (p ++ List.replicate j 47 ++ n) := by
  have hlast : ¬ (p ++ List.replicate j 47 ++ n).getLast? = some 47 := last_plain hn hn0
  by_cases h0 : ns = []
  · obtain ⟨i, rfl⟩ := h.zero h0
    have hj0 := hj h0
    subst hj0
    subst h0
    have e : List.replicate i 47 ++ List.replicate 0 47 ++ n = List.replicate i 47 ++ n := by simp
    rw [e] at hlast ⊢
    refine ⟨?_, ?_, fun _ => hlast, fun _ => ?_, fun e => by simp at e⟩
    · rw [nms_first i hn hn0]; rfl
    · rw [← h.abs]
      cases i with
      | zero =>
        show absP n = absP []
        cases n with
        | nil => exact absurd rfl hn0
        | cons c n =>
          have : ¬ c = 47 := hn c (List.mem_cons_self ..)
          show (some c == some 47) = false
          simpa using this
      | succ i => rfl
    · rw [stp_first i hn hn0]; rfl
  · obtain ⟨m, rfl⟩ : ∃ m, j = m + 1 := ⟨j - 1, by have := hj2 h0; omega⟩
    refine ⟨?_, ?_, fun _ => hlast, fun _ => ?_, fun e => by simp at e⟩
    · rw [nms_more p m hn hn0, h.names]
    · rw [List.append_assoc, abs_app, h.abs]
      intro e
      have := h.names
      rw [e] at this
      exact h0 this.symm
    · rw [stp_more p m hn hn0]; simp
theorem PB.split {ab : Bool} {ns : List (List UInt8)} {p : List UInt8} (h : PB ab ns p) : splitP p = ns := by
  by_cases h0 : ns = []
  · rw [splitP, if_neg (fun e => e.1 (h.names.trans h0)), h.names]
  · rw [split_same (h.last h0), h.names]
theorem PB.base {ab : Bool} {ns : List (List UInt8)} {p q : List UInt8} (h : PB ab ns p) (g : PB ab ns q) : baseP p = baseP q := by
  unfold baseP
  rw [h.names, g.names, h.abs, g.abs]
theorem PB.len {ab : Bool} {ns : List (List UInt8)} {p : List UInt8} (h : PB ab ns p) : (stp p).length = ns.length := by rw [len_stp, h.names]
/-- The names so far. -/
def firsts (xs : List ByteArray) (k : Nat) : List (List UInt8) := (xs.take k).map tl
theorem firsts_snoc {xs : List ByteArray} {k : Nat} {s : ByteArray} (h : xs[k]? = some s) : firsts xs (k + 1) = firsts xs k ++ [tl s] := by
  rw [firsts, take_snoc' h, List.map_append]
  rfl
theorem firsts_nil {xs : List ByteArray} {k : Nat} (h : k ≤ xs.length) : firsts xs k = [] ↔ k = 0 := by
  rw [← List.length_eq_zero_iff, firsts, List.length_map, List.length_take]
  omega
theorem firsts_all (xs : List ByteArray) : bAs (firsts xs xs.length) = xs := by
  rw [firsts, List.take_length, bAs, List.map_map]
  conv => rhs; rw [← List.map_id xs]
  apply List.map_congr_left
  intro x _
  exact bA_tl x
theorem firsts_len (xs : List ByteArray) : (firsts xs xs.length).length = xs.length := by rw [firsts, List.take_length, List.length_map]
end Go.Proofs.Ythledmbdlengiaa
