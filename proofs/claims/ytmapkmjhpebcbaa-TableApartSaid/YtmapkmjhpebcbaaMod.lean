/-
  Bytes and texts, as plain mathematics. No condition.
-/
import Derived.Test.YtmapkmjhpebcbaaNodeM2
import Derived.Lib.Bytealg
import Derived.Lib.IndexBytes
namespace Go.Proofs.Ytmapkmjhpebcbaa
open Go Go.RowKit

def co (c : UInt8) : Int := (c.toNat : Int)
theorem co_bd (c : UInt8) : 0 ≤ co c ∧ co c ≤ 255 := by
  have := c.toNat_lt
  unfold co
  omega
theorem co_inj {a b : UInt8} (h : co a = co b) : a = b := UInt8.toNat_inj.1 (by unfold co at h; omega)
theorem co_ne {a b : UInt8} (h : ¬ a = b) : (co a == co b) = false := by
  rw [beq_eq_false_iff_ne]
  exact fun e => h (co_inj e)
theorem size_len (s : ByteArray) : s.data.toList.length = s.size := by simp
theorem empty_iff (s : ByteArray) : s.toList = [] ↔ s.size = 0 := by
  rw [ByteArray.toList_eq, ← List.length_eq_zero_iff, Array.length_toList]
  rfl
theorem empty_false {s : ByteArray} (h : ¬ s.size = 0) : s.toList.isEmpty = false := by
  rw [Bool.eq_false_iff]
  intro h2
  exact h ((empty_iff s).1 (List.isEmpty_iff.1 h2))
theorem ba_ext {s t : ByteArray} (h : s.data.toList = t.data.toList) : s = t := by
  obtain ⟨⟨a⟩⟩ := s
  obtain ⟨⟨b⟩⟩ := t
  simp only at h
  rw [h]
/-- Bytes as a text. -/
def bA (l : List UInt8) : ByteArray := ⟨⟨l⟩⟩
/-- A text's bytes. -/
def tl (s : ByteArray) : List UInt8 := s.data.toList
theorem tl_bA (l : List UInt8) : tl (bA l) = l := rfl
theorem bA_tl (s : ByteArray) : bA (tl s) = s := ba_ext rfl
theorem bA_eq {s : ByteArray} {l : List UInt8} (h : tl s = l) : s = bA l := ba_ext h
theorem bA_inj {a b : List UInt8} (h : bA a = bA b) : a = b := by have := congrArg tl h; exact this
theorem tl_len (s : ByteArray) : (tl s).length = s.size := size_len s
theorem size_bA (l : List UInt8) : (bA l).size = l.length := by rw [← tl_len, tl_bA]
theorem tl_ext (s : ByteArray) (a b : Nat) : tl (s.extract a b) = ((tl s).take b).drop a := by
  unfold tl
  rw [ByteArray.data_extract, Array.toList_extract, List.extract_eq_take_drop, List.drop_take]
theorem ext_bA (s : ByteArray) (a b : Nat) : s.extract a b = bA (((tl s).take b).drop a) := bA_eq (tl_ext s a b)
theorem pre_bA (s : ByteArray) (b : Nat) : s.extract 0 b = bA ((tl s).take b) := by rw [ext_bA, List.drop_zero]
theorem tl_app (s t : ByteArray) : tl (s ++ t) = tl s ++ tl t := by
  unfold tl
  rw [ByteArray.data_append, Array.toList_append]
theorem tl_at {s : ByteArray} {k : Nat} (h : k < s.size) : (tl s)[k]? = some s[k] := Lib.data_getElem? s k h

end Go.Proofs.Ytmapkmjhpebcbaa
