/-
  What owner.Show answers of any numbers that a machine has, under the condition that strconv's table of powers holds what its initialiser lays.
-/
import Derived.Test.YtkbdlmmpeieaeaaDoorDig
import Derived.WalkSmall
namespace Go.Proofs.YtkbdlmmpeieaeaaDoor
open Go Go.RowKit

/-- strconv's table of powers of ten is as it is laid. -/
def Tb (w : World) : Prop := Lib.TabIs Tryd.prog w "internal/strconv.uint64pow10" .u64 Lib.pow10Tab ∧ 1 < w.heap.size
theorem Tb.below {w w' : World} (h : Tb w) (hb : Below w.heap.size w w') : Tb w' :=
  ⟨var?_below hb (show Tryd.prog.globalNamed "internal/strconv.uint64pow10" = some 1 by kernel_rfl) h.2 h.1, Nat.lt_of_lt_of_le h.2 hb.size⟩
theorem below_grow (w : World) (k : Nat) (os : Array Obj) : Below w.heap.size w (Sort.grow (w.drewN k) os) :=
  ⟨rfl, rfl, rfl, by rw [Sort.size_grow]; exact Nat.le_add_right _ _, fun _ hi => Sort.heap_grow_old _ _ hi⟩
/-- The digits of a number; nothing below 0. -/
def dgs (n : Int) : List UInt8 := if n < 0 then [] else Lib.decDigits n.toNat
theorem dec_len : ∀ (k n : Nat), n < 10 ^ (k + 1) → (Lib.decDigits n).length ≤ k + 1 := by
  intro k
  induction k with
  | zero => intro n h; rw [Lib.decDigits, dif_pos (by simpa using h)]; simp
  | succ k ih =>
    intro n h
    rw [Lib.decDigits]
    split
    · simp
    · have := ih (n / 10) (by rw [Nat.pow_succ] at h; omega)
      simp
      omega
theorem dgs_len (n : Int) (h : n ≤ 9223372036854775807) : (dgs n).length ≤ 19 := by
  unfold dgs
  split
  · simp
  · exact dec_len 18 _ (by have : (10 : Nat) ^ (18 + 1) = 10000000000000000000 := by decide
                           omega)
theorem digits_any (n : Int) (w : World) (h0 : -9223372036854775808 ≤ n) (h1 : n ≤ 9223372036854775807) (hT : Tb w) :
    Calls Tryd.prog 29 #[.int .i64 n] w fun e w' => e = .returned (.string ⟨(dgs n).toArray⟩) ∧ Below w.heap.size w w' := by
  have HI := Lib.hid (Tryd.strconv_Itoa n h0 h1 w hT.1)
  clear hT
  by_cases hn : n < 0
  · have HD := Lib.hid (show dgs n = [] by rw [dgs, if_pos hn])
    go_enter Tryd.func29, Tryd.ntmps29
    go_wp2
    go_ret
    exact ⟨ret_str (a := []) HD.out.symm, Below.refl _ _⟩
  · have HD := Lib.hid (show Lib.itoa n = dgs n by rw [dgs, if_neg hn, Lib.itoa, if_neg hn])
    go_enter Tryd.func29, Tryd.ntmps29
    go_wp2_with fail
    refine HI.out.mono ?_
    rintro e w' ⟨rfl, k, os, hw⟩
    have HB := Lib.hid (show Below w.heap.size w w' by rw [hw]; exact below_grow w k os)
    clear hw
    go_wp2
    go_ret
    exact ⟨ret_str HD.out, HB.out⟩
/-- The first of two texts that isn't empty. -/
def fst2 (a b : List UInt8) : List UInt8 := if a = [] then b else a
theorem toList_nil {l : List UInt8} : (⟨l.toArray⟩ : ByteArray).toList = l := by rw [ByteArray.toList_eq]
theorem first2 (W : World) (a b : List UInt8) :
    Calls Tryd.prog 27 #[.slice (some ⟨W.heap.size, 0, none⟩) 2 2] (W.alloc (.cells #[.string ⟨a.toArray⟩, .string ⟨b.toArray⟩] 9)) fun e w' => e = .returned (.string ⟨(fst2 a b).toArray⟩) ∧ W.alloc (.cells #[.string ⟨a.toArray⟩, .string ⟨b.toArray⟩] 9) = w' := by
  by_cases ha : a = []
  · subst ha
    rw [fst2, if_pos rfl]
    by_cases hb : b = []
    · subst hb
      go_enter Tryd.func27, Tryd.ntmps27
      go_wp2
      refine wp_loop_rounds 3 ?_
      rw [rounds_succ]
      go_wp2
      rw [rounds_succ]
      go_wp2
      rw [rounds_succ]
      go_wp2
      go_ret
      exact ⟨rfl, rfl⟩
    · have h1 : ¬ (⟨b.toArray⟩ : ByteArray).toList = [] := by rw [toList_nil]; exact hb
      have h2 : (⟨b.toArray⟩ : ByteArray).toList.isEmpty = false := by rw [toList_nil]; simpa using hb
      generalize (⟨b.toArray⟩ : ByteArray) = B at *
      clear hb
      go_enter Tryd.func27, Tryd.ntmps27
      go_wp2
      refine wp_loop_rounds 3 ?_
      rw [rounds_succ]
      go_wp2
      rw [rounds_succ]
      go_wp2
      go_ret
      exact ⟨rfl, rfl⟩
  · rw [fst2, if_neg ha]
    have h1 : ¬ (⟨a.toArray⟩ : ByteArray).toList = [] := by rw [toList_nil]; exact ha
    have h2 : (⟨a.toArray⟩ : ByteArray).toList.isEmpty = false := by rw [toList_nil]; simpa using ha
    generalize (⟨a.toArray⟩ : ByteArray) = A at *
    generalize (⟨b.toArray⟩ : ByteArray) = B at *
    clear ha
    go_enter Tryd.func27, Tryd.ntmps27
    go_wp2
    refine wp_loop_rounds 3 ?_
    rw [rounds_succ]
    go_wp2
    go_ret
    exact ⟨rfl, rfl⟩
/-- The text of a number by four names. -/
def tx (a b c d : List UInt8) (n : Int) : List UInt8 := fst2 (txt a b c d n) (dgs n)
theorem textOf_any (a b c d : List UInt8) (n : Int) (bm : Nat) (w : World) (hb : w.heap[bm]? = some (.map (es4 a b c d) 4)) (h0 : -9223372036854775808 ≤ n) (h1 : n ≤ 9223372036854775807) (hT : Tb w) :
    Calls Tryd.prog 24 #[.map (some bm), .int .i64 n] w fun e w' => e = .returned (.string ⟨(tx a b c d n).toArray⟩) ∧ Below w.heap.size w w' := by
  have HN := Lib.hid (nameOf_any a b c d n bm w hb)
  have HT := Lib.hid hT
  have H0 := Lib.hid h0
  have H1 := Lib.hid h1
  clear hb hT h0 h1
  go_enter Tryd.func24, Tryd.ntmps24
  go_wp2_with fail
  refine HN.out.mono ?_
  rintro e w1 ⟨rfl, hb1⟩
  have HB1 := Lib.hid hb1
  clear hb1
  go_wp2_with fail
  refine (digits_any n _ H0.out H1.out (HT.out.below HB1.out)).mono ?_
  rintro e w2 ⟨rfl, hb2⟩
  have HB2 := Lib.hid (bt hb2 HB1.out)
  clear hb2
  go_wp2_with fail
  refine (first2 _ _ _).mono ?_
  rintro e w3 ⟨rfl, hw⟩
  have HB3 := Lib.hid (show Below w.heap.size w w3 by rw [← hw]; exact HB2.out.alloc HB2.out.size _)
  clear hw
  go_wp2
  go_ret
  exact ⟨rfl, HB3.out⟩
end Go.Proofs.YtkbdlmmpeieaeaaDoor
