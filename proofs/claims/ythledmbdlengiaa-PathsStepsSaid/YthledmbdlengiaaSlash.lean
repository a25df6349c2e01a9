/-
  What strings.IndexByte, has, fitsIn, Fits and Name answer, and the closure that asks for a slash. The only condition is that a text's length is a number that a machine has.
-/
import Derived.Test.YthledmbdlengiaaMem
import Derived.Deep.Draws
import Derived.Deep.QuietTactic
import Derived.BigQuiet
namespace Go.Proofs.Ythledmbdlengiaa
open Go Go.RowKit

theorem back_co (c : UInt8) : (co c).toNat.toUInt8 = c := Lib.byte_back c
theorem lindex_any (s : ByteArray) (c : UInt8) (w : World) :
    Calls Try.prog 35 #[.string s, .int .u8 (co c)] w fun e w' => e = .returned (.int .i64 (Lib.indexByte s.data.toList c)) ∧ w = w' := by
  have hb := Lib.hid (back_co c)
  generalize co c = n at hb ⊢
  go_enter Try.func35, Try.ntmps35
  go_wp2
  rw [run_callFunc_extern Try.func36 (by kernel_rfl) (by kernel_rfl) (by kernel_rfl) (e := Extern.BytealgIndexByte.indexByte) (by kernel_rfl), Lib.run_indexByteString]
  simp only [Result.andThen]
  rw [Oper.upon_value]
  go_wp2
  go_ret
  exact ⟨ret_int (by rw [show UInt8.ofNat n.toNat = c from hb.out]), rfl⟩
theorem index_any (s : ByteArray) (c : UInt8) (w : World) :
    Calls Try.prog 34 #[.string s, .int .u8 (co c)] w fun e w' => e = .returned (.int .i64 (Lib.indexByte s.data.toList c)) ∧ w = w' := by
  have H := Lib.hid (lindex_any s c w)
  generalize Lib.indexByte s.data.toList c = X at H ⊢
  go_enter Try.func34, Try.ntmps34
  go_wp2_with fail
  refine H.out.mono ?_
  rintro e w' ⟨rfl, rfl⟩
  go_wp2
  go_ret
  exact ⟨rfl, rfl⟩
theorem index_has (c : UInt8) : ∀ l : List UInt8, decide (Lib.indexByte l c ≥ 0) = l.contains c
  | [] => rfl
  | b :: l => by
    have ih := index_has c l
    rw [Lib.indexByte, List.contains_cons]
    by_cases h : b = c
    · subst h
      simp
    · have hb : (b == c) = false := by rw [beq_eq_false_iff_ne]; exact h
      have hc : (c == b) = false := by rw [beq_eq_false_iff_ne]; exact fun e => h e.symm
      rw [hb, hc, Bool.false_or, ← ih]
      rw [if_neg (by decide)]
      split
      · rename_i h2
        have h3 : Lib.indexByte l c = -1 := by simpa using h2
        rw [h3]
      · rename_i h2
        have h3 : ¬ Lib.indexByte l c = -1 := by simpa using h2
        congr 1
        apply propext
        constructor <;> intro h4 <;> omega
theorem has_any (s : ByteArray) (c : UInt8) (w : World) :
    Calls Try.prog 30 #[.string s, .int .u8 (co c)] w fun e w' => e = .returned (.bool ((tl s).contains c)) ∧ w = w' := by
  have H := Lib.hid (index_any s c w)
  have HX := Lib.hid (index_has c s.data.toList)
  obtain ⟨R, hR⟩ : ∃ R, (tl s).contains c = R := ⟨_, rfl⟩
  rw [hR]
  have HX := Lib.hid (show decide (Lib.indexByte s.data.toList c ≥ 0) = R from (index_has c _).trans hR)
  clear hR
  generalize Lib.indexByte s.data.toList c = X at H HX
  go_enter Try.func30, Try.ntmps30
  go_wp2_with fail
  refine H.out.mono ?_
  rintro e w' ⟨rfl, rfl⟩
  go_wp2
  go_ret
  exact ⟨ret_bool (by rw [← HX.out]), rfl⟩
/-- Has a text a byte, m of them at most, and none that is 0? -/
def fitB (s : ByteArray) (m : Nat) : Bool := decide (0 < s.size ∧ s.size ≤ m) && !(tl s).contains 0
theorem neq_empty (s : ByteArray) : (s.toList != []) = decide (0 < s.size) := by
  by_cases h : 0 < s.size
  · rw [decide_eq_true h]
    simp only [bne_iff_ne, ne_eq]
    intro e
    have := (empty_iff s).1 e
    omega
  · rw [decide_eq_false h]
    have := (empty_iff s).2 (by omega)
    rw [this]
    rfl
theorem fits_any (s : ByteArray) (m : Nat) (w : World) (hs : s.size ≤ maxLen) :
    Calls Try.prog 28 #[.string s, .int .i64 (m : Int)] w fun e w' => e = .returned (.bool (fitB s m)) ∧ w = w' := by
  have hs' : s.size ≤ 9223372036854775807 := by unfold maxLen at hs; omega
  have HH := Lib.hid (has_any s 0 w)
  rw [show co 0 = 0 from rfl] at HH
  have HF := Lib.hid (show fitB s m = (decide (0 < s.size ∧ s.size ≤ m) && !(tl s).contains 0) from rfl)
  generalize (tl s).contains 0 = R at HH HF
  generalize fitB s m = F at HF ⊢
  have n0 := neq_empty s
  clear hs
  by_cases h0 : 0 < s.size
  · rw [decide_eq_true h0] at n0
    have i0 := empty_false (s := s) (by omega)
    by_cases h1 : s.size ≤ m
    · have h2 : (s.size : Int) ≤ (m : Int) := by omega
      rw [decide_eq_true ⟨h0, h1⟩, Bool.true_and] at HF
      go_enter Try.func28, Try.ntmps28
      go_wp2_with fail
      refine HH.out.mono ?_
      rintro e w' ⟨rfl, rfl⟩
      go_wp2
      go_ret
      exact ⟨ret_bool (by rw [HF.out]), rfl⟩
    · have h2 : ¬ (s.size : Int) ≤ (m : Int) := by omega
      rw [decide_eq_false (fun e => h1 e.2), Bool.false_and] at HF
      go_enter Try.func28, Try.ntmps28
      go_wp2
      go_ret
      exact ⟨ret_bool HF.out.symm, rfl⟩
  · rw [decide_eq_false h0] at n0
    rw [decide_eq_false (fun e => h0 e.1), Bool.false_and] at HF
    have i0 : s.toList = [] := (empty_iff s).2 (by omega)
    go_enter Try.func28, Try.ntmps28
    go_wp2
    go_ret
    exact ⟨ret_bool HF.out.symm, rfl⟩
theorem Fits_any (s : ByteArray) (w : World) (hs : s.size ≤ maxLen) :
    Calls Try.prog 12 #[.string s] w fun e w' => e = .returned (.bool (fitB s 64)) ∧ w = w' := by
  have HH := Lib.hid (fits_any s 64 w hs)
  go_enter Try.func12, Try.ntmps12
  go_wp2_with fail
  refine HH.out.mono ?_
  rintro e w' ⟨rfl, rfl⟩
  go_wp2
  go_ret
  exact ⟨rfl, rfl⟩
/-- May a text be an entry's name? -/
def namB (s : ByteArray) : Bool := fitB s 12 && (!(tl s).contains 47 && (!(s.toList == [46]) && !(s.toList == [46, 46])))
theorem Name_any (s : ByteArray) (w : World) (hs : s.size ≤ maxLen) :
    Calls Try.prog 14 #[.string s] w fun e w' => e = .returned (.bool (namB s)) ∧ w = w' := by
  have H1 := Lib.hid (fits_any s 12 w hs)
  have H2 := Lib.hid (has_any s 47 w)
  rw [show co 47 = 47 from rfl] at H2
  have HF := Lib.hid (show namB s = (fitB s 12 && (!(tl s).contains 47 && (!(s.toList == [46]) && !(s.toList == [46, 46])))) from rfl)
  generalize namB s = F at HF ⊢
  generalize fitB s 12 = X at H1 HF
  generalize (tl s).contains 47 = Y at H2 HF
  clear hs
  cases X with
  | false =>
    go_enter Try.func14, Try.ntmps14
    go_wp2_with fail
    refine H1.out.mono ?_
    rintro e w' ⟨rfl, rfl⟩
    go_wp2
    go_ret
    exact ⟨ret_bool (by rw [HF.out]; rfl), rfl⟩
  | true =>
    cases Y with
    | true =>
      go_enter Try.func14, Try.ntmps14
      go_wp2_with fail
      refine H1.out.mono ?_
      rintro e w' ⟨rfl, rfl⟩
      go_wp2_with fail
      refine H2.out.mono ?_
      rintro e w' ⟨rfl, rfl⟩
      go_wp2
      go_ret
      exact ⟨ret_bool (by rw [HF.out]; rfl), rfl⟩
    | false =>
      by_cases ha : s.toList = [46]
      · have ha1 : (s.toList == [46]) = true := by rw [ha]; rfl
        have HF1 := Lib.hid (show F = false by rw [HF.out, ha1]; rfl)
        go_enter Try.func14, Try.ntmps14
        go_wp2_with fail
        refine H1.out.mono ?_
        rintro e w' ⟨rfl, rfl⟩
        go_wp2_with fail
        refine H2.out.mono ?_
        rintro e w' ⟨rfl, rfl⟩
        go_wp2
        go_ret
        exact ⟨ret_bool HF1.out.symm, rfl⟩
      · have ha1 : (s.toList == [46]) = false := by rw [beq_eq_false_iff_ne]; exact ha
        have HF1 := Lib.hid (show F = !(s.toList == [46, 46]) by rw [HF.out, ha1]; rfl)
        go_enter Try.func14, Try.ntmps14
        go_wp2_with fail
        refine H1.out.mono ?_
        rintro e w' ⟨rfl, rfl⟩
        go_wp2_with fail
        refine H2.out.mono ?_
        rintro e w' ⟨rfl, rfl⟩
        go_wp2
        go_ret
        exact ⟨ret_bool (by rw [HF1.out]), rfl⟩

/-- Is a slash at a place of a text? -/
def slAt (p : ByteArray) (i : Int) : Bool := decide (0 ≤ i) && (tl p)[i.toNat]? == some 47
/-- A closure that asks for a slash of a text. -/
def SlF (w : World) (v : Value) (p : ByteArray) : Prop := ∃ g, v = .func (.func 33) #[] #[.pointer (some ⟨g, 0, none⟩)] ∧ w.cell? ⟨g, 0, none⟩ = some (.string p)
theorem SlF.below {w w' : World} {v : Value} {p : ByteArray} (h : SlF w v p) (hb : Below w.heap.size w w') : SlF w' v p := by
  obtain ⟨g, rfl, h⟩ := h
  exact ⟨g, rfl, bc hb h⟩
theorem slashIn_any (p : ByteArray) (w : World) :
    Calls Try.prog 24 #[.string p] w fun e w' => e = .returned (.func (.func 33) #[] #[.pointer (some ⟨w.heap.size, 0, none⟩)]) ∧ w'.cell? ⟨w.heap.size, 0, none⟩ = some (.string p) ∧ Below w.heap.size w w' := by
  have hmf : ∀ (fn : Fn) (first cap : Array Value) (w : World), (Instr.makeFunc fn first cap).run Try.prog w = .ok (.func fn first cap) w := fun _ _ _ _ => rfl
  go_enter Try.func24, Try.ntmps24
  go_wp2
  go_ret
  exact ⟨rfl, by simp, (Below.refl _ _).alloc (Nat.le_refl _) _⟩
theorem isSlash_any (p : ByteArray) (i : Int) (g : Nat) (w : World) (hc : w.cell? ⟨g, 0, none⟩ = some (.string p)) (hs : p.size ≤ maxLen) :
    Calls Try.prog 33 #[.int .i64 i, .pointer (some ⟨g, 0, none⟩)] w fun e w' => e = .returned (.bool (slAt p i)) ∧ w = w' := by
  have hs' : p.size ≤ 9223372036854775807 := by unfold maxLen at hs; omega
  have HF := Lib.hid (show slAt p i = (decide (0 ≤ i) && (tl p)[i.toNat]? == some 47) from rfl)
  generalize slAt p i = F at HF ⊢
  clear hs
  by_cases h0 : 0 ≤ i
  · obtain ⟨k, rfl⟩ : ∃ k : Nat, i = (k : Int) := ⟨i.toNat, by omega⟩
    rw [decide_eq_true h0, Bool.true_and, Int.toNat_natCast] at HF
    have h1 : (k : Int) ≥ 0 := h0
    by_cases hk : k < p.size
    · obtain ⟨b, hb⟩ : ∃ b, p[k] = b := ⟨_, rfl⟩
      have HB := Lib.hid (show F = (b == 47) by rw [HF.out, tl_at hk, hb]; simp)
      go_enter Try.func33, Try.ntmps33
      go_wp2
      go_ret
      exact ⟨ret_bool (by
        rw [HB.out]
        by_cases h : b = 47
        · rw [h]; rfl
        · rw [beq_eq_false_iff_ne.2 h]; exact co_ne (a := b) (b := 47) h), rfl⟩
    · have HB := Lib.hid (show F = false by rw [HF.out, List.getElem?_eq_none (by rw [tl_len]; omega)]; rfl)
      have hk' : ¬ (k : Int) < (p.size : Int) := by omega
      go_enter Try.func33, Try.ntmps33
      go_wp2
      go_ret
      exact ⟨ret_bool HB.out.symm, rfl⟩
  · rw [decide_eq_false h0, Bool.false_and] at HF
    have h1 : ¬ i ≥ 0 := h0
    go_enter Try.func33, Try.ntmps33
    go_wp2
    go_ret
    exact ⟨ret_bool HF.out.symm, rfl⟩
end Go.Proofs.Ythledmbdlengiaa
