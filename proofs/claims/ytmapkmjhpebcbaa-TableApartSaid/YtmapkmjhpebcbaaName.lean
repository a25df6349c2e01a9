/-
  What strings.IndexByte, has, fitsIn, Fits and Name answer. The only condition is that a text's length is a number that a machine has.
-/
import Derived.Test.YtmapkmjhpebcbaaMem
import Derived.Deep.Draws
import Derived.Deep.QuietTactic
import Derived.BigQuiet
namespace Go.Proofs.Ytmapkmjhpebcbaa
open Go Go.RowKit

theorem back_co (c : UInt8) : (co c).toNat.toUInt8 = c := Lib.byte_back c
theorem lindex_any (s : ByteArray) (c : UInt8) (w : World) :
    Calls Try.prog 67 #[.string s, .int .u8 (co c)] w fun e w' => e = .returned (.int .i64 (Lib.indexByte s.data.toList c)) ∧ w = w' := by
  have hb := Lib.hid (back_co c)
  generalize co c = n at hb ⊢
  go_enter Try.func67, Try.ntmps67
  go_wp2
  rw [run_callFunc_extern Try.func68 (by kernel_rfl) (by kernel_rfl) (by kernel_rfl) (e := Extern.BytealgIndexByte.indexByte) (by kernel_rfl), Lib.run_indexByteString]
  simp only [Result.andThen]
  rw [Oper.upon_value]
  go_wp2
  go_ret
  exact ⟨ret_int (by rw [show UInt8.ofNat n.toNat = c from hb.out]), rfl⟩
theorem index_any (s : ByteArray) (c : UInt8) (w : World) :
    Calls Try.prog 66 #[.string s, .int .u8 (co c)] w fun e w' => e = .returned (.int .i64 (Lib.indexByte s.data.toList c)) ∧ w = w' := by
  have H := Lib.hid (lindex_any s c w)
  generalize Lib.indexByte s.data.toList c = X at H ⊢
  go_enter Try.func66, Try.ntmps66
  go_wp2_with fail
  refine H.out.mono ?_
  rintro e w' ⟨rfl, rfl⟩
  go_wp2
  go_ret
  exact ⟨rfl, rfl⟩
theorem index_has (c : UInt8) : ∀ l : List UInt8, decide (Lib.indexByte l c ≥ 0) = l.contains c
  | [] => rfl
  | b :: l => by
    have ih := index_has c l
    rw [Lib.indexByte, List.contains_cons]
    by_cases h : b = c
    · subst h
      simp
    · have hb : (b == c) = false := by rw [beq_eq_false_iff_ne]; exact h
      have hc : (c == b) = false := by rw [beq_eq_false_iff_ne]; exact fun e => h e.symm
      rw [hb, hc, Bool.false_or, ← ih]
      rw [if_neg (by decide)]
      split
      · rename_i h2
        have h3 : Lib.indexByte l c = -1 := by simpa using h2
        rw [h3]
      · rename_i h2
        have h3 : ¬ Lib.indexByte l c = -1 := by simpa using h2
        congr 1
        apply propext
        constructor <;> intro h4 <;> omega
theorem has_any (s : ByteArray) (c : UInt8) (w : World) :
    Calls Try.prog 65 #[.string s, .int .u8 (co c)] w fun e w' => e = .returned (.bool ((tl s).contains c)) ∧ w = w' := by
  have H := Lib.hid (index_any s c w)
  have HX := Lib.hid (index_has c s.data.toList)
  obtain ⟨R, hR⟩ : ∃ R, (tl s).contains c = R := ⟨_, rfl⟩
  rw [hR]
  have HX := Lib.hid (show decide (Lib.indexByte s.data.toList c ≥ 0) = R from (index_has c _).trans hR)
  clear hR
  generalize Lib.indexByte s.data.toList c = X at H HX
  go_enter Try.func65, Try.ntmps65
  go_wp2_with fail
  refine H.out.mono ?_
  rintro e w' ⟨rfl, rfl⟩
  go_wp2
  go_ret
  exact ⟨ret_bool (by rw [← HX.out]), rfl⟩
/-- Has a text a byte, m of them at most, and none that is 0? -/
def fitB (s : ByteArray) (m : Nat) : Bool := decide (0 < s.size ∧ s.size ≤ m) && !(tl s).contains 0
theorem neq_empty (s : ByteArray) : (s.toList != []) = decide (0 < s.size) := by
  by_cases h : 0 < s.size
  · rw [decide_eq_true h]
    simp only [bne_iff_ne, ne_eq]
    intro e
    have := (empty_iff s).1 e
    omega
  · rw [decide_eq_false h]
    have := (empty_iff s).2 (by omega)
    rw [this]
    rfl
theorem fits_any (s : ByteArray) (m : Nat) (w : World) (hs : s.size ≤ maxLen) :
    Calls Try.prog 63 #[.string s, .int .i64 (m : Int)] w fun e w' => e = .returned (.bool (fitB s m)) ∧ w = w' := by
  have hs' : s.size ≤ 9223372036854775807 := by unfold maxLen at hs; omega
  have HH := Lib.hid (has_any s 0 w)
  rw [show co 0 = 0 from rfl] at HH
  have HF := Lib.hid (show fitB s m = (decide (0 < s.size ∧ s.size ≤ m) && !(tl s).contains 0) from rfl)
  generalize (tl s).contains 0 = R at HH HF
  generalize fitB s m = F at HF ⊢
  have n0 := neq_empty s
  clear hs
  by_cases h0 : 0 < s.size
  · rw [decide_eq_true h0] at n0
    have i0 := empty_false (s := s) (by omega)
    by_cases h1 : s.size ≤ m
    · have h2 : (s.size : Int) ≤ (m : Int) := by omega
      rw [decide_eq_true ⟨h0, h1⟩, Bool.true_and] at HF
      go_enter Try.func63, Try.ntmps63
      go_wp2_with fail
      refine HH.out.mono ?_
      rintro e w' ⟨rfl, rfl⟩
      go_wp2
      go_ret
      exact ⟨ret_bool (by rw [HF.out]), rfl⟩
    · have h2 : ¬ (s.size : Int) ≤ (m : Int) := by omega
      rw [decide_eq_false (fun e => h1 e.2), Bool.false_and] at HF
      go_enter Try.func63, Try.ntmps63
      go_wp2
      go_ret
      exact ⟨ret_bool HF.out.symm, rfl⟩
  · rw [decide_eq_false h0] at n0
    rw [decide_eq_false (fun e => h0 e.1), Bool.false_and] at HF
    have i0 : s.toList = [] := (empty_iff s).2 (by omega)
    go_enter Try.func63, Try.ntmps63
    go_wp2
    go_ret
    exact ⟨ret_bool HF.out.symm, rfl⟩
theorem Fits_any (s : ByteArray) (w : World) (hs : s.size ≤ maxLen) :
    Calls Try.prog 53 #[.string s] w fun e w' => e = .returned (.bool (fitB s 64)) ∧ w = w' := by
  have HH := Lib.hid (fits_any s 64 w hs)
  go_enter Try.func53, Try.ntmps53
  go_wp2_with fail
  refine HH.out.mono ?_
  rintro e w' ⟨rfl, rfl⟩
  go_wp2
  go_ret
  exact ⟨rfl, rfl⟩
/-- May a text be an entry's name? -/
def namB (s : ByteArray) : Bool := fitB s 12 && (!(tl s).contains 47 && (!(s.toList == [46]) && !(s.toList == [46, 46])))
theorem Name_any (s : ByteArray) (w : World) (hs : s.size ≤ maxLen) :
    Calls Try.prog 62 #[.string s] w fun e w' => e = .returned (.bool (namB s)) ∧ w = w' := by
  have H1 := Lib.hid (fits_any s 12 w hs)
  have H2 := Lib.hid (has_any s 47 w)
  rw [show co 47 = 47 from rfl] at H2
  have HF := Lib.hid (show namB s = (fitB s 12 && (!(tl s).contains 47 && (!(s.toList == [46]) && !(s.toList == [46, 46])))) from rfl)
  generalize namB s = F at HF ⊢
  generalize fitB s 12 = X at H1 HF
  generalize (tl s).contains 47 = Y at H2 HF
  clear hs
  cases X with
  | false =>
    go_enter Try.func62, Try.ntmps62
    go_wp2_with fail
    refine H1.out.mono ?_
    rintro e w' ⟨rfl, rfl⟩
    go_wp2
    go_ret
    exact ⟨ret_bool (by rw [HF.out]; rfl), rfl⟩
  | true =>
    cases Y with
    | true =>
      go_enter Try.func62, Try.ntmps62
      go_wp2_with fail
      refine H1.out.mono ?_
      rintro e w' ⟨rfl, rfl⟩
      go_wp2_with fail
      refine H2.out.mono ?_
      rintro e w' ⟨rfl, rfl⟩
      go_wp2
      go_ret
      exact ⟨ret_bool (by rw [HF.out]; rfl), rfl⟩
    | false =>
      by_cases ha : s.toList = [46]
      · have ha1 : (s.toList == [46]) = true := by rw [ha]; rfl
        have HF1 := Lib.hid (show F = false by rw [HF.out, ha1]; rfl)
        go_enter Try.func62, Try.ntmps62
        go_wp2_with fail
        refine H1.out.mono ?_
        rintro e w' ⟨rfl, rfl⟩
        go_wp2_with fail
        refine H2.out.mono ?_
        rintro e w' ⟨rfl, rfl⟩
        go_wp2
        go_ret
        exact ⟨ret_bool HF1.out.symm, rfl⟩
      · have ha1 : (s.toList == [46]) = false := by rw [beq_eq_false_iff_ne]; exact ha
        have HF1 := Lib.hid (show F = !(s.toList == [46, 46]) by rw [HF.out, ha1]; rfl)
        go_enter Try.func62, Try.ntmps62
        go_wp2_with fail
        refine H1.out.mono ?_
        rintro e w' ⟨rfl, rfl⟩
        go_wp2_with fail
        refine H2.out.mono ?_
        rintro e w' ⟨rfl, rfl⟩
        go_wp2
        go_ret
        exact ⟨ret_bool (by rw [HF1.out]), rfl⟩

/-- The same, of bytes. -/
theorem nam_nok (s : ByteArray) : namB s = nok (tl s) := by
  unfold namB fitB nok badN
  rw [ByteArray.toList_eq, ← tl_len]
  show _ = (!(tl s == [] || tl s == [46] || tl s == [46, 46] || (tl s).contains 47 || (tl s).contains 0) && decide ((tl s).length ≤ 12))
  show (decide (0 < (tl s).length ∧ (tl s).length ≤ 12) && !(tl s).contains 0 && (!(tl s).contains 47 && (!(tl s == [46]) && !(tl s == [46, 46])))) = _
  generalize tl s = l
  cases l with
  | nil => rfl
  | cons c l =>
    have h0 : (c :: l == ([] : List UInt8)) = false := rfl
    have h1 : 0 < (c :: l).length := by simp
    rw [h0]
    generalize ((c :: l) == [46]) = A
    generalize ((c :: l) == [46, 46]) = B
    generalize (c :: l).contains 47 = C
    generalize (c :: l).contains 0 = D
    by_cases h : (c :: l).length ≤ 12
    · rw [decide_eq_true h, decide_eq_true (show 0 < (c :: l).length ∧ (c :: l).length ≤ 12 from ⟨h1, h⟩)]
      cases A <;> cases B <;> cases C <;> cases D <;> rfl
    · rw [decide_eq_false h, decide_eq_false (show ¬ (0 < (c :: l).length ∧ (c :: l).length ≤ 12) from fun e => h e.2)]
      cases A <;> cases B <;> cases C <;> cases D <;> rfl
theorem fit_fok (s : ByteArray) : fitB s 64 = fok (tl s) := by
  unfold fitB fok
  rw [tl_len]
end Go.Proofs.Ytmapkmjhpebcbaa
