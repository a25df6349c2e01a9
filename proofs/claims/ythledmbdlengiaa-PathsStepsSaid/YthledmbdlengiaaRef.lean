/-
  What the reference's Abs, Has, Name, Fits, Join, bare, Names, Split, Base, Up, Steps and Same answer. The only condition is that a path has a million bytes at most.
-/
import Derived.Test.YthledmbdlengiaaPaths2
namespace Go.Proofs.Ythledmbdlengiaa
open Go Go.RowKit

theorem ref_abs (p : ByteArray) (w : World) :
    Calls Try.prog 27 #[.string p] w fun e w' => e = .returned (.bool (absP (tl p))) ∧ w = w' := by
  obtain ⟨R, hR⟩ : ∃ R, absP (tl p) = R := ⟨_, rfl⟩
  rw [hR]
  have HR := Lib.hid hR
  clear hR
  by_cases h0 : 0 < p.size
  · have n0 := neq_empty p
    rw [decide_eq_true h0] at n0
    have i0 := empty_false (s := p) (by omega)
    obtain ⟨b, hb⟩ : ∃ b, p[0] = b := ⟨_, rfl⟩
    have HB := Lib.hid (show R = (b == 47) by
      rw [← HR.out, absP, List.head?_eq_getElem?, tl_at h0, hb]
      simp)
    go_enter Try.func27, Try.ntmps27
    go_wp2
    go_ret
    exact ⟨ret_bool (by
      rw [HB.out]
      by_cases h : b = 47
      · rw [h]; rfl
      · rw [beq_eq_false_iff_ne.2 h]; exact co_ne (a := b) (b := 47) h), rfl⟩
  · have i0 : p.toList = [] := (empty_iff p).2 (by omega)
    have HB := Lib.hid (show R = false by
      rw [← HR.out, absP, List.head?_eq_getElem?, List.getElem?_eq_none (by rw [tl_len]; omega)]
      rfl)
    go_enter Try.func27, Try.ntmps27
    go_wp2
    go_ret
    exact ⟨ret_bool HB.out.symm, rfl⟩
theorem has_next {l : List UInt8} {k : Nat} {c y : UInt8} (hy : l[k]? = some y) (h : (l.take k).contains c = false) (hne : ¬ y = c) : (l.take (k + 1)).contains c = false := by
  rw [take_snoc' hy, List.contains_eq_any_beq, List.any_append, ← List.contains_eq_any_beq, h]
  have : (c == y) = false := by rw [beq_eq_false_iff_ne]; exact fun e => hne e.symm
  simp [this]
theorem ref_has (s : ByteArray) (c : UInt8) (w : World) (hs : s.size ≤ 1000000) :
    Calls Try.prog 29 #[.string s, .int .u8 (co c)] w fun e w' => e = .returned (.bool ((tl s).contains c)) ∧ w = w' := by
  obtain ⟨X, hX⟩ : ∃ X, (tl s).contains c = X := ⟨_, rfl⟩
  rw [hX]
  have HX := Lib.hid hX
  clear hX
  go_enter Try.func29, Try.ntmps29
  go_wp2
  go_loopg [5] s.size (fun g s5 wr => ∃ k : Nat, s5 = .int .i64 k ∧ k ≤ s.size ∧ g = s.size - k ∧ ((tl s).take k).contains c = false ∧ w = wr)
  case atStart => exact ⟨0, rfl, Nat.zero_le _, rfl, rfl, rfl⟩
  case round =>
    obtain ⟨k, rfl, hk, rfl, hno, rfl⟩ := hrel
    have HNO := Lib.hid hno
    clear hno
    by_cases hlt : k < s.size
    · obtain ⟨y, hy⟩ : ∃ y, s[k] = y := ⟨_, rfl⟩
      have HY := Lib.hid (show (tl s)[k]? = some y by rw [tl_at hlt, hy])
      by_cases hxy : y = c
      · subst hxy
        have hq : ((y.toNat : Int) == co y) = true := by unfold co; simp
        have HR := Lib.hid (show true = X by rw [← HX.out]; exact (List.contains_iff_mem.2 (List.mem_of_getElem? HY.out)).symm)
        go_wp2
        go_ret
        exact ⟨ret_bool HR.out, rfl⟩
      · have hne : ((y.toNat : Int) == co c) = false := co_ne hxy
        have HN := Lib.hid hxy
        clear hxy
        go_wp2
        go_roundg (s.size - (k + 1))
        case measure => omega
        case rel => exact ⟨k + 1, by go_num, by omega, rfl, has_next HY.out HNO.out HN.out, rfl⟩
    · have HF := Lib.hid (show false = X by
        rw [← HX.out]
        have := HNO.out
        rw [List.take_of_length_le (by rw [tl_len]; omega)] at this
        exact this.symm)
      go_wp2
      go_ret
      exact ⟨ret_bool HF.out, rfl⟩
theorem ref_fits (s : ByteArray) (w : World) (hs : s.size ≤ 1000000) :
    Calls Try.prog 13 #[.string s] w fun e w' => e = .returned (.bool (fitB s 64)) ∧ w = w' := by
  have HH := Lib.hid (ref_has s 0 w hs)
  rw [show co 0 = 0 from rfl] at HH
  have HF := Lib.hid (show fitB s 64 = (decide (0 < s.size ∧ s.size ≤ 64) && !(tl s).contains 0) from rfl)
  generalize (tl s).contains 0 = R at HH HF
  generalize fitB s 64 = F at HF ⊢
  have n0 := neq_empty s
  by_cases h0 : 0 < s.size
  · rw [decide_eq_true h0] at n0
    have i0 := empty_false (s := s) (by omega)
    by_cases h1 : s.size ≤ 64
    · have h2 : (s.size : Int) ≤ 64 := by omega
      rw [decide_eq_true ⟨h0, h1⟩, Bool.true_and] at HF
      go_enter Try.func13, Try.ntmps13
      go_wp2_with fail
      refine HH.out.mono ?_
      rintro e w' ⟨rfl, rfl⟩
      go_wp2
      go_ret
      exact ⟨ret_bool (by rw [HF.out]), rfl⟩
    · have h2 : ¬ (s.size : Int) ≤ 64 := by omega
      rw [decide_eq_false (fun e => h1 e.2), Bool.false_and] at HF
      go_enter Try.func13, Try.ntmps13
      go_wp2
      go_ret
      exact ⟨ret_bool HF.out.symm, rfl⟩
  · rw [decide_eq_false h0] at n0
    rw [decide_eq_false (fun e => h0 e.1), Bool.false_and] at HF
    have i0 : s.toList = [] := (empty_iff s).2 (by omega)
    go_enter Try.func13, Try.ntmps13
    go_wp2
    go_ret
    exact ⟨ret_bool HF.out.symm, rfl⟩
theorem dot_size {s : ByteArray} {l : List UInt8} (h : s.toList = l) : s.size = l.length := by
  rw [← h, ByteArray.toList_eq, Array.length_toList]
  rfl
set_option maxHeartbeats 2000000 in
theorem ref_name (s : ByteArray) (w : World) (hs : s.size ≤ 1000000) :
    Calls Try.prog 15 #[.string s] w fun e w' => e = .returned (.bool (namB s)) ∧ w = w' := by
  have H1 := Lib.hid (ref_has s 47 w hs)
  rw [show co 47 = 47 from rfl] at H1
  have H2 := Lib.hid (ref_has s 0 w hs)
  rw [show co 0 = 0 from rfl] at H2
  have HF := Lib.hid (show namB s = ((decide (0 < s.size ∧ s.size ≤ 12) && !(tl s).contains 0) && (!(tl s).contains 47 && (!(s.toList == [46]) && !(s.toList == [46, 46])))) from rfl)
  generalize (tl s).contains 0 = Z at H2 HF
  generalize (tl s).contains 47 = Y at H1 HF
  generalize namB s = F at HF ⊢
  have n0 := neq_empty s
  by_cases h0 : 0 < s.size
  · rw [decide_eq_true h0] at n0
    have i0 := empty_false (s := s) (by omega)
    by_cases h1 : s.size ≤ 12
    · have h2 : (s.size : Int) ≤ 12 := by omega
      rw [decide_eq_true ⟨h0, h1⟩, Bool.true_and] at HF
      by_cases ha : s.toList = [46]
      · have ha1 : (s.toList == [46]) = true := by rw [ha]; rfl
        have HF1 := Lib.hid (show F = false by rw [HF.out, ha1]; simp)
        go_enter Try.func15, Try.ntmps15
        go_wp2
        go_ret
        exact ⟨ret_bool HF1.out.symm, rfl⟩
      · have ha1 : (s.toList == [46]) = false := by rw [beq_eq_false_iff_ne]; exact ha
        by_cases hb : s.toList = [46, 46]
        · have hb1 : (s.toList == [46, 46]) = true := by rw [hb]; rfl
          have HF1 := Lib.hid (show F = false by rw [HF.out, hb1]; simp)
          go_enter Try.func15, Try.ntmps15
          go_wp2
          go_ret
          exact ⟨ret_bool HF1.out.symm, rfl⟩
        · have hb1 : (s.toList == [46, 46]) = false := by rw [beq_eq_false_iff_ne]; exact hb
          have HF1 := Lib.hid (show F = (!Z && !Y) by rw [HF.out, ha1, hb1]; simp)
          cases Y with
          | true =>
            go_enter Try.func15, Try.ntmps15
            go_wp2_with fail
            refine H1.out.mono ?_
            rintro e w' ⟨rfl, rfl⟩
            go_wp2
            go_ret
            exact ⟨ret_bool (by rw [HF1.out]; simp), rfl⟩
          | false =>
            go_enter Try.func15, Try.ntmps15
            go_wp2_with fail
            refine H1.out.mono ?_
            rintro e w' ⟨rfl, rfl⟩
            go_wp2_with fail
            refine H2.out.mono ?_
            rintro e w' ⟨rfl, rfl⟩
            go_wp2
            go_ret
            exact ⟨ret_bool (by rw [HF1.out]; simp), rfl⟩
    · have h2 : ¬ (s.size : Int) ≤ 12 := by omega
      rw [decide_eq_false (fun e => h1 e.2), Bool.false_and, Bool.false_and] at HF
      go_enter Try.func15, Try.ntmps15
      go_wp2
      go_ret
      exact ⟨ret_bool HF.out.symm, rfl⟩
  · rw [decide_eq_false h0] at n0
    rw [decide_eq_false (fun e => h0 e.1), Bool.false_and, Bool.false_and] at HF
    have i0 : s.toList = [] := (empty_iff s).2 (by omega)
    go_enter Try.func15, Try.ntmps15
    go_wp2
    go_ret
    exact ⟨ret_bool HF.out.symm, rfl⟩
/-- A text's last byte. -/
theorem last_at {p : ByteArray} {n : Nat} (h : p.size = n + 1) (hn : n < p.size) : (tl p).getLast? = some p[n] := by
  have e : p.size - 1 = n := by omega
  rw [List.getLast?_eq_getElem?, tl_len, e, tl_at hn]
theorem ref_join (d n : ByteArray) (w : World) (hd : d.size ≤ 1000000) (hn : n.size ≤ 1000000) :
    Calls Try.prog 23 #[.string d, .string n] w fun e w' => e = .returned (.string (bA (joinP (tl d) (tl n)))) ∧ w = w' := by
  by_cases h0 : 0 < d.size
  · have e0 := eq_empty d h0
    have i0 := empty_false (s := d) (by omega)
    obtain ⟨m, hm⟩ : ∃ m, d.size = m + 1 := ⟨d.size - 1, by omega⟩
    have hml : m < d.size := by omega
    have hla := last_at hm hml
    obtain ⟨b, hb⟩ : ∃ b, d[m] = b := ⟨_, rfl⟩
    rw [hb] at hla
    have hi : ((d.size : Int) - 1) = (m : Int) := by omega
    by_cases hl : b = 47
    · subst hl
      have HJ := Lib.hid (join_no (n := n) (.inr hla))
      clear hla
      go_enter Try.func23, Try.ntmps23
      go_wp2
      go_ret
      exact ⟨ret_str HJ.out, rfl⟩
    · have hq : ((b.toNat : Int) == 47) = false := co_ne (a := b) (b := 47) hl
      have HJ := Lib.hid (join_yes (n := n) h0 (by rw [hla]; intro e; injection e with e; exact hl e))
      have hz : (d ++ ⟨#[47]⟩ : ByteArray).size ≤ 1000001 := by rw [← tl_len, tl_app, List.length_append, tl_len]; show d.size + 1 ≤ _; omega
      clear hla hl
      go_enter Try.func23, Try.ntmps23
      go_wp2
      go_ret
      exact ⟨ret_str HJ.out, rfl⟩
  · have i0 : d.toList = [] := (empty_iff d).2 (by omega)
    have HJ := Lib.hid (join_no (d := d) (n := n) (.inl (by omega)))
    go_enter Try.func23, Try.ntmps23
    go_wp2
    go_ret
    exact ⟨ret_str HJ.out, rfl⟩
end Go.Proofs.Ythledmbdlengiaa
