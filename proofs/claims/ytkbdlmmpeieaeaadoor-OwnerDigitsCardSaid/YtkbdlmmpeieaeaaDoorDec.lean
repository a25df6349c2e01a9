/-
  What owner.number and the reference's digits answer of any text: the number that one to five digits make, if it is 65535 at most. The only condition is that the text's length is a number that a machine has.
-/
import Derived.Test.YtkbdlmmpeieaeaaDoorLeaf
import Derived.Deep.LoopGhost
namespace Go.Proofs.YtkbdlmmpeieaeaaDoor
open Go Go.RowKit

def dg (c : UInt8) : Bool := decide (48 ≤ c.toNat ∧ c.toNat ≤ 57)
def val (l : List UInt8) : Int := l.foldl (fun n c => n * 10 + ((c.toNat : Int) - 48)) 0
theorem val_snoc (l : List UInt8) (c : UInt8) : val (l ++ [c]) = val l * 10 + ((c.toNat : Int) - 48) := by simp [val]
theorem val_bd (n : Nat) : ∀ l : List UInt8, l.length = n → l.all dg = true → 0 ≤ val l ∧ val l < 10 ^ n := by
  induction n with
  | zero =>
    intro l hl _
    have : l = [] := List.eq_nil_of_length_eq_zero hl
    subst this
    simp [val]
  | succ n ih =>
    intro l hl hd
    obtain ⟨l', c, rfl⟩ : ∃ l' c, l = l' ++ [c] := by
      rcases List.eq_nil_or_concat l with rfl | ⟨l', c, h⟩
      · simp at hl
      · exact ⟨l', c, by simpa using h⟩
    rw [List.all_append] at hd
    simp only [Bool.and_eq_true, List.all_cons, List.all_nil, Bool.and_true, dg, decide_eq_true_eq] at hd
    have h1 := ih l' (by simpa using hl) (by simpa [dg] using hd.1)
    rw [val_snoc, Int.pow_succ]
    omega
theorem val_5 (l : List UInt8) (hl : l.length ≤ 5) (hd : l.all dg = true) : 0 ≤ val l ∧ val l ≤ 99999 := by
  have h := val_bd l.length l rfl hd
  have h2 : (10 : Nat) ^ l.length ≤ 10 ^ 5 := Nat.pow_le_pow_right (by decide) hl
  have h3 : ((10 ^ l.length : Nat) : Int) = 10 ^ l.length := by simp
  have h4 : ((10 : Nat) ^ 5) = 100000 := by decide
  omega
/-- The number whose text it is; -1: none. -/
def num (l : List UInt8) : Int := if l.length = 0 ∨ 5 < l.length ∨ l.all dg = false ∨ 65535 < val l then -1 else val l
/-- What is handed back of a number, or of none. -/
def okN (n : Int) : Int := if n < 0 then 0 else n
def okE (n : Int) : Int := if n < 0 then 22 else 0
theorem num_bad {l : List UInt8} (h : l.length = 0 ∨ 5 < l.length ∨ l.all dg = false ∨ 65535 < val l) : num l = -1 := by rw [num, if_pos h]
theorem num_good {l : List UInt8} (h1 : ¬ l.length = 0) (h2 : l.length ≤ 5) (h3 : l.all dg = true) (h4 : val l ≤ 65535) : num l = val l := by
  rw [num, if_neg]
  intro h
  rcases h with h | h | h | h
  · exact h1 h
  · omega
  · rw [h3] at h; cases h
  · omega
theorem num_bd (l : List UInt8) : -1 ≤ num l ∧ num l ≤ 65535 := by
  by_cases h : l.length = 0 ∨ 5 < l.length ∨ l.all dg = false ∨ 65535 < val l
  · rw [num_bad h]; decide
  · have h1 : ¬ l.length = 0 := fun e => h (.inl e)
    have h2 : l.length ≤ 5 := by
      rcases Nat.lt_or_ge 5 l.length with e | e
      · exact absurd (.inr (.inl e)) h
      · exact e
    have h3 : l.all dg = true := by
      cases e : l.all dg with
      | true => rfl
      | false => exact absurd (.inr (.inr (.inl e))) h
    have h4 : val l ≤ 65535 := by
      rcases Int.lt_or_le 65535 (val l) with e | e
      · exact absurd (.inr (.inr (.inr e))) h
      · exact e
    rw [num_good h1 h2 h3 h4]
    have := val_5 l h2 h3
    omega
theorem ok_none : okN (-1) = 0 ∧ okE (-1) = 22 := by decide
theorem ok_some {n : Int} (h : 0 ≤ n) : okN n = n ∧ okE n = 0 := by
  rw [okN, okE, if_neg (by omega), if_neg (by omega)]
  exact ⟨rfl, rfl⟩
theorem take_snoc (s : ByteArray) (k : Nat) (h : k < s.size) : s.data.toList.take (k + 1) = s.data.toList.take k ++ [s[k]] := by
  rw [List.take_succ_eq_append_getElem (by simpa using h)]; rfl
theorem take_all (s : ByteArray) : s.data.toList.take s.size = s.data.toList := List.take_of_length_le (by simp)
theorem all_bad (s : ByteArray) (k : Nat) (h : k < s.size) (hc : dg s[k] = false) : s.data.toList.all dg = false := by
  rw [List.all_eq_false]
  exact ⟨s[k], by rw [show s[k] = s.data.toList[k]'(by simpa using h) from rfl]; exact List.getElem_mem _, by simp [hc]⟩
theorem ret_two {a b c d : Int} (h : c = a ∧ d = b) : Ending.returned (.tuple #[.int .i64 a, .int .i64 b]) = .returned (.tuple #[.int .i64 c, .int .i64 d]) := by rw [h.1, h.2]
theorem size_len (s : ByteArray) : s.data.toList.length = s.size := by simp
theorem empty_iff (s : ByteArray) : s.toList = [] ↔ s.size = 0 := by
  rw [ByteArray.toList_eq, ← List.length_eq_zero_iff, Array.length_toList]
  rfl
theorem empty_false {s : ByteArray} (h : ¬ s.size = 0) : s.toList.isEmpty = false := by
  rw [Bool.eq_false_iff]
  intro h2
  exact h ((empty_iff s).1 (List.isEmpty_iff.1 h2))

theorem number_len (s : ByteArray) (w : World) (hm : s.size ≤ 9223372036854775807) (h : s.size = 0 ∨ 5 < s.size) : Calls Tryd.prog 26 #[.string s] w fun e w' => e = .returned (.tuple #[.int .i64 (okN (num s.data.toList)), .int .i64 (okE (num s.data.toList))]) ∧ w = w' := by
  have hb := Lib.hid (show num s.data.toList = -1 from num_bad (by rw [size_len]; omega))
  by_cases he : s.size = 0
  · have h1 : (s.toList == []) = true := by rw [(empty_iff s).2 he]; rfl
    have h1' : s.toList = [] := (empty_iff s).2 he
    clear he h
    go_enter Tryd.func26, Tryd.ntmps26
    go_wp2
    go_ret2
    exact ⟨by rw [hb.out]; rfl, rfl⟩
  · have h1 : s.toList.isEmpty = false := empty_false he
    have h1' : ¬ s.toList = [] := fun e => he ((empty_iff s).1 e)
    have h2 : (5 : Int) < s.size := by omega
    clear he h
    go_enter Tryd.func26, Tryd.ntmps26
    go_wp2
    go_ret2
    exact ⟨by rw [hb.out]; rfl, rfl⟩
set_option maxHeartbeats 2000000 in
theorem number_main (s : ByteArray) (w : World) (h0 : 0 < s.size) (h5 : s.size ≤ 5) : Calls Tryd.prog 26 #[.string s] w fun e w' => e = .returned (.tuple #[.int .i64 (okN (num s.data.toList)), .int .i64 (okE (num s.data.toList))]) ∧ w = w' := by
  have h1 : s.toList.isEmpty = false := empty_false (by omega)
  have h1' : ¬ s.toList = [] := fun e => by have := (empty_iff s).1 e; omega
  have h2 : ¬ (5 : Int) < s.size := by omega
  go_enter Tryd.func26, Tryd.ntmps26
  go_wp2
  go_loopg [4, 15] s.size (fun g n i wr => ∃ k : Nat, i = .int .i64 k ∧ n = .int .i64 (val (s.data.toList.take k)) ∧ k ≤ s.size ∧ g = s.size - k ∧ (s.data.toList.take k).all dg = true ∧ w = wr)
  case atStart => exact ⟨0, rfl, rfl, Nat.zero_le _, rfl, by simp, rfl⟩
  case round =>
    obtain ⟨k, rfl, rfl, hk, rfl, hall, rfl⟩ := hrel
    have hv := val_5 (s.data.toList.take k) (by rw [List.length_take]; omega) hall
    have HA := Lib.hid hall
    have v0 := hv.1
    have v1 := hv.2
    clear hv hall
    by_cases hlt : k < s.size
    · by_cases hd : dg s[k] = true
      · have hd' := hd
        simp only [dg, decide_eq_true_eq] at hd'
        have c0 : (48 : Int) ≤ (s[k].toNat : Int) := by omega
        have c1 : (s[k].toNat : Int) ≤ 57 := by omega
        have HS := Lib.hid (show val (s.data.toList.take (k + 1)) = val (s.data.toList.take k) * 10 + ((s[k].toNat : Int) - 48) by rw [take_snoc s k hlt, val_snoc])
        have HA2 := Lib.hid (show (s.data.toList.take (k + 1)).all dg = true by rw [take_snoc s k hlt, List.all_append, HA.out]; simp [hd])
        clear hd hd'
        go_wp2
        go_roundg (s.size - (k + 1))
        case measure => omega
        case rel => exact ⟨k + 1, by go_num, by rw [HS.out, Int.mul_comm], by omega, rfl, HA2.out, rfl⟩
      · have hd' : dg s[k] = false := by simpa using hd
        have HB := Lib.hid (show num s.data.toList = -1 from num_bad (.inr (.inr (.inl (all_bad s k hlt hd')))))
        have hD : (s[k].toNat : Int) < 48 ∨ (57 : Int) < (s[k].toNat : Int) := by
          simp only [dg, decide_eq_false_iff_not] at hd'
          omega
        clear hd hd'
        rcases hD with hD | hD
        · go_wp2
          go_ret2
          exact ⟨by rw [HB.out]; rfl, rfl⟩
        · have hD' : ¬ (s[k].toNat : Int) < 48 := by omega
          go_wp2
          go_ret2
          exact ⟨by rw [HB.out]; rfl, rfl⟩
    · have hks : k = s.size := by omega
      have ha := HA.out
      rw [hks, take_all] at ha
      have hv : val (s.data.toList.take k) = val s.data.toList := by rw [hks, take_all]
      have HV := Lib.hid hv
      by_cases hc : val (s.data.toList.take k) ≤ 65535
      · have HB := Lib.hid (show num s.data.toList = val (s.data.toList.take k) from (num_good (by rw [size_len]; omega) (by rw [size_len]; exact h5) ha (by omega)).trans hv.symm)
        clear ha hks hv
        go_wp2
        go_ret2
        exact ⟨ret_two (by rw [HB.out]; exact ok_some v0), rfl⟩
      · have HB := Lib.hid (show num s.data.toList = -1 from num_bad (.inr (.inr (.inr (by omega)))))
        have hc' : (65535 : Int) < val (s.data.toList.take k) := by omega
        clear ha hks hv
        go_wp2
        go_ret2
        exact ⟨by rw [HB.out]; rfl, rfl⟩
theorem number_any (s : ByteArray) (w : World) (hm : s.size ≤ 9223372036854775807) : Calls Tryd.prog 26 #[.string s] w fun e w' => e = .returned (.tuple #[.int .i64 (okN (num s.data.toList)), .int .i64 (okE (num s.data.toList))]) ∧ w = w' := by
  by_cases h : s.size = 0 ∨ 5 < s.size
  · exact number_len s w hm h
  · exact number_main s w (by omega) (by omega)

theorem rdigits_len (s : ByteArray) (w : World) (hm : s.size ≤ 9223372036854775807) (h : s.size = 0 ∨ 5 < s.size) : Calls Tryd.prog 23 #[.string s] w fun e w' => e = .returned (.int .i64 (num s.data.toList)) ∧ w = w' := by
  have hb := Lib.hid (show num s.data.toList = -1 from num_bad (by rw [size_len]; omega))
  by_cases he : s.size = 0
  · have h1 : (s.toList == []) = true := by rw [(empty_iff s).2 he]; rfl
    have h1' : s.toList = [] := (empty_iff s).2 he
    clear he h
    go_enter Tryd.func23, Tryd.ntmps23
    go_wp2
    go_ret
    exact ⟨ret_int hb.out.symm, rfl⟩
  · have h1 : s.toList.isEmpty = false := empty_false he
    have h1' : ¬ s.toList = [] := fun e => he ((empty_iff s).1 e)
    have h2 : (5 : Int) < s.size := by omega
    clear he h
    go_enter Tryd.func23, Tryd.ntmps23
    go_wp2
    go_ret
    exact ⟨ret_int hb.out.symm, rfl⟩
set_option maxHeartbeats 2000000 in
theorem rdigits_main (s : ByteArray) (w : World) (h0 : 0 < s.size) (h5 : s.size ≤ 5) : Calls Tryd.prog 23 #[.string s] w fun e w' => e = .returned (.int .i64 (num s.data.toList)) ∧ w = w' := by
  have h1 : s.toList.isEmpty = false := empty_false (by omega)
  have h1' : ¬ s.toList = [] := fun e => by have := (empty_iff s).1 e; omega
  have h2 : ¬ (5 : Int) < s.size := by omega
  go_enter Tryd.func23, Tryd.ntmps23
  go_wp2
  go_loopg [3, 4] s.size (fun g n i wr => ∃ k : Nat, i = .int .i64 k ∧ n = .int .i64 (val (s.data.toList.take k)) ∧ k ≤ s.size ∧ g = s.size - k ∧ (s.data.toList.take k).all dg = true ∧ w = wr)
  case atStart => exact ⟨0, rfl, rfl, Nat.zero_le _, rfl, by simp, rfl⟩
  case round =>
    obtain ⟨k, rfl, rfl, hk, rfl, hall, rfl⟩ := hrel
    have hv := val_5 (s.data.toList.take k) (by rw [List.length_take]; omega) hall
    have HA := Lib.hid hall
    have v0 := hv.1
    have v1 := hv.2
    clear hv hall
    by_cases hlt : k < s.size
    · by_cases hd : dg s[k] = true
      · have hd' := hd
        simp only [dg, decide_eq_true_eq] at hd'
        have c0 : (48 : Int) ≤ (s[k].toNat : Int) := by omega
        have c1 : (s[k].toNat : Int) ≤ 57 := by omega
        have HS := Lib.hid (show val (s.data.toList.take (k + 1)) = val (s.data.toList.take k) * 10 + ((s[k].toNat : Int) - 48) by rw [take_snoc s k hlt, val_snoc])
        have HA2 := Lib.hid (show (s.data.toList.take (k + 1)).all dg = true by rw [take_snoc s k hlt, List.all_append, HA.out]; simp [hd])
        clear hd hd'
        go_wp2
        go_roundg (s.size - (k + 1))
        case measure => omega
        case rel => exact ⟨k + 1, by go_num, by rw [HS.out, Int.add_sub_assoc], by omega, rfl, HA2.out, rfl⟩
      · have hd' : dg s[k] = false := by simpa using hd
        have HB := Lib.hid (show num s.data.toList = -1 from num_bad (.inr (.inr (.inl (all_bad s k hlt hd')))))
        have hD : (s[k].toNat : Int) < 48 ∨ (57 : Int) < (s[k].toNat : Int) := by
          simp only [dg, decide_eq_false_iff_not] at hd'
          omega
        clear hd hd'
        rcases hD with hD | hD
        · go_wp2
          go_ret
          exact ⟨ret_int HB.out.symm, rfl⟩
        · have hD' : ¬ (s[k].toNat : Int) < 48 := by omega
          go_wp2
          go_ret
          exact ⟨ret_int HB.out.symm, rfl⟩
    · have hks : k = s.size := by omega
      have ha := HA.out
      rw [hks, take_all] at ha
      have hv : val (s.data.toList.take k) = val s.data.toList := by rw [hks, take_all]
      by_cases hc : val (s.data.toList.take k) ≤ 65535
      · have HB := Lib.hid (show num s.data.toList = val (s.data.toList.take k) from (num_good (by rw [size_len]; omega) (by rw [size_len]; exact h5) ha (by omega)).trans hv.symm)
        clear ha hks hv
        go_wp2
        go_ret
        exact ⟨ret_int HB.out.symm, rfl⟩
      · have HB := Lib.hid (show num s.data.toList = -1 from num_bad (.inr (.inr (.inr (by omega)))))
        have hc' : (65535 : Int) < val (s.data.toList.take k) := by omega
        clear ha hks hv
        go_wp2
        go_ret
        exact ⟨ret_int HB.out.symm, rfl⟩
theorem rdigits_any (s : ByteArray) (w : World) (hm : s.size ≤ 9223372036854775807) : Calls Tryd.prog 23 #[.string s] w fun e w' => e = .returned (.int .i64 (num s.data.toList)) ∧ w = w' := by
  by_cases h : s.size = 0 ∨ 5 < s.size
  · exact rdigits_len s w hm h
  · exact rdigits_main s w (by omega) (by omega)
end Go.Proofs.YtkbdlmmpeieaeaaDoor
