/-
  What modes.ReadOctal and the reference's ReadOctal answer of any text: the number that one to eight digits make, if it is 4095 at most. The only condition is that the text's length is a number that a machine has.
-/
import Derived.Test.YtbjajipeiigodaaDoorMInts
import Derived.Laws.RangeString
import Derived.Laws.RangeAny
namespace Go.Proofs.YtbjajipeiigodaaDoor
open Go Go.RowKit

def dg (c : UInt8) : Bool := decide (48 ≤ c.toNat ∧ c.toNat ≤ 55)
def val (l : List UInt8) : Int := l.foldl (fun n c => n * 8 + ((c.toNat : Int) - 48)) 0
theorem val_snoc (l : List UInt8) (c : UInt8) : val (l ++ [c]) = val l * 8 + ((c.toNat : Int) - 48) := by simp [val]
theorem pow8 (k : Nat) : (0 : Int) < 8 ^ k := Int.pow_pos (by decide)
theorem val_bd (n : Nat) : ∀ l : List UInt8, l.length = n → l.all dg = true → 0 ≤ val l ∧ val l < 8 ^ n := by
  induction n with
  | zero =>
    intro l hl _
    have : l = [] := List.eq_nil_of_length_eq_zero hl
    subst this
    simp [val]
  | succ n ih =>
    intro l hl hd
    obtain ⟨l', c, rfl⟩ : ∃ l' c, l = l' ++ [c] := by
      rcases List.eq_nil_or_concat l with rfl | ⟨l', c, h⟩
      · simp at hl
      · exact ⟨l', c, by simpa using h⟩
    rw [List.all_append] at hd
    simp only [Bool.and_eq_true, List.all_cons, List.all_nil, Bool.and_true, dg, decide_eq_true_eq] at hd
    have h1 := ih l' (by simpa using hl) (by simpa [dg] using hd.1)
    rw [val_snoc, Int.pow_succ]
    omega
theorem val_8 (l : List UInt8) (hl : l.length ≤ 8) (hd : l.all dg = true) : 0 ≤ val l ∧ val l ≤ 16777215 := by
  have h := val_bd l.length l rfl hd
  have h2 : (8 : Nat) ^ l.length ≤ 8 ^ 8 := Nat.pow_le_pow_right (by decide) hl
  have h3 : ((8 ^ l.length : Nat) : Int) = 8 ^ l.length := by simp
  have h4 : ((8 : Nat) ^ 8) = 16777216 := by decide
  omega
def rdo (s : ByteArray) : Int := if s.size = 0 ∨ 8 < s.size ∨ s.data.toList.all dg = false ∨ 4095 < val s.data.toList then -1 else val s.data.toList
def roN (s : ByteArray) : Int := if rdo s < 0 then 0 else rdo s
def roE (s : ByteArray) : Int := if rdo s < 0 then 22 else 0
theorem rdo_bad (s : ByteArray) (h : s.size = 0 ∨ 8 < s.size ∨ s.data.toList.all dg = false ∨ 4095 < val s.data.toList) : rdo s = -1 := by rw [rdo, if_pos h]
theorem ro_bad (s : ByteArray) (h : s.size = 0 ∨ 8 < s.size ∨ s.data.toList.all dg = false ∨ 4095 < val s.data.toList) : roN s = 0 ∧ roE s = 22 := by
  rw [roN, roE, rdo_bad s h]; decide
theorem rdo_good (s : ByteArray) (h1 : ¬ s.size = 0) (h2 : s.size ≤ 8) (h3 : s.data.toList.all dg = true) (h4 : val s.data.toList ≤ 4095) : rdo s = val s.data.toList := by
  rw [rdo, if_neg]
  intro h
  rcases h with h | h | h | h
  · exact h1 h
  · omega
  · rw [h3] at h; cases h
  · omega
theorem ro_good (s : ByteArray) (h1 : ¬ s.size = 0) (h2 : s.size ≤ 8) (h3 : s.data.toList.all dg = true) (h4 : val s.data.toList ≤ 4095) : roN s = val s.data.toList ∧ roE s = 0 := by
  have h := val_8 s.data.toList (by simpa using h2) h3
  rw [roN, roE, rdo_good s h1 h2 h3 h4, if_neg (by omega), if_neg (by omega)]
  exact ⟨rfl, rfl⟩
theorem take_snoc (s : ByteArray) (k : Nat) (h : k < s.size) : s.data.toList.take (k + 1) = s.data.toList.take k ++ [s[k]] := by
  rw [List.take_succ_eq_append_getElem (by simpa using h)]; rfl
theorem take_all (s : ByteArray) : s.data.toList.take s.size = s.data.toList := List.take_of_length_le (by simp)
theorem all_bad (s : ByteArray) (k : Nat) (h : k < s.size) (hc : dg s[k] = false) : s.data.toList.all dg = false := by
  rw [List.all_eq_false]
  exact ⟨s[k], by rw [show s[k] = s.data.toList[k]'(by simpa using h) from rfl]; exact List.getElem_mem _, by simp [hc]⟩

theorem ret_two {a b c d : Int} (h : c = a ∧ d = b) : Ending.returned (.tuple #[.int .i64 a, .int .i64 b]) = .returned (.tuple #[.int .i64 c, .int .i64 d]) := by rw [h.1, h.2]

theorem readOctal_len (s : ByteArray) (w : World) (hm : s.size ≤ 9223372036854775807) (h : s.size = 0 ∨ 8 < s.size) : Calls Tryd.prog 61 #[.string s] w fun e w' => e = .returned (.tuple #[.int .i64 (roN s), .int .i64 (roE s)]) ∧ Below w.heap.size w w' := by
  have hb := Lib.hid (ro_bad s (by omega))
  rcases h with h | h
  · have h1 : ((s.size : Int) == 0) = true := by rw [h]; rfl
    clear h
    go_enter Tryd.func61, Tryd.ntmps61
    go_wp2
    go_ret2
    exact ⟨ret_two hb.out, Below.refl _ _⟩
  · have h1 : ((s.size : Int) == 0) = false := by rw [beq_eq_false_iff_ne]; omega
    have h2 : (8 : Int) < s.size := by omega
    go_enter Tryd.func61, Tryd.ntmps61
    go_wp2
    go_ret2
    exact ⟨ret_two hb.out, Below.refl _ _⟩

set_option maxHeartbeats 2000000 in
theorem readOctal_main (s : ByteArray) (w : World) (h0 : 0 < s.size) (h8 : s.size ≤ 8) : Calls Tryd.prog 61 #[.string s] w fun e w' => e = .returned (.tuple #[.int .i64 (roN s), .int .i64 (roE s)]) ∧ Below w.heap.size w w' := by
  have h1 : ((s.size : Int) == 0) = false := by rw [beq_eq_false_iff_ne]; omega
  have h2 : ¬ (8 : Int) < s.size := by omega
  go_enter Tryd.func61, Tryd.ntmps61
  go_wp2
  go_loopw [4] (fun n wr => ∃ k : Nat, k ≤ s.size ∧ wr = w.iter s k ∧ (s.data.toList.take k).all dg = true ∧ n = .int .i64 (val (s.data.toList.take k))) (fun _ wr => s.size - wr.iterPos w.heap.size)
  case atStart => exact ⟨0, Nat.zero_le _, rfl, by simp, rfl⟩
  case round =>
    obtain ⟨k, hk, rfl, hall, rfl⟩ := hrel
    have hv := val_8 (s.data.toList.take k) (by rw [List.length_take]; omega) hall
    have HA := Lib.hid hall
    have v0 := hv.1
    have v1 := hv.2
    clear hv hall
    by_cases hlt : k < s.size
    · by_cases hd : dg s[k] = true
      · have hd' := hd
        simp only [dg, decide_eq_true_eq] at hd'
        have c0 : (48 : Int) ≤ (s[k].toNat : Int) := by omega
        have c1 : (s[k].toNat : Int) ≤ 55 := by omega
        have hnx := fun ty => run_next_ascii (P := Tryd.prog) w s k ty hlt (by omega)
        have HS := Lib.hid (show val (s.data.toList.take (k + 1)) = val (s.data.toList.take k) * 8 + ((s[k].toNat : Int) - 48) by rw [take_snoc s k hlt, val_snoc])
        have HA2 := Lib.hid (show (s.data.toList.take (k + 1)).all dg = true by rw [take_snoc s k hlt, List.all_append, HA.out]; simp [hd])
        clear hd hd'
        go_wp2
        go_roundw
        case rel => exact ⟨k + 1, by omega, rfl, HA2.out, by rw [HS.out]⟩
        case measure => simp; omega
      · have hd' : dg s[k] = false := by simpa using hd
        have HB := Lib.hid (ro_bad s (.inr (.inr (.inl (all_bad s k hlt hd')))))
        have hD : ((Utf8.decode s k).1 : Int) < 48 ∨ (55 : Int) < ((Utf8.decode s k).1 : Int) := by
          simp only [dg, decide_eq_false_iff_not] at hd'
          by_cases ha : s[k].toNat < 128
          · rw [decode_ascii s k hlt ha]; omega
          · have := (decode_high s k hlt (by omega)).1
            omega
        have hnx := fun ty => run_next_any (P := Tryd.prog) w s k ty hlt
        clear hd hd'
        rcases hD with hD | hD
        · go_wp2
          go_ret2
          exact ⟨ret_two HB.out, (Below.refl _ _).alloc (Nat.le_refl _) _⟩
        · have hD' : ¬ ((Utf8.decode s k).1 : Int) < 48 := by omega
          go_wp2
          go_ret2
          exact ⟨ret_two HB.out, (Below.refl _ _).alloc (Nat.le_refl _) _⟩
    · have hnx := fun ty => run_next_end (P := Tryd.prog) w s k ty hlt
      have hks : k = s.size := by omega
      have ha := HA.out
      rw [hks, take_all] at ha
      have hv : val (s.data.toList.take k) = val s.data.toList := by rw [hks, take_all]
      have HV := Lib.hid hv
      by_cases hc : val (s.data.toList.take k) ≤ 4095
      · have HB := Lib.hid (ro_good s (by omega) h8 ha (by omega))
        clear ha hks hv
        go_wp2
        go_ret2
        exact ⟨ret_two ⟨by rw [HB.out.1, HV.out], HB.out.2⟩, (Below.refl _ _).alloc (Nat.le_refl _) _⟩
      · have HB := Lib.hid (ro_bad s (.inr (.inr (.inr (by omega)))))
        have hc' : (4095 : Int) < val (s.data.toList.take k) := by omega
        clear ha hks hv
        go_wp2
        go_ret2
        exact ⟨ret_two HB.out, (Below.refl _ _).alloc (Nat.le_refl _) _⟩
theorem readOctal_any (s : ByteArray) (w : World) (hm : s.size ≤ 9223372036854775807) : Calls Tryd.prog 61 #[.string s] w fun e w' => e = .returned (.tuple #[.int .i64 (roN s), .int .i64 (roE s)]) ∧ Below w.heap.size w w' := by
  by_cases h : s.size = 0 ∨ 8 < s.size
  · exact readOctal_len s w hm h
  · exact readOctal_main s w (by omega) (by omega)

theorem rreadOctal_len (s : ByteArray) (w : World) (hm : s.size ≤ 9223372036854775807) (h : s.size = 0 ∨ 8 < s.size) : Calls Tryd.prog 47 #[.string s] w fun e w' => e = .returned (.int .i64 (rdo s)) ∧ w = w' := by
  have hb := Lib.hid (rdo_bad s (by omega))
  by_cases he : s.toList = []
  · have h1 : (s.toList == []) = true := by rw [he]; rfl
    go_enter Tryd.func47, Tryd.ntmps47
    go_wp2
    go_ret
    exact ⟨ret_int hb.out.symm, rfl⟩
  · have h1 : s.toList.isEmpty = false := by simpa using he
    have hz : ¬ s.size = 0 := by
      intro hz
      apply he
      rw [ByteArray.toList_eq]
      exact List.eq_nil_of_length_eq_zero (by simpa using hz)
    have h2 : (8 : Int) < s.size := by omega
    go_enter Tryd.func47, Tryd.ntmps47
    go_wp2
    go_ret
    exact ⟨ret_int hb.out.symm, rfl⟩
set_option maxHeartbeats 2000000 in
theorem rreadOctal_main (s : ByteArray) (w : World) (h0 : 0 < s.size) (h8 : s.size ≤ 8) : Calls Tryd.prog 47 #[.string s] w fun e w' => e = .returned (.int .i64 (rdo s)) ∧ w = w' := by
  have he : s.toList.isEmpty = false := by
    rw [ByteArray.toList_eq]
    rw [Bool.eq_false_iff]
    intro h
    rw [List.isEmpty_iff] at h
    have h3 : s.data.toList.length = 0 := by rw [h]; rfl
    have h4 : s.size = 0 := by rw [Array.length_toList] at h3; exact h3
    omega
  have he' : ¬ s.toList = [] := by
    intro h
    rw [h] at he
    cases he
  have h2 : ¬ (8 : Int) < s.size := by omega
  go_enter Tryd.func47, Tryd.ntmps47
  go_wp2
  go_loop [3, 4] (fun n i => ∃ k : Nat, k ≤ s.size ∧ i = .int .i64 k ∧ (s.data.toList.take k).all dg = true ∧ n = .int .i64 (val (s.data.toList.take k))) (fun _ i => s.size - (intOf i).toNat)
  case atStart => exact ⟨0, Nat.zero_le _, rfl, by simp, rfl⟩
  case round =>
    obtain ⟨k, hk, rfl, hall, rfl⟩ := hrel
    have hv := val_8 (s.data.toList.take k) (by rw [List.length_take]; omega) hall
    have HA := Lib.hid hall
    have v0 := hv.1
    have v1 := hv.2
    clear hv hall
    by_cases hlt : k < s.size
    · by_cases hd : dg s[k] = true
      · have hd' := hd
        simp only [dg, decide_eq_true_eq] at hd'
        have c0 : (48 : Int) ≤ (s[k].toNat : Int) := by omega
        have c1 : (s[k].toNat : Int) ≤ 55 := by omega
        have HS := Lib.hid (show val (s.data.toList.take (k + 1)) = val (s.data.toList.take k) * 8 + ((s[k].toNat : Int) - 48) by rw [take_snoc s k hlt, val_snoc])
        have HA2 := Lib.hid (show (s.data.toList.take (k + 1)).all dg = true by rw [take_snoc s k hlt, List.all_append, HA.out]; simp [hd])
        clear hd hd'
        go_wp2
        go_round
        case rel => exact ⟨k + 1, by omega, by go_num, HA2.out, by rw [HS.out]; go_num⟩
        case measure => simp [intOf]; omega
      · have hd' : dg s[k] = false := by simpa using hd
        have HB := Lib.hid (rdo_bad s (.inr (.inr (.inl (all_bad s k hlt hd')))))
        have hD : (s[k].toNat : Int) < 48 ∨ (55 : Int) < (s[k].toNat : Int) := by
          simp only [dg, decide_eq_false_iff_not] at hd'
          omega
        clear hd hd'
        rcases hD with hD | hD
        · go_wp2
          go_ret
          exact ⟨ret_int HB.out.symm, rfl⟩
        · have hD' : ¬ (s[k].toNat : Int) < 48 := by omega
          go_wp2
          go_ret
          exact ⟨ret_int HB.out.symm, rfl⟩
    · have hks : k = s.size := by omega
      have ha := HA.out
      rw [hks, take_all] at ha
      have hv : val (s.data.toList.take k) = val s.data.toList := by rw [hks, take_all]
      have HV := Lib.hid hv
      by_cases hc : val (s.data.toList.take k) ≤ 4095
      · have HB := Lib.hid (rdo_good s (by omega) h8 ha (by omega))
        clear ha hks hv
        go_wp2
        go_ret
        exact ⟨ret_int (by rw [HB.out, HV.out]), rfl⟩
      · have HB := Lib.hid (rdo_bad s (.inr (.inr (.inr (by omega)))))
        have hc' : (4095 : Int) < val (s.data.toList.take k) := by omega
        clear ha hks hv
        go_wp2
        go_ret
        exact ⟨ret_int HB.out.symm, rfl⟩
theorem rreadOctal_any (s : ByteArray) (w : World) (hm : s.size ≤ 9223372036854775807) : Calls Tryd.prog 47 #[.string s] w fun e w' => e = .returned (.int .i64 (rdo s)) ∧ w = w' := by
  by_cases h : s.size = 0 ∨ 8 < s.size
  · exact rreadOctal_len s w hm h
  · exact rreadOctal_main s w (by omega) (by omega)
end Go.Proofs.YtbjajipeiigodaaDoor
