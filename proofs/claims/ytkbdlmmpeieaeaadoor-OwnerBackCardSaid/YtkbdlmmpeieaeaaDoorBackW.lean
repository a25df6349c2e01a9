/-
  The walk of the law OwnerBack: of any numbers of its kinds it answers true, under the condition that strconv's table of powers holds what its initialiser lays.
-/
import Derived.Test.YtkbdlmmpeieaeaaDoorMath5
namespace Go.Proofs.YtkbdlmmpeieaeaaDoor
open Go Go.RowKit

theorem shw_len (u g : Int) (hu : u ≤ 9223372036854775807) (hg : g ≤ 9223372036854775807) : (shw u g).length ≤ 39 := by
  have h1 := tu_len u hu
  have h2 := tg_len g hg
  rw [shw, List.length_append]
  split
  · simp; omega
  · simp; omega
theorem nought_usr {k : Nat} (h4 : 4 ≤ k) (hk : k < 10000) {t : ByteArray} (ht : t.data.toList = shw (k : Int) (-1)) : usr ((⟨#[48]⟩ : ByteArray) ++ t).data.toList = (k : Int) := by
  have hs : shw (k : Int) (-1) = Lib.decDigits k := by rw [shw, if_pos (by decide), List.append_nil, tx_big (.inr (by omega)), dgs_nat]
  rw [ByteArray.data_append, Array.toList_append, ht, hs, show (⟨#[48]⟩ : ByteArray).data.toList = List.replicate 1 48 from rfl, usr_digits (all_noughts _ _ (dec_all k)), num_dec 1 k (by
    rw [List.length_append, List.length_replicate]
    have := dec_len 3 k hk
    omega), if_pos (by omega)]
set_option maxRecDepth 100000 in
set_option maxHeartbeats 4000000 in
theorem backLaw_true_true (n m : Nat) (w : World) (hn : n ≤ 65535) (hm : m ≤ 65535) (hT : Tb w) : Calls Tryd.prog 5 #[.int .u16 (n : Int), .int .u16 (m : Int), .bool true, .bool true] w fun e w' => e = .returned (.bool true) ∧ Below w.heap.size w w' := by
  have HA := Lib.hid (awake_any w hT)
  have HT := Lib.hid hT
  clear hT
  have HS := Lib.hid (fun w hT => show_any (n : Int) (m : Int) w (by omega) (by omega) (by omega) (by omega) hT)
  have HL := Lib.hid (shw_len (n : Int) (m : Int) (by omega) (by omega))
  have HBK := Lib.hid (back_both n m hn hm)
  obtain ⟨k, hk⟩ : ∃ k : Nat, (n : Int) % 9000 = (k : Int) := ⟨n % 9000, by omega⟩
  have hk9 : k < 9000 := by omega
  have HS2 := Lib.hid (fun w hT => show_any ((k : Int) + 4) (-1) w (by omega) (by omega) (by omega) (by omega) hT)
  have z0 : (⟨#[48]⟩ : ByteArray).size ≤ 1 := Nat.le_refl 1
  have HL2 := Lib.hid (shw_len ((k : Int) + 4) (-1) (by omega) (by omega))
  go_enter Tryd.func5, Tryd.ntmps5
  go_wp2_with fail
  refine HA.out.mono ?_
  rintro e w1 ⟨rfl, hb⟩
  have HB1 := Lib.hid hb
  clear hb
  go_wp2_with fail
  refine (HS.out _ (HT.out.below HB1.out)).mono ?_
  rintro e w2 ⟨⟨t, rfl, ht⟩, hb⟩
  have HB2 := Lib.hid (bt hb HB1.out)
  clear hb
  have HP := Lib.hid (fun w => parse_any t w (by rw [len_of ht]; have := HL.out; omega))
  rw [ht, HBK.out] at HP
  simp only [show pE true = 0 from rfl] at HP
  clear ht
  go_wp2_with fail
  refine (HP.out _).mono ?_
  rintro e w3 ⟨rfl, hb⟩
  have HB3 := Lib.hid (bt hb HB2.out)
  clear hb
  go_wp2_with fail
  refine (HS2.out _ (HT.out.below HB3.out)).mono ?_
  rintro e w4 ⟨⟨t2, rfl, ht2⟩, hb⟩
  have HB4 := Lib.hid (bt hb HB3.out)
  have zt : t2.size ≤ 39 := by rw [len_of ht2]; exact HL2.out
  have hus := nought_usr (k := k + 4) (by omega) (by omega) ht2
  have HU := Lib.hid (fun w => user_any (⟨#[48]⟩ ++ t2) w (by rw [ByteArray.size_append]; omega))
  rw [show idn root ann bob cat ((⟨#[48]⟩ : ByteArray) ++ t2).data.toList = usr ((⟨#[48]⟩ : ByteArray) ++ t2).data.toList from rfl, hus, (ok_some (show (0 : Int) ≤ ((k + 4 : Nat) : Int) by omega)).1, (ok_some (show (0 : Int) ≤ ((k + 4 : Nat) : Int) by omega)).2, show ((k + 4 : Nat) : Int) = (k : Int) + 4 by omega] at HU
  clear hb ht2 hus
  go_wp2_with fail
  refine (HU.out _).mono ?_
  rintro e w5 ⟨rfl, hb⟩
  have HB5 := Lib.hid (bt hb HB4.out)
  clear hb
  go_wp2
  go_ret
  exact ⟨ret_bool (by simp), HB5.out⟩
set_option maxRecDepth 100000 in
set_option maxHeartbeats 4000000 in
theorem backLaw_true_false (n m : Nat) (w : World) (hn : n ≤ 65535) (hm : m ≤ 65535) (hT : Tb w) : Calls Tryd.prog 5 #[.int .u16 (n : Int), .int .u16 (m : Int), .bool true, .bool false] w fun e w' => e = .returned (.bool true) ∧ Below w.heap.size w w' := by
  have HA := Lib.hid (awake_any w hT)
  have HT := Lib.hid hT
  clear hT
  have HS := Lib.hid (fun w hT => show_any (n : Int) (-1) w (by omega) (by omega) (by omega) (by omega) hT)
  have HL := Lib.hid (shw_len (n : Int) (-1) (by omega) (by omega))
  have HBK := Lib.hid (back_user n hn)
  obtain ⟨k, hk⟩ : ∃ k : Nat, (n : Int) % 9000 = (k : Int) := ⟨n % 9000, by omega⟩
  have hk9 : k < 9000 := by omega
  have HS2 := Lib.hid (fun w hT => show_any ((k : Int) + 4) (-1) w (by omega) (by omega) (by omega) (by omega) hT)
  have z0 : (⟨#[48]⟩ : ByteArray).size ≤ 1 := Nat.le_refl 1
  have HL2 := Lib.hid (shw_len ((k : Int) + 4) (-1) (by omega) (by omega))
  go_enter Tryd.func5, Tryd.ntmps5
  go_wp2_with fail
  refine HA.out.mono ?_
  rintro e w1 ⟨rfl, hb⟩
  have HB1 := Lib.hid hb
  clear hb
  go_wp2_with fail
  refine (HS.out _ (HT.out.below HB1.out)).mono ?_
  rintro e w2 ⟨⟨t, rfl, ht⟩, hb⟩
  have HB2 := Lib.hid (bt hb HB1.out)
  clear hb
  have HP := Lib.hid (fun w => parse_any t w (by rw [len_of ht]; have := HL.out; omega))
  rw [ht, HBK.out] at HP
  simp only [show pE true = 0 from rfl] at HP
  clear ht
  go_wp2_with fail
  refine (HP.out _).mono ?_
  rintro e w3 ⟨rfl, hb⟩
  have HB3 := Lib.hid (bt hb HB2.out)
  clear hb
  go_wp2_with fail
  refine (HS2.out _ (HT.out.below HB3.out)).mono ?_
  rintro e w4 ⟨⟨t2, rfl, ht2⟩, hb⟩
  have HB4 := Lib.hid (bt hb HB3.out)
  have zt : t2.size ≤ 39 := by rw [len_of ht2]; exact HL2.out
  have hus := nought_usr (k := k + 4) (by omega) (by omega) ht2
  have HU := Lib.hid (fun w => user_any (⟨#[48]⟩ ++ t2) w (by rw [ByteArray.size_append]; omega))
  rw [show idn root ann bob cat ((⟨#[48]⟩ : ByteArray) ++ t2).data.toList = usr ((⟨#[48]⟩ : ByteArray) ++ t2).data.toList from rfl, hus, (ok_some (show (0 : Int) ≤ ((k + 4 : Nat) : Int) by omega)).1, (ok_some (show (0 : Int) ≤ ((k + 4 : Nat) : Int) by omega)).2, show ((k + 4 : Nat) : Int) = (k : Int) + 4 by omega] at HU
  clear hb ht2 hus
  go_wp2_with fail
  refine (HU.out _).mono ?_
  rintro e w5 ⟨rfl, hb⟩
  have HB5 := Lib.hid (bt hb HB4.out)
  clear hb
  go_wp2
  go_ret
  exact ⟨ret_bool (by simp), HB5.out⟩
set_option maxRecDepth 100000 in
set_option maxHeartbeats 4000000 in
theorem backLaw_false_true (n m : Nat) (w : World) (hn : n ≤ 65535) (hm : m ≤ 65535) (hT : Tb w) : Calls Tryd.prog 5 #[.int .u16 (n : Int), .int .u16 (m : Int), .bool false, .bool true] w fun e w' => e = .returned (.bool true) ∧ Below w.heap.size w w' := by
  have HA := Lib.hid (awake_any w hT)
  have HT := Lib.hid hT
  clear hT
  have HS := Lib.hid (fun w hT => show_any (-1) (m : Int) w (by omega) (by omega) (by omega) (by omega) hT)
  have HL := Lib.hid (shw_len (-1) (m : Int) (by omega) (by omega))
  have HBK := Lib.hid (back_group m hm)
  obtain ⟨k, hk⟩ : ∃ k : Nat, (n : Int) % 9000 = (k : Int) := ⟨n % 9000, by omega⟩
  have hk9 : k < 9000 := by omega
  have HS2 := Lib.hid (fun w hT => show_any ((k : Int) + 4) (-1) w (by omega) (by omega) (by omega) (by omega) hT)
  have z0 : (⟨#[48]⟩ : ByteArray).size ≤ 1 := Nat.le_refl 1
  have HL2 := Lib.hid (shw_len ((k : Int) + 4) (-1) (by omega) (by omega))
  go_enter Tryd.func5, Tryd.ntmps5
  go_wp2_with fail
  refine HA.out.mono ?_
  rintro e w1 ⟨rfl, hb⟩
  have HB1 := Lib.hid hb
  clear hb
  go_wp2_with fail
  refine (HS.out _ (HT.out.below HB1.out)).mono ?_
  rintro e w2 ⟨⟨t, rfl, ht⟩, hb⟩
  have HB2 := Lib.hid (bt hb HB1.out)
  clear hb
  have HP := Lib.hid (fun w => parse_any t w (by rw [len_of ht]; have := HL.out; omega))
  rw [ht, HBK.out] at HP
  simp only [show pE true = 0 from rfl] at HP
  clear ht
  go_wp2_with fail
  refine (HP.out _).mono ?_
  rintro e w3 ⟨rfl, hb⟩
  have HB3 := Lib.hid (bt hb HB2.out)
  clear hb
  go_wp2_with fail
  refine (HS2.out _ (HT.out.below HB3.out)).mono ?_
  rintro e w4 ⟨⟨t2, rfl, ht2⟩, hb⟩
  have HB4 := Lib.hid (bt hb HB3.out)
  have zt : t2.size ≤ 39 := by rw [len_of ht2]; exact HL2.out
  have hus := nought_usr (k := k + 4) (by omega) (by omega) ht2
  have HU := Lib.hid (fun w => user_any (⟨#[48]⟩ ++ t2) w (by rw [ByteArray.size_append]; omega))
  rw [show idn root ann bob cat ((⟨#[48]⟩ : ByteArray) ++ t2).data.toList = usr ((⟨#[48]⟩ : ByteArray) ++ t2).data.toList from rfl, hus, (ok_some (show (0 : Int) ≤ ((k + 4 : Nat) : Int) by omega)).1, (ok_some (show (0 : Int) ≤ ((k + 4 : Nat) : Int) by omega)).2, show ((k + 4 : Nat) : Int) = (k : Int) + 4 by omega] at HU
  clear hb ht2 hus
  go_wp2_with fail
  refine (HU.out _).mono ?_
  rintro e w5 ⟨rfl, hb⟩
  have HB5 := Lib.hid (bt hb HB4.out)
  clear hb
  go_wp2
  go_ret
  exact ⟨ret_bool (by simp), HB5.out⟩
set_option maxRecDepth 100000 in
set_option maxHeartbeats 4000000 in
theorem backLaw_false_false (n m : Nat) (w : World) (hn : n ≤ 65535) (hm : m ≤ 65535) (hT : Tb w) : Calls Tryd.prog 5 #[.int .u16 (n : Int), .int .u16 (m : Int), .bool false, .bool false] w fun e w' => e = .returned (.bool true) ∧ Below w.heap.size w w' := by
  have HA := Lib.hid (awake_any w hT)
  have HT := Lib.hid hT
  clear hT
  have HS := Lib.hid (fun w hT => show_any (-1) (-1) w (by omega) (by omega) (by omega) (by omega) hT)
  go_enter Tryd.func5, Tryd.ntmps5
  go_wp2_with fail
  refine HA.out.mono ?_
  rintro e w1 ⟨rfl, hb⟩
  have HB1 := Lib.hid hb
  clear hb
  go_wp2_with fail
  refine (HS.out _ (HT.out.below HB1.out)).mono ?_
  rintro e w2 ⟨⟨t, rfl, ht⟩, hb⟩
  have HB2 := Lib.hid (bt hb HB1.out)
  clear hb
  rw [back_none] at ht
  obtain rfl : t = ⟨#[]⟩ := ba_iff.2 ht
  clear ht
  go_wp2
  go_ret
  exact ⟨ret_bool (by simp), HB2.out⟩
theorem backLaw (x y : Int) (u g : Bool) (w : World) (hx : 0 ≤ x ∧ x ≤ 65535) (hy : 0 ≤ y ∧ y ≤ 65535) (hT : Tb w) : Calls Tryd.prog 5 #[.int .u16 x, .int .u16 y, .bool u, .bool g] w fun e w' => e = .returned (.bool true) ∧ Below w.heap.size w w' := by
  obtain ⟨n, rfl⟩ := Int.eq_ofNat_of_zero_le hx.1
  obtain ⟨m, rfl⟩ := Int.eq_ofNat_of_zero_le hy.1
  have hn : n ≤ 65535 := by omega
  have hm : m ≤ 65535 := by omega
  cases u <;> cases g
  · exact backLaw_false_false n m w hn hm hT
  · exact backLaw_false_true n m w hn hm hT
  · exact backLaw_true_false n m w hn hm hT
  · exact backLaw_true_true n m w hn hm hT
end Go.Proofs.YtkbdlmmpeieaeaaDoor
