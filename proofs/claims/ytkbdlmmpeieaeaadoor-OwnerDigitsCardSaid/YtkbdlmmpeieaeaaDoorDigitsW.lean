/-
  The walk of the law OwnerDigits: of any numbers of its kinds it answers true, under the condition that strconv's table of powers holds what its initialiser lays.
-/
import Derived.Test.YtkbdlmmpeieaeaaDoorMath5
namespace Go.Proofs.YtkbdlmmpeieaeaaDoor
open Go Go.RowKit

theorem text_num {j k : Nat} {s : ByteArray} (hs : s.data.toList = List.replicate j 48 ++ Lib.decDigits k) (h5 : s.size ≤ 5) : usr s.data.toList = (if k ≤ 65535 then (k : Int) else -1) ∧ grp s.data.toList = (if k ≤ 65535 then (k : Int) else -1) := by
  have ha : s.data.toList.all dg = true := by rw [hs]; exact all_noughts _ _ (dec_all k)
  have hl : (List.replicate j 48 ++ Lib.decDigits k).length ≤ 5 := by rw [← hs, size_len]; exact h5
  rw [usr_digits ha, grp_digits ha, hs, num_dec j k hl]
  exact ⟨rfl, rfl⟩
set_option maxRecDepth 100000 in
set_option maxHeartbeats 4000000 in
theorem digitsLaw (n x : Int) (w : World) (hn : 0 ≤ n ∧ n ≤ 4294967295) (hx : 0 ≤ x ∧ x ≤ 255) (hT : Tb w) : Calls Tryd.prog 7 #[.int .u32 n, .int .u8 x] w fun e w' => e = .returned (.bool true) ∧ Below w.heap.size w w' := by
  have HA := Lib.hid (awake_any w hT)
  obtain ⟨hn0, hn1⟩ := hn
  obtain ⟨hx0, hx1⟩ := hx
  obtain ⟨k, hk⟩ : ∃ k : Nat, n % 70000 = (k : Int) := ⟨(n % 70000).toNat, by omega⟩
  obtain ⟨q, hq⟩ : ∃ q : Nat, x % 5 = (q : Int) := ⟨(x % 5).toNat, by omega⟩
  have hk7 : k < 70000 := by omega
  have hq5 : q < 5 := by omega
  have HD := Lib.hid (fun w => rdig_any k w (by omega))
  have z0 : (⟨#[48]⟩ : ByteArray).size ≤ 1 := Nat.le_refl 1
  clear hT
  go_enter Tryd.func7, Tryd.ntmps7
  go_wp2_with fail
  refine HA.out.mono ?_
  rintro e w1 ⟨rfl, hb⟩
  have HB1 := Lib.hid hb
  clear hb
  go_wp2_with fail
  refine (HD.out _).mono ?_
  rintro e w2 ⟨⟨t, rfl, ht⟩, hb⟩
  have HB2 := Lib.hid (bt hb HB1.out)
  have HT := Lib.hid ht
  have zt : t.size ≤ 5 := by rw [len_of ht]; exact dec_5 k (by omega)
  clear hb ht
  go_wp2
  go_loopg [7] (5 - t.size) (fun g s7 wr => ∃ (j : Nat) (s : ByteArray), s7 = .string s ∧ s.data.toList = List.replicate j 48 ++ Lib.decDigits k ∧ s.size ≤ 5 ∧ g = 5 - s.size ∧ Below w.heap.size w wr)
  case atStart => exact ⟨0, t, rfl, by rw [HT.out]; rfl, zt, rfl, HB2.out⟩
  case round =>
    obtain ⟨j, s, rfl, hs, h5, rfl, hB⟩ := hrel
    have HS := Lib.hid hs
    have HB := Lib.hid hB
    have hp : 1 ≤ s.size := by
      have := dec_pos k
      rw [len_of hs, List.length_append]
      omega
    clear hs hB
    by_cases hgo : s.size < 5 ∧ s.size ≤ q
    · have g1 : decide ((s.size : Int) < 5) = true := by simp; omega
      have g2 : decide ((s.size : Int) - 1 < (q : Int)) = true := by simp; omega
      go_wp2
      go_roundg (5 - (s.size + 1))
      case measure => omega
      case rel =>
        refine ⟨j + 1, _, rfl, ?_, ?_, ?_, HB.out⟩
        · rw [ByteArray.data_append, Array.toList_append, HS.out, List.replicate_succ]
          rfl
        · rw [ByteArray.size_append]; omega
        · rw [ByteArray.size_append, show (⟨#[48]⟩ : ByteArray).size = 1 from rfl]; omega
    · have HN := Lib.hid (text_num HS.out h5)
      have HU := Lib.hid (fun w => user_any s w (by omega))
      have HG := Lib.hid (fun w => group_any s w (by omega))
      rw [show idn root ann bob cat s.data.toList = usr s.data.toList from rfl, HN.out.1] at HU
      rw [show idn wheel staff ops lab s.data.toList = grp s.data.toList from rfl, HN.out.2] at HG
      by_cases hbig : k ≤ 65535
      · rw [if_pos hbig, (ok_some (show (0 : Int) ≤ (k : Int) by omega)).1, (ok_some (show (0 : Int) ≤ (k : Int) by omega)).2] at HU HG
        have c1 : decide ((65535 : Int) < (k : Int)) = false := by simp; omega
        by_cases h55 : s.size < 5
        · have g1 : decide ((s.size : Int) < 5) = true := by simp; omega
          have g2 : decide ((s.size : Int) - 1 < (q : Int)) = false := by simp; omega
          go_wp2_with fail
          refine (HU.out _).mono ?_
          rintro e w3 ⟨rfl, hb⟩
          have HB3 := Lib.hid (bt hb HB.out)
          clear hb
          go_wp2_with fail
          refine (HG.out _).mono ?_
          rintro e w4 ⟨rfl, hb⟩
          have HB4 := Lib.hid (bt hb HB3.out)
          clear hb
          go_wp2
          go_ret
          exact ⟨ret_bool (by simp), HB4.out⟩
        · have g1 : decide ((s.size : Int) < 5) = false := by simp; omega
          go_wp2_with fail
          refine (HU.out _).mono ?_
          rintro e w3 ⟨rfl, hb⟩
          have HB3 := Lib.hid (bt hb HB.out)
          clear hb
          go_wp2_with fail
          refine (HG.out _).mono ?_
          rintro e w4 ⟨rfl, hb⟩
          have HB4 := Lib.hid (bt hb HB3.out)
          clear hb
          go_wp2
          go_ret
          exact ⟨ret_bool (by simp), HB4.out⟩
      · rw [if_neg hbig, ok_none.1, ok_none.2] at HU HG
        have c1 : decide ((65535 : Int) < (k : Int)) = true := by simp; omega
        by_cases h55 : s.size < 5
        · have g1 : decide ((s.size : Int) < 5) = true := by simp; omega
          have g2 : decide ((s.size : Int) - 1 < (q : Int)) = false := by simp; omega
          go_wp2_with fail
          refine (HU.out _).mono ?_
          rintro e w3 ⟨rfl, hb⟩
          have HB3 := Lib.hid (bt hb HB.out)
          clear hb
          go_wp2_with fail
          refine (HG.out _).mono ?_
          rintro e w4 ⟨rfl, hb⟩
          have HB4 := Lib.hid (bt hb HB3.out)
          clear hb
          go_wp2
          go_ret
          exact ⟨ret_bool (by simp), HB4.out⟩
        · have g1 : decide ((s.size : Int) < 5) = false := by simp; omega
          go_wp2_with fail
          refine (HU.out _).mono ?_
          rintro e w3 ⟨rfl, hb⟩
          have HB3 := Lib.hid (bt hb HB.out)
          clear hb
          go_wp2_with fail
          refine (HG.out _).mono ?_
          rintro e w4 ⟨rfl, hb⟩
          have HB4 := Lib.hid (bt hb HB3.out)
          clear hb
          go_wp2
          go_ret
          exact ⟨ret_bool (by simp), HB4.out⟩
end Go.Proofs.YtkbdlmmpeieaeaaDoor
