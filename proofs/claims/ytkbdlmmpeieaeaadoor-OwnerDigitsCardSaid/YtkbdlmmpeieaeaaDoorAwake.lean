/-
  The reference's Show of any numbers, and the document's examples (awake), under the condition that strconv's table of powers holds what its initialiser lays.
-/
import Derived.Test.YtkbdlmmpeieaeaaDoorRShow
namespace Go.Proofs.YtkbdlmmpeieaeaaDoor
open Go Go.RowKit

theorem kind3 (u : Int) (hu : u ≤ 9223372036854775807) : u < 0 ∨ (∃ k : Nat, k < 4 ∧ u = k) ∨ ∃ n : Nat, 4 ≤ n ∧ n ≤ 9223372036854775807 ∧ u = n := by
  by_cases h : u < 0
  · exact .inl h
  · by_cases h4 : u < 4
    · exact .inr (.inl ⟨u.toNat, by omega, by omega⟩)
    · exact .inr (.inr ⟨u.toNat, by omega, by omega, by omega⟩)
theorem rshow_any (u g : Int) (w : World) (hu : u ≤ 9223372036854775807) (hg : g ≤ 9223372036854775807) : Calls Tryd.prog 16 #[.int .i64 u, .int .i64 g] w (RS u g w) := by
  rcases kind3 u hu with h | ⟨k, hk, rfl⟩ | ⟨n, hn, hn1, rfl⟩ <;> rcases kind3 g hg with h' | ⟨j, hj, rfl⟩ | ⟨m, hm, hm1, rfl⟩
  · exact rshow_NN u h g h' w
  · exact rshow_NS u h j hj w
  · exact rshow_NB u h m hm hm1 w
  · exact rshow_SN k hk g h' w
  · exact rshow_SS k hk j hj w
  · exact rshow_SB k hk m hm hm1 w
  · exact rshow_BN n hn hn1 g h' w
  · exact rshow_BS n hn hn1 j hj w
  · exact rshow_BB n hn hn1 m hm hm1 w
theorem par_1 : par [98, 111, 98, 58, 108, 97, 98] = (2, 3, true) := by decide +kernel
theorem par_2 : par [58, 55] = (-1, 7, true) := by decide +kernel
theorem par_3 : par [97, 110, 110, 58] = (0, 0, false) := by decide +kernel
theorem shw_9 : shw 9 (-1) = [57] := by
  rw [shw, tx_big (.inr (by decide)), dgs, if_neg (by decide), if_pos (by decide), show (9 : Int).toNat = 9 from rfl, Lib.decDigits_one (by decide)]
  rfl
set_option maxHeartbeats 1000000 in
theorem awake_any (w : World) (hT : Tb w) : Calls Tryd.prog 8 #[] w fun e w' => e = .returned (.bool true) ∧ Below w.heap.size w w' := by
  have HT := Lib.hid hT
  have H1 := Lib.hid (fun w => parse_any ⟨#[98, 111, 98, 58, 108, 97, 98]⟩ w (by decide))
  rw [par_1] at H1
  have H2 := Lib.hid (fun w => parse_any ⟨#[58, 55]⟩ w (by decide))
  rw [par_2] at H2
  have H3 := Lib.hid (fun w => parse_any ⟨#[97, 110, 110, 58]⟩ w (by decide))
  rw [par_3] at H3
  have H4 := Lib.hid (fun w hT => show_any 9 (-1) w (by decide) (by decide) (by decide) (by decide) hT)
  rw [shw_9] at H4
  clear hT
  go_enter Tryd.func8, Tryd.ntmps8
  go_wp2_with fail
  refine (H1.out _).mono ?_
  rintro e w1 ⟨rfl, hb⟩
  have HB1 := Lib.hid hb
  clear hb
  go_wp2_with fail
  refine (H2.out _).mono ?_
  rintro e w2 ⟨rfl, hb⟩
  have HB2 := Lib.hid (bt hb HB1.out)
  clear hb
  go_wp2_with fail
  refine (H3.out _).mono ?_
  rintro e w3 ⟨rfl, hb⟩
  have HB3 := Lib.hid (bt hb HB2.out)
  clear hb
  go_wp2_with fail
  refine (H4.out _ (HT.out.below HB3.out)).mono ?_
  rintro e w4 ⟨⟨t, rfl, ht⟩, hb⟩
  have HB4 := Lib.hid (bt hb HB3.out)
  obtain rfl : t = ⟨#[57]⟩ := ba_iff.2 ht
  clear hb ht
  go_wp2
  go_ret
  exact ⟨rfl, HB4.out⟩
end Go.Proofs.YtkbdlmmpeieaeaaDoor
