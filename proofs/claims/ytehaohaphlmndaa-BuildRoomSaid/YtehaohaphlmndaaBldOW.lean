/-
  BuildRoom: with more room the tree is the same; with less than its nodes there is none. The condition: what is told is no longer than a machine can hold.
-/
import Derived.Test.YtehaohaphlmndaaBldAw
import Derived.Test.YtehaohaphlmndaaBldO
namespace Go.Proofs.Ytehaohaphlmndaa
open Go Go.RowKit
set_option maxRecDepth 100000

attribute [local go_sem] cell_off4 cell_blk4
set_option maxHeartbeats 8000000 in
theorem broom_big (v : Value) (l : List Rw) (m n : Int) (w : World) (h : RawsR w v l) (hl : l.length ≤ maxLen) (hs : ¬ fewR l) :
    Calls Try.prog 12 #[v, .int .u8 m, .int .u8 n] w fun e w' => e = .returned (.bool true) ∧ Below w.heap.size w w' := by
  have HA := Lib.hid (awake10_any w)
  have HS := Lib.hid (fun W (hb : Below w.heap.size w W) => fewR_any v l W (h.below hb) hl)
  rw [toB_false hs] at HS
  clear h hl hs
  go_enter Try.func12, Try.ntmps12
  go_wp2_with fail
  refine HA.out.mono ?_
  rintro e w1 ⟨rfl, hb1⟩
  have HB1 := Lib.hid hb1
  clear hb1
  go_wp2_with fail
  refine (HS.out _ HB1.out).mono ?_
  rintro e w2 ⟨rfl, hb2⟩
  have HB2 := Lib.hid (bt hb2 HB1.out)
  clear hb2
  go_wp2
  go_ret
  exact ⟨rfl, HB2.out⟩
set_option maxHeartbeats 8000000 in
theorem broom_few (v : Value) (l : List Rw) (m n : Int) (w : World) (hm0 : 0 ≤ m) (hm1 : m ≤ 255) (hn0 : 0 ≤ n) (hn1 : n ≤ 255) (h : RawsR w v l) (hl : l.length ≤ maxLen) (hs : fewR l) :
    Calls Try.prog 12 #[v, .int .u8 m, .int .u8 n] w fun e w' => e = .returned (.bool true) ∧ Below w.heap.size w w' := by
  have HA := Lib.hid (awake10_any w)
  have HS := Lib.hid (fun W (hb : Below w.heap.size w W) => fewR_any v l W (h.below hb) hl)
  rw [toB_true hs] at HS
  have HC := Lib.hid (fun W (r : Int) (hb : Below w.heap.size w W) => build_any r v l W (h.below hb) hs)
  clear h hl hs
  cases hX : bldA 24 l with
  | bad k0 e0 =>
    have HC0 := Lib.hid (fun W (hb : Below w.heap.size w W) => HC.out W 24 hb)
    rw [hX] at HC0
    clear hX HC
    go_enter Try.func12, Try.ntmps12
    go_wp2_with fail
    refine HA.out.mono ?_
    rintro e w1 ⟨rfl, hb1⟩
    have HB1 := Lib.hid hb1
    clear hb1
    go_wp2_with fail
    refine (HS.out _ HB1.out).mono ?_
    rintro e w2 ⟨rfl, hb2⟩
    have HB2 := Lib.hid (bt hb2 HB1.out)
    clear hb2
    go_wp2_with fail
    refine (HC0.out _ HB2.out).mono ?_
    rintro e w3 ⟨⟨rfl, hne⟩, hb3⟩
    have HB3 := Lib.hid (bt hb3 HB2.out)
    have q0 : (e0 != 0) = true := by simpa using hne
    clear hb3 hne
    go_wp2
    go_ret
    exact ⟨rfl, HB3.out⟩
  | good T =>
    have HC0 := Lib.hid (fun W (hb : Below w.heap.size w W) => HC.out W 24 hb)
    rw [hX] at HC0
    obtain ⟨R, hR⟩ : ∃ R, m % 24 + 1 = R := ⟨_, rfl⟩
    have hR1 : 1 ≤ R := by omega
    have hR2 : R ≤ 24 := by omega
    have hm3 : 0 ≤ m % 24 := by omega
    have hm4 : m % 24 < 24 := by omega
    have hnr : IntKind.i64.wrap (R + n) = R + n := by rw [IntKind.wrap_i64] <;> omega
    have HRA := Lib.hid (room_all (m' := R) hX)
    have HRB := Lib.hid (room_all (m' := R + n) hX)
    have HNA := Lib.hid (newL_id hR1 hR2)
    have HNB := Lib.hid (newL_up hR1 hR2 (show R ≤ R + n by omega))
    have HCA := Lib.hid (fun W (hb : Below w.heap.size w W) => HC.out W R hb)
    have HCB := Lib.hid (fun W (hb : Below w.heap.size w W) => HC.out W (R + n) hb)
    have hul := used_le T
    have hul2 := (tre_all hX).2.2.2
    have hul3 := newL_bd 24
    obtain ⟨US, hUS⟩ : ∃ US, usedT T = US := ⟨_, rfl⟩
    rw [hUS] at HRA HRB hul
    have HUS := Lib.hid hUS
    have hu24 : US ≤ 24 := by omega
    clear hX HC hul hul2 hul3 hUS
    by_cases q : (US : Int) ≤ R
    · have q1 : ¬ R < (US : Int) := by omega
      obtain ⟨U, hU1, hU2⟩ := HRA.out.1 (by have := HNA.out; omega)
      obtain ⟨V, hV1, hV2⟩ := HRB.out.1 (by have := HNB.out; omega)
      rw [hU1] at HCA
      rw [hV1] at HCB
      have HSU := Lib.hid (same_sam hU2)
      have HSV := Lib.hid (same_sam hV2)
      clear q hU1 hU2 hV1 hV2 HRA HRB HNA HNB
      go_enter Try.func12, Try.ntmps12
      go_wp2_with fail
      refine HA.out.mono ?_
      rintro e w1 ⟨rfl, hb1⟩
      have HB1 := Lib.hid hb1
      clear hb1
      go_wp2_with fail
      refine (HS.out _ HB1.out).mono ?_
      rintro e w2 ⟨rfl, hb2⟩
      have HB2 := Lib.hid (bt hb2 HB1.out)
      clear hb2
      go_wp2_with fail
      refine (HC0.out _ HB2.out).mono ?_
      rintro e w3 ⟨⟨g, rfl, ht, -⟩, hb3⟩
      have HT3 := Lib.hid ht.ptr
      have HB3 := Lib.hid (bt hb3 HB2.out)
      clear ht hb3 HC0 HS HA HB1 HB2
      go_wp2_with fail
      refine (HCA.out _ HB3.out).mono ?_
      rintro e w4 ⟨⟨g4, rfl, ht, -⟩, hb4⟩
      have HU4 := Lib.hid ht.ptr
      have HT4 := Lib.hid (HT3.out.below hb4)
      have HB4 := Lib.hid (bt hb4 HB3.out)
      clear ht hb4 HCA HT3 HB3
      go_wp2_with fail
      refine (HCB.out _ HB4.out).mono ?_
      rintro e w5 ⟨⟨g5, rfl, ht, -⟩, hb5⟩
      have HV5 := Lib.hid ht.ptr
      have HU5 := Lib.hid (HU4.out.below hb5)
      have HT5 := Lib.hid (HT4.out.below hb5)
      have HB5 := Lib.hid (bt hb5 HB4.out)
      clear ht hb5 HCB HT4 HB4 HU4
      go_wp2_with fail
      refine (used_any _ T w5 HT5.out).mono ?_
      rintro e w6 ⟨rfl, hb6⟩
      rw [HUS.out]
      have HV6 := Lib.hid (HV5.out.below hb6)
      have HU6 := Lib.hid (HU5.out.below hb6)
      have HT6 := Lib.hid (HT5.out.below hb6)
      have HB6 := Lib.hid (bt hb6 HB5.out)
      clear hb6 HV5 HU5 HT5 HB5
      go_wp2_with fail
      refine (tsame_any _ _ U T w6 HU6.out HT6.out).mono ?_
      rintro e w7 ⟨rfl, hb7⟩
      rw [HSU.out]
      have HV7 := Lib.hid (HV6.out.below hb7)
      have HT7 := Lib.hid (HT6.out.below hb7)
      have HB7 := Lib.hid (bt hb7 HB6.out)
      clear hb7 HV6 HU6 HT6 HB6
      go_wp2_with fail
      refine (tsame_any _ _ V T w7 HV7.out HT7.out).mono ?_
      rintro e w8 ⟨rfl, hb8⟩
      rw [HSV.out]
      have HB8 := Lib.hid (bt hb8 HB7.out)
      clear hb8
      go_wp2
      go_ret
      exact ⟨rfl, HB8.out⟩
    · have q1 : R < (US : Int) := by omega
      obtain ⟨j, hj1, hj2⟩ := HRA.out.2 (by have := HNA.out; omega)
      rw [hj1] at HCA
      have hj3 : decide (0 < j) = true := decide_eq_true (by omega)
      clear q hj1 HRA HRB HNA HNB
      go_enter Try.func12, Try.ntmps12
      go_wp2_with fail
      refine HA.out.mono ?_
      rintro e w1 ⟨rfl, hb1⟩
      have HB1 := Lib.hid hb1
      clear hb1
      go_wp2_with fail
      refine (HS.out _ HB1.out).mono ?_
      rintro e w2 ⟨rfl, hb2⟩
      have HB2 := Lib.hid (bt hb2 HB1.out)
      clear hb2
      go_wp2_with fail
      refine (HC0.out _ HB2.out).mono ?_
      rintro e w3 ⟨⟨g, rfl, ht, -⟩, hb3⟩
      have HT3 := Lib.hid ht.ptr
      have HB3 := Lib.hid (bt hb3 HB2.out)
      clear ht hb3 HC0 HS HA HB1 HB2
      go_wp2_with fail
      refine (HCA.out _ HB3.out).mono ?_
      rintro e w4 ⟨⟨rfl, -⟩, hb4⟩
      have HT4 := Lib.hid (HT3.out.below hb4)
      have HB4 := Lib.hid (bt hb4 HB3.out)
      clear hb4 HCA HT3 HB3
      cases hY : bldA (R + n) l with
      | bad k1 e1 =>
        rw [hY] at HCB
        clear hY
        go_wp2_with fail
        refine (HCB.out _ HB4.out).mono ?_
        rintro e w5 ⟨⟨rfl, -⟩, hb5⟩
        have HT5 := Lib.hid (HT4.out.below hb5)
        have HB5 := Lib.hid (bt hb5 HB4.out)
        clear hb5 HCB HT4 HB4
        go_wp2_with fail
        refine (used_any _ T w5 HT5.out).mono ?_
        rintro e w6 ⟨rfl, hb6⟩
        rw [HUS.out]
        have HB6 := Lib.hid (bt hb6 HB5.out)
        clear hb6
        go_wp2
        go_ret
        exact ⟨ret_bool (by first | rfl | exact hj3 | simpa using hj3), HB6.out⟩
      | good V =>
        rw [hY] at HCB
        clear hY
        go_wp2_with fail
        refine (HCB.out _ HB4.out).mono ?_
        rintro e w5 ⟨⟨g5, rfl, -, -⟩, hb5⟩
        have HT5 := Lib.hid (HT4.out.below hb5)
        have HB5 := Lib.hid (bt hb5 HB4.out)
        clear hb5 HCB HT4 HB4
        go_wp2_with fail
        refine (used_any _ T w5 HT5.out).mono ?_
        rintro e w6 ⟨rfl, hb6⟩
        rw [HUS.out]
        have HB6 := Lib.hid (bt hb6 HB5.out)
        clear hb6
        go_wp2
        go_ret
        exact ⟨ret_bool (by first | rfl | exact hj3 | simpa using hj3), HB6.out⟩
theorem broom_any (v : Value) (l : List Rw) (m n : Int) (w : World) (hm0 : 0 ≤ m) (hm1 : m ≤ 255) (hn0 : 0 ≤ n) (hn1 : n ≤ 255) (h : RawsR w v l) (hl : l.length ≤ maxLen) :
    Calls Try.prog 12 #[v, .int .u8 m, .int .u8 n] w fun e w' => e = .returned (.bool true) ∧ Below w.heap.size w w' := by
  by_cases q : fewR l
  · exact broom_few v l m n w hm0 hm1 hn0 hn1 h hl q
  · exact broom_big v l m n w h hl q
end Go.Proofs.Ytehaohaphlmndaa
