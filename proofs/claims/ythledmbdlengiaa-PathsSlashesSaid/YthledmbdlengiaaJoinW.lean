/-
  The walk of the law PathsJoin: of any path and name it answers true.
-/
import Derived.Test.YthledmbdlengiaaAwake
namespace Go.Proofs.Ythledmbdlengiaa
open Go Go.RowKit

theorem nam_plain {n : ByteArray} (h : namB n = true) : noSl (tl n) ∧ ¬ tl n = [] ∧ n.size ≤ 12 := by
  unfold namB fitB at h
  simp only [Bool.and_eq_true, decide_eq_true_eq, Bool.not_eq_true'] at h
  obtain ⟨⟨⟨h0, h1⟩, _⟩, h2, _⟩ := h
  refine ⟨fun c hc e => ?_, fun e => ?_, h1⟩
  · subst e
    rw [List.contains_iff_mem.2 hc] at h2
    cases h2
  · rw [← tl_len, e] at h0
    exact absurd h0 (by decide)
set_option maxRecDepth 100000 in
set_option maxHeartbeats 8000000 in
theorem joinLaw_in (d n : ByteArray) (w : World) (hd : d.size ≤ 100) (hn : n.size ≤ 100) (h0 : 0 < d.size) (hl : ¬ (tl d).getLast? = some 47) (hnm : namB n = true) :
    Calls Try.prog 5 #[.string d, .string n] w fun e w' => e = .returned (.bool true) ∧ Below w.heap.size w w' := by
  have HA := Lib.hid (awake_any w)
  obtain ⟨hns, hn0, -⟩ := nam_plain hnm
  have hd0 : ¬ tl d = [] := by intro e; rw [← tl_len, e] at h0; exact absurd h0 (by decide)
  have HN := Lib.hid (fun w1 => Name_any n w1 (by unfold maxLen; omega))
  rw [hnm] at HN
  have HJ := Lib.hid (fun w1 => join_any d n w1 (by omega) (by omega))
  rw [join_eq hd0 hl] at HJ
  obtain ⟨P, hP⟩ : ∃ P, bA (tl d ++ 47 :: tl n) = P := ⟨_, rfl⟩
  have htP : tl P = tl d ++ 47 :: tl n := by rw [← hP, tl_bA]
  rw [hP] at HJ
  have hPz : P.size = d.size + n.size + 1 := by rw [← tl_len, htP, List.length_append, List.length_cons, tl_len, tl_len]; omega
  have HS1 := Lib.hid (fun w1 => split_any P w1 (by omega))
  have HS2 := Lib.hid (fun w1 => split_any d w1 (by omega))
  have HBs := Lib.hid (fun w1 => base_any P w1 (by omega))
  have HUp := Lib.hid (fun w1 => up_any P w1 (by omega))
  have hlen : (bAs (splitP (tl P))).length = (bAs (splitP (tl d))).length + 1 := by rw [bAs_len, bAs_len, htP, join_split hl hns hn0]
  have hsl : (bAs (splitP (tl d))).length ≤ 1000 := by
    have h1 := nms_len (tl d)
    rw [tl_len] at h1
    rw [bAs_len, splitP]
    split
    · rw [List.length_append]; simp; omega
    · omega
  rw [htP, join_base hns hn0, bA_tl] at HBs
  rw [htP, join_up hd0 hl hns hn0, bA_tl] at HUp
  generalize bAs (splitP (tl P)) = L1 at HS1 hlen
  generalize bAs (splitP (tl d)) = L2 at HS2 hlen hsl
  generalize absP (tl P) = a1 at HS1
  generalize absP (tl d) = a2 at HS2
  obtain ⟨m, hm⟩ : ∃ m, d.size = m + 1 := ⟨d.size - 1, by omega⟩
  have hml : m < d.size := by omega
  have hla := last_at hm hml
  obtain ⟨b, hb⟩ : ∃ b, d[m] = b := ⟨_, rfl⟩
  rw [hb] at hla
  have hbl : ¬ b = 47 := by intro e; rw [e] at hla; exact hl hla
  have hqb : ((b.toNat : Int) == 47) = false := co_ne (a := b) (b := 47) hbl
  have hi : ((d.size : Int) - 1) = (m : Int) := by omega
  have g1 : ¬ (100 : Int) < (d.size : Int) := by omega
  have g2 : ¬ (100 : Int) < (n.size : Int) := by omega
  have g3 : ((d.size : Int) == 0) = false := by rw [beq_eq_false_iff_ne]; omega
  have q1 : (n.toList == n.toList) = true := by simp
  have q2 : (d.toList == d.toList) = true := by simp
  have q3 : ((L1.length : Int) == (L2.length : Int) + 1) = true := by rw [beq_iff_eq]; omega
  have q4 : ((P.size : Int) == (d.size : Int) + (n.size : Int) + 1) = true := by rw [beq_iff_eq]; omega
  have hL1 : L1.length ≤ 1001 := by omega
  have HM := Lib.hid hm
  have HZ := Lib.hid hPz
  have HL := Lib.hid hlen
  have hPz' : P.size ≤ 300 := by omega
  clear hla hbl hl hd0 hns hn0 hnm htP hP hPz hlen hm
  go_enter Try.func5, Try.ntmps5
  go_wp2_with fail
  refine HA.out.mono ?_
  rintro e w1 ⟨rfl, hb1⟩
  have HB1 := Lib.hid hb1
  clear hb1
  go_wp2_with fail
  refine (HN.out _).mono ?_
  rintro e w2 ⟨rfl, rfl⟩
  go_wp2_with fail
  refine (HJ.out _).mono ?_
  rintro e w3 ⟨rfl, hb3⟩
  have HB3 := Lib.hid (bt hb3 HB1.out)
  clear hb3
  go_wp2_with fail
  refine (HS1.out _).mono ?_
  rintro e w4 ⟨v4, rfl, hr, hb4⟩
  obtain ⟨A4, c4, rfl⟩ := strs_form hr rfl
  have HB4 := Lib.hid (bt hb4 HB3.out)
  clear hb4 hr
  go_wp2_with fail
  refine (HS2.out _).mono ?_
  rintro e w5 ⟨v5, rfl, hr, hb5⟩
  obtain ⟨A5, c5, rfl⟩ := strs_form hr rfl
  have HB5 := Lib.hid (bt hb5 HB4.out)
  clear hb5 hr
  go_wp2_with fail
  refine (HBs.out _).mono ?_
  rintro e w6 ⟨rfl, hb6⟩
  have HB6 := Lib.hid (bt hb6 HB5.out)
  clear hb6
  go_wp2_with fail
  refine (HUp.out _).mono ?_
  rintro e w7 ⟨rfl, hb7⟩
  have HB7 := Lib.hid (bt hb7 HB6.out)
  clear hb7
  go_wp2
  go_ret
  exact ⟨rfl, HB7.out⟩
set_option maxRecDepth 100000 in
set_option maxHeartbeats 8000000 in
theorem joinWalk (d n : ByteArray) (w : World) (hd : d.size ≤ maxLen) (hn : n.size ≤ maxLen) :
    Calls Try.prog 5 #[.string d, .string n] w fun e w' => e = .returned (.bool true) ∧ Below w.heap.size w w' := by
  have HA := Lib.hid (awake_any w)
  have hd' : d.size ≤ 9223372036854775807 := by unfold maxLen at hd; omega
  have hn' : n.size ≤ 9223372036854775807 := by unfold maxLen at hn; omega
  by_cases h1 : 100 < d.size
  · have g1 : (100 : Int) < (d.size : Int) := by omega
    go_enter Try.func5, Try.ntmps5
    go_wp2_with fail
    refine HA.out.mono ?_
    rintro e w1 ⟨rfl, hb⟩
    have HB1 := Lib.hid hb
    clear hb
    go_wp2
    go_ret
    exact ⟨rfl, HB1.out⟩
  have g1 : ¬ (100 : Int) < (d.size : Int) := by omega
  by_cases h2 : 100 < n.size
  · have g2 : (100 : Int) < (n.size : Int) := by omega
    go_enter Try.func5, Try.ntmps5
    go_wp2_with fail
    refine HA.out.mono ?_
    rintro e w1 ⟨rfl, hb⟩
    have HB1 := Lib.hid hb
    clear hb
    go_wp2
    go_ret
    exact ⟨rfl, HB1.out⟩
  have g2 : ¬ (100 : Int) < (n.size : Int) := by omega
  by_cases h3 : 0 < d.size
  · obtain ⟨m, hm⟩ : ∃ m, d.size = m + 1 := ⟨d.size - 1, by omega⟩
    have hml : m < d.size := by omega
    have hla := last_at hm hml
    obtain ⟨b, hb⟩ : ∃ b, d[m] = b := ⟨_, rfl⟩
    rw [hb] at hla
    have g3 : ((d.size : Int) == 0) = false := by rw [beq_eq_false_iff_ne]; omega
    have hi : ((d.size : Int) - 1) = (m : Int) := by omega
    by_cases hl : b = 47
    · subst hl
      clear hla
      go_enter Try.func5, Try.ntmps5
      go_wp2_with fail
      refine HA.out.mono ?_
      rintro e w1 ⟨rfl, hb⟩
      have HB1 := Lib.hid hb
      clear hb
      go_wp2
      go_ret
      exact ⟨rfl, HB1.out⟩
    · have hll : ¬ (tl d).getLast? = some 47 := by rw [hla]; intro e; injection e with e; exact hl e
      cases hnm : namB n with
      | true => exact joinLaw_in d n w (by omega) (by omega) h3 hll hnm
      | false =>
        have HN := Lib.hid (fun w1 => Name_any n w1 hn)
        rw [hnm] at HN
        have hqb : ((b.toNat : Int) == 47) = false := co_ne (a := b) (b := 47) hl
        have HM := Lib.hid hm
        clear hla hll hl hnm hm
        go_enter Try.func5, Try.ntmps5
        go_wp2_with fail
        refine HA.out.mono ?_
        rintro e w1 ⟨rfl, hb⟩
        have HB1 := Lib.hid hb
        clear hb
        go_wp2_with fail
        refine (HN.out _).mono ?_
        rintro e w2 ⟨rfl, rfl⟩
        go_wp2
        go_ret
        exact ⟨rfl, HB1.out⟩
  · have g3 : ((d.size : Int) == 0) = true := by rw [beq_iff_eq]; omega
    go_enter Try.func5, Try.ntmps5
    go_wp2_with fail
    refine HA.out.mono ?_
    rintro e w1 ⟨rfl, hb⟩
    have HB1 := Lib.hid hb
    clear hb
    go_wp2
    go_ret
    exact ⟨rfl, HB1.out⟩
end Go.Proofs.Ythledmbdlengiaa
