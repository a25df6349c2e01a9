/-
  The walk of the law OwnerParse: of any text it answers true, under the condition that strconv's table of powers holds what its initialiser lays.
-/
import Derived.Test.YtkbdlmmpeieaeaaDoorAwake
namespace Go.Proofs.YtkbdlmmpeieaeaaDoor
open Go Go.RowKit

theorem max_neg {n : Int} (h : n < 0) (ts : Array TypeId) (t : TypeId) (w : World) : (Builtin.max_ ts t #[.int .i64 n, .int .i64 0]).run Tryd.prog w = .ok (.int .i64 0) w := by
  rw [run_max_int2, if_pos h]
theorem max_pos {n : Int} (h : ¬ n < 0) (ts : Array TypeId) (t : TypeId) (w : World) : (Builtin.max_ ts t #[.int .i64 n, .int .i64 0]).run Tryd.prog w = .ok (.int .i64 n) w := by
  rw [run_max_int2, if_neg h]
theorem parseLaw_long (s : ByteArray) (w : World) (hs : ¬ s.size ≤ 100) (hT : Tb w) : Calls Tryd.prog 3 #[.string s] w fun e w' => e = .returned (.bool true) ∧ Below w.heap.size w w' := by
  have HA := Lib.hid (awake_any w hT)
  have h1 : (100 : Int) < s.size := by omega
  clear hT hs
  go_enter Tryd.func3, Tryd.ntmps3
  go_wp2_with fail
  refine HA.out.mono ?_
  rintro e w1 ⟨rfl, hb⟩
  have HB1 := Lib.hid hb
  clear hb
  go_wp2
  go_ret
  exact ⟨rfl, HB1.out⟩
set_option maxRecDepth 100000 in
set_option maxHeartbeats 8000000 in
theorem parseLaw_short (s : ByteArray) (w : World) (hs : s.size ≤ 100) (hT : Tb w) : Calls Tryd.prog 3 #[.string s] w fun e w' => e = .returned (.bool true) ∧ Below w.heap.size w w' := by
  have HA := Lib.hid (awake_any w hT)
  have HP := Lib.hid (fun w => parse_any s w (by omega))
  have HRP := Lib.hid (fun w => rparse_any s w (by omega))
  have HU := Lib.hid (fun w => user_any s w (by omega))
  have HG := Lib.hid (fun w => group_any s w (by omega))
  have HRU := Lib.hid (fun w => ruser_any s w (by omega))
  have HRG := Lib.hid (fun w => rgroup_any s w (by omega))
  have h1 : ¬ (100 : Int) < s.size := by omega
  clear hT hs
  generalize par s.data.toList = Q at HP HRP
  generalize idn root ann bob cat s.data.toList = U at HU HRU
  generalize idn wheel staff ops lab s.data.toList = G at HG HRG
  obtain ⟨x, y, b⟩ := Q
  simp only at HP HRP
  cases b with
  | true =>
    rw [show pE true = 0 from rfl] at HP
    by_cases hu : U < 0
    · rw [okN, okE, if_pos hu, if_pos hu] at HU
      have hmu := max_neg hu
      have hpu : decide (0 ≤ U) = false := by simpa using hu
      have hqu : decide (U < 0) = true := by simpa using hu
      by_cases hg : G < 0
      · rw [okN, okE, if_pos hg, if_pos hg] at HG
        have hmg := max_neg hg
        have hpg : decide (0 ≤ G) = false := by simpa using hg
        have hqg : decide (G < 0) = true := by simpa using hg
        go_enter Tryd.func3, Tryd.ntmps3
        go_wp2_with fail
        refine HA.out.mono ?_
        rintro e w1 ⟨rfl, hb⟩
        have HB1 := Lib.hid (hb)
        clear hb
        go_wp2_with fail
        refine (HP.out _).mono ?_
        rintro e w2 ⟨rfl, hb⟩
        have HB2 := Lib.hid (bt hb HB1.out)
        clear hb
        go_wp2_with fail
        refine (HRP.out _).mono ?_
        rintro e w3 ⟨rfl, hb⟩
        have HB3 := Lib.hid (bt hb HB2.out)
        clear hb
        go_wp2_with fail
        refine (HU.out _).mono ?_
        rintro e w4 ⟨rfl, hb⟩
        have HB4 := Lib.hid (bt hb HB3.out)
        clear hb
        go_wp2_with fail
        refine (HG.out _).mono ?_
        rintro e w5 ⟨rfl, hb⟩
        have HB5 := Lib.hid (bt hb HB4.out)
        clear hb
        go_wp2_with fail
        refine (HRU.out _).mono ?_
        rintro e w6 ⟨rfl, rfl⟩
        go_wp2_with fail
        refine (HRG.out _).mono ?_
        rintro e w7 ⟨rfl, rfl⟩
        go_wp2
        go_ret
        exact ⟨ret_bool (by simp), HB5.out⟩
      · rw [okN, okE, if_neg hg, if_neg hg] at HG
        have hmg := max_pos hg
        have hpg : decide (0 ≤ G) = true := by simpa using hg
        have hqg : decide (G < 0) = false := by simpa using hg
        go_enter Tryd.func3, Tryd.ntmps3
        go_wp2_with fail
        refine HA.out.mono ?_
        rintro e w1 ⟨rfl, hb⟩
        have HB1 := Lib.hid (hb)
        clear hb
        go_wp2_with fail
        refine (HP.out _).mono ?_
        rintro e w2 ⟨rfl, hb⟩
        have HB2 := Lib.hid (bt hb HB1.out)
        clear hb
        go_wp2_with fail
        refine (HRP.out _).mono ?_
        rintro e w3 ⟨rfl, hb⟩
        have HB3 := Lib.hid (bt hb HB2.out)
        clear hb
        go_wp2_with fail
        refine (HU.out _).mono ?_
        rintro e w4 ⟨rfl, hb⟩
        have HB4 := Lib.hid (bt hb HB3.out)
        clear hb
        go_wp2_with fail
        refine (HG.out _).mono ?_
        rintro e w5 ⟨rfl, hb⟩
        have HB5 := Lib.hid (bt hb HB4.out)
        clear hb
        go_wp2_with fail
        refine (HRU.out _).mono ?_
        rintro e w6 ⟨rfl, rfl⟩
        go_wp2_with fail
        refine (HRG.out _).mono ?_
        rintro e w7 ⟨rfl, rfl⟩
        go_wp2
        go_ret
        exact ⟨ret_bool (by simp), HB5.out⟩
    · rw [okN, okE, if_neg hu, if_neg hu] at HU
      have hmu := max_pos hu
      have hpu : decide (0 ≤ U) = true := by simpa using hu
      have hqu : decide (U < 0) = false := by simpa using hu
      by_cases hg : G < 0
      · rw [okN, okE, if_pos hg, if_pos hg] at HG
        have hmg := max_neg hg
        have hpg : decide (0 ≤ G) = false := by simpa using hg
        have hqg : decide (G < 0) = true := by simpa using hg
        go_enter Tryd.func3, Tryd.ntmps3
        go_wp2_with fail
        refine HA.out.mono ?_
        rintro e w1 ⟨rfl, hb⟩
        have HB1 := Lib.hid (hb)
        clear hb
        go_wp2_with fail
        refine (HP.out _).mono ?_
        rintro e w2 ⟨rfl, hb⟩
        have HB2 := Lib.hid (bt hb HB1.out)
        clear hb
        go_wp2_with fail
        refine (HRP.out _).mono ?_
        rintro e w3 ⟨rfl, hb⟩
        have HB3 := Lib.hid (bt hb HB2.out)
        clear hb
        go_wp2_with fail
        refine (HU.out _).mono ?_
        rintro e w4 ⟨rfl, hb⟩
        have HB4 := Lib.hid (bt hb HB3.out)
        clear hb
        go_wp2_with fail
        refine (HG.out _).mono ?_
        rintro e w5 ⟨rfl, hb⟩
        have HB5 := Lib.hid (bt hb HB4.out)
        clear hb
        go_wp2_with fail
        refine (HRU.out _).mono ?_
        rintro e w6 ⟨rfl, rfl⟩
        go_wp2_with fail
        refine (HRG.out _).mono ?_
        rintro e w7 ⟨rfl, rfl⟩
        go_wp2
        go_ret
        exact ⟨ret_bool (by simp), HB5.out⟩
      · rw [okN, okE, if_neg hg, if_neg hg] at HG
        have hmg := max_pos hg
        have hpg : decide (0 ≤ G) = true := by simpa using hg
        have hqg : decide (G < 0) = false := by simpa using hg
        go_enter Tryd.func3, Tryd.ntmps3
        go_wp2_with fail
        refine HA.out.mono ?_
        rintro e w1 ⟨rfl, hb⟩
        have HB1 := Lib.hid (hb)
        clear hb
        go_wp2_with fail
        refine (HP.out _).mono ?_
        rintro e w2 ⟨rfl, hb⟩
        have HB2 := Lib.hid (bt hb HB1.out)
        clear hb
        go_wp2_with fail
        refine (HRP.out _).mono ?_
        rintro e w3 ⟨rfl, hb⟩
        have HB3 := Lib.hid (bt hb HB2.out)
        clear hb
        go_wp2_with fail
        refine (HU.out _).mono ?_
        rintro e w4 ⟨rfl, hb⟩
        have HB4 := Lib.hid (bt hb HB3.out)
        clear hb
        go_wp2_with fail
        refine (HG.out _).mono ?_
        rintro e w5 ⟨rfl, hb⟩
        have HB5 := Lib.hid (bt hb HB4.out)
        clear hb
        go_wp2_with fail
        refine (HRU.out _).mono ?_
        rintro e w6 ⟨rfl, rfl⟩
        go_wp2_with fail
        refine (HRG.out _).mono ?_
        rintro e w7 ⟨rfl, rfl⟩
        go_wp2
        go_ret
        exact ⟨ret_bool (by simp), HB5.out⟩
  | false =>
    rw [show pE false = 22 from rfl] at HP
    by_cases hu : U < 0
    · rw [okN, okE, if_pos hu, if_pos hu] at HU
      have hmu := max_neg hu
      have hpu : decide (0 ≤ U) = false := by simpa using hu
      have hqu : decide (U < 0) = true := by simpa using hu
      by_cases hg : G < 0
      · rw [okN, okE, if_pos hg, if_pos hg] at HG
        have hmg := max_neg hg
        have hpg : decide (0 ≤ G) = false := by simpa using hg
        have hqg : decide (G < 0) = true := by simpa using hg
        go_enter Tryd.func3, Tryd.ntmps3
        go_wp2_with fail
        refine HA.out.mono ?_
        rintro e w1 ⟨rfl, hb⟩
        have HB1 := Lib.hid (hb)
        clear hb
        go_wp2_with fail
        refine (HP.out _).mono ?_
        rintro e w2 ⟨rfl, hb⟩
        have HB2 := Lib.hid (bt hb HB1.out)
        clear hb
        go_wp2_with fail
        refine (HRP.out _).mono ?_
        rintro e w3 ⟨rfl, hb⟩
        have HB3 := Lib.hid (bt hb HB2.out)
        clear hb
        go_wp2_with fail
        refine (HU.out _).mono ?_
        rintro e w4 ⟨rfl, hb⟩
        have HB4 := Lib.hid (bt hb HB3.out)
        clear hb
        go_wp2_with fail
        refine (HG.out _).mono ?_
        rintro e w5 ⟨rfl, hb⟩
        have HB5 := Lib.hid (bt hb HB4.out)
        clear hb
        go_wp2_with fail
        refine (HRU.out _).mono ?_
        rintro e w6 ⟨rfl, rfl⟩
        go_wp2_with fail
        refine (HRG.out _).mono ?_
        rintro e w7 ⟨rfl, rfl⟩
        go_wp2
        go_ret
        exact ⟨ret_bool (by simp), HB5.out⟩
      · rw [okN, okE, if_neg hg, if_neg hg] at HG
        have hmg := max_pos hg
        have hpg : decide (0 ≤ G) = true := by simpa using hg
        have hqg : decide (G < 0) = false := by simpa using hg
        go_enter Tryd.func3, Tryd.ntmps3
        go_wp2_with fail
        refine HA.out.mono ?_
        rintro e w1 ⟨rfl, hb⟩
        have HB1 := Lib.hid (hb)
        clear hb
        go_wp2_with fail
        refine (HP.out _).mono ?_
        rintro e w2 ⟨rfl, hb⟩
        have HB2 := Lib.hid (bt hb HB1.out)
        clear hb
        go_wp2_with fail
        refine (HRP.out _).mono ?_
        rintro e w3 ⟨rfl, hb⟩
        have HB3 := Lib.hid (bt hb HB2.out)
        clear hb
        go_wp2_with fail
        refine (HU.out _).mono ?_
        rintro e w4 ⟨rfl, hb⟩
        have HB4 := Lib.hid (bt hb HB3.out)
        clear hb
        go_wp2_with fail
        refine (HG.out _).mono ?_
        rintro e w5 ⟨rfl, hb⟩
        have HB5 := Lib.hid (bt hb HB4.out)
        clear hb
        go_wp2_with fail
        refine (HRU.out _).mono ?_
        rintro e w6 ⟨rfl, rfl⟩
        go_wp2_with fail
        refine (HRG.out _).mono ?_
        rintro e w7 ⟨rfl, rfl⟩
        go_wp2
        go_ret
        exact ⟨ret_bool (by simp), HB5.out⟩
    · rw [okN, okE, if_neg hu, if_neg hu] at HU
      have hmu := max_pos hu
      have hpu : decide (0 ≤ U) = true := by simpa using hu
      have hqu : decide (U < 0) = false := by simpa using hu
      by_cases hg : G < 0
      · rw [okN, okE, if_pos hg, if_pos hg] at HG
        have hmg := max_neg hg
        have hpg : decide (0 ≤ G) = false := by simpa using hg
        have hqg : decide (G < 0) = true := by simpa using hg
        go_enter Tryd.func3, Tryd.ntmps3
        go_wp2_with fail
        refine HA.out.mono ?_
        rintro e w1 ⟨rfl, hb⟩
        have HB1 := Lib.hid (hb)
        clear hb
        go_wp2_with fail
        refine (HP.out _).mono ?_
        rintro e w2 ⟨rfl, hb⟩
        have HB2 := Lib.hid (bt hb HB1.out)
        clear hb
        go_wp2_with fail
        refine (HRP.out _).mono ?_
        rintro e w3 ⟨rfl, hb⟩
        have HB3 := Lib.hid (bt hb HB2.out)
        clear hb
        go_wp2_with fail
        refine (HU.out _).mono ?_
        rintro e w4 ⟨rfl, hb⟩
        have HB4 := Lib.hid (bt hb HB3.out)
        clear hb
        go_wp2_with fail
        refine (HG.out _).mono ?_
        rintro e w5 ⟨rfl, hb⟩
        have HB5 := Lib.hid (bt hb HB4.out)
        clear hb
        go_wp2_with fail
        refine (HRU.out _).mono ?_
        rintro e w6 ⟨rfl, rfl⟩
        go_wp2_with fail
        refine (HRG.out _).mono ?_
        rintro e w7 ⟨rfl, rfl⟩
        go_wp2
        go_ret
        exact ⟨ret_bool (by simp), HB5.out⟩
      · rw [okN, okE, if_neg hg, if_neg hg] at HG
        have hmg := max_pos hg
        have hpg : decide (0 ≤ G) = true := by simpa using hg
        have hqg : decide (G < 0) = false := by simpa using hg
        go_enter Tryd.func3, Tryd.ntmps3
        go_wp2_with fail
        refine HA.out.mono ?_
        rintro e w1 ⟨rfl, hb⟩
        have HB1 := Lib.hid (hb)
        clear hb
        go_wp2_with fail
        refine (HP.out _).mono ?_
        rintro e w2 ⟨rfl, hb⟩
        have HB2 := Lib.hid (bt hb HB1.out)
        clear hb
        go_wp2_with fail
        refine (HRP.out _).mono ?_
        rintro e w3 ⟨rfl, hb⟩
        have HB3 := Lib.hid (bt hb HB2.out)
        clear hb
        go_wp2_with fail
        refine (HU.out _).mono ?_
        rintro e w4 ⟨rfl, hb⟩
        have HB4 := Lib.hid (bt hb HB3.out)
        clear hb
        go_wp2_with fail
        refine (HG.out _).mono ?_
        rintro e w5 ⟨rfl, hb⟩
        have HB5 := Lib.hid (bt hb HB4.out)
        clear hb
        go_wp2_with fail
        refine (HRU.out _).mono ?_
        rintro e w6 ⟨rfl, rfl⟩
        go_wp2_with fail
        refine (HRG.out _).mono ?_
        rintro e w7 ⟨rfl, rfl⟩
        go_wp2
        go_ret
        exact ⟨ret_bool (by simp), HB5.out⟩
theorem parseLaw (s : ByteArray) (w : World) (hT : Tb w) : Calls Tryd.prog 3 #[.string s] w fun e w' => e = .returned (.bool true) ∧ Below w.heap.size w w' := by
  by_cases h : s.size ≤ 100
  · exact parseLaw_short s w h hT
  · exact parseLaw_long s w h hT
end Go.Proofs.YtkbdlmmpeieaeaaDoor
