/-
  The walk of the law OwnerJoins: of any two texts it answers true, under the condition that strconv's table of powers holds what its initialiser lays.
-/
import Derived.Test.YtkbdlmmpeieaeaaDoorMath5
namespace Go.Proofs.YtkbdlmmpeieaeaaDoor
open Go Go.RowKit

theorem noc_col {l : List UInt8} (h : ¬ col l < l.length) : noc l = true := by
  unfold noc
  rw [List.all_eq_true]
  intro x hx
  cases hb : (x == 58) with
  | false => rfl
  | true => exact absurd (List.findIdx_lt_length_of_exists ⟨x, hx, hb⟩) h
theorem join_text (s t : ByteArray) : (s ++ ⟨#[58]⟩ ++ t).data.toList = s.data.toList ++ 58 :: t.data.toList := by
  simp only [ByteArray.data_append, Array.toList_append, List.append_assoc]
  rfl
theorem e58 {c : UInt8} (h : c = 58) : ((c.toNat : Int) == 58) = true := by rw [h]; rfl
theorem e58n {c : UInt8} (h : ¬ c = 58) : ((c.toNat : Int) == 58) = false := by
  have := b58n h
  rw [bne_iff_ne] at this
  exact beq_eq_false_iff_ne.2 this
theorem joins_long (s t : ByteArray) (w : World) (hT : Tb w) (h : 60 < s.size ∨ 60 < t.size ∨ s.size = 0) : Calls Tryd.prog 6 #[.string s, .string t] w fun e w' => e = .returned (.bool true) ∧ Below w.heap.size w w' := by
  have HA := Lib.hid (awake_any w hT)
  clear hT
  by_cases h1 : (60 : Int) < (s.size : Int)
  · have q1 : decide ((60 : Int) < (s.size : Int)) = true := by simpa using h1
    clear h h1
    go_enter Tryd.func6, Tryd.ntmps6
    go_wp2_with fail
    refine HA.out.mono ?_
    rintro e w1 ⟨rfl, hb⟩
    have HB1 := Lib.hid hb
    clear hb
    go_wp2
    go_ret
    exact ⟨rfl, HB1.out⟩
  · have q1 : decide ((60 : Int) < (s.size : Int)) = false := by simpa using h1
    by_cases h2 : (60 : Int) < (t.size : Int)
    · have q2 : decide ((60 : Int) < (t.size : Int)) = true := by simpa using h2
      clear h h1 h2
      go_enter Tryd.func6, Tryd.ntmps6
      go_wp2_with fail
      refine HA.out.mono ?_
      rintro e w1 ⟨rfl, hb⟩
      have HB1 := Lib.hid hb
      clear hb
      go_wp2
      go_ret
      exact ⟨rfl, HB1.out⟩
    · have q2 : decide ((60 : Int) < (t.size : Int)) = false := by simpa using h2
      have he : s.toList = [] := (empty_iff s).2 (by omega)
      have q3 : (s.toList == []) = true := by rw [he]; rfl
      have q4 : s.toList.isEmpty = true := by rw [he]; rfl
      clear h h1 h2
      go_enter Tryd.func6, Tryd.ntmps6
      go_wp2_with fail
      refine HA.out.mono ?_
      rintro e w1 ⟨rfl, hb⟩
      have HB1 := Lib.hid hb
      clear hb
      go_wp2
      go_ret
      exact ⟨rfl, HB1.out⟩
set_option maxHeartbeats 2000000 in
theorem joins_colon (s t : ByteArray) (w : World) (hT : Tb w) (hs : s.size ≤ 60) (ht : t.size ≤ 60) (h0 : 0 < s.size) (hc : col s.data.toList < s.size) : Calls Tryd.prog 6 #[.string s, .string t] w fun e w' => e = .returned (.bool true) ∧ Below w.heap.size w w' := by
  have HA := Lib.hid (awake_any w hT)
  clear hT
  have q1 : decide ((60 : Int) < (s.size : Int)) = false := by simp; omega
  have q2 : decide ((60 : Int) < (t.size : Int)) = false := by simp; omega
  have q3 : s.toList.isEmpty = false := empty_false (by omega)
  have q4 : ¬ s.toList = [] := fun e => by have := (empty_iff s).1 e; omega
  have HC := Lib.hid (fun (j : Nat) (h : j < s.size) (hj : j < col s.data.toList) => e58n (col_lt s j hj h))
  have HE := Lib.hid (fun (j : Nat) (h : j < s.size) (hj : j = col s.data.toList) => e58 (show s[j] = 58 by subst hj; exact col_at s h))
  generalize col s.data.toList = K at hc HC HE
  go_enter Tryd.func6, Tryd.ntmps6
  go_wp2_with fail
  refine HA.out.mono ?_
  rintro e w1 ⟨rfl, hb⟩
  have HB1 := Lib.hid hb
  clear hb
  go_wp2
  go_loopg [6] K (fun g i wr => ∃ k : Nat, i = .int .i64 k ∧ k ≤ K ∧ g = K - k ∧ Below w.heap.size w wr)
  case atStart => exact ⟨0, rfl, Nat.zero_le _, rfl, HB1.out⟩
  case round =>
    obtain ⟨k, rfl, hk, rfl, hB⟩ := hrel
    have HB := Lib.hid hB
    clear hB
    have hlt : k < s.size := by omega
    by_cases hkK : k < K
    · have hq := HC.out k hlt hkK
      go_wp2
      go_roundg (K - (k + 1))
      case measure => omega
      case rel => exact ⟨k + 1, by go_num, by omega, rfl, HB.out⟩
    · have hq := HE.out k hlt (by omega)
      go_wp2
      go_ret
      exact ⟨rfl, HB.out⟩
set_option maxRecDepth 100000 in
set_option maxHeartbeats 8000000 in
theorem joins_plain (s t : ByteArray) (w : World) (hT : Tb w) (hs : s.size ≤ 60) (ht : t.size ≤ 60) (h0 : 0 < s.size) (hc : ¬ col s.data.toList < s.size) : Calls Tryd.prog 6 #[.string s, .string t] w fun e w' => e = .returned (.bool true) ∧ Below w.heap.size w w' := by
  have HA := Lib.hid (awake_any w hT)
  clear hT
  have q1 : decide ((60 : Int) < (s.size : Int)) = false := by simp; omega
  have q2 : decide ((60 : Int) < (t.size : Int)) = false := by simp; omega
  have q3 : s.toList.isEmpty = false := empty_false (by omega)
  have q4 : ¬ s.toList = [] := fun e => by have := (empty_iff s).1 e; omega
  have hce : col s.data.toList = s.size := by have := col_le s.data.toList; rw [size_len] at this; omega
  have HC := Lib.hid (fun (j : Nat) (h : j < s.size) => e58n (col_lt s j (by omega) h))
  have hno : noc s.data.toList = true := noc_col (by rw [size_len]; exact hc)
  have z1 : (⟨#[58]⟩ : ByteArray).size ≤ 1 := Nat.le_refl 1
  have HU := Lib.hid (fun w => user_any s w (by omega))
  have HG := Lib.hid (fun w => group_any t w (by omega))
  have HP := Lib.hid (fun w => parse_any (s ++ ⟨#[58]⟩ ++ t) w (by rw [ByteArray.size_append, ByteArray.size_append]; omega))
  have HP2 := Lib.hid (fun w => parse_any s w (by omega))
  rw [join_text, par_join hno, size_len] at HP
  rw [par_noc hno] at HP2
  rw [show idn root ann bob cat s.data.toList = usr s.data.toList from rfl] at HU
  rw [show idn wheel staff ops lab t.data.toList = grp t.data.toList from rfl] at HG
  generalize usr s.data.toList = U at HU HP HP2
  generalize grp t.data.toList = G at HG HP
  clear hno hce hc
  go_enter Tryd.func6, Tryd.ntmps6
  go_wp2_with fail
  refine HA.out.mono ?_
  rintro e w1 ⟨rfl, hb⟩
  have HB1 := Lib.hid hb
  clear hb
  go_wp2
  go_loopg [6] s.size (fun g i wr => ∃ k : Nat, i = .int .i64 k ∧ k ≤ s.size ∧ g = s.size - k ∧ Below w.heap.size w wr)
  case atStart => exact ⟨0, rfl, Nat.zero_le _, rfl, HB1.out⟩
  case round =>
    obtain ⟨k, rfl, hk, rfl, hB⟩ := hrel
    have HB := Lib.hid hB
    clear hB
    by_cases hlt : k < s.size
    · have hq := HC.out k hlt
      go_wp2
      go_roundg (s.size - (k + 1))
      case measure => omega
      case rel => exact ⟨k + 1, by go_num, by omega, rfl, HB.out⟩
    · by_cases hu : U < 0
      · rw [okN, okE, if_pos hu, if_pos hu] at HU
        rw [parC, if_pos (.inr ⟨hu, h0⟩)] at HP
        rw [parN, if_pos hu] at HP2
        simp only [show pE false = 22 from rfl] at HP HP2
        clear hu
        generalize okN G = G1 at HG
        generalize okE G = G2 at HG
        go_wp2_with fail
        refine (HU.out _).mono ?_
        rintro e w2 ⟨rfl, hb⟩
        have HB2 := Lib.hid (bt hb HB.out)
        clear hb
        go_wp2_with fail
        refine (HG.out _).mono ?_
        rintro e w3 ⟨rfl, hb⟩
        have HB3 := Lib.hid (bt hb HB2.out)
        clear hb
        go_wp2_with fail
        refine (HP.out _).mono ?_
        rintro e w4 ⟨rfl, hb⟩
        have HB4 := Lib.hid (bt hb HB3.out)
        clear hb
        go_wp2_with fail
        refine (HP2.out _).mono ?_
        rintro e w5 ⟨rfl, hb⟩
        have HB5 := Lib.hid (bt hb HB4.out)
        clear hb
        go_wp2
        go_ret
        exact ⟨ret_bool (by simp), HB5.out⟩
      · rw [okN, okE, if_neg hu, if_neg hu] at HU
        rw [parN, if_neg hu] at HP2
        simp only [show pE true = 0 from rfl] at HP2
        by_cases hg : G < 0
        · rw [okN, okE, if_pos hg, if_pos hg] at HG
          rw [parC, if_pos (.inl hg)] at HP
          simp only [show pE false = 22 from rfl] at HP
          clear hu hg
          go_wp2_with fail
          refine (HU.out _).mono ?_
          rintro e w2 ⟨rfl, hb⟩
          have HB2 := Lib.hid (bt hb HB.out)
          clear hb
          go_wp2_with fail
          refine (HG.out _).mono ?_
          rintro e w3 ⟨rfl, hb⟩
          have HB3 := Lib.hid (bt hb HB2.out)
          clear hb
          go_wp2_with fail
          refine (HP.out _).mono ?_
          rintro e w4 ⟨rfl, hb⟩
          have HB4 := Lib.hid (bt hb HB3.out)
          clear hb
          go_wp2_with fail
          refine (HP2.out _).mono ?_
          rintro e w5 ⟨rfl, hb⟩
          have HB5 := Lib.hid (bt hb HB4.out)
          clear hb
          go_wp2
          go_ret
          exact ⟨ret_bool (by simp), HB5.out⟩
        · rw [okN, okE, if_neg hg, if_neg hg] at HG
          rw [parC, if_neg (by omega), if_neg (by omega)] at HP
          simp only [show pE true = 0 from rfl] at HP
          clear hu hg
          go_wp2_with fail
          refine (HU.out _).mono ?_
          rintro e w2 ⟨rfl, hb⟩
          have HB2 := Lib.hid (bt hb HB.out)
          clear hb
          go_wp2_with fail
          refine (HG.out _).mono ?_
          rintro e w3 ⟨rfl, hb⟩
          have HB3 := Lib.hid (bt hb HB2.out)
          clear hb
          go_wp2_with fail
          refine (HP.out _).mono ?_
          rintro e w4 ⟨rfl, hb⟩
          have HB4 := Lib.hid (bt hb HB3.out)
          clear hb
          go_wp2_with fail
          refine (HP2.out _).mono ?_
          rintro e w5 ⟨rfl, hb⟩
          have HB5 := Lib.hid (bt hb HB4.out)
          clear hb
          go_wp2
          go_ret
          exact ⟨ret_bool (by simp), HB5.out⟩
theorem joinsLaw (s t : ByteArray) (w : World) (hT : Tb w) : Calls Tryd.prog 6 #[.string s, .string t] w fun e w' => e = .returned (.bool true) ∧ Below w.heap.size w w' := by
  by_cases h : 60 < s.size ∨ 60 < t.size ∨ s.size = 0
  · exact joins_long s t w hT h
  · by_cases hc : col s.data.toList < s.size
    · exact joins_colon s t w hT (by omega) (by omega) (by omega) hc
    · exact joins_plain s t w hT (by omega) (by omega) (by omega) hc
end Go.Proofs.YtkbdlmmpeieaeaaDoor
