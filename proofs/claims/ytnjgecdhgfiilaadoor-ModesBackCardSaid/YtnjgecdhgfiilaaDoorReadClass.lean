/-
  What modes.readClass answers of three signs, whatever they are, under the condition that the package's table of signs holds what its initialiser lays.
-/
import Derived.Test.YtnjgecdhgfiilaaDoorShow
namespace Go.Proofs.YtnjgecdhgfiilaaDoor
open Go Go.RowKit

/-- The place of a sign among those of the third place of a class; -1: it is none. -/
def ix (k : Int) (c : UInt8) : Int := if k = 2 then Lib.indexByte [45, 120, 84, 116] c else Lib.indexByte [45, 120, 83, 115] c
theorem ix_four (l : List UInt8) (hl : l.length = 4) (c : UInt8) : Lib.indexByte l c = -1 ∨ Lib.indexByte l c = 0 ∨ Lib.indexByte l c = 1 ∨ Lib.indexByte l c = 2 ∨ Lib.indexByte l c = 3 := by
  match l, hl with
  | [a, b, d, f], _ =>
    simp only [Lib.indexByte]
    by_cases h1 : (a == c) = true
    · simp [h1]
    · by_cases h2 : (b == c) = true
      · simp [h1, h2]
      · by_cases h3 : (d == c) = true
        · simp [h1, h2, h3]
        · by_cases h4 : (f == c) = true
          · simp [h1, h2, h3, h4]
          · simp [h1, h2, h3, h4]
/-- The bits that three signs of a class stand for. -/
def rcl (k : Int) (a b c : UInt8) : Int :=
  if ix k c = -1 then wit 0 k ((if a = 114 then 4 else 0) + (if b = 119 then 2 else 0))
  else wit ((if k = 0 then 2048 else if k = 1 then 1024 else 512) * (ix k c / 2)) k ((if a = 114 then 4 else 0) + (if b = 119 then 2 else 0) + ix k c % 2)

theorem byte_eq (a c : UInt8) (n : Int) (hn : (c.toNat : Int) = n) (h : a = c) : ((a.toNat : Int) == n) = true := by rw [h, hn]; simp
theorem byte_ne (a c : UInt8) (n : Int) (hn : (c.toNat : Int) = n) (h : ¬ a = c) : ((a.toNat : Int) == n) = false := by
  rw [beq_eq_false_iff_ne]
  intro e
  apply h
  apply UInt8.toNat_inj.1
  omega
theorem byte_eq' (a c : UInt8) (n : Int) (hn : (c.toNat : Int) = n) (h : a = c) : ((a.toNat : Int) != n) = false := by simp [bne, byte_eq a c n hn h]
theorem byte_ne' (a c : UInt8) (n : Int) (hn : (c.toNat : Int) = n) (h : ¬ a = c) : ((a.toNat : Int) != n) = true := by simp [bne, byte_ne a c n hn h]

set_option maxHeartbeats 4000000 in
theorem readClass0 (s : ByteArray) (w : World) (hs : 3 ≤ s.size) (hS : SignsAt w) : Calls Tryd.prog 27 #[.string s, .int .i64 0] w fun e w' => e = .returned (.int .i64 (rcl 0 (s[0]'(by omega)) (s[1]'(by omega)) (s[2]'(by omega)))) ∧ ∃ n, w' = w.drewN n := by
  have h0 : 0 < s.size := by omega
  have h1 : 1 < s.size := by omega
  have h2 : 2 < s.size := by omega
  have i0 : (0 : Int) < s.size := by omega
  have i1 : (1 : Int) < s.size := by omega
  have i2 : (2 : Int) < s.size := by omega
  have hl := hS.2.1
  clear hS
  by_cases ha : s[0] = 114 <;> by_cases hb : s[1] = 119 <;> rcases ix_four [45, 120, 83, 115] rfl s[2] with hj | hj | hj | hj | hj
  all_goals
    have A : ((s[0].toNat : Int) == 114) = decide (s[0] = 114) := by first | (rw [byte_eq s[0] 114 114 rfl ha]; simp [ha]) | (rw [byte_ne s[0] 114 114 rfl ha]; simp [ha])
    have B : ((s[1].toNat : Int) == 119) = decide (s[1] = 119) := by first | (rw [byte_eq s[1] 119 119 rfl hb]; simp [hb]) | (rw [byte_ne s[1] 119 119 rfl hb]; simp [hb])
    first | rw [decide_eq_true ha] at A | rw [decide_eq_false ha] at A
    first | rw [decide_eq_true hb] at B | rw [decide_eq_false hb] at B
    have HA := Lib.hid ha
    have HB := Lib.hid hb
    have HJ := Lib.hid hj
    obtain ⟨V, hV⟩ : ∃ V, rcl 0 s[0] s[1] s[2] = V := ⟨_, rfl⟩
    rw [hV]
    have HV := Lib.hid hV
    have hj2 : Lib.indexByte [45, 120, 83, 115] (((s[2].toNat : Int)).toNat.toUInt8) = Lib.indexByte [45, 120, 83, 115] s[2] := by simp
    rw [hj] at hj2
    have HJ2 := Lib.hid hj2
    clear hV ha hb hj hj2
    go_enter Tryd.func27, Tryd.ntmps27
    go_wp2
    go_quiet ((go_at_call 26; refine Calls.quiet_of_same ((index_byte _ _ _).mono fun _ _ h => ⟨h.1, h.2.symm⟩)))
    have hj3 := HJ2.out
    simp only [hj3]
    clear hj3
    go_wp2_with (first | (go_at_call 32; refine (ownBit0 _).mono ?_; rintro e w' ⟨rfl, rfl⟩) | (go_at_call 19; refine (with_any _ _ _ _).mono ?_; rintro e w' ⟨rfl, n, rfl⟩))
    go_ret
    refine ⟨ret_int ?_, _, rfl⟩
    have ha := HA.out
    have hb := HB.out
    have hj := HJ.out
    rw [← HV.out]
    simp only [rcl, ix, ha, hb, hj, ↓reduceIte, Int.reduceNeg, Int.reduceEq]
    decide
set_option maxHeartbeats 4000000 in
theorem readClass1 (s : ByteArray) (w : World) (hs : 3 ≤ s.size) (hS : SignsAt w) : Calls Tryd.prog 27 #[.string s, .int .i64 1] w fun e w' => e = .returned (.int .i64 (rcl 1 (s[0]'(by omega)) (s[1]'(by omega)) (s[2]'(by omega)))) ∧ ∃ n, w' = w.drewN n := by
  have h0 : 0 < s.size := by omega
  have h1 : 1 < s.size := by omega
  have h2 : 2 < s.size := by omega
  have i0 : (0 : Int) < s.size := by omega
  have i1 : (1 : Int) < s.size := by omega
  have i2 : (2 : Int) < s.size := by omega
  have hl := hS.2.2.1
  clear hS
  by_cases ha : s[0] = 114 <;> by_cases hb : s[1] = 119 <;> rcases ix_four [45, 120, 83, 115] rfl s[2] with hj | hj | hj | hj | hj
  all_goals
    have A : ((s[0].toNat : Int) == 114) = decide (s[0] = 114) := by first | (rw [byte_eq s[0] 114 114 rfl ha]; simp [ha]) | (rw [byte_ne s[0] 114 114 rfl ha]; simp [ha])
    have B : ((s[1].toNat : Int) == 119) = decide (s[1] = 119) := by first | (rw [byte_eq s[1] 119 119 rfl hb]; simp [hb]) | (rw [byte_ne s[1] 119 119 rfl hb]; simp [hb])
    first | rw [decide_eq_true ha] at A | rw [decide_eq_false ha] at A
    first | rw [decide_eq_true hb] at B | rw [decide_eq_false hb] at B
    have HA := Lib.hid ha
    have HB := Lib.hid hb
    have HJ := Lib.hid hj
    obtain ⟨V, hV⟩ : ∃ V, rcl 1 s[0] s[1] s[2] = V := ⟨_, rfl⟩
    rw [hV]
    have HV := Lib.hid hV
    have hj2 : Lib.indexByte [45, 120, 83, 115] (((s[2].toNat : Int)).toNat.toUInt8) = Lib.indexByte [45, 120, 83, 115] s[2] := by simp
    rw [hj] at hj2
    have HJ2 := Lib.hid hj2
    clear hV ha hb hj hj2
    go_enter Tryd.func27, Tryd.ntmps27
    go_wp2
    go_quiet ((go_at_call 26; refine Calls.quiet_of_same ((index_byte _ _ _).mono fun _ _ h => ⟨h.1, h.2.symm⟩)))
    have hj3 := HJ2.out
    simp only [hj3]
    clear hj3
    go_wp2_with (first | (go_at_call 32; refine (ownBit1 _).mono ?_; rintro e w' ⟨rfl, rfl⟩) | (go_at_call 19; refine (with_any _ _ _ _).mono ?_; rintro e w' ⟨rfl, n, rfl⟩))
    go_ret
    refine ⟨ret_int ?_, _, rfl⟩
    have ha := HA.out
    have hb := HB.out
    have hj := HJ.out
    rw [← HV.out]
    simp only [rcl, ix, ha, hb, hj, ↓reduceIte, Int.reduceNeg, Int.reduceEq]
    decide
set_option maxHeartbeats 4000000 in
theorem readClass2 (s : ByteArray) (w : World) (hs : 3 ≤ s.size) (hS : SignsAt w) : Calls Tryd.prog 27 #[.string s, .int .i64 2] w fun e w' => e = .returned (.int .i64 (rcl 2 (s[0]'(by omega)) (s[1]'(by omega)) (s[2]'(by omega)))) ∧ ∃ n, w' = w.drewN n := by
  have h0 : 0 < s.size := by omega
  have h1 : 1 < s.size := by omega
  have h2 : 2 < s.size := by omega
  have i0 : (0 : Int) < s.size := by omega
  have i1 : (1 : Int) < s.size := by omega
  have i2 : (2 : Int) < s.size := by omega
  have hl := hS.2.2.2
  clear hS
  by_cases ha : s[0] = 114 <;> by_cases hb : s[1] = 119 <;> rcases ix_four [45, 120, 84, 116] rfl s[2] with hj | hj | hj | hj | hj
  all_goals
    have A : ((s[0].toNat : Int) == 114) = decide (s[0] = 114) := by first | (rw [byte_eq s[0] 114 114 rfl ha]; simp [ha]) | (rw [byte_ne s[0] 114 114 rfl ha]; simp [ha])
    have B : ((s[1].toNat : Int) == 119) = decide (s[1] = 119) := by first | (rw [byte_eq s[1] 119 119 rfl hb]; simp [hb]) | (rw [byte_ne s[1] 119 119 rfl hb]; simp [hb])
    first | rw [decide_eq_true ha] at A | rw [decide_eq_false ha] at A
    first | rw [decide_eq_true hb] at B | rw [decide_eq_false hb] at B
    have HA := Lib.hid ha
    have HB := Lib.hid hb
    have HJ := Lib.hid hj
    obtain ⟨V, hV⟩ : ∃ V, rcl 2 s[0] s[1] s[2] = V := ⟨_, rfl⟩
    rw [hV]
    have HV := Lib.hid hV
    have hj2 : Lib.indexByte [45, 120, 84, 116] (((s[2].toNat : Int)).toNat.toUInt8) = Lib.indexByte [45, 120, 84, 116] s[2] := by simp
    rw [hj] at hj2
    have HJ2 := Lib.hid hj2
    clear hV ha hb hj hj2
    go_enter Tryd.func27, Tryd.ntmps27
    go_wp2
    go_quiet ((go_at_call 26; refine Calls.quiet_of_same ((index_byte _ _ _).mono fun _ _ h => ⟨h.1, h.2.symm⟩)))
    have hj3 := HJ2.out
    simp only [hj3]
    clear hj3
    go_wp2_with (first | (go_at_call 32; refine (ownBit2 _).mono ?_; rintro e w' ⟨rfl, rfl⟩) | (go_at_call 19; refine (with_any _ _ _ _).mono ?_; rintro e w' ⟨rfl, n, rfl⟩))
    go_ret
    refine ⟨ret_int ?_, _, rfl⟩
    have ha := HA.out
    have hb := HB.out
    have hj := HJ.out
    rw [← HV.out]
    simp only [rcl, ix, ha, hb, hj, ↓reduceIte, Int.reduceNeg, Int.reduceEq]
    decide
theorem readClass_any (k : Int) (s : ByteArray) (w : World) (h0 : 0 ≤ k) (h1 : k < 3) (hs : 3 ≤ s.size) (hS : SignsAt w) : Calls Tryd.prog 27 #[.string s, .int .i64 k] w fun e w' => e = .returned (.int .i64 (rcl k (s[0]'(by omega)) (s[1]'(by omega)) (s[2]'(by omega)))) ∧ ∃ n, w' = w.drewN n := by
  obtain rfl | rfl | rfl : k = 0 ∨ k = 1 ∨ k = 2 := by omega
  · exact readClass0 s w hs hS
  · exact readClass1 s w hs hS
  · exact readClass2 s w hs hS
end Go.Proofs.YtnjgecdhgfiilaaDoor
