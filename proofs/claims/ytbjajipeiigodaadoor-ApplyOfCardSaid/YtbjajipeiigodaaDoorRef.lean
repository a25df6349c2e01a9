/-
  What the reference's Place, Pow and sum answer. The only condition is that texts and numbers are as short as the statements have them.
-/
import Derived.Test.YtbjajipeiigodaaDoorAwake
namespace Go.Proofs.YtbjajipeiigodaaDoor
open Go Go.RowKit

/-- Where a byte stands in a text; -1: nowhere. -/
def plc (l : List UInt8) (c : UInt8) : Int := Lib.indexByte l c
theorem plc_drop (s : ByteArray) (k : Nat) (c : UInt8) (h : ∀ x ∈ s.data.toList.take k, x ≠ c) (hk : k ≤ s.size) : plc s.data.toList c = if plc (s.data.toList.drop k) c = -1 then -1 else plc (s.data.toList.drop k) c + k := by
  have key : ∀ (a b : List UInt8), (∀ x ∈ a, x ≠ c) → Lib.indexByte (a ++ b) c = if Lib.indexByte b c = -1 then -1 else Lib.indexByte b c + a.length := by
    intro a b
    induction a with
    | nil =>
      intro _
      rw [List.nil_append]
      have := Lib.indexByte_ge b c
      split
      · assumption
      · simp
    | cons x a ih =>
      intro hx
      have hne : (x == c) = false := by rw [beq_eq_false_iff_ne]; exact hx x (List.mem_cons_self ..)
      rw [List.cons_append, Lib.indexByte, hne, ih (fun y hy => hx y (List.mem_cons_of_mem _ hy))]
      have hg := Lib.indexByte_ge b c
      by_cases hb : Lib.indexByte b c = -1
      · simp [hb]
      · have h1 : ¬ (Lib.indexByte b c + (a.length : Int)) = -1 := by omega
        simp [hb, h1]
        omega
  have h2 := key (s.data.toList.take k) (s.data.toList.drop k) h
  rw [List.take_append_drop] at h2
  rw [plc, h2, plc, List.length_take]
  have : min k s.data.toList.length = k := by simp; omega
  rw [this]
set_option maxHeartbeats 1000000 in
theorem place_any (s : ByteArray) (c : UInt8) (w : World) (hs : s.size ≤ 1000000) : Calls Tryd.prog 39 #[.string s, .int .u8 (co c)] w fun e w' => e = .returned (.int .i64 (plc s.data.toList c)) ∧ w = w' := by
  obtain ⟨R, hR⟩ : ∃ R, plc s.data.toList c = R := ⟨_, rfl⟩
  have HR := Lib.hid hR
  rw [hR]
  clear hR
  go_enter Tryd.func39, Tryd.ntmps39
  go_wp2
  go_loop [5] (fun i => ∃ k : Nat, k ≤ s.size ∧ i = .int .i64 k ∧ ∀ x ∈ s.data.toList.take k, x ≠ c) (fun i => s.size - (intOf i).toNat)
  case atStart => exact ⟨0, Nat.zero_le _, rfl, by simp⟩
  case round =>
    obtain ⟨k, hk, rfl, hall⟩ := hrel
    have HALL := Lib.hid hall
    clear hall
    by_cases hlt : k < s.size
    · by_cases hc : s[k] = c
      · have hq : ((s[k].toNat : Int) == co c) = true := by rw [hc]; simp [co]
        have HE := Lib.hid (show R = k by
          rw [← HR.out, plc_drop s k c HALL.out hk, drop_at s k hlt, hc, plc, Lib.indexByte]
          simp)
        clear hc
        go_wp2
        go_ret
        exact ⟨ret_int HE.out.symm, rfl⟩
      · have hq : ((s[k].toNat : Int) == co c) = false := by
          rw [beq_eq_false_iff_ne]
          intro e
          apply hc
          have e2 : s[k].toNat = c.toNat := by unfold co at e; omega
          exact UInt8.toNat_inj.1 e2
        have HN := Lib.hid (show ∀ x ∈ s.data.toList.take (k + 1), x ≠ c by
          intro x hx
          rw [List.take_succ_eq_append_getElem (by simpa using hlt)] at hx
          rcases List.mem_append.1 hx with hx | hx
          · exact HALL.out x hx
          · rw [List.mem_singleton] at hx
            rw [hx]
            exact hc)
        clear hc
        go_wp2
        go_round
        case rel => exact ⟨k + 1, by omega, by go_num, HN.out⟩
        case measure => simp [intOf]; omega
    · have HE := Lib.hid (show R = -1 by
        rw [← HR.out, plc_drop s k c HALL.out hk, drop_end s k hlt, plc]
        rfl)
      go_wp2
      go_ret
      exact ⟨ret_int HE.out.symm, rfl⟩
set_option maxHeartbeats 1000000 in
theorem pow_any (n : Int) (w : World) (h0 : 0 ≤ n) (h1 : n ≤ 40) : Calls Tryd.prog 60 #[.int .i64 n] w fun e w' => e = .returned (.int .i64 (2 ^ n.toNat)) ∧ w = w' := by
  obtain ⟨m, rfl⟩ := Int.eq_ofNat_of_zero_le h0
  have hm : m ≤ 40 := by omega
  have hb : ∀ j, j ≤ 40 → (2 : Int) ^ j ≤ 1099511627776 := fun j hj => by
    have h2 : (2 : Nat) ^ j ≤ 2 ^ 40 := Nat.pow_le_pow_right (by decide) hj
    have h3 : ((2 ^ j : Nat) : Int) = 2 ^ j := by simp
    have h4 : (2 : Nat) ^ 40 = 1099511627776 := by decide
    omega
  have HBD := Lib.hid hb
  clear hb
  have HT := Lib.hid (show ((m : Int)).toNat = m by simp)
  obtain ⟨R, hR⟩ : ∃ R : Int, (2 : Int) ^ ((m : Int)).toNat = R := ⟨_, rfl⟩
  have HR := Lib.hid hR
  rw [hR]
  clear hR
  go_enter Tryd.func60, Tryd.ntmps60
  go_wp2
  go_loop [3, 4] (fun x i => ∃ (k : Nat) (y : Int), k ≤ m ∧ i = .int .i64 k ∧ x = .int .i64 y ∧ y = 2 ^ k) (fun _ i => m - (intOf i).toNat)
  case atStart => exact ⟨0, 1, Nat.zero_le _, rfl, rfl, rfl⟩
  case round =>
    obtain ⟨k, y, hk, rfl, rfl, hy⟩ := hrel
    have HY := Lib.hid hy
    have y1 : y ≤ 1099511627776 := by rw [hy]; exact HBD.out k (by omega)
    have y0 : 0 ≤ y := by rw [hy]; exact Int.le_of_lt (Int.pow_pos (by decide))
    clear hy
    by_cases hlt : k < m
    · go_wp2
      go_round
      case rel => exact ⟨k + 1, y * 2, by omega, by go_num, rfl, by rw [HY.out, Int.pow_succ]⟩
      case measure => simp [intOf]; omega
    · have HK := Lib.hid (show y = R by rw [HY.out, ← HR.out, HT.out, show k = m by omega])
      go_wp2
      go_ret
      exact ⟨ret_int HK.out, rfl⟩

/-- The sum of the bits of a text's letters, each once, by their places among the first k of others. -/
def sumK (l ls : List UInt8) : Nat → Int
  | 0 => 0
  | k + 1 => sumK l ls k + match ls[k]? with
    | none => 0
    | some c => if 0 ≤ plc l c then 2 ^ k else 0
theorem sumK_bd (l ls : List UInt8) (k : Nat) (hk : k ≤ 10) : 0 ≤ sumK l ls k ∧ sumK l ls k ≤ (k : Int) * 1024 := by
  induction k with
  | zero => simp [sumK]
  | succ k ih =>
    have h1 := ih (by omega)
    have h2 : (2 : Int) ^ k ≤ 1024 := by
      have h3 : (2 : Nat) ^ k ≤ 2 ^ 10 := Nat.pow_le_pow_right (by decide) (by omega)
      have h4 : ((2 ^ k : Nat) : Int) = 2 ^ k := by simp
      omega
    have h5 : (0 : Int) < 2 ^ k := Int.pow_pos (by decide)
    rw [sumK]
    split
    · omega
    · split <;> omega
set_option maxHeartbeats 1000000 in
theorem sum_any (s t : ByteArray) (w : World) (hs : s.size ≤ 1000000) (ht : t.size ≤ 10) : Calls Tryd.prog 58 #[.string s, .string t] w fun e w' => e = .returned (.int .i64 (sumK s.data.toList t.data.toList t.size)) ∧ w = w' := by
  obtain ⟨R, hR⟩ : ∃ R, sumK s.data.toList t.data.toList t.size = R := ⟨_, rfl⟩
  have HR := Lib.hid hR
  rw [hR]
  clear hR
  go_enter Tryd.func58, Tryd.ntmps58
  go_wp2
  go_loop [5, 6] (fun n i => ∃ (k : Nat) (y : Int), k ≤ t.size ∧ i = .int .i64 k ∧ n = .int .i64 y ∧ y = sumK s.data.toList t.data.toList k) (fun _ i => t.size - (intOf i).toNat)
  case atStart => exact ⟨0, 0, Nat.zero_le _, rfl, rfl, rfl⟩
  case round =>
    obtain ⟨k, y, hk, rfl, rfl, hy⟩ := hrel
    have HY := Lib.hid hy
    have hbd := sumK_bd s.data.toList t.data.toList k (by omega)
    have y0 : 0 ≤ y := by rw [hy]; exact hbd.1
    have y1 : y ≤ 20000 := by rw [hy]; have := hbd.2; omega
    clear hy hbd
    by_cases hlt : k < t.size
    · obtain ⟨c, hc⟩ : ∃ c, t[k] = c := ⟨_, rfl⟩
      have hck : t.data.toList[k]? = some c := by rw [← hc]; exact List.getElem?_eq_getElem (by simpa using hlt)
      obtain ⟨P, hP⟩ : ∃ P, plc s.data.toList c = P := ⟨_, rfl⟩
      have HS := Lib.hid (show sumK s.data.toList t.data.toList (k + 1) = y + if 0 ≤ P then 2 ^ k else 0 by rw [sumK, hck, HY.out, ← hP])
      have HPL := Lib.hid (fun w => place_any s c w hs)
      rw [hP] at HPL
      obtain ⟨q, hq⟩ : ∃ q : Int, (2 : Int) ^ ((k : Int)).toNat = q := ⟨_, rfl⟩
      have HPW := Lib.hid (fun w => pow_any k w (by omega) (by omega))
      rw [hq] at HPW
      have q0 : 0 ≤ q := by rw [← hq]; exact Int.le_of_lt (Int.pow_pos (by decide))
      have q1 : q ≤ 1024 := by
        rw [← hq]
        have h3 : (2 : Nat) ^ k ≤ 2 ^ 10 := Nat.pow_le_pow_right (by decide) (by omega)
        have h4 : ((2 ^ k : Nat) : Int) = 2 ^ k := by simp
        have h5 : ((k : Int)).toNat = k := by simp
        rw [h5]
        omega
      have HQ := Lib.hid (show (2 : Int) ^ k = q by rw [← hq]; simp)
      clear hP hck hq
      by_cases hp : 0 ≤ P
      · go_wp2_with fail
        refine (HPL.out _).mono ?_
        rintro e w' ⟨rfl, rfl⟩
        go_wp2_with fail
        refine (HPW.out _).mono ?_
        rintro e w' ⟨rfl, rfl⟩
        go_wp2
        go_round
        case rel => exact ⟨k + 1, y + q, by omega, by go_num, rfl, by rw [HS.out, if_pos hp, HQ.out]⟩
        case measure => simp [intOf]; omega
      · go_wp2_with fail
        refine (HPL.out _).mono ?_
        rintro e w' ⟨rfl, rfl⟩
        go_wp2
        go_round
        case rel => exact ⟨k + 1, y, by omega, by go_num, rfl, by rw [HS.out, if_neg (by omega)]; simp⟩
        case measure => simp [intOf]; omega
    · have HK := Lib.hid (show y = R by rw [HY.out, ← HR.out, show k = t.size by omega])
      go_wp2
      go_ret
      exact ⟨ret_int HK.out, rfl⟩
end Go.Proofs.YtbjajipeiigodaaDoor
