/-
  What gaolerref02.Place answers of any text and byte, and what few answers of any words. The only condition is that lengths are numbers that a machine has.
-/
import Derived.Test.YtldomiagincegaaAsk
import Derived.Test.YtldomiagincegaaFind
namespace Go.Proofs.Ytldomiagincegaa
open Go Go.RowKit

theorem index_hit (c : UInt8) : ∀ (l : List UInt8) (k : Nat), l[k]? = some c → (l.take k).contains c = false → Lib.indexByte l c = (k : Int)
  | [], k, h, _ => by simp at h
  | b :: l, 0, h, _ => by
    simp at h
    subst h
    rw [Lib.indexByte]
    simp
  | b :: l, k + 1, h, hn => by
    rw [List.take_succ_cons, List.contains_cons, Bool.or_eq_false_iff] at hn
    have := index_hit c l k (by simpa using h) hn.2
    have hb : (b == c) = false := by
      have := hn.1
      rw [beq_eq_false_iff_ne] at this ⊢
      exact fun e => this e.symm
    rw [Lib.indexByte, hb, this, if_neg (by decide), if_neg (by rw [beq_iff_eq]; omega)]
    omega
theorem index_no (c : UInt8) : ∀ (l : List UInt8), l.contains c = false → Lib.indexByte l c = -1
  | [], _ => rfl
  | b :: l, hn => by
    rw [List.contains_cons, Bool.or_eq_false_iff] at hn
    have hb : (b == c) = false := by
      have := hn.1
      rw [beq_eq_false_iff_ne] at this ⊢
      exact fun e => this e.symm
    rw [Lib.indexByte, hb, index_no c l hn.2]
    rfl
theorem place_any (s : ByteArray) (c : UInt8) (w : World) (hs : s.size ≤ 1000000) :
    Calls Try.prog 24 #[.string s, .int .u8 (co c)] w fun e w' => e = .returned (.int .i64 (Lib.indexByte s.data.toList c)) ∧ w = w' := by
  obtain ⟨X, hX⟩ : ∃ X, Lib.indexByte s.data.toList c = X := ⟨_, rfl⟩
  rw [hX]
  have HX := Lib.hid hX
  clear hX
  go_enter Try.func24, Try.ntmps24
  go_wp2
  go_loopg [5] s.size (fun g s5 wr => ∃ k : Nat, s5 = .int .i64 k ∧ k ≤ s.size ∧ g = s.size - k ∧ (s.data.toList.take k).contains c = false ∧ w = wr)
  case atStart => exact ⟨0, rfl, Nat.zero_le _, rfl, rfl, rfl⟩
  case round =>
    obtain ⟨k, rfl, hk, rfl, hno, rfl⟩ := hrel
    have HNO := Lib.hid hno
    clear hno
    by_cases hlt : k < s.size
    · obtain ⟨y, hy⟩ : ∃ y, s[k] = y := ⟨_, rfl⟩
      have HY := Lib.hid (show s.data.toList[k]? = some y by rw [Lib.data_getElem? s k hlt, hy])
      by_cases hxy : y = c
      · subst hxy
        have hq : ((y.toNat : Int) == co y) = true := by unfold co; simp
        have HR := Lib.hid (show (k : Int) = X by rw [← HX.out]; exact (index_hit y _ k HY.out HNO.out).symm)
        go_wp2
        go_ret
        exact ⟨ret_int HR.out, rfl⟩
      · have hne : ((y.toNat : Int) == co c) = false := co_ne hxy
        have HN := Lib.hid hxy
        clear hxy
        go_wp2
        go_roundg (s.size - (k + 1))
        case measure => omega
        case rel => exact ⟨k + 1, by go_num, by omega, rfl, has_next HY.out HNO.out (fun e => HN.out e.symm), rfl⟩
    · have HF := Lib.hid (show (-1 : Int) = X by
        rw [← HX.out, index_no]
        have := HNO.out
        rwa [List.take_of_length_le (by rw [size_len]; omega)] at this)
      go_wp2
      go_ret
      exact ⟨ret_int HF.out, rfl⟩
/-- Are words few, and short? -/
def fewB (l : List ByteArray) : Bool := l.all (fun s => decide (s.size ≤ 60)) && decide (l.length ≤ 30)
theorem few_any (v : Value) (l : List ByteArray) (w : World) (h : StrsR w v l) (hn : l.length ≤ maxLen) (hz : ∀ s ∈ l, s.size ≤ maxLen) :
    Calls Try.prog 9 #[v] w fun e w' => e = .returned (.bool (fewB l)) ∧ w = w' := by
  obtain ⟨X, hX⟩ : ∃ X, fewB l = X := ⟨_, rfl⟩
  rw [hX]
  have HX := Lib.hid hX
  have HZ := Lib.hid hz
  have hn' : l.length ≤ 9223372036854775807 := by unfold maxLen at hn; omega
  clear hn
  obtain ⟨A, c, rfl, -, hc⟩ := h
  have HC := Lib.hid hc
  clear hX hc hz
  go_enter Try.func9, Try.ntmps9
  go_wp2
  go_loopg [3] l.length (fun g s3 wr => ∃ k : Nat, s3 = .int .i64 k ∧ k ≤ l.length ∧ g = l.length - k ∧ (l.take k).all (fun s => decide (s.size ≤ 60)) = true ∧ w = wr)
  case atStart => exact ⟨0, rfl, Nat.zero_le _, rfl, rfl, rfl⟩
  case round =>
    obtain ⟨k, rfl, hk, rfl, hno, rfl⟩ := hrel
    have HNO := Lib.hid hno
    clear hno
    by_cases hlt : k < l.length
    · obtain ⟨y, hy⟩ : ∃ y, l[k]? = some y := ⟨_, List.getElem?_eq_getElem hlt⟩
      obtain ⟨ad, rfl, c0⟩ := HC.out k y hy
      have hym : y.size ≤ 9223372036854775807 := by have := HZ.out y (List.mem_of_getElem? hy); unfold maxLen at this; omega
      have HY := Lib.hid hy
      clear hy
      by_cases hq : 60 < y.size
      · have HR := Lib.hid (show X = false by
          rw [← HX.out, fewB, show l.all (fun s => decide (s.size ≤ 60)) = false by
            rw [List.all_eq_false]
            exact ⟨y, List.mem_of_getElem? HY.out, by simpa using hq⟩]
          rfl)
        go_wp2
        go_ret
        exact ⟨ret_bool HR.out.symm, rfl⟩
      · go_wp2
        go_roundg (l.length - (k + 1))
        case measure => omega
        case rel => exact ⟨k + 1, by go_num, by omega, rfl, by rw [take_snoc' HY.out, List.all_append, HNO.out]; simp; omega, rfl⟩
    · have HF := Lib.hid (show X = decide (l.length ≤ 30) by
        have := HNO.out
        rw [List.take_of_length_le (by omega)] at this
        rw [← HX.out, fewB, this]
        rfl)
      by_cases hq : l.length ≤ 30
      · go_wp2
        go_ret
        exact ⟨ret_bool (by rw [HF.out]; simp; omega), rfl⟩
      · go_wp2
        go_ret
        exact ⟨ret_bool (by rw [HF.out]; simp; omega), rfl⟩
theorem few_bd {l : List ByteArray} (h : fewB l = true) : l.length ≤ 30 ∧ tot l ≤ 60 * l.length := by
  rw [fewB, Bool.and_eq_true] at h
  refine ⟨by simpa using h.2, ?_⟩
  have h1 := h.1
  clear h
  induction l with
  | nil => simp [tot]
  | cons x r ih =>
    rw [List.all_cons, Bool.and_eq_true] at h1
    have := ih h1.2
    have h0 : x.size ≤ 60 := by simpa using h1.1
    rw [tot_cons, List.length_cons]
    omega
end Go.Proofs.Ytldomiagincegaa
