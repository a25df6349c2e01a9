/-
  What the reference's Has answers of any text, and Same of lists that are the same. The conditions: a text has a million bytes at most, a list a million texts.
-/
import Derived.Test.YtmapkmjhpebcbaaName
namespace Go.Proofs.Ytmapkmjhpebcbaa
open Go Go.RowKit

theorem has_next {l : List UInt8} {k : Nat} {c y : UInt8} (hy : l[k]? = some y) (h : (l.take k).contains c = false) (hne : ¬ y = c) : (l.take (k + 1)).contains c = false := by
  rw [take_snoc' hy, List.contains_eq_any_beq, List.any_append, ← List.contains_eq_any_beq, h]
  have : (c == y) = false := by rw [beq_eq_false_iff_ne]; exact fun e => hne e.symm
  simp [this]
theorem ref_has (s : ByteArray) (c : UInt8) (w : World) (hs : s.size ≤ 1000000) :
    Calls Try.prog 61 #[.string s, .int .u8 (co c)] w fun e w' => e = .returned (.bool ((tl s).contains c)) ∧ w = w' := by
  obtain ⟨X, hX⟩ : ∃ X, (tl s).contains c = X := ⟨_, rfl⟩
  rw [hX]
  have HX := Lib.hid hX
  clear hX
  go_enter Try.func61, Try.ntmps61
  go_wp2
  go_loopg [5] s.size (fun g s5 wr => ∃ k : Nat, s5 = .int .i64 k ∧ k ≤ s.size ∧ g = s.size - k ∧ ((tl s).take k).contains c = false ∧ w = wr)
  case atStart => exact ⟨0, rfl, Nat.zero_le _, rfl, rfl, rfl⟩
  case round =>
    obtain ⟨k, rfl, hk, rfl, hno, rfl⟩ := hrel
    have HNO := Lib.hid hno
    clear hno
    by_cases hlt : k < s.size
    · obtain ⟨y, hy⟩ : ∃ y, s[k] = y := ⟨_, rfl⟩
      have HY := Lib.hid (show (tl s)[k]? = some y by rw [tl_at hlt, hy])
      by_cases hxy : y = c
      · subst hxy
        have hq : ((y.toNat : Int) == co y) = true := by unfold co; simp
        have HR := Lib.hid (show true = X by rw [← HX.out]; exact (List.contains_iff_mem.2 (List.mem_of_getElem? HY.out)).symm)
        go_wp2
        go_ret
        exact ⟨ret_bool HR.out, rfl⟩
      · have hne : ((y.toNat : Int) == co c) = false := co_ne hxy
        have HN := Lib.hid hxy
        clear hxy
        go_wp2
        go_roundg (s.size - (k + 1))
        case measure => omega
        case rel => exact ⟨k + 1, by go_num, by omega, rfl, has_next HY.out HNO.out HN.out, rfl⟩
    · have HF := Lib.hid (show false = X by
        rw [← HX.out]
        have := HNO.out
        rw [List.take_of_length_le (by rw [tl_len]; omega)] at this
        exact this.symm)
      go_wp2
      go_ret
      exact ⟨ret_bool HF.out, rfl⟩
end Go.Proofs.Ytmapkmjhpebcbaa
