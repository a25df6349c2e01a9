/-
  What clause.parseWho answers of any text whose length is a number that a machine has.
-/
import Derived.Test.YtbjajipeiigodaaDoorActs
namespace Go.Proofs.YtbjajipeiigodaaDoor
open Go Go.RowKit

theorem whoR_high (r : Int) (h : 128 ≤ r) : whoR r = 0 := by unfold whoR; rw [if_neg (by omega), if_neg (by omega), if_neg (by omega), if_neg (by omega)]
theorem perR_high (r : Int) (h : 128 ≤ r) : perR r = 0 := by unfold perR; rw [if_neg (by omega), if_neg (by omega), if_neg (by omega), if_neg (by omega), if_neg (by omega), if_neg (by omega)]
theorem copR_high (r : Int) (h : 128 ≤ r) : copR r = 0 := by unfold copR; rw [if_neg (by omega), if_neg (by omega), if_neg (by omega)]
theorem sgR_high (r : Int) (h : 128 ≤ r) : sgR r = false := by
  unfold sgR
  have h1 : (r == 43) = false := by rw [beq_eq_false_iff_ne]; omega
  have h2 : (r == 45) = false := by rw [beq_eq_false_iff_ne]; omega
  have h3 : (r == 61) = false := by rw [beq_eq_false_iff_ne]; omega
  rw [h1, h2, h3]; rfl
theorem rune_cases (s : ByteArray) (k : Nat) (h : k < s.size) : ((s[k].toNat < 128 ∧ Utf8.decode s k = (s[k].toNat, 1)) ∨ (128 ≤ ((Utf8.decode s k).1 : Int) ∧ 128 ≤ co s[k])) := by
  by_cases ha : s[k].toNat < 128
  · exact .inl ⟨ha, decode_ascii s k h ha⟩
  · have := (decode_high s k h (by omega)).1
    exact .inr ⟨by omega, by unfold co; omega⟩
theorem rune_who (s : ByteArray) (k : Nat) (h : k < s.size) : whoR ((Utf8.decode s k).1 : Int) = whoR (co s[k]) := by
  rcases rune_cases s k h with ⟨_, e⟩ | ⟨h1, h2⟩
  · rw [e]; rfl
  · rw [whoR_high _ h1, whoR_high _ h2]
theorem rune_sg (s : ByteArray) (k : Nat) (h : k < s.size) : sgR ((Utf8.decode s k).1 : Int) = sgR (co s[k]) := by
  rcases rune_cases s k h with ⟨_, e⟩ | ⟨h1, h2⟩
  · rw [e]; rfl
  · rw [sgR_high _ h1, sgR_high _ h2]
theorem rune_wl (a : CA) (s : ByteArray) (k : Nat) (h : k < s.size) : wl a ((Utf8.decode s k).1 : Int) = wl a (co s[k]) := by
  rcases rune_cases s k h with ⟨_, e⟩ | ⟨h1, h2⟩
  · rw [e]; rfl
  · unfold wl; rw [perR_high _ h1, perR_high _ h2, copR_high _ h1, copR_high _ h2]
theorem drop_at (s : ByteArray) (k : Nat) (h : k < s.size) : s.data.toList.drop k = s[k] :: s.data.toList.drop (k + 1) := by
  rw [List.drop_eq_getElem_cons (by simpa using h)]; rfl
theorem drop_end (s : ByteArray) (k : Nat) (h : ¬ k < s.size) : s.data.toList.drop k = [] := List.drop_of_length_le (by simp; omega)
theorem extract_drop (s : ByteArray) (k : Nat) : s.extract k s.size = ⟨(s.data.toList.drop k).toArray⟩ := by
  have : (s.extract k s.size).data.toList = s.data.toList.drop k := Lib.extract_to_end s k
  obtain ⟨⟨l⟩⟩ := s
  generalize hx : (ByteArray.mk ⟨l⟩).extract k (ByteArray.mk ⟨l⟩).size = x at this
  obtain ⟨⟨m⟩⟩ := x
  simp only at this
  rw [this]
theorem ret_ts {a b : Int} {s t : ByteArray} (h : a = b ∧ s = t) : Ending.returned (.tuple #[.int .i64 a, .string s]) = .returned (.tuple #[.int .i64 b, .string t]) := by rw [h.1, h.2]
theorem below_drewN {B : Nat} {a w : World} (h : Below B a w) (n : Nat) : Below B a (w.drewN n) := ⟨h.os, h.tape, h.output, h.size, h.block⟩
theorem below_drew {B : Nat} {a w : World} (h : Below B a w) : Below B a w.drew := ⟨h.os, h.tape, h.output, h.size, h.block⟩

/-- What parseWho tells of a text. -/
def pw (s : ByteArray) : Int × ByteArray := ((whoF 0 s.data.toList).1, ⟨(whoF 0 s.data.toList).2.toArray⟩)
set_option maxHeartbeats 2000000 in
theorem parseWho_any (s : ByteArray) (w : World) : Calls Tryd.prog 35 #[.string s] w fun e w' => e = .returned (.tuple #[.int .i64 (pw s).1, .string (pw s).2]) ∧ Below w.heap.size w w' := by
  obtain ⟨A, hA⟩ : ∃ A, (pw s).1 = A := ⟨_, rfl⟩
  obtain ⟨T, hT⟩ : ∃ T, (pw s).2 = T := ⟨_, rfl⟩
  have HA := Lib.hid hA
  have HT := Lib.hid hT
  rw [hA, hT]
  clear hA hT
  go_enter Tryd.func35, Tryd.ntmps35
  go_wp2
  go_loopw [4] (fun n wr => ∃ (k : Nat) (u : Int), k ≤ s.size ∧ wr = w.iter s k ∧ whoF 0 s.data.toList = whoF u (s.data.toList.drop k) ∧ n = .int .i64 u) (fun _ wr => s.size - wr.iterPos w.heap.size)
  case atStart => exact ⟨0, 0, Nat.zero_le _, rfl, rfl, rfl⟩
  case round =>
    obtain ⟨k, u, hk, rfl, hF, rfl⟩ := hrel
    have HF := Lib.hid hF
    clear hF
    by_cases hlt : k < s.size
    · obtain ⟨b, hb⟩ : ∃ b, whoR (co s[k]) = b := ⟨_, rfl⟩
      by_cases hz : b = 0
      · have HE := Lib.hid (show A = u ∧ T = s.extract k s.size by
          rw [← HA.out, ← HT.out, extract_drop]
          unfold pw
          rw [HF.out, drop_at s k hlt, whoF, if_pos (hb.trans hz)]
          exact ⟨rfl, rfl⟩)
        have HB := Lib.hid (show whoR ((Utf8.decode s k).1 : Int) = 0 by rw [rune_who s k hlt, hb, hz])
        have hnx := fun ty => run_next_any (P := Tryd.prog) w s k ty hlt
        clear hb hz
        go_wp2_with (go_at_call 54; refine (whoBits_at _ 0 _ HB.out).mono ?_; rintro e w' ⟨rfl, rfl⟩)
        go_quiet (fail)
        go_wp2
        go_ret2
        exact ⟨ret_ts ⟨HE.out.1.symm, HE.out.2.symm⟩, below_drewN ((Below.refl _ _).alloc (Nat.le_refl _) _) _⟩
      · have ha : s[k].toNat < 128 := by
          rcases rune_cases s k hlt with ⟨h, _⟩ | ⟨_, h⟩
          · exact h
          · exact absurd (hb.symm.trans (whoR_high _ h)) hz
        have hz' : (b == 0) = false := by simpa using hz
        have hnx := fun ty => run_next_ascii (P := Tryd.prog) w s k ty hlt ha
        have HB := Lib.hid (show whoR (s[k].toNat : Int) = b from hb)
        have HN := Lib.hid (show whoF 0 s.data.toList = whoF (bits .or .i64 u b) (s.data.toList.drop (k + 1)) by rw [HF.out, drop_at s k hlt, whoF, if_neg (by rw [hb]; exact hz), hb])
        clear hb hz
        go_wp2_with (go_at_call 54; refine (whoBits_at _ b _ HB.out).mono ?_; rintro e w' ⟨rfl, rfl⟩)
        go_roundw
        case rel => exact ⟨k + 1, _, by omega, rfl, HN.out, rfl⟩
        case measure => simp; omega
    · have hnx := fun ty => run_next_end (P := Tryd.prog) w s k ty hlt
      have HE := Lib.hid (show A = u ∧ T = ⟨#[]⟩ by
          rw [← HA.out, ← HT.out]
          unfold pw
          rw [HF.out, drop_end s k hlt, whoF]
          exact ⟨rfl, rfl⟩)
      go_wp2
      go_ret2
      exact ⟨ret_ts ⟨HE.out.1.symm, HE.out.2.symm⟩, (Below.refl _ _).alloc (Nat.le_refl _) _⟩
end Go.Proofs.YtbjajipeiigodaaDoor
