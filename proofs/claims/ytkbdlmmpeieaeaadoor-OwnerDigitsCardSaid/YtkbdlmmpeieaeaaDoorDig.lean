/-
  What the reference's Digits answers of any number that is not below 0: its digits. The condition is that it is a number that a machine has.
-/
import Derived.Test.YtkbdlmmpeieaeaaDoorCut
import Derived.Laws.BytesString
import Derived.Lib.ItoaNum
namespace Go.Proofs.YtkbdlmmpeieaeaaDoor
open Go Go.RowKit

theorem len_of {a : ByteArray} {l : List UInt8} (h : a.data.toList = l) : a.size = l.length := by rw [← h]; simp
def dgt (m : Nat) : UInt8 := UInt8.ofNat (48 + m % 10)
theorem dgt_nat (m : Nat) : ((dgt m).toNat : Int) = 48 + (m : Int) % 10 := by
  have : (dgt m).toNat = 48 + m % 10 := by
    unfold dgt
    rw [UInt8.toNat_ofNat']
    omega
  omega
/-- A text of one byte. -/
theorem conv_one (w : World) (b : UInt8) (B : Int) (hB : B = (b.toNat : Int)) (T : TypeId) (c : Nat) : (convert 48 9 (.slice (some ⟨w.heap.size, 0, none⟩) 1 c)).run Tryd.prog (w.alloc (.cells #[.int .u8 B] T)) = .ok (.string ⟨#[b]⟩) (w.alloc (.cells #[.int .u8 B] T)) := by
  subst hB
  rw [run_convert_bytes_string _ 48 9 5 _ _ _ Tryd.underlying48 Tryd.underlying5 Tryd.underlying9]
  have hl := run_loadCells_list (P := Tryd.prog) (w.alloc (.cells #[.int .u8 (b.toNat : Int)] T)) ⟨w.heap.size, 0, none⟩ ([(b.toNat : Int)].map (Value.int .u8)) (fun j u hj => by
    rw [Addr.add_lit, Nat.zero_add, World.cell?_alloc_mark]
    simpa using hj)
  rw [show (1 : Nat) = ([(b.toNat : Int)].map (Value.int .u8)).length from rfl, run_bytesToString _ _ _ _ [(b.toNat : Int)] hl]
  simp
  rfl
set_option maxHeartbeats 2000000 in
theorem rdig_any (n : Nat) (w : World) (hn : n ≤ 9223372036854775807) :
    Calls Tryd.prog 17 #[.int .i64 (n : Int)] w fun e w' => (∃ t : ByteArray, e = .returned (.string t) ∧ t.data.toList = Lib.decDigits n) ∧ Below w.heap.size w w' := by
  go_enter Tryd.func17, Tryd.ntmps17
  go_wp2
  go_loopg [0, 3] n (fun g x s wr => ∃ (m : Nat) (t : ByteArray), x = .int .i64 (m : Int) ∧ s = .string t ∧ g = m ∧ Lib.decDigits n = Lib.decDigits m ++ t.data.toList ∧ 10 ^ t.size * m ≤ n ∧ (1 ≤ m ∨ t.size = 0) ∧ Below w.heap.size w wr)
  case atStart => exact ⟨n, ⟨#[]⟩, rfl, rfl, rfl, by simp, by show 10 ^ 0 * n ≤ n; omega, .inr rfl, Below.refl _ _⟩
  case round =>
    obtain ⟨m, t, rfl, rfl, rfl, hd, hle, h1, hB⟩ := hrel
    have HD := Lib.hid hd
    have HB := Lib.hid hB
    have HLE := Lib.hid hle
    have zt : t.size ≤ 18 := by
      rcases h1 with h1 | h1
      · rcases Nat.lt_or_ge 18 t.size with h | h
        · exfalso
          have e1 : (10 : Nat) ^ 19 ≤ 10 ^ t.size := Nat.pow_le_pow_right (by decide) h
          have e2 : (10 : Nat) ^ 19 = 10000000000000000000 := by decide
          have e3 : 10 ^ t.size * 1 ≤ 10 ^ t.size * gk := Nat.mul_le_mul_left _ h1
          omega
        · exact h
      · omega
    have hmn : (gk : Int) ≤ 9223372036854775807 := by
      have e1 : 1 * gk ≤ 10 ^ t.size * gk := Nat.mul_le_mul_right _ (Nat.one_le_pow _ _ (by decide))
      omega
    clear hd hB hle h1
    by_cases h9 : gk ≤ 9
    · have h9' : ¬ (9 : Int) < (gk : Int) := by omega
      have zo : (⟨#[dgt gk]⟩ : ByteArray).size ≤ 1 := Nat.le_refl 1
      have hcv := conv_one wr (dgt gk) (48 + (gk : Int)) (by rw [dgt_nat]; omega) 5 1
      go_wp2
      go_ret
      refine ⟨⟨_, rfl, ?_⟩, HB.out.alloc HB.out.size _⟩
      rw [HD.out, ByteArray.data_append, Array.toList_append, Lib.decDigits, dif_pos (by omega)]
      have : dgt gk = UInt8.ofNat (48 + gk) := by unfold dgt; rw [Nat.mod_eq_of_lt (by omega)]
      rw [this]
    · have h9' : (9 : Int) < (gk : Int) := by omega
      have zo : (⟨#[dgt gk]⟩ : ByteArray).size ≤ 1 := Nat.le_refl 1
      have hcv := conv_one wr (dgt gk) (48 + (gk : Int) % 10) (by rw [dgt_nat]) 5 1
      go_wp2
      go_roundg (gk / 10)
      case measure => omega
      case rel =>
        refine ⟨gk / 10, _, by go_num, rfl, rfl, ?_, ?_, .inl (by omega), HB.out.alloc HB.out.size _⟩
        · rw [HD.out, ByteArray.data_append, Array.toList_append, Lib.decDigits, dif_neg (by omega), List.append_assoc]
          rfl
        · rw [ByteArray.size_append, show (⟨#[dgt gk]⟩ : ByteArray).size = 1 from rfl, Nat.pow_add, Nat.pow_one, Nat.mul_comm 10, Nat.mul_assoc]
          exact Nat.le_trans (Nat.mul_le_mul_left _ (by omega)) HLE.out
end Go.Proofs.YtkbdlmmpeieaeaaDoor
