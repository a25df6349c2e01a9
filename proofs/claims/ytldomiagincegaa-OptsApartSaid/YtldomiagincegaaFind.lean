/-
  What strings.IndexByte answers, and what opts.find answers of any letter. The only condition is that a text's length is a number that a machine has.
-/
import Derived.Test.YtldomiagincegaaMem
import Derived.Deep.Draws
namespace Go.Proofs.Ytldomiagincegaa
open Go Go.RowKit

theorem ret_bb {a b c d : Bool} (h : a = c ∧ b = d) : Ending.returned (.tuple #[.bool a, .bool b]) = .returned (.tuple #[.bool c, .bool d]) := by rw [h.1, h.2]
theorem back_co (c : UInt8) : (co c).toNat.toUInt8 = c := Lib.byte_back c
theorem lindex_any (s : ByteArray) (c : UInt8) (w : World) :
    Calls Try.prog 31 #[.string s, .int .u8 (co c)] w fun e w' => e = .returned (.int .i64 (Lib.indexByte s.data.toList c)) ∧ w = w' := by
  have hb := Lib.hid (back_co c)
  generalize co c = n at hb ⊢
  go_enter Try.func31, Try.ntmps31
  go_wp2
  rw [run_callFunc_extern Try.func32 (by kernel_rfl) (by kernel_rfl) (by kernel_rfl) (e := Extern.BytealgIndexByte.indexByte) (by kernel_rfl), Lib.run_indexByteString]
  simp only [Result.andThen]
  rw [Oper.upon_value]
  go_wp2
  go_ret
  exact ⟨ret_int (by rw [show UInt8.ofNat n.toNat = c from hb.out]), rfl⟩
theorem index_any (s : ByteArray) (c : UInt8) (w : World) :
    Calls Try.prog 29 #[.string s, .int .u8 (co c)] w fun e w' => e = .returned (.int .i64 (Lib.indexByte s.data.toList c)) ∧ w = w' := by
  have H := Lib.hid (lindex_any s c w)
  generalize Lib.indexByte s.data.toList c = X at H ⊢
  go_enter Try.func29, Try.ntmps29
  go_wp2_with fail
  refine H.out.mono ?_
  rintro e w' ⟨rfl, rfl⟩
  go_wp2
  go_ret
  exact ⟨rfl, rfl⟩
theorem index_bd (c : UInt8) : ∀ l : List UInt8, -1 ≤ Lib.indexByte l c ∧ (Lib.indexByte l c < l.length)
  | [] => by rw [Lib.indexByte]; simp
  | b :: l => by
    have := index_bd c l
    rw [Lib.indexByte, List.length_cons]
    split
    · omega
    · split <;> omega
set_option maxHeartbeats 1000000 in
theorem find_any (may : ByteArray) (c : UInt8) (w : World) (hm : may.size ≤ 1000000) :
    Calls Try.prog 25 #[.string may, .int .u8 (co c)] w fun e w' => e = .returned (.tuple #[.bool (decide (¬ knd may c = 0)), .bool (decide (knd may c = 2))]) ∧ Below w.heap.size w w' := by
  obtain ⟨K, hK⟩ : ∃ K, knd may c = K := ⟨_, rfl⟩
  rw [hK]
  unfold knd at hK
  by_cases h45 : c = 45
  · subst h45
    rw [if_pos (.inl rfl)] at hK
    subst hK
    rw [show co 45 = 45 from rfl]
    go_enter Try.func25, Try.ntmps25
    go_wp2
    go_ret2
    exact ⟨rfl, Below.refl _ _⟩
  by_cases h58 : c = 58
  · subst h58
    rw [if_pos (.inr (.inl rfl))] at hK
    subst hK
    rw [show co 58 = 58 from rfl]
    go_enter Try.func25, Try.ntmps25
    go_wp2
    go_ret2
    exact ⟨rfl, Below.refl _ _⟩
  have e1 : (co c == 45) = false := co_ne (b := 45) h45
  have e2 : (co c == 58) = false := co_ne (b := 58) h58
  have HI := Lib.hid (index_any may c)
  have hbd := index_bd c may.data.toList
  rw [size_len] at hbd
  generalize Lib.indexByte may.data.toList c = X at HI hK hbd
  generalize co c = n at e1 e2 HI ⊢
  by_cases hx : X < 0
  · rw [if_pos (.inr (.inr hx))] at hK
    subst hK
    clear h45 h58 hbd
    go_enter Try.func25, Try.ntmps25
    go_wp2_with fail
    refine (HI.out _).mono ?_
    rintro e w' ⟨rfl, rfl⟩
    go_wp2
    go_ret2
    exact ⟨rfl, Below.refl _ _⟩
  rw [if_neg (by rintro (h | h | h) <;> contradiction)] at hK
  obtain ⟨k, rfl⟩ : ∃ k : Nat, X = (k : Int) := ⟨X.toNat, by omega⟩
  clear h45 h58 hx
  rw [Int.toNat_natCast] at hK
  have hk2 : k < may.size := by omega
  clear hbd
  obtain ⟨j, hj⟩ : ∃ j, k + 1 = j := ⟨_, rfl⟩
  have hw : IntKind.i64.wrap ((k : Int) + 1) = (j : Int) := by rw [IntKind.wrap_i64]; omega
  rw [hj] at hK
  clear hj
  by_cases hlt : j < may.size
  · obtain ⟨b, hb⟩ : ∃ b, may[j] = b := ⟨_, rfl⟩
    rw [Lib.data_getElem? may j hlt, hb] at hK
    have HK := Lib.hid hK
    clear hK
    by_cases hq : b = 58
    · have hq1 : ((b.toNat : Int) == 58) = true := by rw [hq]; rfl
      have HQ := Lib.hid (show K = 2 by rw [← HK.out, hq, if_pos rfl])
      clear hq
      go_enter Try.func25, Try.ntmps25
      go_wp2_with fail
      refine (HI.out _).mono ?_
      rintro e w' ⟨rfl, rfl⟩
      go_wp2
      go_region
      go_wp2
      go_ret2
      exact ⟨ret_bb (by rw [HQ.out]; exact ⟨rfl, by first | rfl | simp [hq1]⟩), by first | exact Below.refl _ _ | exact (Below.refl _ _).drew⟩
    · have hq1 : ((b.toNat : Int) == 58) = false := co_ne (a := b) (b := 58) hq
      have HQ := Lib.hid (show K = 1 by rw [← HK.out, if_neg (by intro h; injection h with h; exact hq h)])
      clear hq
      go_enter Try.func25, Try.ntmps25
      go_wp2_with fail
      refine (HI.out _).mono ?_
      rintro e w' ⟨rfl, rfl⟩
      go_wp2
      go_region
      go_wp2
      go_ret2
      exact ⟨ret_bb (by rw [HQ.out]; exact ⟨rfl, by first | rfl | simp [hq1]⟩), by first | exact Below.refl _ _ | exact (Below.refl _ _).drew⟩
  · have HQ := Lib.hid (show K = 1 by rw [← hK, List.getElem?_eq_none (by rw [size_len]; omega), if_neg (by simp)])
    clear hK
    go_enter Try.func25, Try.ntmps25
    go_wp2_with fail
    refine (HI.out _).mono ?_
    rintro e w' ⟨rfl, rfl⟩
    go_wp2
    go_region
    go_wp2
    go_ret2
    exact ⟨ret_bb (by rw [HQ.out]; exact ⟨rfl, rfl⟩), by first | exact Below.refl _ _ | exact (Below.refl _ _).drew⟩
end Go.Proofs.Ytldomiagincegaa
