/-
  What strings.IndexRune answers in the text 'ugo', and clause.copyClass, of any rune from 0 to the greatest of 32 bits.
-/
import Derived.Test.YtbjajipeiigodaaDoorSplit
import Derived.Laws.RangeString
import Derived.Laws.RangeAny
import Derived.Laws.Runes
import Derived.Deep.QuietTactic
import Derived.BigQuiet
namespace Go.Proofs.YtbjajipeiigodaaDoor
open Go Go.RowKit

theorem enc_cases (r : Int) (hv : Utf8.valid r = true) (h : 128 ≤ r) : (∃ a b : UInt8, Utf8.encode r = ⟨#[a, b]⟩ ∧ 128 ≤ b.toNat) ∨ (∃ a b c : UInt8, Utf8.encode r = ⟨#[a, b, c]⟩ ∧ 128 ≤ c.toNat) ∨ (∃ a b c d : UInt8, Utf8.encode r = ⟨#[a, b, c, d]⟩) := by
  have hc : ¬ r.toNat < 128 := by omega
  unfold Utf8.encode
  simp only [hv, if_true, hc, if_false]
  split
  · exact .inl ⟨_, _, rfl, by simp; omega⟩
  · split
    · exact .inr (.inl ⟨_, _, _, rfl, by simp; omega⟩)
    · exact .inr (.inr ⟨_, _, _, _, rfl⟩)
theorem valid_same (r : Int) : Lib.validRune r = Utf8.valid r := by
  unfold Lib.validRune Utf8.valid
  rw [Bool.eq_iff_iff]
  simp
  omega
theorem validRune_any (r : Int) (b : Bool) (w : World) (h : Utf8.valid r = b) : Calls Tryd.prog 90 #[.int .i32 r] w fun e w' => e = .returned (.bool b) ∧ w = w' :=
  (Tryd.utf8_ValidRune r w).mono fun _ _ h' => ⟨h'.1.trans (ret_bool (by rw [valid_same, h])), h'.2.symm⟩
theorem index_byte (s : ByteArray) (c : Int) (w : World) : Calls Tryd.prog 89 #[.string s, .int .u8 c] w fun e w' => e = .returned (.int .i64 (Lib.indexByte s.data.toList c.toNat.toUInt8)) ∧ w = w' :=
  (Tryd.strings_IndexByte s c w).mono fun _ _ h' => ⟨h'.1, h'.2.symm⟩
theorem indexByte_none (s : ByteArray) (c : UInt8) (w : World) (h : Lib.indexByte s.data.toList c = -1) : Calls Tryd.prog 89 #[.string s, .int .u8 c.toNat] w fun e w' => e = .returned (.int .i64 (-1)) ∧ w = w' :=
  (index_byte s c.toNat w).mono fun _ _ h' => ⟨h'.1.trans (ret_int (by rw [← h]; simp)), h'.2⟩

set_option maxRecDepth 100000 in
set_option maxHeartbeats 2000000 in
theorem rune_bad (r : Int) (w : World) (h : 128 ≤ r) (hne : ¬ r = 65533) (hv : Utf8.valid r = false) : Calls Tryd.prog 83 #[.string ⟨#[117, 103, 111]⟩, .int .i32 r] w fun e w' => e = .returned (.int .i64 (-1)) ∧ w = w' := by
  have h1 : ¬ r < 128 := by omega
  have h2 : (r == 65533) = false := by rw [beq_eq_false_iff_ne]; exact hne
  have H := Lib.hid hv
  clear hv hne
  go_enter Tryd.func83, Tryd.ntmps83
  go_wp2_with (go_at_call 90; refine (validRune_any _ _ _ H.out).mono ?_; rintro e w' ⟨rfl, rfl⟩)
  go_ret
  exact ⟨rfl, rfl⟩

set_option maxRecDepth 100000 in
set_option maxHeartbeats 2000000 in
theorem rune_four (r : Int) (w : World) (h : 128 ≤ r) (hne : ¬ r = 65533) (hv : Utf8.valid r = true) (a b c d : UInt8) (he : Utf8.encode r = ⟨#[a, b, c, d]⟩) : Calls Tryd.prog 83 #[.string ⟨#[117, 103, 111]⟩, .int .i32 r] w fun e w' => e = .returned (.int .i64 (-1)) ∧ w = w' := by
  have h1 : ¬ r < 128 := by omega
  have h2 : (r == 65533) = false := by rw [beq_eq_false_iff_ne]; exact hne
  have H := Lib.hid hv
  clear hv hne
  go_enter Tryd.func83, Tryd.ntmps83
  go_wp2_with (go_at_call 90; refine (validRune_any _ _ _ H.out).mono ?_; rintro e w' ⟨rfl, rfl⟩)
  go_step3
  go_wp2
  refine wp_loop_rounds 1 ?_
  rw [rounds_succ]
  go_wp2
  rw [Exit.noGoto_ret]
  go_ret
  exact ⟨rfl, rfl⟩

theorem quiet_l {P : Program} {f : FuncId} {args : Array Value} {w : World} {n : Nat} {v : Value} (h : Calls P f args (w.drewN n) fun e w' => e = .returned v ∧ w.drewN n = w') : Calls P f args (w.drewN n) fun e w'' => e = .returned v ∧ ∃ m, w'' = w.drewN m :=
  h.mono fun _ _ ⟨he, hm⟩ => ⟨he, n, hm.symm⟩
theorem quiet_ladd {P : Program} {f : FuncId} {args : Array Value} {w : World} {a n : Nat} {v : Value} (h : Calls P f args (w.drewN (a + n)) fun e w' => e = .returned v ∧ w.drewN (a + n) = w') : Calls P f args (w.drewN (a + n)) fun e w'' => e = .returned v ∧ ∃ m, w'' = w.drewN (a + m) :=
  h.mono fun _ _ ⟨he, hm⟩ => ⟨he, n, hm.symm⟩
set_option maxRecDepth 100000 in
set_option maxHeartbeats 2000000 in
theorem rune_two (r : Int) (w : World) (h : 128 ≤ r) (hne : ¬ r = 65533) (hv : Utf8.valid r = true) (a b : UInt8) (he : Utf8.encode r = ⟨#[a, b]⟩) (hb : 128 ≤ b.toNat) : Calls Tryd.prog 83 #[.string ⟨#[117, 103, 111]⟩, .int .i32 r] w fun e w' => e = .returned (.int .i64 (-1)) ∧ ∃ n, w' = w.drewN n := by
  have h1 : ¬ r < 128 := by omega
  have h2 : (r == 65533) = false := by rw [beq_eq_false_iff_ne]; exact hne
  have h3 : ((((⟨#[117, 103, 111]⟩ : ByteArray)[1]'(by decide)).toNat : Int) != (((⟨#[a, b]⟩ : ByteArray)[1]'(by exact Nat.lt_succ_self 1)).toNat : Int)) = true := by
    show ((103 : Int) != (b.toNat : Int)) = true
    rw [bne_iff_ne]; omega
  have HI := Lib.hid (show Lib.indexByte [111] b = -1 by
    rw [Lib.indexByte]
    have : ((111 : UInt8) == b) = false := by rw [beq_eq_false_iff_ne]; intro e; rw [← e] at hb; revert hb; decide
    rw [this]; rfl)
  have H := Lib.hid hv
  clear hv hne
  go_enter Tryd.func83, Tryd.ntmps83
  go_wp2_with (go_at_call 90; refine (validRune_any _ _ _ H.out).mono ?_; rintro e w' ⟨rfl, rfl⟩)
  go_step3
  go_wp2
  refine wp_loop_rounds 1 ?_
  rw [rounds_succ]
  go_wp2
  go_step3
  go_wp2
  go_quiet (fail)
  go_wp2
  go_quiet ((go_at_call 89; exact quiet_ladd (indexByte_none _ b _ HI.out)))
  go_wp2
  rw [Exit.noGoto_ret]
  go_wp2
  rw [Exit.noGoto_ret]
  go_ret
  exact ⟨rfl, _, rfl⟩

set_option maxRecDepth 100000 in
set_option maxHeartbeats 2000000 in
theorem rune_three (r : Int) (w : World) (h : 128 ≤ r) (hne : ¬ r = 65533) (hv : Utf8.valid r = true) (a b c : UInt8) (he : Utf8.encode r = ⟨#[a, b, c]⟩) (hb : 128 ≤ c.toNat) : Calls Tryd.prog 83 #[.string ⟨#[117, 103, 111]⟩, .int .i32 r] w fun e w' => e = .returned (.int .i64 (-1)) ∧ ∃ n, w' = w.drewN n := by
  have h1 : ¬ r < 128 := by omega
  have h2 : (r == 65533) = false := by rw [beq_eq_false_iff_ne]; exact hne
  have h3 : ((((⟨#[117, 103, 111]⟩ : ByteArray)[2]'(by decide)).toNat : Int) != (((⟨#[a, b, c]⟩ : ByteArray)[2]'(by exact Nat.lt_succ_self 2)).toNat : Int)) = true := by
    show ((111 : Int) != (c.toNat : Int)) = true
    rw [bne_iff_ne]; omega
  have H := Lib.hid hv
  clear hv hne
  go_enter Tryd.func83, Tryd.ntmps83
  go_wp2_with (go_at_call 90; refine (validRune_any _ _ _ H.out).mono ?_; rintro e w' ⟨rfl, rfl⟩)
  go_step3
  go_wp2
  refine wp_loop_rounds 1 ?_
  rw [rounds_succ]
  go_wp2
  go_step3
  go_wp2
  go_quiet (fail)
  go_wp2
  go_quiet ((go_at_call 89; exact quiet_ladd (indexByte_none _ c _ rfl)))
  go_wp2
  rw [Exit.noGoto_ret]
  go_wp2
  rw [Exit.noGoto_ret]
  go_ret
  exact ⟨rfl, _, rfl⟩

set_option maxRecDepth 100000 in
set_option maxHeartbeats 2000000 in
theorem rune_err (w : World) : Calls Tryd.prog 83 #[.string ⟨#[117, 103, 111]⟩, .int .i32 65533] w fun e w' => e = .returned (.int .i64 (-1)) ∧ Below w.heap.size w w' := by
  have n0 := fun ty => run_next_ascii (P := Tryd.prog) w ⟨#[117, 103, 111]⟩ 0 ty (by decide) (by decide)
  have n1 := fun ty => run_next_ascii (P := Tryd.prog) w ⟨#[117, 103, 111]⟩ 1 ty (by decide) (by decide)
  have n2 := fun ty => run_next_ascii (P := Tryd.prog) w ⟨#[117, 103, 111]⟩ 2 ty (by decide) (by decide)
  have n3 := fun ty => run_next_end (P := Tryd.prog) w ⟨#[117, 103, 111]⟩ 3 ty (by decide)
  go_enter Tryd.func83, Tryd.ntmps83
  go_wp2
  refine wp_loop_rounds 4 ?_
  rw [rounds_succ]
  go_wp2
  rw [rounds_succ]
  go_wp2
  rw [rounds_succ]
  go_wp2
  rw [rounds_succ]
  go_wp2
  go_ret
  exact ⟨rfl, (Below.refl _ _).alloc (Nat.le_refl _) _⟩
theorem rune_high (r : Int) (w : World) (h : 128 ≤ r) : Calls Tryd.prog 83 #[.string ⟨#[117, 103, 111]⟩, .int .i32 r] w fun e w' => e = .returned (.int .i64 (-1)) ∧ Below w.heap.size w w' := by
  have bd : ∀ n, Below w.heap.size w (w.drewN n) := fun n => ⟨rfl, rfl, rfl, Nat.le_refl _, fun _ _ => rfl⟩
  by_cases hne : r = 65533
  · subst hne; exact rune_err w
  · cases hv : Utf8.valid r with
    | false => exact (rune_bad r w h hne hv).mono fun _ _ ⟨he, hw⟩ => ⟨he, hw ▸ Below.refl _ _⟩
    | true =>
      rcases enc_cases r hv h with ⟨a, b, he, hb⟩ | ⟨a, b, c, he, hb⟩ | ⟨a, b, c, d, he⟩
      · exact (rune_two r w h hne hv a b he hb).mono fun _ _ ⟨he, n, hw⟩ => ⟨he, hw ▸ bd n⟩
      · exact (rune_three r w h hne hv a b c he hb).mono fun _ _ ⟨he, n, hw⟩ => ⟨he, hw ▸ bd n⟩
      · exact (rune_four r w h hne hv a b c d he).mono fun _ _ ⟨he, hw⟩ => ⟨he, hw ▸ Below.refl _ _⟩

theorem indexByte_ugo (r : Int) (h0 : 0 ≤ r) (h1 : r < 128) : 1 + Lib.indexByte [117, 103, 111] r.toNat.toUInt8 = copR r := by
  obtain ⟨n, rfl⟩ := Int.eq_ofNat_of_zero_le h0
  have hn : n < 128 := by omega
  have key : ∀ m : Fin 128, 1 + Lib.indexByte [117, 103, 111] m.val.toUInt8 = copR (m.val : Int) := by decide +kernel
  exact key ⟨n, hn⟩
theorem copyClass_any (r : Int) (w : World) (h0 : 0 ≤ r) : Calls Tryd.prog 72 #[.int .i32 r] w fun e w' => e = .returned (.int .i64 (copR r)) ∧ Below w.heap.size w w' := by
  by_cases h : r < 128
  · obtain ⟨k, hk⟩ : ∃ k, Lib.indexByte [117, 103, 111] r.toNat.toUInt8 = k := ⟨_, rfl⟩
    have hc := indexByte_ugo r h0 h
    rw [hk] at hc
    have hb : 0 ≤ copR r ∧ copR r ≤ 3 := by unfold copR; repeat' split
                                            all_goals decide
    have k1 : -1 ≤ k := by omega
    have k2 : k ≤ 2 := by omega
    have HC := Lib.hid hc
    have HI := Lib.hid (show Calls Tryd.prog 83 #[.string ⟨#[117, 103, 111]⟩, .int .i32 r] w fun e w' => e = .returned (.int .i64 k) ∧ w = w' from (Tryd.strings_IndexRune_ascii ⟨#[117, 103, 111]⟩ r w h0 h).mono fun _ _ h' => ⟨h'.1.trans (ret_int hk), h'.2.symm⟩)
    clear hk hc hb
    go_enter Tryd.func72, Tryd.ntmps72
    go_wp2_with fail
    refine HI.out.mono ?_
    rintro e w' ⟨rfl, rfl⟩
    go_wp2
    go_ret
    exact ⟨ret_int HC.out, Below.refl _ _⟩
  · have HI := Lib.hid (rune_high r w (by omega))
    have HC := Lib.hid (show copR r = 0 by unfold copR; rw [if_neg (by omega), if_neg (by omega), if_neg (by omega)])
    go_enter Tryd.func72, Tryd.ntmps72
    go_wp2_with fail
    refine HI.out.mono ?_
    rintro e w' ⟨rfl, hb⟩
    go_wp2
    go_ret
    exact ⟨ret_int HC.out.symm, hb⟩
end Go.Proofs.YtbjajipeiigodaaDoor
