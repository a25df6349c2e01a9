/-
  The document's examples (awake). No condition.
-/
import Derived.Test.YthledmbdlengiaaRef4
namespace Go.Proofs.Ythledmbdlengiaa
open Go Go.RowKit

theorem strs2 (W : World) (a b : ByteArray) (g : Nat) (hg : g = W.heap.size) : StrsR (W.alloc (.cells #[.string a, .string b] 9)) (.slice (some ⟨g, 0, none⟩) 2 2) [a, b] := by
  subst hg
  refine ⟨_, _, rfl, ⟨Nat.le_refl _, fun e => by cases e⟩, fun k b hk => ⟨_, rfl, ?_⟩⟩
  match k, hk with
  | 0, hk => simp at hk; subst hk; simp [Addr.add]
  | 1, hk => simp at hk; subst hk; simp [Addr.add]
theorem strs3 (W : World) (a b c : ByteArray) (g : Nat) (hg : g = W.heap.size) : StrsR (W.alloc (.cells #[.string a, .string b, .string c] 9)) (.slice (some ⟨g, 0, none⟩) 3 3) [a, b, c] := by
  subst hg
  refine ⟨_, _, rfl, ⟨Nat.le_refl _, fun e => by cases e⟩, fun k b hk => ⟨_, rfl, ?_⟩⟩
  match k, hk with
  | 0, hk => simp at hk; subst hk; simp [Addr.add]
  | 1, hk => simp at hk; subst hk; simp [Addr.add]
  | 2, hk => simp at hk; subst hk; simp [Addr.add]
theorem aw_split : bAs (splitP (tl ⟨#[47, 97, 47, 47, 98, 47]⟩)) = [⟨#[97]⟩, ⟨#[98]⟩, ⟨#[46]⟩] := by kernel_rfl
theorem aw_abs : absP (tl ⟨#[47, 97, 47, 47, 98, 47]⟩) = true := by kernel_rfl
theorem aw_base : bA (baseP (tl ⟨#[47, 97, 47, 98, 47]⟩)) = ⟨#[98]⟩ := by kernel_rfl
theorem aw_up : bA (upP (tl ⟨#[47, 97, 47, 98, 47]⟩)) = ⟨#[47, 97]⟩ := by kernel_rfl
theorem aw_steps : bAs (stp (tl ⟨#[97, 47, 98]⟩)) = [⟨#[97]⟩, ⟨#[97, 47, 98]⟩] := by kernel_rfl
theorem aw_join : bA (joinP (tl ⟨#[97]⟩) (tl ⟨#[98]⟩)) = ⟨#[97, 47, 98]⟩ := by kernel_rfl
theorem aw_name : namB ⟨#[97]⟩ = true := by kernel_rfl
theorem aw_name2 : namB ⟨#[46, 46]⟩ = false := by kernel_rfl
theorem aw_fits : fitB ⟨#[47]⟩ 64 = true := by kernel_rfl
theorem aw_fits2 : fitB ⟨#[]⟩ 64 = false := by kernel_rfl
theorem strs_form {w : World} {v : Value} {l : List ByteArray} {n : Nat} (h : StrsR w v l) (hn : l.length = n) : ∃ A c, v = .slice A n c := by
  obtain ⟨A, c, rfl, -⟩ := h
  subst hn
  exact ⟨A, c, rfl⟩
set_option maxRecDepth 100000 in
set_option maxHeartbeats 8000000 in
theorem awake_any (w : World) : Calls Try.prog 8 #[] w fun e w' => e = .returned (.bool true) ∧ Below w.heap.size w w' := by
  have H1 := Lib.hid (split_any ⟨#[47, 97, 47, 47, 98, 47]⟩ w (by decide))
  rw [aw_split, aw_abs] at H1
  have H2 := Lib.hid (fun w1 => base_any ⟨#[47, 97, 47, 98, 47]⟩ w1 (by decide))
  rw [aw_base] at H2
  have H3 := Lib.hid (fun w1 => up_any ⟨#[47, 97, 47, 98, 47]⟩ w1 (by decide))
  rw [aw_up] at H3
  have H4 := Lib.hid (fun w1 => steps_any ⟨#[97, 47, 98]⟩ w1 (by decide))
  rw [aw_steps] at H4
  have H5 := Lib.hid (fun w1 => join_any ⟨#[97]⟩ ⟨#[98]⟩ w1 (by decide) (by decide))
  rw [aw_join] at H5
  have H6 := Lib.hid (fun w1 => Name_any ⟨#[97]⟩ w1 (by decide))
  rw [aw_name] at H6
  have H7 := Lib.hid (fun w1 => Name_any ⟨#[46, 46]⟩ w1 (by decide))
  rw [aw_name2] at H7
  have H8 := Lib.hid (fun w1 => Fits_any ⟨#[47]⟩ w1 (by decide))
  rw [aw_fits] at H8
  have H9 := Lib.hid (fun w1 => Fits_any ⟨#[]⟩ w1 (by decide))
  rw [aw_fits2] at H9
  go_enter Try.func8, Try.ntmps8
  go_wp2_with fail
  refine H1.out.mono ?_
  rintro e w1 ⟨v, rfl, hr, hb⟩
  obtain ⟨A, c, rfl⟩ := strs_form (n := 3) hr rfl
  have HB1 := Lib.hid hb
  have HR1 := Lib.hid hr
  clear hb hr
  go_wp2_with fail
  refine (same_true _ _ _ _ (HR1.out.below (al (Below.refl _ _) _)) (strs3 w1 _ _ _ _ rfl) (by decide)).mono ?_
  rintro e w2 ⟨rfl, hb⟩
  have HB2 := Lib.hid (bt hb (al HB1.out _))
  clear hb
  go_wp2_with fail
  refine (H2.out _).mono ?_
  rintro e w3 ⟨rfl, hb⟩
  have HB3 := Lib.hid (bt hb HB2.out)
  clear hb
  go_wp2_with fail
  refine (H3.out _).mono ?_
  rintro e w4 ⟨rfl, hb⟩
  have HB4 := Lib.hid (bt hb HB3.out)
  clear hb
  go_wp2_with fail
  refine (H4.out _).mono ?_
  rintro e w5 ⟨v5, rfl, hr, hb⟩
  obtain ⟨A5, c5, rfl⟩ := strs_form (n := 2) hr rfl
  have HB5 := Lib.hid (bt hb HB4.out)
  have HR5 := Lib.hid hr
  clear hb hr
  go_wp2_with fail
  refine (same_true _ _ _ _ (HR5.out.below (al (Below.refl _ _) _)) (strs2 w5 _ _ _ rfl) (by decide)).mono ?_
  rintro e w6 ⟨rfl, hb⟩
  have HB6 := Lib.hid (bt hb (al HB5.out _))
  clear hb
  go_wp2_with fail
  refine (H5.out _).mono ?_
  rintro e w7 ⟨rfl, hb⟩
  have HB7 := Lib.hid (bt hb HB6.out)
  clear hb
  go_wp2_with fail
  refine (H6.out _).mono ?_
  rintro e w8 ⟨rfl, rfl⟩
  go_wp2_with fail
  refine (H7.out _).mono ?_
  rintro e w8 ⟨rfl, rfl⟩
  go_wp2_with fail
  refine (H8.out _).mono ?_
  rintro e w8 ⟨rfl, rfl⟩
  go_wp2_with fail
  refine (H9.out _).mono ?_
  rintro e w8 ⟨rfl, rfl⟩
  go_wp2
  go_ret
  exact ⟨rfl, HB7.out⟩
end Go.Proofs.Ythledmbdlengiaa
