/-
  What paths.Join answers. The condition: no text of more than a million bytes.
-/
import Derived.Test.YtilepnepcamnaaaGreatPA
namespace Go.Proofs.YtilepnepcamnaaaGreat
open Go Go.RowKit
set_option maxRecDepth 100000

theorem join_no {d n : ByteArray} (h : d.size = 0 ∨ (tl d).getLast? = some 47) : d ++ n = bA (joinP (tl d) (tl n)) := by
  apply bA_eq
  rw [tl_app, joinP, if_pos]
  rcases h with h | h
  · exact .inl (List.eq_nil_of_length_eq_zero (by rw [tl_len]; exact h))
  · exact .inr h
theorem join_yes {d n : ByteArray} (h0 : 0 < d.size) (h : ¬ (tl d).getLast? = some 47) : (d ++ ⟨#[47]⟩) ++ n = bA (joinP (tl d) (tl n)) := by
  apply bA_eq
  rw [tl_app, tl_app, joinP, if_neg]
  · show tl d ++ [47] ++ tl n = _
    simp
  · rintro (e | e)
    · have := congrArg List.length e
      rw [tl_len, List.length_nil] at this
      omega
    · exact h e
theorem eq_empty (s : ByteArray) (h : 0 < s.size) : (s.toList == []) = false := by
  rw [beq_eq_false_iff_ne]
  intro e
  have := (empty_iff s).1 e
  omega
set_option maxRecDepth 100000 in
set_option maxHeartbeats 8000000 in
theorem join_any (d n : ByteArray) (w : World) (hd : d.size ≤ 1000000) (hn : n.size ≤ 1000000) :
    Calls Tryz.prog 26 #[.string d, .string n] w fun e w' => e = .returned (.string (bA (joinP (tl d) (tl n)))) ∧ Below w.heap.size w w' := by
  have HS := Lib.hid (slashIn_any d w)
  have hmx : d.size ≤ maxLen := by unfold maxLen; omega
  by_cases h0 : 0 < d.size
  · have e0 := eq_empty d h0
    have i0 := empty_false (s := d) (by omega)
    have ee := end_at h0
    by_cases hl : (tl d).getLast? = some 47
    · rw [decide_eq_true hl] at ee
      have HJ := Lib.hid (join_no (n := n) (.inr hl))
      clear hl
      go_enter Tryz.func26, Tryz.ntmps26
      go_wp2_with fail
      refine HS.out.mono ?_
      rintro e w1 ⟨rfl, kc, hb⟩
      have HB := Lib.hid hb
      clear hb HS
      go_wp2_with fail
      refine (isSlash_any d _ _ w1 kc hmx).mono ?_
      rintro e w' ⟨rfl, rfl⟩
      rw [ee]
      go_wp2
      go_ret
      exact ⟨ret_str HJ.out, HB.out⟩
    · rw [decide_eq_false hl] at ee
      have HJ := Lib.hid (join_yes (n := n) h0 hl)
      clear hl
      have hz : (d ++ ⟨#[47]⟩ : ByteArray).size ≤ 1000001 := by rw [← tl_len, tl_app, List.length_append, tl_len]; show d.size + 1 ≤ _; omega
      go_enter Tryz.func26, Tryz.ntmps26
      go_wp2_with fail
      refine HS.out.mono ?_
      rintro e w1 ⟨rfl, kc, hb⟩
      have HB := Lib.hid hb
      clear hb HS
      go_wp2_with fail
      refine (isSlash_any d _ _ w1 kc hmx).mono ?_
      rintro e w' ⟨rfl, rfl⟩
      rw [ee]
      go_wp2
      go_ret
      exact ⟨ret_str HJ.out, HB.out⟩
  · have i0 : d.toList = [] := (empty_iff d).2 (by omega)
    have HJ := Lib.hid (join_no (d := d) (n := n) (.inl (by omega)))
    go_enter Tryz.func26, Tryz.ntmps26
    go_wp2_with fail
    refine HS.out.mono ?_
    rintro e w1 ⟨rfl, kc, hb⟩
    have HB := Lib.hid hb
    clear hb HS
    go_wp2
    go_ret
    exact ⟨ret_str HJ.out, HB.out⟩
end Go.Proofs.YtilepnepcamnaaaGreat
