/-
  What Join, Base and Up answer of any path. The only condition is that a path has a million bytes at most.
-/
import Derived.Test.YthledmbdlengiaaPaths
namespace Go.Proofs.Ythledmbdlengiaa
open Go Go.RowKit

theorem ret_str {a b : ByteArray} (h : a = b) : Ending.returned (.string a) = .returned (.string b) := by rw [h]
theorem join_no {d n : ByteArray} (h : d.size = 0 ∨ (tl d).getLast? = some 47) : d ++ n = bA (joinP (tl d) (tl n)) := by
  apply bA_eq
  rw [tl_app, joinP, if_pos]
  rcases h with h | h
  · exact .inl (List.eq_nil_of_length_eq_zero (by rw [tl_len]; exact h))
  · exact .inr h
theorem join_yes {d n : ByteArray} (h0 : 0 < d.size) (h : ¬ (tl d).getLast? = some 47) : (d ++ ⟨#[47]⟩) ++ n = bA (joinP (tl d) (tl n)) := by
  apply bA_eq
  rw [tl_app, tl_app, joinP, if_neg]
  · show tl d ++ [47] ++ tl n = _
    simp
  · rintro (e | e)
    · have := congrArg List.length e
      rw [tl_len, List.length_nil] at this
      omega
    · exact h e
theorem eq_empty (s : ByteArray) (h : 0 < s.size) : (s.toList == []) = false := by
  rw [beq_eq_false_iff_ne]
  intro e
  have := (empty_iff s).1 e
  omega
set_option maxRecDepth 100000 in
set_option maxHeartbeats 8000000 in
theorem join_any (d n : ByteArray) (w : World) (hd : d.size ≤ 1000000) (hn : n.size ≤ 1000000) :
    Calls Try.prog 22 #[.string d, .string n] w fun e w' => e = .returned (.string (bA (joinP (tl d) (tl n)))) ∧ Below w.heap.size w w' := by
  have HS := Lib.hid (slashIn_any d w)
  have hmx : d.size ≤ maxLen := by unfold maxLen; omega
  by_cases h0 : 0 < d.size
  · have e0 := eq_empty d h0
    have i0 := empty_false (s := d) (by omega)
    have ee := end_at h0
    by_cases hl : (tl d).getLast? = some 47
    · rw [decide_eq_true hl] at ee
      have HJ := Lib.hid (join_no (n := n) (.inr hl))
      clear hl
      go_enter Try.func22, Try.ntmps22
      go_wp2_with fail
      refine HS.out.mono ?_
      rintro e w1 ⟨rfl, kc, hb⟩
      have HB := Lib.hid hb
      clear hb HS
      go_wp2_with fail
      refine (isSlash_any d _ _ w1 kc hmx).mono ?_
      rintro e w' ⟨rfl, rfl⟩
      rw [ee]
      go_wp2
      go_ret
      exact ⟨ret_str HJ.out, HB.out⟩
    · rw [decide_eq_false hl] at ee
      have HJ := Lib.hid (join_yes (n := n) h0 hl)
      clear hl
      have hz : (d ++ ⟨#[47]⟩ : ByteArray).size ≤ 1000001 := by rw [← tl_len, tl_app, List.length_append, tl_len]; show d.size + 1 ≤ _; omega
      go_enter Try.func22, Try.ntmps22
      go_wp2_with fail
      refine HS.out.mono ?_
      rintro e w1 ⟨rfl, kc, hb⟩
      have HB := Lib.hid hb
      clear hb HS
      go_wp2_with fail
      refine (isSlash_any d _ _ w1 kc hmx).mono ?_
      rintro e w' ⟨rfl, rfl⟩
      rw [ee]
      go_wp2
      go_ret
      exact ⟨ret_str HJ.out, HB.out⟩
  · have i0 : d.toList = [] := (empty_iff d).2 (by omega)
    have HJ := Lib.hid (join_no (d := d) (n := n) (.inl (by omega)))
    go_enter Try.func22, Try.ntmps22
    go_wp2_with fail
    refine HS.out.mono ?_
    rintro e w1 ⟨rfl, kc, hb⟩
    have HB := Lib.hid hb
    clear hb HS
    go_wp2
    go_ret
    exact ⟨ret_str HJ.out, HB.out⟩
/-- The last of texts that are read. -/
theorem strs_get {w : World} {A : Option Addr} {n c : Nat} {l : List ByteArray} (h : StrsR w (.slice A n c) l) {k : Nat} {s : ByteArray} (hk : l[k]? = some s) : ∃ ad : Addr, A = some ad ∧ w.cell? (ad.add k) = some (.string s) := by
  obtain ⟨A', c', hv, -, hc⟩ := h
  injection hv with hA
  subst hA
  exact hc k s hk
set_option maxRecDepth 100000 in
set_option maxHeartbeats 8000000 in
theorem base_any (p : ByteArray) (w : World) (hp : p.size ≤ 1000000) :
    Calls Try.prog 18 #[.string p] w fun e w' => e = .returned (.string (bA (baseP (tl p)))) ∧ Below w.heap.size w w' := by
  have HN := Lib.hid (names_any p w hp)
  have HBP := Lib.hid (show baseP (tl p) = (match (nms (tl p)).getLast? with
    | some n => n
    | none => if absP (tl p) = true then [47] else []) from rfl)
  have hnl := nms_len (tl p)
  rw [tl_len] at hnl
  have hbl := bAs_len (nms (tl p))
  generalize nms (tl p) = ns at HN HBP hnl hbl
  have hmx : p.size ≤ maxLen := by unfold maxLen; omega
  have ab := abs_at p
  generalize baseP (tl p) = R at HBP ⊢
  by_cases h0 : 0 < ns.length
  · obtain ⟨k, hk⟩ : ∃ k, ns.length = k + 1 := ⟨ns.length - 1, by omega⟩
    obtain ⟨x, hx⟩ : ∃ x, ns[k]? = some x := ⟨_, List.getElem?_eq_getElem (by omega)⟩
    have HX := Lib.hid (show (bAs ns)[k]? = some (bA R) by
      rw [HBP.out, List.getLast?_eq_getElem?, hk, Nat.add_sub_cancel, hx]
      exact bAs_at hx)
    rw [hk] at hbl
    clear hx HBP h0
    go_enter Try.func18, Try.ntmps18
    go_wp2_with fail
    refine HN.out.mono ?_
    rintro e w2 ⟨v, rfl, ho, hb⟩
    have HB := Lib.hid hb
    have hr := StrsR.of_own ho
    obtain ⟨A, c, rfl⟩ := own_slice ho
    obtain ⟨ad, rfl, e0⟩ := strs_get hr HX.out
    clear ho hb HN hr
    rw [hbl]
    go_wp2
    go_ret
    exact ⟨rfl, HB.out⟩
  · have hn0 : ns.length = 0 := by omega
    have hns : ns = [] := List.eq_nil_of_length_eq_zero hn0
    rw [hn0] at hbl
    rw [hns] at HBP
    have HR := Lib.hid (show R = if absP (tl p) = true then [47] else [] from HBP.out)
    clear hns h0 HBP hn0
    generalize absP (tl p) = ap at HR ab
    cases ap with
    | true =>
      rw [if_pos rfl] at HR
      go_enter Try.func18, Try.ntmps18
      go_wp2_with fail
      refine HN.out.mono ?_
      rintro e w2 ⟨v, rfl, ho, hb⟩
      have HB := Lib.hid hb
      obtain ⟨A, c, rfl⟩ := own_slice ho
      clear ho hb HN
      rw [hbl]
      go_wp2_with fail
      refine (slashIn_any p _).mono ?_
      rintro e w3 ⟨rfl, kc, hb⟩
      have HB3 := Lib.hid (bt hb HB.out)
      clear hb
      go_wp2_with fail
      refine (isSlash_any p _ _ w3 kc hmx).mono ?_
      rintro e w' ⟨rfl, rfl⟩
      rw [ab]
      go_wp2
      go_ret
      exact ⟨ret_str (by rw [HR.out]; rfl), HB3.out⟩
    | false =>
      rw [if_neg (by decide)] at HR
      go_enter Try.func18, Try.ntmps18
      go_wp2_with fail
      refine HN.out.mono ?_
      rintro e w2 ⟨v, rfl, ho, hb⟩
      have HB := Lib.hid hb
      obtain ⟨A, c, rfl⟩ := own_slice ho
      clear ho hb HN
      rw [hbl]
      go_wp2_with fail
      refine (slashIn_any p _).mono ?_
      rintro e w3 ⟨rfl, kc, hb⟩
      have HB3 := Lib.hid (bt hb HB.out)
      clear hb
      go_wp2_with fail
      refine (isSlash_any p _ _ w3 kc hmx).mono ?_
      rintro e w' ⟨rfl, rfl⟩
      rw [ab]
      go_wp2
      go_ret
      exact ⟨ret_str (by rw [HR.out]; rfl), HB3.out⟩
set_option maxRecDepth 100000 in
set_option maxHeartbeats 8000000 in
theorem up_any (p : ByteArray) (w : World) (hp : p.size ≤ 1000000) :
    Calls Try.prog 20 #[.string p] w fun e w' => e = .returned (.string (bA (upP (tl p)))) ∧ Below w.heap.size w w' := by
  have HN := Lib.hid (steps_any p w hp)
  have HUP := Lib.hid (up_stp (tl p))
  have hnl := sps_len (tl p)
  rw [tl_len, len_sps'] at hnl
  have hbl := bAs_len (stp (tl p))
  generalize stp (tl p) = ns at HN HUP hnl hbl
  have hmx : p.size ≤ maxLen := by unfold maxLen; omega
  have ab := abs_at p
  generalize upP (tl p) = R at HUP ⊢
  by_cases h0 : 1 < ns.length
  · obtain ⟨k, hk⟩ : ∃ k, ns.length = k + 2 := ⟨ns.length - 2, by omega⟩
    obtain ⟨x, hx⟩ : ∃ x, ns[k]? = some x := ⟨_, List.getElem?_eq_getElem (by omega)⟩
    have HX := Lib.hid (show (bAs ns)[k]? = some (bA R) by
      rw [HUP.out, if_pos h0, hk, Nat.add_sub_cancel, List.getD_eq_getElem?_getD, hx]
      exact bAs_at hx)
    clear hx HUP h0
    go_enter Try.func20, Try.ntmps20
    go_wp2_with fail
    refine HN.out.mono ?_
    rintro e w2 ⟨v, rfl, hr, hb⟩
    have HB := Lib.hid hb
    obtain ⟨A, c, rfl⟩ : ∃ A c, v = .slice A (k + 2) c := by
      obtain ⟨A, c, hv, -⟩ := hr
      exact ⟨A, c, by rw [hv, hbl, hk]⟩
    obtain ⟨ad, rfl, e0⟩ := strs_get hr HX.out
    clear hb HN hr hbl
    go_wp2
    go_ret
    exact ⟨rfl, HB.out⟩
  · have HR := Lib.hid (show R = if absP (tl p) = true then [47] else [46] by rw [HUP.out, if_neg h0])
    have h0' : ¬ (1 : Int) < (ns.length : Int) := by omega
    clear h0 HUP
    generalize absP (tl p) = ap at HR ab
    cases ap with
    | true =>
      rw [if_pos rfl] at HR
      go_enter Try.func20, Try.ntmps20
      go_wp2_with fail
      refine HN.out.mono ?_
      rintro e w2 ⟨v, rfl, hr, hb⟩
      have HB := Lib.hid hb
      obtain ⟨A, c, rfl⟩ : ∃ A c, v = .slice A ns.length c := by
        obtain ⟨A, c, hv, -⟩ := hr
        exact ⟨A, c, by rw [hv, hbl]⟩
      clear hr hb HN hbl
      go_wp2_with fail
      refine (slashIn_any p _).mono ?_
      rintro e w3 ⟨rfl, kc, hb⟩
      have HB3 := Lib.hid (bt hb HB.out)
      clear hb
      go_wp2_with fail
      refine (isSlash_any p _ _ w3 kc hmx).mono ?_
      rintro e w' ⟨rfl, rfl⟩
      rw [ab]
      go_wp2
      go_ret
      exact ⟨ret_str (by rw [HR.out]; rfl), HB3.out⟩
    | false =>
      rw [if_neg (by decide)] at HR
      go_enter Try.func20, Try.ntmps20
      go_wp2_with fail
      refine HN.out.mono ?_
      rintro e w2 ⟨v, rfl, hr, hb⟩
      have HB := Lib.hid hb
      obtain ⟨A, c, rfl⟩ : ∃ A c, v = .slice A ns.length c := by
        obtain ⟨A, c, hv, -⟩ := hr
        exact ⟨A, c, by rw [hv, hbl]⟩
      clear hr hb HN hbl
      go_wp2_with fail
      refine (slashIn_any p _).mono ?_
      rintro e w3 ⟨rfl, kc, hb⟩
      have HB3 := Lib.hid (bt hb HB.out)
      clear hb
      go_wp2_with fail
      refine (isSlash_any p _ _ w3 kc hmx).mono ?_
      rintro e w' ⟨rfl, rfl⟩
      rw [ab]
      go_wp2
      go_ret
      exact ⟨ret_str (by rw [HR.out]; rfl), HB3.out⟩
end Go.Proofs.Ythledmbdlengiaa
