/-
  What Split, Join, Base and Up answer of any path. The only condition is that a path has a million bytes at most.
-/
import Derived.Test.YthledmbdlengiaaNames
namespace Go.Proofs.Ythledmbdlengiaa
open Go Go.RowKit

theorem abs_at (p : ByteArray) : slAt p 0 = absP (tl p) := by
  unfold slAt absP
  rw [List.head?_eq_getElem?]
  rfl
theorem end_at {p : ByteArray} (h : 0 < p.size) : slAt p ((p.size : Int) - 1) = decide ((tl p).getLast? = some 47) := by
  obtain ⟨n, hn⟩ : ∃ n, p.size = n + 1 := ⟨p.size - 1, by omega⟩
  rw [List.getLast?_eq_getElem?, tl_len, hn, show ((n + 1 : Nat) : Int) - 1 = (n : Int) by omega, slAt_nat, Nat.add_sub_cancel]
  by_cases h : (tl p)[n]? = some 47
  · rw [h]; rfl
  · rw [decide_eq_false h, beq_eq_false_iff_ne]; exact h
theorem pos_of_nms {p : ByteArray} (h : 0 < (nms (tl p)).length) : 0 < p.size := by
  rw [← tl_len]
  cases hq : tl p with
  | nil => rw [hq] at h; exact absurd h (by decide)
  | cons c r => simp
theorem bAs_snoc (l : List (List UInt8)) (x : List UInt8) : bAs (l ++ [x]) = bAs l ++ [bA x] := by simp [bAs]
set_option maxRecDepth 100000 in
set_option maxHeartbeats 8000000 in
theorem split_any (p : ByteArray) (w : World) (hp : p.size ≤ 1000000) :
    Calls Try.prog 9 #[.string p] w fun e w' => ∃ v, e = .returned (.tuple #[.bool (absP (tl p)), v]) ∧ StrsR w' v (bAs (splitP (tl p))) ∧ Below w.heap.size w w' := by
  have HS := Lib.hid (slashIn_any p w)
  have HN := Lib.hid (fun w1 => names_any p w1 hp)
  have HSP := Lib.hid (show splitP (tl p) = if nms (tl p) ≠ [] ∧ (tl p).getLast? = some 47 then nms (tl p) ++ [[46]] else nms (tl p) from rfl)
  have HPOS := Lib.hid (fun h => pos_of_nms (p := p) h)
  have hnl := nms_len (tl p)
  rw [tl_len] at hnl
  have hbl := bAs_len (nms (tl p))
  generalize nms (tl p) = ns at HN HSP HPOS hnl hbl
  have hmx : p.size ≤ maxLen := by unfold maxLen; omega
  have ab := abs_at p
  generalize splitP (tl p) = R at HSP ⊢
  generalize absP (tl p) = ap at ab ⊢
  by_cases h0 : 0 < ns.length
  · have hps := HPOS.out h0
    have hne : ¬ ns = [] := by intro e; rw [e] at h0; exact absurd h0 (by decide)
    have ee := end_at hps
    have h0' : (0 : Int) < (ns.length : Int) := by omega
    by_cases hl : (tl p).getLast? = some 47
    · rw [decide_eq_true hl] at ee
      rw [if_pos ⟨hne, hl⟩] at HSP
      have HR := Lib.hid (show bAs R = bAs ns ++ [⟨#[46]⟩] by rw [HSP.out, bAs_snoc]; rfl)
      clear hl hne HSP
      go_enter Try.func9, Try.ntmps9
      go_wp2_with fail
      refine HS.out.mono ?_
      rintro e w1 ⟨rfl, hc, hb⟩
      have HC := Lib.hid hc
      have HB := Lib.hid hb
      clear hc hb HS
      go_wp2_with fail
      refine (HN.out _).mono ?_
      rintro e w2 ⟨v, rfl, ho, hb⟩
      have HO := Lib.hid ho
      have HB2 := Lib.hid hb
      have kc := bc hb HC.out
      obtain ⟨A, c, rfl⟩ := own_slice ho
      clear ho hb HN
      go_wp2_with fail
      refine (isSlash_any p _ _ w2 kc hmx).mono ?_
      rintro e w' ⟨rfl, rfl⟩
      rw [ee]
      go_wp2_with (first | (at_builtin; refine wpList_append_one rfl (.tmp 20) (.tmp 21) _ rfl w1.heap.size 9 _ 1 16 Try.underlying23 info_str rfl (by decide) (.slice A (bAs ns).length c) (bAs ns).length (sCells (bAs ns)) (by first | rfl | (rw [hbl]; rfl)) w2 [.string ⟨#[46]⟩] rfl (str_one _) HO.out rfl (by omega) (by omega) HB2.out.size ?_; intro v5 w5 ho hg; obtain ⟨A5, c5, hv5, ho5, hb5⟩ := app_one HB2.out HB2.out.size HO.out ho hg; subst hv5; have HO5 := Lib.hid ho5; have HB5 := Lib.hid hb5; have kc5 := bc hb5 HC.out; clear ho hg ho5 hb5) | fail)
      refine (isSlash_any p _ _ w5 kc5 hmx).mono ?_
      rintro e w' ⟨rfl, rfl⟩
      rw [ab]
      go_wp2
      go_ret2
      exact ⟨_, rfl, by rw [HR.out]; have h := StrsR.of_own HO5.out; rw [hbl] at h; exact h, bt HB5.out HB.out⟩
    · rw [decide_eq_false hl] at ee
      rw [if_neg (fun e => hl e.2)] at HSP
      clear hl hne
      go_enter Try.func9, Try.ntmps9
      go_wp2_with fail
      refine HS.out.mono ?_
      rintro e w1 ⟨rfl, hc, hb⟩
      have HC := Lib.hid hc
      have HB := Lib.hid hb
      clear hc hb HS
      go_wp2_with fail
      refine (HN.out _).mono ?_
      rintro e w2 ⟨v, rfl, ho, hb⟩
      have HO := Lib.hid ho
      have HB2 := Lib.hid hb
      have kc := bc hb HC.out
      obtain ⟨A, c, rfl⟩ := own_slice ho
      clear ho hb HN
      go_wp2_with fail
      refine (isSlash_any p _ _ w2 kc hmx).mono ?_
      rintro e w' ⟨rfl, rfl⟩
      rw [ee]
      go_wp2_with fail
      refine (isSlash_any p _ _ w2 kc hmx).mono ?_
      rintro e w' ⟨rfl, rfl⟩
      rw [ab]
      go_wp2
      go_ret2
      exact ⟨_, rfl, by rw [HSP.out]; have h := StrsR.of_own HO.out; first | exact h | (rw [hbl] at h; exact h), bt HB2.out HB.out⟩
  · have hn0 : ns.length = 0 := by omega
    have hns : ns = [] := List.eq_nil_of_length_eq_zero hn0
    rw [if_neg (fun e => e.1 hns)] at HSP
    rw [hn0] at hbl
    clear hns h0
    go_enter Try.func9, Try.ntmps9
    go_wp2_with fail
    refine HS.out.mono ?_
    rintro e w1 ⟨rfl, hc, hb⟩
    have HC := Lib.hid hc
    have HB := Lib.hid hb
    clear hc hb HS
    go_wp2_with fail
    refine (HN.out _).mono ?_
    rintro e w2 ⟨v, rfl, ho, hb⟩
    have HO := Lib.hid ho
    have HB2 := Lib.hid hb
    have kc := bc hb HC.out
    obtain ⟨A, c, rfl⟩ := own_slice ho
    clear ho hb HN
    go_wp2_with fail
    refine (isSlash_any p _ _ w2 kc hmx).mono ?_
    rintro e w' ⟨rfl, rfl⟩
    rw [ab]
    go_wp2
    go_ret2
    exact ⟨_, rfl, by rw [HSP.out]; have h := StrsR.of_own HO.out; first | exact h | (rw [hbl] at h; exact h), bt HB2.out HB.out⟩
end Go.Proofs.Ythledmbdlengiaa
