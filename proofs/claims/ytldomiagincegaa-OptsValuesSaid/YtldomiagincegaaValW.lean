/-
  The walk of the law OptsValues: of any two values and words it answers true.
-/
import Derived.Test.YtldomiagincegaaApp2
import Derived.Test.YtldomiagincegaaValM
import Derived.StillTailTactics
namespace Go.Proofs.Ytldomiagincegaa
open Go Go.RowKit

set_option maxHeartbeats 1000000 in
theorem valLaw_out (a b : ByteArray) (vB : Value) (rs : List ByteArray) (w : World) (hB : StrsR w vB rs) (hn2 : rs.length ≤ maxLen) (hz2 : ∀ s ∈ rs, s.size ≤ maxLen) (ha : a.size ≤ maxLen) (hb : b.size ≤ maxLen)
    (h : fewB rs = false ∨ 40 < a.size ∨ 40 < b.size ∨ a.size = 0 ∨ b.size = 0) :
    Calls Try.prog 7 #[.string a, .string b, vB] w fun e w' => e = .returned (.bool true) ∧ Below w.heap.size w w' := by
  have ha' : a.size ≤ 9223372036854775807 := by unfold maxLen at ha; omega
  have hb' : b.size ≤ 9223372036854775807 := by unfold maxLen at hb; omega
  have HA := Lib.hid (awake_any w)
  have HG := Lib.hid (fun w1 hb => few_any vB rs w1 (hB.below hb) hn2 hz2)
  obtain ⟨A', c', rfl, -, -⟩ := hB
  clear ha hb hn2 hz2
  cases hg : fewB rs with
  | false =>
    rw [hg] at HG
    clear hg h
    go_enter Try.func7, Try.ntmps7
    go_wp2_with fail
    refine HA.out.mono ?_
    rintro e w1 ⟨rfl, hb⟩
    have HB1 := Lib.hid hb
    clear hb
    go_wp2_with fail
    refine (HG.out _ HB1.out).mono ?_
    rintro e w2 ⟨rfl, rfl⟩
    go_wp2
    go_ret
    exact ⟨rfl, HB1.out⟩
  | true =>
    rw [hg] at HG h
    replace h : 40 < a.size ∨ 40 < b.size ∨ a.size = 0 ∨ b.size = 0 := by rcases h with h | h; cases h; exact h
    clear hg
    by_cases h1 : 40 < a.size
    · clear h
      go_enter Try.func7, Try.ntmps7
      go_wp2_with fail
      refine HA.out.mono ?_
      rintro e w1 ⟨rfl, hb⟩
      have HB1 := Lib.hid hb
      clear hb
      go_wp2_with fail
      refine (HG.out _ HB1.out).mono ?_
      rintro e w2 ⟨rfl, rfl⟩
      go_wp2
      go_ret
      exact ⟨rfl, HB1.out⟩
    have d1 : decide ((40 : Int) < (a.size : Int)) = false := by simp; omega
    by_cases h2 : 40 < b.size
    · clear h h1
      go_enter Try.func7, Try.ntmps7
      go_wp2_with fail
      refine HA.out.mono ?_
      rintro e w1 ⟨rfl, hb⟩
      have HB1 := Lib.hid hb
      clear hb
      go_wp2_with fail
      refine (HG.out _ HB1.out).mono ?_
      rintro e w2 ⟨rfl, rfl⟩
      go_wp2
      go_ret
      exact ⟨rfl, HB1.out⟩
    have d2 : decide ((40 : Int) < (b.size : Int)) = false := by simp; omega
    by_cases h3 : a.size = 0
    · have e1 : a.toList = [] := (empty_iff a).2 h3
      have e2 : (a.toList == []) = true := by rw [e1]; rfl
      have e3 : a.toList.isEmpty = true := by rw [e1]; rfl
      clear h h1 h2 h3
      go_enter Try.func7, Try.ntmps7
      go_wp2_with fail
      refine HA.out.mono ?_
      rintro e w1 ⟨rfl, hb⟩
      have HB1 := Lib.hid hb
      clear hb
      go_wp2_with fail
      refine (HG.out _ HB1.out).mono ?_
      rintro e w2 ⟨rfl, rfl⟩
      go_wp2
      go_ret
      exact ⟨rfl, HB1.out⟩
    have h4 : b.size = 0 := by omega
    have n1 : ¬ a.toList = [] := fun e => h3 ((empty_iff a).1 e)
    have n3 : a.toList.isEmpty = false := empty_false h3
    have e1 : b.toList = [] := (empty_iff b).2 h4
    have e2 : (b.toList == []) = true := by rw [e1]; rfl
    have e3 : b.toList.isEmpty = true := by rw [e1]; rfl
    clear h h1 h2 h3 h4
    go_enter Try.func7, Try.ntmps7
    go_wp2_with fail
    refine HA.out.mono ?_
    rintro e w1 ⟨rfl, hb⟩
    have HB1 := Lib.hid hb
    clear hb
    go_wp2_with fail
    refine (HG.out _ HB1.out).mono ?_
    rintro e w2 ⟨rfl, rfl⟩
    go_wp2
    go_ret
    exact ⟨rfl, HB1.out⟩
/-- The three options. -/
def fl3 (a b : ByteArray) : List Fl := [(109, a), (82, ⟨#[]⟩), (109, b)]
theorem parse_one {X1 a b : ByteArray} {rs : List ByteArray} {v : Value} {w : World} (hX : X1.data.toList = 45 :: 109 :: a.data.toList) (ha0 : ¬ a.size = 0) (ha : a.size ≤ 40) (hb : b.size ≤ 40) (hl : rs.length ≤ 30) (ht : tot rs ≤ 60 * rs.length) (hS : StrsR w v ([X1, ⟨#[45, 82, 109]⟩, b, ⟨#[45, 45]⟩] ++ rs)) :
    Calls Try.prog 10 #[.string ⟨#[82, 109, 58]⟩, v] w (OP w (some (fl3 a b, rs))) := by
  have hz : X1.size = a.size + 2 := by rw [len_of hX, List.length_cons, List.length_cons, size_len]
  have h := parse_any ⟨#[82, 109, 58]⟩ v _ w (by decide) hS (by simp; omega) (by
    rw [List.cons_append, List.cons_append, List.cons_append, List.cons_append, List.nil_append, tot_cons, tot_cons, tot_cons, tot_cons, hz]
    show a.size + 2 + (3 + (b.size + (2 + tot rs))) ≤ 1000000
    omega)
  rwa [show prs ⟨#[82, 109, 58]⟩ ([X1, ⟨#[45, 82, 109]⟩, b, ⟨#[45, 45]⟩] ++ rs) = some (fl3 a b, rs) from prs_one hX rfl ha0 rs] at h
theorem parse_two {X2 a b : ByteArray} {rs : List ByteArray} {v : Value} {w : World} (hX : X2.data.toList = 45 :: 82 :: 109 :: b.data.toList) (hb0 : ¬ b.size = 0) (ha : a.size ≤ 40) (hb : b.size ≤ 40) (hl : rs.length ≤ 30) (ht : tot rs ≤ 60 * rs.length) (hS : StrsR w v ([⟨#[45, 109]⟩, a, X2, ⟨#[45, 45]⟩] ++ rs)) :
    Calls Try.prog 10 #[.string ⟨#[82, 109, 58]⟩, v] w (OP w (some (fl3 a b, rs))) := by
  have hz : X2.size = b.size + 3 := by rw [len_of hX, List.length_cons, List.length_cons, List.length_cons, size_len]
  have h := parse_any ⟨#[82, 109, 58]⟩ v _ w (by decide) hS (by simp; omega) (by
    rw [List.cons_append, List.cons_append, List.cons_append, List.cons_append, List.nil_append, tot_cons, tot_cons, tot_cons, tot_cons, hz]
    show 2 + (a.size + (b.size + 3 + (2 + tot rs))) ≤ 1000000
    omega)
  rwa [show prs ⟨#[82, 109, 58]⟩ ([⟨#[45, 109]⟩, a, X2, ⟨#[45, 45]⟩] ++ rs) = some (fl3 a b, rs) from prs_two hX rfl hb0 rs] at h
theorem flag0 {w : World} {A : Option Addr} {c n : Nat} {f : Fl} {l : List Fl} (h : FlagsR w (.slice A n c) (f :: l)) : ∃ ad, A = some ad ∧ w.cell? ad = some (.int .u8 (co f.1)) ∧ w.cell? ⟨ad.block, ad.off + 1, none⟩ = some (.string f.2) := by
  obtain ⟨A', c', hv, hc⟩ := h
  injection hv with hA _ _
  subst hA
  obtain ⟨ad, hA, h0, h1⟩ := hc 0 f rfl
  rw [Nat.zero_mul, add_none] at h0 h1
  exact ⟨ad, hA, h0, h1⟩
attribute [local go_sem] eq_flag
set_option maxRecDepth 100000 in
set_option maxHeartbeats 8000000 in
theorem valLaw_in (a b : ByteArray) (vB : Value) (rs : List ByteArray) (w : World) (hB : StrsR w vB rs) (hn2 : rs.length ≤ maxLen) (hz2 : ∀ s ∈ rs, s.size ≤ maxLen) (hg : fewB rs = true) (ha : a.size ≤ 40) (hb : b.size ≤ 40) (ha0 : ¬ a.size = 0) (hb0 : ¬ b.size = 0) :
    Calls Try.prog 7 #[.string a, .string b, vB] w fun e w' => e = .returned (.bool true) ∧ Below w.heap.size w w' := by
  have hgb := few_bd hg
  have HA := Lib.hid (awake_any w)
  have HG := Lib.hid (fun w1 hb => few_any vB rs w1 (hB.below hb) hn2 hz2)
  rw [hg] at HG
  have HSB := Lib.hid hB
  have hrl : rs.length ≤ 30 := hgb.1
  have HTR := Lib.hid hgb.2
  obtain ⟨A', c', rfl, -, -⟩ := hB
  have d1 : decide ((40 : Int) < (a.size : Int)) = false := by simp; omega
  have d2 : decide ((40 : Int) < (b.size : Int)) = false := by simp; omega
  have n1 : ¬ a.toList = [] := fun e => ha0 ((empty_iff a).1 e)
  have n3 : a.toList.isEmpty = false := empty_false ha0
  have m1 : ¬ b.toList = [] := fun e => hb0 ((empty_iff b).1 e)
  have m3 : b.toList.isEmpty = false := empty_false hb0
  have HA0 := Lib.hid ha0
  have HB0 := Lib.hid hb0
  clear hn2 hz2 hgb hg ha0 hb0
  go_enter Try.func7, Try.ntmps7
  go_wp2_with fail
  refine HA.out.mono ?_
  rintro e w1 ⟨rfl, hb1⟩
  have HB1 := Lib.hid hb1
  clear hb1
  go_wp2_with fail
  refine (HG.out _ HB1.out).mono ?_
  rintro e w2 ⟨rfl, rfl⟩
  clear HA HG
  obtain ⟨X1, hX1⟩ : ∃ X1, (⟨#[45, 109]⟩ ++ a : ByteArray) = X1 := ⟨_, rfl⟩
  obtain ⟨X2, hX2⟩ : ∃ X2, (⟨#[45, 82, 109]⟩ ++ b : ByteArray) = X2 := ⟨_, rfl⟩
  have HX1 := Lib.hid (show X1.data.toList = 45 :: 109 :: a.data.toList by rw [← hX1]; simp)
  have HX2 := Lib.hid (show X2.data.toList = 45 :: 82 :: 109 :: b.data.toList by rw [← hX2]; simp)
  obtain ⟨Wa, hWa⟩ : ∃ Wa, w1.alloc (.cells #[.string X1, .string ⟨#[45, 82, 109]⟩, .string b, .string ⟨#[45, 45]⟩] 9) = Wa := ⟨_, rfl⟩
  obtain ⟨Wb, hWb⟩ : ∃ Wb, Wa.alloc (.cells #[.string ⟨#[45, 109]⟩, .string a, .string X2, .string ⟨#[45, 45]⟩] 9) = Wb := ⟨_, rfl⟩
  have hza : Wa.heap.size = w1.heap.size + 1 := by rw [← hWa]; simp
  have hzb : Wb.heap.size = w1.heap.size + 2 := by rw [← hWb]; simp [hza]
  have hba : Below w1.heap.size w1 Wa := by rw [← hWa]; exact al (Below.refl _ _) _
  have hbb : Below w1.heap.size w1 Wb := by rw [← hWb]; exact al hba _
  have hk1 : Blk Wb w1.heap.size 9 #[.string X1, .string ⟨#[45, 82, 109]⟩, .string b, .string ⟨#[45, 45]⟩] := by rw [← hWb]; refine Blk.alloc ?_ _; rw [← hWa]; exact Blk.new _ _ _
  have hk2 : Blk Wb (w1.heap.size + 1) 9 #[.string ⟨#[45, 109]⟩, .string a, .string X2, .string ⟨#[45, 45]⟩] := by rw [← hza, ← hWb]; exact Blk.new _ _ _
  have HO1 := Lib.hid (own_lit (B := w1.heap.size) (l := [X1, ⟨#[45, 82, 109]⟩, b, ⟨#[45, 45]⟩]) (n := 4) hk1 rfl rfl (Nat.le_refl _) (by decide))
  have HO2 := Lib.hid (own_lit (B := w1.heap.size) (l := [⟨#[45, 109]⟩, a, X2, ⟨#[45, 45]⟩]) (n := 4) hk2 rfl rfl (Nat.le_succ _) (by decide))
  have HBB := Lib.hid hbb
  have HZB := Lib.hid hzb
  have HSb := Lib.hid (HSB.out.below (bt hbb HB1.out))
  have HN1 := Lib.hid (show ([X1, ⟨#[45, 82, 109]⟩, b, ⟨#[45, 45]⟩] ++ rs : List ByteArray).length = 4 + rs.length by simp; omega)
  have HN2 := Lib.hid (show ([⟨#[45, 109]⟩, a, X2, ⟨#[45, 45]⟩] ++ rs : List ByteArray).length = 4 + rs.length by simp; omega)
  clear hk1 hk2 hba hbb hzb
  go_wp2_with (first
    | (at_builtin; refine wpList_append_strs2 rfl (.tmp 52) (.tmp 53) rfl w1.heap.size (.slice (some ⟨w1.heap.size, 0, none⟩) 4 4) [X1, ⟨#[45, 82, 109]⟩, b, ⟨#[45, 45]⟩] rfl HO1.out (.slice A' rs.length c') rs rfl HSb.out (by simp; omega) HBB.out.size ?_; intro v3 w3 ho hg hat; obtain ⟨A3, c3, hv3, ho3, hne3, ho2, hb3⟩ := apart1 HZB.out HBB.out HO2.out HN1.out ho hg hat; subst hv3; have HO3 := Lib.hid ho3; have HNE3 := Lib.hid hne3; have HO23 := Lib.hid ho2; have HB3 := Lib.hid hb3; have HS3 := Lib.hid (HSB.out.below (bt hb3 HB1.out)); clear ho hg hat ho3 hne3 ho2 hb3)
    | (at_builtin; refine wpList_append_strs2 rfl (.tmp 55) (.tmp 56) rfl w1.heap.size (.slice (some ⟨w1.heap.size + 1, 0, none⟩) 4 4) [⟨#[45, 109]⟩, a, X2, ⟨#[45, 45]⟩] rfl HO23.out (.slice A' rs.length c') rs rfl HS3.out (by simp; omega) HB3.out.size ?_; intro v4 w4 ho hg hat; obtain ⟨A4, c4, hv4, hs4, hs3, hb4⟩ := apart2 HB3.out HO3.out HNE3.out HN2.out ho hg; subst hv4; have HS4 := Lib.hid hs4; have HS3b := Lib.hid hs3; have HB4 := Lib.hid hb4; clear ho hg hat hs4 hs3 hb4)
    | fail)
  refine (parse_one HX1.out HA0.out ha hb hrl HTR.out HS3b.out).mono ?_
  intro e w5 hop
  obtain ⟨A5, c5, A6, c6, rfl, hF5, hS5, hb5⟩ := op_some (n := 3) (m := rs.length) rfl rfl hop
  have HB5 := Lib.hid (bt hb5 (bt HB4.out HB1.out))
  have HO5 := Lib.hid (show OptsR w5 (.agg #[.slice A5 3 c5, .slice A6 rs.length c6]) (fl3 a b) rs from ⟨_, _, rfl, hF5, hS5⟩)
  obtain ⟨ad5, rfl, x0, x1⟩ := flag0 hF5
  have HX0 := Lib.hid x0
  have HX1' := Lib.hid x1
  have HS5 := Lib.hid (HS4.out.below hb5)
  clear hop hF5 hS5 hb5 x0 x1 HS3b HS4 HS3 HO1 HO2 HO3 HO23 HN1 HN2 HSb hX1 hX2 hWa hWb hza
  go_wp2_with fail
  refine (parse_two HX2.out HB0.out ha hb hrl HTR.out (HS5.out.below (al (Below.refl _ _) _))).mono ?_
  intro e w6 hop
  obtain ⟨A7, c7, A8, c8, rfl, hF6, hS6, hb6⟩ := op_some (n := 3) (m := rs.length) rfl rfl hop
  have HB6 := Lib.hid (bt hb6 (al HB5.out _))
  have HB65 := Lib.hid (bt hb6 (al (Below.refl _ _) _))
  have HO6 := Lib.hid (show OptsR w6 (.agg #[.slice A7 3 c7, .slice A8 rs.length c8]) (fl3 a b) rs from ⟨_, _, rfl, hF6, hS6⟩)
  have HK6 := Lib.hid ((Blk.new w5 27 #[_, _]).below hb6)
  obtain ⟨ad7, rfl, y0, y1⟩ := flag0 hF6
  have HY0 := Lib.hid y0
  have HY1 := Lib.hid y1
  have k0 := HK6.out.cell 0
  have k1 := HK6.out.cell 1
  have hk6 := HK6.out.lt
  simp at k0 k1
  clear hop hF6 hS6 hb6 y0 y1 HS5
  have HV := Lib.hid (fun v l w h => value_any v (fl3 a b) l 109 w h (by show 3 ≤ 1000000; decide))
  rw [show lastF (fl3 a b) [109] = some (109, b) from rfl, show (lv (some (109, b))).2 = b from rfl, show co 109 = 109 from rfl] at HV
  have HH := Lib.hid (fun v l w h => has_any v (fl3 a b) l 82 w h (by show 3 ≤ 1000000; decide))
  rw [show lastF (fl3 a b) [82] = some (82, ⟨#[]⟩) from rfl, show co 82 = 82 from rfl] at HH
  go_wp2_with fail
  refine (HV.out _ _ _ ((HO5.out.below HB65.out).below (al (Below.refl _ _) _))).mono ?_
  rintro e w7 ⟨rfl, hb7⟩
  have HB7 := Lib.hid (bt hb7 (al HB6.out _))
  have HB76 := Lib.hid (bt hb7 (al (Below.refl _ _) _))
  have HK7 := Lib.hid ((HK6.out.alloc _).below hb7)
  have HL7 := Lib.hid ((Blk.new w6 27 #[_, _]).below hb7)
  have l0 := HL7.out.cell 0
  have l1 := HL7.out.cell 1
  simp at l0 l1
  clear hb7 k0 k1
  go_wp2_with fail
  refine (HV.out _ _ _ (HO6.out.below HB76.out)).mono ?_
  rintro e w8 ⟨rfl, hb8⟩
  have HB8 := Lib.hid (bt hb8 HB7.out)
  have HB86 := Lib.hid (bt hb8 HB76.out)
  have HB85 := Lib.hid (bt HB86.out HB65.out)
  have k0 := (HK7.out.below hb8).cell 0
  have k1 := (HK7.out.below hb8).cell 1
  have l0' := (HL7.out.below hb8).cell 0
  have l1' := (HL7.out.below hb8).cell 1
  simp at k0 k1 l0' l1'
  have x0 := bc HB85.out HX0.out
  have x1 := bc HB85.out HX1'.out
  have y0 := bc HB86.out HY0.out
  have y1 := bc HB86.out HY1.out
  have n2 : ((rs.length : Int) != (rs.length : Int)) = false := by simp
  have p1 : (b.toList == b.toList) = true := by simp
  have p2 : (a.toList == a.toList) = true := by simp
  clear hb8 l0 l1
  have p3 : (co 109 == co 109) = true := by simp
  go_wp2
  go_still_tail 36, (by kernel_rfl)
  change wpList _ _ _ _ _ (World.drew _)
  have HB9 := Lib.hid HB8.out.drew
  have HB95 := Lib.hid HB85.out.drew
  generalize w8.drew = W9 at HB9 HB95 ⊢
  go_wp2_with fail
  refine (HH.out _ _ _ (HO5.out.below HB95.out)).mono ?_
  rintro e w9 ⟨rfl, hb9⟩
  have HBF := Lib.hid (bt hb9 HB9.out)
  clear hb9
  go_wp2
  go_ret
  exact ⟨rfl, HBF.out⟩
theorem valWalk (a b : ByteArray) (vB : Value) (rs : List ByteArray) (w : World) (ha : a.size ≤ maxLen) (hb : b.size ≤ maxLen) (hB : StrsR w vB rs) (hn2 : rs.length ≤ maxLen) (hz2 : ∀ s ∈ rs, s.size ≤ maxLen) :
    Calls Try.prog 7 #[.string a, .string b, vB] w fun e w' => e = .returned (.bool true) ∧ Below w.heap.size w w' := by
  by_cases h : fewB rs = false ∨ 40 < a.size ∨ 40 < b.size ∨ a.size = 0 ∨ b.size = 0
  · exact valLaw_out a b vB rs w hB hn2 hz2 ha hb h
  · have hf : fewB rs = true := by
      cases e : fewB rs with
      | true => rfl
      | false => exact absurd (.inl e) h
    exact valLaw_in a b vB rs w hB hn2 hz2 hf (by omega) (by omega) (by omega) (by omega)
end Go.Proofs.Ytldomiagincegaa
