/-
  The walk of the law OptsRest: of any letters and words it answers true.
-/
import Derived.Test.YtldomiagincegaaAwake
import Derived.Test.YtldomiagincegaaRestM
import Derived.Test.YtldomiagincegaaRef
import Derived.Test.YtldomiagincegaaParseW
import Derived.Deep.QuietTactic
import Derived.BigQuiet
namespace Go.Proofs.Ytldomiagincegaa
open Go Go.RowKit

theorem restLaw_out (may : ByteArray) (vA vB : Value) (ws rs : List ByteArray) (w : World) (hA : StrsR w vA ws) (hn : ws.length ≤ maxLen) (hz : ∀ s ∈ ws, s.size ≤ maxLen) (hB : StrsR w vB rs) (hn2 : rs.length ≤ maxLen) (hz2 : ∀ s ∈ rs, s.size ≤ maxLen)
    (hm : may.size ≤ maxLen) (h : (fewB ws && fewB rs) = false ∨ 60 < may.size) :
    Calls Try.prog 5 #[.string may, vA, vB] w fun e w' => e = .returned (.bool true) ∧ Below w.heap.size w w' := by
  have hm' : may.size ≤ 9223372036854775807 := by unfold maxLen at hm; omega
  have HA := Lib.hid (awake_any w)
  have HF := Lib.hid (fun w1 hb => few_any vA ws w1 (hA.below hb) hn hz)
  have HG := Lib.hid (fun w1 hb => few_any vB rs w1 (hB.below hb) hn2 hz2)
  obtain ⟨A, c, rfl, -, -⟩ := hA
  obtain ⟨A', c', rfl, -, -⟩ := hB
  clear hn hz hm hn2 hz2
  cases hf : fewB ws with
  | false =>
    rw [hf] at HF
    clear hf h
    go_enter Try.func5, Try.ntmps5
    go_wp2_with fail
    refine HA.out.mono ?_
    rintro e w1 ⟨rfl, hb⟩
    have HB1 := Lib.hid hb
    clear hb
    go_wp2_with fail
    refine (HF.out _ HB1.out).mono ?_
    rintro e w2 ⟨rfl, rfl⟩
    go_wp2
    go_ret
    exact ⟨rfl, HB1.out⟩
  | true =>
    rw [hf] at HF
    cases hg : fewB rs with
    | false =>
      rw [hg] at HG
      clear hf hg h
      go_enter Try.func5, Try.ntmps5
      go_wp2_with fail
      refine HA.out.mono ?_
      rintro e w1 ⟨rfl, hb⟩
      have HB1 := Lib.hid hb
      clear hb
      go_wp2_with fail
      refine (HF.out _ HB1.out).mono ?_
      rintro e w2 ⟨rfl, rfl⟩
      go_wp2_with fail
      refine (HG.out _ HB1.out).mono ?_
      rintro e w2 ⟨rfl, rfl⟩
      go_wp2
      go_ret
      exact ⟨rfl, HB1.out⟩
    | true =>
      have h1 : (60 : Int) < may.size := by rw [hf, hg] at h; rcases h with h | h; cases h; omega
      rw [hg] at HG
      clear hf hg h
      go_enter Try.func5, Try.ntmps5
      go_wp2_with fail
      refine HA.out.mono ?_
      rintro e w1 ⟨rfl, hb⟩
      have HB1 := Lib.hid hb
      clear hb
      go_wp2_with fail
      refine (HF.out _ HB1.out).mono ?_
      rintro e w2 ⟨rfl, rfl⟩
      go_wp2_with fail
      refine (HG.out _ HB1.out).mono ?_
      rintro e w2 ⟨rfl, rfl⟩
      go_wp2
      go_ret
      exact ⟨rfl, HB1.out⟩
theorem own_nil_str (w : World) : w.ownsRow w.heap.size 9 1 (.slice none 0 0) ([] : List ByteArray).length (sCells []) := World.ownsRow_nil _ _ _ _
theorem sCells_snoc (l : List ByteArray) (s : ByteArray) : sCells l ++ [.string s] = sCells (l ++ [s]) := by simp [sCells]
theorem str_one (s : ByteArray) : ∀ u ∈ [Value.string s], u.oneCell' = true := by
  intro u hu
  rw [List.mem_singleton] at hu
  subst hu
  rfl
theorem app_one {W w4 w5 : World} {v v5 : Value} {l : List ByteArray} {s : ByteArray} (hb : Below W.heap.size W w4) (ho4 : w4.ownsRow W.heap.size 9 1 v l.length (sCells l)) (ho : w5.ownsRow W.heap.size 9 1 v5 (l.length + 1) (sCells l ++ [.string s])) (hg : w4.grownBy w5 v.ownBlock) :
    ∃ A c, v5 = .slice A (l.length + 1) c ∧ w5.ownsRow W.heap.size 9 1 (.slice A (l.length + 1) c) (l ++ [s]).length (sCells (l ++ [s])) ∧ Below W.heap.size W w5 := by
  obtain ⟨A, c, rfl⟩ := own_slice ho
  rw [sCells_snoc] at ho
  exact ⟨A, c, rfl, by rw [List.length_append]; exact ho, hb.grown hg hb.size (fun q hq => (ho4.lt q hq).1)⟩
theorem app_more {W w4 w5 : World} {v v5 : Value} {l m : List ByteArray} {n : Nat} (hn : (l ++ m).length = n) (hb : Below W.heap.size W w4) (ho4 : w4.ownsRow W.heap.size 9 1 v l.length (sCells l)) (ho : w5.ownsRow W.heap.size 9 1 v5 (l ++ m).length (sCells (l ++ m))) (hg : w4.grownBy w5 v.ownBlock) :
    ∃ A c, v5 = .slice A n c ∧ StrsR w5 (.slice A n c) (l ++ m) ∧ Below W.heap.size W w5 := by
  subst hn
  obtain ⟨A, c, rfl⟩ := own_slice ho
  exact ⟨A, c, rfl, StrsR.of_own ho, hb.grown hg hb.size (fun q hq => (ho4.lt q hq).1)⟩
set_option maxRecDepth 100000 in
set_option maxHeartbeats 8000000 in
/-- Where there is an error, or there are operands: the law is true. -/
theorem restLaw_skip (may : ByteArray) (vA vB : Value) (ws rs : List ByteArray) (w : World) (hA : StrsR w vA ws) (hn : ws.length ≤ maxLen) (hz : ∀ s ∈ ws, s.size ≤ maxLen) (hB : StrsR w vB rs) (hn2 : rs.length ≤ maxLen) (hz2 : ∀ s ∈ rs, s.size ≤ maxLen)
    (hf : fewB ws = true) (hg : fewB rs = true) (hm : may.size ≤ 60) (h : prs may ws = none ∨ 0 < (oR (prs may ws)).length) :
    Calls Try.prog 5 #[.string may, vA, vB] w fun e w' => e = .returned (.bool true) ∧ Below w.heap.size w w' := by
  have hfb := few_bd hf
  have HA := Lib.hid (awake_any w)
  have HF := Lib.hid (fun w1 hb => few_any vA ws w1 (hA.below hb) hn hz)
  have HG := Lib.hid (fun w1 hb => few_any vB rs w1 (hB.below hb) hn2 hz2)
  have HP := Lib.hid (fun w1 hb => parse_any may vA ws w1 (by omega) (hA.below hb) (by omega) (by omega))
  have HSA := Lib.hid hA
  have h1 : ¬ (60 : Int) < may.size := by omega
  have hwl : ws.length ≤ 30 := hfb.1
  obtain ⟨A, c, rfl, -, -⟩ := hA
  obtain ⟨A', c', rfl, -, -⟩ := hB
  rw [hf] at HF
  rw [hg] at HG
  clear hn hz hn2 hz2 hf hg hfb
  generalize prs may ws = O at HP h
  cases O with
  | none =>
    clear h
    go_enter Try.func5, Try.ntmps5
    go_wp2_with fail
    refine HA.out.mono ?_
    rintro e w1 ⟨rfl, hb⟩
    have HB1 := Lib.hid hb
    clear hb
    go_wp2_with fail
    refine (HF.out _ HB1.out).mono ?_
    rintro e w2 ⟨rfl, rfl⟩
    go_wp2_with fail
    refine (HG.out _ HB1.out).mono ?_
    rintro e w2 ⟨rfl, rfl⟩
    go_wp2_with fail
    refine (HP.out _ HB1.out).mono ?_
    intro e w3 hop
    obtain ⟨A1, c1, A2, c2, rfl, hF, hS, hb⟩ := op_none hop
    have HB3 := Lib.hid (bt hb HB1.out)
    clear hb hop hF hS
    have hbW := al HB3.out (.cells #[.slice A1 0 c1, .slice A2 0 c2] 27)
    have HSW := Lib.hid (HSA.out.below hbW)
    have HBW := Lib.hid hbW
    clear hbW
    go_wp2_with (at_builtin; refine wpList_append_strs rfl (.tmp 38) (.tmp 39) rfl _ (.slice none 0 0) [] rfl (own_nil_str _) (.slice A ws.length c) ws rfl HSW.out (by simp; omega) (Nat.le_refl _) ?_; intro v' w4 ho hg; obtain ⟨A4, c4, hv'⟩ := own_slice ho; subst hv'; have HB4 := Lib.hid (bt ((Below.refl _ _).grown hg (Nat.le_refl _) (fun q hq => by simp [Value.ownBlock] at hq)) HBW.out); clear ho hg)
    go_ret
    exact ⟨rfl, HB4.out⟩
  | some p =>
    have hr : 0 < p.2.length := by rcases h with h | h; cases h; exact h
    clear h
    go_enter Try.func5, Try.ntmps5
    go_wp2_with fail
    refine HA.out.mono ?_
    rintro e w1 ⟨rfl, hb⟩
    have HB1 := Lib.hid hb
    clear hb
    go_wp2_with fail
    refine (HF.out _ HB1.out).mono ?_
    rintro e w2 ⟨rfl, rfl⟩
    go_wp2_with fail
    refine (HG.out _ HB1.out).mono ?_
    rintro e w2 ⟨rfl, rfl⟩
    go_wp2_with fail
    refine (HP.out _ HB1.out).mono ?_
    intro e w3 hop
    obtain ⟨A1, c1, A2, c2, rfl, hF, hS, hb⟩ := op_some (fl := p.1) (l := p.2) rfl rfl hop
    have HB3 := Lib.hid (bt hb HB1.out)
    clear hb hop hF hS
    have hbW := al HB3.out (.cells #[.slice A1 p.1.length c1, .slice A2 p.2.length c2] 27)
    have HSW := Lib.hid (HSA.out.below hbW)
    have HBW := Lib.hid hbW
    clear hbW
    go_wp2_with (at_builtin; refine wpList_append_strs rfl (.tmp 38) (.tmp 39) rfl _ (.slice none 0 0) [] rfl (own_nil_str _) (.slice A ws.length c) ws rfl HSW.out (by simp; omega) (Nat.le_refl _) ?_; intro v' w4 ho hg; obtain ⟨A4, c4, hv'⟩ := own_slice ho; subst hv'; have hb4 := (Below.refl _ _).grown hg (Nat.le_refl _) (fun q hq => by simp [Value.ownBlock] at hq); have HB4 := Lib.hid (bt hb4 HBW.out); have kk1 := ((Blk.new w3 27 #[_, _]).below hb4).cell 1; simp at kk1; clear ho hg hb4)
    go_ret
    exact ⟨rfl, HB4.out⟩
set_option maxRecDepth 100000 in
set_option maxHeartbeats 8000000 in
/-- Where there are no operands: behind two dashes there are those that stand there. -/
theorem restLaw_go (may : ByteArray) (vA vB : Value) (ws rs : List ByteArray) (f : List Fl) (w : World) (hA : StrsR w vA ws) (hn : ws.length ≤ maxLen) (hz : ∀ s ∈ ws, s.size ≤ maxLen) (hB : StrsR w vB rs) (hn2 : rs.length ≤ maxLen) (hz2 : ∀ s ∈ rs, s.size ≤ maxLen)
    (hf : fewB ws = true) (hg : fewB rs = true) (hm : may.size ≤ 60) (h : prs may ws = some (f, [])) :
    Calls Try.prog 5 #[.string may, vA, vB] w fun e w' => e = .returned (.bool true) ∧ Below w.heap.size w w' := by
  have hfb := few_bd hf
  have hgb := few_bd hg
  have HA := Lib.hid (awake_any w)
  have HF := Lib.hid (fun w1 hb => few_any vA ws w1 (hA.below hb) hn hz)
  have HG := Lib.hid (fun w1 hb => few_any vB rs w1 (hB.below hb) hn2 hz2)
  have HP := Lib.hid (fun w1 hb => parse_any may vA ws w1 (by omega) (hA.below hb) (by omega) (by omega))
  have HSA := Lib.hid hA
  have HSB := Lib.hid hB
  have h1 : ¬ (60 : Int) < may.size := by omega
  have hwl : ws.length ≤ 30 := hfb.1
  have hrl : rs.length ≤ 30 := hgb.1
  have HTW := Lib.hid hfb.2
  have HTR := Lib.hid hgb.2
  have HPR := Lib.hid h
  have hfl : f.length ≤ 1800 := by
    have := (prs_bd (may := may) ws.length (ws := ws) (Nat.le_refl _)).1
    rw [h] at this
    have h2 : f.length ≤ tot ws := this
    omega
  obtain ⟨A, c, rfl, -, -⟩ := hA
  obtain ⟨A', c', rfl, -, hcB⟩ := hB
  have HCB := Lib.hid hcB
  rw [hf] at HF
  rw [hg] at HG
  rw [h] at HP
  clear hn hz hn2 hz2 hf hg hfb hgb h hcB
  go_enter Try.func5, Try.ntmps5
  go_wp2_with fail
  refine HA.out.mono ?_
  rintro e w1 ⟨rfl, hb⟩
  have HB1 := Lib.hid hb
  clear hb
  go_wp2_with fail
  refine (HF.out _ HB1.out).mono ?_
  rintro e w2 ⟨rfl, rfl⟩
  go_wp2_with fail
  refine (HG.out _ HB1.out).mono ?_
  rintro e w2 ⟨rfl, rfl⟩
  go_wp2_with fail
  refine (HP.out _ HB1.out).mono ?_
  intro e w3 hop
  obtain ⟨A1, c1, A2, c2, rfl, hF, hS, hb⟩ := op_some (n := f.length) (m := 0) rfl rfl hop
  have HB3 := Lib.hid (bt hb HB1.out)
  clear hb hop hF hS HA HF HG HP
  obtain ⟨W, hW⟩ : ∃ W, w3.alloc (.cells #[.slice A1 f.length c1, .slice A2 0 c2] 27) = W := ⟨_, rfl⟩
  have hbW : Below w.heap.size w W := by rw [← hW]; exact al HB3.out _
  have hxW : Blk W w3.heap.size 27 #[.slice A1 f.length c1, .slice A2 0 c2] := by rw [← hW]; exact Blk.new _ _ _
  have HSW := Lib.hid (HSA.out.below hbW)
  have HBW := Lib.hid hbW
  have HXW := Lib.hid hxW
  clear hbW hxW
  go_wp2_with (at_builtin; refine wpList_append_strs rfl (.tmp 38) (.tmp 39) rfl W.heap.size (.slice none 0 0) [] rfl (own_nil_str _) (.slice A ws.length c) ws rfl HSW.out (by simp; omega) (Nat.le_refl _) ?_; intro v' w4 ho hg; rw [List.nil_append] at ho; obtain ⟨A4, c4, hv'⟩ := own_slice ho; subst hv'; have hb4 := (Below.refl _ _).grown hg (Nat.le_refl _) (fun q hq => by simp [Value.ownBlock] at hq); have HB4 := Lib.hid hb4; have HO4 := Lib.hid ho; have kk1 := (HXW.out.below hb4).cell 1; have kk0 := (HXW.out.below hb4).cell 0; simp at kk0 kk1; clear ho hg hb4)
  have HS4 := Lib.hid (StrsR.of_own HO4.out)
  go_loopg [12] ws.length (fun gh s12 wr => ∃ k : Nat, s12 = .int .i64 k ∧ k ≤ ws.length ∧ gh = ws.length - k ∧ (∀ s ∈ ws.take k, ¬ s.data.toList = [45, 45]) ∧ w4 = wr)
  case atStart => exact ⟨0, rfl, Nat.zero_le _, rfl, by simp, rfl⟩
  case round =>
    obtain ⟨k, rfl, hk, rfl, hno, rfl⟩ := hrel
    have HNO := Lib.hid hno
    clear hno
    by_cases hlt : k < ws.length
    · obtain ⟨s, hs⟩ : ∃ s, ws[k]? = some s := ⟨_, List.getElem?_eq_getElem hlt⟩
      obtain ⟨A5, c5, hv5, -, hc5⟩ := HS4.out
      injection hv5 with hA5 hN5 hC5
      clear hN5
      subst hA5
      subst hC5
      obtain ⟨ad, rfl, e0⟩ := hc5 k s hs
      have HSK := Lib.hid hs
      clear hc5 hs
      by_cases hd : s.data.toList = [45, 45]
      · have hd2 : s.toList = [45, 45] := (dd_iff s).2 hd
        have hd3 : (s.toList == [45, 45]) = true := by rw [hd2]; rfl
        clear hd
        go_wp2
        go_ret
        exact ⟨rfl, bt HB4.out HBW.out⟩
      · have hd2 : ¬ s.toList = [45, 45] := fun e => hd ((dd_iff s).1 e)
        have hd3 : (s.toList == [45, 45]) = false := by simpa using hd2
        have HD := Lib.hid hd
        clear hd
        go_wp2
        go_roundg (ws.length - (k + 1))
        case measure => omega
        case rel =>
          refine ⟨k + 1, by go_num, by omega, rfl, fun y hy => ?_, rfl⟩
          rw [take_snoc' HSK.out] at hy
          rcases List.mem_append.1 hy with hy | hy
          · exact HNO.out y hy
          · rw [List.mem_singleton] at hy
            subst hy
            exact HD.out
    · have hno := HNO.out
      rw [List.take_of_length_le (by omega)] at hno
      have HPD := Lib.hid (prs_dd (may := may) (d := ⟨#[45, 45]⟩) rfl rs ws.length (Nat.le_refl _) HPR.out hno)
      have hbig : (ws ++ ⟨#[45, 45]⟩ :: rs).length ≤ 100 := by simp; omega
      have htt : tot (ws ++ ⟨#[45, 45]⟩ :: rs) ≤ 100000 := by
        have h1 := HTW.out
        have h2 := HTR.out
        have h3 : tot (ws ++ ⟨#[45, 45]⟩ :: rs) = tot ws + (2 + tot rs) := by simp [tot]; rfl
        omega
      have HBIG := Lib.hid hbig
      have HN6 := Lib.hid (show ((ws ++ [⟨#[45, 45]⟩]) ++ rs : List ByteArray).length = ws.length + 1 + rs.length by simp; omega)
      have HTT := Lib.hid htt
      clear hno hbig htt
      have HB4W := Lib.hid (bt HB4.out HBW.out)
      go_wp2_with (first
        | (at_builtin; refine wpList_append_one rfl (.tmp 60) (.tmp 61) _ rfl W.heap.size 9 _ 1 16 Try.underlying22 info_str rfl (by decide) (.slice A4 ws.length c4) ws.length (sCells ws) rfl w4 [.string ⟨#[45, 45]⟩] rfl (str_one _) HO4.out rfl (by omega) (by omega) HB4.out.size ?_; intro v5 w5 ho hg; obtain ⟨A5, c5, hv5, ho5, hb5⟩ := app_one HB4.out HO4.out ho hg; subst hv5; have HO5 := Lib.hid ho5; have HB5 := Lib.hid hb5; have HS5 := Lib.hid (HSB.out.below (bt hb5 HBW.out)); clear ho hg hb5 ho5)
        | (at_builtin; refine wpList_append_strs rfl (.tmp 63) (.tmp 64) rfl W.heap.size (.slice A5 (ws.length + 1) c5) (ws ++ [⟨#[45, 45]⟩]) rfl HO5.out (.slice A' rs.length c') rs rfl HS5.out (by simp; omega) HB5.out.size ?_; intro v6 w6 ho hg; obtain ⟨A6, c6, hv6, hs6, hb6⟩ := app_more HN6.out HB5.out HO5.out ho hg; subst hv6; have HB6 := Lib.hid hb6; have HS6 := Lib.hid hs6; clear ho hg hb6 hs6)
        | fail)
      have hs6 := HS6.out
      rw [List.append_assoc, List.singleton_append] at hs6
      refine (parse_any may _ (ws ++ ⟨#[45, 45]⟩ :: rs) w6 (by omega) hs6 (by have := HBIG.out; omega) (by have := HTT.out; omega)).mono ?_
      intro e w7 hop
      rw [HPD.out] at hop
      obtain ⟨A7, c7, A8, c8, rfl, hF7, hS7, hb7⟩ := op_some (n := f.length) (m := rs.length) rfl rfl hop
      have hbW7 := bt hb7 HB6.out
      have hk7 := HXW.out.below hbW7
      have p0 := hk7.cell 0
      simp at p0
      have hz7 : w3.heap.size < w7.heap.size := hk7.lt
      have HS7 := Lib.hid hS7
      have HB7 := Lib.hid (bt hbW7 HBW.out)
      have n1 : ((f.length : Int) != (f.length : Int)) = false := by simp
      have n2 : ((rs.length : Int) != (rs.length : Int)) = false := by simp
      clear hs6 hop hF7 hS7 hb7 hbW7 hk7 HS6 HBIG HTT HPD kk0 kk1 HN6
      go_wp2
      obtain ⟨W8, hW8⟩ : ∃ W8, w7.alloc (.cells #[.slice A7 f.length c7, .slice A8 rs.length c8] 27) = W8 := ⟨_, rfl⟩
      rw [hW8]
      have hb8 : Below w7.heap.size w7 W8 := by rw [← hW8]; exact al (Below.refl _ _) _
      have hy8 : Blk W8 w7.heap.size 27 #[.slice A7 f.length c7, .slice A8 rs.length c8] := by rw [← hW8]; exact Blk.new _ _ _
      have HB8 := Lib.hid hb8
      have HY8 := Lib.hid hy8
      have HBW8 := Lib.hid (bt hb8 HB7.out)
      clear hW8 hb8 hy8
      go_loopg [15] rs.length (fun gh s15 wr => ∃ m : Nat, s15 = .int .i64 m ∧ m ≤ rs.length ∧ gh = rs.length - m ∧ ∃ n, wr = W8.drewN n)
      case atStart => exact ⟨0, rfl, Nat.zero_le _, rfl, 0, rfl⟩
      case round =>
        obtain ⟨m, rfl, hmr, rfl, n1, rfl⟩ := hrel
        have y1 := HY8.out.cell 1
        simp at y1
        by_cases hlm : m < rs.length
        · obtain ⟨s, hs⟩ : ∃ s, rs[m]? = some s := ⟨_, List.getElem?_eq_getElem hlm⟩
          obtain ⟨ad, rfl, d0⟩ := HCB.out m s hs
          obtain ⟨A9, c9, hv9, -, hc9⟩ := HS7.out
          injection hv9 with hA9 hN9 hC9
          clear hN9
          subst hA9
          subst hC9
          obtain ⟨ad', rfl, d1⟩ := hc9 m s hs
          have e0 := bc HBW8.out d0
          have e1 := bc HB8.out d1
          have m2 : (s.toList != s.toList) = false := by simp
          clear d0 d1 hs hc9
          go_wp2
          go_quiet (fail)
          go_wp2
          go_roundg (rs.length - (m + 1))
          case measure => omega
          case rel => exact ⟨m + 1, by go_num, by omega, rfl, _, rfl⟩
        · go_wp2
          go_ret
          exact ⟨rfl, ⟨HBW8.out.os, HBW8.out.tape, HBW8.out.output, HBW8.out.size, HBW8.out.block⟩⟩
theorem restWalk (may : ByteArray) (vA vB : Value) (ws rs : List ByteArray) (w : World) (hA : StrsR w vA ws) (hn : ws.length ≤ maxLen) (hz : ∀ s ∈ ws, s.size ≤ maxLen) (hB : StrsR w vB rs) (hn2 : rs.length ≤ maxLen) (hz2 : ∀ s ∈ rs, s.size ≤ maxLen) (hm : may.size ≤ maxLen) :
    Calls Try.prog 5 #[.string may, vA, vB] w fun e w' => e = .returned (.bool true) ∧ Below w.heap.size w w' := by
  by_cases h : (fewB ws && fewB rs) = false ∨ 60 < may.size
  · exact restLaw_out may vA vB ws rs w hA hn hz hB hn2 hz2 hm h
  · have hf : (fewB ws && fewB rs) = true := by
      cases e : (fewB ws && fewB rs) with
      | true => rfl
      | false => exact absurd (.inl e) h
    rw [Bool.and_eq_true] at hf
    have hm2 : may.size ≤ 60 := by omega
    cases hp : prs may ws with
    | none => exact restLaw_skip may vA vB ws rs w hA hn hz hB hn2 hz2 hf.1 hf.2 hm2 (.inl hp)
    | some p =>
      obtain ⟨f, r⟩ := p
      cases r with
      | nil => exact restLaw_go may vA vB ws rs f w hA hn hz hB hn2 hz2 hf.1 hf.2 hm2 hp
      | cons x r => exact restLaw_skip may vA vB ws rs w hA hn hz hB hn2 hz2 hf.1 hf.2 hm2 (.inr (by rw [hp]; simp [oR]))
end Go.Proofs.Ytldomiagincegaa
