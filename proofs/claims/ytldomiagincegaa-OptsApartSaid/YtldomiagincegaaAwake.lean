/-
  The document's examples (awake), and whether words are few, and short. No condition but that there are no more words than a machine has.
-/
import Derived.Test.YtldomiagincegaaParse
import Derived.Test.YtldomiagincegaaAsk
namespace Go.Proofs.Ytldomiagincegaa
open Go Go.RowKit

theorem OP.opts {w : World} {o : Option (List Fl × List ByteArray)} {e : Ending} {w' : World} (h : OP w o e w') : ∃ v, e = .returned (.tuple #[v, .int .i64 (eN o)]) ∧ OptsR w' v (oF o) (oR o) ∧ Below w.heap.size w w' := by
  obtain ⟨vF, vR, h1, h2, h3, h4⟩ := h
  exact ⟨_, h1, ⟨vF, vR, rfl, h2, h3⟩, h4⟩
theorem op_some {w : World} {fl : List Fl} {l : List ByteArray} {n m : Nat} (hn : fl.length = n) (hm : l.length = m) {e : Ending} {w' : World} (h : OP w (some (fl, l)) e w') :
    ∃ AF cF AR cR, e = .returned (.tuple #[.agg #[.slice AF n cF, .slice AR m cR], .int .i64 0]) ∧ FlagsR w' (.slice AF n cF) fl ∧ StrsR w' (.slice AR m cR) l ∧ Below w.heap.size w w' := by
  obtain ⟨vF, vR, h1, h2, h3, h4⟩ := h
  have h2' := h2
  have h3' := h3
  obtain ⟨AF, cF, rfl, -⟩ := h2'
  obtain ⟨AR, cR, rfl, -⟩ := h3'
  subst hn hm
  exact ⟨AF, cF, AR, cR, h1, h2, h3, h4⟩
theorem op_none {w : World} {e : Ending} {w' : World} (h : OP w none e w') :
    ∃ AF cF AR cR, e = .returned (.tuple #[.agg #[.slice AF 0 cF, .slice AR 0 cR], .int .i64 22]) ∧ FlagsR w' (.slice AF 0 cF) [] ∧ StrsR w' (.slice AR 0 cR) [] ∧ Below w.heap.size w w' := by
  obtain ⟨vF, vR, h1, h2, h3, h4⟩ := h
  have h2' := h2
  have h3' := h3
  obtain ⟨AF, cF, rfl, -⟩ := h2'
  obtain ⟨AR, cR, rfl, -⟩ := h3'
  exact ⟨AF, cF, AR, cR, h1, h2, h3, h4⟩
theorem strs1 (W : World) (a : ByteArray) (g : Nat) (hg : g = W.heap.size) : StrsR (W.alloc (.cells #[.string a] 9)) (.slice (some ⟨g, 0, none⟩) 1 1) [a] := by
  subst hg
  refine ⟨_, _, rfl, ⟨Nat.le_refl _, fun e => by cases e⟩, fun k b hk => ⟨_, rfl, ?_⟩⟩
  match k, hk with
  | 0, hk => simp at hk; subst hk; simp [Addr.add]
theorem strs2 (W : World) (a b : ByteArray) (g : Nat) (hg : g = W.heap.size) : StrsR (W.alloc (.cells #[.string a, .string b] 9)) (.slice (some ⟨g, 0, none⟩) 2 2) [a, b] := by
  subst hg
  refine ⟨_, _, rfl, ⟨Nat.le_refl _, fun e => by cases e⟩, fun k b hk => ⟨_, rfl, ?_⟩⟩
  match k, hk with
  | 0, hk => simp at hk; subst hk; simp [Addr.add]
  | 1, hk => simp at hk; subst hk; simp [Addr.add]
theorem parse1 (W : World) (may a : ByteArray) (g : Nat) (hg : g = W.heap.size) (hm : may.size ≤ 1000000) (ht : tot [a] ≤ 1000000) :
    Calls Try.prog 10 #[.string may, .slice (some ⟨g, 0, none⟩) 1 1] (W.alloc (.cells #[.string a] 9)) (OP (W.alloc (.cells #[.string a] 9)) (prs may [a])) :=
  parse_any may _ [a] _ hm (strs1 W a g hg) (by simp) ht
theorem parse2 (W : World) (may a b : ByteArray) (g : Nat) (hg : g = W.heap.size) (hm : may.size ≤ 1000000) (ht : tot [a, b] ≤ 1000000) :
    Calls Try.prog 10 #[.string may, .slice (some ⟨g, 0, none⟩) 2 2] (W.alloc (.cells #[.string a, .string b] 9)) (OP (W.alloc (.cells #[.string a, .string b] 9)) (prs may [a, b])) :=
  parse_any may _ [a, b] _ hm (strs2 W a b g hg) (by simp) ht
theorem al {w w1 : World} (h : Below w.heap.size w w1) (o : Obj) : Below w.heap.size w (w1.alloc o) := h.alloc h.size o
set_option maxRecDepth 100000 in
set_option maxHeartbeats 8000000 in
theorem awake_any (w : World) : Calls Try.prog 8 #[] w fun e w' => e = .returned (.bool true) ∧ Below w.heap.size w w' := by
  have H1 := Lib.hid (fun W g hg => parse2 W ⟨#[82, 109, 58]⟩ ⟨#[45, 82, 109, 55, 53, 53]⟩ ⟨#[97]⟩ g hg (by decide) (by decide))
  rw [prs_1] at H1
  have H2 := Lib.hid (fun W g hg => parse1 W ⟨#[82, 109, 58]⟩ ⟨#[45, 109]⟩ g hg (by decide) (by decide))
  rw [prs_2] at H2
  have H3 := Lib.hid (fun W g hg => parse2 W ⟨#[82, 109, 58]⟩ ⟨#[45, 45]⟩ ⟨#[45, 82]⟩ g hg (by decide) (by decide))
  rw [prs_3] at H3
  have HH := Lib.hid (fun v l w h => has_any v [(82, ⟨#[]⟩), (109, ⟨#[55, 53, 53]⟩)] l 82 w h (by decide))
  rw [show lastF [(82, ⟨#[]⟩), (109, ⟨#[55, 53, 53]⟩)] [82] = some (82, ⟨#[]⟩) from rfl, show co 82 = 82 from rfl] at HH
  have HV := Lib.hid (fun v l w h => value_any v [(82, ⟨#[]⟩), (109, ⟨#[55, 53, 53]⟩)] l 109 w h (by decide))
  rw [show lastF [(82, ⟨#[]⟩), (109, ⟨#[55, 53, 53]⟩)] [109] = some (109, ⟨#[55, 53, 53]⟩) from rfl, show co 109 = 109 from rfl, show (lv (some (109, ⟨#[55, 53, 53]⟩))).2 = ⟨#[55, 53, 53]⟩ from rfl] at HV
  have HL := Lib.hid (fun v l w h => last_any v [(82, ⟨#[]⟩), (109, ⟨#[55, 53, 53]⟩)] l ⟨#[82, 109]⟩ w h (by decide) (by decide))
  rw [show lastF [(82, ⟨#[]⟩), (109, ⟨#[55, 53, 53]⟩)] (⟨#[82, 109]⟩ : ByteArray).data.toList = some (109, ⟨#[55, 53, 53]⟩) from rfl, show co (lv (some (109, ⟨#[55, 53, 53]⟩))).1 = 109 from rfl] at HL
  go_enter Try.func8, Try.ntmps8
  go_wp2_with fail
  refine (H1.out _ _ rfl).mono ?_
  intro e w1 hop
  obtain ⟨AF1, cF1, AR1, cR1, rfl, hF1, hS1, hb1⟩ := op_some (n := 2) (m := 1) rfl rfl hop
  have HB1 := Lib.hid (bt hb1 (al (Below.refl _ _) _))
  have HO1 := Lib.hid (show OptsR w1 (.agg #[.slice AF1 2 cF1, .slice AR1 1 cR1]) _ _ from ⟨_, _, rfl, hF1, hS1⟩)
  clear hb1 hF1 hS1 hop
  go_wp2_with fail
  refine (H2.out _ _ (by simp)).mono ?_
  intro e w2 hop
  obtain ⟨AF2, cF2, AR2, cR2, rfl, hF2, hS2, hb2⟩ := op_none hop
  have hk1 := (((Blk.new w1 27 #[_, _]).alloc _).below hb2)
  have HB2 := Lib.hid (bt hb2 (al (al HB1.out _) _))
  have HO2 := Lib.hid (HO1.out.below (bt hb2 (al (al (Below.refl _ _) _) _)))
  have HK2 := Lib.hid hk1
  clear hb2 hk1 hF2 hS2 hop
  go_wp2_with fail
  refine (H3.out _ _ (by simp)).mono ?_
  intro e w3 hop
  obtain ⟨AF3, cF3, AR3, cR3, rfl, hF3, hS3, hb3⟩ := op_some (n := 0) (m := 1) rfl rfl hop
  have HB3 := Lib.hid (bt hb3 (al (al HB2.out _) _))
  have HO3 := Lib.hid (HO2.out.below (bt hb3 (al (al (Below.refl _ _) _) _)))
  have hk3 := ((HK2.out.alloc _).alloc _).below hb3
  have HK3 := Lib.hid hk3
  have a0 := hk3.cell 0
  have a1 := hk3.cell 1
  simp at a0 a1
  have hz3 : w1.heap.size < w3.heap.size := hk3.lt
  obtain ⟨A3, c3, hv3, -, hc3⟩ := hS3
  injection hv3 with hA3 hN3 hC3
  clear hN3
  subst hA3
  subst hC3
  obtain ⟨ad3, rfl, e0⟩ := hc3 0 _ rfl
  rw [add_none] at e0
  clear hb3 hk3 hc3 hF3 hop
  have HE0 := Lib.hid e0
  clear e0
  go_wp2_with fail
  refine (HV.out _ _ _ (HO3.out.below (al (Below.refl _ _) _))).mono ?_
  rintro e w4 ⟨rfl, hb4⟩
  have HB4 := Lib.hid (bt hb4 (al HB3.out _))
  have HB43 := Lib.hid (bt hb4 (al (Below.refl _ _) _))
  have hk4 := (HK3.out.alloc _).below hb4
  have hk4b := (Blk.new w3 27 #[_, _]).below hb4
  have HK4 := Lib.hid hk4
  have HK4b := Lib.hid hk4b
  have b0 := hk4.cell 0
  have b1 := hk4.cell 1
  simp at b0 b1
  clear hb4 hk4 hk4b a0 a1
  go_wp2_with fail
  refine (HH.out _ _ _ (HO3.out.below HB43.out)).mono ?_
  rintro e w5 ⟨rfl, hb5⟩
  have HB5 := Lib.hid (bt hb5 HB4.out)
  have HB53 := Lib.hid (bt hb5 HB43.out)
  have d0 := (HK4.out.below hb5).cell 0
  have d1 := (HK4.out.below hb5).cell 1
  have g0 := (HK4b.out.below hb5).cell 0
  have g1 := (HK4b.out.below hb5).cell 1
  simp at d0 d1 g0 g1
  have e0 := bc HB53.out HE0.out
  clear hb5 b0 b1
  go_wp2_with fail
  refine (HL.out _ _ _ (HO3.out.below HB53.out)).mono ?_
  rintro e w6 ⟨rfl, hb6⟩
  have HB6 := Lib.hid (bt hb6 HB5.out)
  clear hb6
  go_wp2
  go_ret
  exact ⟨rfl, HB6.out⟩
end Go.Proofs.Ytldomiagincegaa
