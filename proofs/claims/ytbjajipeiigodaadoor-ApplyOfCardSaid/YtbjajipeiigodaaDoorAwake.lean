/-
  The document's examples, as the statements' function awake asks them: it answers true, and nothing that was there is changed.
-/
import Derived.Test.YtbjajipeiigodaaDoorSame
namespace Go.Proofs.YtbjajipeiigodaaDoor
open Go Go.RowKit

theorem add_none (a : Addr) : a.add 0 = a := by unfold Addr.add; rw [if_pos rfl]
theorem aw1 : parseC [117, 103, 43, 114, 88, 44, 111, 61] = some [⟨3, [⟨43, 12, 0⟩]⟩, ⟨4, [⟨61, 0, 0⟩]⟩] := by rfl
theorem aw2 : parseC [117, 61, 103, 45, 120] = some [⟨1, [⟨61, 0, 2⟩, ⟨45, 1, 0⟩]⟩] := by rfl
theorem aw3 : parseC [43, 114, 103] = none := by rfl
theorem aw4 : showC [⟨3, [⟨43, 12, 0⟩]⟩, ⟨4, [⟨61, 0, 0⟩]⟩] = [117, 103, 43, 114, 88, 44, 111, 61] := by rfl
set_option maxRecDepth 100000 in
set_option maxHeartbeats 4000000 in
theorem awake_any (w : World) : Calls Tryd.prog 14 #[] w fun e w' => e = .returned (.bool true) ∧ Below w.heap.size w w' := by
  have P1 := Lib.hid (fun w => parse_any ⟨#[117, 103, 43, 114, 88, 44, 111, 61]⟩ w (by decide))
  have P2 := Lib.hid (fun w => parse_any ⟨#[117, 61, 103, 45, 120]⟩ w (by decide))
  have P3 := Lib.hid (fun w => parse_any ⟨#[43, 114, 103]⟩ w (by decide))
  simp only [aw1, aw2, aw3] at P1 P2 P3
  unfold ParsePost at P1 P2 P3
  simp only at P1 P2 P3
  go_enter Tryd.func14, Tryd.ntmps14
  go_wp2_with fail
  refine (P1.out _).mono ?_
  rintro e w1 ⟨v1, hb1, hc1, rfl⟩
  have HB1 := Lib.hid hb1
  have HC1 := Lib.hid hc1
  clear hb1 hc1
  go_wp2_with fail
  refine (P2.out _).mono ?_
  rintro e w2 ⟨v2, hb2, hc2, rfl⟩
  have HB2 := Lib.hid (HB1.out.trans (hb2.mono HB1.out.size))
  have HC1b := Lib.hid (HC1.out.below hb2)
  have HC2 := Lib.hid hc2
  clear hb2 hc2
  go_wp2_with fail
  refine (P3.out _).mono ?_
  rintro e w3 ⟨v3, hb3, rfl, rfl⟩
  have HB3 := Lib.hid (HB2.out.trans (hb3.mono HB2.out.size))
  have HC1c := Lib.hid (HC1b.out.below hb3).cls
  have HC2c := Lib.hid (HC2.out.below hb3).cls
  clear hb3
  have HSH := Lib.hid (show_any v1 _ w3 HC1c.out (by decide) (by intro c hc; simp only [List.mem_cons, List.mem_nil_iff, or_false] at hc; rcases hc with rfl | rfl <;> decide))
  rw [aw4] at HSH
  obtain ⟨A1, k1, rfl, h1⟩ := HC1c.out
  obtain ⟨A2, k2, rfl, h2⟩ := HC2c.out
  obtain ⟨a1, va, rfl, c0, c1, hA⟩ := h1 0 _ rfl
  obtain ⟨a1', vb, e1, c2, c3, hB⟩ := h1 1 _ rfl
  injection e1 with e1
  subst e1
  obtain ⟨a2, vc, rfl, c4, c5, hC⟩ := h2 0 _ rfl
  obtain ⟨Aa, ka, rfl, ha⟩ := hA
  obtain ⟨aa, rfl, b0, b1, b2⟩ := ha 0 _ rfl
  obtain ⟨Ac, kc, rfl, hc⟩ := hC
  obtain ⟨ac, rfl, g0, g1, g2⟩ := hc 0 _ rfl
  simp only [Nat.zero_mul, add_none] at c0 c1 c4 c5 b0 b1 b2 g0 g1 g2
  rw [Nat.one_mul, add_pos _ 2 (by decide)] at c2
  clear h1 h2 ha hc hB c3
  have q1 : co 43 = 43 := rfl
  have q2 : co 61 = 61 := rfl
  rw [q1] at b0
  rw [q2] at g0
  go_wp2_with fail
  refine HSH.out.mono ?_
  rintro e w4 ⟨rfl, hb4⟩
  have HB4 := Lib.hid (HB3.out.trans (hb4.mono HB3.out.size))
  clear hb4
  go_wp2
  go_ret
  exact ⟨rfl, HB4.out⟩
end Go.Proofs.YtbjajipeiigodaaDoor
