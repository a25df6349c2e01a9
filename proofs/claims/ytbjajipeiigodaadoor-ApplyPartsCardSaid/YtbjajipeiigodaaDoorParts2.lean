/-
  The walk of ApplyParts itself.
-/
import Derived.Test.YtbjajipeiigodaaDoorParts
namespace Go.Proofs.YtbjajipeiigodaaDoor
open Go Go.RowKit

theorem cCells_ones {l : List (CC × Value)} (h : ∀ p ∈ l, p.2.oneCell' = true) : ∀ u ∈ cCells l, u.oneCell' = true := by
  intro u hu
  unfold cCells at hu
  rw [List.mem_flatMap] at hu
  obtain ⟨p, hp, hu⟩ := hu
  exact cl_one _ _ (h p hp) u hu
theorem parts_a (va vb : Value) (a b : List CC) (mode : Int) (dir : Bool) (u : Int) (w : World) (ha : ClsR w va a) (hb : ClsR w vb b) (na : a.length ≤ maxLen) (nb : b.length ≤ maxLen) (la : ∀ c ∈ a, c.acts.length ≤ maxLen) (lb : ∀ c ∈ b, c.acts.length ≤ maxLen) (hf : fewB a = false) : Calls Tryd.prog 12 #[va, vb, .int .i64 mode, .bool dir, .int .i64 u] w fun e w' => e = .returned (.bool true) ∧ Below w.heap.size w w' := by
  have HA := Lib.hid ha
  have HB := Lib.hid hb
  have HFA := Lib.hid (fun w h => few_any va a w h na la)
  have HFB := Lib.hid (fun w h => few_any vb b w h nb lb)
  rw [hf] at HFA
  clear ha hb na nb la lb hf
  go_enter Tryd.func12, Tryd.ntmps12
  go_wp2_with fail
  refine (awake3_any _).mono ?_
  rintro e w1 ⟨rfl, hb1⟩
  have B1 := Lib.hid hb1
  have A1 := Lib.hid (HA.out.below hb1)
  have C1 := Lib.hid (HB.out.below hb1)
  clear hb1
  go_wp2_with fail
  refine (HFA.out _ A1.out).mono ?_
  rintro e w2 ⟨rfl, rfl⟩
  go_wp2
  go_ret
  exact ⟨rfl, B1.out⟩
theorem parts_b (va vb : Value) (a b : List CC) (mode : Int) (dir : Bool) (u : Int) (w : World) (ha : ClsR w va a) (hb : ClsR w vb b) (na : a.length ≤ maxLen) (nb : b.length ≤ maxLen) (la : ∀ c ∈ a, c.acts.length ≤ maxLen) (lb : ∀ c ∈ b, c.acts.length ≤ maxLen) (hf : fewB a = true) (hg : fewB b = false) : Calls Tryd.prog 12 #[va, vb, .int .i64 mode, .bool dir, .int .i64 u] w fun e w' => e = .returned (.bool true) ∧ Below w.heap.size w w' := by
  have HA := Lib.hid ha
  have HB := Lib.hid hb
  have HFA := Lib.hid (fun w h => few_any va a w h na la)
  have HFB := Lib.hid (fun w h => few_any vb b w h nb lb)
  rw [hf] at HFA
  rw [hg] at HFB
  clear ha hb na nb la lb hf hg
  go_enter Tryd.func12, Tryd.ntmps12
  go_wp2_with fail
  refine (awake3_any _).mono ?_
  rintro e w1 ⟨rfl, hb1⟩
  have B1 := Lib.hid hb1
  have A1 := Lib.hid (HA.out.below hb1)
  have C1 := Lib.hid (HB.out.below hb1)
  clear hb1
  go_wp2_with fail
  refine (HFA.out _ A1.out).mono ?_
  rintro e w2 ⟨rfl, rfl⟩
  go_wp2_with fail
  refine (HFB.out _ C1.out).mono ?_
  rintro e w2 ⟨rfl, rfl⟩
  go_wp2
  go_ret
  exact ⟨rfl, B1.out⟩
theorem parts_ra (va vb : Value) (a b : List CC) (mode : Int) (dir : Bool) (u : Int) (w : World) (ha : ClsR w va a) (hb : ClsR w vb b) (na : a.length ≤ maxLen) (nb : b.length ≤ maxLen) (la : ∀ c ∈ a, c.acts.length ≤ maxLen) (lb : ∀ c ∈ b, c.acts.length ≤ maxLen) (hf : fewB a = true) (hg : fewB b = true) (hr : rightC a = false) : Calls Tryd.prog 12 #[va, vb, .int .i64 mode, .bool dir, .int .i64 u] w fun e w' => e = .returned (.bool true) ∧ Below w.heap.size w w' := by
  have HA := Lib.hid ha
  have HB := Lib.hid hb
  have HFA := Lib.hid (fun w h => few_any va a w h na la)
  have HFB := Lib.hid (fun w h => few_any vb b w h nb lb)
  have fa := few_of hf
  have fb := few_of hg
  have HRA := Lib.hid (fun w h => right_any va a w h (by omega) (fun c hc => Nat.le_trans (fa.2 c hc) (by decide)))
  have HRB := Lib.hid (fun w h => right_any vb b w h (by omega) (fun c hc => Nat.le_trans (fb.2 c hc) (by decide)))
  rw [hf] at HFA
  rw [hg] at HFB
  rw [hr] at HRA
  clear ha hb na nb la lb hf hg hr fa fb HRB
  go_enter Tryd.func12, Tryd.ntmps12
  go_wp2_with fail
  refine (awake3_any _).mono ?_
  rintro e w1 ⟨rfl, hb1⟩
  have B1 := Lib.hid hb1
  have A1 := Lib.hid (HA.out.below hb1)
  have C1 := Lib.hid (HB.out.below hb1)
  clear hb1
  go_wp2_with fail
  refine (HFA.out _ A1.out).mono ?_
  rintro e w2 ⟨rfl, rfl⟩
  go_wp2_with fail
  refine (HFB.out _ C1.out).mono ?_
  rintro e w2 ⟨rfl, rfl⟩
  go_wp2_with fail
  refine (HRA.out _ A1.out).mono ?_
  rintro e w3 ⟨rfl, hb3⟩
  have B3 := Lib.hid (B1.out.trans (hb3.mono B1.out.size))
  have A3 := Lib.hid (A1.out.below hb3)
  have C3 := Lib.hid (C1.out.below hb3)
  clear hb3
  go_wp2
  go_ret
  exact ⟨rfl, B3.out⟩
theorem parts_rb (va vb : Value) (a b : List CC) (mode : Int) (dir : Bool) (u : Int) (w : World) (ha : ClsR w va a) (hb : ClsR w vb b) (na : a.length ≤ maxLen) (nb : b.length ≤ maxLen) (la : ∀ c ∈ a, c.acts.length ≤ maxLen) (lb : ∀ c ∈ b, c.acts.length ≤ maxLen) (hf : fewB a = true) (hg : fewB b = true) (hr : rightC a = true) (hs : rightC b = false) : Calls Tryd.prog 12 #[va, vb, .int .i64 mode, .bool dir, .int .i64 u] w fun e w' => e = .returned (.bool true) ∧ Below w.heap.size w w' := by
  have HA := Lib.hid ha
  have HB := Lib.hid hb
  have HFA := Lib.hid (fun w h => few_any va a w h na la)
  have HFB := Lib.hid (fun w h => few_any vb b w h nb lb)
  have fa := few_of hf
  have fb := few_of hg
  have HRA := Lib.hid (fun w h => right_any va a w h (by omega) (fun c hc => Nat.le_trans (fa.2 c hc) (by decide)))
  have HRB := Lib.hid (fun w h => right_any vb b w h (by omega) (fun c hc => Nat.le_trans (fb.2 c hc) (by decide)))
  rw [hf] at HFA
  rw [hg] at HFB
  rw [hr] at HRA
  rw [hs] at HRB
  clear ha hb na nb la lb hf hg hr hs fa fb
  go_enter Tryd.func12, Tryd.ntmps12
  go_wp2_with fail
  refine (awake3_any _).mono ?_
  rintro e w1 ⟨rfl, hb1⟩
  have B1 := Lib.hid hb1
  have A1 := Lib.hid (HA.out.below hb1)
  have C1 := Lib.hid (HB.out.below hb1)
  clear hb1
  go_wp2_with fail
  refine (HFA.out _ A1.out).mono ?_
  rintro e w2 ⟨rfl, rfl⟩
  go_wp2_with fail
  refine (HFB.out _ C1.out).mono ?_
  rintro e w2 ⟨rfl, rfl⟩
  go_wp2_with fail
  refine (HRA.out _ A1.out).mono ?_
  rintro e w3 ⟨rfl, hb3⟩
  have B3 := Lib.hid (B1.out.trans (hb3.mono B1.out.size))
  have A3 := Lib.hid (A1.out.below hb3)
  have C3 := Lib.hid (C1.out.below hb3)
  clear hb3
  go_wp2_with fail
  refine (HRB.out _ C3.out).mono ?_
  rintro e w4 ⟨rfl, hb4⟩
  have B4 := Lib.hid (B3.out.trans (hb4.mono B3.out.size))
  have A4 := Lib.hid (A3.out.below hb4)
  have C4 := Lib.hid (C3.out.below hb4)
  clear hb4
  go_wp2
  go_ret
  exact ⟨rfl, B4.out⟩
set_option maxRecDepth 100000 in
set_option maxHeartbeats 4000000 in
theorem parts_all (va vb : Value) (a b : List CC) (mode : Int) (dir : Bool) (u : Int) (w : World) (ha : ClsR w va a) (hb : ClsR w vb b) (na : a.length ≤ maxLen) (nb : b.length ≤ maxLen) (la : ∀ c ∈ a, c.acts.length ≤ maxLen) (lb : ∀ c ∈ b, c.acts.length ≤ maxLen) (hf : fewB a = true) (hg : fewB b = true) (hr : rightC a = true) (hs : rightC b = true) : Calls Tryd.prog 12 #[va, vb, .int .i64 mode, .bool dir, .int .i64 u] w fun e w' => e = .returned (.bool true) ∧ Below w.heap.size w w' := by
  have HA := Lib.hid ha
  have HB := Lib.hid hb
  have HFA := Lib.hid (fun w h => few_any va a w h na la)
  have HFB := Lib.hid (fun w h => few_any vb b w h nb lb)
  have fa := few_of hf
  have fb := few_of hg
  have HRA := Lib.hid (fun w h => right_any va a w h (by omega) (fun c hc => Nat.le_trans (fa.2 c hc) (by decide)))
  have HRB := Lib.hid (fun w h => right_any vb b w h (by omega) (fun c hc => Nat.le_trans (fb.2 c hc) (by decide)))
  have HM := Lib.hid (applyM_append hr hs mode dir u)
  obtain ⟨A, ca, rfl, -⟩ := id ha
  obtain ⟨B, cb, rfl, -⟩ := id hb
  obtain ⟨xa, rfl⟩ := cls_some ha (right_ne hr)
  obtain ⟨xb, rfl⟩ := cls_some hb (right_ne hs)
  rw [hf] at HFA
  rw [hg] at HFB
  rw [hr] at HRA
  rw [hs] at HRB
  have la20 := fa.1
  have lb20 := fb.1
  have HLA := Lib.hid (show ∀ c ∈ a, c.acts.length ≤ 1000000 from fun c hc => Nat.le_trans (fa.2 c hc) (by decide))
  have HLB := Lib.hid (show ∀ c ∈ b, c.acts.length ≤ 1000000 from fun c hc => Nat.le_trans (fb.2 c hc) (by decide))
  clear ha hb na nb la lb hf hg hr hs fa fb
  go_enter Tryd.func12, Tryd.ntmps12
  go_wp2_with fail
  refine (awake3_any _).mono ?_
  rintro e w1 ⟨rfl, hb1⟩
  have B1 := Lib.hid hb1
  have A1 := Lib.hid (HA.out.below hb1)
  have C1 := Lib.hid (HB.out.below hb1)
  clear hb1
  go_wp2_with fail
  refine (HFA.out _ A1.out).mono ?_
  rintro e w2 ⟨rfl, rfl⟩
  go_wp2_with fail
  refine (HFB.out _ C1.out).mono ?_
  rintro e w2 ⟨rfl, rfl⟩
  go_wp2_with fail
  refine (HRA.out _ A1.out).mono ?_
  rintro e w3 ⟨rfl, hb3⟩
  have B3 := Lib.hid (B1.out.trans (hb3.mono B1.out.size))
  have A3 := Lib.hid (A1.out.below hb3)
  have C3 := Lib.hid (C1.out.below hb3)
  clear hb3
  go_wp2_with fail
  refine (HRB.out _ C3.out).mono ?_
  rintro e w4 ⟨rfl, hb4⟩
  have B4 := Lib.hid (B3.out.trans (hb4.mono B3.out.size))
  have A4 := Lib.hid (A3.out.below hb4)
  have C4 := Lib.hid (C3.out.below hb4)
  clear hb4
  obtain ⟨-, lx, hlx, hcx, hax⟩ := A4.out.pairs
  obtain ⟨-, ly, hly, hcy, hay⟩ := C4.out.pairs
  have nx : a.length = lx.length := by rw [← hlx, List.length_map]
  have ny : b.length = ly.length := by rw [← hly, List.length_map]
  have HLX := Lib.hid hlx
  have HLY := Lib.hid hly
  have HCX := Lib.hid hcx
  have HCY := Lib.hid hcy
  have HAX := Lib.hid hax
  have HAY := Lib.hid hay
  have NX := Lib.hid nx
  have NY := Lib.hid ny
  clear hlx hly hcx hcy hax hay nx ny
  obtain ⟨ic, hi0, hi1, hi2, hi3⟩ := info_parts info_cl
  have HI0 := Lib.hid hi0
  have HI1 := Lib.hid hi1
  have HI2 := Lib.hid hi2
  have HI3 := Lib.hid hi3
  clear hi0 hi1 hi2 hi3
  go_wp2_with (first
    | (at_builtin; refine wpList_append_own _ rfl (.tmp 35) (.tmp 36) _ rfl w4.heap.size 34 ic _ 2 32 Tryd.underlying23 HI0.out HI1.out HI2.out HI3.out rfl (by decide) (.slice none 0 0) 0 [] rfl (World.ownsRow_nil _ _ _ _) xa a.length ca (cCells lx) rfl (by rw [cCells_len, NX.out]) HCX.out (cCells_ones (fun p hp => (HAX.out p hp).2)) (by unfold maxLen; omega) (by omega) (Nat.le_refl _) ?_; intro v5 w5 ho5 hg5 _; have HB5 := Lib.hid ((Below.refl w4.heap.size w4).grown hg5 (Nat.le_refl _) (by simp [Value.ownBlock])); have HO5 := Lib.hid ho5; have HCY5 := Lib.hid (fun j v hj => (HB5.out.cell (World.block_lt_of_cell? _ _ (HCY.out j v hj))).trans (HCY.out j v hj)); clear ho5 hg5)
    | (at_builtin; refine wpList_append_own _ rfl (.tmp 38) (.tmp 39) _ rfl w4.heap.size 34 ic _ 2 32 Tryd.underlying23 HI0.out HI1.out HI2.out HI3.out rfl (by decide) v5 _ _ rfl HO5.out xb b.length cb (cCells ly) rfl (by rw [cCells_len, NY.out]) HCY5.out (cCells_ones (fun p hp => (HAY.out p hp).2)) (by unfold maxLen; omega) (by omega) HB5.out.size ?_; intro v6 w6 ho6 hg6 _; have HB6 := Lib.hid (HB5.out.grown hg6 HB5.out.size (fun k hk => (HO5.out.lt k hk).1)); have HO6 := Lib.hid ho6; clear ho6 hg6))
  have HCL := Lib.hid (show ClsR w6 v6 (a ++ b) by
    have h1 := HO6.out
    have e1 : [] ++ cCells lx ++ cCells ly = cCells (lx ++ ly) := by simp [cCells]
    have e2 : 0 + a.length + b.length = (lx ++ ly).length := by rw [List.length_append, Nat.zero_add, NX.out, NY.out]
    rw [e1, e2] at h1
    have h2 := ClsR.of_own h1 (fun p hp => by
      rcases List.mem_append.1 hp with hp | hp
      · exact (HAX.out p hp).1.below HB6.out
      · exact (HAY.out p hp).1.below HB6.out)
    rw [List.map_append, HLX.out, HLY.out] at h2
    exact h2)
  have B6 := Lib.hid (B4.out.trans (HB6.out.mono B4.out.size))
  have A6 := Lib.hid (A4.out.below HB6.out)
  have C6 := Lib.hid (C4.out.below HB6.out)
  have HLL := Lib.hid (show ∀ c ∈ a ++ b, c.acts.length ≤ 1000000 by
    intro c hc
    rcases List.mem_append.1 hc with hc | hc
    · exact HLA.out c hc
    · exact HLB.out c hc)
  have hlen : (a ++ b).length ≤ 1000000 := by rw [List.length_append]; omega
  have HAL := Lib.hid (apply_any v6 (a ++ b) mode dir u w6 HCL.out hlen HLL.out)
  rw [HM.out] at HAL
  refine HAL.out.mono ?_
  rintro e w7 ⟨rfl, hb7⟩
  have B7 := Lib.hid (B6.out.trans (hb7.mono B6.out.size))
  have A7 := Lib.hid (A6.out.below hb7)
  have C7 := Lib.hid (C6.out.below hb7)
  clear hb7
  go_wp2_with fail
  refine (apply_any _ a mode dir u w7 A7.out (by omega) HLA.out).mono ?_
  rintro e w8 ⟨rfl, hb8⟩
  have B8 := Lib.hid (B7.out.trans (hb8.mono B7.out.size))
  have C8 := Lib.hid (C7.out.below hb8)
  clear hb8
  go_wp2_with fail
  refine (apply_any _ b _ dir u w8 C8.out (by omega) HLB.out).mono ?_
  rintro e w9 ⟨rfl, hb9⟩
  have B9 := Lib.hid (B8.out.trans (hb9.mono B8.out.size))
  clear hb9
  go_wp2
  go_ret
  exact ⟨rfl, B9.out⟩
theorem partsLaw (va vb : Value) (a b : List CC) (mode : Int) (dir : Bool) (u : Int) (w : World) (ha : ClsR w va a) (hb : ClsR w vb b) (na : a.length ≤ maxLen) (nb : b.length ≤ maxLen) (la : ∀ c ∈ a, c.acts.length ≤ maxLen) (lb : ∀ c ∈ b, c.acts.length ≤ maxLen) : Calls Tryd.prog 12 #[va, vb, .int .i64 mode, .bool dir, .int .i64 u] w fun e w' => e = .returned (.bool true) ∧ Below w.heap.size w w' := by
  cases hf : fewB a with
  | false => exact parts_a va vb a b mode dir u w ha hb na nb la lb hf
  | true =>
    cases hg : fewB b with
    | false => exact parts_b va vb a b mode dir u w ha hb na nb la lb hf hg
    | true =>
      cases hr : rightC a with
      | false => exact parts_ra va vb a b mode dir u w ha hb na nb la lb hf hg hr
      | true =>
        cases hs : rightC b with
        | false => exact parts_rb va vb a b mode dir u w ha hb na nb la lb hf hg hr hs
        | true => exact parts_all va vb a b mode dir u w ha hb na nb la lb hf hg hr hs
end Go.Proofs.YtbjajipeiigodaaDoor
