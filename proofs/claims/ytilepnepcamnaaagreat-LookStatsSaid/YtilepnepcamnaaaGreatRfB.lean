/-
  The reference's fail, link and take of stage 11: one name is taken. The conditions: no more groups than a million, no text of more than a thousand bytes.
-/
import Derived.Test.YtilepnepcamnaaaGreatRfA
import Derived.Test.YtilepnepcamnaaaGreatRsN
namespace Go.Proofs.YtilepnepcamnaaaGreat
open Go Go.RowKit
set_option maxRecDepth 100000

attribute [local go_sem] cell_off4 cell_blk4
/-- A state of the reference's walk, by value. -/
abbrev TkV (vl : Value) (i g : Int) (dn : Bool) (d : Int) (nm : ByteArray) (n e : Int) : Array Value := #[vl, .int .i64 i, .int .i64 g, .bool dn, .int .i64 d, .string nm, .int .i64 n, .int .i64 e]
abbrev TkZ : Array Value := #[.slice none 0 0, .int .i64 0, .int .i64 0, .bool false, .int .i64 0, .string ⟨#[]⟩, .int .i64 0, .int .i64 0]
theorem fail_any (x : Int) (w : World) :
    Calls Tryz.prog 76 #[.int .i64 x] w fun e w' => e = .returned (.agg #[.slice none 0 0, .int .i64 0, .int .i64 0, .bool true, .int .i64 0, .string ⟨#[]⟩, .int .i64 0, .int .i64 x]) ∧ Below w.heap.size w w' := by
  have HB := Lib.hid (ba w (.cells #[.slice none 0 0, .int .i64 0, .int .i64 0, .bool true, .int .i64 0, .string ⟨#[]⟩, .int .i64 0, .int .i64 x] 112))
  go_enter Tryz.func76, Tryz.ntmps76
  go_wp2
  exact bodyPost_ret (v := .agg #[.slice none 0 0, .int .i64 0, .int .i64 0, .bool true, .int .i64 0, .string ⟨#[]⟩, .int .i64 0, .int .i64 x]) (by simp [results, Tryz.results76, go_sem]) rfl ⟨rfl, HB.out⟩
/-- What link answers. -/
def LkPost (tg : Nm) (l : List Nm) (i : Int) (g : Nat) (w : World) (e : Ending) (w' : World) : Prop :=
  ((g = 8 ∧ e = .returned (.agg #[.slice none 0 0, .int .i64 0, .int .i64 0, .bool true, .int .i64 0, .string ⟨#[]⟩, .int .i64 0, .int .i64 40])) ∨
   (g ≠ 8 ∧ ∃ A n c, e = .returned (.agg #[.slice A n c, .int .i64 (if absP tg = true then 1 else i), .int .i64 ((g : Int) + 1), .bool false, .int .i64 0, .string ⟨#[]⟩, .int .i64 0, .int .i64 0]) ∧ StrsT w' (.slice A n c) (bAs (splitP tg ++ l)))) ∧ Below w.heap.size w w'
set_option maxHeartbeats 8000000 in
theorem link_any (tg : Nm) (l : List Nm) (Av : Option Addr) (nv cv : Nat) (i : Int) (g : Nat) (w : World) (hs : StrsT w (.slice Av nv cv) (bAs l)) (ht : tg.length ≤ 1000) (hl : l.length ≤ 10000) (hg : g ≤ 8) :
    Calls Tryz.prog 79 #[.agg #[.slice Av nv cv, .int .i64 i, .int .i64 (g : Int), .bool false, .int .i64 0, .string ⟨#[]⟩, .int .i64 0, .int .i64 0], .string (bA tg)] w (LkPost tg l i g w) := by
  have hb1 := al (ba w (.cells #[.slice Av nv cv, .int .i64 i, .int .i64 (g : Int), .bool false, .int .i64 0, .string ⟨#[]⟩, .int .i64 0, .int .i64 0] 112)) (.cells TkZ 112)
  have hk1 := (Blk.new w 112 #[.slice Av nv cv, .int .i64 i, .int .i64 (g : Int), .bool false, .int .i64 0, .string ⟨#[]⟩, .int .i64 0, .int .i64 0]).alloc (.cells TkZ 112)
  have hr1 := Blk.new (w.alloc (.cells #[.slice Av nv cv, .int .i64 i, .int .i64 (g : Int), .bool false, .int .i64 0, .string ⟨#[]⟩, .int .i64 0, .int .i64 0] 112)) 112 TkZ
  have ez : (w.alloc (.cells #[.slice Av nv cv, .int .i64 i, .int .i64 (g : Int), .bool false, .int .i64 0, .string ⟨#[]⟩, .int .i64 0, .int .i64 0] 112)).heap.size = w.heap.size + 1 := by simp
  rw [ez] at hr1
  have HB1 := Lib.hid hb1
  have HK1 := Lib.hid hk1
  have HR1 := Lib.hid hr1
  have HS1 := Lib.hid (hs.below hb1)
  clear ez hb1 hs
  obtain ⟨W1, hW1⟩ : ∃ W1, (w.alloc (.cells #[.slice Av nv cv, .int .i64 i, .int .i64 (g : Int), .bool false, .int .i64 0, .string ⟨#[]⟩, .int .i64 0, .int .i64 0] 112)).alloc (.cells TkZ 112) = W1 := ⟨_, rfl⟩
  rw [hW1] at hk1 hr1 HB1 HK1 HR1 HS1
  obtain ⟨p0, p1, p2, p3, p4, p5, p6, p7⟩ := hk1.c8
  clear hk1 hr1
  have HPF := Lib.hid (show ∀ w', g = 8 → Below w.heap.size w w' → LkPost tg l i g w (.returned (.agg #[.slice none 0 0, .int .i64 0, .int .i64 0, .bool true, .int .i64 0, .string ⟨#[]⟩, .int .i64 0, .int .i64 40])) w' from fun w' h hb => ⟨.inl ⟨h, rfl⟩, hb⟩)
  have HPG := Lib.hid (show ∀ w' A n c, g ≠ 8 → StrsT w' (.slice A n c) (bAs (splitP tg ++ l)) → Below w.heap.size w w' → LkPost tg l i g w (.returned (.agg #[.slice A n c, .int .i64 (if absP tg = true then 1 else i), .int .i64 ((g : Int) + 1), .bool false, .int .i64 0, .string ⟨#[]⟩, .int .i64 0, .int .i64 0])) w' from fun w' A n c h hn hb => ⟨.inr ⟨h, A, n, c, rfl, hn⟩, hb⟩)
  obtain ⟨LP9, hLP⟩ : ∃ LP9, LkPost tg l i g w = LP9 := ⟨_, rfl⟩
  rw [hLP] at HPF HPG ⊢
  clear hLP
  by_cases hg8 : g = 8
  · have e8 : ((g : Int) == 8) = true := by rw [hg8]; rfl
    have HG8 := Lib.hid hg8
    clear hg8
    go_enter Tryz.func79, Tryz.ntmps79
    go_wp2_with fail
    clear hW1
    refine (fail_any 40 W1).mono ?_
    rintro e w2 ⟨rfl, hb2⟩
    have hr2 := HR1.out.below hb2
    obtain ⟨y0, y1, y2, y3, y4, y5, y6, y7⟩ := hr2.c8
    obtain ⟨f0, f1, f2, f3, f4, f5, f6, f7⟩ := hr2.f8
    obtain ⟨s0, s1, s2, s3, s4, s5, s6, s7⟩ := hr2.s8
    have HB2 := Lib.hid (below_grown (bt hb2 HB1.out) (grown8 w2 (w.heap.size + 1) (.slice none 0 0) (.int .i64 0) (.int .i64 0) (.bool true) (.int .i64 0) (.string ⟨#[]⟩) (.int .i64 0) (.int .i64 40)) (Nat.le_succ _))
    clear hb2 hr2 p0 p1 p2 p3 p4 p5 p6 p7
    go_wp2
    exact bodyPost_ret (v := .agg #[.slice none 0 0, .int .i64 0, .int .i64 0, .bool true, .int .i64 0, .string ⟨#[]⟩, .int .i64 0, .int .i64 40]) (by simp [results, Tryz.results79, go_sem, s0, s1, s2, s3, s4, s5, s6, s7]) rfl (HPF.out _ HG8.out HB2.out)
  · have e8 : ((g : Int) == 8) = false := by rw [beq_eq_false_iff_ne]; omega
    have HG8 := Lib.hid hg8
    have HSP := Lib.hid (ref_split (bA tg) W1 (by rw [size_bA]; omega))
    rw [tl_bA] at HSP
    have hsl := spl_len tg
    have hbl := bAs_len (splitP tg)
    have hb2 : (bAs l).length = l.length := bAs_len l
    obtain ⟨S, hS⟩ : ∃ S, splitP tg = S := ⟨_, rfl⟩
    rw [hS] at HSP hsl hbl HPG
    have HAP := Lib.hid (show bAs (S ++ l) = bAs S ++ bAs l by simp [bAs])
    have HLN := Lib.hid (show (bAs S).length + (bAs l).length ≤ 100000000 ∧ (bAs S).length ≤ 100000000 by constructor <;> omega)
    have hfw : IntKind.i64.wrap ((g : Int) + 1) = (g : Int) + 1 := by rw [IntKind.wrap_i64] <;> omega
    generalize absP tg = ab at HSP HPG
    clear hg8 hS hsl hbl hb2 hl ht
    cases ab with
    | false =>
      go_enter Tryz.func79, Tryz.ntmps79
      go_wp2_with fail
      clear hW1
      refine HSP.out.mono ?_
      rintro e w2 ⟨v2, rfl, hv2, hb2⟩
      have HV2 := Lib.hid hv2
      have HB2 := Lib.hid hb2
      have hk2 := HK1.out.below hb2
      have HK2 := Lib.hid hk2
      have HR2 := Lib.hid (HR1.out.below hb2)
      have HS2 := Lib.hid (HS1.out.below hb2)
      have HLO := Lib.hid (show W1.heap.size ≤ w2.heap.size from hb2.size)
      clear p0 p1 p2 p3 p4 p5 p6 p7 hv2 hb2
      obtain ⟨p0, p1, p2, p3, p4, p5, p6, p7⟩ := hk2.c8
      clear hk2
      have hown0 : w2.ownsRow w2.heap.size 9 1 (.slice none 0 0) ([] : List ByteArray).length (sCells []) := own_nil_str w2
      have HNE := Lib.hid (show ¬ w.heap.size + 1 = w.heap.size by omega)
      go_wp2_with (first
        | (at_builtin; refine wpList_append_strs rfl (.tmp 17) (.tmp 18) rfl w2.heap.size (.slice none 0 0) [] rfl hown0 v2 (bAs S) rfl HV2.out (by have h := HLN.out.2; simpa using h) (Nat.le_refl _) ?_; intro v3 w3 ho3 hg3; rw [List.nil_append] at ho3; obtain ⟨A3, c3, hv3⟩ := own_slice ho3; subst hv3; have hb3 : Below w2.heap.size w2 w3 := (Below.refl _ _).grown hg3 (Nat.le_refl _) (fun q hq => by cases hq); have HO3 := Lib.hid ho3; have HB3 := Lib.hid hb3; clear p0 p1 p2 p3 p4 p5 p6 p7; obtain ⟨p0, p1, p2, p3, p4, p5, p6, p7⟩ := (HK2.out.below hb3).c8; clear ho3 hg3 hb3 hown0)
        | (at_builtin; refine wpList_append_strs rfl (.tmp 20) (.tmp 22) rfl w2.heap.size (.slice A3 (bAs S).length c3) (bAs S) rfl HO3.out (.slice Av nv cv) (bAs l) rfl (HS2.out.below HB3.out).1 HLN.out.1 HB3.out.size ?_; intro v4 w4 ho4 hg4; obtain ⟨A4, c4, hv4⟩ := own_slice ho4; subst hv4; have hn4 : StrsT w4 (.slice A4 (bAs S ++ bAs l).length c4) (bAs (S ++ l)) := (by rw [HAP.out]; exact StrsT.of_own ho4); have hb4 := HB3.out.grown hg4 HB3.out.size (fun q hq => (HO3.out.lt q hq).1); have hk4 := HK2.out.below hb4; have hr4 := HR2.out.below hb4; have HB4 := Lib.hid (bt hb4 (bt HB2.out HB1.out)); clear p0 p1 p2 p3 p4 p5 p6 p7 hb4; generalize (bAs S ++ bAs l).length = N9 at hn4 ⊢; obtain ⟨p0, p1, p2, p3, p4, p5, p6, p7⟩ := hk4.c8; have hk5 := hk4.set8_0 (.slice A4 N9 c4); have hr5 := hr4.kept (grown_setCell w4 ⟨w.heap.size, 0, none⟩ (.slice A4 N9 c4)) (fun e => by injection e with e; exact HNE.out e); obtain ⟨fa0, fb0, fc0, -⟩ := hk4.f8; have hk6 := hk5.set8_2 (.int .i64 ((g : Int) + 1)); have hr6 := hr5.kept (grown_setCell (w4.setCell ⟨w.heap.size, 0, none⟩ (.slice A4 N9 c4)) ⟨w.heap.size, 2, none⟩ (.int .i64 ((g : Int) + 1))) (fun e => by injection e with e; exact HNE.out e); obtain ⟨fa1, fb1, fc1, -⟩ := hk5.f8; obtain ⟨m0, m1, m2, m3, m4, m5, m6, m7⟩ := hk6.c8; obtain ⟨y0, y1, y2, y3, y4, y5, y6, y7⟩ := hr6.c8; obtain ⟨f0, f1, f2, f3, f4, f5, f6, f7⟩ := hr6.f8; obtain ⟨s0, s1, s2, s3, s4, s5, s6, s7⟩ := hr6.s8; have HBF := Lib.hid (below_grown (below_grown (below_grown HB4.out (grown_setCell w4 ⟨w.heap.size, 0, none⟩ (.slice A4 N9 c4)) (Nat.le_refl _)) (grown_setCell (w4.setCell ⟨w.heap.size, 0, none⟩ (.slice A4 N9 c4)) ⟨w.heap.size, 2, none⟩ (.int .i64 ((g : Int) + 1))) (Nat.le_refl _)) (grown8 ((w4.setCell ⟨w.heap.size, 0, none⟩ (.slice A4 N9 c4)).setCell ⟨w.heap.size, 2, none⟩ (.int .i64 ((g : Int) + 1))) (w.heap.size + 1) (.slice A4 N9 c4) (.int .i64 i) (.int .i64 ((g : Int) + 1)) (.bool false) (.int .i64 0) (.string ⟨#[]⟩) (.int .i64 0) (.int .i64 0)) (Nat.le_succ _)); have HNF := Lib.hid ((StrsT.other (StrsT.other (StrsT.other hn4 (grown_setCell w4 ⟨w.heap.size, 0, none⟩ (.slice A4 N9 c4)) hk4 (by decide)) (grown_setCell (w4.setCell ⟨w.heap.size, 0, none⟩ (.slice A4 N9 c4)) ⟨w.heap.size, 2, none⟩ (.int .i64 ((g : Int) + 1))) hk5 (by decide)) (grown8 ((w4.setCell ⟨w.heap.size, 0, none⟩ (.slice A4 N9 c4)).setCell ⟨w.heap.size, 2, none⟩ (.int .i64 ((g : Int) + 1))) (w.heap.size + 1) (.slice A4 N9 c4) (.int .i64 i) (.int .i64 ((g : Int) + 1)) (.bool false) (.int .i64 0) (.string ⟨#[]⟩) (.int .i64 0) (.int .i64 0)) hr6 (by decide))); clear ho4 hg4 hn4 hk4 hr4 hk5 hr5 hk6 hr6)
        | fail)
      exact bodyPost_ret (v := .agg #[.slice A4 N9 c4, .int .i64 i, .int .i64 ((g : Int) + 1), .bool false, .int .i64 0, .string ⟨#[]⟩, .int .i64 0, .int .i64 0]) (by simp [results, Tryz.results79, go_sem, s0, s1, s2, s3, s4, s5, s6, s7]) rfl (HPG.out _ A4 N9 c4 HG8.out HNF.out HBF.out)
    | true =>
      go_enter Tryz.func79, Tryz.ntmps79
      go_wp2_with fail
      clear hW1
      refine HSP.out.mono ?_
      rintro e w2 ⟨v2, rfl, hv2, hb2⟩
      have HV2 := Lib.hid hv2
      have HB2 := Lib.hid hb2
      have hk2 := HK1.out.below hb2
      have HK2 := Lib.hid hk2
      have HR2 := Lib.hid (HR1.out.below hb2)
      have HS2 := Lib.hid (HS1.out.below hb2)
      have HLO := Lib.hid (show W1.heap.size ≤ w2.heap.size from hb2.size)
      clear p0 p1 p2 p3 p4 p5 p6 p7 hv2 hb2
      obtain ⟨p0, p1, p2, p3, p4, p5, p6, p7⟩ := hk2.c8
      clear hk2
      have hown0 : w2.ownsRow w2.heap.size 9 1 (.slice none 0 0) ([] : List ByteArray).length (sCells []) := own_nil_str w2
      have HNE := Lib.hid (show ¬ w.heap.size + 1 = w.heap.size by omega)
      go_wp2_with (first
        | (at_builtin; refine wpList_append_strs rfl (.tmp 17) (.tmp 18) rfl w2.heap.size (.slice none 0 0) [] rfl hown0 v2 (bAs S) rfl HV2.out (by have h := HLN.out.2; simpa using h) (Nat.le_refl _) ?_; intro v3 w3 ho3 hg3; rw [List.nil_append] at ho3; obtain ⟨A3, c3, hv3⟩ := own_slice ho3; subst hv3; have hb3 : Below w2.heap.size w2 w3 := (Below.refl _ _).grown hg3 (Nat.le_refl _) (fun q hq => by cases hq); have HO3 := Lib.hid ho3; have HB3 := Lib.hid hb3; clear p0 p1 p2 p3 p4 p5 p6 p7; obtain ⟨p0, p1, p2, p3, p4, p5, p6, p7⟩ := (HK2.out.below hb3).c8; clear ho3 hg3 hb3 hown0)
        | (at_builtin; refine wpList_append_strs rfl (.tmp 20) (.tmp 22) rfl w2.heap.size (.slice A3 (bAs S).length c3) (bAs S) rfl HO3.out (.slice Av nv cv) (bAs l) rfl (HS2.out.below HB3.out).1 HLN.out.1 HB3.out.size ?_; intro v4 w4 ho4 hg4; obtain ⟨A4, c4, hv4⟩ := own_slice ho4; subst hv4; have hn4 : StrsT w4 (.slice A4 (bAs S ++ bAs l).length c4) (bAs (S ++ l)) := (by rw [HAP.out]; exact StrsT.of_own ho4); have hb4 := HB3.out.grown hg4 HB3.out.size (fun q hq => (HO3.out.lt q hq).1); have hk4 := HK2.out.below hb4; have hr4 := HR2.out.below hb4; have HB4 := Lib.hid (bt hb4 (bt HB2.out HB1.out)); clear p0 p1 p2 p3 p4 p5 p6 p7 hb4; generalize (bAs S ++ bAs l).length = N9 at hn4 ⊢; obtain ⟨p0, p1, p2, p3, p4, p5, p6, p7⟩ := hk4.c8; have hk5 := hk4.set8_0 (.slice A4 N9 c4); have hr5 := hr4.kept (grown_setCell w4 ⟨w.heap.size, 0, none⟩ (.slice A4 N9 c4)) (fun e => by injection e with e; exact HNE.out e); obtain ⟨fa0, fb0, fc0, -⟩ := hk4.f8; have hk6 := hk5.set8_2 (.int .i64 ((g : Int) + 1)); have hr6 := hr5.kept (grown_setCell (w4.setCell ⟨w.heap.size, 0, none⟩ (.slice A4 N9 c4)) ⟨w.heap.size, 2, none⟩ (.int .i64 ((g : Int) + 1))) (fun e => by injection e with e; exact HNE.out e); obtain ⟨fa1, fb1, fc1, -⟩ := hk5.f8; have hk7 := hk6.set8_1 (.int .i64 1); have hr7 := hr6.kept (grown_setCell ((w4.setCell ⟨w.heap.size, 0, none⟩ (.slice A4 N9 c4)).setCell ⟨w.heap.size, 2, none⟩ (.int .i64 ((g : Int) + 1))) ⟨w.heap.size, 1, none⟩ (.int .i64 1)) (fun e => by injection e with e; exact HNE.out e); obtain ⟨fa2, fb2, fc2, -⟩ := hk6.f8; obtain ⟨m0, m1, m2, m3, m4, m5, m6, m7⟩ := hk7.c8; obtain ⟨y0, y1, y2, y3, y4, y5, y6, y7⟩ := hr7.c8; obtain ⟨f0, f1, f2, f3, f4, f5, f6, f7⟩ := hr7.f8; obtain ⟨s0, s1, s2, s3, s4, s5, s6, s7⟩ := hr7.s8; have HBF := Lib.hid (below_grown (below_grown (below_grown (below_grown HB4.out (grown_setCell w4 ⟨w.heap.size, 0, none⟩ (.slice A4 N9 c4)) (Nat.le_refl _)) (grown_setCell (w4.setCell ⟨w.heap.size, 0, none⟩ (.slice A4 N9 c4)) ⟨w.heap.size, 2, none⟩ (.int .i64 ((g : Int) + 1))) (Nat.le_refl _)) (grown_setCell ((w4.setCell ⟨w.heap.size, 0, none⟩ (.slice A4 N9 c4)).setCell ⟨w.heap.size, 2, none⟩ (.int .i64 ((g : Int) + 1))) ⟨w.heap.size, 1, none⟩ (.int .i64 1)) (Nat.le_refl _)) (grown8 (((w4.setCell ⟨w.heap.size, 0, none⟩ (.slice A4 N9 c4)).setCell ⟨w.heap.size, 2, none⟩ (.int .i64 ((g : Int) + 1))).setCell ⟨w.heap.size, 1, none⟩ (.int .i64 1)) (w.heap.size + 1) (.slice A4 N9 c4) (.int .i64 1) (.int .i64 ((g : Int) + 1)) (.bool false) (.int .i64 0) (.string ⟨#[]⟩) (.int .i64 0) (.int .i64 0)) (Nat.le_succ _)); have HNF := Lib.hid ((StrsT.other (StrsT.other (StrsT.other (StrsT.other hn4 (grown_setCell w4 ⟨w.heap.size, 0, none⟩ (.slice A4 N9 c4)) hk4 (by decide)) (grown_setCell (w4.setCell ⟨w.heap.size, 0, none⟩ (.slice A4 N9 c4)) ⟨w.heap.size, 2, none⟩ (.int .i64 ((g : Int) + 1))) hk5 (by decide)) (grown_setCell ((w4.setCell ⟨w.heap.size, 0, none⟩ (.slice A4 N9 c4)).setCell ⟨w.heap.size, 2, none⟩ (.int .i64 ((g : Int) + 1))) ⟨w.heap.size, 1, none⟩ (.int .i64 1)) hk6 (by decide)) (grown8 (((w4.setCell ⟨w.heap.size, 0, none⟩ (.slice A4 N9 c4)).setCell ⟨w.heap.size, 2, none⟩ (.int .i64 ((g : Int) + 1))).setCell ⟨w.heap.size, 1, none⟩ (.int .i64 1)) (w.heap.size + 1) (.slice A4 N9 c4) (.int .i64 1) (.int .i64 ((g : Int) + 1)) (.bool false) (.int .i64 0) (.string ⟨#[]⟩) (.int .i64 0) (.int .i64 0)) hr7 (by decide))); clear ho4 hg4 hn4 hk4 hr4 hk5 hr5 hk6 hr6 hk7 hr7)
        | fail)
      exact bodyPost_ret (v := .agg #[.slice A4 N9 c4, .int .i64 1, .int .i64 ((g : Int) + 1), .bool false, .int .i64 0, .string ⟨#[]⟩, .int .i64 0, .int .i64 0]) (by simp [results, Tryz.results79, go_sem, s0, s1, s2, s3, s4, s5, s6, s7]) rfl (HPG.out _ A4 N9 c4 HG8.out HNF.out HBF.out)
end Go.Proofs.YtilepnepcamnaaaGreat
