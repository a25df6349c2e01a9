/-
  The reference's Open of stage 16. The conditions are said at each.
-/
import Derived.Test.YtfopnfgfoicidaaGreatFRc
import Derived.Test.YtfopnfgfoicidaaGreatRCr
import Derived.Deep.CutBlock
namespace Go.Proofs.YtfopnfgfoicidaaGreat
open Go Go.RowKit
set_option maxRecDepth 100000

attribute [local go_sem] cell_off4 cell_blk4
/-- The ways of Open. -/
structure FoW (t : List Nd) (c : Wh) (um : Int) (p : Nm) (fl md : Int) (F : Fo) (E : Int) : Prop where
  we : E ≠ 0 → foE t c um p fl md = E ∧ foT t c um p fl md = t ∧ foI t c um p fl md = 0
  wn : E = 0 → F.node = 0 → flB fl 2 = false → foE t c um p fl md = 2 ∧ foT t c um p fl md = t ∧ foI t c um p fl md = 0
  wc : E = 0 → F.node = 0 → flB fl 2 = true → foE t c um p fl md = crE t c um p md (flF fl) ∧ foT t c um p fl md = crT t c um p md (flF fl) ∧ foI t c um p fl md = crI t c um p md (flF fl)
  wx : E = 0 → F.node ≠ 0 → ∀ v, v ≠ 0 → fxE t c fl F.node = v → foE t c um p fl md = v ∧ foT t c um p fl md = t ∧ foI t c um p fl md = 0
  wt : E = 0 → F.node ≠ 0 → fxE t c fl F.node = 0 → flB fl 4 = true → foE t c um p fl md = 0 ∧ foT t c um p fl md = setT t F.node (wrN c (tget t F.node) []) ∧ foI t c um p fl md = F.node
  wf : E = 0 → F.node ≠ 0 → fxE t c fl F.node = 0 → flB fl 4 = false → foE t c um p fl md = 0 ∧ foT t c um p fl md = t ∧ foI t c um p fl md = F.node
theorem fo_ways {t : List Nd} {c : Wh} {um : Int} {p : Nm} {fl md : Int} {F : Fo} {E : Int} (hr : flR fl = true) (hR : resM t c p (flF fl) = (F, E)) : FoW t c um p fl md F E := by
  have hE : foE t c um p fl md = if E ≠ 0 then E else if F.node = 0 then (if flB fl 2 = false then 2 else crE t c um p md (flF fl)) else fxE t c fl F.node := by
    unfold foE
    rw [hr, if_neg (by decide), hR]
  have hT : foT t c um p fl md = if foE t c um p fl md ≠ 0 then t else if F.node = 0 then crT t c um p md (flF fl) else if flB fl 4 = true then setT t F.node (wrN c (tget t F.node) []) else t := by
    unfold foT
    rw [hR]
  have hI : foI t c um p fl md = if foE t c um p fl md ≠ 0 then 0 else if F.node = 0 then crI t c um p md (flF fl) else F.node := by
    unfold foI
    rw [hR]
  refine ⟨fun q => ?_, fun q1 q2 q3 => ?_, fun q1 q2 q3 => ?_, fun q1 q2 v hv q3 => ?_, fun q1 q2 q3 q4 => ?_, fun q1 q2 q3 q4 => ?_⟩
  · rw [if_pos q] at hE
    rw [hE, if_pos q] at hT hI
    exact ⟨hE, hT, hI⟩
  · rw [if_neg (fun z => z q1), if_pos q2, if_pos q3] at hE
    rw [hE, if_pos (by decide)] at hT hI
    exact ⟨hE, hT, hI⟩
  · rw [if_neg (fun z => z q1), if_pos q2, if_neg (by rw [q3]; decide)] at hE
    rw [hE, if_pos q2] at hT hI
    by_cases z : crE t c um p md (flF fl) = 0
    · rw [if_neg (fun y => y z)] at hT hI
      exact ⟨hE, hT, hI⟩
    · rw [if_pos z] at hT hI
      obtain ⟨y1, y2⟩ := pl_err (t := t) (c := c) (R := resM t c p (flF fl)) (k := 1) (m := mskM md um) (tg := []) z
      exact ⟨hE, by rw [hT]; exact y1.symm, by rw [hI]; exact y2.symm⟩
  · rw [if_neg (fun z => z q1), if_neg q2, q3] at hE
    rw [hE, if_pos hv] at hT hI
    exact ⟨hE, hT, hI⟩
  · rw [if_neg (fun z => z q1), if_neg q2, q3] at hE
    rw [hE, if_neg (fun z => z rfl), if_neg q2] at hT hI
    rw [if_pos q4] at hT
    exact ⟨hE, hT, hI⟩
  · rw [if_neg (fun z => z q1), if_neg q2, q3] at hE
    rw [hE, if_neg (fun z => z rfl), if_neg q2] at hT hI
    rw [if_neg (by rw [q4]; decide)] at hT
    exact ⟨hE, hT, hI⟩
/-- The reference's Get, with where what it answers lies if the number is one of the table's. -/
theorem rget_both {P : Nat → Prop} (v : Value) (t : List Nd) (i : Int) (w : World) (h : NsR P w v t) (hl : t.length ≤ 24) :
    Calls Tryz.prog 30 #[.agg #[v], .int .i64 i] w fun e w' => ∃ vn vk, e = .returned (.agg (rfC (tget t i) vn vk)) ∧ StrsR w' vn (nmA (nmE (tget t i).ents)) ∧ IntsR w' vk (idE (tget t i).ents) ∧ ((1 ≤ i ∧ i ≤ t.length) → LP (fun b => P b ∧ b < w.heap.size) vn ∧ LP (fun b => P b ∧ b < w.heap.size) vk) ∧ Below w.heap.size w w' := by
  by_cases hi : 1 ≤ i ∧ i ≤ t.length
  · refine (rgetp_any v t i w h hi hl).mono ?_
    rintro e w' ⟨vn, vk, rfl, h1, h2, h3, h4, h5⟩
    exact ⟨vn, vk, rfl, h1, h2, fun _ => ⟨h3, h4⟩, h5⟩
  · refine (rget_rf v t i w h hl).mono ?_
    rintro e w' ⟨vn, vk, rfl, h1, h2, h5⟩
    exact ⟨vn, vk, rfl, h1, h2, fun q => absurd q hi, h5⟩
theorem pla_drew {P : Nat → Prop} {w W : World} {T : List Nd} {i x : Int} {e : Ending} (h : PlA P w T i x e W) : PlA P w T i x e W.drew := by
  obtain ⟨v, h1, h2, h3⟩ := h
  exact ⟨v, h1, h2.below (Below.refl _ _).drew, h3.drew⟩
theorem fx_17 {t : List Nd} {c : Wh} {fl i : Int} (h : flB fl 3 = true) : fxE t c fl i = 17 := if_pos h
theorem fx_40 {t : List Nd} {c : Wh} {fl i : Int} (h : flB fl 3 = false) (h3 : (tget t i).kind = 3) : fxE t c fl i = 40 := by unfold fxE; rw [h, if_neg (by decide), if_pos h3]
theorem fx_21 {t : List Nd} {c : Wh} {fl i : Int} (h : flB fl 3 = false) (h3 : ¬ (tget t i).kind = 3) (h2 : (tget t i).kind = 2) : fxE t c fl i = 21 := by unfold fxE; rw [h, if_neg (by decide), if_neg h3, if_pos h2]
theorem fx_13 {t : List Nd} {c : Wh} {fl i : Int} (h : flB fl 3 = false) (h3 : ¬ (tget t i).kind = 3) (h2 : ¬ (tget t i).kind = 2) (hc : flC t c fl i = true) : fxE t c fl i = 13 := by unfold fxE; rw [h, if_neg (by decide), if_neg h3, if_neg h2, if_pos hc]
theorem fx_0 {t : List Nd} {c : Wh} {fl i : Int} (h : flB fl 3 = false) (h3 : ¬ (tget t i).kind = 3) (h2 : ¬ (tget t i).kind = 2) (hc : flC t c fl i = false) : fxE t c fl i = 0 := by unfold fxE; rw [h, if_neg (by decide), if_neg h3, if_neg h2, if_neg (by rw [hc]; decide)]
set_option maxHeartbeats 32000000 in
theorem rfopen_any {P : Nat → Prop} (v : Value) (t : List Nd) (c : Wh) (A0 : Option Addr) (m0 k0 : Nat) (um : Int) (p : Nm) (fl md : Int) (w : World) (h : NsR P w v t) (ht : Trx t) (hc : CrR w c A0 m0 k0) (hp : p.length ≤ 1000) (hP : ∀ b, w.heap.size ≤ b → P b) :
    Calls Tryz.prog 10 #[.agg #[v], .agg #[.int .i64 c.u, .int .i64 c.g, .slice A0 m0 k0], .int .i64 um, .string (bA p), .int .i64 fl, .int .i64 md] w (PlA P w (foT t c um p fl md) (foI t c um p fl md) (foE t c um p fl md)) := by
  obtain ⟨g, cc, rfl⟩ := ns_form h
  obtain ⟨⟨F, E⟩, hR⟩ : ∃ X, resM t c p (flF fl) = X := ⟨_, rfl⟩
  have Ge := Lib.hid (fun (q : flR fl = true) => (fo_ways (t := t) (c := c) (um := um) (p := p) (md := md) q hR).we)
  have Gn := Lib.hid (fun (q : flR fl = true) => (fo_ways (t := t) (c := c) (um := um) (p := p) (md := md) q hR).wn)
  have Gc := Lib.hid (fun (q : flR fl = true) => (fo_ways (t := t) (c := c) (um := um) (p := p) (md := md) q hR).wc)
  have Gx := Lib.hid (fun (q : flR fl = true) => (fo_ways (t := t) (c := c) (um := um) (p := p) (md := md) q hR).wx)
  have Gt := Lib.hid (fun (q : flR fl = true) => (fo_ways (t := t) (c := c) (um := um) (p := p) (md := md) q hR).wt)
  have Gf := Lib.hid (fun (q : flR fl = true) => (fo_ways (t := t) (c := c) (um := um) (p := p) (md := md) q hR).wf)
  have H22 := Lib.hid (show flR fl = false → foE t c um p fl md = 22 ∧ foT t c um p fl md = t ∧ foI t c um p fl md = 0 from fun q => by
    have e : foE t c um p fl md = 22 := if_pos q
    exact ⟨e, fo_err (by rw [e]; decide)⟩)
  generalize foE t c um p fl md = RE at Ge Gn Gc Gx Gt Gf H22 ⊢
  generalize foT t c um p fl md = RT at Ge Gn Gc Gx Gt Gf H22 ⊢
  generalize foI t c um p fl md = RI at Ge Gn Gc Gx Gt Gf H22 ⊢
  have hb1 := ba w (.cells #[.slice (some ⟨g, 0, none⟩) t.length cc] 32)
  have h11 := Blk.new w 32 #[.slice (some ⟨g, 0, none⟩) t.length cc]
  obtain ⟨W1, hW1⟩ : ∃ W, w.alloc (.cells #[.slice (some ⟨g, 0, none⟩) t.length cc] 32) = W := ⟨_, rfl⟩
  rw [hW1] at hb1 h11
  have hb2 := al hb1 (.cells #[.int .i64 c.u, .int .i64 c.g, .slice A0 m0 k0] 37)
  have h12 := h11.alloc (.cells #[.int .i64 c.u, .int .i64 c.g, .slice A0 m0 k0] 37)
  have h22 := Blk.new W1 37 #[.int .i64 c.u, .int .i64 c.g, .slice A0 m0 k0]
  have ne12 : w.heap.size ≠ W1.heap.size := Nat.ne_of_lt h11.lt
  obtain ⟨W2, hW2⟩ : ∃ W, W1.alloc (.cells #[.int .i64 c.u, .int .i64 c.g, .slice A0 m0 k0] 37) = W := ⟨_, rfl⟩
  rw [hW2] at hb2 h12 h22
  have hb3 := al hb2 (.cells #[.slice none 0 0] 32)
  have h13 := h12.alloc (.cells #[.slice none 0 0] 32)
  have h23 := h22.alloc (.cells #[.slice none 0 0] 32)
  have h33 := Blk.new W2 32 #[.slice none 0 0]
  have ne13 : w.heap.size ≠ W2.heap.size := Nat.ne_of_lt h12.lt
  have ne23 : W1.heap.size ≠ W2.heap.size := Nat.ne_of_lt h22.lt
  obtain ⟨W3, hW3⟩ : ∃ W, W2.alloc (.cells #[.slice none 0 0] 32) = W := ⟨_, rfl⟩
  rw [hW3] at hb3 h13 h23 h33
  have lo2 : w.heap.size ≤ W1.heap.size := hb1.size
  obtain ⟨z2, hz2⟩ : ∃ z, W1.heap.size = z := ⟨_, rfl⟩
  rw [hz2] at h23 lo2 ne12 ne23
  have lo3 : w.heap.size ≤ W2.heap.size := hb2.size
  obtain ⟨R, hzR⟩ : ∃ z, W2.heap.size = z := ⟨_, rfl⟩
  rw [hzR] at h33 lo3 ne13 ne23
  have HN := Lib.hid (show NsR (fun b => P b ∧ b ≠ R) W3 (.slice (some ⟨g, 0, none⟩) t.length cc) t from (h.mono (fun b hb hl => ⟨hb, by omega⟩)).below hb3)
  have HC := Lib.hid (hc.below hb3)
  have HX := Lib.hid ht
  have HP := Lib.hid hP
  have HTL := Lib.hid ht.le
  have HB3 := Lib.hid hb3
  have H1 := Lib.hid h13
  have H2 := Lib.hid h23
  have H3 := Lib.hid h33
  have HL3 := Lib.hid lo3
  have HNE1 := Lib.hid ne13
  have HNE2 := Lib.hid ne23
  have HRT := Lib.hid (rfright_any fl W3)
  have HRS := Lib.hid (rres_any (.slice (some ⟨g, 0, none⟩) t.length cc) t c A0 m0 k0 p (flF fl) W3 HN.out ht.le ht.ok HC.out hp (F, E) hR)
  have HCR := Lib.hid (fun (W : World) (hb : Below W3.heap.size W3 W) => rcreate_any (P := fun b => P b ∧ b ≠ R) (.slice (some ⟨g, 0, none⟩) t.length cc) t c A0 m0 k0 um p md (flF fl) W (HN.out.below hb) ht (HC.out.below hb) hp (fun b q => ⟨hP b (by have := hb3.size; have := hb.size; omega), by have := h33.lt; have := hb.size; omega⟩))
  have HGT := Lib.hid (fun (W : World) (hb : Below W3.heap.size W3 W) => rget_both (P := fun b => P b ∧ b ≠ R) (.slice (some ⟨g, 0, none⟩) t.length cc) t F.node W (HN.out.below hb) ht.le)
  have HCN := Lib.hid (fun (x : Int) (W : World) (hb : Below W3.heap.size W3 W) => rrcan_any (.slice (some ⟨g, 0, none⟩) t.length cc) t c A0 m0 k0 F.node x W (HN.out.below hb) ht.le (HC.out.below hb))
  have t0 := h13.cell 0
  obtain ⟨c0, c1, c2⟩ := h23.c3
  simp at t0
  clear h ht hc hp hP hR hb1 hb2 hb3 h11 h12 h22 h13 h23 h33 lo2 lo3 ne12 ne13 ne23
  go_enter Tryz.func10, Tryz.ntmps10
  go_wp2_with fail
  clear hW1 hW2 hz2 hW3 hzR
  refine HRT.out.mono ?_
  rintro e w4 ⟨rfl, rfl⟩
  cases hfr : flR fl with
  | false =>
    have HA := Lib.hid (H22.out hfr)
    clear t0 hfr
    have hr := H3.out.below (Below.refl W3.heap.size W3)
    have hq := H1.out.below (Below.refl W3.heap.size W3)
    have r0 := hr.cell 0
    have r1 := hr.frozen 0
    have t0 := hq.cell 0
    simp at r0 t0
    have s0 : ∀ u, (W3.setCell ⟨R, 0, none⟩ u).cell? ⟨R, 0, none⟩ = some u := fun u => (hr.set_ 0 u).cell 0
    have HE := Lib.hid (pla_back (P := P) (w := w) (R := R) (i := 0) (x := 22) (HN.out.below (Below.refl W3.heap.size W3)) (fun b hb => hb) (bt (Below.refl W3.heap.size W3) HB3.out) HL3.out (HA.out).1 (HA.out).2.1 (HA.out).2.2)
    clear hr hq
    go_wp2
    exact bodyPost_ret (v := .tuple #[.agg #[.slice (some ⟨g, 0, none⟩) t.length cc], .int .i64 0, .int .i64 22]) (by simp [results, Tryz.results10, go_sem, s0]) rfl HE.out
  | true =>
  have Ke := Lib.hid (Ge.out hfr)
  clear Ge
  have Ge := Ke
  clear Ke
  have Kn := Lib.hid (Gn.out hfr)
  clear Gn
  have Gn := Kn
  clear Kn
  have Kc := Lib.hid (Gc.out hfr)
  clear Gc
  have Gc := Kc
  clear Kc
  have Kx := Lib.hid (Gx.out hfr)
  clear Gx
  have Gx := Kx
  clear Kx
  have Kt := Lib.hid (Gt.out hfr)
  clear Gt
  have Gt := Kt
  clear Kt
  have Kf := Lib.hid (Gf.out hfr)
  clear Gf
  have Gf := Kf
  clear Kf
  have HTI := Lib.hid (show flC t c fl F.node = false → 1 ≤ F.node ∧ F.node ≤ t.length from fun q => tis_in (flc_tis q hfr))
  obtain ⟨n, rfl, hn63⟩ : ∃ n : Nat, fl = (n : Int) ∧ n ≤ 63 := by
    have h : 0 ≤ fl ∧ fl ≤ 63 := by
      unfold flR at hfr
      simp only [Bool.and_eq_true, decide_eq_true_eq] at hfr
      exact hfr.1
    exact ⟨fl.toNat, by omega, by omega⟩
  have B0 := Lib.hid (fun (W : World) => show Calls Tryz.prog 27 #[.int .i64 (n : Int), .int .i64 0] W fun e w' => e = .returned (.bool (flB (n : Int) 0)) ∧ W = w' from rhas_any n 0 W (by omega) (by decide))
  have B1 := Lib.hid (fun (W : World) => show Calls Tryz.prog 27 #[.int .i64 (n : Int), .int .i64 1] W fun e w' => e = .returned (.bool (flB (n : Int) 1)) ∧ W = w' from rhas_any n 1 W (by omega) (by decide))
  have B2 := Lib.hid (fun (W : World) => show Calls Tryz.prog 27 #[.int .i64 (n : Int), .int .i64 2] W fun e w' => e = .returned (.bool (flB (n : Int) 2)) ∧ W = w' from rhas_any n 2 W (by omega) (by decide))
  have B3 := Lib.hid (fun (W : World) => show Calls Tryz.prog 27 #[.int .i64 (n : Int), .int .i64 3] W fun e w' => e = .returned (.bool (flB (n : Int) 3)) ∧ W = w' from rhas_any n 3 W (by omega) (by decide))
  have B4 := Lib.hid (fun (W : World) => show Calls Tryz.prog 27 #[.int .i64 (n : Int), .int .i64 4] W fun e w' => e = .returned (.bool (flB (n : Int) 4)) ∧ W = w' from rhas_any n 4 W (by omega) (by decide))
  have B5 := Lib.hid (fun (W : World) => show Calls Tryz.prog 27 #[.int .i64 (n : Int), .int .i64 5] W fun e w' => e = .returned (.bool (flB (n : Int) 5)) ∧ W = w' from rhas_any n 5 W (by omega) (by decide))
  have HFF := Lib.hid (show flF (n : Int) = (!flB (n : Int) 5 && !flB (n : Int) 3) from rfl)
  have HFC := Lib.hid (show flC t c (n : Int) F.node = ((flB (n : Int) 0 && !canT t c F.node 4) || (flB (n : Int) 1 && !canT t c F.node 2)) from rfl)
  have HX17 := Lib.hid (fun (q : flB (n : Int) 3 = true) => fx_17 (t := t) (c := c) (i := F.node) q)
  have HX40 := Lib.hid (fun (q : flB (n : Int) 3 = false) => fx_40 (t := t) (c := c) (i := F.node) q)
  have HX21 := Lib.hid (fun (q : flB (n : Int) 3 = false) => fx_21 (t := t) (c := c) (i := F.node) q)
  have HX13 := Lib.hid (fun (q : flB (n : Int) 3 = false) => fx_13 (t := t) (c := c) (i := F.node) q)
  have HX0 := Lib.hid (fun (q : flB (n : Int) 3 = false) => fx_0 (t := t) (c := c) (i := F.node) q)
  generalize flF (n : Int) = ff at HRS HCR HFF Gc
  generalize flC t c (n : Int) F.node = fc at HFC HX13 HX0 HTI
  generalize flB (n : Int) 0 = b0 at B0 HFC
  generalize flB (n : Int) 1 = b1 at B1 HFC
  generalize flB (n : Int) 2 = b2 at B2 Gn Gc
  generalize flB (n : Int) 3 = b3 at B3 HFF HX17 HX40 HX21 HX13 HX0
  generalize flB (n : Int) 4 = b4 at B4 Gt Gf
  generalize flB (n : Int) 5 = b5 at B5 HFF
  clear hfr
  go_upto_region 4 with fail
  go_cut [16] (fun s16 wx => s16 = .bool ff ∧ wx = W3)
  case first =>
    go_wp2_with fail
    refine (B5.out W3).mono ?_
    rintro e w5 ⟨rfl, rfl⟩
    cases b5 with
    | true =>
      go_wp2
      go_meet
      exact ⟨by rw [HFF.out]; rfl, rfl⟩
    | false =>
      go_wp2_with fail
      refine (B3.out W3).mono ?_
      rintro e w6 ⟨rfl, rfl⟩
      cases b3 with
      | true =>
        go_wp2
        go_meet
        exact ⟨by rw [HFF.out]; rfl, rfl⟩
      | false =>
        go_wp2
        go_meet
        exact ⟨by rw [HFF.out]; rfl, rfl⟩
  case rest =>
  obtain ⟨rfl, hwc⟩ := hcut
  rw [hwc]
  clear hwc
  go_wp2_with fail
  refine HRS.out.mono ?_
  rintro e w5 ⟨rfl, hb5⟩
  have hbx := al hb5 (.cells #[.int .i64 F.dir, .string (bA F.name), .int .i64 F.node] 76)
  have hf := Blk.new w5 76 #[.int .i64 F.dir, .string (bA F.name), .int .i64 F.node]
  have hny : R ≠ w5.heap.size := Nat.ne_of_lt (H3.out.below hb5).lt
  obtain ⟨W5, hW5⟩ : ∃ W, w5.alloc (.cells #[.int .i64 F.dir, .string (bA F.name), .int .i64 F.node] 76) = W := ⟨_, rfl⟩
  obtain ⟨y, hy⟩ : ∃ z, w5.heap.size = z := ⟨_, rfl⟩
  rw [hW5] at hbx hf
  rw [hy] at hf hny
  have J5 := Lib.hid hbx
  have HF := Lib.hid hf
  have HNY := Lib.hid hny
  clear hb5 hbx hf hny t0 c0 c1 c2 HRS
  obtain ⟨f0, f1, f2⟩ := HF.out.c3
  obtain ⟨c0, c1, c2⟩ := (H2.out.below J5.out).c3
  by_cases qE : E = 0
  case neg =>
    have yE : (E != 0) = true := by simpa using qE
    have HA := Lib.hid (Ge.out qE)
    clear qE
    have hr := H3.out.below J5.out
    have hq := H1.out.below J5.out
    have r0 := hr.cell 0
    have r1 := hr.frozen 0
    have t0 := hq.cell 0
    simp at r0 t0
    have s0 : ∀ u, (W5.setCell ⟨R, 0, none⟩ u).cell? ⟨R, 0, none⟩ = some u := fun u => (hr.set_ 0 u).cell 0
    have HE := Lib.hid (pla_back (P := P) (w := w) (R := R) (i := 0) (x := E) (HN.out.below J5.out) (fun b hb => hb) (bt J5.out HB3.out) HL3.out (HA.out).1 (HA.out).2.1 (HA.out).2.2)
    clear hr hq
    go_wp2
    exact bodyPost_ret (v := .tuple #[.agg #[.slice (some ⟨g, 0, none⟩) t.length cc], .int .i64 0, .int .i64 E]) (by simp [results, Tryz.results10, go_sem, s0]) rfl HE.out
  have yE : (E != 0) = false := by simpa using qE
  have Gn := Lib.hid (Gn.out qE)
  have Gc := Lib.hid (Gc.out qE)
  have Gx := Lib.hid (Gx.out qE)
  have Gt := Lib.hid (Gt.out qE)
  have Gf := Lib.hid (Gf.out qE)
  clear qE Ge
  by_cases qN : F.node = 0
  · have yN : (F.node == 0) = true := by simpa using qN
    have Gn := Lib.hid (Gn.out qN)
    have Gc := Lib.hid (Gc.out qN)
    clear qN Gx Gt Gf
    go_wp2_with fail
    clear hW5 hy
    refine (B2.out _).mono ?_
    rintro e w6 ⟨rfl, rfl⟩
    cases b2 with
    | false =>
      have HA := Lib.hid (Gn.out rfl)
      have hr := H3.out.below J5.out
      have hq := H1.out.below J5.out
      have r0 := hr.cell 0
      have r1 := hr.frozen 0
      have t0 := hq.cell 0
      simp at r0 t0
      have s0 : ∀ u, (W5.setCell ⟨R, 0, none⟩ u).cell? ⟨R, 0, none⟩ = some u := fun u => (hr.set_ 0 u).cell 0
      have HE := Lib.hid (pla_back (P := P) (w := w) (R := R) (i := 0) (x := 2) (HN.out.below J5.out) (fun b hb => hb) (bt J5.out HB3.out) HL3.out (HA.out).1 (HA.out).2.1 (HA.out).2.2)
      clear hr hq
      go_wp2
      exact bodyPost_ret (v := .tuple #[.agg #[.slice (some ⟨g, 0, none⟩) t.length cc], .int .i64 0, .int .i64 2]) (by simp [results, Tryz.results10, go_sem, s0]) rfl HE.out
    | true =>
      have HA := Lib.hid (Gc.out rfl)
      have t0 := (H1.out.below J5.out).cell 0
      simp at t0
      go_wp2_with fail
      refine (HCR.out W5 J5.out).mono ?_
      rintro e w7 ⟨v', rfl, hn7, hb7⟩
      obtain ⟨g', c', rfl⟩ := ns_form hn7
      have J7 := Lib.hid (bt hb7 J5.out)
      have HN7 := Lib.hid hn7
      have hr := H3.out.below J7.out
      have r0 := hr.cell 0
      have r1 := hr.frozen 0
      simp at r0
      have s0 : ∀ u, (w7.setCell ⟨R, 0, none⟩ u).cell? ⟨R, 0, none⟩ = some u := fun u => (hr.set_ 0 u).cell 0
      obtain ⟨e1, e2, e3⟩ := HA.out
      generalize crE t c um p md ff = CE at e1 ⊢
      generalize crI t c um p md ff = CI at e3 ⊢
      generalize crT t c um p md ff = CT at e2 HN7 ⊢
      have HE := Lib.hid (pla_back (P := P) (w := w) (R := R) (i := CI) (x := CE) HN7.out (fun b hb => hb) (bt J7.out HB3.out) HL3.out e1 e2 e3)
      generalize CT.length = N7 at HE ⊢
      clear hn7 hb7 hr e1 e2 e3 c0 c1 c2 f0 f1 f2 t0
      go_wp2
      exact bodyPost_ret (v := .tuple #[.agg #[.slice (some ⟨g', 0, none⟩) N7 c'], .int .i64 CI, .int .i64 CE]) (by simp [results, Tryz.results10, go_sem, s0]) rfl HE.out
  have yN : (F.node == 0) = false := by simpa using qN
  have Gx := Lib.hid (Gx.out qN)
  have Gt := Lib.hid (Gt.out qN)
  have Gf := Lib.hid (Gf.out qN)
  clear qN Gn Gc HCR B2
  have t0 := (H1.out.below J5.out).cell 0
  simp at t0
  go_wp2_with fail
  clear hW5 hy
  refine (HGT.out W5 J5.out).mono ?_
  rintro e w6 ⟨vn, vk, rfl, hn, hk, hlp, hb6⟩
  obtain ⟨A1, k1, rfl⟩ := strs_form hn (nm_len _)
  obtain ⟨A2, k2, rfl⟩ := ints_form hk (idE_len _)
  generalize tget t F.node = d at hn hk hlp HX40 HX21 HX13 HX0 Gt
  have hbx := al hb6 (.cells #[.int .i64 d.kind, .int .i64 d.mode, .int .i64 d.uid, .int .i64 d.gid, .string (bA d.data), .slice A1 d.ents.length k1, .slice A2 d.ents.length k2, .string (bA d.target)] 82)
  have hf := Blk.new w6 82 #[.int .i64 d.kind, .int .i64 d.mode, .int .i64 d.uid, .int .i64 d.gid, .string (bA d.data), .slice A1 d.ents.length k1, .slice A2 d.ents.length k2, .string (bA d.target)]
  have hn4 := hn.below (ba w6 (.cells #[.int .i64 d.kind, .int .i64 d.mode, .int .i64 d.uid, .int .i64 d.gid, .string (bA d.data), .slice A1 d.ents.length k1, .slice A2 d.ents.length k2, .string (bA d.target)] 82))
  have hk4 := hk.below (ba w6 (.cells #[.int .i64 d.kind, .int .i64 d.mode, .int .i64 d.uid, .int .i64 d.gid, .string (bA d.data), .slice A1 d.ents.length k1, .slice A2 d.ents.length k2, .string (bA d.target)] 82))
  obtain ⟨W6, hW6⟩ : ∃ W, w6.alloc (.cells #[.int .i64 d.kind, .int .i64 d.mode, .int .i64 d.uid, .int .i64 d.gid, .string (bA d.data), .slice A1 d.ents.length k1, .slice A2 d.ents.length k2, .string (bA d.target)] 82) = W := ⟨_, rfl⟩
  have hnn : R ≠ w6.heap.size := Nat.ne_of_lt ((H3.out.below J5.out).below hb6).lt
  obtain ⟨zn, hzn⟩ : ∃ z, w6.heap.size = z := ⟨_, rfl⟩
  rw [hW6] at hbx hf hn4 hk4
  rw [hzn] at hf hnn
  have J6 := Lib.hid (bt hbx J5.out)
  have K6 := Lib.hid hbx
  have HD := Lib.hid hf
  have HNN := Lib.hid hnn
  have HLN := Lib.hid (And.intro hn4 hk4)
  have HLP := Lib.hid (show 1 ≤ F.node ∧ F.node ≤ t.length → LP (fun b => (P b ∧ b ≠ R) ∧ b < W6.heap.size) (.slice A1 d.ents.length k1) ∧ LP (fun b => (P b ∧ b ≠ R) ∧ b < W6.heap.size) (.slice A2 d.ents.length k2) from fun q => ⟨(hlp q).1.mono (fun b z => ⟨z.1, Nat.lt_of_lt_of_le z.2 hbx.size⟩), (hlp q).2.mono (fun b z => ⟨z.1, Nat.lt_of_lt_of_le z.2 hbx.size⟩)⟩)
  clear hn hk hlp hb6 hbx hf hn4 hk4 hnn f0 f1 f2 c0 c1 c2 t0 HGT
  obtain ⟨f0, f1, f2⟩ := (HF.out.below K6.out).c3
  obtain ⟨c0, c1, c2⟩ := (H2.out.below J6.out).c3
  obtain ⟨p0, p1, p2, p3, p4, p5, p6, p7⟩ := HD.out.c8
  go_wp2_with fail
  clear hW6 hzn
  refine (B3.out _).mono ?_
  rintro e w7 ⟨rfl, rfl⟩
  cases b3 with
  | true =>
    have HA := Lib.hid (Gx.out 17 (by decide) (HX17.out rfl))
    have hr := H3.out.below J6.out
    have hq := H1.out.below J6.out
    have r0 := hr.cell 0
    have r1 := hr.frozen 0
    have t0 := hq.cell 0
    simp at r0 t0
    have s0 : ∀ u, (W6.setCell ⟨R, 0, none⟩ u).cell? ⟨R, 0, none⟩ = some u := fun u => (hr.set_ 0 u).cell 0
    have HE := Lib.hid (pla_back (P := P) (w := w) (R := R) (i := 0) (x := 17) (HN.out.below J6.out) (fun b hb => hb) (bt J6.out HB3.out) HL3.out (HA.out).1 (HA.out).2.1 (HA.out).2.2)
    clear hr hq
    go_wp2
    exact bodyPost_ret (v := .tuple #[.agg #[.slice (some ⟨g, 0, none⟩) t.length cc], .int .i64 0, .int .i64 17]) (by simp [results, Tryz.results10, go_sem, s0]) rfl HE.out
  | false =>
  by_cases k3 : d.kind = 3
  · have y3 : (d.kind == 3) = true := by simpa using k3
    have HA := Lib.hid (Gx.out 40 (by decide) (HX40.out rfl k3))
    clear k3
    have hr := H3.out.below J6.out
    have hq := H1.out.below J6.out
    have r0 := hr.cell 0
    have r1 := hr.frozen 0
    have t0 := hq.cell 0
    simp at r0 t0
    have s0 : ∀ u, (W6.setCell ⟨R, 0, none⟩ u).cell? ⟨R, 0, none⟩ = some u := fun u => (hr.set_ 0 u).cell 0
    have HE := Lib.hid (pla_back (P := P) (w := w) (R := R) (i := 0) (x := 40) (HN.out.below J6.out) (fun b hb => hb) (bt J6.out HB3.out) HL3.out (HA.out).1 (HA.out).2.1 (HA.out).2.2)
    clear hr hq
    go_wp2
    exact bodyPost_ret (v := .tuple #[.agg #[.slice (some ⟨g, 0, none⟩) t.length cc], .int .i64 0, .int .i64 40]) (by simp [results, Tryz.results10, go_sem, s0]) rfl HE.out
  have y3 : (d.kind == 3) = false := by simpa using k3
  by_cases k2' : d.kind = 2
  · have y2 : (d.kind == 2) = true := by simpa using k2'
    have HA := Lib.hid (Gx.out 21 (by decide) (HX21.out rfl k3 k2'))
    clear k3 k2'
    have hr := H3.out.below J6.out
    have hq := H1.out.below J6.out
    have r0 := hr.cell 0
    have r1 := hr.frozen 0
    have t0 := hq.cell 0
    simp at r0 t0
    have s0 : ∀ u, (W6.setCell ⟨R, 0, none⟩ u).cell? ⟨R, 0, none⟩ = some u := fun u => (hr.set_ 0 u).cell 0
    have HE := Lib.hid (pla_back (P := P) (w := w) (R := R) (i := 0) (x := 21) (HN.out.below J6.out) (fun b hb => hb) (bt J6.out HB3.out) HL3.out (HA.out).1 (HA.out).2.1 (HA.out).2.2)
    clear hr hq
    go_wp2
    exact bodyPost_ret (v := .tuple #[.agg #[.slice (some ⟨g, 0, none⟩) t.length cc], .int .i64 0, .int .i64 21]) (by simp [results, Tryz.results10, go_sem, s0]) rfl HE.out
  have y2 : (d.kind == 2) = false := by simpa using k2'
  have HY13 := Lib.hid (HX13.out rfl k3 k2')
  have HY0 := Lib.hid (HX0.out rfl k3 k2')
  clear HX13 HX0
  have t0 := (H1.out.below J6.out).cell 0
  simp at t0
  have HC4 := Lib.hid (fun (W : World) (hb : Below W3.heap.size W3 W) => HCN.out 4 W hb)
  have HC2 := Lib.hid (fun (W : World) (hb : Below W3.heap.size W3 W) => HCN.out 2 W hb)
  generalize canT t c F.node 4 = q4 at HC4 HFC
  generalize canT t c F.node 2 = q2 at HC2 HFC
  clear k3 k2' HCN
  go_upto_region 19 with fail
  go_cut [98] (fun s98 wx => s98 = .bool fc ∧ Below W6.heap.size W6 wx)
  case first =>
    go_wp2_with fail
    refine (B0.out _).mono ?_
    rintro e w8 ⟨rfl, rfl⟩
    cases b0 with
    | true =>
      go_wp2_with fail
      refine (HC4.out _ J6.out).mono ?_
      rintro e w9 ⟨rfl, hb9⟩
      have K9 := Lib.hid (bt hb9 (Below.refl _ _))
      clear hb9
      cases q4 with
      | false =>
        go_wp2
        go_meet
        exact ⟨by rw [HFC.out]; rfl, K9.out⟩
      | true =>
        have t0 := (H1.out.below (bt K9.out J6.out)).cell 0
        simp at t0
        obtain ⟨f0, f1, f2⟩ := ((HF.out.below K6.out).below K9.out).c3
        obtain ⟨c0, c1, c2⟩ := ((H2.out.below J6.out).below K9.out).c3
        go_wp2_with fail
        refine (B1.out _).mono ?_
        rintro e w10 ⟨rfl, rfl⟩
        cases b1 with
        | false =>
          go_wp2
          go_meet
          exact ⟨by rw [HFC.out]; rfl, K9.out⟩
        | true =>
          go_wp2_with fail
          refine (HC2.out _ (bt K9.out J6.out)).mono ?_
          rintro e w11 ⟨rfl, hb11⟩
          have K11 := Lib.hid (bt hb11 K9.out)
          clear hb11
          go_wp2
          go_meet
          exact ⟨by rw [HFC.out]; cases q2 <;> rfl, K11.out⟩
    | false =>
      go_wp2_with fail
      refine (B1.out _).mono ?_
      rintro e w10 ⟨rfl, rfl⟩
      cases b1 with
      | false =>
        go_wp2
        go_meet
        exact ⟨by rw [HFC.out]; rfl, Below.refl _ _⟩
      | true =>
        go_wp2_with fail
        refine (HC2.out _ J6.out).mono ?_
        rintro e w11 ⟨rfl, hb11⟩
        have K11 := Lib.hid hb11
        clear hb11
        go_wp2
        go_meet
        exact ⟨by rw [HFC.out]; cases q2 <;> rfl, K11.out⟩
  case rest =>
  obtain ⟨rfl, hb7⟩ := hcut
  obtain ⟨W7, hw7⟩ : ∃ W, wc = W := ⟨_, rfl⟩
  rw [hw7] at hb7 ⊢
  have J7 := Lib.hid (bt hb7 J6.out)
  have HD7 := Lib.hid (HD.out.below hb7)
  have HF7 := Lib.hid ((HF.out.below K6.out).below hb7)
  have HLN7 := Lib.hid (And.intro (HLN.out.1.below hb7) (HLN.out.2.below hb7))
  have HZ7 := Lib.hid hb7.size
  clear hb7 hw7 t0 f0 f1 f2 c0 c1 c2 p0 p1 p2 p3 p4 p5 p6 p7 HC4 HC2 HFC B0 B1
  cases fc with
  | true =>
    have HA := Lib.hid (Gx.out 13 (by decide) (HY13.out (by first | rfl | trivial)))
    have hr := H3.out.below J7.out
    have hq := H1.out.below J7.out
    have r0 := hr.cell 0
    have r1 := hr.frozen 0
    have t0 := hq.cell 0
    simp at r0 t0
    have s0 : ∀ u, (W7.setCell ⟨R, 0, none⟩ u).cell? ⟨R, 0, none⟩ = some u := fun u => (hr.set_ 0 u).cell 0
    have HE := Lib.hid (pla_back (P := P) (w := w) (R := R) (i := 0) (x := 13) (HN.out.below J7.out) (fun b hb => hb) (bt J7.out HB3.out) HL3.out (HA.out).1 (HA.out).2.1 (HA.out).2.2)
    clear hr hq
    go_wp2
    exact bodyPost_ret (v := .tuple #[.agg #[.slice (some ⟨g, 0, none⟩) t.length cc], .int .i64 0, .int .i64 13]) (by simp [results, Tryz.results10, go_sem, s0]) rfl HE.out
  | false =>
  have hx0 := HY0.out (by first | rfl | trivial)
  have Gt := Lib.hid (Gt.out hx0)
  have Gf := Lib.hid (Gf.out hx0)
  have HIN := Lib.hid (HTI.out rfl)
  clear hx0 Gx HY0 HY13
  obtain ⟨f0, f1, f2⟩ := HF7.out.c3
  obtain ⟨c0, c1, c2⟩ := (H2.out.below J7.out).c3
  obtain ⟨p0, p1, p2, p3, p4, p5, p6, p7⟩ := HD7.out.c8
  have t0 := (H1.out.below J7.out).cell 0
  simp at t0
  go_wp2_with fail
  refine (B4.out _).mono ?_
  rintro e w8 ⟨rfl, rfl⟩
  cases b4 with
  | true =>
    have HA := Lib.hid (Gt.out rfl)
    have HWR := Lib.hid (fun (W : World) => show Calls Tryz.prog 33 #[.agg #[.int .i64 c.u, .int .i64 c.g, .slice A0 m0 k0], .agg #[.int .i64 d.kind, .int .i64 d.mode, .int .i64 d.uid, .int .i64 d.gid, .string (bA d.data), .slice A1 d.ents.length k1, .slice A2 d.ents.length k2, .string (bA d.target)], .string ⟨#[]⟩] W fun e w' => e = .returned (.agg (rfC (wrN c d []) (.slice A1 d.ents.length k1) (.slice A2 d.ents.length k2))) ∧ Below W.heap.size W w' from rfwrt_any c A0 m0 k0 d A1 A2 d.ents.length k1 d.ents.length k2 [] W)
    have HWT := Lib.hid (fun (W : World) (hb : Below W7.heap.size W7 W) => rwith_ns (n := wrN c d []) (HN.out.below (bt hb J7.out)) HTL.out HIN.out (HLN7.out.1.below hb) (HLN7.out.2.below hb) ((HLP.out HIN.out).1.mono (fun b q => ⟨q.1, Nat.lt_of_lt_of_le (Nat.lt_of_lt_of_le q.2 HZ7.out) hb.size⟩)) ((HLP.out HIN.out).2.mono (fun b q => ⟨q.1, Nat.lt_of_lt_of_le (Nat.lt_of_lt_of_le q.2 HZ7.out) hb.size⟩)) (fun b q => ⟨HP.out b (by have h1 := (bt (bt hb J7.out) HB3.out).size; omega), by have h1 := (H3.out.below (bt hb J7.out)).lt; omega⟩))
    generalize wrN c d [] = M at HWR HWT HA
    have HPQ := Lib.hid (fun (W : World) (hb : Below W7.heap.size W7 W) => show W.cell? ⟨w.heap.size, 0, none⟩ = some (.slice (some ⟨g, 0, none⟩) t.length cc) ∧ W.cell? ⟨z2, 0, none⟩ = some (.int .i64 c.u) ∧ W.cell? ⟨z2, 1, none⟩ = some (.int .i64 c.g) ∧ W.cell? ⟨z2, 2, none⟩ = some (.slice A0 m0 k0) ∧ W.cell? ⟨y, 2, none⟩ = some (.int .i64 F.node) ∧ W.cell? ⟨zn, 0, none⟩ = some (.int .i64 d.kind) ∧ W.cell? ⟨zn, 1, none⟩ = some (.int .i64 d.mode) ∧ W.cell? ⟨zn, 2, none⟩ = some (.int .i64 d.uid) ∧ W.cell? ⟨zn, 3, none⟩ = some (.int .i64 d.gid) ∧ W.cell? ⟨zn, 4, none⟩ = some (.string (bA d.data)) ∧ W.cell? ⟨zn, 5, none⟩ = some (.slice A1 d.ents.length k1) ∧ W.cell? ⟨zn, 6, none⟩ = some (.slice A2 d.ents.length k2) ∧ W.cell? ⟨zn, 7, none⟩ = some (.string (bA d.target)) from ⟨(H1.out.below (bt hb J7.out)).cell 0, (H2.out.below (bt hb J7.out)).c3.1, (H2.out.below (bt hb J7.out)).c3.2.1, (H2.out.below (bt hb J7.out)).c3.2.2, (HF7.out.below hb).c3.2.2, (HD7.out.below hb).c8⟩)
    have HPS := Lib.hid (fun (W0 : World) (hb : Below W7.heap.size W7 W0) (u : Value) => show (W0.setCell ⟨R, 0, none⟩ u).cell? ⟨w.heap.size, 0, none⟩ = some (.slice (some ⟨g, 0, none⟩) t.length cc) ∧ (W0.setCell ⟨R, 0, none⟩ u).cell? ⟨z2, 0, none⟩ = some (.int .i64 c.u) ∧ (W0.setCell ⟨R, 0, none⟩ u).cell? ⟨z2, 1, none⟩ = some (.int .i64 c.g) ∧ (W0.setCell ⟨R, 0, none⟩ u).cell? ⟨z2, 2, none⟩ = some (.slice A0 m0 k0) ∧ (W0.setCell ⟨R, 0, none⟩ u).cell? ⟨y, 2, none⟩ = some (.int .i64 F.node) ∧ (W0.setCell ⟨R, 0, none⟩ u).cell? ⟨zn, 0, none⟩ = some (.int .i64 d.kind) ∧ (W0.setCell ⟨R, 0, none⟩ u).cell? ⟨zn, 1, none⟩ = some (.int .i64 d.mode) ∧ (W0.setCell ⟨R, 0, none⟩ u).cell? ⟨zn, 2, none⟩ = some (.int .i64 d.uid) ∧ (W0.setCell ⟨R, 0, none⟩ u).cell? ⟨zn, 3, none⟩ = some (.int .i64 d.gid) ∧ (W0.setCell ⟨R, 0, none⟩ u).cell? ⟨zn, 4, none⟩ = some (.string (bA d.data)) ∧ (W0.setCell ⟨R, 0, none⟩ u).cell? ⟨zn, 5, none⟩ = some (.slice A1 d.ents.length k1) ∧ (W0.setCell ⟨R, 0, none⟩ u).cell? ⟨zn, 6, none⟩ = some (.slice A2 d.ents.length k2) ∧ (W0.setCell ⟨R, 0, none⟩ u).cell? ⟨zn, 7, none⟩ = some (.string (bA d.target)) from by
      have hg := grown_setCell W0 ⟨R, 0, none⟩ u
      have a := (H1.out.below (bt hb J7.out)).kept hg (some_ne HNE1.out)
      have b := (H2.out.below (bt hb J7.out)).kept hg (some_ne HNE2.out)
      have f := (HF7.out.below hb).kept hg (some_ne (fun q => HNY.out q.symm))
      have d' := (HD7.out.below hb).kept hg (some_ne (fun q => HNN.out q.symm))
      exact ⟨a.cell 0, b.c3.1, b.c3.2.1, b.c3.2.2, f.c3.2.2, d'.c8⟩)
    have HDR := Lib.hid (show Below W7.heap.size W7 W7.drew from (Below.refl _ _).drew)
    go_upto_region 22 with fail
    clear t0 f0 f1 f2 c0 c1 c2 p0 p1 p2 p3 p4 p5 p6 p7
    go_region_held3 (fun W => W.cell? ⟨w.heap.size, 0, none⟩ = some (.slice (some ⟨g, 0, none⟩) t.length cc) ∧ W.cell? ⟨z2, 0, none⟩ = some (.int .i64 c.u) ∧ W.cell? ⟨z2, 1, none⟩ = some (.int .i64 c.g) ∧ W.cell? ⟨z2, 2, none⟩ = some (.slice A0 m0 k0) ∧ W.cell? ⟨y, 2, none⟩ = some (.int .i64 F.node) ∧ W.cell? ⟨zn, 0, none⟩ = some (.int .i64 d.kind) ∧ W.cell? ⟨zn, 1, none⟩ = some (.int .i64 d.mode) ∧ W.cell? ⟨zn, 2, none⟩ = some (.int .i64 d.uid) ∧ W.cell? ⟨zn, 3, none⟩ = some (.int .i64 d.gid) ∧ W.cell? ⟨zn, 4, none⟩ = some (.string (bA d.data)) ∧ W.cell? ⟨zn, 5, none⟩ = some (.slice A1 d.ents.length k1) ∧ W.cell? ⟨zn, 6, none⟩ = some (.slice A2 d.ents.length k2) ∧ W.cell? ⟨zn, 7, none⟩ = some (.string (bA d.target)))
      (first | (with_reducible exact HPQ.out _ HDR.out) | (with_reducible exact HPQ.out _ K5.out) | (with_reducible exact HPQ.out _ K8.out) | (with_reducible exact ⟨t0, t1, t2, t3, t4, t5, t6, t7, t8, t9, t10, t11, t12⟩))
      (first
      | (go_at_call 33; (with_reducible refine (HWR.out W7.drew).mono ?_); rintro e w5 ⟨rfl, hb5⟩; have K5 := Lib.hid (bt hb5 HDR.out); clear hb5)
      | (go_at_call 32; (with_reducible refine (HWT.out w5 K5.out).mono ?_); rintro e w6 ⟨g', n', c', rfl, h2, hb6⟩; have K8 := Lib.hid (bt hb6 K5.out); have HN6 := Lib.hid h2; have hr := H3.out.below (bt K8.out J7.out); have r0 := hr.cell 0; have r1 := hr.frozen 0; simp at r0; have s0 : ∀ u, (w6.setCell ⟨R, 0, none⟩ u).cell? ⟨R, 0, none⟩ = some u := (fun u => (hr.set_ 0 u).cell 0); obtain ⟨t0, t1, t2, t3, t4, t5, t6, t7, t8, t9, t10, t11, t12⟩ := HPS.out w6 K8.out (.slice (some ⟨g', 0, none⟩) n' c'); clear h2 hb6 hr))
    all_goals (
      go_wp2
      exact bodyPost_ret (v := .tuple #[.agg #[.slice (some ⟨g', 0, none⟩) n' c'], .int .i64 F.node, .int .i64 0]) (by simp [results, Tryz.results10, go_sem, s0]) rfl (pla_back (P := P) HN6.out (fun b hb => hb) (bt (bt K8.out J7.out) HB3.out) HL3.out HA.out.1 HA.out.2.1 HA.out.2.2))
  | false =>
    have HA := Lib.hid (Gf.out rfl)
    have HPQ := Lib.hid (fun (W : World) (hb : Below W7.heap.size W7 W) => show W.cell? ⟨w.heap.size, 0, none⟩ = some (.slice (some ⟨g, 0, none⟩) t.length cc) ∧ W.cell? ⟨y, 2, none⟩ = some (.int .i64 F.node) from ⟨(H1.out.below (bt hb J7.out)).cell 0, (HF7.out.below hb).c3.2.2⟩)
    have HDR := Lib.hid (show Below W7.heap.size W7 W7.drew from (Below.refl _ _).drew)
    have hr := H3.out.below J7.out
    have r0 := hr.cell 0
    have r1 := hr.frozen 0
    simp at r0
    have s0 : ∀ u, (W7.setCell ⟨R, 0, none⟩ u).cell? ⟨R, 0, none⟩ = some u := (fun u => (hr.set_ 0 u).cell 0)
    have hs : ∀ u, (W7.drew.setCell ⟨R, 0, none⟩ u).cell? ⟨w.heap.size, 0, none⟩ = some (.slice (some ⟨g, 0, none⟩) t.length cc) ∧ (W7.drew.setCell ⟨R, 0, none⟩ u).cell? ⟨y, 2, none⟩ = some (.int .i64 F.node) := fun u =>
      have hg := grown_setCell W7.drew ⟨R, 0, none⟩ u
      ⟨((H1.out.below (bt HDR.out J7.out)).kept hg (some_ne HNE1.out)).cell 0, ((HF7.out.below HDR.out).kept hg (some_ne (fun q => HNY.out q.symm))).c3.2.2⟩
    have HS := Lib.hid hs
    clear hr hs
    go_upto_region 23 with fail
    clear t0 f0 f1 f2 c0 c1 c2 p0 p1 p2 p3 p4 p5 p6 p7
    go_region_held3 (fun W => W.cell? ⟨w.heap.size, 0, none⟩ = some (.slice (some ⟨g, 0, none⟩) t.length cc) ∧ W.cell? ⟨y, 2, none⟩ = some (.int .i64 F.node))
      (first | (with_reducible exact HPQ.out _ HDR.out) | exact HS.out _)
      (fail)
    all_goals (
      go_wp2
      exact bodyPost_ret (v := .tuple #[.agg #[.slice (some ⟨g, 0, none⟩) t.length cc], .int .i64 F.node, .int .i64 0]) (by simp [results, Tryz.results10, go_sem, s0]) rfl (pla_drew (pla_back (P := P) (HN.out.below J7.out) (fun b hb => hb) (bt J7.out HB3.out) HL3.out HA.out.1 HA.out.2.1 HA.out.2.2)))
end Go.Proofs.YtfopnfgfoicidaaGreat
