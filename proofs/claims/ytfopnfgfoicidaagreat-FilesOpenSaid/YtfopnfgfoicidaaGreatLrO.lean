/-
  The walk of FilesOpen: it answers true of whatever is told, of any who ask, of any umask, path, flags and mode. The conditions: what is told is no longer than a machine can hold; what is said of package files.
-/
import Derived.Test.YtfopnfgfoicidaaGreatAwF
import Derived.Test.YtfopnfgfoicidaaGreatFRd
import Derived.Test.YtfopnfgfoicidaaGreatTR
import Derived.Deep.RegionWith
import Derived.Deep.DeepCutAuto
import Derived.Deep.RegionHeld3
namespace Go.Proofs.YtfopnfgfoicidaaGreat
open Go Go.RowKit
set_option maxRecDepth 100000

attribute [local go_sem] cell_off4 cell_blk4
/-- A box of a model's table, behind some steps. -/
structure Bt (w wx : World) (d g c : Nat) (T : List Nd) : Prop where
  blk : Blk wx d 32 #[.slice (some ⟨g, 0, none⟩) T.length c]
  ns : NsR (fun b => w.heap.size ≤ b ∧ b ≠ d) wx (.slice (some ⟨g, 0, none⟩) T.length c) T
  below : Below w.heap.size w wx
  lo : w.heap.size ≤ d
theorem Bt.put {w w9 : World} {d g c : Nat} {z : Value} {T : List Nd} (hk : Blk w9 d 32 #[z]) (hn : NsR (fun b => w.heap.size ≤ b ∧ b ≠ d) w9 (.slice (some ⟨g, 0, none⟩) T.length c) T) (hb : Below w.heap.size w w9) (hd : w.heap.size ≤ d) : Bt w (w9.setCell ⟨d, 0, none⟩ (.slice (some ⟨g, 0, none⟩) T.length c)) d g c T :=
  ⟨hk.set_ 0 _, hn.other (grown_setCell w9 ⟨d, 0, none⟩ _) (fun _ h => h.2), below_grown hb (grown_setCell _ _ _) hd, hd⟩
theorem Bt.fresh {w w9 : World} {g c : Nat} {T : List Nd} (hn : NsR (fun b => w.heap.size ≤ b) w9 (.slice (some ⟨g, 0, none⟩) T.length c) T) (hb : Below w.heap.size w w9) : Bt w (w9.alloc (.cells #[.slice (some ⟨g, 0, none⟩) T.length c] 32)) w9.heap.size g c T :=
  ⟨Blk.new w9 _ _, (hn.mono (fun _ h1 h2 => ⟨h1, Nat.ne_of_lt h2⟩)).below (ba w9 _), al hb _, hb.size⟩
/-- The reference's table, ahead of its box and behind it. -/
theorem ns_free {w W : World} {v : Value} {t : List Nd} {lo d : Nat} (h : NsR (fun b => lo < b) W v t) (h1 : w.heap.size ≤ lo) (hd : W.heap.size ≤ d) : NsR (fun b => w.heap.size ≤ b ∧ b ≠ d) W v t :=
  h.mono (fun b h2 h3 => ⟨by omega, by omega⟩)
theorem ns_over {w W : World} {v : Value} {t : List Nd} {lo d : Nat} (h : NsR (fun b => lo < b) W v t) (h1 : w.heap.size ≤ lo) (hd : d ≤ lo) : NsR (fun b => w.heap.size ≤ b ∧ b ≠ d) W v t :=
  h.mono (fun b h2 h3 => ⟨by omega, by omega⟩)
theorem sam_refl (t : List Nd) : toB (sam24 t t) = true := toB_true (fun _ _ => rfl)
set_option maxHeartbeats 8000000 in
theorem lopen_any (x0 : Int) (v1 : Value) (l : List Rw) (c : Wh) (A0 : Option Addr) (n0 k0 : Nat) (HPC : FilesC) (um : Int) (s : ByteArray) (fl md : Int) (w : World) (h1 : RawsR w v1 l) (hl1 : l.length ≤ maxLen) (h2 : IntsR w (.slice A0 n0 k0) c.gs) :
    Calls Tryz.prog 3 #[.int .i64 x0, v1, .agg #[.int .i64 c.u, .int .i64 c.g, .slice A0 n0 k0], .int .i64 um, .string s, .int .i64 fl, .int .i64 md] w fun e w' => e = .returned (.bool true) ∧ Below w.heap.size w w' := by
  have hb0 := ba w (.cells #[.int .i64 c.u, .int .i64 c.g, .slice A0 n0 k0] 25)
  have hk0 := Blk.new w 25 #[.int .i64 c.u, .int .i64 c.g, .slice A0 n0 k0]
  obtain ⟨W1, hW1⟩ : ∃ W1, w.alloc (.cells #[.int .i64 c.u, .int .i64 c.g, .slice A0 n0 k0] 25) = W1 := ⟨_, rfl⟩
  rw [hW1] at hb0 hk0
  have HA := Lib.hid (awk16_any HPC W1)
  have HR := Lib.hid (h1.below hb0)
  have HI := Lib.hid (h2.below hb0)
  have HL := Lib.hid hl1
  have HC0 := Lib.hid h2
  have HB0 := Lib.hid hb0
  have HK0 := Lib.hid hk0
  clear h1 h2 hl1 hb0 hk0
  go_enter Tryz.func3, Tryz.ntmps3
  go_wp2_with fail
  clear hW1
  refine HA.out.mono ?_
  rintro e w2 ⟨rfl, hb2⟩
  have hk2 := HK0.out.below hb2
  have HB2 := Lib.hid (bt hb2 HB0.out)
  have HK2 := Lib.hid hk2
  have HI2 := Lib.hid (HI.out.below hb2)
  have HBL := Lib.hid (built_any x0 v1 l c A0 n0 k0 w2 (HR.out.below hb2) HL.out HI2.out)
  obtain ⟨k0', k1, k2⟩ := hk2.c3
  clear hb2 HA HK0 HI HR HB0
  go_wp2_with fail
  refine HBL.out.mono ?_
  rintro e w3 ⟨hans, hb3⟩
  have HB3 := Lib.hid (bt hb3 HB2.out)
  have hk3 := HK2.out.below hb3
  have HI3 := Lib.hid (HI2.out.below hb3)
  have hkl := hk2.lt
  clear k0' k1 k2 hb3 HBL hk2
  rcases hans with ⟨rfl, -⟩ | ⟨g, T, rfl, hB, hT, hG⟩
  · clear hk3 hkl
    go_wp2
    go_ret
    exact ⟨rfl, HB3.out⟩
  have HTT := Lib.hid hT
  have HTR := Lib.hid ((tre_all hB.2).1)
  have HCR := Lib.hid (show CrR w c A0 n0 k0 from ⟨HC0.out, by have := hB.1.2; omega⟩)
  have HK3 := Lib.hid hk3
  have HGE := Lib.hid (show w.heap.size ≤ g from Nat.le_trans HB2.out.size hG)
  have HKG := Lib.hid (show w.heap.size ≠ g from Nat.ne_of_lt (Nat.lt_of_lt_of_le hkl hG))
  have HGL := Lib.hid hT.lt
  obtain ⟨k0', k1, k2⟩ := hk3.c3
  clear hT hB hk3 HK2 HI2 HB2 hG hkl HC0 HI3
  by_cases hc : 100 < s.size
  · have yc : (s.size : Int) > 100 := by omega
    clear hc
    go_wp2
    go_ret
    exact ⟨rfl, HB3.out⟩
  have yc : ¬ (s.size : Int) > 100 := by omega
  have hs1000 : (tl s).length ≤ 1000 := by rw [tl_len]; omega
  clear hc
  obtain ⟨T1, hT1⟩ : ∃ T1, foT T c um (tl s) fl md = T1 := ⟨_, rfl⟩
  obtain ⟨E, hE⟩ : ∃ E, foE T c um (tl s) fl md = E := ⟨_, rfl⟩
  obtain ⟨I, hI⟩ : ∃ I, foI T c um (tl s) fl md = I := ⟨_, rfl⟩
  have HTE := Lib.hid (fun (W : World) (hb : Below w3.heap.size w3 W) => tree11_any g T W (HTT.out.below hb))
  have HWH := Lib.hid (fun (W : World) => who_any c A0 n0 k0 W)
  have HRC := Lib.hid (show ∀ (P : Nat → Prop) (v : Value) (W : World), NsR P W v T → Below w3.heap.size w3 W → (∀ b, W.heap.size ≤ b → P b) → Calls Tryz.prog 10 #[.agg #[v], .agg #[.int .i64 c.u, .int .i64 c.g, .slice A0 n0 k0], .int .i64 um, .string s, .int .i64 fl, .int .i64 md] W fun e w' => ∃ g' c', e = .returned (.tuple #[.agg #[.slice (some ⟨g', 0, none⟩) T1.length c'], .int .i64 I, .int .i64 E]) ∧ NsR P w' (.slice (some ⟨g', 0, none⟩) T1.length c') T1 ∧ Below W.heap.size W w' from fun P v W hn hb hP => by
    have h1 := rfopen_any v T c A0 n0 k0 um (tl s) fl md W hn HTR.out (HCR.out.below (bt hb HB3.out)) hs1000 hP
    rw [hT1, hE, hI, bA_tl] at h1
    refine h1.mono ?_
    rintro e w' ⟨v', rfl, h2, h3⟩
    obtain ⟨g', c', rfl⟩ := ns_form h2
    exact ⟨g', c', rfl, h2, h3⟩)
  have HCM := Lib.hid (fun (W : World) (h : TabR W g T (fun _ => True)) (hb : Below w.heap.size w W) => show Calls Tryz.prog 13 #[.pointer (some ⟨g, 0, none⟩), .agg #[.int .i64 c.u, .int .i64 c.g, .slice A0 n0 k0], .int .i64 um, .string s, .int .i64 fl, .int .i64 md] W fun e w' => e = .returned (.tuple #[.int .i64 I, .int .i64 E]) ∧ TabR w' g T1 (fun _ => True) ∧ W.grownBy w' (some g) from by have h1 := HPC.op g T (fun _ => True) c A0 n0 k0 um (tl s) fl md W h HTR.out.ok (HCR.out.below hb) (fun _ _ => trivial); rw [hE, hT1, hI, bA_tl] at h1; exact h1)
  have HNI := Lib.hid (fun (W : World) (hb : Below w.heap.size w W) => show Calls Tryz.prog 13 #[.pointer none, .agg #[.int .i64 c.u, .int .i64 c.g, .slice A0 n0 k0], .int .i64 um, .string s, .int .i64 fl, .int .i64 md] W fun e w' => ∃ i x, e = .returned (.tuple #[.int .i64 i, .int .i64 x]) ∧ x ≠ 0 ∧ Below W.heap.size W w' from by have h1 := HPC.opn c A0 n0 k0 um (tl s) fl md W (HCR.out.below hb); rw [bA_tl] at h1; exact h1)
  have HPQ := Lib.hid (fun (W : World) (hb : Below w3.heap.size w3 W) => show W.cell? ⟨w.heap.size, 0, none⟩ = some (.int .i64 c.u) ∧ W.cell? ⟨w.heap.size, 1, none⟩ = some (.int .i64 c.g) ∧ W.cell? ⟨w.heap.size, 2, none⟩ = some (.slice A0 n0 k0) from (HK3.out.below hb).c3)
  have HDR := Lib.hid (show Below w3.heap.size w3 w3.drew from (Below.refl _ _).drew)
  have HAD := Lib.hid (show Below w3.heap.size w3 (w3.alloc (.cells #[.slice none 0 0] 32)).drew from (ba w3 _).drew)
  clear hT1 hE hI hs1000
  go_upto_region 7 with fail
  clear k0' k1 k2
  go_cut [18, 19, 20] (fun sa sb sc wx => ∃ d g' c' : Nat, sa = .pointer (some ⟨d, 0, none⟩) ∧ sb = .int .i64 I ∧ sc = .int .i64 E ∧ Bt w3 wx d g' c' T1)
  case first =>
    go_region_held3 (fun W => W.cell? ⟨w.heap.size, 0, none⟩ = some (.int .i64 c.u) ∧ W.cell? ⟨w.heap.size, 1, none⟩ = some (.int .i64 c.g) ∧ W.cell? ⟨w.heap.size, 2, none⟩ = some (.slice A0 n0 k0))
      (first | (with_reducible exact HPQ.out _ HDR.out) | (with_reducible exact HPQ.out _ HAD.out) | (with_reducible exact HPQ.out _ HB7.out) | (with_reducible exact HPQ.out _ (al HB7.out _)) | (with_reducible exact HPQ.out _ HB8.out) | (with_reducible exact HPQ.out _ (al HB8.out _)) | (with_reducible exact HPQ.out _ HB9.out) | (with_reducible exact HPQ.out _ (al HB9.out _)) | (with_reducible exact ⟨t0, t1, t2⟩))
      (first
      | (go_at_call 11; (with_reducible refine (HTE.out w3.drew HDR.out).mono ?_); rintro e1 w7 ⟨g7, c7, rfl, hn7, hb7⟩; have HN7 := Lib.hid hn7; have HB7 := Lib.hid (bt hb7 HDR.out); clear hn7 hb7)
      | (go_at_call 11; (with_reducible refine (HTE.out (w3.alloc (.cells #[.slice none 0 0] 32)).drew HAD.out).mono ?_); rintro e1 w7 ⟨g7, c7, rfl, hn7, hb7⟩; have HN7 := Lib.hid hn7; have HB7 := Lib.hid (bt hb7 HAD.out); have HX7 := Lib.hid (show Blk w7 w3.heap.size 32 #[.slice none 0 0] from Blk.below (w := (w3.alloc (.cells #[.slice none 0 0] 32)).drew) (Blk.new w3 32 _) hb7); have HP7 := Lib.hid (show NsR (fun b => w3.heap.size ≤ b ∧ b ≠ w3.heap.size) w7 (.slice (some ⟨g7, 0, none⟩) T.length c7) T from ns_over hn7 (by simp) (by simp)); clear hn7 hb7)
      | (go_at_call 12; (with_reducible refine (HWH.out w7).mono ?_); rintro e2 w8 ⟨rfl, hb8⟩; have HB8 := Lib.hid (bt hb8 HB7.out); have HN8 := Lib.hid (HN7.out.below hb8); first | (have HX8 := Lib.hid (HX7.out.below hb8); have HP8 := Lib.hid (HP7.out.below hb8); clear hb8) | clear hb8)
      | (go_at_call 12; (with_reducible refine (HWH.out (w7.alloc (.cells #[.slice none 0 0] 32))).mono ?_); rintro e2 w8 ⟨rfl, hb8⟩; have HB8 := Lib.hid (bt hb8 (al HB7.out _)); have HY8 := Lib.hid (show Blk w8 w7.heap.size 32 #[.slice none 0 0] from Blk.below (Blk.new w7 32 _) hb8); have HP8 := Lib.hid (show NsR (fun b => w3.heap.size ≤ b ∧ b ≠ w7.heap.size) w8 (.slice (some ⟨g7, 0, none⟩) T.length c7) T from ((ns_free HN7.out (by simp) (Nat.le_refl _)).below (ba w7 _)).below hb8); clear hb8)
      | (go_at_call 10; (with_reducible refine (HRC.out _ _ w8 HP8.out HB8.out (fun b hb => ⟨Nat.le_trans HB8.out.size hb, Nat.ne_of_gt (Nat.lt_of_lt_of_le HX8.out.lt hb)⟩)).mono ?_); rintro e3 w9 ⟨g9, c9, rfl, hn9, hb9⟩; have HB9 := Lib.hid (bt hb9 HB8.out); have HN9 := Lib.hid hn9; have hx9 := HX8.out.below hb9; have HX9 := Lib.hid hx9; have x0 := hx9.cell 0; have f0 := hx9.frozen 0; simp at x0; obtain ⟨t0, t1, t2⟩ := HPQ.out (w9.setCell ⟨w3.heap.size, 0, none⟩ (.slice (some ⟨g9, 0, none⟩) T1.length c9)) (below_grown HB9.out (grown_setCell _ _ _) (Nat.le_refl _)); clear hn9 hb9 hx9)
      | (go_at_call 10; (with_reducible refine (HRC.out _ _ w8 HP8.out HB8.out (fun b hb => ⟨Nat.le_trans HB8.out.size hb, Nat.ne_of_gt (Nat.lt_of_lt_of_le HY8.out.lt hb)⟩)).mono ?_); rintro e3 w9 ⟨g9, c9, rfl, hn9, hb9⟩; have HB9 := Lib.hid (bt hb9 HB8.out); have HN9 := Lib.hid hn9; have hx9 := HY8.out.below hb9; have HY9 := Lib.hid hx9; have x0 := hx9.cell 0; have f0 := hx9.frozen 0; simp at x0; obtain ⟨t0, t1, t2⟩ := HPQ.out (w9.setCell ⟨w7.heap.size, 0, none⟩ (.slice (some ⟨g9, 0, none⟩) T1.length c9)) (below_grown HB9.out (grown_setCell _ _ _) HB7.out.size); clear hn9 hb9 hx9)
      | (go_at_call 10; (with_reducible refine (HRC.out (fun b => w3.heap.size ≤ b) _ w8 (HN8.out.mono (fun b h1 _ => by have := (show w3.drew.heap.size = w3.heap.size from by simp); omega)) HB8.out (fun b hb => Nat.le_trans HB8.out.size hb)).mono ?_); rintro e3 w9 ⟨g9, c9, rfl, hn9, hb9⟩; have HB9 := Lib.hid (bt hb9 HB8.out); have HN9 := Lib.hid hn9; clear hn9 hb9)
      | (go_at_call 10; (with_reducible refine (HRC.out (fun b => w3.heap.size ≤ b ∧ b ≠ w8.heap.size) _ (w8.alloc (.cells #[.slice none 0 0] 32)) ((ns_free HN8.out (by simp) (Nat.le_refl _)).below (ba w8 _)) (al HB8.out _) (fun b hb => ⟨Nat.le_trans (al HB8.out _).size hb, Nat.ne_of_gt (Nat.lt_of_lt_of_le (by simp) hb)⟩)).mono ?_); rintro e3 w9 ⟨g9, c9, rfl, hn9, hb9⟩; have HB9 := Lib.hid (bt hb9 (al HB8.out _)); have HN9 := Lib.hid hn9; have hx9 := Blk.below (Blk.new w8 32 #[.slice none 0 0]) hb9; have HZ9 := Lib.hid hx9; have x0 := hx9.cell 0; have f0 := hx9.frozen 0; simp at x0; obtain ⟨t0, t1, t2⟩ := HPQ.out (w9.setCell ⟨w8.heap.size, 0, none⟩ (.slice (some ⟨g9, 0, none⟩) T1.length c9)) (below_grown HB9.out (grown_setCell _ _ _) HB8.out.size); clear hn9 hb9 hx9))
    all_goals (
      go_wp2
      go_meet
      first
        | with_reducible exact ⟨_, _, _, rfl, rfl, rfl, Bt.put HX9.out HN9.out HB9.out (Nat.le_refl _)⟩
        | with_reducible exact ⟨_, _, _, rfl, rfl, rfl, Bt.put HY9.out HN9.out HB9.out HB7.out.size⟩
        | with_reducible exact ⟨_, _, _, rfl, rfl, rfl, Bt.put HZ9.out HN9.out HB9.out HB8.out.size⟩
        | exact ⟨_, _, _, rfl, rfl, rfl, Bt.fresh HN9.out HB9.out⟩)
  case rest =>
  obtain ⟨d, g7, c7, rfl, rfl, rfl, hbx⟩ := hcut
  obtain ⟨W7, hW7⟩ : ∃ W, wc = W := ⟨_, rfl⟩
  rw [hW7] at hbx ⊢
  have HX7 := Lib.hid hbx
  have HT7 := Lib.hid (HTT.out.below hbx.below)
  have HK7 := Lib.hid (HK3.out.below hbx.below)
  have HB7 := Lib.hid (bt hbx.below HB3.out)
  obtain ⟨k0', k1, k2⟩ := HK7.out.c3
  clear hbx hW7 HPQ HDR HAD HRC HWH HTE
  go_wp2_with fail
  refine (HCM.out W7 HT7.out HB7.out).mono ?_
  rintro e w8 ⟨rfl, ht, hgr⟩
  have hgd : d ≠ g := by have h1 := HX7.out.lo; have h2 := HGL.out; omega
  have hbk := HX7.out.blk.kept hgr (some_ne hgd)
  have HX8 := Lib.hid hbk
  have HN8 := Lib.hid (HX7.out.ns.other hgr (fun b hb => by have h1 := hb.1; have h2 := HGL.out; omega))
  have HT8 := Lib.hid ht
  have HB8 := Lib.hid (grown_bl HB7.out hgr HGE.out)
  have hk8 := HK7.out.kept hgr (some_ne HKG.out)
  have HK8 := Lib.hid hk8
  clear ht hgr hgd hbk k0' k1 k2 HCM HT7 HK7 HX7 HTT HK3
  obtain ⟨k0', k1, k2⟩ := HK8.out.c3
  go_wp2_with fail
  refine (HNI.out w8 HB8.out).mono ?_
  rintro e w9 ⟨iz, z, rfl, hz, hb9⟩
  have yz : (z != 0) = true := by simpa using hz
  have HX9 := Lib.hid (HX8.out.below hb9)
  have HN9 := Lib.hid (HN8.out.below hb9)
  have HT9 := Lib.hid (HT8.out.below hb9)
  have HB9 := Lib.hid (bt hb9 HB8.out)
  clear hz hb9 k0' k1 k2 HNI HX8 HN8 HT8 HB8 HK8
  have y0 : (E == E) = true := by simp
  have y1 : (I == I) = true := by simp
  have HPQ := Lib.hid (fun (W : World) (hb : Below w9.heap.size w9 W) => show W.cell? ⟨d, 0, none⟩ = some (.slice (some ⟨g7, 0, none⟩) T1.length c7) from (HX9.out.below hb).cell 0)
  have HDR := Lib.hid (show Below w9.heap.size w9 w9.drew from (Below.refl _ _).drew)
  have HTE := Lib.hid (fun (W : World) (hb : Below w9.heap.size w9 W) => tree11_any g T1 W (HT9.out.below hb))
  have HSM := Lib.hid (show ∀ (P P' : Nat → Prop) (va vb : Value) (W : World), NsR P W va T1 → NsR P' W vb T1 → Calls Tryz.prog 14 #[.agg #[va], .agg #[vb]] W fun e w' => e = .returned (.bool true) ∧ Below W.heap.size W w' from fun P P' va vb W h1 h2 => by have h := rtsame_any va vb T1 T1 W h1 h2 HT9.out.hi HT9.out.hi HT9.out.ok HT9.out.ok; rw [sam_refl] at h; exact h)
  go_upto_region 10 with fail
  go_region_held3 (fun W => W.cell? ⟨d, 0, none⟩ = some (.slice (some ⟨g7, 0, none⟩) T1.length c7))
    (first | (with_reducible exact HPQ.out _ HDR.out) | (with_reducible exact HPQ.out _ J1.out) | (with_reducible exact HPQ.out _ J2.out))
    (first
    | (go_at_call 11; (with_reducible refine (HTE.out w9.drew HDR.out).mono ?_); rintro e1 x1 ⟨ga, ca, rfl, hn1, h1⟩; have N1 := Lib.hid hn1; have J1 := Lib.hid (bt h1 HDR.out); clear hn1 h1)
    | (go_at_call 14; (with_reducible refine (HSM.out _ _ _ _ x1 N1.out (HN9.out.below J1.out)).mono ?_); rintro e2 x2 ⟨rfl, h2⟩; have J2 := Lib.hid (bt h2 J1.out); clear h2))
  all_goals (
    go_wp2
    go_ret
    exact ⟨ret_bool (by first | rfl | simp_all), bt J2.out HB9.out⟩)
end Go.Proofs.YtfopnfgfoicidaaGreat
