/-
  The walk of FilesData: it answers true of whatever is told, of any who ask, of any numbers and bytes. The conditions: what is told is no longer than a machine can hold; what is said of package files.
-/
import Derived.Test.YtfopnfgfoicidaaGreatAwF
import Derived.Test.YtfopnfgfoicidaaGreatFRd
import Derived.Test.YtfopnfgfoicidaaGreatTR
import Derived.Deep.RegionWith
import Derived.Deep.DeepCutAuto
import Derived.Deep.RegionHeld3
namespace Go.Proofs.YtfopnfgfoicidaaGreat
open Go Go.RowKit
set_option maxRecDepth 100000

attribute [local go_sem] cell_off4 cell_blk4
/-- A box of a model's table, behind some steps. -/
structure Bt (w wx : World) (d g c : Nat) (T : List Nd) : Prop where
  blk : Blk wx d 32 #[.slice (some ⟨g, 0, none⟩) T.length c]
  ns : NsR (fun b => w.heap.size ≤ b ∧ b ≠ d) wx (.slice (some ⟨g, 0, none⟩) T.length c) T
  below : Below w.heap.size w wx
  lo : w.heap.size ≤ d
theorem Bt.put {w w9 : World} {d g c : Nat} {z : Value} {T : List Nd} (hk : Blk w9 d 32 #[z]) (hn : NsR (fun b => w.heap.size ≤ b ∧ b ≠ d) w9 (.slice (some ⟨g, 0, none⟩) T.length c) T) (hb : Below w.heap.size w w9) (hd : w.heap.size ≤ d) : Bt w (w9.setCell ⟨d, 0, none⟩ (.slice (some ⟨g, 0, none⟩) T.length c)) d g c T :=
  ⟨hk.set_ 0 _, hn.other (grown_setCell w9 ⟨d, 0, none⟩ _) (fun _ h => h.2), below_grown hb (grown_setCell _ _ _) hd, hd⟩
theorem Bt.fresh {w w9 : World} {g c : Nat} {T : List Nd} (hn : NsR (fun b => w.heap.size ≤ b) w9 (.slice (some ⟨g, 0, none⟩) T.length c) T) (hb : Below w.heap.size w w9) : Bt w (w9.alloc (.cells #[.slice (some ⟨g, 0, none⟩) T.length c] 32)) w9.heap.size g c T :=
  ⟨Blk.new w9 _ _, (hn.mono (fun _ h1 h2 => ⟨h1, Nat.ne_of_lt h2⟩)).below (ba w9 _), al hb _, hb.size⟩
/-- The reference's table, ahead of its box and behind it. -/
theorem ns_free {w W : World} {v : Value} {t : List Nd} {lo d : Nat} (h : NsR (fun b => lo < b) W v t) (h1 : w.heap.size ≤ lo) (hd : W.heap.size ≤ d) : NsR (fun b => w.heap.size ≤ b ∧ b ≠ d) W v t :=
  h.mono (fun b h2 h3 => ⟨by omega, by omega⟩)
theorem ns_over {w W : World} {v : Value} {t : List Nd} {lo d : Nat} (h : NsR (fun b => lo < b) W v t) (h1 : w.heap.size ≤ lo) (hd : d ≤ lo) : NsR (fun b => w.heap.size ≤ b ∧ b ≠ d) W v t :=
  h.mono (fun b h2 h3 => ⟨by omega, by omega⟩)
theorem sam_refl (t : List Nd) : toB (sam24 t t) = true := toB_true (fun _ _ => rfl)
theorem rfwrite_any {P : Nat → Prop} (v : Value) (t : List Nd) (c : Wh) (A0 : Option Addr) (m0 k0 : Nat) (i off : Int) (b : List UInt8) (w : World) (h : NsR P w v t) (hl : t.length ≤ 24) (ho : okT t) (hbl : b.length ≤ 1000) (hP : ∀ b, w.heap.size ≤ b → P b) :
    Calls Tryz.prog 17 #[.agg #[v], .agg #[.int .i64 c.u, .int .i64 c.g, .slice A0 m0 k0], .int .i64 i, .int .i64 off, .string (bA b)] w fun e w' => ∃ g' c', e = .returned (.tuple #[.agg #[.slice (some ⟨g', 0, none⟩) (fwT t c i off b).length c'], .int .i64 (fwE t i off b)]) ∧ NsR P w' (.slice (some ⟨g', 0, none⟩) (fwT t c i off b).length c') (fwT t c i off b) ∧ Below w.heap.size w w' := by
  have h1 : Calls Tryz.prog 17 #[.agg #[v], .agg #[.int .i64 c.u, .int .i64 c.g, .slice A0 m0 k0], .int .i64 i, .int .i64 off, .string (bA b)] w (FbE P w (fwT t c i off b) (fwE t i off b)) := by
    by_cases hk : (tget t i).kind = 1
    · exact rfwrite_file v t c A0 m0 k0 i off b w h hl ho hbl hP hk
    · exact rfwrite_not v t c A0 m0 k0 i off b w h hl hk
  refine h1.mono ?_
  rintro e w' ⟨g', n', c', rfl, h2, h3⟩
  obtain ⟨g1, c1, hv⟩ := ns_form h2
  rw [hv] at h2 ⊢
  exact ⟨g1, c1, rfl, h2, h3⟩
set_option maxHeartbeats 8000000 in
theorem ldata_slice (x0 : Int) (v1 : Value) (l : List Rw) (c : Wh) (A0 : Option Addr) (n0 k0 : Nat) (HPC : FilesC) (i off n : Int) (b : List UInt8) (A9 : Option Addr) (k9 : Nat) (w : World) (h1 : RawsR w v1 l) (hl1 : l.length ≤ maxLen) (h2 : IntsR w (.slice A0 n0 k0) c.gs) (h3 : BytesR w (.slice A9 b.length k9) b) :
    Calls Tryz.prog 4 #[.int .i64 x0, v1, .agg #[.int .i64 c.u, .int .i64 c.g, .slice A0 n0 k0], .int .i64 i, .int .i64 off, .int .i64 n, .slice A9 b.length k9] w fun e w' => e = .returned (.bool true) ∧ Below w.heap.size w w' := by
  have hb0 := ba w (.cells #[.int .i64 c.u, .int .i64 c.g, .slice A0 n0 k0] 25)
  have hk0 := Blk.new w 25 #[.int .i64 c.u, .int .i64 c.g, .slice A0 n0 k0]
  obtain ⟨W1, hW1⟩ : ∃ W1, w.alloc (.cells #[.int .i64 c.u, .int .i64 c.g, .slice A0 n0 k0] 25) = W1 := ⟨_, rfl⟩
  rw [hW1] at hb0 hk0
  have HA := Lib.hid (awk16_any HPC W1)
  have HR := Lib.hid (h1.below hb0)
  have HI := Lib.hid (h2.below hb0)
  have HL := Lib.hid hl1
  have HC0 := Lib.hid h2
  have HY0 := Lib.hid h3
  have HB0 := Lib.hid hb0
  have HK0 := Lib.hid hk0
  clear h1 h2 h3 hl1 hb0 hk0
  go_enter Tryz.func4, Tryz.ntmps4
  go_wp2_with fail
  clear hW1
  refine HA.out.mono ?_
  rintro e w2 ⟨rfl, hb2⟩
  have hk2 := HK0.out.below hb2
  have HB2 := Lib.hid (bt hb2 HB0.out)
  have HK2 := Lib.hid hk2
  have HI2 := Lib.hid (HI.out.below hb2)
  have HBL := Lib.hid (built_any x0 v1 l c A0 n0 k0 w2 (HR.out.below hb2) HL.out HI2.out)
  obtain ⟨k0', k1, k2⟩ := hk2.c3
  clear hb2 HA HK0 HI HR HB0
  go_wp2_with fail
  refine HBL.out.mono ?_
  rintro e w3 ⟨hans, hb3⟩
  have HB3 := Lib.hid (bt hb3 HB2.out)
  have hk3 := HK2.out.below hb3
  have HI3 := Lib.hid (HI2.out.below hb3)
  have hkl := hk2.lt
  clear k0' k1 k2 hb3 HBL hk2
  rcases hans with ⟨rfl, -⟩ | ⟨g, T, rfl, hB, hT, hG⟩
  · clear hk3 hkl
    go_wp2
    go_ret
    exact ⟨rfl, HB3.out⟩
  have HTT := Lib.hid hT
  have HTR := Lib.hid ((tre_all hB.2).1)
  have HCR := Lib.hid (show CrR w c A0 n0 k0 from ⟨HC0.out, by have := hB.1.2; omega⟩)
  have HK3 := Lib.hid hk3
  have HGE := Lib.hid (show w.heap.size ≤ g from Nat.le_trans HB2.out.size hG)
  have HKG := Lib.hid (show w.heap.size ≠ g from Nat.ne_of_lt (Nat.lt_of_lt_of_le hkl hG))
  have HGL := Lib.hid hT.lt
  obtain ⟨k0', k1, k2⟩ := hk3.c3
  clear hT hB hk3 HK2 HI2 HB2 hG hkl HC0 HI3
  by_cases hc : 100 < b.length
  · have yc : (b.length : Int) > 100 := by omega
    clear hc
    go_wp2
    go_ret
    exact ⟨rfl, HB3.out⟩
  have yc : ¬ (b.length : Int) > 100 := by omega
  have hb1000 : b.length ≤ 1000 := by omega
  clear hc
  have HTOK := Lib.hid HTR.out.ok
  have HRP := Lib.hid (fun (W : World) (h : TabR W g T (fun _ => True)) => show Calls Tryz.prog 15 #[.pointer (some ⟨g, 0, none⟩), .int .i64 i, .int .i64 off, .int .i64 n] W fun e w' => ∃ A k, e = .returned (.tuple #[.slice A (faB T i off n).length k, .int .i64 (faE T i off n)]) ∧ BytesT w' (.slice A (faB T i off n).length k) (faB T i off n) ∧ Below W.heap.size W w' from by
    refine (HPC.rd (.pointer (some ⟨g, 0, none⟩)) T i off n W h.ptr HTOK.out).mono ?_
    rintro e w' ⟨vb, rfl, hd, hb⟩
    obtain ⟨A, k, rfl⟩ := bytesT_form hd
    exact ⟨A, k, rfl, hd, hb⟩)
  have HRN := Lib.hid (fun (W : World) => show Calls Tryz.prog 15 #[.pointer none, .int .i64 i, .int .i64 off, .int .i64 n] W fun e w' => ∃ A k, e = .returned (.tuple #[.slice A 0 k, .int .i64 9]) ∧ Below W.heap.size W w' from by
    have h1 := HPC.rd (.pointer none) [] i off n W (TabP.none W) (fun n h => by cases h)
    rw [(fa_nil i off n).1, (fa_nil i off n).2] at h1
    refine h1.mono ?_
    rintro e w' ⟨vb, rfl, hd, hb⟩
    obtain ⟨A, k, rfl⟩ := bytesT_form hd
    exact ⟨A, k, rfl, hb⟩)
  obtain ⟨T1, hT1⟩ : ∃ T1, fwT T c i off b = T1 := ⟨_, rfl⟩
  obtain ⟨E, hE⟩ : ∃ E, fwE T i off b = E := ⟨_, rfl⟩
  have HTE := Lib.hid (fun (W : World) (h : TabR W g T (fun _ => True)) => tree11_any g T W h)
  have HWH := Lib.hid (fun (W : World) => who_any c A0 n0 k0 W)
  have HRR := Lib.hid (fun (P : Nat → Prop) (v : Value) (W : World) (h : NsR P W v T) => rfread_any v T i off n W h HTR.out.le HTOK.out)
  have HRC := Lib.hid (show ∀ (P : Nat → Prop) (v : Value) (W : World), NsR P W v T → (∀ b, W.heap.size ≤ b → P b) → Calls Tryz.prog 17 #[.agg #[v], .agg #[.int .i64 c.u, .int .i64 c.g, .slice A0 n0 k0], .int .i64 i, .int .i64 off, .string (bA b)] W fun e w' => ∃ g' c', e = .returned (.tuple #[.agg #[.slice (some ⟨g', 0, none⟩) T1.length c'], .int .i64 E]) ∧ NsR P w' (.slice (some ⟨g', 0, none⟩) T1.length c') T1 ∧ Below W.heap.size W w' from fun P v W hn hP => by
    have h1 := rfwrite_any v T c A0 n0 k0 i off b W hn HTR.out.le HTOK.out hb1000 hP
    rw [hT1, hE] at h1
    exact h1)
  have HCM := Lib.hid (fun (W : World) (h : TabR W g T (fun _ => True)) (hb : Below w.heap.size w W) => show Calls Tryz.prog 18 #[.pointer (some ⟨g, 0, none⟩), .agg #[.int .i64 c.u, .int .i64 c.g, .slice A0 n0 k0], .int .i64 i, .int .i64 off, .slice A9 b.length k9] W fun e w' => e = .returned (.int .i64 E) ∧ TabR w' g T1 (fun _ => True) ∧ W.grownBy w' (some g) from by have h1 := HPC.wr g T (fun _ => True) c A0 n0 k0 i off b (.slice A9 b.length k9) W h HTOK.out (HCR.out.below hb) (HY0.out.below hb) hb1000 (fun _ _ => trivial); rw [hE, hT1] at h1; exact h1)
  have HNI := Lib.hid (fun (W : World) (hb : Below w.heap.size w W) => show Calls Tryz.prog 18 #[.pointer none, .agg #[.int .i64 c.u, .int .i64 c.g, .slice A0 n0 k0], .int .i64 i, .int .i64 off, .slice A9 b.length k9] W fun e w' => e = .returned (.int .i64 9) ∧ Below W.heap.size W w' from HPC.wrn c A0 n0 k0 i off b (.slice A9 b.length k9) W (HCR.out.below hb) (HY0.out.below hb))
  generalize faE T i off n = FE at HRP HRR
  generalize faB T i off n = FB at HRP HRR
  clear hT1 hE hb1000
  go_wp2_with fail
  refine (HRP.out w3 HTT.out).mono ?_
  rintro e v4 ⟨AX, kx, rfl, hx, hb⟩
  have HT4 := Lib.hid (HTT.out.below hb)
  have HK4 := Lib.hid (HK3.out.below hb)
  have HB4 := Lib.hid (bt hb HB3.out)
  have HX4 := Lib.hid hx
  clear hx hb k0' k1 k2 HRP
  go_wp2_with fail
  refine (HTE.out v4 HT4.out).mono ?_
  rintro e v5 ⟨g5, c5, rfl, hn5, hb⟩
  have J5 := Lib.hid hb
  have HR5 := Lib.hid (HRR.out _ _ v5 hn5)
  clear hn5 hb
  go_wp2_with fail
  refine HR5.out.mono ?_
  rintro e v6 ⟨rfl, hb⟩
  have J6 := Lib.hid (bt hb J5.out)
  have HTv := Lib.hid (HT4.out.below J6.out)
  have HKv := Lib.hid (HK4.out.below J6.out)
  have HBv := Lib.hid (bt J6.out HB4.out)
  have HXv := Lib.hid (HX4.out.below J6.out)
  clear hb J5 J6 HR5 HRR HT4 HK4 HB4 HX4 HTT HK3 HB3
  have HPQ := Lib.hid (fun (W : World) (hb : Below v6.heap.size v6 W) => show W.cell? ⟨w.heap.size, 0, none⟩ = some (.int .i64 c.u) ∧ W.cell? ⟨w.heap.size, 1, none⟩ = some (.int .i64 c.g) ∧ W.cell? ⟨w.heap.size, 2, none⟩ = some (.slice A0 n0 k0) ∧ (convert 43 9 (.slice A9 b.length k9)).run Tryz.prog W = .ok (.string (bA b)) W from ⟨(HKv.out.below hb).c3.1, (HKv.out.below hb).c3.2.1, (HKv.out.below hb).c3.2.2, bytes_back (HY0.out.below (bt hb HBv.out))⟩)
  have HDR := Lib.hid (show Below v6.heap.size v6 v6.drew from (Below.refl _ _).drew)
  have HAD := Lib.hid (show Below v6.heap.size v6 (v6.alloc (.cells #[.slice none 0 0] 32)).drew from (ba v6 _).drew)
  go_upto_region 9 with fail
  go_cut [22, 23] (fun sa sc wx => ∃ d g' c' : Nat, sa = .pointer (some ⟨d, 0, none⟩) ∧ sc = .int .i64 E ∧ Bt v6 wx d g' c' T1)
  case first =>
    go_region_held3 (fun W => W.cell? ⟨w.heap.size, 0, none⟩ = some (.int .i64 c.u) ∧ W.cell? ⟨w.heap.size, 1, none⟩ = some (.int .i64 c.g) ∧ W.cell? ⟨w.heap.size, 2, none⟩ = some (.slice A0 n0 k0) ∧ (convert 43 9 (.slice A9 b.length k9)).run Tryz.prog W = .ok (.string (bA b)) W)
      (first | (with_reducible exact HPQ.out _ HDR.out) | (with_reducible exact HPQ.out _ HAD.out) | (with_reducible exact HPQ.out _ HB7.out) | (with_reducible exact HPQ.out _ (al HB7.out _)) | (with_reducible exact HPQ.out _ HB8.out) | (with_reducible exact HPQ.out _ (al HB8.out _)) | (with_reducible exact HPQ.out _ HB9.out) | (with_reducible exact HPQ.out _ (al HB9.out _)) | (with_reducible exact ⟨t0, t1, t2, t3⟩))
      (first
      | (go_at_call 11; (with_reducible refine (HTE.out v6.drew (HTv.out.below HDR.out)).mono ?_); rintro e1 w7 ⟨g7, c7, rfl, hn7, hb7⟩; have HN7 := Lib.hid hn7; have HB7 := Lib.hid (bt hb7 HDR.out); clear hn7 hb7)
      | (go_at_call 11; (with_reducible refine (HTE.out (v6.alloc (.cells #[.slice none 0 0] 32)).drew (HTv.out.below HAD.out)).mono ?_); rintro e1 w7 ⟨g7, c7, rfl, hn7, hb7⟩; have HN7 := Lib.hid hn7; have HB7 := Lib.hid (bt hb7 HAD.out); have HX7 := Lib.hid (show Blk w7 v6.heap.size 32 #[.slice none 0 0] from Blk.below (w := (v6.alloc (.cells #[.slice none 0 0] 32)).drew) (Blk.new v6 32 _) hb7); have HP7 := Lib.hid (show NsR (fun b => v6.heap.size ≤ b ∧ b ≠ v6.heap.size) w7 (.slice (some ⟨g7, 0, none⟩) T.length c7) T from ns_over hn7 (by simp) (by simp)); clear hn7 hb7)
      | (go_at_call 12; (with_reducible refine (HWH.out w7).mono ?_); rintro e2 w8 ⟨rfl, hb8⟩; have HB8 := Lib.hid (bt hb8 HB7.out); have HN8 := Lib.hid (HN7.out.below hb8); first | (have HX8 := Lib.hid (HX7.out.below hb8); have HP8 := Lib.hid (HP7.out.below hb8); clear hb8) | clear hb8)
      | (go_at_call 12; (with_reducible refine (HWH.out (w7.alloc (.cells #[.slice none 0 0] 32))).mono ?_); rintro e2 w8 ⟨rfl, hb8⟩; have HB8 := Lib.hid (bt hb8 (al HB7.out _)); have HY8 := Lib.hid (show Blk w8 w7.heap.size 32 #[.slice none 0 0] from Blk.below (Blk.new w7 32 _) hb8); have HP8 := Lib.hid (show NsR (fun b => v6.heap.size ≤ b ∧ b ≠ w7.heap.size) w8 (.slice (some ⟨g7, 0, none⟩) T.length c7) T from ((ns_free HN7.out (by simp) (Nat.le_refl _)).below (ba w7 _)).below hb8); clear hb8)
      | (go_at_call 17; (with_reducible refine (HRC.out _ _ w8 HP8.out (fun b hb => ⟨Nat.le_trans HB8.out.size hb, Nat.ne_of_gt (Nat.lt_of_lt_of_le HX8.out.lt hb)⟩)).mono ?_); rintro e3 w9 ⟨g9, c9, rfl, hn9, hb9⟩; have HB9 := Lib.hid (bt hb9 HB8.out); have HN9 := Lib.hid hn9; have hx9 := HX8.out.below hb9; have HX9 := Lib.hid hx9; have x0 := hx9.cell 0; have f0 := hx9.frozen 0; simp at x0; obtain ⟨t0, t1, t2, t3⟩ := HPQ.out (w9.setCell ⟨v6.heap.size, 0, none⟩ (.slice (some ⟨g9, 0, none⟩) T1.length c9)) (below_grown HB9.out (grown_setCell _ _ _) (Nat.le_refl _)); clear hn9 hb9 hx9)
      | (go_at_call 17; (with_reducible refine (HRC.out _ _ w8 HP8.out (fun b hb => ⟨Nat.le_trans HB8.out.size hb, Nat.ne_of_gt (Nat.lt_of_lt_of_le HY8.out.lt hb)⟩)).mono ?_); rintro e3 w9 ⟨g9, c9, rfl, hn9, hb9⟩; have HB9 := Lib.hid (bt hb9 HB8.out); have HN9 := Lib.hid hn9; have hx9 := HY8.out.below hb9; have HY9 := Lib.hid hx9; have x0 := hx9.cell 0; have f0 := hx9.frozen 0; simp at x0; obtain ⟨t0, t1, t2, t3⟩ := HPQ.out (w9.setCell ⟨w7.heap.size, 0, none⟩ (.slice (some ⟨g9, 0, none⟩) T1.length c9)) (below_grown HB9.out (grown_setCell _ _ _) HB7.out.size); clear hn9 hb9 hx9)
      | (go_at_call 17; (with_reducible refine (HRC.out (fun b => v6.heap.size ≤ b) _ w8 (HN8.out.mono (fun b h1 _ => by have := (show v6.drew.heap.size = v6.heap.size from by simp); omega)) (fun b hb => Nat.le_trans HB8.out.size hb)).mono ?_); rintro e3 w9 ⟨g9, c9, rfl, hn9, hb9⟩; have HB9 := Lib.hid (bt hb9 HB8.out); have HN9 := Lib.hid hn9; clear hn9 hb9)
      | (go_at_call 17; (with_reducible refine (HRC.out (fun b => v6.heap.size ≤ b ∧ b ≠ w8.heap.size) _ (w8.alloc (.cells #[.slice none 0 0] 32)) ((ns_free HN8.out (by simp) (Nat.le_refl _)).below (ba w8 _)) (fun b hb => ⟨Nat.le_trans (al HB8.out _).size hb, Nat.ne_of_gt (Nat.lt_of_lt_of_le (by simp) hb)⟩)).mono ?_); rintro e3 w9 ⟨g9, c9, rfl, hn9, hb9⟩; have HB9 := Lib.hid (bt hb9 (al HB8.out _)); have HN9 := Lib.hid hn9; have hx9 := Blk.below (Blk.new w8 32 #[.slice none 0 0]) hb9; have HZ9 := Lib.hid hx9; have x0 := hx9.cell 0; have f0 := hx9.frozen 0; simp at x0; obtain ⟨t0, t1, t2, t3⟩ := HPQ.out (w9.setCell ⟨w8.heap.size, 0, none⟩ (.slice (some ⟨g9, 0, none⟩) T1.length c9)) (below_grown HB9.out (grown_setCell _ _ _) HB8.out.size); clear hn9 hb9 hx9))
    all_goals (
      go_wp2
      go_meet
      first
        | with_reducible exact ⟨_, _, _, rfl, rfl, Bt.put HX9.out HN9.out HB9.out (Nat.le_refl _)⟩
        | with_reducible exact ⟨_, _, _, rfl, rfl, Bt.put HY9.out HN9.out HB9.out HB7.out.size⟩
        | with_reducible exact ⟨_, _, _, rfl, rfl, Bt.put HZ9.out HN9.out HB9.out HB8.out.size⟩
        | exact ⟨_, _, _, rfl, rfl, Bt.fresh HN9.out HB9.out⟩)
  case rest =>
  obtain ⟨d, g7, c7, rfl, rfl, hbx⟩ := hcut
  obtain ⟨W7, hW7⟩ : ∃ W, wc = W := ⟨_, rfl⟩
  rw [hW7] at hbx ⊢
  have HX7 := Lib.hid hbx
  have HT7 := Lib.hid (HTv.out.below hbx.below)
  have HK7 := Lib.hid (HKv.out.below hbx.below)
  have HB7 := Lib.hid (bt hbx.below HBv.out)
  have HD7 := Lib.hid (HXv.out.below hbx.below)
  have HGL7 := Lib.hid HTv.out.lt
  obtain ⟨k0', k1, k2⟩ := HK7.out.c3
  clear hbx hW7 HPQ HDR HAD HRC HWH HTE
  go_wp2_with fail
  refine (HCM.out W7 HT7.out HB7.out).mono ?_
  rintro e w8 ⟨rfl, ht, hgr⟩
  have hgd : d ≠ g := by have h1 := HX7.out.lo; have h2 := HGL7.out; omega
  have hbk := HX7.out.blk.kept hgr (some_ne hgd)
  have HX8 := Lib.hid hbk
  have HN8 := Lib.hid (HX7.out.ns.other hgr (fun b hb => by have h1 := hb.1; have h2 := HGL7.out; omega))
  have HT8 := Lib.hid ht
  have HB8 := Lib.hid (grown_bl HB7.out hgr HGE.out)
  have HD8 := Lib.hid (show BytesT w8 (.slice AX FB.length kx) FB from (by obtain ⟨cs, hg, -⟩ := HT7.out.blk; exact HD7.out.other hgr (fun ad n c hv => by obtain ⟨cs2, hc⟩ := HD7.out.2 ad n c hv; exact blk_ne hc hg (by decide))))
  have hk8 := HK7.out.kept hgr (some_ne HKG.out)
  have HK8 := Lib.hid hk8
  clear ht hgr hgd hbk k0' k1 k2 HCM HT7 HK7 HX7
  go_wp2_with fail
  refine (HRN.out w8).mono ?_
  rintro e w9 ⟨AZ, kz, rfl, hb9⟩
  have HX9 := Lib.hid (HX8.out.below hb9)
  have HN9 := Lib.hid (HN8.out.below hb9)
  have HT9 := Lib.hid (HT8.out.below hb9)
  have HK9 := Lib.hid (HK8.out.below hb9)
  have HB9 := Lib.hid (bt hb9 HB8.out)
  have HD9 := Lib.hid (HD8.out.below hb9)
  clear hb9 HRN HX8 HN8 HT8 HB8 HK8 HD8
  have y0 : (E == E) = true := by simp
  have y1 : (FE == FE) = true := by simp
  have y2 : ((bA FB).toList == (bA FB).toList) = true := by simp
  have HDR := Lib.hid (show Below w9.heap.size w9 w9.drew from (Below.refl _ _).drew)
  have HTE := Lib.hid (fun (W : World) (hb : Below w9.heap.size w9 W) => tree11_any g T1 W (HT9.out.below hb))
  have HSM := Lib.hid (show ∀ (P P' : Nat → Prop) (va vb : Value) (W : World), NsR P W va T1 → NsR P' W vb T1 → Calls Tryz.prog 14 #[.agg #[va], .agg #[vb]] W fun e w' => e = .returned (.bool true) ∧ Below W.heap.size W w' from fun P P' va vb W h1 h2 => by have h := rtsame_any va vb T1 T1 W h1 h2 HT9.out.hi HT9.out.hi HT9.out.ok HT9.out.ok; rw [sam_refl] at h; exact h)
  have HPZ := Lib.hid (fun (W : World) (hb : Below w9.heap.size w9 W) => show W.cell? ⟨d, 0, none⟩ = some (.slice (some ⟨g7, 0, none⟩) T1.length c7) ∧ W.cell? ⟨w.heap.size, 0, none⟩ = some (.int .i64 c.u) ∧ W.cell? ⟨w.heap.size, 1, none⟩ = some (.int .i64 c.g) ∧ W.cell? ⟨w.heap.size, 2, none⟩ = some (.slice A0 n0 k0) ∧ (convert 43 9 (.slice AX FB.length kx)).run Tryz.prog W = .ok (.string (bA FB)) W from ⟨(HX9.out.below hb).cell 0, (HK9.out.below hb).c3.1, (HK9.out.below hb).c3.2.1, (HK9.out.below hb).c3.2.2, bytes_back (HD9.out.below hb).1⟩)
  go_upto_region 12 with fail
  go_region_held3 (fun W => W.cell? ⟨d, 0, none⟩ = some (.slice (some ⟨g7, 0, none⟩) T1.length c7) ∧ W.cell? ⟨w.heap.size, 0, none⟩ = some (.int .i64 c.u) ∧ W.cell? ⟨w.heap.size, 1, none⟩ = some (.int .i64 c.g) ∧ W.cell? ⟨w.heap.size, 2, none⟩ = some (.slice A0 n0 k0) ∧ (convert 43 9 (.slice AX FB.length kx)).run Tryz.prog W = .ok (.string (bA FB)) W)
    (first | (with_reducible exact HPZ.out _ HDR.out) | (with_reducible exact HPZ.out _ J1.out) | (with_reducible exact HPZ.out _ J2.out) | (with_reducible exact HPZ.out _ J3.out))
    (first
    | (go_at_call 11; (with_reducible refine (HTE.out w9.drew HDR.out).mono ?_); rintro e1 x1 ⟨ga, ca, rfl, hn1, h1⟩; have N1 := Lib.hid hn1; have J1 := Lib.hid (bt h1 HDR.out); clear hn1 h1)
    | (go_at_call 14; (with_reducible refine (HSM.out _ _ _ _ x1 N1.out (HN9.out.below J1.out)).mono ?_); rintro e2 x2 ⟨rfl, h2⟩; have J2 := Lib.hid (bt h2 J1.out); clear h2)
    | (go_at_call 18; (with_reducible refine (HNI.out x2 (bt J2.out HB9.out)).mono ?_); rintro e3 x3 ⟨rfl, h3⟩; have J3 := Lib.hid (bt h3 J2.out); clear h3))
  all_goals (
    go_wp2
    go_ret
    exact ⟨ret_bool (by first | rfl | simp_all), bt J3.out HB9.out⟩)
theorem ldata_any (x0 : Int) (v1 : Value) (l : List Rw) (c : Wh) (A0 : Option Addr) (n0 k0 : Nat) (HPC : FilesC) (i off n : Int) (vb : Value) (b : List UInt8) (w : World) (h1 : RawsR w v1 l) (hl1 : l.length ≤ maxLen) (h2 : IntsR w (.slice A0 n0 k0) c.gs) (h3 : BytesR w vb b) :
    Calls Tryz.prog 4 #[.int .i64 x0, v1, .agg #[.int .i64 c.u, .int .i64 c.g, .slice A0 n0 k0], .int .i64 i, .int .i64 off, .int .i64 n, vb] w fun e w' => e = .returned (.bool true) ∧ Below w.heap.size w w' := by
  obtain ⟨A9, k9, rfl⟩ := bytes_form h3 rfl
  exact ldata_slice x0 v1 l c A0 n0 k0 HPC i off n b A9 k9 w h1 hl1 h2 h3
end Go.Proofs.YtfopnfgfoicidaaGreat
