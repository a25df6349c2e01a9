/-
  The walk of FilesClean: it answers true of whatever is told, of any who ask, of any path and bytes. The conditions: what is told is no longer than a machine can hold; what is said of package files.
-/
import Derived.Test.YtfopnfgfoicidaaGreatAwF
import Derived.Test.YtfopnfgfoicidaaGreatFiO
import Derived.Deep.RegionWith
import Derived.Deep.DeepCutAuto
import Derived.Deep.CutBlock
namespace Go.Proofs.YtfopnfgfoicidaaGreat
open Go Go.RowKit
set_option maxRecDepth 100000

attribute [local go_sem] cell_off4 cell_blk4
theorem blt_kept {W W' : World} {x g : Nat} {T U : List Nd} {P Q : Nat → Prop} (h : TabR W x T P) (hg : TabR W g U Q) (hgr : W.grownBy W' (some g)) (hne : x ≠ g) : TabR W' x T P := by
  obtain ⟨cs, hb, -⟩ := hg.blk
  exact h.kind hgr hne hb (by decide) (by decide)
/-- What was done, behind some steps. -/
structure Mad (w W : World) (x g u : Nat) (c : Wh) (A0 : Option Addr) (n0 k0 : Nat) (T1 T : List Nd) : Prop where
  tab : TabR W g T1 (fun _ => True)
  was : TabR W u T (fun _ => True)
  who : Blk W x 25 #[.int .i64 c.u, .int .i64 c.g, .slice A0 n0 k0]
  below : Below w.heap.size w W
/-- A node that is read, cell by cell, and where its lists lie. -/
theorem get_formsB {g : Nat} {t : List Nd} {P : Nat → Prop} {W : World} (h : TabR W g t P) (i : Int) (n : Nd) (q : Bool) (hn : tget t i = n) (hq : tis t i = q) : Calls Tryz.prog 21 #[.pointer (some ⟨g, 0, none⟩), .int .i64 i] W fun e w' => ∃ A1 n1 c1 A2 c2, e = .returned (.tuple #[.agg #[.int .i64 n.kind, .int .i64 n.mode, .int .i64 n.uid, .int .i64 n.gid, .slice A1 n1 c1, .slice A2 n.ents.length c2, .string (bA n.target)], .bool q]) ∧ (BytesT w' (.slice A1 n1 c1) n.data ∧ EntsT w' (.slice A2 n.ents.length c2) n.ents) ∧ Below W.heap.size W w' := by
  refine (get_any (.pointer (some ⟨g, 0, none⟩)) t i W h.ptr).mono ?_
  rintro e w' ⟨vd, ve, rfl, hd, he, -, -, hb⟩
  rw [hn] at hd he ⊢
  rw [hq]
  obtain ⟨A1, c1, rfl⟩ := bytesT_form hd
  obtain ⟨A2, c2, rfl⟩ := entsT_form he
  exact ⟨_, _, _, _, _, rfl, ⟨hd, he⟩, hb⟩
theorem sam_refl (t : List Nd) : toB (sam24 t t) = true := toB_true (fun _ _ => rfl)
set_option maxHeartbeats 8000000 in
theorem lclean_slice (x0 : Int) (v1 : Value) (l : List Rw) (c : Wh) (A0 : Option Addr) (n0 k0 : Nat) (HPC : FilesC) (s : ByteArray) (tr : Bool) (b : List UInt8) (A9 : Option Addr) (k9 : Nat) (w : World) (h1 : RawsR w v1 l) (hl1 : l.length ≤ maxLen) (h2 : IntsR w (.slice A0 n0 k0) c.gs) (h3 : BytesR w (.slice A9 b.length k9) b) :
    Calls Tryz.prog 5 #[.int .i64 x0, v1, .agg #[.int .i64 c.u, .int .i64 c.g, .slice A0 n0 k0], .string s, .bool tr, .slice A9 b.length k9] w fun e w' => e = .returned (.bool true) ∧ Below w.heap.size w w' := by
  have hb0 := ba w (.cells #[.int .i64 c.u, .int .i64 c.g, .slice A0 n0 k0] 25)
  have hk0 := Blk.new w 25 #[.int .i64 c.u, .int .i64 c.g, .slice A0 n0 k0]
  obtain ⟨W1, hW1⟩ : ∃ W1, w.alloc (.cells #[.int .i64 c.u, .int .i64 c.g, .slice A0 n0 k0] 25) = W1 := ⟨_, rfl⟩
  rw [hW1] at hb0 hk0
  have HA := Lib.hid (awk16_any HPC W1)
  have HR := Lib.hid (h1.below hb0)
  have HI := Lib.hid (h2.below hb0)
  have HL := Lib.hid hl1
  have HC0 := Lib.hid h2
  have HY0 := Lib.hid h3
  have HB0 := Lib.hid hb0
  have HK0 := Lib.hid hk0
  clear h1 h2 h3 hl1 hb0 hk0
  go_enter Tryz.func5, Tryz.ntmps5
  go_wp2_with fail
  clear hW1
  refine HA.out.mono ?_
  rintro e w2 ⟨rfl, hb2⟩
  have hk2 := HK0.out.below hb2
  have HB2 := Lib.hid (bt hb2 HB0.out)
  have HK2 := Lib.hid hk2
  have HI2 := Lib.hid (HI.out.below hb2)
  have HBL := Lib.hid (built_any x0 v1 l c A0 n0 k0 w2 (HR.out.below hb2) HL.out HI2.out)
  obtain ⟨k0', k1, k2⟩ := hk2.c3
  clear hb2 HA HK0 HI HR HB0
  go_wp2_with fail
  refine HBL.out.mono ?_
  rintro e w3 ⟨hans, hb3⟩
  have HB3 := Lib.hid (bt hb3 HB2.out)
  have hk3 := HK2.out.below hb3
  have HI3 := Lib.hid (HI2.out.below hb3)
  have hkl := hk2.lt
  clear k0' k1 k2 hb3 HBL hk2
  rcases hans with ⟨rfl, -⟩ | ⟨g, T, rfl, hB, hT, hG⟩
  · clear hk3 hkl
    go_wp2
    go_ret
    exact ⟨rfl, HB3.out⟩
  have HTT := Lib.hid hT
  have HTR := Lib.hid ((tre_all hB.2).1)
  have HCR := Lib.hid (show CrR w c A0 n0 k0 from ⟨HC0.out, by have := hB.1.2; omega⟩)
  have HK3 := Lib.hid hk3
  have HGE := Lib.hid (show w.heap.size ≤ g from Nat.le_trans HB2.out.size hG)
  have HKG := Lib.hid (show w.heap.size ≠ g from Nat.ne_of_lt (Nat.lt_of_lt_of_le hkl hG))
  have HGL := Lib.hid hT.lt
  obtain ⟨k0', k1, k2⟩ := hk3.c3
  clear hT hB hk3 HK2 HI2 HB2 hG hkl HC0 HI3
  by_cases hc : 100 < s.size
  · have yc : (s.size : Int) > 100 := by omega
    clear hc
    go_wp2
    go_ret
    exact ⟨rfl, HB3.out⟩
  have yc : ¬ (s.size : Int) > 100 := by omega
  by_cases hd : 100 < b.length
  · have yd : (b.length : Int) > 100 := by omega
    clear hd
    go_wp2
    go_ret
    exact ⟨rfl, HB3.out⟩
  have yd : ¬ (b.length : Int) > 100 := by omega
  have hb1000 := Lib.hid (show b.length ≤ 1000 by omega)
  clear hc hd
  obtain ⟨P, rfl⟩ : ∃ P, s = bA P := ⟨tl s, (bA_tl s).symm⟩
  go_wp2_with fail
  refine (clone_any g T (fun _ => True) (fun _ => True) w3 HTT.out (fun _ _ => trivial)).mono ?_
  rintro e w4 ⟨rfl, hu, hb4⟩
  have HUG := Lib.hid (show w3.heap.size ≠ g from Nat.ne_of_gt HGL.out)
  generalize w3.heap.size = u at hu HUG ⊢
  have HU4 := Lib.hid hu
  have HT4 := Lib.hid (HTT.out.below hb4)
  have hk4 := HK3.out.below hb4
  have HK4 := Lib.hid hk4
  have HB4 := Lib.hid (bt hb4 HB3.out)
  clear hu hb4 k0' k1 k2 HTT HK3 HB3
  obtain ⟨k0', k1, k2⟩ := hk4.c3
  clear hk4
  cases tr
  case true =>
    as_aux_lemma =>
    have HM0 : Hid (foE T c 0 P 18 0 = 0 → Cln T (foT T c 0 P 18 0) (fwT (foT T c 0 P 18 0) c (foI T c 0 P 18 0) 0 b) c.u (foI T c 0 P 18 0) true (true || (decide (fwE (foT T c 0 P 18 0) (foI T c 0 P 18 0) 0 b = 0) && decide (b ≠ [])))) := by as_aux_lemma => exact Lib.hid (fun q => clean_all HTR.out.ok c P true b q)
    have HER := Lib.hid (show foE T c 0 P 18 0 ≠ 0 → foT T c 0 P 18 0 = T from fun q => (fo_err q).1)
    have HOP := Lib.hid (fun (W : World) (h : TabR W g T (fun _ => True)) (hb : Below w.heap.size w W) => show Calls Tryz.prog 13 #[.pointer (some ⟨g, 0, none⟩), .agg #[.int .i64 c.u, .int .i64 c.g, .slice A0 n0 k0], .int .i64 0, .string (bA P), .int .i64 18, .int .i64 0] W fun e w' => e = .returned (.tuple #[.int .i64 (foI T c 0 P 18 0), .int .i64 (foE T c 0 P 18 0)]) ∧ TabR w' g (foT T c 0 P 18 0) (fun _ => True) ∧ W.grownBy w' (some g) from HPC.op g T (fun _ => True) c A0 n0 k0 0 P 18 0 W h HTR.out.ok (HCR.out.below hb) (fun _ _ => trivial))
    obtain ⟨I, hI⟩ : ∃ I, foI T c 0 P 18 0 = I := ⟨_, rfl⟩
    obtain ⟨E, hE⟩ : ∃ E, foE T c 0 P 18 0 = E := ⟨_, rfl⟩
    obtain ⟨T1, hT1⟩ : ∃ E, foT T c 0 P 18 0 = E := ⟨_, rfl⟩
    rw [hI, hE, hT1] at HM0 HOP
    rw [hE, hT1] at HER
    clear hI hE hT1
    obtain ⟨E2, hE2⟩ : ∃ E, fwE T1 I 0 b = E := ⟨_, rfl⟩
    obtain ⟨T2, hT2⟩ : ∃ E, fwT T1 c I 0 b = E := ⟨_, rfl⟩
    have HWR := Lib.hid (fun (W : World) (h : TabR W g T1 (fun _ => True)) (hb : Below w.heap.size w W) => show Calls Tryz.prog 18 #[.pointer (some ⟨g, 0, none⟩), .agg #[.int .i64 c.u, .int .i64 c.g, .slice A0 n0 k0], .int .i64 I, .int .i64 0, .slice A9 b.length k9] W fun e w' => e = .returned (.int .i64 E2) ∧ TabR w' g T2 (fun _ => True) ∧ W.grownBy w' (some g) from by have h1 := HPC.wr g T1 (fun _ => True) c A0 n0 k0 I 0 b (.slice A9 b.length k9) W h h.ok (HCR.out.below hb) (HY0.out.below hb) hb1000.out (fun _ _ => trivial); rw [hE2, hT2] at h1; exact h1)
    rw [hE2, hT2] at HM0
    clear hE2 hT2
    go_wp2_with fail
    refine (HOP.out w4 HT4.out HB4.out).mono ?_
    rintro e w6 ⟨rfl, ht, hgr⟩
    have HT6 := Lib.hid ht
    have HU6 := Lib.hid (blt_kept HU4.out HT4.out hgr HUG.out)
    have hk5 := HK4.out.kept hgr (some_ne HKG.out)
    have HK6 := Lib.hid hk5
    have HB6 := Lib.hid (grown_bl HB4.out hgr HGE.out)
    have HSM := Lib.hid (fun (q : T1 = T) => show Calls Tryz.prog 20 #[.pointer (some ⟨g, 0, none⟩), .pointer (some ⟨u, 0, none⟩)] w6 fun e w' => e = .returned (.bool true) ∧ Below w6.heap.size w6 w' from by have h := tsame_any (.pointer (some ⟨g, 0, none⟩)) (.pointer (some ⟨u, 0, none⟩)) T1 T w6 HT6.out.ptr HU6.out.ptr; rw [q, sam_refl] at h; exact h)
    clear ht hgr k0' k1 k2 HU4 HT4 HK4 HB4 HOP
    obtain ⟨k0', k1, k2⟩ := hk5.c3
    clear hk5
    by_cases qE : E = 0
    case neg =>
      have yE : (E != 0) = true := by simpa using qE
      have HS := Lib.hid (HSM.out (HER.out qE))
      clear qE
      go_wp2_with fail
      refine HS.out.mono ?_
      rintro e w7 ⟨rfl, hb⟩
      have HB7 := Lib.hid (bt hb HB6.out)
      clear hb
      go_wp2
      go_ret
      exact ⟨ret_bool (by first | rfl | simp), HB7.out⟩
    have yE : (E != 0) = false := by simpa using qE
    have HM := Lib.hid (HM0.out qE)
    clear qE HM0 HER
    clear HSM
    go_wp2_with fail
    refine (HWR.out w6 HT6.out HB6.out).mono ?_
    rintro e w7 ⟨rfl, ht, hgr⟩
    have HT7 := Lib.hid ht
    have hu7 := blt_kept HU6.out HT6.out hgr HUG.out
    have HU7 := Lib.hid hu7
    have HK7 := Lib.hid (HK6.out.kept hgr (some_ne HKG.out))
    have HB7 := Lib.hid (grown_bl HB6.out hgr HGE.out)
    have HSZ := Lib.hid (show w.heap.size < w7.heap.size from HK7.out.lt)
    clear ht hgr k0' k1 k2 HT6 HU6 HK6 HB6 HWR
    obtain ⟨ch, hch⟩ : ∃ x, (true || (decide (E2 = 0) && decide (b ≠ []))) = x := ⟨_, rfl⟩
    have HCH := Lib.hid hch
    have HWT := Lib.hid HM.out.file
    have HOT := Lib.hid HM.out.other
    have HLN := Lib.hid HM.out.len
    rw [hch] at HWT
    clear hch HM
    obtain ⟨qa, hqa⟩ : ∃ q, tis T I = q := ⟨_, rfl⟩
    obtain ⟨qb, hqb⟩ : ∃ q, tis T2 I = q := ⟨_, rfl⟩
    obtain ⟨a, ha⟩ : ∃ n, tget T I = n := ⟨_, rfl⟩
    obtain ⟨d, hd⟩ : ∃ n, tget T2 I = n := ⟨_, rfl⟩
    have HG1 := Lib.hid (get_formsB hu7 I a qa ha hqa)
    have HG2 := Lib.hid (fun (W : World) (h : TabR W g T2 (fun _ => True)) => get_formsB h I d qb hd hqb)
    rw [ha, hd] at HWT
    clear ha hd hqa hqb hu7
    go_wp2_with fail
    refine HG1.out.mono ?_
    rintro e wa ⟨A1, m1, c1, B1, d1, rfl, hl, hb⟩
    have hbx := al hb (.cells #[.int .i64 a.kind, .int .i64 a.mode, .int .i64 a.uid, .int .i64 a.gid, .slice A1 m1 c1, .slice B1 a.ents.length d1, .string (bA a.target)] 56)
    have hkx := Blk.new wa 56 #[.int .i64 a.kind, .int .i64 a.mode, .int .i64 a.uid, .int .i64 a.gid, .slice A1 m1 c1, .slice B1 a.ents.length d1, .string (bA a.target)]
    have hlx : BytesT (wa.alloc (.cells #[.int .i64 a.kind, .int .i64 a.mode, .int .i64 a.uid, .int .i64 a.gid, .slice A1 m1 c1, .slice B1 a.ents.length d1, .string (bA a.target)] 56)) (.slice A1 m1 c1) a.data ∧ EntsT (wa.alloc (.cells #[.int .i64 a.kind, .int .i64 a.mode, .int .i64 a.uid, .int .i64 a.gid, .slice A1 m1 c1, .slice B1 a.ents.length d1, .string (bA a.target)] 56)) (.slice B1 a.ents.length d1) a.ents := ⟨hl.1.below (ba _ _), hl.2.below (ba _ _)⟩
    have hlo := hb.size
    obtain ⟨Wa, hWa⟩ : ∃ W, wa.alloc (.cells #[.int .i64 a.kind, .int .i64 a.mode, .int .i64 a.uid, .int .i64 a.gid, .slice A1 m1 c1, .slice B1 a.ents.length d1, .string (bA a.target)] 56) = W := ⟨_, rfl⟩
    obtain ⟨za, hza⟩ : ∃ z, wa.heap.size = z := ⟨_, rfl⟩
    rw [hWa] at hbx hkx hlx
    rw [hza] at hkx hlo
    have HTa := Lib.hid (HT7.out.below hbx)
    have HUa := Lib.hid (HU7.out.below hbx)
    have HKa := Lib.hid (HK7.out.below hbx)
    have HBa := Lib.hid (bt hbx HB7.out)
    have HXa := Lib.hid hkx
    have HG3 := Lib.hid (HG2.out Wa (HT7.out.below hbx))
    clear hb hbx hkx hl hlx hlo HG1 HG2 HT7 HU7 HK7 HB7
    go_wp2_with fail
    clear hWa hza
    refine HG3.out.mono ?_
    rintro e wb ⟨A2, m2, c2, B2, d2, rfl, hl, hb⟩
    have hbx := al hb (.cells #[.int .i64 d.kind, .int .i64 d.mode, .int .i64 d.uid, .int .i64 d.gid, .slice A2 m2 c2, .slice B2 d.ents.length d2, .string (bA d.target)] 56)
    have hkx := Blk.new wb 56 #[.int .i64 d.kind, .int .i64 d.mode, .int .i64 d.uid, .int .i64 d.gid, .slice A2 m2 c2, .slice B2 d.ents.length d2, .string (bA d.target)]
    have hlx : BytesT (wb.alloc (.cells #[.int .i64 d.kind, .int .i64 d.mode, .int .i64 d.uid, .int .i64 d.gid, .slice A2 m2 c2, .slice B2 d.ents.length d2, .string (bA d.target)] 56)) (.slice A2 m2 c2) d.data ∧ EntsT (wb.alloc (.cells #[.int .i64 d.kind, .int .i64 d.mode, .int .i64 d.uid, .int .i64 d.gid, .slice A2 m2 c2, .slice B2 d.ents.length d2, .string (bA d.target)] 56)) (.slice B2 d.ents.length d2) d.ents := ⟨hl.1.below (ba _ _), hl.2.below (ba _ _)⟩
    have hlo := hb.size
    obtain ⟨Wb, hWb⟩ : ∃ W, wb.alloc (.cells #[.int .i64 d.kind, .int .i64 d.mode, .int .i64 d.uid, .int .i64 d.gid, .slice A2 m2 c2, .slice B2 d.ents.length d2, .string (bA d.target)] 56) = W := ⟨_, rfl⟩
    obtain ⟨zb, hzb⟩ : ∃ z, wb.heap.size = z := ⟨_, rfl⟩
    rw [hWb] at hbx hkx hlx
    rw [hzb] at hkx hlo
    have HTb := Lib.hid (HTa.out.below hbx)
    have HUb := Lib.hid (HUa.out.below hbx)
    have hk9 := HKa.out.below hbx
    have hxa := HXa.out.below hbx
    have HBb := Lib.hid (bt hbx HBa.out)
    obtain ⟨k0', k1, k2⟩ := hk9.c3
    obtain ⟨a0, a1, a2, a3, -, -, -⟩ := hxa.c7
    obtain ⟨b0, b1, b2, b3, -, -, -⟩ := hkx.c7
    have HFA := Lib.hid (⟨k0', a1, a2, a3, b1, b2, b3⟩ : _ ∧ _ ∧ _ ∧ _ ∧ _ ∧ _ ∧ _)
    clear hb hbx hkx hl hlx hlo hk9 hxa HG3 HTa HUa HKa HBa HXa k0' k1 k2 a0 a1 a2 a3 b0 b1 b2 b3
    go_upto_region 17 with fail
    clear hWb hzb
    go_cut [25] (fun s25 wx => s25 = .bool ch ∧ wx = Wb)
    case first =>
      as_aux_lemma =>
      have hch := HCH.out
      simp at hch
      subst hch
      go_wp2
      go_meet
      exact ⟨rfl, rfl⟩
    case rest =>
    obtain ⟨rfl, rfl⟩ := hcut
    clear HCH
    go_upto_region 18 with fail
    go_cut [135] (fun s wx => s = .bool false ∧ wx = wc)
    case first =>
      as_aux_lemma =>
      obtain ⟨k0', a1, a2, a3, b1, b2, b3⟩ := HFA.out
      clear a1 a2 a3 b2 b3
      cases ch
      · go_wp2
        go_meet
        exact ⟨rfl, rfl⟩
      · by_cases qu : c.u = 0
        · have yu : (c.u != 0) = false := by simpa using qu
          clear qu
          go_wp2
          go_meet
          exact ⟨rfl, rfl⟩
        · have yu : (c.u != 0) = true := by simpa using qu
          obtain ⟨h1, h2⟩ := HWT.out.clean rfl qu
          have z1 : (bits .and .i64 d.mode 2048 != 0) = false := by rw [h1]; rfl
          by_cases q4 : bits .and .i64 d.mode 1024 = 0
          · have z2 : (bits .and .i64 d.mode 1024 != 0) = false := by rw [q4]; rfl
            clear qu h1 h2 q4
            go_wp2
            go_meet
            exact ⟨rfl, rfl⟩
          · have z2 : (bits .and .i64 d.mode 1024 != 0) = true := by simpa using q4
            have z3 : (bits .and .i64 d.mode 8 != 0) = false := by rw [h2.resolve_left q4]; rfl
            clear qu h1 h2 q4
            go_wp2
            go_meet
            exact ⟨rfl, rfl⟩
    case rest =>
    obtain ⟨rfl, rfl⟩ := hcut
    go_upto_region 20 with fail
    go_cut [179] (fun s wx => s = .bool false ∧ wx = wc)
    case first =>
      as_aux_lemma =>
      obtain ⟨k0', a1, a2, a3, b1, b2, b3⟩ := HFA.out
      have hw := HWT.out
      have z1 : (bits .andNot .i64 d.mode 3072 != bits .andNot .i64 a.mode 3072) = false := by rw [hw.low]; simp
      have z2 : (d.uid != a.uid) = false := by rw [hw.own.1]; simp
      have z3 : (d.gid != a.gid) = false := by rw [hw.own.2]; simp
      by_cases qu : c.u = 0
      · have yu : (c.u == 0) = true := by simpa using qu
        have z4 : (d.mode != a.mode) = false := by rw [hw.root qu]; simp
        clear hw qu
        cases ch
        all_goals (
          go_wp2
          go_meet
          exact ⟨rfl, rfl⟩)
      · have yu : (c.u == 0) = false := by simpa using qu
        cases ch
        · have z4 : (d.mode != a.mode) = false := by rw [hw.still rfl]; simp
          clear hw qu
          go_wp2
          go_meet
          exact ⟨rfl, rfl⟩
        · clear hw qu
          go_wp2
          go_meet
          exact ⟨rfl, rfl⟩
    case rest =>
    obtain ⟨rfl, rfl⟩ := hcut
    clear HFA HWT
    obtain ⟨w10, hw10⟩ : ∃ W, wc = W := ⟨_, rfl⟩
    rw [hw10] at HTb HUb HBb ⊢
    clear hw10
    have HF1 := Lib.hid (fun (j : Int) => ok_few HTb.out.ok j)
    have HF2 := Lib.hid (fun (j : Int) => ok_few HUb.out.ok j)
    have hL24 : T2.length ≤ 24 := HTb.out.hi
    go_wp2
    go_loopg [26] T2.length (fun gh s26 wr => ∃ k : Nat, s26 = .int .i64 ((k : Int) + 1) ∧ k ≤ T2.length ∧ gh = T2.length - k ∧ Below w10.heap.size w10 wr)
    case atStart => exact ⟨0, by rfl, Nat.zero_le _, rfl, Below.refl _ _⟩
    case round =>
      as_aux_lemma =>
      obtain ⟨k, rfl, hk, rfl, hbr⟩ := hrel
      have HBR := Lib.hid hbr
      have HTr := Lib.hid (HTb.out.below hbr)
      have HUr := Lib.hid (HUb.out.below hbr)
      clear hbr
      go_wp2_with fail
      refine (room_any _ T2 wr HTr.out.ptr).mono ?_
      rintro e wq ⟨rfl, rfl⟩
      by_cases hlt : k < T2.length
      · have hlt' : (k : Int) + 1 ≤ (T2.length : Int) := by omega
        have HLT := Lib.hid hlt
        obtain ⟨qx, hqx⟩ : ∃ q, tis T ((k : Int) + 1) = q := ⟨_, rfl⟩
        obtain ⟨qy, hqy⟩ : ∃ q, tis T2 ((k : Int) + 1) = q := ⟨_, rfl⟩
        obtain ⟨x, hx⟩ : ∃ n, tget T ((k : Int) + 1) = n := ⟨_, rfl⟩
        obtain ⟨y, hy⟩ : ∃ n, tget T2 ((k : Int) + 1) = n := ⟨_, rfl⟩
        have HG1 := Lib.hid (get_formsB HUr.out ((k : Int) + 1) x qx hx hqx)
        have HG2 := Lib.hid (fun (W : World) (hb : Below wr.heap.size wr W) => get_formsB (HTr.out.below hb) ((k : Int) + 1) y qy hy hqy)
        have HFX := Lib.hid (show Few x from by rw [← hx]; exact HF2.out _)
        have HFY := Lib.hid (show Few y from by rw [← hy]; exact HF1.out _)
        have HAB := Lib.hid (show (k : Int) + 1 ≠ I → y = x from fun q => by rw [← hx, ← hy]; exact HOT.out _ q)
        clear hlt hx hy hqx hqy
        go_wp2_with fail
        refine HG1.out.mono ?_
        rintro e wa ⟨A3, m3, c3, B3, d3, rfl, hl, hb⟩
        have hbx := al hb (.cells #[.int .i64 x.kind, .int .i64 x.mode, .int .i64 x.uid, .int .i64 x.gid, .slice A3 m3 c3, .slice B3 x.ents.length d3, .string (bA x.target)] 56)
        have hkx := Blk.new wa 56 #[.int .i64 x.kind, .int .i64 x.mode, .int .i64 x.uid, .int .i64 x.gid, .slice A3 m3 c3, .slice B3 x.ents.length d3, .string (bA x.target)]
        have hlx : BytesT (wa.alloc (.cells #[.int .i64 x.kind, .int .i64 x.mode, .int .i64 x.uid, .int .i64 x.gid, .slice A3 m3 c3, .slice B3 x.ents.length d3, .string (bA x.target)] 56)) (.slice A3 m3 c3) x.data ∧ EntsT (wa.alloc (.cells #[.int .i64 x.kind, .int .i64 x.mode, .int .i64 x.uid, .int .i64 x.gid, .slice A3 m3 c3, .slice B3 x.ents.length d3, .string (bA x.target)] 56)) (.slice B3 x.ents.length d3) x.ents := ⟨hl.1.below (ba _ _), hl.2.below (ba _ _)⟩
        have hlo := hb.size
        obtain ⟨Wa, hWa⟩ : ∃ W, wa.alloc (.cells #[.int .i64 x.kind, .int .i64 x.mode, .int .i64 x.uid, .int .i64 x.gid, .slice A3 m3 c3, .slice B3 x.ents.length d3, .string (bA x.target)] 56) = W := ⟨_, rfl⟩
        obtain ⟨zc, hzc⟩ : ∃ z, wa.heap.size = z := ⟨_, rfl⟩
        rw [hWa] at hbx hkx hlx
        rw [hzc] at hkx hlo
        have HBa := Lib.hid hbx
        have HXa := Lib.hid hkx
        have HLa := Lib.hid hlx
        have HG3 := Lib.hid (HG2.out Wa hbx)
        clear hb hbx hkx hl hlx hlo HG1 HG2
        go_wp2_with fail
        clear hWa hzc
        refine HG3.out.mono ?_
        rintro e wb ⟨A4, m4, c4, B4, d4, rfl, hl, hb⟩
        have hbx := al hb (.cells #[.int .i64 y.kind, .int .i64 y.mode, .int .i64 y.uid, .int .i64 y.gid, .slice A4 m4 c4, .slice B4 y.ents.length d4, .string (bA y.target)] 56)
        have hkx := Blk.new wb 56 #[.int .i64 y.kind, .int .i64 y.mode, .int .i64 y.uid, .int .i64 y.gid, .slice A4 m4 c4, .slice B4 y.ents.length d4, .string (bA y.target)]
        have hlx : BytesT (wb.alloc (.cells #[.int .i64 y.kind, .int .i64 y.mode, .int .i64 y.uid, .int .i64 y.gid, .slice A4 m4 c4, .slice B4 y.ents.length d4, .string (bA y.target)] 56)) (.slice A4 m4 c4) y.data ∧ EntsT (wb.alloc (.cells #[.int .i64 y.kind, .int .i64 y.mode, .int .i64 y.uid, .int .i64 y.gid, .slice A4 m4 c4, .slice B4 y.ents.length d4, .string (bA y.target)] 56)) (.slice B4 y.ents.length d4) y.ents := ⟨hl.1.below (ba _ _), hl.2.below (ba _ _)⟩
        have hlo := hb.size
        obtain ⟨Wd, hWd⟩ : ∃ W, wb.alloc (.cells #[.int .i64 y.kind, .int .i64 y.mode, .int .i64 y.uid, .int .i64 y.gid, .slice A4 m4 c4, .slice B4 y.ents.length d4, .string (bA y.target)] 56) = W := ⟨_, rfl⟩
        obtain ⟨zd, hzd⟩ : ∃ z, wb.heap.size = z := ⟨_, rfl⟩
        rw [hWd] at hbx hkx hlx
        rw [hzd] at hkx hlo
        have hxa := HXa.out.below hbx
        have HST := Lib.hid (bt hbx HBa.out)
        have HSM := Lib.hid (show (k : Int) + 1 ≠ I → Calls Tryz.prog 23 #[.agg #[.int .i64 x.kind, .int .i64 x.mode, .int .i64 x.uid, .int .i64 x.gid, .slice A3 m3 c3, .slice B3 x.ents.length d3, .string (bA x.target)], .agg #[.int .i64 y.kind, .int .i64 y.mode, .int .i64 y.uid, .int .i64 y.gid, .slice A4 m4 c4, .slice B4 y.ents.length d4, .string (bA y.target)]] Wd fun e w' => e = .returned (.bool true) ∧ Below Wd.heap.size Wd w' from fun q => by
          have h := same_any x y (.slice A3 m3 c3) (.slice B3 x.ents.length d3) (.slice A4 m4 c4) (.slice B4 y.ents.length d4) Wd (HLa.out.1.below hbx).1 (HLa.out.2.below hbx).1 hlx.1.1 hlx.2.1 HFX.out HFY.out
          rw [toB_true (show x = y from (HAB.out q).symm)] at h
          exact h)
        obtain ⟨a0, a1, a2, a3, a4, a5, a6⟩ := hxa.c7
        obtain ⟨b0, b1, b2, b3, b4, b5, b6⟩ := hkx.c7
        have HCC := Lib.hid (⟨⟨a0, a1, a2, a3, a4, a5, a6⟩, ⟨b0, b1, b2, b3, b4, b5, b6⟩⟩ : (_ ∧ _ ∧ _ ∧ _ ∧ _ ∧ _ ∧ _) ∧ (_ ∧ _ ∧ _ ∧ _ ∧ _ ∧ _ ∧ _))
        clear hb hbx hkx hl hlx hlo hxa HG3 HBa HXa HLa a0 a1 a2 a3 a4 a5 a6 b0 b1 b2 b3 b4 b5 b6
        go_upto_region 27 with fail
        clear hWd hzd
        by_cases qk : (k : Int) + 1 = I
        · have yk : ((k : Int) + 1 != I) = false := by simpa using qk
          clear qk
          go_wp2
          have HB10 := Lib.hid (bt HST.out HBR.out)
          have hlt := HLT.out
          go_roundg (T2.length - (k + 1))
          case measure => omega
          case rel => exact ⟨k + 1, by go_num, by omega, rfl, HB10.out⟩
        · have yk : ((k : Int) + 1 != I) = true := by simpa using qk
          have HS2 := Lib.hid (HSM.out qk)
          obtain ⟨⟨a0, a1, a2, a3, a4, a5, a6⟩, ⟨b0, b1, b2, b3, b4, b5, b6⟩⟩ := HCC.out
          clear qk
          go_wp2_with fail
          refine HS2.out.mono ?_
          rintro e we ⟨rfl, hb⟩
          have HB10 := Lib.hid (bt hb (bt HST.out HBR.out))
          have hlt := HLT.out
          clear hb
          go_wp2
          go_roundg (T2.length - (k + 1))
          case measure => omega
          case rel => exact ⟨k + 1, by go_num, by omega, rfl, HB10.out⟩
      · have hle : ¬ (k : Int) + 1 ≤ (T2.length : Int) := by omega
        have HBz := Lib.hid (bt HBR.out HBb.out)
        go_wp2
        go_ret
        exact ⟨rfl, HBz.out⟩
  case false =>
    as_aux_lemma =>
    have HM0 : Hid (foE T c 0 P 2 0 = 0 → Cln T (foT T c 0 P 2 0) (fwT (foT T c 0 P 2 0) c (foI T c 0 P 2 0) 0 b) c.u (foI T c 0 P 2 0) false (false || (decide (fwE (foT T c 0 P 2 0) (foI T c 0 P 2 0) 0 b = 0) && decide (b ≠ [])))) := by as_aux_lemma => exact Lib.hid (fun q => clean_all HTR.out.ok c P false b q)
    have HER := Lib.hid (show foE T c 0 P 2 0 ≠ 0 → foT T c 0 P 2 0 = T from fun q => (fo_err q).1)
    have HOP := Lib.hid (fun (W : World) (h : TabR W g T (fun _ => True)) (hb : Below w.heap.size w W) => show Calls Tryz.prog 13 #[.pointer (some ⟨g, 0, none⟩), .agg #[.int .i64 c.u, .int .i64 c.g, .slice A0 n0 k0], .int .i64 0, .string (bA P), .int .i64 2, .int .i64 0] W fun e w' => e = .returned (.tuple #[.int .i64 (foI T c 0 P 2 0), .int .i64 (foE T c 0 P 2 0)]) ∧ TabR w' g (foT T c 0 P 2 0) (fun _ => True) ∧ W.grownBy w' (some g) from HPC.op g T (fun _ => True) c A0 n0 k0 0 P 2 0 W h HTR.out.ok (HCR.out.below hb) (fun _ _ => trivial))
    obtain ⟨I, hI⟩ : ∃ I, foI T c 0 P 2 0 = I := ⟨_, rfl⟩
    obtain ⟨E, hE⟩ : ∃ E, foE T c 0 P 2 0 = E := ⟨_, rfl⟩
    obtain ⟨T1, hT1⟩ : ∃ E, foT T c 0 P 2 0 = E := ⟨_, rfl⟩
    rw [hI, hE, hT1] at HM0 HOP
    rw [hE, hT1] at HER
    clear hI hE hT1
    obtain ⟨E2, hE2⟩ : ∃ E, fwE T1 I 0 b = E := ⟨_, rfl⟩
    obtain ⟨T2, hT2⟩ : ∃ E, fwT T1 c I 0 b = E := ⟨_, rfl⟩
    have HWR := Lib.hid (fun (W : World) (h : TabR W g T1 (fun _ => True)) (hb : Below w.heap.size w W) => show Calls Tryz.prog 18 #[.pointer (some ⟨g, 0, none⟩), .agg #[.int .i64 c.u, .int .i64 c.g, .slice A0 n0 k0], .int .i64 I, .int .i64 0, .slice A9 b.length k9] W fun e w' => e = .returned (.int .i64 E2) ∧ TabR w' g T2 (fun _ => True) ∧ W.grownBy w' (some g) from by have h1 := HPC.wr g T1 (fun _ => True) c A0 n0 k0 I 0 b (.slice A9 b.length k9) W h h.ok (HCR.out.below hb) (HY0.out.below hb) hb1000.out (fun _ _ => trivial); rw [hE2, hT2] at h1; exact h1)
    rw [hE2, hT2] at HM0
    clear hE2 hT2
    go_wp2_with fail
    refine (HOP.out w4 HT4.out HB4.out).mono ?_
    rintro e w5 ⟨rfl, ht, hgr⟩
    have HT5 := Lib.hid ht
    have HU5 := Lib.hid (blt_kept HU4.out HT4.out hgr HUG.out)
    have hk5 := HK4.out.kept hgr (some_ne HKG.out)
    have HK5 := Lib.hid hk5
    have HB5 := Lib.hid (grown_bl HB4.out hgr HGE.out)
    have HSM := Lib.hid (fun (q : T1 = T) => show Calls Tryz.prog 20 #[.pointer (some ⟨g, 0, none⟩), .pointer (some ⟨u, 0, none⟩)] w5 fun e w' => e = .returned (.bool true) ∧ Below w5.heap.size w5 w' from by have h := tsame_any (.pointer (some ⟨g, 0, none⟩)) (.pointer (some ⟨u, 0, none⟩)) T1 T w5 HT5.out.ptr HU5.out.ptr; rw [q, sam_refl] at h; exact h)
    clear ht hgr k0' k1 k2 HU4 HT4 HK4 HB4 HOP
    obtain ⟨k0', k1, k2⟩ := hk5.c3
    clear hk5
    by_cases qE : E = 0
    case neg =>
      have yE : (E != 0) = true := by simpa using qE
      have HS := Lib.hid (HSM.out (HER.out qE))
      clear qE
      go_wp2_with fail
      refine HS.out.mono ?_
      rintro e w6 ⟨rfl, hb⟩
      have HB6 := Lib.hid (bt hb HB5.out)
      clear hb
      go_wp2
      go_ret
      exact ⟨ret_bool (by first | rfl | simp), HB6.out⟩
    have yE : (E != 0) = false := by simpa using qE
    have HM := Lib.hid (HM0.out qE)
    clear qE HM0 HER
    have HS := Lib.hid (HSM.out (HM.out.same rfl))
    clear HSM
    go_wp2_with fail
    refine HS.out.mono ?_
    rintro e w6 ⟨rfl, hb⟩
    have HB6 := Lib.hid (bt hb HB5.out)
    have HT6 := Lib.hid (HT5.out.below hb)
    have HU6 := Lib.hid (HU5.out.below hb)
    have hk6 := HK5.out.below hb
    have HK6 := Lib.hid hk6
    clear hb k0' k1 k2 HS HT5 HU5 HK5 HB5
    obtain ⟨k0', k1, k2⟩ := hk6.c3
    clear hk6
    go_wp2_with fail
    refine (HWR.out w6 HT6.out HB6.out).mono ?_
    rintro e w7 ⟨rfl, ht, hgr⟩
    have HT7 := Lib.hid ht
    have hu7 := blt_kept HU6.out HT6.out hgr HUG.out
    have HU7 := Lib.hid hu7
    have HK7 := Lib.hid (HK6.out.kept hgr (some_ne HKG.out))
    have HB7 := Lib.hid (grown_bl HB6.out hgr HGE.out)
    have HSZ := Lib.hid (show w.heap.size < w7.heap.size from HK7.out.lt)
    clear ht hgr k0' k1 k2 HT6 HU6 HK6 HB6 HWR
    obtain ⟨ch, hch⟩ : ∃ x, (false || (decide (E2 = 0) && decide (b ≠ []))) = x := ⟨_, rfl⟩
    have HCH := Lib.hid hch
    have HWT := Lib.hid HM.out.file
    have HOT := Lib.hid HM.out.other
    have HLN := Lib.hid HM.out.len
    rw [hch] at HWT
    clear hch HM
    obtain ⟨qa, hqa⟩ : ∃ q, tis T I = q := ⟨_, rfl⟩
    obtain ⟨qb, hqb⟩ : ∃ q, tis T2 I = q := ⟨_, rfl⟩
    obtain ⟨a, ha⟩ : ∃ n, tget T I = n := ⟨_, rfl⟩
    obtain ⟨d, hd⟩ : ∃ n, tget T2 I = n := ⟨_, rfl⟩
    have HG1 := Lib.hid (get_formsB hu7 I a qa ha hqa)
    have HG2 := Lib.hid (fun (W : World) (h : TabR W g T2 (fun _ => True)) => get_formsB h I d qb hd hqb)
    rw [ha, hd] at HWT
    clear ha hd hqa hqb hu7
    go_wp2_with fail
    refine HG1.out.mono ?_
    rintro e wa ⟨A1, m1, c1, B1, d1, rfl, hl, hb⟩
    have hbx := al hb (.cells #[.int .i64 a.kind, .int .i64 a.mode, .int .i64 a.uid, .int .i64 a.gid, .slice A1 m1 c1, .slice B1 a.ents.length d1, .string (bA a.target)] 56)
    have hkx := Blk.new wa 56 #[.int .i64 a.kind, .int .i64 a.mode, .int .i64 a.uid, .int .i64 a.gid, .slice A1 m1 c1, .slice B1 a.ents.length d1, .string (bA a.target)]
    have hlx : BytesT (wa.alloc (.cells #[.int .i64 a.kind, .int .i64 a.mode, .int .i64 a.uid, .int .i64 a.gid, .slice A1 m1 c1, .slice B1 a.ents.length d1, .string (bA a.target)] 56)) (.slice A1 m1 c1) a.data ∧ EntsT (wa.alloc (.cells #[.int .i64 a.kind, .int .i64 a.mode, .int .i64 a.uid, .int .i64 a.gid, .slice A1 m1 c1, .slice B1 a.ents.length d1, .string (bA a.target)] 56)) (.slice B1 a.ents.length d1) a.ents := ⟨hl.1.below (ba _ _), hl.2.below (ba _ _)⟩
    have hlo := hb.size
    obtain ⟨Wa, hWa⟩ : ∃ W, wa.alloc (.cells #[.int .i64 a.kind, .int .i64 a.mode, .int .i64 a.uid, .int .i64 a.gid, .slice A1 m1 c1, .slice B1 a.ents.length d1, .string (bA a.target)] 56) = W := ⟨_, rfl⟩
    obtain ⟨za, hza⟩ : ∃ z, wa.heap.size = z := ⟨_, rfl⟩
    rw [hWa] at hbx hkx hlx
    rw [hza] at hkx hlo
    have HTa := Lib.hid (HT7.out.below hbx)
    have HUa := Lib.hid (HU7.out.below hbx)
    have HKa := Lib.hid (HK7.out.below hbx)
    have HBa := Lib.hid (bt hbx HB7.out)
    have HXa := Lib.hid hkx
    have HG3 := Lib.hid (HG2.out Wa (HT7.out.below hbx))
    clear hb hbx hkx hl hlx hlo HG1 HG2 HT7 HU7 HK7 HB7
    go_wp2_with fail
    clear hWa hza
    refine HG3.out.mono ?_
    rintro e wb ⟨A2, m2, c2, B2, d2, rfl, hl, hb⟩
    have hbx := al hb (.cells #[.int .i64 d.kind, .int .i64 d.mode, .int .i64 d.uid, .int .i64 d.gid, .slice A2 m2 c2, .slice B2 d.ents.length d2, .string (bA d.target)] 56)
    have hkx := Blk.new wb 56 #[.int .i64 d.kind, .int .i64 d.mode, .int .i64 d.uid, .int .i64 d.gid, .slice A2 m2 c2, .slice B2 d.ents.length d2, .string (bA d.target)]
    have hlx : BytesT (wb.alloc (.cells #[.int .i64 d.kind, .int .i64 d.mode, .int .i64 d.uid, .int .i64 d.gid, .slice A2 m2 c2, .slice B2 d.ents.length d2, .string (bA d.target)] 56)) (.slice A2 m2 c2) d.data ∧ EntsT (wb.alloc (.cells #[.int .i64 d.kind, .int .i64 d.mode, .int .i64 d.uid, .int .i64 d.gid, .slice A2 m2 c2, .slice B2 d.ents.length d2, .string (bA d.target)] 56)) (.slice B2 d.ents.length d2) d.ents := ⟨hl.1.below (ba _ _), hl.2.below (ba _ _)⟩
    have hlo := hb.size
    obtain ⟨Wb, hWb⟩ : ∃ W, wb.alloc (.cells #[.int .i64 d.kind, .int .i64 d.mode, .int .i64 d.uid, .int .i64 d.gid, .slice A2 m2 c2, .slice B2 d.ents.length d2, .string (bA d.target)] 56) = W := ⟨_, rfl⟩
    obtain ⟨zb, hzb⟩ : ∃ z, wb.heap.size = z := ⟨_, rfl⟩
    rw [hWb] at hbx hkx hlx
    rw [hzb] at hkx hlo
    have HTb := Lib.hid (HTa.out.below hbx)
    have HUb := Lib.hid (HUa.out.below hbx)
    have hk9 := HKa.out.below hbx
    have hxa := HXa.out.below hbx
    have HBb := Lib.hid (bt hbx HBa.out)
    obtain ⟨k0', k1, k2⟩ := hk9.c3
    obtain ⟨a0, a1, a2, a3, -, -, -⟩ := hxa.c7
    obtain ⟨b0, b1, b2, b3, -, -, -⟩ := hkx.c7
    have HFA := Lib.hid (⟨k0', a1, a2, a3, b1, b2, b3⟩ : _ ∧ _ ∧ _ ∧ _ ∧ _ ∧ _ ∧ _)
    clear hb hbx hkx hl hlx hlo hk9 hxa HG3 HTa HUa HKa HBa HXa k0' k1 k2 a0 a1 a2 a3 b0 b1 b2 b3
    go_upto_region 17 with fail
    clear hWb hzb
    go_cut [25] (fun s25 wx => s25 = .bool ch ∧ wx = Wb)
    case first =>
      as_aux_lemma =>
      by_cases q1 : E2 = 0
      · subst q1
        by_cases q2 : b = []
        · subst q2
          have hch := HCH.out
          simp at hch
          subst hch
          go_wp2
          go_meet
          exact ⟨rfl, rfl⟩
        · have y2 : (b.length : Int) > 0 := by have := List.length_pos_iff.mpr q2; omega
          have hch : true = ch := by rw [← HCH.out]; simp [q2]
          have HQ2 := Lib.hid (show 0 < b.length from List.length_pos_iff.mpr q2)
          clear q2
          subst hch
          go_wp2
          go_meet
          exact ⟨by first | rfl | rw [decide_eq_true HQ2.out], rfl⟩
      · have y1 : (E2 == 0) = false := by simpa using q1
        have hch : false = ch := by rw [← HCH.out]; simp [q1]
        clear q1
        subst hch
        go_wp2
        go_meet
        exact ⟨rfl, rfl⟩
    case rest =>
    obtain ⟨rfl, rfl⟩ := hcut
    clear HCH
    go_upto_region 18 with fail
    go_cut [135] (fun s wx => s = .bool false ∧ wx = wc)
    case first =>
      as_aux_lemma =>
      obtain ⟨k0', a1, a2, a3, b1, b2, b3⟩ := HFA.out
      clear a1 a2 a3 b2 b3
      cases ch
      · go_wp2
        go_meet
        exact ⟨rfl, rfl⟩
      · by_cases qu : c.u = 0
        · have yu : (c.u != 0) = false := by simpa using qu
          clear qu
          go_wp2
          go_meet
          exact ⟨rfl, rfl⟩
        · have yu : (c.u != 0) = true := by simpa using qu
          obtain ⟨h1, h2⟩ := HWT.out.clean rfl qu
          have z1 : (bits .and .i64 d.mode 2048 != 0) = false := by rw [h1]; rfl
          by_cases q4 : bits .and .i64 d.mode 1024 = 0
          · have z2 : (bits .and .i64 d.mode 1024 != 0) = false := by rw [q4]; rfl
            clear qu h1 h2 q4
            go_wp2
            go_meet
            exact ⟨rfl, rfl⟩
          · have z2 : (bits .and .i64 d.mode 1024 != 0) = true := by simpa using q4
            have z3 : (bits .and .i64 d.mode 8 != 0) = false := by rw [h2.resolve_left q4]; rfl
            clear qu h1 h2 q4
            go_wp2
            go_meet
            exact ⟨rfl, rfl⟩
    case rest =>
    obtain ⟨rfl, rfl⟩ := hcut
    go_upto_region 20 with fail
    go_cut [179] (fun s wx => s = .bool false ∧ wx = wc)
    case first =>
      as_aux_lemma =>
      obtain ⟨k0', a1, a2, a3, b1, b2, b3⟩ := HFA.out
      have hw := HWT.out
      have z1 : (bits .andNot .i64 d.mode 3072 != bits .andNot .i64 a.mode 3072) = false := by rw [hw.low]; simp
      have z2 : (d.uid != a.uid) = false := by rw [hw.own.1]; simp
      have z3 : (d.gid != a.gid) = false := by rw [hw.own.2]; simp
      by_cases qu : c.u = 0
      · have yu : (c.u == 0) = true := by simpa using qu
        have z4 : (d.mode != a.mode) = false := by rw [hw.root qu]; simp
        clear hw qu
        cases ch
        all_goals (
          go_wp2
          go_meet
          exact ⟨rfl, rfl⟩)
      · have yu : (c.u == 0) = false := by simpa using qu
        cases ch
        · have z4 : (d.mode != a.mode) = false := by rw [hw.still rfl]; simp
          clear hw qu
          go_wp2
          go_meet
          exact ⟨rfl, rfl⟩
        · clear hw qu
          go_wp2
          go_meet
          exact ⟨rfl, rfl⟩
    case rest =>
    obtain ⟨rfl, rfl⟩ := hcut
    clear HFA HWT
    obtain ⟨w10, hw10⟩ : ∃ W, wc = W := ⟨_, rfl⟩
    rw [hw10] at HTb HUb HBb ⊢
    clear hw10
    have HF1 := Lib.hid (fun (j : Int) => ok_few HTb.out.ok j)
    have HF2 := Lib.hid (fun (j : Int) => ok_few HUb.out.ok j)
    have hL24 : T2.length ≤ 24 := HTb.out.hi
    go_wp2
    go_loopg [26] T2.length (fun gh s26 wr => ∃ k : Nat, s26 = .int .i64 ((k : Int) + 1) ∧ k ≤ T2.length ∧ gh = T2.length - k ∧ Below w10.heap.size w10 wr)
    case atStart => exact ⟨0, by rfl, Nat.zero_le _, rfl, Below.refl _ _⟩
    case round =>
      as_aux_lemma =>
      obtain ⟨k, rfl, hk, rfl, hbr⟩ := hrel
      have HBR := Lib.hid hbr
      have HTr := Lib.hid (HTb.out.below hbr)
      have HUr := Lib.hid (HUb.out.below hbr)
      clear hbr
      go_wp2_with fail
      refine (room_any _ T2 wr HTr.out.ptr).mono ?_
      rintro e wq ⟨rfl, rfl⟩
      by_cases hlt : k < T2.length
      · have hlt' : (k : Int) + 1 ≤ (T2.length : Int) := by omega
        have HLT := Lib.hid hlt
        obtain ⟨qx, hqx⟩ : ∃ q, tis T ((k : Int) + 1) = q := ⟨_, rfl⟩
        obtain ⟨qy, hqy⟩ : ∃ q, tis T2 ((k : Int) + 1) = q := ⟨_, rfl⟩
        obtain ⟨x, hx⟩ : ∃ n, tget T ((k : Int) + 1) = n := ⟨_, rfl⟩
        obtain ⟨y, hy⟩ : ∃ n, tget T2 ((k : Int) + 1) = n := ⟨_, rfl⟩
        have HG1 := Lib.hid (get_formsB HUr.out ((k : Int) + 1) x qx hx hqx)
        have HG2 := Lib.hid (fun (W : World) (hb : Below wr.heap.size wr W) => get_formsB (HTr.out.below hb) ((k : Int) + 1) y qy hy hqy)
        have HFX := Lib.hid (show Few x from by rw [← hx]; exact HF2.out _)
        have HFY := Lib.hid (show Few y from by rw [← hy]; exact HF1.out _)
        have HAB := Lib.hid (show (k : Int) + 1 ≠ I → y = x from fun q => by rw [← hx, ← hy]; exact HOT.out _ q)
        clear hlt hx hy hqx hqy
        go_wp2_with fail
        refine HG1.out.mono ?_
        rintro e wa ⟨A3, m3, c3, B3, d3, rfl, hl, hb⟩
        have hbx := al hb (.cells #[.int .i64 x.kind, .int .i64 x.mode, .int .i64 x.uid, .int .i64 x.gid, .slice A3 m3 c3, .slice B3 x.ents.length d3, .string (bA x.target)] 56)
        have hkx := Blk.new wa 56 #[.int .i64 x.kind, .int .i64 x.mode, .int .i64 x.uid, .int .i64 x.gid, .slice A3 m3 c3, .slice B3 x.ents.length d3, .string (bA x.target)]
        have hlx : BytesT (wa.alloc (.cells #[.int .i64 x.kind, .int .i64 x.mode, .int .i64 x.uid, .int .i64 x.gid, .slice A3 m3 c3, .slice B3 x.ents.length d3, .string (bA x.target)] 56)) (.slice A3 m3 c3) x.data ∧ EntsT (wa.alloc (.cells #[.int .i64 x.kind, .int .i64 x.mode, .int .i64 x.uid, .int .i64 x.gid, .slice A3 m3 c3, .slice B3 x.ents.length d3, .string (bA x.target)] 56)) (.slice B3 x.ents.length d3) x.ents := ⟨hl.1.below (ba _ _), hl.2.below (ba _ _)⟩
        have hlo := hb.size
        obtain ⟨Wa, hWa⟩ : ∃ W, wa.alloc (.cells #[.int .i64 x.kind, .int .i64 x.mode, .int .i64 x.uid, .int .i64 x.gid, .slice A3 m3 c3, .slice B3 x.ents.length d3, .string (bA x.target)] 56) = W := ⟨_, rfl⟩
        obtain ⟨zc, hzc⟩ : ∃ z, wa.heap.size = z := ⟨_, rfl⟩
        rw [hWa] at hbx hkx hlx
        rw [hzc] at hkx hlo
        have HBa := Lib.hid hbx
        have HXa := Lib.hid hkx
        have HLa := Lib.hid hlx
        have HG3 := Lib.hid (HG2.out Wa hbx)
        clear hb hbx hkx hl hlx hlo HG1 HG2
        go_wp2_with fail
        clear hWa hzc
        refine HG3.out.mono ?_
        rintro e wb ⟨A4, m4, c4, B4, d4, rfl, hl, hb⟩
        have hbx := al hb (.cells #[.int .i64 y.kind, .int .i64 y.mode, .int .i64 y.uid, .int .i64 y.gid, .slice A4 m4 c4, .slice B4 y.ents.length d4, .string (bA y.target)] 56)
        have hkx := Blk.new wb 56 #[.int .i64 y.kind, .int .i64 y.mode, .int .i64 y.uid, .int .i64 y.gid, .slice A4 m4 c4, .slice B4 y.ents.length d4, .string (bA y.target)]
        have hlx : BytesT (wb.alloc (.cells #[.int .i64 y.kind, .int .i64 y.mode, .int .i64 y.uid, .int .i64 y.gid, .slice A4 m4 c4, .slice B4 y.ents.length d4, .string (bA y.target)] 56)) (.slice A4 m4 c4) y.data ∧ EntsT (wb.alloc (.cells #[.int .i64 y.kind, .int .i64 y.mode, .int .i64 y.uid, .int .i64 y.gid, .slice A4 m4 c4, .slice B4 y.ents.length d4, .string (bA y.target)] 56)) (.slice B4 y.ents.length d4) y.ents := ⟨hl.1.below (ba _ _), hl.2.below (ba _ _)⟩
        have hlo := hb.size
        obtain ⟨Wd, hWd⟩ : ∃ W, wb.alloc (.cells #[.int .i64 y.kind, .int .i64 y.mode, .int .i64 y.uid, .int .i64 y.gid, .slice A4 m4 c4, .slice B4 y.ents.length d4, .string (bA y.target)] 56) = W := ⟨_, rfl⟩
        obtain ⟨zd, hzd⟩ : ∃ z, wb.heap.size = z := ⟨_, rfl⟩
        rw [hWd] at hbx hkx hlx
        rw [hzd] at hkx hlo
        have hxa := HXa.out.below hbx
        have HST := Lib.hid (bt hbx HBa.out)
        have HSM := Lib.hid (show (k : Int) + 1 ≠ I → Calls Tryz.prog 23 #[.agg #[.int .i64 x.kind, .int .i64 x.mode, .int .i64 x.uid, .int .i64 x.gid, .slice A3 m3 c3, .slice B3 x.ents.length d3, .string (bA x.target)], .agg #[.int .i64 y.kind, .int .i64 y.mode, .int .i64 y.uid, .int .i64 y.gid, .slice A4 m4 c4, .slice B4 y.ents.length d4, .string (bA y.target)]] Wd fun e w' => e = .returned (.bool true) ∧ Below Wd.heap.size Wd w' from fun q => by
          have h := same_any x y (.slice A3 m3 c3) (.slice B3 x.ents.length d3) (.slice A4 m4 c4) (.slice B4 y.ents.length d4) Wd (HLa.out.1.below hbx).1 (HLa.out.2.below hbx).1 hlx.1.1 hlx.2.1 HFX.out HFY.out
          rw [toB_true (show x = y from (HAB.out q).symm)] at h
          exact h)
        obtain ⟨a0, a1, a2, a3, a4, a5, a6⟩ := hxa.c7
        obtain ⟨b0, b1, b2, b3, b4, b5, b6⟩ := hkx.c7
        have HCC := Lib.hid (⟨⟨a0, a1, a2, a3, a4, a5, a6⟩, ⟨b0, b1, b2, b3, b4, b5, b6⟩⟩ : (_ ∧ _ ∧ _ ∧ _ ∧ _ ∧ _ ∧ _) ∧ (_ ∧ _ ∧ _ ∧ _ ∧ _ ∧ _ ∧ _))
        clear hb hbx hkx hl hlx hlo hxa HG3 HBa HXa HLa a0 a1 a2 a3 a4 a5 a6 b0 b1 b2 b3 b4 b5 b6
        go_upto_region 27 with fail
        clear hWd hzd
        by_cases qk : (k : Int) + 1 = I
        · have yk : ((k : Int) + 1 != I) = false := by simpa using qk
          clear qk
          go_wp2
          have HB10 := Lib.hid (bt HST.out HBR.out)
          have hlt := HLT.out
          go_roundg (T2.length - (k + 1))
          case measure => omega
          case rel => exact ⟨k + 1, by go_num, by omega, rfl, HB10.out⟩
        · have yk : ((k : Int) + 1 != I) = true := by simpa using qk
          have HS2 := Lib.hid (HSM.out qk)
          obtain ⟨⟨a0, a1, a2, a3, a4, a5, a6⟩, ⟨b0, b1, b2, b3, b4, b5, b6⟩⟩ := HCC.out
          clear qk
          go_wp2_with fail
          refine HS2.out.mono ?_
          rintro e we ⟨rfl, hb⟩
          have HB10 := Lib.hid (bt hb (bt HST.out HBR.out))
          have hlt := HLT.out
          clear hb
          go_wp2
          go_roundg (T2.length - (k + 1))
          case measure => omega
          case rel => exact ⟨k + 1, by go_num, by omega, rfl, HB10.out⟩
      · have hle : ¬ (k : Int) + 1 ≤ (T2.length : Int) := by omega
        have HBz := Lib.hid (bt HBR.out HBb.out)
        go_wp2
        go_ret
        exact ⟨rfl, HBz.out⟩
theorem lclean_any (x0 : Int) (v1 : Value) (l : List Rw) (c : Wh) (A0 : Option Addr) (n0 k0 : Nat) (HPC : FilesC) (s : ByteArray) (tr : Bool) (vb : Value) (b : List UInt8) (w : World) (h1 : RawsR w v1 l) (hl1 : l.length ≤ maxLen) (h2 : IntsR w (.slice A0 n0 k0) c.gs) (h3 : BytesR w vb b) :
    Calls Tryz.prog 5 #[.int .i64 x0, v1, .agg #[.int .i64 c.u, .int .i64 c.g, .slice A0 n0 k0], .string s, .bool tr, vb] w fun e w' => e = .returned (.bool true) ∧ Below w.heap.size w w' := by
  obtain ⟨A, k, rfl⟩ := bytes_form h3 rfl
  exact lclean_slice x0 v1 l c A0 n0 k0 HPC s tr b A k w h1 hl1 h2 h3
end Go.Proofs.YtfopnfgfoicidaaGreat
