/-
  The walk of PlantOwn: it answers true of whatever is told, of any who ask, of any umask, path, mode and kind. The condition: what is told is no longer than a machine can hold.
-/
import Derived.Test.YtgcllgfkifpkeaaGreatAwQ
import Derived.Test.YtgcllgfkifpkeaaGreatPlS
import Derived.Test.YtgcllgfkifpkeaaGreatLP
import Derived.Deep.RegionWith
import Derived.Deep.DeepCutAuto
import Derived.Deep.CutBlock
namespace Go.Proofs.YtgcllgfkifpkeaaGreat
open Go Go.RowKit
set_option maxRecDepth 100000

attribute [local go_sem] cell_off4 cell_blk4
theorem blt_kept {W W' : World} {x g : Nat} {T U : List Nd} {P Q : Nat → Prop} (h : TabR W x T P) (hg : TabR W g U Q) (hgr : W.grownBy W' (some g)) (hne : x ≠ g) : TabR W' x T P := by
  obtain ⟨cs, hb, -⟩ := hg.blk
  exact h.kind hgr hne hb (by decide) (by decide)
theorem sam_refl (t : List Nd) : toB (sam24 t t) = true := toB_true (fun _ _ => rfl)
/-- What was made, behind some steps. -/
structure Mad (w W : World) (x g u : Nat) (c : Wh) (A0 : Option Addr) (n0 k0 : Nat) (T1 T : List Nd) : Prop where
  tab : TabR W g T1 (fun _ => True)
  was : TabR W u T (fun _ => True)
  who : Blk W x 25 #[.int .i64 c.u, .int .i64 c.g, .slice A0 n0 k0]
  below : Below w.heap.size w W
/-- A node that is read, cell by cell, and where its lists lie; written with another's fields. -/
theorem get_as {g : Nat} {t : List Nd} {P : Nat → Prop} {W : World} (h : TabR W g t P) (i : Int) (a : Nd) (l : List En) (ha : { tget t i with ents := l } = a) : Calls Tryz.prog 22 #[.pointer (some ⟨g, 0, none⟩), .int .i64 i] W fun e w' => ∃ A1 n1 c1 A2 c2 q, e = .returned (.tuple #[.agg #[.int .i64 a.kind, .int .i64 a.mode, .int .i64 a.uid, .int .i64 a.gid, .slice A1 n1 c1, .slice A2 (tget t i).ents.length c2, .string (bA a.target)], .bool q]) ∧ (BytesT w' (.slice A1 n1 c1) a.data ∧ EntsT w' (.slice A2 (tget t i).ents.length c2) (tget t i).ents) ∧ Below W.heap.size W w' := by
  subst ha
  refine (get_any (.pointer (some ⟨g, 0, none⟩)) t i W h.ptr).mono ?_
  rintro e w' ⟨vd, ve, rfl, hd, he, -, -, hb⟩
  obtain ⟨A1, c1, rfl⟩ := bytesT_form hd
  obtain ⟨A2, c2, rfl⟩ := entsT_form he
  exact ⟨_, _, _, _, _, _, rfl, ⟨hd, he⟩, hb⟩
/-- Two nodes in boxes of their own. -/
structure Tw (w wx : World) (za zb : Nat) (a b : Nd) (va1 va2 vb1 vb2 : Value) : Prop where
  ba : Blk wx za 58 (ndC a va1 va2)
  bb : Blk wx zb 58 (ndC b vb1 vb2)
  la : BytesT wx va1 a.data ∧ EntsT wx va2 a.ents
  lb : BytesT wx vb1 b.data ∧ EntsT wx vb2 b.ents
  ne : za ≠ zb
  lo : w.heap.size ≤ za ∧ w.heap.size ≤ zb
  below : Below w.heap.size w wx
theorem two_kept {W W' : World} {z : Nat} {cs : Array Value} {v1 v2 : Value} {n : Nd} (h : BytesT W v1 n.data ∧ EntsT W v2 n.ents) (hk : Blk W z 58 cs) (hg : W.grownBy W' (some z)) : BytesT W' v1 n.data ∧ EntsT W' v2 n.ents :=
  ⟨h.1.other hg (fun ad n c hv => by obtain ⟨cs, hc⟩ := h.1.2 ad n c hv; exact blk_ne hc hk (by decide)), h.2.other hg (fun ad n c hv => by obtain ⟨cs, hc⟩ := h.2.2 ad n c hv; exact blk_ne hc hk (by decide))⟩
/-- The first one's entries are put in the second one's place. -/
theorem Tw.ents {w wx : World} {za zb : Nat} {a b : Nd} {va1 va2 vb1 vb2 : Value} (h : Tw w wx za zb a b va1 va2 vb1 vb2) (hab : { b with ents := a.ents } = a) : Tw w (wx.setCell ⟨zb, 5, none⟩ va2) za zb a a va1 va2 vb1 va2 := by
  have hg := grown_setCell wx ⟨zb, 5, none⟩ va2
  have e1 : (ndC b vb1 vb2).setIfInBounds 5 va2 = ndC a vb1 va2 := by
    rw [← hab]
    rfl
  have hbb : Blk (wx.setCell ⟨zb, 5, none⟩ va2) zb 58 (ndC a vb1 va2) := by rw [← e1]; exact h.bb.set_ 5 _
  have ha := two_kept h.la h.bb hg
  have hb := two_kept h.lb h.bb hg
  have ed : b.data = a.data := by rw [← hab]
  rw [ed] at hb
  exact ⟨h.ba.kept hg (some_ne h.ne), hbb, ha, ⟨hb.1, ha.2⟩, h.ne, h.lo, below_grown h.below hg h.lo.2⟩
set_option maxHeartbeats 8000000 in
theorem lown_any (x0 : Int) (v1 : Value) (l : List Rw) (c : Wh) (A0 : Option Addr) (n0 k0 : Nat) (um : Int) (s : ByteArray) (mo kd : Int) (w : World) (h1 : RawsR w v1 l) (hl1 : l.length ≤ maxLen) (h2 : IntsR w (.slice A0 n0 k0) c.gs) (hum : 0 ≤ um ∧ um ≤ 65535) (hmo : 0 ≤ mo ∧ mo ≤ 65535) (hkd : 0 ≤ kd ∧ kd ≤ 255) :
    Calls Tryz.prog 4 #[.int .i64 x0, v1, .agg #[.int .i64 c.u, .int .i64 c.g, .slice A0 n0 k0], .int .u16 um, .string s, .int .u16 mo, .int .u8 kd] w fun e w' => e = .returned (.bool true) ∧ Below w.heap.size w w' := by
  have hb0 := ba w (.cells #[.int .i64 c.u, .int .i64 c.g, .slice A0 n0 k0] 25)
  have hk0 := Blk.new w 25 #[.int .i64 c.u, .int .i64 c.g, .slice A0 n0 k0]
  obtain ⟨W1, hW1⟩ : ∃ W1, w.alloc (.cells #[.int .i64 c.u, .int .i64 c.g, .slice A0 n0 k0] 25) = W1 := ⟨_, rfl⟩
  rw [hW1] at hb0 hk0
  have HA := Lib.hid (awk14_any W1)
  have HR := Lib.hid (h1.below hb0)
  have HI := Lib.hid (h2.below hb0)
  have HL := Lib.hid hl1
  have HC0 := Lib.hid h2
  have HB0 := Lib.hid hb0
  have HK0 := Lib.hid hk0
  have HUM := Lib.hid hum
  have HMO := Lib.hid hmo
  have HKD := Lib.hid hkd
  clear h1 h2 hl1 hb0 hk0 hum hmo hkd
  go_enter Tryz.func4, Tryz.ntmps4
  go_wp2_with fail
  clear hW1
  refine HA.out.mono ?_
  rintro e w2 ⟨rfl, hb2⟩
  have hk2 := HK0.out.below hb2
  have HB2 := Lib.hid (bt hb2 HB0.out)
  have HK2 := Lib.hid hk2
  have HI2 := Lib.hid (HI.out.below hb2)
  have HBL := Lib.hid (built_any x0 v1 l c A0 n0 k0 w2 (HR.out.below hb2) HL.out HI2.out)
  obtain ⟨k0', k1, k2⟩ := hk2.c3
  clear hb2 HA HK0 HI HR HB0
  go_wp2_with fail
  refine HBL.out.mono ?_
  rintro e w3 ⟨hans, hb3⟩
  have HB3 := Lib.hid (bt hb3 HB2.out)
  have hk3 := HK2.out.below hb3
  have HI3 := Lib.hid (HI2.out.below hb3)
  have hkl := hk2.lt
  clear k0' k1 k2 hb3 HBL hk2
  rcases hans with ⟨rfl, -⟩ | ⟨g, T, rfl, hB, hT, hG⟩
  · clear hk3 hkl
    go_wp2
    go_ret
    exact ⟨rfl, HB3.out⟩
  have HTT := Lib.hid hT
  have HTR := Lib.hid ((tre_all hB.2).1)
  have HCR := Lib.hid (show CrR w c A0 n0 k0 from ⟨HC0.out, by have := hB.1.2; omega⟩)
  have HK3 := Lib.hid hk3
  have HGE := Lib.hid (show w.heap.size ≤ g from Nat.le_trans HB2.out.size hG)
  have HKG := Lib.hid (show w.heap.size ≠ g from Nat.ne_of_lt (Nat.lt_of_lt_of_le hkl hG))
  have HGL := Lib.hid hT.lt
  obtain ⟨k0', k1, k2⟩ := hk3.c3
  clear hT hB hk3 HK2 HI2 HB2 hG hkl HC0 HI3
  by_cases hc : 100 < s.size
  · have yc : (s.size : Int) > 100 := by omega
    clear hc
    go_wp2
    go_ret
    exact ⟨rfl, HB3.out⟩
  have yc : ¬ (s.size : Int) > 100 := by omega
  clear hc
  obtain ⟨P, rfl⟩ : ∃ P, s = bA P := ⟨tl s, (bA_tl s).symm⟩
  have HMK := Lib.hid (fun (W : World) (h : TabR W g T (fun _ => True)) (hb : Below w.heap.size w W) => show Calls Tryz.prog 14 #[.pointer (some ⟨g, 0, none⟩), .agg #[.int .i64 c.u, .int .i64 c.g, .slice A0 n0 k0], .int .i64 um, .string (bA P), .int .i64 mo] W fun e w' => e = .returned (.int .i64 (mkE T c um P mo)) ∧ TabR w' g (mkT T c um P mo) (fun _ => True) ∧ W.grownBy w' (some g) from mkdirC g T (fun _ => True) c A0 n0 k0 um P mo W h HTR.out (HCR.out.below hb) (fun _ _ => trivial))
  have HSY := Lib.hid (fun (W : World) (h : TabR W g T (fun _ => True)) (hb : Below w.heap.size w W) => show Calls Tryz.prog 15 #[.pointer (some ⟨g, 0, none⟩), .agg #[.int .i64 c.u, .int .i64 c.g, .slice A0 n0 k0], .string ⟨#[113]⟩, .string (bA P)] W fun e w' => e = .returned (.int .i64 (syE T c [113] P)) ∧ TabR w' g (syT T c [113] P) (fun _ => True) ∧ W.grownBy w' (some g) from symlinkC g T (fun _ => True) c A0 n0 k0 [113] P W h HTR.out (HCR.out.below hb) (by decide) (fun _ _ => trivial))
  have HCA := Lib.hid (fun (W : World) (h : TabR W g T (fun _ => True)) (hb : Below w.heap.size w W) => show Calls Tryz.prog 11 #[.pointer (some ⟨g, 0, none⟩), .agg #[.int .i64 c.u, .int .i64 c.g, .slice A0 n0 k0], .int .i64 um, .string (bA P), .int .i64 mo, .bool false] W fun e w' => e = .returned (.tuple #[.int .i64 (crI T c um P mo false), .int .i64 (crE T c um P mo false)]) ∧ TabR w' g (crT T c um P mo false) (fun _ => True) ∧ W.grownBy w' (some g) from createC g T (fun _ => True) c A0 n0 k0 um P mo false W h HTR.out (HCR.out.below hb) (fun _ _ => trivial))
  have O1 := Lib.hid (own_mk HTR.out c P mo HUM.out)
  have O2 := Lib.hid (own_sy HTR.out c P HUM.out)
  have O3 := Lib.hid (own_cr HTR.out c P mo HUM.out)
  have HQ3 := Lib.hid (show kd.tmod 3 = 0 ∨ kd.tmod 3 = 1 ∨ kd.tmod 3 = 2 from by have h := HKD.out; rw [Int.tmod_eq_emod_of_nonneg h.1]; omega)
  obtain ⟨u0, u1⟩ := HUM.out
  obtain ⟨m0, m1⟩ := HMO.out
  go_wp2_with fail
  refine (clone_any g T (fun _ => True) (fun _ => True) w3 HTT.out (fun _ _ => trivial)).mono ?_
  rintro e w4 ⟨rfl, hu, hb4⟩
  have HUG := Lib.hid (show w3.heap.size ≠ g from Nat.ne_of_gt HGL.out)
  generalize w3.heap.size = u at hu HUG ⊢
  have HU4 := Lib.hid hu
  have HT4 := Lib.hid (HTT.out.below hb4)
  have hk4 := HK3.out.below hb4
  have HK4 := Lib.hid hk4
  have HB4 := Lib.hid (bt hb4 HB3.out)
  clear hu hb4 k0' k1 k2
  obtain ⟨k0', k1, k2⟩ := hk4.c3
  clear hk4
  go_upto_block 0 with fail
  go_cut [19] from 47 to 76 (fun s19 wx => ∃ E T1, s19 = .int .i64 E ∧ OwnF T c um P E T1 ∧ Mad w wx w.heap.size g u c A0 n0 k0 T1 T)
  case first =>
    rcases HQ3.out with hq | hq | hq
    · go_wp2_with fail
      refine (HMK.out w4 HT4.out HB4.out).mono ?_
      rintro e w5 ⟨rfl, ht, hgr⟩
      have HMD := Lib.hid (show Mad w w5 w.heap.size g u c A0 n0 k0 (mkT T c um P mo) T from ⟨ht, blt_kept HU4.out HT4.out hgr HUG.out, HK4.out.kept hgr (some_ne HKG.out), grown_bl HB4.out hgr HGE.out⟩)
      clear ht hgr
      go_wp2
      go_meet
      exact ⟨_, _, rfl, O1.out, HMD.out⟩
    · go_wp2_with fail
      refine (HSY.out w4 HT4.out HB4.out).mono ?_
      rintro e w5 ⟨rfl, ht, hgr⟩
      have HMD := Lib.hid (show Mad w w5 w.heap.size g u c A0 n0 k0 (syT T c [113] P) T from ⟨ht, blt_kept HU4.out HT4.out hgr HUG.out, HK4.out.kept hgr (some_ne HKG.out), grown_bl HB4.out hgr HGE.out⟩)
      clear ht hgr
      go_wp2
      go_meet
      exact ⟨_, _, rfl, O2.out, HMD.out⟩
    · go_wp2_with fail
      refine (HCA.out w4 HT4.out HB4.out).mono ?_
      rintro e w5 ⟨rfl, ht, hgr⟩
      have HMD := Lib.hid (show Mad w w5 w.heap.size g u c A0 n0 k0 (crT T c um P mo false) T from ⟨ht, blt_kept HU4.out HT4.out hgr HUG.out, HK4.out.kept hgr (some_ne HKG.out), grown_bl HB4.out hgr HGE.out⟩)
      clear ht hgr
      go_wp2
      go_meet
      exact ⟨_, _, rfl, O3.out, HMD.out⟩
  case rest =>
  obtain ⟨E, T1, rfl, hO, hM⟩ := hcut
  obtain ⟨w5, hw5⟩ : ∃ W, wc = W := ⟨_, rfl⟩
  rw [hw5] at hM ⊢
  have HT5 := Lib.hid hM.tab
  have HU5 := Lib.hid hM.was
  have HK5 := Lib.hid hM.who
  have HB5 := Lib.hid hM.below
  have HO := Lib.hid hO
  clear hw5 hM hO k0' k1 k2 O1 O2 O3 HMK HSY HCA HQ3 HT4 HU4 HK4 HB4 HTT HK3
  obtain ⟨k0', k1, k2⟩ := HK5.out.c3
  by_cases qE : E = 0
  · have r1 : (E != 0) = false := by simpa using qE
    obtain ⟨S, D, hO⟩ := HO.out.good qE
    have HP := Lib.hid hO
    have HLS := Lib.hid (show Calls Tryz.prog 17 #[.pointer (some ⟨g, 0, none⟩), .agg #[.int .i64 c.u, .int .i64 c.g, .slice A0 n0 k0], .string (bA P)] w5 fun e w' => e = .returned (.tuple #[.agg #[.int .i64 S.node, .int .i64 S.kind, .int .i64 S.mode, .int .i64 S.uid, .int .i64 S.gid, .int .i64 S.links, .int .i64 S.size], .int .i64 0]) ∧ Below w5.heap.size w5 w' from lstat_any (.pointer (some ⟨g, 0, none⟩)) T1 c A0 n0 k0 P w5 HT5.out.ptr (HCR.out.below HB5.out) (S, 0) hO.sta)
    have HUS := Lib.hid (fun (W : World) (hb : Below w5.heap.size w5 W) => show Calls Tryz.prog 18 #[.pointer (some ⟨g, 0, none⟩)] W fun e w' => e = .returned (.int .i64 ((usedT T : Int) + 1)) ∧ Below W.heap.size W w' from by have h := used_any (.pointer (some ⟨g, 0, none⟩)) T1 W (HT5.out.below hb).ptr; rw [HP.out.used] at h; exact h)
    have HUW := Lib.hid (fun (W : World) (hb : Below w5.heap.size w5 W) => used_any (.pointer (some ⟨u, 0, none⟩)) T W (HU5.out.below hb).ptr)
    have HRI := Lib.hid (fun (W : World) (hb : Below w5.heap.size w5 W) => show Calls Tryz.prog 19 #[.pointer (some ⟨g, 0, none⟩), .slice none 0 0] W fun e w' => e = .returned (.bool true) ∧ Below W.heap.size W w' from by have h1 := tright_any _ (.slice none 0 0) T1 [] W (HT5.out.below hb).ptr (IntsR.nil _) (by decide); rw [toB_true (tre_all_right HP.out.trx)] at h1; exact h1)
    have HPA := Lib.hid (fun (W : World) (hb : Below w5.heap.size w5 W) => show Calls Tryz.prog 20 #[.pointer (some ⟨g, 0, none⟩), .int .i64 S.node] W fun e w' => e = .returned (.int .i64 D) ∧ Below W.heap.size W w' from by have h := parent_any (.pointer (some ⟨g, 0, none⟩)) T1 S.node W (HT5.out.below hb).ptr; rw [HP.out.par] at h; exact h)
    have y1 : (S.uid != c.u) = false := by simp [hO.uid]
    have y2 : (S.links != 1) = false := by simp [hO.links]
    have y3 : (bits .and .i64 S.mode 2048 != 0) = false := by simp [hO.suid]
    have hU24 : usedT T ≤ 24 := by have h1 := used_le T; have h2 := HU5.out.hi; omega
    obtain ⟨US, hUS⟩ : ∃ US, usedT T = US := ⟨_, rfl⟩
    rw [hUS] at HUS HUW hU24
    have y4 : ((US : Int) + 1 != (US : Int) + 1) = false := by simp
    have HMS := Lib.hid hO.mask
    clear hO qE HO hUS
    go_wp2_with fail
    refine HLS.out.mono ?_
    rintro e w6 ⟨rfl, hb6⟩
    have hbx := al hb6 (.cells #[.int .i64 S.node, .int .i64 S.kind, .int .i64 S.mode, .int .i64 S.uid, .int .i64 S.gid, .int .i64 S.links, .int .i64 S.size] 49)
    have hs := Blk.new w6 49 #[.int .i64 S.node, .int .i64 S.kind, .int .i64 S.mode, .int .i64 S.uid, .int .i64 S.gid, .int .i64 S.links, .int .i64 S.size]
    obtain ⟨W6, hW6⟩ : ∃ W6, w6.alloc (.cells #[.int .i64 S.node, .int .i64 S.kind, .int .i64 S.mode, .int .i64 S.uid, .int .i64 S.gid, .int .i64 S.links, .int .i64 S.size] 49) = W6 := ⟨_, rfl⟩
    rw [hW6] at hbx hs
    obtain ⟨z, hz⟩ : ∃ z, w6.heap.size = z := ⟨_, rfl⟩
    rw [hz] at hs
    have HS6 := Lib.hid hs
    have HW6 := Lib.hid hbx
    have J6 := Lib.hid (Below.refl W6.heap.size W6)
    have hk := HK5.out.below hbx
    clear hb6 hbx k0' k1 k2 HLS
    obtain ⟨k0', k1, k2⟩ := hk.c3
    obtain ⟨a0, a1, a2, a3, a4, a5, a6⟩ := hs.c7
    clear hk hs
    go_upto_region 18 with fail
    clear hW6 hz
    go_cut [134] (fun s134 wx => s134 = .bool false ∧ Below W6.heap.size W6 wx)
    case first =>
      by_cases qk : S.kind = 3
      · have y5 : (S.kind != 3) = false := by simpa using qk
        clear qk
        go_wp2_with fail
        refine (HUS.out W6 (bt J6.out HW6.out)).mono ?_
        rintro e w7 ⟨rfl, hb⟩
        have J7 := Lib.hid (bt hb J6.out)
        clear hb
        go_wp2_with fail
        refine (HUW.out w7 (bt J7.out HW6.out)).mono ?_
        rintro e w8 ⟨rfl, hb⟩
        have J8 := Lib.hid (bt hb J7.out)
        clear hb
        go_wp2_with fail
        refine (HRI.out w8 (bt J8.out HW6.out)).mono ?_
        rintro e w9 ⟨rfl, hb⟩
        have J9 := Lib.hid (bt hb J8.out)
        clear hb
        go_wp2
        go_meet
        exact ⟨rfl, J9.out⟩
      · have y5 : (S.kind != 3) = true := by simpa using qk
        have y6 : (bits .and .i64 (bits .and .i64 S.mode um) 511 != 0) = false := by simp [HMS.out qk]
        clear qk
        go_wp2_with fail
        refine (HUS.out W6 (bt J6.out HW6.out)).mono ?_
        rintro e w7 ⟨rfl, hb⟩
        have J7 := Lib.hid (bt hb J6.out)
        clear hb
        go_wp2_with fail
        refine (HUW.out w7 (bt J7.out HW6.out)).mono ?_
        rintro e w8 ⟨rfl, hb⟩
        have J8 := Lib.hid (bt hb J7.out)
        clear hb
        go_wp2_with fail
        refine (HRI.out w8 (bt J8.out HW6.out)).mono ?_
        rintro e w9 ⟨rfl, hb⟩
        have J9 := Lib.hid (bt hb J8.out)
        clear hb
        go_wp2
        go_meet
        exact ⟨rfl, J9.out⟩
    case rest =>
    obtain ⟨rfl, hb9⟩ := hcut
    obtain ⟨w9, hw9⟩ : ∃ W, wc = W := ⟨_, rfl⟩
    rw [hw9] at hb9 ⊢
    have J9 := Lib.hid (bt hb9 HW6.out)
    have HS9 := Lib.hid (HS6.out.below hb9)
    clear hb9 hw9 k0' k1 k2 a0 a1 a2 a3 a4 a5 a6 HMS HUS HUW HRI y1 y2 y3 y4 HW6 HS6
    obtain ⟨a0, -⟩ := HS9.out.c7
    go_wp2_with fail
    refine (HPA.out w9 J9.out).mono ?_
    rintro e w10 ⟨rfl, hb⟩
    have J10 := Lib.hid (bt hb J9.out)
    have HSX := Lib.hid (HS9.out.below hb)
    have HTX := Lib.hid (HT5.out.below J10.out)
    have HUX := Lib.hid (HU5.out.below J10.out)
    have HBX := Lib.hid (bt J10.out HB5.out)
    have HFW := Lib.hid (fun (i : Int) => ok_few HU5.out.ok i)
    have HKP := Lib.hid (fun (j : Int) => HP.out.keep j)
    have HFR := Lib.hid HP.out.free
    have hL24 : T1.length ≤ 24 := HT5.out.hi
    clear hb a0 HS9 J9 J10 HPA HT5 HU5 HB5 HP HK5
    go_wp2
    go_loopg [23] T1.length (fun gh s23 wr => ∃ k : Nat, s23 = .int .i64 ((k : Int) + 1) ∧ k ≤ T1.length ∧ gh = T1.length - k ∧ Below w10.heap.size w10 wr)
    case atStart => exact ⟨0, by rfl, Nat.zero_le _, rfl, Below.refl _ _⟩
    case round =>
      obtain ⟨k, rfl, hk, rfl, hbr⟩ := hrel
      have HBR := Lib.hid hbr
      have HTr := Lib.hid (HTX.out.below hbr)
      have HUr := Lib.hid (HUX.out.below hbr)
      have HSr := Lib.hid (HSX.out.below hbr)
      clear hbr
      go_wp2_with fail
      refine (room_any _ T1 wr HTr.out.ptr).mono ?_
      rintro e wq ⟨rfl, rfl⟩
      by_cases hlt : k < T1.length
      · have hlt' : (k : Int) + 1 ≤ (T1.length : Int) := by omega
        have HLT := Lib.hid hlt
        by_cases hI : (k : Int) + 1 = S.node
        · have y160 : ((k : Int) + 1 == S.node) = true := by simpa using hI
          have HG1 := Lib.hid (get_forms2 HUr.out ((k : Int) + 1) _ rfl)
          have HG2 := Lib.hid (fun (W : World) (hb : Below wr.heap.size wr W) => get_as (HTr.out.below hb) ((k : Int) + 1) (tget T1 ((k : Int) + 1)) (tget T1 ((k : Int) + 1)).ents rfl)
          have hti : tis T ((k : Int) + 1) = false := by rw [hI]; exact HFR.out
          rw [hti] at HG1
          generalize tget T ((k : Int) + 1) = a at HG1
          generalize tget T1 ((k : Int) + 1) = b at HG2
          clear hI hti
          go_wp2_with fail
          refine HG1.out.mono ?_
          rintro e wa ⟨A1, n1, c1, A2, c2, rfl, -, hba⟩
          have hbx := al hba (.cells #[.int .i64 a.kind, .int .i64 a.mode, .int .i64 a.uid, .int .i64 a.gid, .slice A1 n1 c1, .slice A2 a.ents.length c2, .string (bA a.target)] 58)
          obtain ⟨Wa, hWa⟩ : ∃ Wa, wa.alloc (.cells #[.int .i64 a.kind, .int .i64 a.mode, .int .i64 a.uid, .int .i64 a.gid, .slice A1 n1 c1, .slice A2 a.ents.length c2, .string (bA a.target)] 58) = Wa := ⟨_, rfl⟩
          rw [hWa] at hbx
          have HBa := Lib.hid hbx
          clear hba hbx
          go_wp2_with fail
          clear hWa
          refine (HG2.out Wa HBa.out).mono ?_
          rintro e wb ⟨A3, n3, c3, A4, c4, qb, rfl, -, hbb⟩
          have hbx := al hbb (.cells #[.int .i64 b.kind, .int .i64 b.mode, .int .i64 b.uid, .int .i64 b.gid, .slice A3 n3 c3, .slice A4 b.ents.length c4, .string (bA b.target)] 58)
          obtain ⟨Wb, hWb⟩ : ∃ Wb, wb.alloc (.cells #[.int .i64 b.kind, .int .i64 b.mode, .int .i64 b.uid, .int .i64 b.gid, .slice A3 n3 c3, .slice A4 b.ents.length c4, .string (bA b.target)] 58) = Wb := ⟨_, rfl⟩
          rw [hWb] at hbx
          have HBb := Lib.hid (bt hbx HBa.out)
          obtain ⟨s0, -⟩ := (HSr.out.below HBb.out).c7
          clear hbb hbx HG1 HG2
          go_wp2
          go_roundg (T1.length - (k + 1))
          case measure => omega
          case rel => exact ⟨k + 1, by go_num, by omega, rfl, bt HBb.out HBR.out⟩
        · have y160 : ((k : Int) + 1 == S.node) = false := by simpa using hI
          obtain ⟨e1, e2, e3⟩ := HKP.out ((k : Int) + 1) hI
          have HG1 := Lib.hid (get_forms2 HUr.out ((k : Int) + 1) _ rfl)
          have HG2 := Lib.hid (fun (W : World) (hb : Below wr.heap.size wr W) => get_as (HTr.out.below hb) ((k : Int) + 1) _ _ e2)
          have HFA := Lib.hid (HFW.out ((k : Int) + 1))
          have HE1 := Lib.hid e1
          have HE2 := Lib.hid e2
          have HE3 := Lib.hid e3
          clear e1 e2 e3 hI
          generalize tis T ((k : Int) + 1) = qa at HG1
          generalize tget T ((k : Int) + 1) = a at HG1 HG2 HFA HE1 HE2 HE3
          generalize tget T1 ((k : Int) + 1) = b at HG2 HE1 HE2 HE3
          obtain ⟨NB, hNB⟩ : ∃ NB, b.ents.length = NB := ⟨_, rfl⟩
          go_wp2_with fail
          refine HG1.out.mono ?_
          rintro e wa ⟨A1, n1, c1, A2, c2, rfl, hla, hba⟩
          have hbx := al hba (.cells #[.int .i64 a.kind, .int .i64 a.mode, .int .i64 a.uid, .int .i64 a.gid, .slice A1 n1 c1, .slice A2 a.ents.length c2, .string (bA a.target)] 58)
          have hx := Blk.new wa 58 #[.int .i64 a.kind, .int .i64 a.mode, .int .i64 a.uid, .int .i64 a.gid, .slice A1 n1 c1, .slice A2 a.ents.length c2, .string (bA a.target)]
          have hlo := hba.size
          obtain ⟨Wa, hWa⟩ : ∃ Wa, wa.alloc (.cells #[.int .i64 a.kind, .int .i64 a.mode, .int .i64 a.uid, .int .i64 a.gid, .slice A1 n1 c1, .slice A2 a.ents.length c2, .string (bA a.target)] 58) = Wa := ⟨_, rfl⟩
          have hly := And.intro (hla.1.below (ba wa (.cells #[.int .i64 a.kind, .int .i64 a.mode, .int .i64 a.uid, .int .i64 a.gid, .slice A1 n1 c1, .slice A2 a.ents.length c2, .string (bA a.target)] 58))) (hla.2.below (ba wa (.cells #[.int .i64 a.kind, .int .i64 a.mode, .int .i64 a.uid, .int .i64 a.gid, .slice A1 n1 c1, .slice A2 a.ents.length c2, .string (bA a.target)] 58)))
          rw [hWa] at hbx hx hly
          obtain ⟨za, hza⟩ : ∃ za, wa.heap.size = za := ⟨_, rfl⟩
          rw [hza] at hx hlo
          have HBa := Lib.hid hbx
          have HXa := Lib.hid hx
          have HLa := Lib.hid hly
          have HOa := Lib.hid hlo
          clear hba hbx hx hla hly hlo
          go_wp2_with fail
          clear hWa hza
          refine (HG2.out Wa HBa.out).mono ?_
          rintro e wb ⟨A3, n3, c3, A4, c4, qb, rfl, hlb, hbb⟩
          have hbx := al hbb (.cells #[.int .i64 a.kind, .int .i64 a.mode, .int .i64 a.uid, .int .i64 a.gid, .slice A3 n3 c3, .slice A4 b.ents.length c4, .string (bA a.target)] 58)
          have hx := Blk.new wb 58 #[.int .i64 a.kind, .int .i64 a.mode, .int .i64 a.uid, .int .i64 a.gid, .slice A3 n3 c3, .slice A4 b.ents.length c4, .string (bA a.target)]
          have hlo := (bt hbb HBa.out).size
          have hn1 : za ≠ wb.heap.size := Nat.ne_of_lt (HXa.out.below hbb).lt
          obtain ⟨Wb, hWb⟩ : ∃ Wb, wb.alloc (.cells #[.int .i64 a.kind, .int .i64 a.mode, .int .i64 a.uid, .int .i64 a.gid, .slice A3 n3 c3, .slice A4 b.ents.length c4, .string (bA a.target)] 58) = Wb := ⟨_, rfl⟩
          have hly := And.intro (hlb.1.below (ba wb (.cells #[.int .i64 a.kind, .int .i64 a.mode, .int .i64 a.uid, .int .i64 a.gid, .slice A3 n3 c3, .slice A4 b.ents.length c4, .string (bA a.target)] 58))) (hlb.2.below (ba wb (.cells #[.int .i64 a.kind, .int .i64 a.mode, .int .i64 a.uid, .int .i64 a.gid, .slice A3 n3 c3, .slice A4 b.ents.length c4, .string (bA a.target)] 58)))
          rw [hWb] at hbx hx hly
          obtain ⟨zb, hzb⟩ : ∃ zb, wb.heap.size = zb := ⟨_, rfl⟩
          rw [hzb] at hx hlo hn1
          have ed : a.data = b.data := by rw [← HE2.out]
          have en : #[.int .i64 a.kind, .int .i64 a.mode, .int .i64 a.uid, .int .i64 a.gid, .slice A3 n3 c3, .slice A4 b.ents.length c4, .string (bA a.target)] = ndC b (.slice A3 n3 c3) (.slice A4 b.ents.length c4) := by rw [← HE2.out]
          rw [ed] at hly
          rw [en] at hx
          have HTW := Lib.hid (show Tw wr Wb za zb a b (.slice A1 n1 c1) (.slice A2 a.ents.length c2) (.slice A3 n3 c3) (.slice A4 b.ents.length c4) from
            ⟨HXa.out.below hbx, hx, ⟨HLa.out.1.below hbx, HLa.out.2.below hbx⟩, hly, hn1, ⟨HOa.out, hlo⟩, bt hbx HBa.out⟩)
          obtain ⟨s0, -⟩ := (HSr.out.below (bt hbx HBa.out)).c7
          have HSM := Lib.hid (fun (W : World) (vb : Value) (h : Tw wr W za zb a a (.slice A1 n1 c1) (.slice A2 a.ents.length c2) (.slice A3 n3 c3) vb) => show Calls Tryz.prog 23 #[.agg #[.int .i64 a.kind, .int .i64 a.mode, .int .i64 a.uid, .int .i64 a.gid, .slice A1 n1 c1, .slice A2 a.ents.length c2, .string (bA a.target)], .agg #[.int .i64 a.kind, .int .i64 a.mode, .int .i64 a.uid, .int .i64 a.gid, .slice A3 n3 c3, vb, .string (bA a.target)]] W fun e w' => e = .returned (.bool true) ∧ Below W.heap.size W w' from by have h1 := same_any a a _ _ _ _ W h.la.1.1 h.la.2.1 h.lb.1.1 h.lb.2.1 HFA.out HFA.out; rw [toB_true rfl] at h1; exact h1)
          have hfa := HFA.out.ents
          clear hbb hbx hx hlb hly hlo hn1 ed en HBa HXa HLa HOa HG1 HG2
          by_cases hD : (k : Int) + 1 = D
          · have y164 : ((k : Int) + 1 == D) = true := by simpa using hD
            have y172 : ((b.ents.length : Int) != (a.ents.length : Int) + 1) = false := by
              have h1 := HE1.out
              rw [if_pos hD] at h1
              simp [h1]
            obtain ⟨a0, a1, a2, a3, a4, a5, a6⟩ := HTW.out.ba.c7
            obtain ⟨b0, b1, b2, b3, b4, b5, b6⟩ := HTW.out.bb.c7
            obtain ⟨f0, f1, f2, f3, f4, f5, f6⟩ := HTW.out.bb.f7
            clear hD hNB
            go_upto_region 33 with fail
            clear hWb hzb a0 a1 a2 a3 a4 a5 a6 b0 b1 b2 b3 b4 b5 b6 f0 f1 f2 f3 f4 f5 f6 s0
            have h3 := HTW.out.ents HE2.out
            generalize Wb.setCell ⟨zb, 5, none⟩ (.slice A2 a.ents.length c2) = W3 at h3 ⊢
            have HC := Lib.hid (HSM.out W3 _ h3)
            obtain ⟨a0, a1, a2, a3, a4, a5, a6⟩ := h3.ba.c7
            obtain ⟨b0, b1, b2, b3, b4, b5, b6⟩ := h3.bb.c7
            have HB3 := Lib.hid h3.below
            clear h3
            go_wp2_with fail
            refine HC.out.mono ?_
            rintro e w12 ⟨rfl, hb⟩
            have HBz := Lib.hid (bt hb (bt HB3.out HBR.out))
            clear hb
            go_wp2
            go_roundg (T1.length - (k + 1))
            case measure => omega
            case rel => exact ⟨k + 1, by go_num, by omega, rfl, HBz.out⟩
          · have y164 : ((k : Int) + 1 == D) = false := by simpa using hD
            have e4 : b = a := HE3.out hD
            subst e4
            have h3 := HTW.out
            have HC := Lib.hid (HSM.out Wb _ h3)
            obtain ⟨a0, a1, a2, a3, a4, a5, a6⟩ := h3.ba.c7
            obtain ⟨b0, b1, b2, b3, b4, b5, b6⟩ := h3.bb.c7
            have HB3 := Lib.hid h3.below
            clear h3 hD hNB
            go_wp2_with fail
            clear hWb hzb
            refine HC.out.mono ?_
            rintro e w12 ⟨rfl, hb⟩
            have HBz := Lib.hid (bt hb (bt HB3.out HBR.out))
            clear hb
            go_wp2
            go_roundg (T1.length - (k + 1))
            case measure => omega
            case rel => exact ⟨k + 1, by go_num, by omega, rfl, HBz.out⟩
      · have hle : ¬ (k : Int) + 1 ≤ (T1.length : Int) := by omega
        have HBz := Lib.hid (bt HBR.out HBX.out)
        go_wp2
        go_ret
        exact ⟨rfl, HBz.out⟩
  · have r1 : (E != 0) = true := by simpa using qE
    have e1 := HO.out.err qE
    subst e1
    have HSA := Lib.hid (show Calls Tryz.prog 16 #[.pointer (some ⟨g, 0, none⟩), .pointer (some ⟨u, 0, none⟩)] w5 fun e w' => e = .returned (.bool true) ∧ Below w5.heap.size w5 w' from by have h := tsame_any _ _ _ _ w5 HT5.out.ptr HU5.out.ptr; rw [sam_refl] at h; exact h)
    clear qE HO
    go_wp2_with fail
    refine HSA.out.mono ?_
    rintro e w6 ⟨rfl, hb⟩
    have HB6 := Lib.hid (bt hb HB5.out)
    clear hb
    go_wp2
    go_ret
    exact ⟨rfl, HB6.out⟩
end Go.Proofs.YtgcllgfkifpkeaaGreat
