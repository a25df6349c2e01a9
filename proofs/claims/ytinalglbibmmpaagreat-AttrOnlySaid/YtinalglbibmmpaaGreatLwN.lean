/-
  The walk of AttrOnly: it answers true of whatever is told, of any who ask, of any path, mode, owner and group. The condition: what is told is no longer than a machine can hold.
-/
import Derived.Test.YtinalglbibmmpaaGreatAwk
import Derived.Test.YtinalglbibmmpaaGreatTR
import Derived.Deep.RegionWith
import Derived.Deep.DeepCutAuto
import Derived.Deep.RegionHeld3
namespace Go.Proofs.YtinalglbibmmpaaGreat
open Go Go.RowKit
set_option maxRecDepth 100000

attribute [local go_sem] cell_off4 cell_blk4
/-- A node that is read, cell by cell, and where its lists lie. -/
theorem get_forms3 {g : Nat} {t : List Nd} {P : Nat → Prop} {W : World} (h : TabR W g t P) (i : Int) (n : Nd) (hn : tget t i = n) : Calls Tryz.prog 19 #[.pointer (some ⟨g, 0, none⟩), .int .i64 i] W fun e w' => ∃ A1 n1 c1 A2 n2 c2 q, e = .returned (.tuple #[.agg #[.int .i64 n.kind, .int .i64 n.mode, .int .i64 n.uid, .int .i64 n.gid, .slice A1 n1 c1, .slice A2 n2 c2, .string (bA n.target)], .bool q]) ∧ (BytesT w' (.slice A1 n1 c1) n.data ∧ EntsT w' (.slice A2 n2 c2) n.ents) ∧ Below W.heap.size W w' := by
  refine (get_any (.pointer (some ⟨g, 0, none⟩)) t i W h.ptr).mono ?_
  rintro e w' ⟨vd, ve, rfl, hd, he, -, -, hb⟩
  rw [hn] at hd he ⊢
  obtain ⟨A1, c1, rfl⟩ := bytesT_form hd
  obtain ⟨A2, c2, rfl⟩ := entsT_form he
  exact ⟨_, _, _, _, _, _, _, rfl, ⟨hd, he⟩, hb⟩
theorem modN_kind (n : Nd) (m u g : Int) : (modN n m u g).kind = n.kind := rfl
theorem modN_mode (n : Nd) (m u g : Int) : (modN n m u g).mode = m := rfl
theorem modN_uid (n : Nd) (m u g : Int) : (modN n m u g).uid = u := rfl
theorem modN_gid (n : Nd) (m u g : Int) : (modN n m u g).gid = g := rfl
theorem modN_target (n : Nd) (m u g : Int) : (modN n m u g).target = n.target := rfl
theorem sam_refl (t : List Nd) : toB (sam24 t t) = true := toB_true (fun _ _ => rfl)
/-- Three nodes in boxes of their own. -/
structure Th (w wx : World) (za zb zd : Nat) (a b d : Nd) (va1 va2 vb1 vb2 vd1 vd2 : Value) : Prop where
  ba : Blk wx za 55 (ndC a va1 va2)
  bb : Blk wx zb 55 (ndC b vb1 vb2)
  bd : Blk wx zd 55 (ndC d vd1 vd2)
  la : BytesT wx va1 a.data ∧ EntsT wx va2 a.ents
  lb : BytesT wx vb1 b.data ∧ EntsT wx vb2 b.ents
  ld : BytesT wx vd1 d.data ∧ EntsT wx vd2 d.ents
  ne : (za ≠ zb ∧ za ≠ zd) ∧ zb ≠ zd
  lo : (w.heap.size ≤ za ∧ w.heap.size ≤ zb) ∧ w.heap.size ≤ zd
  below : Below w.heap.size w wx
section
variable {w wx : World} {za zb zd : Nat} {a b d : Nd} {va1 va2 vb1 vb2 vd1 vd2 : Value}
theorem two_kept {W W' : World} {z : Nat} {cs : Array Value} {v1 v2 : Value} {n : Nd} (h : BytesT W v1 n.data ∧ EntsT W v2 n.ents) (hk : Blk W z 55 cs) (hg : W.grownBy W' (some z)) : BytesT W' v1 n.data ∧ EntsT W' v2 n.ents :=
  ⟨h.1.other hg (fun ad n c hv => by obtain ⟨cs, hc⟩ := h.1.2 ad n c hv; exact blk_ne hc hk (by decide)), h.2.other hg (fun ad n c hv => by obtain ⟨cs, hc⟩ := h.2.2 ad n c hv; exact blk_ne hc hk (by decide))⟩
theorem Th.sa (h : Th w wx za zb zd a b d va1 va2 vb1 vb2 vd1 vd2) (m : Int) : Th w (wx.setCell ⟨za, 1, none⟩ (.int .i64 m)) za zb zd (modN a m a.uid a.gid) b d va1 va2 vb1 vb2 vd1 vd2 :=
  have hg := grown_setCell wx ⟨za, 1, none⟩ (.int .i64 m)
  ⟨h.ba.set_ 1 _, h.bb.kept hg (some_ne (fun q => h.ne.1.1 q.symm)), h.bd.kept hg (some_ne (fun q => h.ne.1.2 q.symm)), two_kept h.la h.ba hg, two_kept h.lb h.ba hg, two_kept h.ld h.ba hg, h.ne, h.lo, below_grown h.below hg h.lo.1.1⟩
theorem Th.sb (h : Th w wx za zb zd a b d va1 va2 vb1 vb2 vd1 vd2) (m : Int) : Th w (wx.setCell ⟨zb, 1, none⟩ (.int .i64 m)) za zb zd a (modN b m b.uid b.gid) d va1 va2 vb1 vb2 vd1 vd2 :=
  have hg := grown_setCell wx ⟨zb, 1, none⟩ (.int .i64 m)
  ⟨h.ba.kept hg (some_ne h.ne.1.1), h.bb.set_ 1 _, h.bd.kept hg (some_ne (fun q => h.ne.2 q.symm)), two_kept h.la h.bb hg, two_kept h.lb h.bb hg, two_kept h.ld h.bb hg, h.ne, h.lo, below_grown h.below hg h.lo.1.2⟩
theorem Th.sd (h : Th w wx za zb zd a b d va1 va2 vb1 vb2 vd1 vd2) (m : Int) : Th w (wx.setCell ⟨zd, 1, none⟩ (.int .i64 m)) za zb zd a b (modN d m d.uid d.gid) va1 va2 vb1 vb2 vd1 vd2 :=
  have hg := grown_setCell wx ⟨zd, 1, none⟩ (.int .i64 m)
  ⟨h.ba.kept hg (some_ne h.ne.1.2), h.bb.kept hg (some_ne h.ne.2), h.bd.set_ 1 _, two_kept h.la h.bd hg, two_kept h.lb h.bd hg, two_kept h.ld h.bd hg, h.ne, h.lo, below_grown h.below hg h.lo.2⟩
theorem Th.sd2 (h : Th w wx za zb zd a b d va1 va2 vb1 vb2 vd1 vd2) (m : Int) : Th w (wx.setCell ⟨zd, 2, none⟩ (.int .i64 m)) za zb zd a b (modN d d.mode m d.gid) va1 va2 vb1 vb2 vd1 vd2 :=
  have hg := grown_setCell wx ⟨zd, 2, none⟩ (.int .i64 m)
  ⟨h.ba.kept hg (some_ne h.ne.1.2), h.bb.kept hg (some_ne h.ne.2), h.bd.set_ 2 _, two_kept h.la h.bd hg, two_kept h.lb h.bd hg, two_kept h.ld h.bd hg, h.ne, h.lo, below_grown h.below hg h.lo.2⟩
theorem Th.sd3 (h : Th w wx za zb zd a b d va1 va2 vb1 vb2 vd1 vd2) (m : Int) : Th w (wx.setCell ⟨zd, 3, none⟩ (.int .i64 m)) za zb zd a b (modN d d.mode d.uid m) va1 va2 vb1 vb2 vd1 vd2 :=
  have hg := grown_setCell wx ⟨zd, 3, none⟩ (.int .i64 m)
  ⟨h.ba.kept hg (some_ne h.ne.1.2), h.bb.kept hg (some_ne h.ne.2), h.bd.set_ 3 _, two_kept h.la h.bd hg, two_kept h.lb h.bd hg, two_kept h.ld h.bd hg, h.ne, h.lo, below_grown h.below hg h.lo.2⟩
end
/-- A node as the model has it, once it is read. -/
theorem mod_rf (n : Nd) (v1 v2 : Value) (W : World) (h : BytesT W v1 n.data ∧ EntsT W v2 n.ents) (hf : n.ents.length ≤ 1000) :
    Calls Tryz.prog 21 #[.agg #[.int .i64 n.kind, .int .i64 n.mode, .int .i64 n.uid, .int .i64 n.gid, v1, v2, .string (bA n.target)]] W fun e w' => ∃ vn vk, e = .returned (.agg (rfC n vn vk)) ∧ (StrsR w' vn (nmA (nmE n.ents)) ∧ IntsR w' vk (idE n.ents)) ∧ Below W.heap.size W w' := by
  refine (model11_any n v1 v2 W h.1.1 h.2.1 hf).mono ?_
  rintro e w' ⟨v, rfl, ⟨vn, vk, rfl, h1, h2, -, -⟩, hb⟩
  exact ⟨vn, vk, rfl, ⟨h1, h2⟩, hb⟩
set_option maxHeartbeats 8000000 in
theorem lonly_any (x0 : Int) (v1 : Value) (l : List Rw) (c : Wh) (A0 : Option Addr) (n0 k0 : Nat) (s : ByteArray) (mode uid gid : Int) (w : World) (h1 : RawsR w v1 l) (hl1 : l.length ≤ maxLen) (h2 : IntsR w (.slice A0 n0 k0) c.gs) :
    Calls Tryz.prog 5 #[.int .i64 x0, v1, .agg #[.int .i64 c.u, .int .i64 c.g, .slice A0 n0 k0], .string s, .int .i64 mode, .int .i64 uid, .int .i64 gid] w fun e w' => e = .returned (.bool true) ∧ Below w.heap.size w w' := by
  have hb0 := ba w (.cells #[.int .i64 c.u, .int .i64 c.g, .slice A0 n0 k0] 25)
  have hk0 := Blk.new w 25 #[.int .i64 c.u, .int .i64 c.g, .slice A0 n0 k0]
  obtain ⟨W1, hW1⟩ : ∃ W1, w.alloc (.cells #[.int .i64 c.u, .int .i64 c.g, .slice A0 n0 k0] 25) = W1 := ⟨_, rfl⟩
  rw [hW1] at hb0 hk0
  have HA := Lib.hid (awake13_any W1)
  have HR := Lib.hid (h1.below hb0)
  have HI := Lib.hid (h2.below hb0)
  have HL := Lib.hid hl1
  have HC0 := Lib.hid h2
  have HB0 := Lib.hid hb0
  have HK0 := Lib.hid hk0
  clear h1 h2 hl1 hb0 hk0
  go_enter Tryz.func5, Tryz.ntmps5
  go_wp2_with fail
  clear hW1
  refine HA.out.mono ?_
  rintro e w2 ⟨rfl, hb2⟩
  have hk2 := HK0.out.below hb2
  have HB2 := Lib.hid (bt hb2 HB0.out)
  have HK2 := Lib.hid hk2
  have HI2 := Lib.hid (HI.out.below hb2)
  have HBL := Lib.hid (built_any x0 v1 l c A0 n0 k0 w2 (HR.out.below hb2) HL.out HI2.out)
  obtain ⟨k0', k1, k2⟩ := hk2.c3
  clear hb2 HA HK0 HI HR HB0
  go_wp2_with fail
  refine HBL.out.mono ?_
  rintro e w3 ⟨hans, hb3⟩
  have HB3 := Lib.hid (bt hb3 HB2.out)
  have hk3 := HK2.out.below hb3
  have HI3 := Lib.hid (HI2.out.below hb3)
  have hkl := hk2.lt
  clear k0' k1 k2 hb3 HBL hk2
  rcases hans with ⟨rfl, -⟩ | ⟨g, T, rfl, hB, hT, hG⟩
  · clear hk3 hkl
    go_wp2
    go_ret
    exact ⟨rfl, HB3.out⟩
  have HTT := Lib.hid hT
  have HTR := Lib.hid ((tre_all hB.2).1)
  have HCR := Lib.hid (show CrR w c A0 n0 k0 from ⟨HC0.out, by have := hB.1.2; omega⟩)
  have HK3 := Lib.hid hk3
  have HGE := Lib.hid (show w.heap.size ≤ g from Nat.le_trans HB2.out.size hG)
  have HKG := Lib.hid (show w.heap.size ≠ g from Nat.ne_of_lt (Nat.lt_of_lt_of_le hkl hG))
  have HGL := Lib.hid hT.lt
  obtain ⟨k0', k1, k2⟩ := hk3.c3
  clear hT hB hk3 HK2 HI2 HB2 hG hkl HC0 HI3
  by_cases hc : 100 < s.size
  · have yc : (s.size : Int) > 100 := by omega
    clear hc
    go_wp2
    go_ret
    exact ⟨rfl, HB3.out⟩
  have yc : ¬ (s.size : Int) > 100 := by omega
  clear hc
  obtain ⟨T1, hT1⟩ : ∃ T1, chmT T c (tl s) mode = T1 := ⟨_, rfl⟩
  obtain ⟨T2, hT2⟩ : ∃ T2, chwT T c (tl s) uid gid true = T2 := ⟨_, rfl⟩
  obtain ⟨E1, hE1⟩ : ∃ E1, chmE T c (tl s) mode = E1 := ⟨_, rfl⟩
  obtain ⟨E2, hE2⟩ : ∃ E2, chwE T c (tl s) uid gid true = E2 := ⟨_, rfl⟩
  obtain ⟨XE, hXE⟩ : ∃ XE, staM T c (tl s) true = XE := ⟨_, rfl⟩
  obtain ⟨X, E⟩ := XE
  have HER := Lib.hid (show (E ≠ 0 → E1 ≠ 0 ∧ E2 ≠ 0) ∧ (E1 ≠ 0 → T1 = T) ∧ (E2 ≠ 0 → T2 = T) from
    ⟨fun q => ⟨fun z => q (by have h := (chm_zero (hE1.trans z)).2.1; rw [hXE] at h; exact h), fun z => q (by have h := (chw_zero (hE2.trans z)).2.1; rw [hXE] at h; exact h)⟩,
     fun q => by rw [← hT1]; exact chmT_err (by rw [hE1]; exact q), fun q => by rw [← hT2]; exact chwT_err (by rw [hE2]; exact q)⟩)
  have HO := Lib.hid (fun (j : Int) => show ∃ m1 m2 u2 g2, tget T1 j = modN (tget T j) m1 (tget T j).uid (tget T j).gid ∧ tget T2 j = modN (tget T j) m2 u2 g2 ∧ (j ≠ X.node → modN (tget T j) m1 (tget T j).uid (tget T j).gid = tget T j ∧ modN (tget T j) m2 u2 g2 = tget T j) ∧ (E2 = 0 → j = X.node → u2 = (if uid < 0 then (tget T j).uid else uid) ∧ g2 = (if gid < 0 then (tget T j).gid else gid)) from by
    obtain ⟨a1, m1, a2⟩ := chm_only (t := T) c (tl s) mode j
    obtain ⟨b1, m2, u2, g2, b2, b3⟩ := chw_only (t := T) c (tl s) uid gid true j
    rw [hXE, hT1] at a1
    rw [hT1] at a2
    rw [hXE, hT2] at b1
    rw [hT2] at b2
    rw [hXE, hE2] at b3
    exact ⟨m1, m2, u2, g2, a2, b2, fun q => ⟨by rw [← a2]; exact a1 q, by rw [← b2]; exact b1 q⟩, b3⟩)
  have HST := Lib.hid (fun (W : World) (h : TabR W g T (fun _ => True)) (hb : Below w.heap.size w W) => show Calls Tryz.prog 16 #[.pointer (some ⟨g, 0, none⟩), .agg #[.int .i64 c.u, .int .i64 c.g, .slice A0 n0 k0], .string s] W fun e w' => e = .returned (.tuple #[.agg #[.int .i64 X.node, .int .i64 X.kind, .int .i64 X.mode, .int .i64 X.uid, .int .i64 X.gid, .int .i64 X.links, .int .i64 X.size], .int .i64 E]) ∧ Below W.heap.size W w' from by have h1 := stat_any (.pointer (some ⟨g, 0, none⟩)) T c A0 n0 k0 (tl s) W h.ptr (HCR.out.below hb) (X, E) hXE; rw [bA_tl] at h1; exact h1)
  have HM1 := Lib.hid (fun (W : World) (h : TabR W g T (fun _ => True)) (hb : Below w.heap.size w W) => show Calls Tryz.prog 11 #[.pointer (some ⟨g, 0, none⟩), .agg #[.int .i64 c.u, .int .i64 c.g, .slice A0 n0 k0], .string s, .int .i64 mode] W fun e w' => e = .returned (.int .i64 E1) ∧ TabR w' g T1 (fun _ => True) ∧ W.grownBy w' (some g) from by have h1 := chmod_any g T (fun _ => True) c A0 n0 k0 (tl s) mode W h HTR.out (HCR.out.below hb) (fun _ _ => trivial); rw [hE1, hT1, bA_tl] at h1; exact h1)
  have HM2 := Lib.hid (fun (u : Nat) (W : World) (h : TabR W u T (fun _ => True)) (hb : Below w.heap.size w W) => show Calls Tryz.prog 14 #[.pointer (some ⟨u, 0, none⟩), .agg #[.int .i64 c.u, .int .i64 c.g, .slice A0 n0 k0], .string s, .int .i64 uid, .int .i64 gid, .bool true] W fun e w' => e = .returned (.int .i64 E2) ∧ TabR w' u T2 (fun _ => True) ∧ W.grownBy w' (some u) from by have h1 := chown_any u T (fun _ => True) c A0 n0 k0 (tl s) uid gid true W h HTR.out (HCR.out.below hb) (fun _ _ => trivial); rw [hE2, hT2, bA_tl] at h1; exact h1)
  clear hT1 hT2 hE1 hE2 hXE
  go_wp2_with fail
  refine (clone_any g T (fun _ => True) (fun _ => True) w3 HTT.out (fun _ _ => trivial)).mono ?_
  rintro e w4 ⟨rfl, hu, hb4⟩
  have HUG := Lib.hid (show w3.heap.size ≠ g from Nat.ne_of_gt HGL.out)
  have HKU := Lib.hid (show w.heap.size ≠ w3.heap.size from Nat.ne_of_lt HK3.out.lt)
  have HUL := Lib.hid (show w.heap.size ≤ w3.heap.size from HB3.out.size)
  generalize w3.heap.size = u at hu HUG HKU HUL ⊢
  have HU4 := Lib.hid hu
  have HT4 := Lib.hid (HTT.out.below hb4)
  have hk4 := HK3.out.below hb4
  have HK4 := Lib.hid hk4
  have HB4 := Lib.hid (bt hb4 HB3.out)
  clear hu hb4 k0' k1 k2
  obtain ⟨k0', k1, k2⟩ := hk4.c3
  clear hk4
  go_wp2_with fail
  refine (clone_any g T (fun _ => True) (fun _ => True) w4 HT4.out (fun _ _ => trivial)).mono ?_
  rintro e w5 ⟨rfl, hv, hb5⟩
  have HVG := Lib.hid (show w4.heap.size ≠ g from Nat.ne_of_gt HT4.out.lt)
  have HVU := Lib.hid (show w4.heap.size ≠ u from Nat.ne_of_gt HU4.out.lt)
  generalize w4.heap.size = v at hv HVG HVU ⊢
  have HV5 := Lib.hid hv
  have HU5 := Lib.hid (HU4.out.below hb5)
  have HT5 := Lib.hid (HT4.out.below hb5)
  have hk5 := HK4.out.below hb5
  have HK5 := Lib.hid hk5
  have HB5 := Lib.hid (bt hb5 HB4.out)
  clear hv hb5 k0' k1 k2
  obtain ⟨k0', k1, k2⟩ := hk5.c3
  clear hk5
  go_wp2_with fail
  refine (HST.out w5 HT5.out HB5.out).mono ?_
  rintro e w6 ⟨rfl, hb6⟩
  have hbx := al hb6 (.cells #[.int .i64 X.node, .int .i64 X.kind, .int .i64 X.mode, .int .i64 X.uid, .int .i64 X.gid, .int .i64 X.links, .int .i64 X.size] 47)
  have hs := Blk.new w6 47 #[.int .i64 X.node, .int .i64 X.kind, .int .i64 X.mode, .int .i64 X.uid, .int .i64 X.gid, .int .i64 X.links, .int .i64 X.size]
  have HZG := Lib.hid (show w6.heap.size ≠ g from Nat.ne_of_gt (HT5.out.below hb6).lt)
  have HZU := Lib.hid (show w6.heap.size ≠ u from Nat.ne_of_gt (HU5.out.below hb6).lt)
  obtain ⟨W6, hW6⟩ : ∃ W6, w6.alloc (.cells #[.int .i64 X.node, .int .i64 X.kind, .int .i64 X.mode, .int .i64 X.uid, .int .i64 X.gid, .int .i64 X.links, .int .i64 X.size] 47) = W6 := ⟨_, rfl⟩
  rw [hW6] at hbx hs
  obtain ⟨z, hz⟩ : ∃ z, w6.heap.size = z := ⟨_, rfl⟩
  rw [hz] at hs HZG HZU
  have HS6 := Lib.hid hs
  have HT6 := Lib.hid (HT5.out.below hbx)
  have HU6 := Lib.hid (HU5.out.below hbx)
  have HV6 := Lib.hid (HV5.out.below hbx)
  have hk := HK5.out.below hbx
  have HK6 := Lib.hid hk
  have HB6 := Lib.hid (bt hbx HB5.out)
  clear hb6 hbx hs k0' k1 k2 HST
  obtain ⟨k0', k1, k2⟩ := hk.c3
  clear hk
  go_wp2_with fail
  clear hW6 hz
  refine (HM1.out W6 HT6.out HB6.out).mono ?_
  rintro e w7 ⟨rfl, ht, hgr⟩
  have HT7 := Lib.hid ht
  have HU7 := Lib.hid (show TabR w7 u T (fun _ => True) from by obtain ⟨cs, hg, -⟩ := HT6.out.blk; exact HU6.out.kind hgr HUG.out hg (by decide) (by decide))
  have HV7 := Lib.hid (show TabR w7 v T (fun _ => True) from by obtain ⟨cs, hg, -⟩ := HT6.out.blk; exact HV6.out.kind hgr HVG.out hg (by decide) (by decide))
  have HS7 := Lib.hid (HS6.out.kept hgr (some_ne HZG.out))
  have hk := HK6.out.kept hgr (some_ne HKG.out)
  have HB7 := Lib.hid (grown_bl HB6.out hgr HGE.out)
  clear ht hgr k0' k1 k2
  obtain ⟨k0', k1, k2⟩ := hk.c3
  clear hk
  go_wp2_with fail
  refine (HM2.out u w7 HU7.out HB7.out).mono ?_
  rintro e w8 ⟨rfl, ht, hgr⟩
  have HU8 := Lib.hid ht
  have HT8 := Lib.hid (show TabR w8 g T1 (fun _ => True) from by obtain ⟨cs, hg, -⟩ := HU7.out.blk; exact HT7.out.kind hgr (fun q => HUG.out q.symm) hg (by decide) (by decide))
  have HV8 := Lib.hid (show TabR w8 v T (fun _ => True) from by obtain ⟨cs, hg, -⟩ := HU7.out.blk; exact HV7.out.kind hgr HVU.out hg (by decide) (by decide))
  have HS8 := Lib.hid (HS7.out.kept hgr (some_ne HZU.out))
  have HB8 := Lib.hid (grown_bl HB7.out hgr HUL.out)
  have HSA := Lib.hid (fun (q : E1 ≠ 0) (W : World) (hb : Below w8.heap.size w8 W) => show Calls Tryz.prog 17 #[.pointer (some ⟨g, 0, none⟩), .pointer (some ⟨v, 0, none⟩)] W fun e w' => e = .returned (.bool true) ∧ Below W.heap.size W w' from by have h := tsame_any _ _ _ _ W (HT8.out.below hb).ptr (HV8.out.below hb).ptr; rw [HER.out.2.1 q, sam_refl] at h; exact h)
  have HSB := Lib.hid (fun (q : E2 ≠ 0) (W : World) (hb : Below w8.heap.size w8 W) => show Calls Tryz.prog 17 #[.pointer (some ⟨u, 0, none⟩), .pointer (some ⟨v, 0, none⟩)] W fun e w' => e = .returned (.bool true) ∧ Below W.heap.size W w' from by have h := tsame_any _ _ _ _ W (HU8.out.below hb).ptr (HV8.out.below hb).ptr; rw [HER.out.2.2 q, sam_refl] at h; exact h)
  have J8 := Lib.hid (Below.refl w8.heap.size w8)
  clear ht hgr k0' k1 k2 HM1 HM2 HT4 HT5 HT6 HT7 HU4 HU5 HU6 HU7 HV5 HV6 HV7 HS6 HS7 HK3 HK4 HK5 HK6 HB4 HB5 HB6 HB7 HTT
  go_upto_region 12 with fail
  go_cut [99] (fun s99 wx => s99 = .bool false ∧ Below w8.heap.size w8 wx)
  case first =>
    by_cases q1 : E1 = 0
    · have r1 : (E1 != 0) = false := by simpa using q1
      have r1' : (E1 == 0) = true := by simpa using q1
      by_cases q2 : E2 = 0
      · have r2 : (E2 != 0) = false := by simpa using q2
        have r2' : (E2 == 0) = true := by simpa using q2
        have r3 : (E != 0) = false := by
          have h : E = 0 := Classical.byContradiction (fun q => (HER.out.1 q).1 q1)
          simpa using h
        clear q1 q2
        go_wp2
        go_meet
        exact ⟨rfl, J8.out⟩
      · have r2 : (E2 != 0) = true := by simpa using q2
        have r2' : (E2 == 0) = false := by simpa using q2
        have r3 : (E != 0) = false := by
          have h : E = 0 := Classical.byContradiction (fun q => (HER.out.1 q).1 q1)
          simpa using h
        have HSB2 := Lib.hid (HSB.out q2)
        clear q1 q2
        go_wp2_with fail
        refine (HSB2.out w8 J8.out).mono ?_
        rintro e w9 ⟨rfl, hb⟩
        have HB9 := Lib.hid hb
        clear hb
        go_wp2
        go_meet
        exact ⟨rfl, HB9.out⟩
    · have r1 : (E1 != 0) = true := by simpa using q1
      have r1' : (E1 == 0) = false := by simpa using q1
      have HSA2 := Lib.hid (HSA.out q1)
      by_cases q2 : E2 = 0
      · have r2 : (E2 != 0) = false := by simpa using q2
        have r2' : (E2 == 0) = true := by simpa using q2
        have r3 : (E != 0) = false := by
          have h : E = 0 := Classical.byContradiction (fun q => (HER.out.1 q).2 q2)
          simpa using h
        clear q1 q2
        go_wp2_with fail
        refine (HSA2.out w8 J8.out).mono ?_
        rintro e w9 ⟨rfl, hb⟩
        have HB9 := Lib.hid hb
        clear hb
        go_wp2
        go_meet
        exact ⟨rfl, HB9.out⟩
      · have r2 : (E2 != 0) = true := by simpa using q2
        have r2' : (E2 == 0) = false := by simpa using q2
        have HSB2 := Lib.hid (HSB.out q2)
        clear q1 q2
        go_wp2_with fail
        refine (HSA2.out w8 J8.out).mono ?_
        rintro e w9 ⟨rfl, hb⟩
        have HB9 := Lib.hid hb
        clear hb
        go_wp2_with fail
        refine (HSB2.out w9 HB9.out).mono ?_
        rintro e w10 ⟨rfl, hb⟩
        have HB10 := Lib.hid (bt hb HB9.out)
        clear hb
        by_cases q3 : E = 0
        · have r3 : (E != 0) = false := by simpa using q3
          clear q3
          go_wp2
          go_meet
          exact ⟨rfl, HB10.out⟩
        · have r3 : (E != 0) = true := by simpa using q3
          clear q3
          go_wp2
          go_meet
          exact ⟨rfl, HB10.out⟩
  case rest =>
  obtain ⟨rfl, hb9⟩ := hcut
  obtain ⟨w9, hw9⟩ : ∃ W, wc = W := ⟨_, rfl⟩
  rw [hw9] at hb9 ⊢
  have HT9 := Lib.hid (HT8.out.below hb9)
  have HU9 := Lib.hid (HU8.out.below hb9)
  have HV9 := Lib.hid (HV8.out.below hb9)
  have HS9 := Lib.hid (HS8.out.below hb9)
  have HB9 := Lib.hid (bt hb9 HB8.out)
  have HFW := Lib.hid (fun (i : Int) => (ok_few HV8.out.ok i).ents)
  have hL24 : T1.length ≤ 24 := HT8.out.hi
  clear hb9 hw9 HSA HSB J8 HT8 HU8 HV8 HS8 HB8 HER
  go_wp2
  go_loopg [24] T1.length (fun gh s24 wr => ∃ k : Nat, s24 = .int .i64 ((k : Int) + 1) ∧ k ≤ T1.length ∧ gh = T1.length - k ∧ Below w9.heap.size w9 wr)
  case atStart => exact ⟨0, by rfl, Nat.zero_le _, rfl, Below.refl _ _⟩
  case round =>
    obtain ⟨k, rfl, hk, rfl, hbr⟩ := hrel
    have HBR := Lib.hid hbr
    have HTr := Lib.hid (HT9.out.below hbr)
    have HUr := Lib.hid (HU9.out.below hbr)
    have HVr := Lib.hid (HV9.out.below hbr)
    have HSr := Lib.hid (HS9.out.below hbr)
    clear hbr
    go_wp2_with fail
    refine (room_any _ T1 wr HTr.out.ptr).mono ?_
    rintro e wq ⟨rfl, rfl⟩
    by_cases hlt : k < T1.length
    · have hlt' : (k : Int) + 1 ≤ (T1.length : Int) := by omega
      have HLT := Lib.hid hlt
      obtain ⟨m1, m2, u2, g2, e1, e2, hne, heq⟩ := HO.out ((k : Int) + 1)
      have HG1 := Lib.hid (get_forms3 HVr.out ((k : Int) + 1) _ rfl)
      have HG2 := Lib.hid (fun (W : World) (hb : Below wr.heap.size wr W) => get_forms3 (HTr.out.below hb) ((k : Int) + 1) _ e1)
      have HG3 := Lib.hid (fun (W : World) (hb : Below wr.heap.size wr W) => get_forms3 (HUr.out.below hb) ((k : Int) + 1) _ e2)
      have HFA := Lib.hid (HFW.out ((k : Int) + 1))
      have HNE := Lib.hid hne
      have HEQ := Lib.hid heq
      clear e1 e2 hne heq
      generalize tget T ((k : Int) + 1) = a at HG1 HG2 HG3 HFA HNE HEQ
      go_wp2_with fail
      refine HG1.out.mono ?_
      rintro e wa ⟨A1, n1, c1, A2, n2, c2, qa, rfl, hla, hba⟩
      have hbx := al hba (.cells #[.int .i64 a.kind, .int .i64 a.mode, .int .i64 a.uid, .int .i64 a.gid, .slice A1 n1 c1, .slice A2 n2 c2, .string (bA a.target)] 55)
      have hx := Blk.new wa 55 #[.int .i64 a.kind, .int .i64 a.mode, .int .i64 a.uid, .int .i64 a.gid, .slice A1 n1 c1, .slice A2 n2 c2, .string (bA a.target)]
      have hlo := hba.size
      obtain ⟨Wa, hWa⟩ : ∃ Wa, wa.alloc (.cells #[.int .i64 a.kind, .int .i64 a.mode, .int .i64 a.uid, .int .i64 a.gid, .slice A1 n1 c1, .slice A2 n2 c2, .string (bA a.target)] 55) = Wa := ⟨_, rfl⟩
      have hly := And.intro (hla.1.below (ba wa (.cells #[.int .i64 a.kind, .int .i64 a.mode, .int .i64 a.uid, .int .i64 a.gid, .slice A1 n1 c1, .slice A2 n2 c2, .string (bA a.target)] 55))) (hla.2.below (ba wa (.cells #[.int .i64 a.kind, .int .i64 a.mode, .int .i64 a.uid, .int .i64 a.gid, .slice A1 n1 c1, .slice A2 n2 c2, .string (bA a.target)] 55)))
      rw [hWa] at hbx hx hly
      obtain ⟨za, hza⟩ : ∃ za, wa.heap.size = za := ⟨_, rfl⟩
      rw [hza] at hx hlo
      have HBa := Lib.hid hbx
      have HXa := Lib.hid hx
      have HLa := Lib.hid hly
      have HOa := Lib.hid hlo
      clear hba hbx hx hla hly hlo
      go_wp2_with fail
      clear hWa hza
      refine (show Calls _ _ _ _ _ from HG2.out Wa HBa.out).mono ?_
      rintro e wb ⟨A3, n3, c3, A4, n4, c4, qb, rfl, hlb, hbb⟩
      simp only [modN_kind, modN_mode, modN_uid, modN_gid, modN_target]
      have hbx := al hbb (.cells #[.int .i64 a.kind, .int .i64 m1, .int .i64 a.uid, .int .i64 a.gid, .slice A3 n3 c3, .slice A4 n4 c4, .string (bA a.target)] 55)
      have hx := Blk.new wb 55 #[.int .i64 a.kind, .int .i64 m1, .int .i64 a.uid, .int .i64 a.gid, .slice A3 n3 c3, .slice A4 n4 c4, .string (bA a.target)]
      have hlo := (bt hbb HBa.out).size
      have hn1 : za ≠ wb.heap.size := Nat.ne_of_lt (HXa.out.below hbb).lt
      obtain ⟨Wb, hWb⟩ : ∃ Wb, wb.alloc (.cells #[.int .i64 a.kind, .int .i64 m1, .int .i64 a.uid, .int .i64 a.gid, .slice A3 n3 c3, .slice A4 n4 c4, .string (bA a.target)] 55) = Wb := ⟨_, rfl⟩
      have hly := And.intro (hlb.1.below (ba wb (.cells #[.int .i64 a.kind, .int .i64 m1, .int .i64 a.uid, .int .i64 a.gid, .slice A3 n3 c3, .slice A4 n4 c4, .string (bA a.target)] 55))) (hlb.2.below (ba wb (.cells #[.int .i64 a.kind, .int .i64 m1, .int .i64 a.uid, .int .i64 a.gid, .slice A3 n3 c3, .slice A4 n4 c4, .string (bA a.target)] 55)))
      rw [hWb] at hbx hx hly
      obtain ⟨zb, hzb⟩ : ∃ zb, wb.heap.size = zb := ⟨_, rfl⟩
      rw [hzb] at hx hlo hn1
      have HBb := Lib.hid (bt hbx HBa.out)
      have HXb := Lib.hid hx
      have HLb := Lib.hid hly
      have HOb := Lib.hid hlo
      have HN1 := Lib.hid hn1
      have HXa2 := Lib.hid (HXa.out.below hbx)
      have HLa2 := Lib.hid (And.intro (HLa.out.1.below hbx) (HLa.out.2.below hbx))
      clear hbb hbx hx hlb hly hlo hn1
      go_wp2_with fail
      clear hWb hzb
      refine (HG3.out Wb HBb.out).mono ?_
      rintro e wd ⟨A5, n5, c5, A6, n6, c6, qd, rfl, hld, hbd⟩
      simp only [modN_kind, modN_mode, modN_uid, modN_gid, modN_target]
      have hbx := al hbd (.cells #[.int .i64 a.kind, .int .i64 m2, .int .i64 u2, .int .i64 g2, .slice A5 n5 c5, .slice A6 n6 c6, .string (bA a.target)] 55)
      have hx := Blk.new wd 55 #[.int .i64 a.kind, .int .i64 m2, .int .i64 u2, .int .i64 g2, .slice A5 n5 c5, .slice A6 n6 c6, .string (bA a.target)]
      have hlo := (bt hbd HBb.out).size
      have hn2 : za ≠ wd.heap.size := Nat.ne_of_lt (HXa2.out.below hbd).lt
      have hn3 : zb ≠ wd.heap.size := Nat.ne_of_lt (HXb.out.below hbd).lt
      obtain ⟨Wd, hWd⟩ : ∃ Wd, wd.alloc (.cells #[.int .i64 a.kind, .int .i64 m2, .int .i64 u2, .int .i64 g2, .slice A5 n5 c5, .slice A6 n6 c6, .string (bA a.target)] 55) = Wd := ⟨_, rfl⟩
      have hly := And.intro (hld.1.below (ba wd (.cells #[.int .i64 a.kind, .int .i64 m2, .int .i64 u2, .int .i64 g2, .slice A5 n5 c5, .slice A6 n6 c6, .string (bA a.target)] 55))) (hld.2.below (ba wd (.cells #[.int .i64 a.kind, .int .i64 m2, .int .i64 u2, .int .i64 g2, .slice A5 n5 c5, .slice A6 n6 c6, .string (bA a.target)] 55)))
      rw [hWd] at hbx hx hly
      obtain ⟨zd, hzd⟩ : ∃ zd, wd.heap.size = zd := ⟨_, rfl⟩
      rw [hzd] at hx hlo hn2 hn3
      have HTH := Lib.hid (show Th wr Wd za zb zd a (modN a m1 a.uid a.gid) (modN a m2 u2 g2) (.slice A1 n1 c1) (.slice A2 n2 c2) (.slice A3 n3 c3) (.slice A4 n4 c4) (.slice A5 n5 c5) (.slice A6 n6 c6) from
        ⟨HXa2.out.below hbx, HXb.out.below hbx, hx, ⟨HLa2.out.1.below hbx, HLa2.out.2.below hbx⟩, ⟨HLb.out.1.below hbx, HLb.out.2.below hbx⟩, hly, ⟨⟨HN1.out, hn2⟩, hn3⟩, ⟨⟨HOa.out, HOb.out⟩, hlo⟩, bt hbx HBb.out⟩)
      obtain ⟨s0, -⟩ := (HSr.out.below (bt hbx HBb.out)).c7
      clear hbd hbx hx hld hly hlo hn2 hn3 HBa HBb HXa HXb HLa HLb HXa2 HLa2 HN1 HOa HOb HG1 HG2 HG3 hlt hlt' hk
      go_upto_if 127 with fail
      clear hWd hzd
      go_cut [25] (fun s25 wx => s25 = .pointer (some ⟨za, 0, none⟩) ∧ ∃ n : Nd, n.ents = a.ents ∧ Th wr wx za zb zd n n n (.slice A1 n1 c1) (.slice A2 n2 c2) (.slice A3 n3 c3) (.slice A4 n4 c4) (.slice A5 n5 c5) (.slice A6 n6 c6))
      case first =>
        by_cases hq : (k : Int) + 1 = X.node
        · have y0 : ((k : Int) + 1 == X.node) = true := by simpa using hq
          have HUV := Lib.hid (fun (q : E2 = 0) => HEQ.out q hq)
          obtain ⟨a0, a1, a2, a3, a4, a5, a6⟩ := HTH.out.ba.c7
          obtain ⟨b0, b1, b2, b3, b4, b5, b6⟩ := HTH.out.bb.c7
          obtain ⟨d0, d1, d2, d3, d4, d5, d6⟩ := HTH.out.bd.c7
          obtain ⟨p0, p1, p2, p3, p4, p5, p6⟩ := HTH.out.ba.f7
          obtain ⟨r0, r1, r2, r3, r4, r5, r6⟩ := HTH.out.bb.f7
          obtain ⟨t0, t1, t2, t3, t4, t5, t6⟩ := HTH.out.bd.f7
          obtain ⟨⟨ne1, ne2⟩, ne3⟩ := HTH.out.ne
          have ne4 := ne1.symm
          have ne5 := ne2.symm
          have ne6 := ne3.symm
          simp only [modN_kind, modN_mode, modN_uid, modN_gid, modN_target] at b0 b1 b2 b3 b4 b5 b6 d0 d1 d2 d3 d4 d5 d6
          have HT3 := Lib.hid (((HTH.out.sa 0).sb 0).sd 0)
          clear hq HNE HEQ
          go_upto_if 132 with fail
          go_cut [25] (fun s25 wx => s25 = .pointer (some ⟨za, 0, none⟩) ∧ Th wr wx za zb zd (modN a 0 a.uid a.gid) (modN a 0 a.uid a.gid) (modN a 0 u2 g2) (.slice A1 n1 c1) (.slice A2 n2 c2) (.slice A3 n3 c3) (.slice A4 n4 c4) (.slice A5 n5 c5) (.slice A6 n6 c6))
          case first =>
            by_cases qE : E2 = 0
            · have yE : (E2 == 0) = true := by simpa using qE
              obtain ⟨hu2, hg2⟩ := HUV.out qE
              by_cases qu : uid < 0
              · rw [if_pos qu] at hu2
                have qu' : ¬ uid ≥ 0 := by omega
                have v1 : (u2 != a.uid) = false := by rw [hu2]; simp
                by_cases qg : gid < 0
                · rw [if_pos qg] at hg2
                  have qg' : ¬ gid ≥ 0 := by omega
                  have v2 : (g2 != a.gid) = false := by rw [hg2]; simp
                  clear qE HUV hu2 hg2
                  go_wp2
                  go_meet
                  exact ⟨rfl, HT3.out⟩
                · rw [if_neg qg] at hg2
                  have qg' : gid ≥ 0 := by omega
                  have v2 : (g2 != gid) = false := by rw [hg2]; simp
                  clear qE HUV hu2 hg2
                  go_wp2
                  go_meet
                  exact ⟨rfl, HT3.out⟩
              · rw [if_neg qu] at hu2
                have qu' : uid ≥ 0 := by omega
                have v1 : (u2 != uid) = false := by rw [hu2]; simp
                by_cases qg : gid < 0
                · rw [if_pos qg] at hg2
                  have qg' : ¬ gid ≥ 0 := by omega
                  have v2 : (g2 != a.gid) = false := by rw [hg2]; simp
                  clear qE HUV hu2 hg2
                  go_wp2
                  go_meet
                  exact ⟨rfl, HT3.out⟩
                · rw [if_neg qg] at hg2
                  have qg' : gid ≥ 0 := by omega
                  have v2 : (g2 != gid) = false := by rw [hg2]; simp
                  clear qE HUV hu2 hg2
                  go_wp2
                  go_meet
                  exact ⟨rfl, HT3.out⟩
            · have yE : (E2 == 0) = false := by simpa using qE
              clear qE HUV
              go_wp2
              go_meet
              exact ⟨rfl, HT3.out⟩
          case rest =>
            obtain ⟨rfl, h3⟩ := hcut
            clear a0 a1 a2 a3 a4 a5 a6 b0 b1 b2 b3 b4 b5 b6 d0 d1 d2 d3 d4 d5 d6 p0 p1 p2 p3 p4 p5 p6 r0 r1 r2 r3 r4 r5 r6 t0 t1 t2 t3 t4 t5 t6 s0
            obtain ⟨W3, hW3⟩ : ∃ W, wc = W := ⟨_, rfl⟩
            rw [hW3] at h3 ⊢
            obtain ⟨a0, a1, a2, a3, a4, a5, a6⟩ := h3.ba.c7
            obtain ⟨d0, d1, d2, d3, d4, d5, d6⟩ := h3.bd.c7
            obtain ⟨t0, t1, t2, t3, t4, t5, t6⟩ := h3.bd.f7
            simp only [modN_kind, modN_mode, modN_uid, modN_gid, modN_target] at a0 a1 a2 a3 a4 a5 a6 d0 d1 d2 d3 d4 d5 d6
            have HT4 := Lib.hid ((h3.sd2 a.uid).sd3 a.gid)
            clear h3 hW3 HT3
            go_wp2
            go_meet
            exact ⟨rfl, modN a 0 a.uid a.gid, rfl, HT4.out⟩
        · have y0 : ((k : Int) + 1 == X.node) = false := by simpa using hq
          obtain ⟨i1, i2⟩ := HNE.out hq
          rw [i1, i2] at HTH
          clear hq i1 i2 HNE HEQ
          go_wp2
          go_meet
          exact ⟨rfl, a, rfl, HTH.out⟩
      case rest =>
        obtain ⟨rfl, n, hne, hth⟩ := hcut
        clear s0
        obtain ⟨W4, hW4⟩ : ∃ W, wc = W := ⟨_, rfl⟩
        rw [hW4] at hth ⊢
        have HFN := Lib.hid (show n.ents.length ≤ 1000 from by rw [hne]; exact HFA.out)
        have HMA := Lib.hid (fun (W : World) (hb : Below W4.heap.size W4 W) => mod_rf n _ _ W ⟨hth.la.1.below hb, hth.la.2.below hb⟩ HFN.out)
        have HMB := Lib.hid (fun (W : World) (hb : Below W4.heap.size W4 W) => mod_rf n _ _ W ⟨hth.lb.1.below hb, hth.lb.2.below hb⟩ HFN.out)
        have HMD := Lib.hid (fun (W : World) (hb : Below W4.heap.size W4 W) => mod_rf n _ _ W ⟨hth.ld.1.below hb, hth.ld.2.below hb⟩ HFN.out)
        have HSM := Lib.hid (fun (W : World) vn vk vn' vk' (h1 : StrsR W vn (nmA (nmE n.ents)) ∧ IntsR W vk (idE n.ents)) (h2 : StrsR W vn' (nmA (nmE n.ents)) ∧ IntsR W vk' (idE n.ents)) => show Calls Tryz.prog 20 #[.agg (rfC n vn vk), .agg (rfC n vn' vk')] W fun e w' => e = .returned (.bool true) ∧ Below W.heap.size W w' from by have h := rsame_any n n vn vk vn' vk' W h1.1 h1.2 h2.1 h2.2 HFN.out HFN.out; rw [toB_true rfl] at h; exact h)
        have HPQ := Lib.hid (fun (W : World) (hb : Below W4.heap.size W4 W) => show W.cell? ⟨za, 0, none⟩ = some (.int .i64 n.kind) ∧ W.cell? ⟨za, 1, none⟩ = some (.int .i64 n.mode) ∧ W.cell? ⟨za, 2, none⟩ = some (.int .i64 n.uid) ∧ W.cell? ⟨za, 3, none⟩ = some (.int .i64 n.gid) ∧ W.cell? ⟨za, 4, none⟩ = some (.slice A1 n1 c1) ∧ W.cell? ⟨za, 5, none⟩ = some (.slice A2 n2 c2) ∧ W.cell? ⟨za, 6, none⟩ = some (.string (bA n.target)) ∧ W.cell? ⟨zb, 0, none⟩ = some (.int .i64 n.kind) ∧ W.cell? ⟨zb, 1, none⟩ = some (.int .i64 n.mode) ∧ W.cell? ⟨zb, 2, none⟩ = some (.int .i64 n.uid) ∧ W.cell? ⟨zb, 3, none⟩ = some (.int .i64 n.gid) ∧ W.cell? ⟨zb, 4, none⟩ = some (.slice A3 n3 c3) ∧ W.cell? ⟨zb, 5, none⟩ = some (.slice A4 n4 c4) ∧ W.cell? ⟨zb, 6, none⟩ = some (.string (bA n.target)) ∧ W.cell? ⟨zd, 0, none⟩ = some (.int .i64 n.kind) ∧ W.cell? ⟨zd, 1, none⟩ = some (.int .i64 n.mode) ∧ W.cell? ⟨zd, 2, none⟩ = some (.int .i64 n.uid) ∧ W.cell? ⟨zd, 3, none⟩ = some (.int .i64 n.gid) ∧ W.cell? ⟨zd, 4, none⟩ = some (.slice A5 n5 c5) ∧ W.cell? ⟨zd, 5, none⟩ = some (.slice A6 n6 c6) ∧ W.cell? ⟨zd, 6, none⟩ = some (.string (bA n.target)) from ⟨(hth.ba.below hb).c7.1, (hth.ba.below hb).c7.2.1, (hth.ba.below hb).c7.2.2.1, (hth.ba.below hb).c7.2.2.2.1, (hth.ba.below hb).c7.2.2.2.2.1, (hth.ba.below hb).c7.2.2.2.2.2.1, (hth.ba.below hb).c7.2.2.2.2.2.2, (hth.bb.below hb).c7.1, (hth.bb.below hb).c7.2.1, (hth.bb.below hb).c7.2.2.1, (hth.bb.below hb).c7.2.2.2.1, (hth.bb.below hb).c7.2.2.2.2.1, (hth.bb.below hb).c7.2.2.2.2.2.1, (hth.bb.below hb).c7.2.2.2.2.2.2, (hth.bd.below hb).c7.1, (hth.bd.below hb).c7.2.1, (hth.bd.below hb).c7.2.2.1, (hth.bd.below hb).c7.2.2.2.1, (hth.bd.below hb).c7.2.2.2.2.1, (hth.bd.below hb).c7.2.2.2.2.2.1, (hth.bd.below hb).c7.2.2.2.2.2.2⟩)
        have J0 := Lib.hid (show Below W4.heap.size W4 W4.drew from (Below.refl _ _).drew)
        have HB4 := Lib.hid (bt hth.below HBR.out)
        clear hth hne hW4 HTH HNE HEQ HFA
        go_upto_region 29 with fail
        go_region_held3 (fun W => W.cell? ⟨za, 0, none⟩ = some (.int .i64 n.kind) ∧ W.cell? ⟨za, 1, none⟩ = some (.int .i64 n.mode) ∧ W.cell? ⟨za, 2, none⟩ = some (.int .i64 n.uid) ∧ W.cell? ⟨za, 3, none⟩ = some (.int .i64 n.gid) ∧ W.cell? ⟨za, 4, none⟩ = some (.slice A1 n1 c1) ∧ W.cell? ⟨za, 5, none⟩ = some (.slice A2 n2 c2) ∧ W.cell? ⟨za, 6, none⟩ = some (.string (bA n.target)) ∧ W.cell? ⟨zb, 0, none⟩ = some (.int .i64 n.kind) ∧ W.cell? ⟨zb, 1, none⟩ = some (.int .i64 n.mode) ∧ W.cell? ⟨zb, 2, none⟩ = some (.int .i64 n.uid) ∧ W.cell? ⟨zb, 3, none⟩ = some (.int .i64 n.gid) ∧ W.cell? ⟨zb, 4, none⟩ = some (.slice A3 n3 c3) ∧ W.cell? ⟨zb, 5, none⟩ = some (.slice A4 n4 c4) ∧ W.cell? ⟨zb, 6, none⟩ = some (.string (bA n.target)) ∧ W.cell? ⟨zd, 0, none⟩ = some (.int .i64 n.kind) ∧ W.cell? ⟨zd, 1, none⟩ = some (.int .i64 n.mode) ∧ W.cell? ⟨zd, 2, none⟩ = some (.int .i64 n.uid) ∧ W.cell? ⟨zd, 3, none⟩ = some (.int .i64 n.gid) ∧ W.cell? ⟨zd, 4, none⟩ = some (.slice A5 n5 c5) ∧ W.cell? ⟨zd, 5, none⟩ = some (.slice A6 n6 c6) ∧ W.cell? ⟨zd, 6, none⟩ = some (.string (bA n.target)))
          (first | (with_reducible exact HPQ.out _ J0.out) | (with_reducible exact HPQ.out _ J1.out) | (with_reducible exact HPQ.out _ J2.out) | (with_reducible exact HPQ.out _ J3.out) | (with_reducible exact HPQ.out _ J4.out) | (with_reducible exact HPQ.out _ J5.out) | (with_reducible exact HPQ.out _ J6.out))
          (first
          | (go_at_call 21; (with_reducible refine (HMA.out W4.drew J0.out).mono ?_); rintro e1 x1 ⟨vn1, vk1, rfl, l1, h1⟩; have J1 := Lib.hid (bt h1 J0.out); have L1 := Lib.hid l1; clear h1 l1)
          | (go_at_call 21; (with_reducible refine (HMB.out x1 J1.out).mono ?_); rintro e2 x2 ⟨vn2, vk2, rfl, l2, h2⟩; have J2 := Lib.hid (bt h2 J1.out); have L2 := Lib.hid l2; have L1' := Lib.hid (And.intro (L1.out.1.below h2) (L1.out.2.below h2)); clear h2 l2)
          | (go_at_call 20; (with_reducible refine (HSM.out x2 _ _ _ _ L1'.out L2.out).mono ?_); rintro e3 x3 ⟨rfl, h3⟩; have J3 := Lib.hid (bt h3 J2.out); clear h3)
          | (go_at_call 21; (with_reducible refine (HMA.out x3 J3.out).mono ?_); rintro e4 x4 ⟨vn4, vk4, rfl, l4, h4⟩; have J4 := Lib.hid (bt h4 J3.out); have L4 := Lib.hid l4; clear h4 l4)
          | (go_at_call 21; (with_reducible refine (HMD.out x4 J4.out).mono ?_); rintro e5 x5 ⟨vn5, vk5, rfl, l5, h5⟩; have J5 := Lib.hid (bt h5 J4.out); have L5 := Lib.hid l5; have L4' := Lib.hid (And.intro (L4.out.1.below h5) (L4.out.2.below h5)); clear h5 l5)
          | (go_at_call 20; (with_reducible refine (HSM.out x5 _ _ _ _ L4'.out L5.out).mono ?_); rintro e6 x6 ⟨rfl, h6⟩; have J6 := Lib.hid (bt h6 J5.out); clear h6))
        all_goals (
          have HBz := Lib.hid (bt J6.out HB4.out)
          have hlt := HLT.out
          go_wp2
          go_roundg (T1.length - (k + 1))
          case measure => omega
          case rel => exact ⟨k + 1, by go_num, by omega, rfl, HBz.out⟩)
    · have hle : ¬ (k : Int) + 1 ≤ (T1.length : Int) := by omega
      have HBz := Lib.hid (bt HBR.out HB9.out)
      go_wp2
      go_ret
      exact ⟨rfl, HBz.out⟩
end Go.Proofs.YtinalglbibmmpaaGreat
