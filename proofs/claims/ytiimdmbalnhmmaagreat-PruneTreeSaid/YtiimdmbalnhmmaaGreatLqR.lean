/-
  The walk of PruneTree: it answers true of whatever is told, of any who ask, of any paths and kind. The conditions: what is told is no longer than a machine can hold; what is said of package prune.
-/
import Derived.Test.YtiimdmbalnhmmaaGreatAwR
import Derived.Deep.RegionWith
import Derived.Deep.DeepCutAuto
import Derived.Deep.CutBlock
namespace Go.Proofs.YtiimdmbalnhmmaaGreat
open Go Go.RowKit
set_option maxRecDepth 100000

attribute [local go_sem] cell_off4 cell_blk4
theorem blt_kept {W W' : World} {x g : Nat} {T U : List Nd} {P Q : Nat → Prop} (h : TabR W x T P) (hg : TabR W g U Q) (hgr : W.grownBy W' (some g)) (hne : x ≠ g) : TabR W' x T P := by
  obtain ⟨cs, hb, -⟩ := hg.blk
  exact h.kind hgr hne hb (by decide) (by decide)
/-- What was done, behind some steps. -/
structure Mad (w W : World) (x g u : Nat) (c : Wh) (A0 : Option Addr) (n0 k0 : Nat) (T1 T : List Nd) : Prop where
  tab : TabR W g T1 (fun _ => True)
  was : TabR W u T (fun _ => True)
  who : Blk W x 25 #[.int .i64 c.u, .int .i64 c.g, .slice A0 n0 k0]
  below : Below w.heap.size w W
/-- A node that is read, cell by cell, and where its lists lie. -/
theorem get_formsB {g : Nat} {t : List Nd} {P : Nat → Prop} {W : World} (h : TabR W g t P) (i : Int) (n : Nd) (q : Bool) (hn : tget t i = n) (hq : tis t i = q) : Calls Tryz.prog 28 #[.pointer (some ⟨g, 0, none⟩), .int .i64 i] W fun e w' => ∃ A1 n1 c1 A2 c2, e = .returned (.tuple #[.agg #[.int .i64 n.kind, .int .i64 n.mode, .int .i64 n.uid, .int .i64 n.gid, .slice A1 n1 c1, .slice A2 n.ents.length c2, .string (bA n.target)], .bool q]) ∧ (BytesT w' (.slice A1 n1 c1) n.data ∧ EntsT w' (.slice A2 n.ents.length c2) n.ents) ∧ Below W.heap.size W w' := by
  refine (get_any (.pointer (some ⟨g, 0, none⟩)) t i W h.ptr).mono ?_
  rintro e w' ⟨vd, ve, rfl, hd, he, -, -, hb⟩
  rw [hn] at hd he ⊢
  rw [hq]
  obtain ⟨A1, c1, rfl⟩ := bytesT_form hd
  obtain ⟨A2, c2, rfl⟩ := entsT_form he
  exact ⟨_, _, _, _, _, rfl, ⟨hd, he⟩, hb⟩
/-- Two nodes in boxes, whose entries are taken away. -/
theorem store_two {wr W : World} {za zb : Nat} {csa csb : Array Value} {da db : List UInt8} {va vb : Value} (ha : Blk W za 59 csa) (hb : Blk W zb 59 csb) (la : BytesT W va da) (lb : BytesT W vb db) (ne : za ≠ zb) (lo : wr.heap.size ≤ za ∧ wr.heap.size ≤ zb) (hbl : Below wr.heap.size wr W) (u v : Value) :
    BytesT ((W.setCell ⟨za, 5, none⟩ u).setCell ⟨zb, 5, none⟩ v) va da ∧ BytesT ((W.setCell ⟨za, 5, none⟩ u).setCell ⟨zb, 5, none⟩ v) vb db ∧ Below wr.heap.size wr ((W.setCell ⟨za, 5, none⟩ u).setCell ⟨zb, 5, none⟩ v) := by
  have g1 := grown_setCell W ⟨za, 5, none⟩ u
  have g2 := grown_setCell (W.setCell ⟨za, 5, none⟩ u) ⟨zb, 5, none⟩ v
  have one : ∀ {d : List UInt8} {x : Value}, BytesT W x d → BytesT (W.setCell ⟨za, 5, none⟩ u) x d := fun h => h.other g1 (fun ad n c hv => by obtain ⟨cs, hc⟩ := h.2 ad n c hv; exact blk_ne hc ha (by decide))
  have hb1 : Blk (W.setCell ⟨za, 5, none⟩ u) zb 59 csb := hb.kept g1 (some_ne (fun q => ne q.symm))
  have two : ∀ {d : List UInt8} {x : Value}, BytesT (W.setCell ⟨za, 5, none⟩ u) x d → BytesT ((W.setCell ⟨za, 5, none⟩ u).setCell ⟨zb, 5, none⟩ v) x d := fun h => h.other g2 (fun ad n c hv => by obtain ⟨cs, hc⟩ := h.2 ad n c hv; exact blk_ne hc hb1 (by decide))
  exact ⟨two (one la), two (one lb), below_grown (below_grown hbl g1 lo.1) g2 lo.2⟩
theorem few_noE {n : Nd} (h : Few n) : Few (noE n) := ⟨h.data, Nat.zero_le _, fun _ he => absurd he List.not_mem_nil, h.target⟩
/-- What a change of a tree keeps, and what an error. -/
def Kp (T : List Nd) (E : Int) (T1 : List Nd) : Prop := Kept T T1 ∧ (E ≠ 0 → T1 = T)
set_option maxHeartbeats 8000000 in
theorem ltree_any (x0 : Int) (v1 : Value) (l : List Rw) (c : Wh) (A0 : Option Addr) (n0 k0 : Nat) (HPC : PruneC) (s r : ByteArray) (kd : Int) (w : World) (h1 : RawsR w v1 l) (hl1 : l.length ≤ maxLen) (h2 : IntsR w (.slice A0 n0 k0) c.gs) (hkd : 0 ≤ kd ∧ kd ≤ 255) :
    Calls Tryz.prog 5 #[.int .i64 x0, v1, .agg #[.int .i64 c.u, .int .i64 c.g, .slice A0 n0 k0], .string s, .string r, .int .u8 kd] w fun e w' => e = .returned (.bool true) ∧ Below w.heap.size w w' := by
  have hb0 := ba w (.cells #[.int .i64 c.u, .int .i64 c.g, .slice A0 n0 k0] 25)
  have hk0 := Blk.new w 25 #[.int .i64 c.u, .int .i64 c.g, .slice A0 n0 k0]
  obtain ⟨W1, hW1⟩ : ∃ W1, w.alloc (.cells #[.int .i64 c.u, .int .i64 c.g, .slice A0 n0 k0] 25) = W1 := ⟨_, rfl⟩
  rw [hW1] at hb0 hk0
  have HA := Lib.hid (awk15_any HPC W1)
  have HR := Lib.hid (h1.below hb0)
  have HI := Lib.hid (h2.below hb0)
  have HL := Lib.hid hl1
  have HC0 := Lib.hid h2
  have HB0 := Lib.hid hb0
  have HK0 := Lib.hid hk0
  have HKD := Lib.hid hkd
  clear h1 h2 hl1 hb0 hk0 hkd
  go_enter Tryz.func5, Tryz.ntmps5
  go_wp2_with fail
  clear hW1
  refine HA.out.mono ?_
  rintro e w2 ⟨rfl, hb2⟩
  have hk2 := HK0.out.below hb2
  have HB2 := Lib.hid (bt hb2 HB0.out)
  have HK2 := Lib.hid hk2
  have HI2 := Lib.hid (HI.out.below hb2)
  have HBL := Lib.hid (built_any x0 v1 l c A0 n0 k0 w2 (HR.out.below hb2) HL.out HI2.out)
  obtain ⟨k0', k1, k2⟩ := hk2.c3
  clear hb2 HA HK0 HI HR HB0
  go_wp2_with fail
  refine HBL.out.mono ?_
  rintro e w3 ⟨hans, hb3⟩
  have HB3 := Lib.hid (bt hb3 HB2.out)
  have hk3 := HK2.out.below hb3
  have HI3 := Lib.hid (HI2.out.below hb3)
  have hkl := hk2.lt
  clear k0' k1 k2 hb3 HBL hk2
  rcases hans with ⟨rfl, -⟩ | ⟨g, T, rfl, hB, hT, hG⟩
  · clear hk3 hkl
    go_wp2
    go_ret
    exact ⟨rfl, HB3.out⟩
  have HTT := Lib.hid hT
  have HTR := Lib.hid (tre_trx (tre_all hB.2).1)
  have HCR := Lib.hid (show CrR w c A0 n0 k0 from ⟨HC0.out, by have := hB.1.2; omega⟩)
  have HK3 := Lib.hid hk3
  have HGE := Lib.hid (show w.heap.size ≤ g from Nat.le_trans HB2.out.size hG)
  have HKG := Lib.hid (show w.heap.size ≠ g from Nat.ne_of_lt (Nat.lt_of_lt_of_le hkl hG))
  have HGL := Lib.hid hT.lt
  have HOC := Lib.hid (off_of HC0.out HGE.out)
  obtain ⟨k0', k1, k2⟩ := hk3.c3
  clear hT hB hk3 HK2 HI2 HB2 hG hkl HC0 HI3
  by_cases hc : 100 < s.size
  · have yc : (s.size : Int) > 100 := by omega
    clear hc
    go_wp2
    go_ret
    exact ⟨rfl, HB3.out⟩
  have yc : ¬ (s.size : Int) > 100 := by omega
  by_cases hd : 100 < r.size
  · have yd : (r.size : Int) > 100 := by omega
    clear hd
    go_wp2
    go_ret
    exact ⟨rfl, HB3.out⟩
  have yd : ¬ (r.size : Int) > 100 := by omega
  clear hc hd
  obtain ⟨P, rfl⟩ : ∃ P, s = bA P := ⟨tl s, (bA_tl s).symm⟩
  obtain ⟨Q, rfl⟩ : ∃ Q, r = bA Q := ⟨tl r, (bA_tl r).symm⟩
  have HUL := Lib.hid (fun (W : World) (h : TabR W g T (fun _ => True)) (hb : Below w.heap.size w W) => show Calls Tryz.prog 18 #[.pointer (some ⟨g, 0, none⟩), .agg #[.int .i64 c.u, .int .i64 c.g, .slice A0 n0 k0], .string (bA P), .slice none 0 0] W fun e w' => e = .returned (.int .i64 (ulE T c (resM T c P false))) ∧ TabR w' g (ulT T c (resM T c P false) []) (fun _ => True) ∧ W.grownBy w' (some g) from HPC.ul g T (fun _ => True) c A0 n0 k0 P [] none 0 0 W h HTR.out (HCR.out.below hb) (IntsR.nil W) (by decide) HOC.out (off_nil none g) (fun _ _ => trivial))
  have HRD := Lib.hid (fun (W : World) (h : TabR W g T (fun _ => True)) (hb : Below w.heap.size w W) => show Calls Tryz.prog 19 #[.pointer (some ⟨g, 0, none⟩), .agg #[.int .i64 c.u, .int .i64 c.g, .slice A0 n0 k0], .string (bA P)] W fun e w' => e = .returned (.int .i64 (rdE T c (resM T c P false))) ∧ TabR w' g (rdT T c (resM T c P false)) (fun _ => True) ∧ W.grownBy w' (some g) from HPC.rd g T (fun _ => True) c A0 n0 k0 P W h HTR.out (HCR.out.below hb) HOC.out (fun _ _ => trivial))
  have HRN := Lib.hid (fun (W : World) (h : TabR W g T (fun _ => True)) (hb : Below w.heap.size w W) => show Calls Tryz.prog 23 #[.pointer (some ⟨g, 0, none⟩), .agg #[.int .i64 c.u, .int .i64 c.g, .slice A0 n0 k0], .string (bA P), .string (bA Q), .slice none 0 0] W fun e w' => e = .returned (.int .i64 (mvE T c (resM T c P false) (resM T c Q false))) ∧ TabR w' g (mvT T c (resM T c P false) (resM T c Q false) []) (fun _ => True) ∧ W.grownBy w' (some g) from HPC.rn g T (fun _ => True) c A0 n0 k0 P Q [] none 0 0 W h HTR.out (HCR.out.below hb) (IntsR.nil W) (by decide) HOC.out (off_nil none g) (fun _ _ => trivial))
  have O1 := Lib.hid (show Kp T (ulE T c (resM T c P false)) (ulT T c (resM T c P false) []) from ul_kept HTR.out)
  have O2 := Lib.hid (show Kp T (rdE T c (resM T c P false)) (rdT T c (resM T c P false)) from rd_kept HTR.out)
  have O3 := Lib.hid (show Kp T (mvE T c (resM T c P false) (resM T c Q false)) (mvT T c (resM T c P false) (resM T c Q false) []) from mv_kept HTR.out)
  have HQ3 := Lib.hid (show kd.tmod 3 = 0 ∨ kd.tmod 3 = 1 ∨ kd.tmod 3 = 2 from by have h := HKD.out; rw [Int.tmod_eq_emod_of_nonneg h.1]; omega)
  go_wp2_with fail
  refine (clone_any g T (fun _ => True) (fun _ => True) w3 HTT.out (fun _ _ => trivial)).mono ?_
  rintro e w4 ⟨rfl, hu, hb4⟩
  have HUG := Lib.hid (show w3.heap.size ≠ g from Nat.ne_of_gt HGL.out)
  generalize w3.heap.size = u at hu HUG ⊢
  have HU4 := Lib.hid hu
  have HT4 := Lib.hid (HTT.out.below hb4)
  have hk4 := HK3.out.below hb4
  have HK4 := Lib.hid hk4
  have HB4 := Lib.hid (bt hb4 HB3.out)
  clear hu hb4 k0' k1 k2
  obtain ⟨k0', k1, k2⟩ := hk4.c3
  clear hk4
  go_upto_block 0 with fail
  go_cut [17] from 47 to 66 (fun s17 wx => ∃ E T1, s17 = .int .i64 E ∧ Kp T E T1 ∧ Mad w wx w.heap.size g u c A0 n0 k0 T1 T)
  case first =>
    rcases HQ3.out with hq | hq | hq
    · go_wp2_with fail
      refine (HUL.out w4 HT4.out HB4.out).mono ?_
      rintro e w5 ⟨rfl, ht, hgr⟩
      have HMD := Lib.hid (show Mad w w5 w.heap.size g u c A0 n0 k0 (ulT T c (resM T c P false) []) T from ⟨ht, blt_kept HU4.out HT4.out hgr HUG.out, HK4.out.kept hgr (some_ne HKG.out), grown_bl HB4.out hgr HGE.out⟩)
      clear ht hgr
      go_wp2
      go_meet
      exact ⟨_, _, rfl, O1.out, HMD.out⟩
    · go_wp2_with fail
      refine (HRD.out w4 HT4.out HB4.out).mono ?_
      rintro e w5 ⟨rfl, ht, hgr⟩
      have HMD := Lib.hid (show Mad w w5 w.heap.size g u c A0 n0 k0 (rdT T c (resM T c P false)) T from ⟨ht, blt_kept HU4.out HT4.out hgr HUG.out, HK4.out.kept hgr (some_ne HKG.out), grown_bl HB4.out hgr HGE.out⟩)
      clear ht hgr
      go_wp2
      go_meet
      exact ⟨_, _, rfl, O2.out, HMD.out⟩
    · go_wp2_with fail
      refine (HRN.out w4 HT4.out HB4.out).mono ?_
      rintro e w5 ⟨rfl, ht, hgr⟩
      have HMD := Lib.hid (show Mad w w5 w.heap.size g u c A0 n0 k0 (mvT T c (resM T c P false) (resM T c Q false) []) T from ⟨ht, blt_kept HU4.out HT4.out hgr HUG.out, HK4.out.kept hgr (some_ne HKG.out), grown_bl HB4.out hgr HGE.out⟩)
      clear ht hgr
      go_wp2
      go_meet
      exact ⟨_, _, rfl, O3.out, HMD.out⟩
  case rest =>
  obtain ⟨E, T1, rfl, hO, hM⟩ := hcut
  obtain ⟨w5, hw5⟩ : ∃ W, wc = W := ⟨_, rfl⟩
  rw [hw5] at hM ⊢
  have HT5 := Lib.hid hM.tab
  have HU5 := Lib.hid hM.was
  have HK5 := Lib.hid hM.who
  have HB5 := Lib.hid hM.below
  have HO := Lib.hid hO
  have J5 := Lib.hid (Below.refl w5.heap.size w5)
  clear hw5 hM hO k0' k1 k2 O1 O2 O3 HUL HRD HRN HQ3 HT4 HU4 HK4 HB4 HTT HK3
  by_cases qE : E = 0
  case neg =>
    have yE : (E != 0) = true := by simpa using qE
    have HSE := Lib.hid (show Calls Tryz.prog 24 #[.pointer (some ⟨g, 0, none⟩), .pointer (some ⟨u, 0, none⟩)] w5 fun e w' => e = .returned (.bool true) ∧ Below w5.heap.size w5 w' from by have h := tsame_any (.pointer (some ⟨g, 0, none⟩)) (.pointer (some ⟨u, 0, none⟩)) T1 T w5 HT5.out.ptr HU5.out.ptr; rw [HO.out.2 qE, show toB (sam24 T T) = true from toB_true (fun _ _ => rfl)] at h; exact h)
    clear qE
    go_wp2_with fail
    refine HSE.out.mono ?_
    rintro e w6 ⟨rfl, hb⟩
    have HB6 := Lib.hid (bt hb HB5.out)
    clear hb
    go_wp2
    go_ret
    exact ⟨rfl, HB6.out⟩
  have yE : (E != 0) = false := by simpa using qE
  have HKE := Lib.hid HO.out.1
  have HRI := Lib.hid (show Calls Tryz.prog 25 #[.pointer (some ⟨g, 0, none⟩), .slice none 0 0] w5 fun e w' => e = .returned (.bool true) ∧ Below w5.heap.size w5 w' from by have h1 := tright_any (.pointer (some ⟨g, 0, none⟩)) (.slice none 0 0) T1 [] w5 HT5.out.ptr (IntsR.nil _) (by decide); rw [toB_true (tre_right HKE.out.tre)] at h1; exact h1)
  have HUS := Lib.hid (fun (W : World) (hb : Below w5.heap.size w5 W) => used_any (.pointer (some ⟨g, 0, none⟩)) T1 W (HT5.out.below hb).ptr)
  have HUW := Lib.hid (fun (W : World) (hb : Below w5.heap.size w5 W) => used_any (.pointer (some ⟨u, 0, none⟩)) T W (HU5.out.below hb).ptr)
  obtain ⟨hu1, hu2⟩ := HKE.out.used
  have hu3 := used_le T
  have hu4 := HU5.out.ptr.ok.2
  generalize usedT T1 = n1 at HUS hu1 hu2
  generalize usedT T = n2 at HUW hu1 hu2 hu3
  have y1 : ¬ (n1 : Int) > (n2 : Int) := by omega
  have y2 : IntKind.i64.wrap ((n2 : Int) - 1) = (n2 : Int) - 1 := by rw [IntKind.wrap_i64] <;> omega
  have y3 : ¬ (n1 : Int) < (n2 : Int) - 1 := by omega
  have y4 : n2 ≤ 24 := by omega
  clear qE HO hu1 hu2 hu3 hu4
  go_upto_region 17 with fail
  go_cut [88] (fun s88 wx => s88 = .bool false ∧ Below w5.heap.size w5 wx)
  case first =>
    go_wp2_with fail
    refine HRI.out.mono ?_
    rintro e w6 ⟨rfl, hb⟩
    have J6 := Lib.hid hb
    clear hb HRI
    go_wp2_with fail
    refine (HUS.out w6 J6.out).mono ?_
    rintro e w7 ⟨rfl, hb⟩
    have J7 := Lib.hid (bt hb J6.out)
    clear hb J6
    go_wp2_with fail
    refine (HUW.out w7 J7.out).mono ?_
    rintro e w8 ⟨rfl, hb⟩
    have J8 := Lib.hid (bt hb J7.out)
    clear hb J7
    go_wp2_with fail
    refine (HUS.out w8 J8.out).mono ?_
    rintro e w9 ⟨rfl, hb⟩
    have J9 := Lib.hid (bt hb J8.out)
    clear hb J8
    go_wp2_with fail
    refine (HUW.out w9 J9.out).mono ?_
    rintro e w10 ⟨rfl, hb⟩
    have J10 := Lib.hid (bt hb J9.out)
    clear hb J9
    go_wp2
    go_meet
    exact ⟨by simp; omega, J10.out⟩
  case rest =>
  obtain ⟨rfl, hb10⟩ := hcut
  obtain ⟨w10, hw10⟩ : ∃ W, wc = W := ⟨_, rfl⟩
  rw [hw10] at hb10 ⊢
  have J10 := Lib.hid hb10
  clear hb10 hw10 y1 y2 y3 y4
  have HT9 := Lib.hid (HT5.out.below J10.out)
  have HU9 := Lib.hid (HU5.out.below J10.out)
  have HB9 := Lib.hid (bt J10.out HB5.out)
  have HF1 := Lib.hid (fun (j : Int) => few_noE (ok_few HT5.out.ok j))
  have HF2 := Lib.hid (fun (j : Int) => few_noE (ok_few HU5.out.ok j))
  have hL24 : T1.length ≤ 24 := HT5.out.hi
  clear HT5 HU5 HK5 HB5 J5 J10 HUS HUW
  go_wp2
  go_loopg [18] T1.length (fun gh s18 wr => ∃ k : Nat, s18 = .int .i64 ((k : Int) + 1) ∧ k ≤ T1.length ∧ gh = T1.length - k ∧ Below w10.heap.size w10 wr)
  case atStart => exact ⟨0, by rfl, Nat.zero_le _, rfl, Below.refl _ _⟩
  case round =>
    obtain ⟨k, rfl, hk, rfl, hbr⟩ := hrel
    have HBR := Lib.hid hbr
    have HTr := Lib.hid (HT9.out.below hbr)
    have HUr := Lib.hid (HU9.out.below hbr)
    clear hbr
    go_wp2_with fail
    refine (room_any _ T1 wr HTr.out.ptr).mono ?_
    rintro e wq ⟨rfl, rfl⟩
    by_cases hlt : k < T1.length
    · have hlt' : (k : Int) + 1 ≤ (T1.length : Int) := by omega
      have HLT := Lib.hid hlt
      obtain ⟨qa, hqa⟩ : ∃ q, tis T ((k : Int) + 1) = q := ⟨_, rfl⟩
      obtain ⟨qb, hqb⟩ : ∃ q, tis T1 ((k : Int) + 1) = q := ⟨_, rfl⟩
      obtain ⟨a, ha⟩ : ∃ n, tget T ((k : Int) + 1) = n := ⟨_, rfl⟩
      obtain ⟨b, hb0⟩ : ∃ n, tget T1 ((k : Int) + 1) = n := ⟨_, rfl⟩
      have HG1 := Lib.hid (get_formsB HUr.out ((k : Int) + 1) a qa ha hqa)
      have HG2 := Lib.hid (fun (W : World) (hb : Below wr.heap.size wr W) => get_formsB (HTr.out.below hb) ((k : Int) + 1) b qb hb0 hqb)
      have HFA := Lib.hid (show Few (noE a) from by rw [← ha]; exact HF2.out _)
      have HFB := Lib.hid (show Few (noE b) from by rw [← hb0]; exact HF1.out _)
      have HAB := Lib.hid (show qb = true → qa = true ∧ noE b = noE a from fun q => by have h := HKE.out.head ((k : Int) + 1) (by rw [hqb]; exact q); rw [hqa, ha, hb0] at h; exact h)
      clear hlt ha hb0 hqa hqb
      go_wp2_with fail
      refine HG1.out.mono ?_
      rintro e wa ⟨A1, m1, c1, B1, d1, rfl, hl, hb⟩
      have hbx := al hb (.cells #[.int .i64 a.kind, .int .i64 a.mode, .int .i64 a.uid, .int .i64 a.gid, .slice A1 m1 c1, .slice B1 a.ents.length d1, .string (bA a.target)] 59)
      have hkx := Blk.new wa 59 #[.int .i64 a.kind, .int .i64 a.mode, .int .i64 a.uid, .int .i64 a.gid, .slice A1 m1 c1, .slice B1 a.ents.length d1, .string (bA a.target)]
      have hlx : BytesT (wa.alloc (.cells #[.int .i64 a.kind, .int .i64 a.mode, .int .i64 a.uid, .int .i64 a.gid, .slice A1 m1 c1, .slice B1 a.ents.length d1, .string (bA a.target)] 59)) (.slice A1 m1 c1) a.data ∧ EntsT (wa.alloc (.cells #[.int .i64 a.kind, .int .i64 a.mode, .int .i64 a.uid, .int .i64 a.gid, .slice A1 m1 c1, .slice B1 a.ents.length d1, .string (bA a.target)] 59)) (.slice B1 a.ents.length d1) a.ents := ⟨hl.1.below (ba _ _), hl.2.below (ba _ _)⟩
      have hlo := hb.size
      obtain ⟨Wa, hWa⟩ : ∃ W, wa.alloc (.cells #[.int .i64 a.kind, .int .i64 a.mode, .int .i64 a.uid, .int .i64 a.gid, .slice A1 m1 c1, .slice B1 a.ents.length d1, .string (bA a.target)] 59) = W := ⟨_, rfl⟩
      obtain ⟨za, hza⟩ : ∃ z, wa.heap.size = z := ⟨_, rfl⟩
      rw [hWa] at hbx hkx hlx
      rw [hza] at hkx hlo
      have HBa := Lib.hid hbx
      have HXa := Lib.hid hkx
      have HLa := Lib.hid hlx
      have HOa := Lib.hid hlo
      have HG3 := Lib.hid (HG2.out Wa hbx)
      clear hb hbx hkx hl hlx hlo HG1 HG2
      go_wp2_with fail
      clear hWa hza
      refine HG3.out.mono ?_
      rintro e wb ⟨A2, m2, c2, B2, d2, rfl, hl, hb⟩
      have hbx := al hb (.cells #[.int .i64 b.kind, .int .i64 b.mode, .int .i64 b.uid, .int .i64 b.gid, .slice A2 m2 c2, .slice B2 b.ents.length d2, .string (bA b.target)] 59)
      have hkx := Blk.new wb 59 #[.int .i64 b.kind, .int .i64 b.mode, .int .i64 b.uid, .int .i64 b.gid, .slice A2 m2 c2, .slice B2 b.ents.length d2, .string (bA b.target)]
      have hlx : BytesT (wb.alloc (.cells #[.int .i64 b.kind, .int .i64 b.mode, .int .i64 b.uid, .int .i64 b.gid, .slice A2 m2 c2, .slice B2 b.ents.length d2, .string (bA b.target)] 59)) (.slice A2 m2 c2) b.data ∧ EntsT (wb.alloc (.cells #[.int .i64 b.kind, .int .i64 b.mode, .int .i64 b.uid, .int .i64 b.gid, .slice A2 m2 c2, .slice B2 b.ents.length d2, .string (bA b.target)] 59)) (.slice B2 b.ents.length d2) b.ents := ⟨hl.1.below (ba _ _), hl.2.below (ba _ _)⟩
      have hlo := hb.size
      obtain ⟨Wb, hWb⟩ : ∃ W, wb.alloc (.cells #[.int .i64 b.kind, .int .i64 b.mode, .int .i64 b.uid, .int .i64 b.gid, .slice A2 m2 c2, .slice B2 b.ents.length d2, .string (bA b.target)] 59) = W := ⟨_, rfl⟩
      obtain ⟨zb, hzb⟩ : ∃ z, wb.heap.size = z := ⟨_, rfl⟩
      rw [hWb] at hbx hkx hlx
      rw [hzb] at hkx hlo
      have hne : za ≠ zb := by have h1 := (HXa.out.below hb).lt; rw [hzb] at h1; exact Nat.ne_of_lt h1
      have hxa := HXa.out.below hbx
      have hla := HLa.out.1.below hbx
      have HST := Lib.hid (store_two hxa hkx hla hlx.1 hne ⟨HOa.out, Nat.le_trans HBa.out.size hlo⟩ (bt hbx HBa.out) (.slice none 0 0) (.slice none 0 0))
      have HSM := Lib.hid (show qb = true → ∀ W, Below ((Wb.setCell ⟨za, 5, none⟩ (.slice none 0 0)).setCell ⟨zb, 5, none⟩ (.slice none 0 0)).heap.size ((Wb.setCell ⟨za, 5, none⟩ (.slice none 0 0)).setCell ⟨zb, 5, none⟩ (.slice none 0 0)) W → Calls Tryz.prog 29 #[.agg #[.int .i64 a.kind, .int .i64 a.mode, .int .i64 a.uid, .int .i64 a.gid, .slice A1 m1 c1, .slice none 0 0, .string (bA a.target)], .agg #[.int .i64 b.kind, .int .i64 b.mode, .int .i64 b.uid, .int .i64 b.gid, .slice A2 m2 c2, .slice none 0 0, .string (bA b.target)]] W fun e w' => e = .returned (.bool true) ∧ Below W.heap.size W w' from fun q W hb => by
        have h := same_any (noE a) (noE b) (.slice A1 m1 c1) (.slice none 0 0) (.slice A2 m2 c2) (.slice none 0 0) W (HST.out.1.below hb).1 (EntsR.nil W) (HST.out.2.1.below hb).1 (EntsR.nil W) HFA.out HFB.out
        rw [toB_true (show noE a = noE b from ((HAB.out q).2).symm)] at h
        exact h)
      obtain ⟨a0, a1, a2, a3, a4, a5, a6⟩ := hxa.c7
      obtain ⟨p0, p1, p2, p3, p4, p5, p6⟩ := hxa.f7
      obtain ⟨b0, b1, b2, b3, b4, b5, b6⟩ := hkx.c7
      obtain ⟨r0, r1, r2, r3, r4, r5, r6⟩ := hkx.f7
      have ne2 := hne.symm
      clear hb hbx hkx hl hlx hlo hxa hla HG3 HBa HXa HLa HOa
      cases qb with
      | false =>
        go_wp2
        clear hWb hzb
        have HB10 := Lib.hid (bt HST.out.2.2 HBR.out)
        have hlt := HLT.out
        go_roundg (T1.length - (k + 1))
        case measure => omega
        case rel => exact ⟨k + 1, by go_num, by omega, rfl, HB10.out⟩
      | true =>
        obtain ⟨hqa, -⟩ := HAB.out rfl
        subst hqa
        go_wp2_with fail
        clear hWb hzb
        refine (HSM.out trivial _ (Below.refl _ _)).mono ?_
        rintro e wd ⟨rfl, hb⟩
        have HB10 := Lib.hid (bt hb (bt HST.out.2.2 HBR.out))
        have hlt := HLT.out
        clear hb
        go_wp2
        go_roundg (T1.length - (k + 1))
        case measure => omega
        case rel => exact ⟨k + 1, by go_num, by omega, rfl, HB10.out⟩
    · have hle : ¬ (k : Int) + 1 ≤ (T1.length : Int) := by omega
      have HBz := Lib.hid (bt HBR.out HB9.out)
      go_wp2
      go_ret
      exact ⟨rfl, HBz.out⟩
end Go.Proofs.YtiimdmbalnhmmaaGreat
