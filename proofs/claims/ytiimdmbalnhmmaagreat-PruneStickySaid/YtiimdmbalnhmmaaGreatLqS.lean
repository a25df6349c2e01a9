/-
  The walk of PruneSticky: it answers true of whatever is told, of any who ask, of any paths, of what is taken away and of what is moved. The conditions: what is told is no longer than a machine can hold; what is said of package prune.
-/
import Derived.Test.YtiimdmbalnhmmaaGreatAwR
import Derived.Deep.RegionWith
import Derived.Deep.RegionHeld3
import Derived.Deep.DeepCutAuto
import Derived.Deep.CutBlock
namespace Go.Proofs.YtiimdmbalnhmmaaGreat
open Go Go.RowKit
set_option maxRecDepth 100000

attribute [local go_sem] cell_off4 cell_blk4
theorem blt_kept {W W' : World} {x g : Nat} {T U : List Nd} {P Q : Nat → Prop} (h : TabR W x T P) (hg : TabR W g U Q) (hgr : W.grownBy W' (some g)) (hne : x ≠ g) : TabR W' x T P := by
  obtain ⟨cs, hb, -⟩ := hg.blk
  exact h.kind hgr hne hb (by decide) (by decide)
/-- What was done, behind some steps. -/
structure Mad (w W : World) (x g u : Nat) (c : Wh) (A0 : Option Addr) (n0 k0 : Nat) (T1 T : List Nd) : Prop where
  tab : TabR W g T1 (fun _ => True)
  was : TabR W u T (fun _ => True)
  who : Blk W x 25 #[.int .i64 c.u, .int .i64 c.g, .slice A0 n0 k0]
  below : Below w.heap.size w W
/-- A node that is read, cell by cell, and where its lists lie. -/
theorem get_formsB {g : Nat} {t : List Nd} {P : Nat → Prop} {W : World} (h : TabR W g t P) (i : Int) (n : Nd) (q : Bool) (hn : tget t i = n) (hq : tis t i = q) : Calls Tryz.prog 28 #[.pointer (some ⟨g, 0, none⟩), .int .i64 i] W fun e w' => ∃ A1 n1 c1 A2 c2, e = .returned (.tuple #[.agg #[.int .i64 n.kind, .int .i64 n.mode, .int .i64 n.uid, .int .i64 n.gid, .slice A1 n1 c1, .slice A2 n.ents.length c2, .string (bA n.target)], .bool q]) ∧ (BytesT w' (.slice A1 n1 c1) n.data ∧ EntsT w' (.slice A2 n.ents.length c2) n.ents) ∧ Below W.heap.size W w' := by
  refine (get_any (.pointer (some ⟨g, 0, none⟩)) t i W h.ptr).mono ?_
  rintro e w' ⟨vd, ve, rfl, hd, he, -, -, hb⟩
  rw [hn] at hd he ⊢
  rw [hq]
  obtain ⟨A1, c1, rfl⟩ := bytesT_form hd
  obtain ⟨A2, c2, rfl⟩ := entsT_form he
  exact ⟨_, _, _, _, _, rfl, ⟨hd, he⟩, hb⟩
/-- What a change of a tree, by who isn't root, takes out of directories with the sticky bit. -/
def Stk (c : Wh) (T : List Nd) (E : Int) (T1 : List Nd) : Prop := E = 0 → c.u ≠ 0 → ∀ (j : Int) (e : En), e ∈ (tget T j).ents → fnd (tget T1 j).ents e.1 ≠ e.2 → ¬ (bits .and .i64 (tget T j).mode 512 ≠ 0 ∧ (tget T j).uid ≠ c.u ∧ (tget T e.2).uid ≠ c.u)
set_option maxHeartbeats 8000000 in
theorem lsticky_any (x0 : Int) (v1 : Value) (l : List Rw) (c : Wh) (A0 : Option Addr) (n0 k0 : Nat) (HPC : PruneC) (s r : ByteArray) (mv : Bool) (w : World) (h1 : RawsR w v1 l) (hl1 : l.length ≤ maxLen) (h2 : IntsR w (.slice A0 n0 k0) c.gs) :
    Calls Tryz.prog 7 #[.int .i64 x0, v1, .agg #[.int .i64 c.u, .int .i64 c.g, .slice A0 n0 k0], .string s, .string r, .bool mv] w fun e w' => e = .returned (.bool true) ∧ Below w.heap.size w w' := by
  have hb0 := ba w (.cells #[.int .i64 c.u, .int .i64 c.g, .slice A0 n0 k0] 25)
  have hk0 := Blk.new w 25 #[.int .i64 c.u, .int .i64 c.g, .slice A0 n0 k0]
  obtain ⟨W1, hW1⟩ : ∃ W1, w.alloc (.cells #[.int .i64 c.u, .int .i64 c.g, .slice A0 n0 k0] 25) = W1 := ⟨_, rfl⟩
  rw [hW1] at hb0 hk0
  have HA := Lib.hid (awk15_any HPC W1)
  have HR := Lib.hid (h1.below hb0)
  have HI := Lib.hid (h2.below hb0)
  have HL := Lib.hid hl1
  have HC0 := Lib.hid h2
  have HB0 := Lib.hid hb0
  have HK0 := Lib.hid hk0
  clear h1 h2 hl1 hb0 hk0
  go_enter Tryz.func7, Tryz.ntmps7
  go_wp2_with fail
  clear hW1
  refine HA.out.mono ?_
  rintro e w2 ⟨rfl, hb2⟩
  have hk2 := HK0.out.below hb2
  have HB2 := Lib.hid (bt hb2 HB0.out)
  have HK2 := Lib.hid hk2
  have HI2 := Lib.hid (HI.out.below hb2)
  have HBL := Lib.hid (built_any x0 v1 l c A0 n0 k0 w2 (HR.out.below hb2) HL.out HI2.out)
  obtain ⟨k0', k1, k2⟩ := hk2.c3
  clear hb2 HA HK0 HI HR HB0
  go_wp2_with fail
  refine HBL.out.mono ?_
  rintro e w3 ⟨hans, hb3⟩
  have HB3 := Lib.hid (bt hb3 HB2.out)
  have hk3 := HK2.out.below hb3
  have HI3 := Lib.hid (HI2.out.below hb3)
  have hkl := hk2.lt
  clear k0' k1 k2 hb3 HBL hk2
  rcases hans with ⟨rfl, -⟩ | ⟨g, T, rfl, hB, hT, hG⟩
  · clear hk3 hkl
    go_wp2
    go_ret
    exact ⟨rfl, HB3.out⟩
  have HTT := Lib.hid hT
  have HTR := Lib.hid (tre_trx (tre_all hB.2).1)
  have HCR := Lib.hid (show CrR w c A0 n0 k0 from ⟨HC0.out, by have := hB.1.2; omega⟩)
  have HK3 := Lib.hid hk3
  have HGE := Lib.hid (show w.heap.size ≤ g from Nat.le_trans HB2.out.size hG)
  have HKG := Lib.hid (show w.heap.size ≠ g from Nat.ne_of_lt (Nat.lt_of_lt_of_le hkl hG))
  have HGL := Lib.hid hT.lt
  have HOC := Lib.hid (off_of HC0.out HGE.out)
  obtain ⟨k0', k1, k2⟩ := hk3.c3
  clear hT hB hk3 HK2 HI2 HB2 hG hkl HC0 HI3
  by_cases hc : 60 < s.size
  · have yc : (s.size : Int) > 60 := by omega
    clear hc
    go_wp2
    go_ret
    exact ⟨rfl, HB3.out⟩
  have yc : ¬ (s.size : Int) > 60 := by omega
  by_cases hd : 60 < r.size
  · have yd : (r.size : Int) > 60 := by omega
    clear hd
    go_wp2
    go_ret
    exact ⟨rfl, HB3.out⟩
  have yd : ¬ (r.size : Int) > 60 := by omega
  clear hc hd
  by_cases hu0 : c.u = 0
  · have yu : (c.u == 0) = true := by simpa using hu0
    clear hu0
    go_wp2
    go_ret
    exact ⟨rfl, HB3.out⟩
  have yu : (c.u == 0) = false := by simpa using hu0
  have HU0 := Lib.hid hu0
  clear hu0
  obtain ⟨P, rfl⟩ : ∃ P, s = bA P := ⟨tl s, (bA_tl s).symm⟩
  obtain ⟨Q, rfl⟩ : ∃ Q, r = bA Q := ⟨tl r, (bA_tl r).symm⟩
  have HUL := Lib.hid (fun (W : World) (h : TabR W g T (fun _ => True)) (hb : Below w.heap.size w W) => show Calls Tryz.prog 18 #[.pointer (some ⟨g, 0, none⟩), .agg #[.int .i64 c.u, .int .i64 c.g, .slice A0 n0 k0], .string (bA P), .slice none 0 0] W fun e w' => e = .returned (.int .i64 (ulE T c (resM T c P false))) ∧ TabR w' g (ulT T c (resM T c P false) []) (fun _ => True) ∧ W.grownBy w' (some g) from HPC.ul g T (fun _ => True) c A0 n0 k0 P [] none 0 0 W h HTR.out (HCR.out.below hb) (IntsR.nil W) (by decide) HOC.out (off_nil none g) (fun _ _ => trivial))
  have HRN := Lib.hid (fun (W : World) (h : TabR W g T (fun _ => True)) (hb : Below w.heap.size w W) => show Calls Tryz.prog 23 #[.pointer (some ⟨g, 0, none⟩), .agg #[.int .i64 c.u, .int .i64 c.g, .slice A0 n0 k0], .string (bA P), .string (bA Q), .slice none 0 0] W fun e w' => e = .returned (.int .i64 (mvE T c (resM T c P false) (resM T c Q false))) ∧ TabR w' g (mvT T c (resM T c P false) (resM T c Q false) []) (fun _ => True) ∧ W.grownBy w' (some g) from HPC.rn g T (fun _ => True) c A0 n0 k0 P Q [] none 0 0 W h HTR.out (HCR.out.below hb) (IntsR.nil W) (by decide) HOC.out (off_nil none g) (fun _ _ => trivial))
  have O1 := Lib.hid (show Stk c T (ulE T c (resM T c P false)) (ulT T c (resM T c P false) []) from fun h1 h2 j e h3 h4 => stk_ul HTR.out h2 h1 h3 h4)
  have O3 := Lib.hid (show Stk c T (mvE T c (resM T c P false) (resM T c Q false)) (mvT T c (resM T c P false) (resM T c Q false) []) from fun h1 h2 j e h3 h4 => stk_mv HTR.out h2 h1 h3 h4)
  go_wp2_with fail
  refine (clone_any g T (fun _ => True) (fun _ => True) w3 HTT.out (fun _ _ => trivial)).mono ?_
  rintro e w4 ⟨rfl, hu, hb4⟩
  have HUG := Lib.hid (show w3.heap.size ≠ g from Nat.ne_of_gt HGL.out)
  generalize w3.heap.size = u at hu HUG ⊢
  have HU4 := Lib.hid hu
  have HT4 := Lib.hid (HTT.out.below hb4)
  have hk4 := HK3.out.below hb4
  have HK4 := Lib.hid hk4
  have HB4 := Lib.hid (bt hb4 HB3.out)
  clear hu hb4 k0' k1 k2
  obtain ⟨k0', k1, k2⟩ := hk4.c3
  clear hk4
  go_upto_if 55 with fail
  go_cut [17] (fun s17 wx => ∃ E T1, s17 = .int .i64 E ∧ Stk c T E T1 ∧ Mad w wx w.heap.size g u c A0 n0 k0 T1 T)
  case first =>
    cases mv
    · go_wp2_with fail
      refine (HUL.out w4 HT4.out HB4.out).mono ?_
      rintro e w5 ⟨rfl, ht, hgr⟩
      have HMD := Lib.hid (show Mad w w5 w.heap.size g u c A0 n0 k0 (ulT T c (resM T c P false) []) T from ⟨ht, blt_kept HU4.out HT4.out hgr HUG.out, HK4.out.kept hgr (some_ne HKG.out), grown_bl HB4.out hgr HGE.out⟩)
      clear ht hgr
      go_wp2
      go_meet
      exact ⟨_, _, rfl, O1.out, HMD.out⟩
    · go_wp2_with fail
      refine (HRN.out w4 HT4.out HB4.out).mono ?_
      rintro e w5 ⟨rfl, ht, hgr⟩
      have HMD := Lib.hid (show Mad w w5 w.heap.size g u c A0 n0 k0 (mvT T c (resM T c P false) (resM T c Q false) []) T from ⟨ht, blt_kept HU4.out HT4.out hgr HUG.out, HK4.out.kept hgr (some_ne HKG.out), grown_bl HB4.out hgr HGE.out⟩)
      clear ht hgr
      go_wp2
      go_meet
      exact ⟨_, _, rfl, O3.out, HMD.out⟩
  case rest =>
  obtain ⟨E, T1, rfl, hO, hM⟩ := hcut
  obtain ⟨w5, hw5⟩ : ∃ W, wc = W := ⟨_, rfl⟩
  rw [hw5] at hM ⊢
  have HT5 := Lib.hid hM.tab
  have HU5 := Lib.hid hM.was
  have HK5 := Lib.hid hM.who
  have HB5 := Lib.hid hM.below
  have HO := Lib.hid hO
  clear hw5 hM hO k0' k1 k2 O1 O3 HUL HRN HT4 HU4 HK4 HB4 HTT HK3
  by_cases qE : E = 0
  case neg =>
    have yE : (E != 0) = true := by simpa using qE
    clear qE
    go_wp2
    go_ret
    exact ⟨rfl, HB5.out⟩
  have yE : (E != 0) = false := by simpa using qE
  have HST := Lib.hid (HO.out qE HU0.out)
  have HF1 := Lib.hid (fun (j : Int) => ok_few HT5.out.ok j)
  have HF2 := Lib.hid (fun (j : Int) => ok_few HU5.out.ok j)
  have hL24 : T1.length ≤ 24 := HT5.out.hi
  clear qE HO
  go_wp2
  go_loopg [18] T1.length (fun gh s18 wr => ∃ k : Nat, s18 = .int .i64 ((k : Int) + 1) ∧ k ≤ T1.length ∧ gh = T1.length - k ∧ Below w5.heap.size w5 wr)
  case atStart => exact ⟨0, by rfl, Nat.zero_le _, rfl, Below.refl _ _⟩
  case round =>
    obtain ⟨k, rfl, hk, rfl, hbr⟩ := hrel
    have HBR := Lib.hid hbr
    have HTr := Lib.hid (HT5.out.below hbr)
    have HUr := Lib.hid (HU5.out.below hbr)
    clear hbr
    go_wp2_with fail
    refine (room_any _ T1 wr HTr.out.ptr).mono ?_
    rintro e wq ⟨rfl, rfl⟩
    by_cases hlt : k < T1.length
    · have hlt' : (k : Int) + 1 ≤ (T1.length : Int) := by omega
      have HLT := Lib.hid hlt
      obtain ⟨qa, hqa⟩ : ∃ q, tis T ((k : Int) + 1) = q := ⟨_, rfl⟩
      obtain ⟨qb, hqb⟩ : ∃ q, tis T1 ((k : Int) + 1) = q := ⟨_, rfl⟩
      obtain ⟨a, ha⟩ : ∃ n, tget T ((k : Int) + 1) = n := ⟨_, rfl⟩
      obtain ⟨b, hb0⟩ : ∃ n, tget T1 ((k : Int) + 1) = n := ⟨_, rfl⟩
      have HG1 := Lib.hid (get_formsB HUr.out ((k : Int) + 1) a qa ha hqa)
      have HG2 := Lib.hid (fun (W : World) (hb : Below wr.heap.size wr W) => get_formsB (HTr.out.below hb) ((k : Int) + 1) b qb hb0 hqb)
      have HFA := Lib.hid (show Few a from by rw [← ha]; exact HF2.out _)
      have HFB := Lib.hid (show Few b from by rw [← hb0]; exact HF1.out _)
      have HSA := Lib.hid (show ∀ e ∈ a.ents, fnd b.ents e.1 ≠ e.2 → ¬ (bits .and .i64 a.mode 512 ≠ 0 ∧ a.uid ≠ c.u ∧ (tget T e.2).uid ≠ c.u) from fun e h1 h2 => by
        have h := HST.out ((k : Int) + 1) e (by rw [ha]; exact h1) (by rw [hb0]; exact h2)
        rw [ha] at h
        exact h)
      clear hlt ha hb0 hqa hqb
      go_wp2_with fail
      refine HG1.out.mono ?_
      rintro e wa ⟨A1, m1, c1, B1, d1, rfl, hl, hb⟩
      have hbx := al hb (.cells #[.int .i64 a.kind, .int .i64 a.mode, .int .i64 a.uid, .int .i64 a.gid, .slice A1 m1 c1, .slice B1 a.ents.length d1, .string (bA a.target)] 59)
      have hkx := Blk.new wa 59 #[.int .i64 a.kind, .int .i64 a.mode, .int .i64 a.uid, .int .i64 a.gid, .slice A1 m1 c1, .slice B1 a.ents.length d1, .string (bA a.target)]
      have hlx : BytesT (wa.alloc (.cells #[.int .i64 a.kind, .int .i64 a.mode, .int .i64 a.uid, .int .i64 a.gid, .slice A1 m1 c1, .slice B1 a.ents.length d1, .string (bA a.target)] 59)) (.slice A1 m1 c1) a.data ∧ EntsT (wa.alloc (.cells #[.int .i64 a.kind, .int .i64 a.mode, .int .i64 a.uid, .int .i64 a.gid, .slice A1 m1 c1, .slice B1 a.ents.length d1, .string (bA a.target)] 59)) (.slice B1 a.ents.length d1) a.ents := ⟨hl.1.below (ba _ _), hl.2.below (ba _ _)⟩
      have hlo := hb.size
      obtain ⟨Wa, hWa⟩ : ∃ W, wa.alloc (.cells #[.int .i64 a.kind, .int .i64 a.mode, .int .i64 a.uid, .int .i64 a.gid, .slice A1 m1 c1, .slice B1 a.ents.length d1, .string (bA a.target)] 59) = W := ⟨_, rfl⟩
      obtain ⟨za, hza⟩ : ∃ z, wa.heap.size = z := ⟨_, rfl⟩
      rw [hWa] at hbx hkx hlx
      rw [hza] at hkx hlo
      have HBa := Lib.hid hbx
      have HXa := Lib.hid hkx
      have HLa := Lib.hid hlx
      have HG3 := Lib.hid (HG2.out Wa hbx)
      clear hb hbx hkx hl hlx hlo HG1 HG2
      go_wp2_with fail
      clear hWa hza
      refine HG3.out.mono ?_
      rintro e wb ⟨A2, m2, c2, B2, d2, rfl, hl, hb⟩
      have hbx := al hb (.cells #[.int .i64 b.kind, .int .i64 b.mode, .int .i64 b.uid, .int .i64 b.gid, .slice A2 m2 c2, .slice B2 b.ents.length d2, .string (bA b.target)] 59)
      have hkx := Blk.new wb 59 #[.int .i64 b.kind, .int .i64 b.mode, .int .i64 b.uid, .int .i64 b.gid, .slice A2 m2 c2, .slice B2 b.ents.length d2, .string (bA b.target)]
      have hlx : BytesT (wb.alloc (.cells #[.int .i64 b.kind, .int .i64 b.mode, .int .i64 b.uid, .int .i64 b.gid, .slice A2 m2 c2, .slice B2 b.ents.length d2, .string (bA b.target)] 59)) (.slice A2 m2 c2) b.data ∧ EntsT (wb.alloc (.cells #[.int .i64 b.kind, .int .i64 b.mode, .int .i64 b.uid, .int .i64 b.gid, .slice A2 m2 c2, .slice B2 b.ents.length d2, .string (bA b.target)] 59)) (.slice B2 b.ents.length d2) b.ents := ⟨hl.1.below (ba _ _), hl.2.below (ba _ _)⟩
      have hlo := hb.size
      obtain ⟨Wb, hWb⟩ : ∃ W, wb.alloc (.cells #[.int .i64 b.kind, .int .i64 b.mode, .int .i64 b.uid, .int .i64 b.gid, .slice A2 m2 c2, .slice B2 b.ents.length d2, .string (bA b.target)] 59) = W := ⟨_, rfl⟩
      obtain ⟨zb, hzb⟩ : ∃ z, wb.heap.size = z := ⟨_, rfl⟩
      rw [hWb] at hbx hkx hlx
      rw [hzb] at hkx hlo
      have HXa2 := Lib.hid (HXa.out.below hbx)
      have HXb := Lib.hid hkx
      have HEa := Lib.hid (HLa.out.2.below hbx)
      have HLb := Lib.hid hlx
      have HUb := Lib.hid (HUr.out.below (bt hbx HBa.out))
      have HKb := Lib.hid (HK5.out.below (bt (bt hbx HBa.out) HBR.out))
      have HBb := Lib.hid (bt (bt hbx HBa.out) HBR.out)
      obtain ⟨a0, a1, a2, a3, a4, a5, a6⟩ := HXa2.out.c7
      have hle1 : a.ents.length ≤ 1000 := HFA.out.ents
      have HFD := Lib.hid (fun (nm : Nm) (W : World) (hb : Below Wb.heap.size Wb W) => show Calls Tryz.prog 32 #[.agg #[.int .i64 b.kind, .int .i64 b.mode, .int .i64 b.uid, .int .i64 b.gid, .slice A2 m2 c2, .slice B2 b.ents.length d2, .string (bA b.target)], .string (bA nm)] W fun e w' => e = .returned (.int .i64 (fnd b.ents nm)) ∧ Below W.heap.size W w' from find_any b (.slice A2 m2 c2) (.slice B2 b.ents.length d2) nm W (HLb.out.1.below hb).1 (HLb.out.2.below hb).1 HFB.out.ents)
      clear hb hbx hkx hl hlx hlo HG3 HBa HXa HLa HTr HUr HBR HLb HFA HFB
      go_wp2
      clear hWb hzb
      go_loopg [23] a.ents.length (fun gh s23 wi => ∃ k2 : Nat, s23 = .int .i64 (k2 : Int) ∧ k2 ≤ a.ents.length ∧ gh = a.ents.length - k2 ∧ Below Wb.heap.size Wb wi)
      case atStart => exact ⟨0, rfl, Nat.zero_le _, rfl, Below.refl _ _⟩
      case round =>
        obtain ⟨k2, rfl, hk2, rfl, hbi⟩ := hrel
        rename World => wi
        have HBI := Lib.hid hbi
        clear a0 a1 a2 a3 a4 a5 a6
        obtain ⟨a0, a1, a2, a3, a4, a5, a6⟩ := (HXa2.out.below hbi).c7
        clear hbi
        by_cases hlt2 : k2 < a.ents.length
        · have hlt3 : (k2 : Int) < (a.ents.length : Int) := by omega
          have HLT2 := Lib.hid hlt2
          obtain ⟨e, hke⟩ : ∃ e, a.ents[k2]? = some e := ⟨_, List.getElem?_eq_getElem hlt2⟩
          have HKE := Lib.hid hke
          have HSE := Lib.hid (HSA.out e (List.mem_of_getElem? hke))
          obtain ⟨ad, rfl, -, -⟩ := ents_get HEa.out.1 hke
          obtain ⟨n, hn⟩ : ∃ n, tget T e.2 = n := ⟨_, rfl⟩
          obtain ⟨qn, hqn⟩ : ∃ q, tis T e.2 = q := ⟨_, rfl⟩
          have HGN := Lib.hid (fun (W : World) (hb : Below wi.heap.size wi W) => get_formsB (HUb.out.below (bt hb HBI.out)) e.2 n qn hn hqn)
          rw [hn] at HSE
          clear hn hqn hlt2
          have HPR := Lib.hid (fun (W : World) (hb : Below wi.heap.size wi W) => show W.cell? ⟨za, 5, none⟩ = some (.slice (some ad) a.ents.length d1) ∧ (W.cell? ⟨zb, 0, none⟩ = some (.int .i64 b.kind) ∧ W.cell? ⟨zb, 1, none⟩ = some (.int .i64 b.mode) ∧ W.cell? ⟨zb, 2, none⟩ = some (.int .i64 b.uid) ∧ W.cell? ⟨zb, 3, none⟩ = some (.int .i64 b.gid) ∧ W.cell? ⟨zb, 4, none⟩ = some (.slice A2 m2 c2) ∧ W.cell? ⟨zb, 5, none⟩ = some (.slice B2 b.ents.length d2) ∧ W.cell? ⟨zb, 6, none⟩ = some (.string (bA b.target))) ∧ W.cell? (ad.add (k2 * 2)) = some (.string (bA e.1)) ∧ W.cell? ⟨(ad.add (k2 * 2)).block, (ad.add (k2 * 2)).off + 1, none⟩ = some (.int .i64 e.2) ∧ Below wi.heap.size wi W from by
            obtain ⟨ad', e1, e2, e3⟩ := ents_get (HEa.out.below (bt hb HBI.out)).1 hke
            injection e1 with e1
            subst e1
            exact ⟨(HXa2.out.below (bt hb HBI.out)).c7.2.2.2.2.2.1, (HXb.out.below (bt hb HBI.out)).c7, e2, e3, hb⟩)
          obtain ⟨X, hX⟩ : ∃ X, fnd b.ents e.1 = X := ⟨_, rfl⟩
          have HFE := Lib.hid (fun (W : World) (hb : Below wi.heap.size wi W) => show Calls Tryz.prog 32 #[.agg #[.int .i64 b.kind, .int .i64 b.mode, .int .i64 b.uid, .int .i64 b.gid, .slice A2 m2 c2, .slice B2 b.ents.length d2, .string (bA b.target)], .string (bA e.1)] W fun e w' => e = .returned (.int .i64 X) ∧ Below W.heap.size W w' from by have h := HFD.out e.1 W (bt hb HBI.out); rw [hX] at h; exact h)
          rw [hX] at HSE
          obtain ⟨B, yB⟩ : ∃ B, (X == e.2) = B := ⟨_, rfl⟩
          have HSB := Lib.hid (show B = false → ¬ (bits .and .i64 a.mode 512 ≠ 0 ∧ a.uid ≠ c.u ∧ n.uid ≠ c.u) from fun q => HSE.out (by rw [q] at yB; simpa using yB))
          have j0 : Below wi.heap.size wi wi.drew := (Below.refl _ _).drew
          clear hX hke HKE HSE
          go_upto_region 22 with fail
          go_region_held3 (fun W => W.cell? ⟨za, 5, none⟩ = some (.slice (some ad) a.ents.length d1) ∧ (W.cell? ⟨zb, 0, none⟩ = some (.int .i64 b.kind) ∧ W.cell? ⟨zb, 1, none⟩ = some (.int .i64 b.mode) ∧ W.cell? ⟨zb, 2, none⟩ = some (.int .i64 b.uid) ∧ W.cell? ⟨zb, 3, none⟩ = some (.int .i64 b.gid) ∧ W.cell? ⟨zb, 4, none⟩ = some (.slice A2 m2 c2) ∧ W.cell? ⟨zb, 5, none⟩ = some (.slice B2 b.ents.length d2) ∧ W.cell? ⟨zb, 6, none⟩ = some (.string (bA b.target))) ∧ W.cell? (ad.add (k2 * 2)) = some (.string (bA e.1)) ∧ W.cell? ⟨(ad.add (k2 * 2)).block, (ad.add (k2 * 2)).off + 1, none⟩ = some (.int .i64 e.2) ∧ Below wi.heap.size wi W)
            (first | (with_reducible exact HPR.out _ j0) | (with_reducible exact HPR.out _ j1))
            (first | (go_at_call 32; (with_reducible refine (HFE.out _ j0).mono ?_); rintro e1 x1 ⟨rfl, h1⟩; have j1 := bt h1 j0; clear h1))
          have J1 := Lib.hid j1
          obtain ⟨-, -, c0, d0, -⟩ := HPR.out _ j1
          clear a0 a1 a2 a3 a4 a5 a6
          obtain ⟨a0, a1, a2, a3, a4, a5, a6⟩ := (HXa2.out.below (bt j1 HBI.out)).c7
          clear j0 j1
          cases B with
          | true =>
            have HB7 := Lib.hid (bt J1.out HBI.out)
            have hlt2 := HLT2.out
            go_wp2
            go_roundg (a.ents.length - (k2 + 1))
            case measure => omega
            case rel => exact ⟨k2 + 1, by go_num, by omega, rfl, HB7.out⟩
          | false =>
            have HSN := Lib.hid (HSB.out rfl)
            have HGM := Lib.hid (HGN.out _ J1.out)
            clear HSB HGN HPR
            go_wp2_with fail
            refine HGM.out.mono ?_
            rintro e wn ⟨A3, m3, c3, B3, d3, rfl, hl, hb⟩
            have hbx := al hb (.cells #[.int .i64 n.kind, .int .i64 n.mode, .int .i64 n.uid, .int .i64 n.gid, .slice A3 m3 c3, .slice B3 n.ents.length d3, .string (bA n.target)] 59)
            have hkx := Blk.new wn 59 #[.int .i64 n.kind, .int .i64 n.mode, .int .i64 n.uid, .int .i64 n.gid, .slice A3 m3 c3, .slice B3 n.ents.length d3, .string (bA n.target)]
            have hlx : BytesT (wn.alloc (.cells #[.int .i64 n.kind, .int .i64 n.mode, .int .i64 n.uid, .int .i64 n.gid, .slice A3 m3 c3, .slice B3 n.ents.length d3, .string (bA n.target)] 59)) (.slice A3 m3 c3) n.data ∧ EntsT (wn.alloc (.cells #[.int .i64 n.kind, .int .i64 n.mode, .int .i64 n.uid, .int .i64 n.gid, .slice A3 m3 c3, .slice B3 n.ents.length d3, .string (bA n.target)] 59)) (.slice B3 n.ents.length d3) n.ents := ⟨hl.1.below (ba _ _), hl.2.below (ba _ _)⟩
            have hlo := hb.size
            obtain ⟨Wn, hWn⟩ : ∃ W, wn.alloc (.cells #[.int .i64 n.kind, .int .i64 n.mode, .int .i64 n.uid, .int .i64 n.gid, .slice A3 m3 c3, .slice B3 n.ents.length d3, .string (bA n.target)] 59) = W := ⟨_, rfl⟩
            obtain ⟨zn, hzn⟩ : ∃ z, wn.heap.size = z := ⟨_, rfl⟩
            rw [hWn] at hbx hkx hlx
            rw [hzn] at hkx hlo
            have J3 := Lib.hid (bt (bt hbx J1.out) HBI.out)
            clear a0 a1 a2 a3 a4 a5 a6 c0 d0
            obtain ⟨a0, a1, a2, a3, a4, a5, a6⟩ := (HXa2.out.below J3.out).c7
            obtain ⟨k0', k1, k2'⟩ := (HKb.out.below J3.out).c3
            obtain ⟨p0, p1, p2, p3, p4, p5, p6⟩ := hkx.c7
            obtain ⟨B1, y1⟩ : ∃ B, (bits .and .i64 a.mode 512 != 0) = B := ⟨_, rfl⟩
            obtain ⟨B2, y2⟩ : ∃ B, (a.uid != c.u) = B := ⟨_, rfl⟩
            obtain ⟨B3, y3⟩ : ∃ B, (n.uid != c.u) = B := ⟨_, rfl⟩
            have HBB := Lib.hid (show B1 = true → B2 = true → B3 = false from fun q1 q2 => by
              rw [q1] at y1
              rw [q2] at y2
              cases B3 with
              | false => rfl
              | true => exact absurd ⟨by simpa using y1, by simpa using y2, by simpa using y3⟩ HSN.out)
            have hlt2 := HLT2.out
            clear hb hbx hkx hl hlx hlo HGM HSN
            cases B1 with
            | false =>
              go_wp2
              clear hWn hzn
              go_roundg (a.ents.length - (k2 + 1))
              case measure => omega
              case rel => exact ⟨k2 + 1, by go_num, by omega, rfl, J3.out⟩
            | true =>
              cases B2 with
              | false =>
                go_wp2
                clear hWn hzn
                go_roundg (a.ents.length - (k2 + 1))
                case measure => omega
                case rel => exact ⟨k2 + 1, by go_num, by omega, rfl, J3.out⟩
              | true =>
                have hB3 := HBB.out rfl rfl
                subst hB3
                go_wp2
                clear hWn hzn
                go_roundg (a.ents.length - (k2 + 1))
                case measure => omega
                case rel => exact ⟨k2 + 1, by go_num, by omega, rfl, J3.out⟩
        · have hle : ¬ (k2 : Int) < (a.ents.length : Int) := by omega
          have HBz := Lib.hid (bt HBI.out HBb.out)
          have hlt := HLT.out
          clear hlt2
          go_wp2
          go_roundg (T1.length - (k + 1))
          case measure => omega
          case rel => exact ⟨k + 1, by go_num, by omega, rfl, HBz.out⟩
    · have hle : ¬ (k : Int) + 1 ≤ (T1.length : Int) := by omega
      have HBz := Lib.hid (bt HBR.out HB5.out)
      go_wp2
      go_ret
      exact ⟨rfl, HBz.out⟩
end Go.Proofs.YtiimdmbalnhmmaaGreat
