/-
  The program's changed, overlaid and WriteAt. The conditions are said at each.
-/
import Derived.Test.YtfopnfgfoicidaaGreatFcB
import Derived.Test.YtfopnfgfoicidaaGreatCD
import Derived.Deep.RegionWith
import Derived.Deep.DeepCutAuto
import Derived.Deep.CutBlock
namespace Go.Proofs.YtfopnfgfoicidaaGreat
open Go Go.RowKit
set_option maxRecDepth 100000

attribute [local go_sem] cell_off4 cell_blk4
set_option maxHeartbeats 8000000 in
/-- A node with other bytes, as who asks writes it. -/
theorem changed_any (n : Nd) (c : Wh) (A0 : Option Addr) (m k : Nat) (A1 A2 A9 : Option Addr) (n1 c1 n2 c2 n9 k9 : Nat) (w : World) :
    Calls Tryz.prog 44 #[.agg #[.int .i64 n.kind, .int .i64 n.mode, .int .i64 n.uid, .int .i64 n.gid, .slice A1 n1 c1, .slice A2 n2 c2, .string (bA n.target)], .agg #[.int .i64 c.u, .int .i64 c.g, .slice A0 m k], .slice A9 n9 k9] w fun e w' => e = .returned (.agg #[.int .i64 n.kind, .int .i64 (writM c.u n.kind n.mode), .int .i64 n.uid, .int .i64 n.gid, .slice A9 n9 k9, .slice A2 n2 c2, .string (bA n.target)]) ∧ Below w.heap.size w w' := by
  have hb3 : Below w.heap.size w (((w.alloc (.cells #[.int .i64 n.kind, .int .i64 n.mode, .int .i64 n.uid, .int .i64 n.gid, .slice A1 n1 c1, .slice A2 n2 c2, .string (bA n.target)] 56)).alloc (.cells #[.int .i64 c.u, .int .i64 c.g, .slice A0 m k] 25)).alloc (.cells ndZ 56)) := al (al (ba _ _) _) _
  have hkN : Blk (((w.alloc (.cells #[.int .i64 n.kind, .int .i64 n.mode, .int .i64 n.uid, .int .i64 n.gid, .slice A1 n1 c1, .slice A2 n2 c2, .string (bA n.target)] 56)).alloc (.cells #[.int .i64 c.u, .int .i64 c.g, .slice A0 m k] 25)).alloc (.cells ndZ 56)) w.heap.size 56 #[.int .i64 n.kind, .int .i64 n.mode, .int .i64 n.uid, .int .i64 n.gid, .slice A1 n1 c1, .slice A2 n2 c2, .string (bA n.target)] := ((Blk.new w 56 #[.int .i64 n.kind, .int .i64 n.mode, .int .i64 n.uid, .int .i64 n.gid, .slice A1 n1 c1, .slice A2 n2 c2, .string (bA n.target)]).alloc _).alloc _
  have hkC : Blk (((w.alloc (.cells #[.int .i64 n.kind, .int .i64 n.mode, .int .i64 n.uid, .int .i64 n.gid, .slice A1 n1 c1, .slice A2 n2 c2, .string (bA n.target)] 56)).alloc (.cells #[.int .i64 c.u, .int .i64 c.g, .slice A0 m k] 25)).alloc (.cells ndZ 56)) (w.heap.size + 1) 25 #[.int .i64 c.u, .int .i64 c.g, .slice A0 m k] := by have h1 := (Blk.new (w.alloc (.cells #[.int .i64 n.kind, .int .i64 n.mode, .int .i64 n.uid, .int .i64 n.gid, .slice A1 n1 c1, .slice A2 n2 c2, .string (bA n.target)] 56)) 25 #[.int .i64 c.u, .int .i64 c.g, .slice A0 m k]).alloc (.cells ndZ 56); simpa using h1
  have hkR : Blk (((w.alloc (.cells #[.int .i64 n.kind, .int .i64 n.mode, .int .i64 n.uid, .int .i64 n.gid, .slice A1 n1 c1, .slice A2 n2 c2, .string (bA n.target)] 56)).alloc (.cells #[.int .i64 c.u, .int .i64 c.g, .slice A0 m k] 25)).alloc (.cells ndZ 56)) (w.heap.size + 1 + 1) 56 ndZ := by have h1 := Blk.new ((w.alloc (.cells #[.int .i64 n.kind, .int .i64 n.mode, .int .i64 n.uid, .int .i64 n.gid, .slice A1 n1 c1, .slice A2 n2 c2, .string (bA n.target)] 56)).alloc (.cells #[.int .i64 c.u, .int .i64 c.g, .slice A0 m k] 25)) 56 ndZ; simpa using h1
  obtain ⟨W1, hW1⟩ : ∃ W, (((w.alloc (.cells #[.int .i64 n.kind, .int .i64 n.mode, .int .i64 n.uid, .int .i64 n.gid, .slice A1 n1 c1, .slice A2 n2 c2, .string (bA n.target)] 56)).alloc (.cells #[.int .i64 c.u, .int .i64 c.g, .slice A0 m k] 25)).alloc (.cells ndZ 56)) = W := ⟨_, rfl⟩
  rw [hW1] at hb3 hkN hkC hkR
  obtain ⟨zc, hzc⟩ : ∃ z, w.heap.size + 1 = z := ⟨_, rfl⟩
  rw [hzc] at hkC hkR
  obtain ⟨zr, hzr⟩ : ∃ z, zc + 1 = z := ⟨_, rfl⟩
  rw [hzr] at hkR
  have hnz : zr ≠ w.heap.size := by omega
  have hcz : zc ≠ w.heap.size := by omega
  have hlz : w.heap.size ≤ zr := by omega
  obtain ⟨M, hM⟩ : ∃ M, writM c.u n.kind n.mode = M := ⟨_, rfl⟩
  have hWT := fun (W : World) => written_any c.u c.g A0 m k n.kind n.mode W
  rw [hM] at hWT
  rw [hM]
  have HWT := Lib.hid hWT
  have HB3 := Lib.hid hb3
  have HKN := Lib.hid hkN
  have HKC := Lib.hid hkC
  have HKR := Lib.hid hkR
  have HNZ := Lib.hid hnz
  have HCZ := Lib.hid hcz
  have HLZ := Lib.hid hlz
  obtain ⟨p0, p1, p2, p3, p4, p5, p6⟩ := hkN.c7
  obtain ⟨f0, f1, f2, f3, f4, f5, f6⟩ := hkN.f7
  clear hb3 hkN hkC hkR hnz hcz hlz hM hWT
  go_enter Tryz.func44, Tryz.ntmps44
  go_upto_region 2 with fail
  clear hW1 hzc hzr p0 p1 p2 p3 p4 p5 p6 f0 f1 f2 f3 f4 f5 f6
  have hg := grown_setCell W1 ⟨w.heap.size, 4, none⟩ (.slice A9 n9 k9)
  have hkN2 := HKN.out.set7_4 (.slice A9 n9 k9)
  have hkC2 := HKC.out.kept hg (some_ne HCZ.out)
  have hkR2 := HKR.out.kept hg (some_ne HNZ.out)
  have hb4 := below_grown HB3.out hg (Nat.le_refl _)
  obtain ⟨W2, hW2⟩ : ∃ W, W1.setCell ⟨w.heap.size, 4, none⟩ (.slice A9 n9 k9) = W := ⟨_, rfl⟩
  rw [hW2] at hkN2 hkC2 hkR2 hb4 ⊢
  have HB4 := Lib.hid hb4
  have HKN2 := Lib.hid hkN2
  have HKC2 := Lib.hid hkC2
  have HKR2 := Lib.hid hkR2
  clear hg hkN2 hkC2 hkR2 hb4 hW2 HB3 HKN HKC HKR
  obtain ⟨p0, p1, p2, p3, p4, p5, p6⟩ := HKN2.out.c7
  obtain ⟨k0, k1, k2⟩ := HKC2.out.c3
  go_wp2_with fail
  refine (HWT.out _).mono ?_
  rintro e w3 ⟨rfl, hb⟩
  have hkN3 := HKN2.out.below hb
  have HKR3 := Lib.hid (HKR2.out.below hb)
  have HB5 := Lib.hid (bt hb HB4.out)
  have HKN3 := Lib.hid hkN3
  clear hb hkN3 k0 k1 k2 p0 p1 p2 p3 p4 p5 p6 HWT
  obtain ⟨p0, p1, p2, p3, p4, p5, p6⟩ := HKN3.out.c7
  obtain ⟨f0, f1, f2, f3, f4, f5, f6⟩ := HKN3.out.f7
  go_upto_region 3 with fail
  clear p0 p1 p2 p3 p4 p5 p6 f0 f1 f2 f3 f4 f5 f6
  have hg := grown_setCell w3 ⟨w.heap.size, 1, none⟩ (.int .i64 M)
  have hkN4 : Blk (w3.setCell ⟨w.heap.size, 1, none⟩ (.int .i64 M)) w.heap.size 56 #[.int .i64 n.kind, .int .i64 M, .int .i64 n.uid, .int .i64 n.gid, .slice A9 n9 k9, .slice A2 n2 c2, .string (bA n.target)] := HKN3.out.set_ 1 _
  have hkR4 := HKR3.out.kept hg (some_ne HNZ.out)
  have hb6 := below_grown HB5.out hg (Nat.le_refl _)
  obtain ⟨W4, hW4⟩ : ∃ W, w3.setCell ⟨w.heap.size, 1, none⟩ (.int .i64 M) = W := ⟨_, rfl⟩
  rw [hW4] at hkN4 hkR4 hb6 ⊢
  have HB6 := Lib.hid hb6
  clear hb6 hg hW4
  obtain ⟨p0, p1, p2, p3, p4, p5, p6⟩ := hkN4.c7
  obtain ⟨x0, x1, x2, x3, x4, x5, x6⟩ := hkR4.c7
  obtain ⟨f0, f1, f2, f3, f4, f5, f6⟩ := hkR4.f7
  obtain ⟨s0, s1, s2, s3, s4, s5, s6⟩ := hkR4.s7
  have HE := Lib.hid (below_grown HB6.out (grown7 W4 zr (.int .i64 n.kind) (.int .i64 M) (.int .i64 n.uid) (.int .i64 n.gid) (.slice A9 n9 k9) (.slice A2 n2 c2) (.string (bA n.target))) HLZ.out)
  clear hkN4 hkR4
  go_wp2
  exact bodyPost_ret (v := .agg #[.int .i64 n.kind, .int .i64 M, .int .i64 n.uid, .int .i64 n.gid, .slice A9 n9 k9, .slice A2 n2 c2, .string (bA n.target)]) (by simp [results, Tryz.results44, go_sem, s0, s1, s2, s3, s4, s5, s6]) rfl ⟨rfl, HE.out⟩
/-- What lies behind two copies is what is written. -/
theorem row_ovr (d b : List UInt8) (o n : Nat) (hn : max d.length (o + b.length) = n) :
    (((List.replicate n (0 : UInt8)).take 0 ++ d.take d.length ++ (List.replicate n (0 : UInt8)).drop (0 + d.length)).take o ++ b.take b.length ++ ((List.replicate n (0 : UInt8)).take 0 ++ d.take d.length ++ (List.replicate n (0 : UInt8)).drop (0 + d.length)).drop (o + b.length)) = ovr d o b := by
  unfold ovr
  rw [List.take_zero, List.nil_append, List.take_length, List.take_length, Nat.zero_add, List.drop_replicate, List.append_assoc]
  congr 1
  · rw [List.take_append, List.take_append, List.take_replicate, List.take_replicate]
    congr 2
    omega
  · congr 1
    rw [List.drop_append, List.drop_replicate, show n - d.length - (o + b.length - d.length) = 0 by omega, List.replicate_zero, List.append_nil]
theorem tail_row (g n o : Nat) (h : o < n) (w : World) : (Instr.slice 43 (.slice (some ⟨g, 0, none⟩) n n) (some (.int .i64 (o : Int))) none none).run Tryz.prog w = .ok (.slice (some ⟨g, o, none⟩) (n - o) (n - o)) w := by
  rw [run_slice_l w _ _ _ _ (by kernel_rfl) .i64 (o : Int) (by omega) (by omega), size_bt]
  have e : (⟨g, 0, none⟩ : Addr).add (o * 1) = ⟨g, o, none⟩ := by unfold Addr.add; by_cases hk : o = 0 <;> simp [hk]
  simp [Result.andThen, sliced]
  rw [if_neg (by omega)]
  simpa using e
set_option maxHeartbeats 8000000 in
/-- Bytes that are laid over others. -/
theorem overlaid_any (d b : List UInt8) (A1 A9 : Option Addr) (c1 k9 o9 : Nat) (w : World) (hd : BytesR w (.slice A1 d.length c1) d) (hb : BytesR w (.slice A9 b.length k9) b) (hb0 : 0 < b.length) (hdl : d.length ≤ 48) (hbl : o9 + b.length ≤ 48) (n9 : Nat) (hn9 : max d.length (o9 + b.length) = n9) :
    Calls Tryz.prog 45 #[.slice A1 d.length c1, .int .i64 (o9 : Int), .slice A9 b.length k9] w fun e w' => ∃ y, e = .returned (.slice (some ⟨y, 0, none⟩) n9 n9) ∧ BytesT w' (.slice (some ⟨y, 0, none⟩) n9 n9) (ovr d o9 b) ∧ Below w.heap.size w w' := by
  have hn48 : n9 ≤ 48 := by omega
  have hmax : max (d.length : Int) ((o9 : Int) + (b.length : Int)) = (n9 : Int) := by omega
  have hsum : IntKind.i64.wrap ((o9 : Int) + (b.length : Int)) = (o9 : Int) + (b.length : Int) := by rw [IntKind.wrap_i64] <;> omega
  have hmk := make_zero n9 (by omega) w
  have hbm := ba w (.cells (bCells (List.replicate n9 0)).toArray 5)
  have hkm : RowB (w.alloc (.cells (bCells (List.replicate n9 0)).toArray 5)) w.heap.size (List.replicate n9 0) := Blk.new w 5 _
  have hdm := hd.below (ba w (.cells (bCells (List.replicate n9 0)).toArray 5))
  obtain ⟨W2, hW2⟩ : ∃ W, w.alloc (.cells (bCells (List.replicate n9 0)).toArray 5) = W := ⟨_, rfl⟩
  obtain ⟨y, hy⟩ : ∃ y, w.heap.size = y := ⟨_, rfl⟩
  rw [hW2] at hbm hkm hdm hmk
  rw [hy] at hkm hmk
  have hgw : w.heap.size ≤ y := by omega
  obtain ⟨W3, hcp1, hrow1, hgr1⟩ := copy_bytes (o := 0) (dl := n9) (dc := n9) hkm hdm (k := d.length) (Nat.min_eq_left (by omega)) (by rw [List.length_replicate]; omega)
  have hb3 := below_grown hbm hgr1 hgw
  have hrl : ((List.replicate n9 (0 : UInt8)).take 0 ++ d.take d.length ++ (List.replicate n9 (0 : UInt8)).drop (0 + d.length)).length = n9 := by simp; omega
  obtain ⟨W4, hcp2, hrow2, hgr2⟩ := copy_bytes (o := o9) (dl := n9 - o9) (dc := n9 - o9) hrow1 (hb.below hb3) (k := b.length) (Nat.min_eq_left (by omega)) (by rw [hrl]; omega)
  have hb4 := below_grown hb3 hgr2 hgw
  rw [row_ovr d b o9 n9 hn9] at hrow2
  have hrt := tail_row y n9 o9 (by omega) W3
  have hdt := hrow2.bytesT (n := n9) (c := n9) (by rw [ovr_len]; exact hn9)
  have HE := Lib.hid (And.intro hdt hb4)
  clear hd hb hb0 hdl hbm hkm hdm hgw hrow1 hrow2 hgr1 hgr2 hb3 hb4 hrl hdt hW2 hy hn9
  go_enter Tryz.func45, Tryz.ntmps45
  go_upto_region 4 with fail
  go_wp2
  go_ret
  exact ⟨y, rfl, HE.out.1, HE.out.2⟩
/-- What WriteAt answers. -/
def FwA (w : World) (g : Nat) (P : Nat → Prop) (E : Int) (T : List Nd) (e : Ending) (w' : World) : Prop := e = .returned (.int .i64 E) ∧ TabR w' g T P ∧ w.grownBy w' (some g)
set_option maxHeartbeats 8000000 in
theorem fwrite_slice (g : Nat) (t : List Nd) (P : Nat → Prop) (c : Wh) (A0 : Option Addr) (m k : Nat) (i off : Int) (b : List UInt8) (A9 : Option Addr) (k9 : Nat) (w : World) (h : TabR w g t P) (ho : okT t) (hb : BytesR w (.slice A9 b.length k9) b) (hbl : b.length ≤ 1000) (hP : ∀ b, w.heap.size ≤ b → P b) :
    Calls Tryz.prog 18 #[.pointer (some ⟨g, 0, none⟩), .agg #[.int .i64 c.u, .int .i64 c.g, .slice A0 m k], .int .i64 i, .int .i64 off, .slice A9 b.length k9] w (FwA w g P (fwE t i off b) (fwT t c i off b)) := by
  obtain ⟨N, hN⟩ : ∃ N, tget t i = N := ⟨_, rfl⟩
  have HL := Lib.hid (show N.kind = 1 → N.data.length ≤ 48 from fun hk => by rw [← hN] at hk ⊢; exact (file_parts (tis_right ho (kind_is hk)) hk).2.2.2)
  have HRT := Lib.hid (show ∀ o : Nat, fwE t i (o : Int) b = 0 → b ≠ [] → rightP (wrN c N (ovr N.data o b)) from fun o hf hne => by have h1 := fw_right ho c hf hne; rw [hN] at h1; exact h1)
  have HTI := Lib.hid (show N.kind = 1 → tis t i = true from fun hk => kind_is (by rw [hN]; exact hk))
  have HT2 := Lib.hid (show fwE t i off b = 0 → b ≠ [] → fwT t c i off b = setT t i (wrN c N (ovr N.data off.toNat b)) from fun hf hne => by unfold fwT; rw [if_pos ⟨hf, hne⟩, hN])
  have HT0 := Lib.hid (show ¬ (fwE t i off b = 0 ∧ b ≠ []) → fwT t c i off b = t from fun hf => by unfold fwT; rw [if_neg hf])
  have hb0 := ba w (.cells #[.int .i64 c.u, .int .i64 c.g, .slice A0 m k] 25)
  have hk0 := Blk.new w 25 #[.int .i64 c.u, .int .i64 c.g, .slice A0 m k]
  obtain ⟨W0, hW0⟩ : ∃ W, w.alloc (.cells #[.int .i64 c.u, .int .i64 c.g, .slice A0 m k] 25) = W := ⟨_, rfl⟩
  rw [hW0] at hb0 hk0
  have HG := Lib.hid (file_any (h.below hb0).ptr i N hN)
  obtain ⟨E, hE⟩ : ∃ E, fwE t i off b = E := ⟨_, rfl⟩
  have hE2 := hE
  unfold fwE at hE2
  rw [hN] at hE2
  have HE := Lib.hid hE2
  have HK0 := Lib.hid hk0
  have HB0 := Lib.hid hb0
  have HT := Lib.hid h
  have HY := Lib.hid hb
  have HP := Lib.hid hP
  have HBL := Lib.hid hbl
  have HZ := Lib.hid (show w.heap.size ≠ g from Nat.ne_of_gt h.lt)
  have HEE := Lib.hid hE
  rw [hE]
  clear h ho hN hE hE2 hb hbl hP hb0
  go_enter Tryz.func18, Tryz.ntmps18
  go_wp2_with fail
  clear hW0
  refine HG.out.mono ?_
  rintro e w1 ⟨A1, c1, A2, c2, rfl, ⟨hd, he, hc⟩, hb⟩
  have hbx := al (bt hb HB0.out) (.cells #[.int .i64 N.kind, .int .i64 N.mode, .int .i64 N.uid, .int .i64 N.gid, .slice A1 N.data.length c1, .slice A2 N.ents.length c2, .string (bA N.target)] 56)
  have hkx := Blk.new w1 56 #[.int .i64 N.kind, .int .i64 N.mode, .int .i64 N.uid, .int .i64 N.gid, .slice A1 N.data.length c1, .slice A2 N.ents.length c2, .string (bA N.target)]
  have hdx : BytesT (w1.alloc (.cells #[.int .i64 N.kind, .int .i64 N.mode, .int .i64 N.uid, .int .i64 N.gid, .slice A1 N.data.length c1, .slice A2 N.ents.length c2, .string (bA N.target)] 56)) (.slice A1 N.data.length c1) N.data := hd.below (ba _ _)
  have hex : EntsT (w1.alloc (.cells #[.int .i64 N.kind, .int .i64 N.mode, .int .i64 N.uid, .int .i64 N.gid, .slice A1 N.data.length c1, .slice A2 N.ents.length c2, .string (bA N.target)] 56)) (.slice A2 N.ents.length c2) N.ents := he.below (ba _ _)
  have hcx := (HK0.out.below hb).below (ba w1 (.cells #[.int .i64 N.kind, .int .i64 N.mode, .int .i64 N.uid, .int .i64 N.gid, .slice A1 N.data.length c1, .slice A2 N.ents.length c2, .string (bA N.target)] 56))
  obtain ⟨W1, hW1⟩ : ∃ W, w1.alloc (.cells #[.int .i64 N.kind, .int .i64 N.mode, .int .i64 N.uid, .int .i64 N.gid, .slice A1 N.data.length c1, .slice A2 N.ents.length c2, .string (bA N.target)] 56) = W := ⟨_, rfl⟩
  obtain ⟨z, hz⟩ : ∃ z, w1.heap.size = z := ⟨_, rfl⟩
  rw [hW1] at hbx hkx hdx hex hcx
  rw [hz] at hkx
  have HKX := Lib.hid hkx
  have HDX := Lib.hid hdx
  have HEX := Lib.hid hex
  have HCX := Lib.hid hcx
  have HBX := Lib.hid hbx
  clear hb hd he hc hbx hkx hdx hex hcx hk0 HG HK0 HB0
  go_upto_block 0 with fail
  clear hW1 hz
  obtain ⟨a0, -, -, -, a4, -, -⟩ := HKX.out.c7
  by_cases qk : N.kind = 1
  case neg =>
    have yk : (N.kind == 1) = false := by simpa using qk
    have e1 : E = 9 := by rw [← HE.out, if_pos qk]
    have H1 := Lib.hid (And.intro e1 (HT0.out (fun q => by rw [HEE.out, e1] at q; exact absurd q.1 (by decide))))
    clear qk e1
    go_wp2
    go_ret
    exact ⟨ret_int H1.out.1.symm, by rw [H1.out.2]; exact HT.out.below HBX.out, grown_below HBX.out _⟩
  have yk : (N.kind == 1) = true := by simpa using qk
  have HQK := Lib.hid qk
  clear qk
  by_cases qo : off < 0
  · have e1 : E = 22 := by rw [← HE.out, if_neg (fun q => q HQK.out), if_pos qo]
    have H1 := Lib.hid (And.intro e1 (HT0.out (fun q => by rw [HEE.out, e1] at q; exact absurd q.1 (by decide))))
    clear e1
    go_wp2
    go_ret
    exact ⟨ret_int H1.out.1.symm, by rw [H1.out.2]; exact HT.out.below HBX.out, grown_below HBX.out _⟩
  obtain ⟨o9, rfl⟩ : ∃ o : Nat, off = (o : Int) := ⟨off.toNat, by omega⟩
  by_cases qb : b = []
  · have e1 : E = 0 := by rw [← HE.out, if_neg (fun q => q HQK.out), if_neg qo, if_pos qb]
    have H1 := Lib.hid (And.intro e1 (HT0.out (fun q => q.2 qb)))
    have yb : ((b.length : Int) == 0) = true := by rw [qb]; rfl
    clear e1 qb
    go_wp2
    go_ret
    exact ⟨ret_int H1.out.1.symm, by rw [H1.out.2]; exact HT.out.below HBX.out, grown_below HBX.out _⟩
  have yb : ((b.length : Int) == 0) = false := by simp; exact qb
  have HQB := Lib.hid qb
  have hb1 := List.length_pos_iff.mpr qb
  clear qb
  by_cases qf : 48 < (o9 : Int) + (b.length : Int)
  · have e1 : E = 27 := by rw [← HE.out, if_neg (fun q => q HQK.out), if_neg qo, if_neg HQB.out, if_pos qf]
    have H1 := Lib.hid (And.intro e1 (HT0.out (fun q => by rw [HEE.out, e1] at q; exact absurd q.1 (by decide))))
    have hbl := HBL.out
    have hw : IntKind.i64.wrap (48 - (b.length : Int)) = 48 - (b.length : Int) := by rw [IntKind.wrap_i64] <;> omega
    have q9 : 48 - (b.length : Int) < (o9 : Int) := by omega
    clear e1 qf
    go_wp2
    go_ret
    exact ⟨ret_int H1.out.1.symm, by rw [H1.out.2]; exact HT.out.below HBX.out, grown_below HBX.out _⟩
  have e1 : E = 0 := by rw [← HE.out, if_neg (fun q => q HQK.out), if_neg qo, if_neg HQB.out, if_neg qf]
  have hTT : fwT t c i (o9 : Int) b = setT t i (wrN c N (ovr N.data o9 b)) := HT2.out (by rw [HEE.out, e1]) HQB.out
  have hRT := HRT.out o9 (by rw [HEE.out, e1]) HQB.out
  have hl48 := HL.out HQK.out
  have hbl := HBL.out
  have hw : IntKind.i64.wrap (48 - (b.length : Int)) = 48 - (b.length : Int) := by rw [IntKind.wrap_i64] <;> omega
  have hq9 : ¬ 48 - (b.length : Int) < (o9 : Int) := by omega
  go_upto_region 10 with fail
  obtain ⟨n9, hn9⟩ : ∃ n, max N.data.length (o9 + b.length) = n := ⟨_, rfl⟩
  have HOV := Lib.hid (fun (V : World) (hv : Below W1.heap.size W1 V) => overlaid_any N.data b A1 A9 c1 k9 o9 V (HDX.out.below hv).1 (HY.out.below (bt hv HBX.out)) hb1 hl48 (by omega) n9 hn9)
  have HCH := Lib.hid (fun (V : World) (y : Nat) => changed_any N c A0 m k A1 A2 (some ⟨y, 0, none⟩) N.data.length c1 N.ents.length c2 n9 n9 V)
  have HPT := Lib.hid (fun (V : World) (y : Nat) (hv : Below W1.heap.size W1 V) (hbv : BytesT V (.slice (some ⟨y, 0, none⟩) n9 n9) (ovr N.data o9 b)) => show Calls Tryz.prog 43 #[.pointer (some ⟨g, 0, none⟩), .int .i64 i, .agg #[.int .i64 N.kind, .int .i64 (writM c.u N.kind N.mode), .int .i64 N.uid, .int .i64 N.gid, .slice (some ⟨y, 0, none⟩) n9 n9, .slice A2 N.ents.length c2, .string (bA N.target)]] V fun e w' => e = .returned (.int .i64 0) ∧ TabR w' g (setT t i (wrN c N (ovr N.data o9 b))) P ∧ V.grownBy w' (some g) from by
    have h1 := put_any g t P i (wrN c N (ovr N.data o9 b)) (.slice (some ⟨y, 0, none⟩) n9 n9) (.slice A2 N.ents.length c2) V (HT.out.below (bt hv HBX.out)) hbv.1 (HEX.out.below hv).1 (right_few hRT) (fun b q => HP.out b (Nat.le_trans (bt hv HBX.out).size q))
    rw [actT, if_pos rfl, if_pos ⟨HTI.out HQK.out, toB_true hRT⟩, putE, if_neg (by rw [HTI.out HQK.out]; decide), if_neg (by rw [toB_true hRT]; decide)] at h1
    exact h1)
  have HPR := Lib.hid (fun (V : World) (hv : Below W1.heap.size W1 V) => show V.cell? ⟨z, 0, none⟩ = some (.int .i64 N.kind) ∧ V.cell? ⟨z, 1, none⟩ = some (.int .i64 N.mode) ∧ V.cell? ⟨z, 2, none⟩ = some (.int .i64 N.uid) ∧ V.cell? ⟨z, 3, none⟩ = some (.int .i64 N.gid) ∧ V.cell? ⟨z, 4, none⟩ = some (.slice A1 N.data.length c1) ∧ V.cell? ⟨z, 5, none⟩ = some (.slice A2 N.ents.length c2) ∧ V.cell? ⟨z, 6, none⟩ = some (.string (bA N.target)) ∧ V.cell? ⟨w.heap.size, 0, none⟩ = some (.int .i64 c.u) ∧ V.cell? ⟨w.heap.size, 1, none⟩ = some (.int .i64 c.g) ∧ V.cell? ⟨w.heap.size, 2, none⟩ = some (.slice A0 m k) from by
    obtain ⟨a0, a1, a2, a3, a4, a5, a6⟩ := (HKX.out.below hv).c7
    obtain ⟨b0, b1, b2⟩ := (HCX.out.below hv).c3
    exact ⟨a0, a1, a2, a3, a4, a5, a6, b0, b1, b2⟩)
  have HPG := Lib.hid (fun (V V' : World) (hv : Below W1.heap.size W1 V) (hg : V.grownBy V' (some g)) => show V'.cell? ⟨z, 0, none⟩ = some (.int .i64 N.kind) ∧ V'.cell? ⟨z, 1, none⟩ = some (.int .i64 N.mode) ∧ V'.cell? ⟨z, 2, none⟩ = some (.int .i64 N.uid) ∧ V'.cell? ⟨z, 3, none⟩ = some (.int .i64 N.gid) ∧ V'.cell? ⟨z, 4, none⟩ = some (.slice A1 N.data.length c1) ∧ V'.cell? ⟨z, 5, none⟩ = some (.slice A2 N.ents.length c2) ∧ V'.cell? ⟨z, 6, none⟩ = some (.string (bA N.target)) ∧ V'.cell? ⟨w.heap.size, 0, none⟩ = some (.int .i64 c.u) ∧ V'.cell? ⟨w.heap.size, 1, none⟩ = some (.int .i64 c.g) ∧ V'.cell? ⟨w.heap.size, 2, none⟩ = some (.slice A0 m k) from by
    obtain ⟨cs2, hgx, -⟩ := (HT.out.below (bt hv HBX.out)).blk
    obtain ⟨a0, a1, a2, a3, a4, a5, a6⟩ := ((HKX.out.below hv).kept hg (some_ne (blk_ne (HKX.out.below hv) hgx (by decide)))).c7
    obtain ⟨b0, b1, b2⟩ := ((HCX.out.below hv).kept hg (some_ne HZ.out)).c3
    exact ⟨a0, a1, a2, a3, a4, a5, a6, b0, b1, b2⟩)
  have j0 := Lib.hid (show Below W1.heap.size W1 W1.drew from (Below.refl _ _).drew)
  have HEND := Lib.hid (And.intro e1 hTT)
  clear e1 hTT hRT hl48 hbl hn9 hb1 a0 a4 HL HTI HT2 HT0 HE HEE
  go_region_held3 (fun V => V.cell? ⟨z, 0, none⟩ = some (.int .i64 N.kind) ∧ V.cell? ⟨z, 1, none⟩ = some (.int .i64 N.mode) ∧ V.cell? ⟨z, 2, none⟩ = some (.int .i64 N.uid) ∧ V.cell? ⟨z, 3, none⟩ = some (.int .i64 N.gid) ∧ V.cell? ⟨z, 4, none⟩ = some (.slice A1 N.data.length c1) ∧ V.cell? ⟨z, 5, none⟩ = some (.slice A2 N.ents.length c2) ∧ V.cell? ⟨z, 6, none⟩ = some (.string (bA N.target)) ∧ V.cell? ⟨w.heap.size, 0, none⟩ = some (.int .i64 c.u) ∧ V.cell? ⟨w.heap.size, 1, none⟩ = some (.int .i64 c.g) ∧ V.cell? ⟨w.heap.size, 2, none⟩ = some (.slice A0 m k))
    (first | (with_reducible exact HPR.out _ j0.out) | (with_reducible exact HPR.out _ j1.out) | (with_reducible exact HPR.out _ j2.out) | (with_reducible exact HPG.out _ _ j2.out h5.out.2))
    (first
    | (go_at_call 45; (with_reducible refine (HOV.out _ j0.out).mono ?_); rintro e1 w3 ⟨y, rfl, hdt, hb3⟩; have j1 := Lib.hid (bt hb3 j0.out); have d1 := Lib.hid hdt; clear hb3 hdt)
    | (go_at_call 44; (with_reducible refine (HCH.out _ _).mono ?_); rintro e2 w4 ⟨rfl, hb4⟩; have j2 := Lib.hid (bt hb4 j1.out); have d2 := Lib.hid (d1.out.below hb4); clear hb4)
    | (go_at_call 43; (with_reducible refine (HPT.out _ _ j2.out d2.out).mono ?_); rintro e3 w5 ⟨rfl, ht, hg⟩; have h5 := Lib.hid (And.intro ht hg); clear ht hg))
  all_goals (
    go_wp2
    go_ret
    exact ⟨ret_int HEND.out.1.symm, by rw [HEND.out.2]; exact h5.out.1, grown_trans (grown_below (bt j2.out HBX.out) _) h5.out.2⟩)
theorem fwriteC : WriteC := fun g t P c A0 m k i off b vb w h ho _ hb hbl hP => by
  obtain ⟨A9, k9, rfl⟩ := bytes_form hb rfl
  exact fwrite_slice g t P c A0 m k i off b A9 k9 w h ho hb hbl hP
end Go.Proofs.YtfopnfgfoicidaaGreat
