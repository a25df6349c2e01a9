/-
  The reference's Create. The conditions are said at each.
-/
import Derived.Test.YtfopnfgfoicidaaGreatRPl
import Derived.Test.YtfopnfgfoicidaaGreatPlC
namespace Go.Proofs.YtfopnfgfoicidaaGreat
open Go Go.RowKit
set_option maxRecDepth 100000

attribute [local go_sem] cell_off4 cell_blk4
set_option maxHeartbeats 8000000 in
theorem rcreate_any {P : Nat → Prop} (v : Value) (t : List Nd) (c : Wh) (A0 : Option Addr) (m0 k0 : Nat) (umask : Int) (p : Nm) (mode : Int) (f : Bool) (w : World) (h : NsR P w v t) (ht : Trx t) (hc : CrR w c A0 m0 k0) (hp : p.length ≤ 1000) (hP : ∀ b, w.heap.size ≤ b → P b) :
    Calls Tryz.prog 29 #[.agg #[v], .agg #[.int .i64 c.u, .int .i64 c.g, .slice A0 m0 k0], .int .i64 umask, .string (bA p), .int .i64 mode, .bool f] w (PlA P w (crT t c umask p mode f) (crI t c umask p mode f) (crE t c umask p mode f)) := by
  obtain ⟨g, cc, rfl⟩ := ns_form h
  obtain ⟨M, hM⟩ : ∃ M, mskM mode umask = M := ⟨_, rfl⟩
  have hmb := msk_bd mode umask
  rw [hM] at hmb
  unfold crT crI crE
  rw [hM]
  obtain ⟨X, hX⟩ : ∃ X, resM t c p f = X := ⟨_, rfl⟩
  obtain ⟨F, E⟩ := X
  rw [hX]
  have HFN := Lib.hid (show E = 0 → F.node = 0 → (tget t F.dir).kind = 2 ∧ nok F.name = true ∧ ¬ F.name ∈ nmE (tget t F.dir).ents from fun q r => by
    have h1 := res_new ht.ok (t := t) (c := c) (p := p) (f := f) (by rw [hX]; exact q) (by rw [hX]; exact r)
    rw [hX] at h1
    exact h1)
  have AE := Lib.hid (show E ≠ 0 → plE t c (F, E) 1 M [] = E ∧ plT t c (F, E) 1 M [] = t ∧ plI t c (F, E) 1 M [] = 0 from fun q => ⟨pl_pre q, pl_err (by rw [pl_pre q]; exact q)⟩)
  have hb0 := ba w (.cells #[.slice (some ⟨g, 0, none⟩) t.length cc] 32)
  have hT0 := Blk.new w 32 #[.slice (some ⟨g, 0, none⟩) t.length cc]
  obtain ⟨W0, hW0⟩ : ∃ W0, w.alloc (.cells #[.slice (some ⟨g, 0, none⟩) t.length cc] 32) = W0 := ⟨_, rfl⟩
  rw [hW0] at hb0 hT0
  have hb1 := al hb0 (.cells #[.int .i64 c.u, .int .i64 c.g, .slice A0 m0 k0] 37)
  have hT1 := hT0.below (ba W0 (.cells #[.int .i64 c.u, .int .i64 c.g, .slice A0 m0 k0] 37))
  have hC1 := Blk.new W0 37 #[.int .i64 c.u, .int .i64 c.g, .slice A0 m0 k0]
  obtain ⟨W1, hW1⟩ : ∃ W1, W0.alloc (.cells #[.int .i64 c.u, .int .i64 c.g, .slice A0 m0 k0] 37) = W1 := ⟨_, rfl⟩
  rw [hW1] at hb1 hT1 hC1
  obtain ⟨bC, hs1⟩ : ∃ bC, W0.heap.size = bC := ⟨_, rfl⟩
  rw [hs1] at hC1
  have hb2 := al hb1 (.cells #[.slice none 0 0] 32)
  have hT2 := hT1.below (ba W1 (.cells #[.slice none 0 0] 32))
  have hC2 := hC1.below (ba W1 (.cells #[.slice none 0 0] 32))
  have hR2 := Blk.new W1 32 #[.slice none 0 0]
  obtain ⟨W2, hW2⟩ : ∃ W2, W1.alloc (.cells #[.slice none 0 0] 32) = W2 := ⟨_, rfl⟩
  rw [hW2] at hb2 hT2 hC2 hR2
  obtain ⟨R, hs2⟩ : ∃ R, W1.heap.size = R := ⟨_, rfl⟩
  rw [hs2] at hR2
  have HRW := Lib.hid (show w.heap.size ≤ R by rw [← hs2]; exact hb1.size)
  have HN2 := Lib.hid (show NsR (fun b => P b ∧ b ≠ R) W2 (.slice (some ⟨g, 0, none⟩) t.length cc) t from (h.mono (fun b hb hl => ⟨hb, by have := HRW.out; omega⟩)).below hb2)
  have HRS := Lib.hid (rres_any (.slice (some ⟨g, 0, none⟩) t.length cc) t c A0 m0 k0 p f W2 (h.below hb2) ht.le ht.ok (hc.below hb2) hp (F, E) hX)
  have HTX := Lib.hid ht
  have HC := Lib.hid hc
  have HP := Lib.hid hP
  have HMB := Lib.hid hmb
  have HMK := Lib.hid (fun (W : World) => show Calls Tryz.prog 60 #[.int .i64 mode, .int .i64 umask] W fun e w' => e = .returned (.int .i64 M) ∧ Below W.heap.size W w' from by have h1 := rmask_any mode umask W; rw [hM] at h1; exact h1)
  have HB2 := Lib.hid hb2
  have HT2 := Lib.hid hT2
  have HC2 := Lib.hid hC2
  have HR2 := Lib.hid hR2
  have t0 := HT2.out.cell 0
  obtain ⟨k0', k1, k2⟩ := HC2.out.c3
  have r0 := HR2.out.cell 0
  have r1 := HR2.out.frozen 0
  simp at t0 r0
  have s0 : ∀ u, (W2.setCell ⟨R, 0, none⟩ u).cell? ⟨R, 0, none⟩ = some u := fun u => (HR2.out.set_ 0 u).cell 0
  have HZ1R := Lib.hid (show w.heap.size ≠ R from by have h1 := hT1.lt; rw [← hs2]; omega)
  have HZ2R := Lib.hid (show bC ≠ R from by have h1 := hC1.lt; rw [← hs2]; omega)
  clear h ht hc hp hP hmb hM hX hb0 hb1 hb2 hT0 hT1 hT2 hC1 hC2 hR2
  go_enter Tryz.func29, Tryz.ntmps29
  go_wp2_with fail
  clear hW0 hW1 hW2 hs1 hs2
  refine HRS.out.mono ?_
  rintro e w3 ⟨rfl, hb3⟩
  have hbx := al hb3 (.cells #[.int .i64 F.dir, .string (bA F.name), .int .i64 F.node] 76)
  have hf4 := Blk.new w3 76 #[.int .i64 F.dir, .string (bA F.name), .int .i64 F.node]
  obtain ⟨y, hy⟩ : ∃ y, w3.heap.size = y := ⟨_, rfl⟩
  obtain ⟨W4, hW4⟩ : ∃ W4, w3.alloc (.cells #[.int .i64 F.dir, .string (bA F.name), .int .i64 F.node] 76) = W4 := ⟨_, rfl⟩
  rw [hW4] at hbx hf4
  rw [hy] at hf4
  have HB4 := Lib.hid (bt hbx HB2.out)
  have HN4 := Lib.hid (HN2.out.below hbx)
  have HT4 := Lib.hid (HT2.out.below hbx)
  have HC4 := Lib.hid (HC2.out.below hbx)
  have HR4 := Lib.hid (HR2.out.below hbx)
  have HF4 := Lib.hid hf4
  have HZ3R := Lib.hid (show y ≠ R from by have h1 := (HR2.out.below hb3).lt; rw [← hy]; omega)
  clear hb3 hbx hf4 k0' k1 k2 t0 r0 r1 s0 HRS HN2 HT2 HC2 HR2 HB2
  have t0 := HT4.out.cell 0
  obtain ⟨k0', k1, k2⟩ := HC4.out.c3
  have r0 := HR4.out.cell 0
  have r1 := HR4.out.frozen 0
  simp at t0 r0
  have s0 : ∀ u, (W4.setCell ⟨R, 0, none⟩ u).cell? ⟨R, 0, none⟩ = some u := fun u => (HR4.out.set_ 0 u).cell 0
  obtain ⟨f0, f1, f2⟩ := HF4.out.c3
  by_cases qE : E = 0
  · have qE' : (E != 0) = false := by simpa using qE
    subst qE
    have HPC := Lib.hid (fun (W : World) (hb : Below W4.heap.size W4 W) => show Calls Tryz.prog 59 #[.agg #[.slice (some ⟨g, 0, none⟩) t.length cc], .agg #[.int .i64 c.u, .int .i64 c.g, .slice A0 m0 k0], .agg #[.int .i64 F.dir, .string (bA F.name), .int .i64 F.node], .agg #[.int .i64 1, .int .i64 M, .int .i64 0, .int .i64 0, .string ⟨#[]⟩, .slice none 0 0, .slice none 0 0, .string ⟨#[]⟩]] W fun e w' => ∃ g' c' n', e = .returned (.tuple #[.agg #[.slice (some ⟨g', 0, none⟩) n' c'], .int .i64 (plI t c (F, 0) 1 M []), .int .i64 (plE t c (F, 0) 1 M [])]) ∧ NsR (fun b => P b ∧ b ≠ R) w' (.slice (some ⟨g', 0, none⟩) n' c') (plT t c (F, 0) 1 M []) ∧ Below W.heap.size W w' from by
      have hs := hb.size
      have hs2 := HB4.out.size
      have hr := HR4.out.lt
      have h1 := rplant_any (P := fun b => P b ∧ b ≠ R) (.slice (some ⟨g, 0, none⟩) t.length cc) t c A0 m0 k0 F 1 M [] W (HN4.out.below hb) HTX.out (HC.out.below (bt hb HB4.out)) (HFN.out rfl) ⟨by decide, by decide⟩ ⟨HMB.out.1, by have := HMB.out.2; omega⟩ (by decide) (fun b hb => ⟨HP.out b (by omega), by omega⟩)
      refine h1.mono ?_
      rintro e w' ⟨v', rfl, h2, h3⟩
      obtain ⟨g', c', rfl⟩ := ns_form h2
      exact ⟨g', c', _, rfl, h2, h3⟩)
    clear AE HFN
    obtain ⟨CE, hCE⟩ : ∃ CE, plE t c (F, 0) 1 M [] = CE := ⟨_, rfl⟩
    rw [hCE] at HPC
    have HCE := Lib.hid hCE
    clear hCE
    obtain ⟨CT, hCT⟩ : ∃ CT, plT t c (F, 0) 1 M [] = CT := ⟨_, rfl⟩
    rw [hCT] at HPC
    have HCT := Lib.hid hCT
    clear hCT
    obtain ⟨CI, hCI⟩ : ∃ CI, plI t c (F, 0) 1 M [] = CI := ⟨_, rfl⟩
    rw [hCI] at HPC
    have HCI := Lib.hid hCI
    clear hCI
    have HZ1 := Lib.hid (show w.heap.size ≠ R from HZ1R.out)
    have HPQ := Lib.hid (fun (W : World) (hb : Below W4.heap.size W4 W) => show W.cell? ⟨w.heap.size, 0, none⟩ = some (.slice (some ⟨g, 0, none⟩) t.length cc) ∧ W.cell? ⟨bC, 0, none⟩ = some (.int .i64 c.u) ∧ W.cell? ⟨bC, 1, none⟩ = some (.int .i64 c.g) ∧ W.cell? ⟨bC, 2, none⟩ = some (.slice A0 m0 k0) ∧ W.cell? ⟨y, 0, none⟩ = some (.int .i64 F.dir) ∧ W.cell? ⟨y, 1, none⟩ = some (.string (bA F.name)) ∧ W.cell? ⟨y, 2, none⟩ = some (.int .i64 F.node) from ⟨(HT4.out.below hb).cell 0, (HC4.out.below hb).c3.1, (HC4.out.below hb).c3.2.1, (HC4.out.below hb).c3.2.2, (HF4.out.below hb).c3.1, (HF4.out.below hb).c3.2.1, (HF4.out.below hb).c3.2.2⟩)
    have HPS := Lib.hid (fun (W0 : World) (hb : Below W4.heap.size W4 W0) (u : Value) => show (W0.setCell ⟨R, 0, none⟩ u).cell? ⟨w.heap.size, 0, none⟩ = some (.slice (some ⟨g, 0, none⟩) t.length cc) ∧ (W0.setCell ⟨R, 0, none⟩ u).cell? ⟨bC, 0, none⟩ = some (.int .i64 c.u) ∧ (W0.setCell ⟨R, 0, none⟩ u).cell? ⟨bC, 1, none⟩ = some (.int .i64 c.g) ∧ (W0.setCell ⟨R, 0, none⟩ u).cell? ⟨bC, 2, none⟩ = some (.slice A0 m0 k0) ∧ (W0.setCell ⟨R, 0, none⟩ u).cell? ⟨y, 0, none⟩ = some (.int .i64 F.dir) ∧ (W0.setCell ⟨R, 0, none⟩ u).cell? ⟨y, 1, none⟩ = some (.string (bA F.name)) ∧ (W0.setCell ⟨R, 0, none⟩ u).cell? ⟨y, 2, none⟩ = some (.int .i64 F.node) from by
      have hg := grown_setCell W0 ⟨R, 0, none⟩ u
      have a := (HT4.out.below hb).kept hg (some_ne HZ1R.out)
      have b := (HC4.out.below hb).kept hg (some_ne HZ2R.out)
      have c := (HF4.out.below hb).kept hg (some_ne HZ3R.out)
      exact ⟨a.cell 0, b.c3.1, b.c3.2.1, b.c3.2.2, c.c3.1, c.c3.2.1, c.c3.2.2⟩)
    have HDR := Lib.hid (show Below W4.heap.size W4 W4.drew from (Below.refl _ _).drew)
    clear HZ1
    go_upto_region 4 with fail
    clear hW4 hy k0' k1 k2 t0 r0 r1 s0 f0 f1 f2
    go_region_held3 (fun W => W.cell? ⟨w.heap.size, 0, none⟩ = some (.slice (some ⟨g, 0, none⟩) t.length cc) ∧ W.cell? ⟨bC, 0, none⟩ = some (.int .i64 c.u) ∧ W.cell? ⟨bC, 1, none⟩ = some (.int .i64 c.g) ∧ W.cell? ⟨bC, 2, none⟩ = some (.slice A0 m0 k0) ∧ W.cell? ⟨y, 0, none⟩ = some (.int .i64 F.dir) ∧ W.cell? ⟨y, 1, none⟩ = some (.string (bA F.name)) ∧ W.cell? ⟨y, 2, none⟩ = some (.int .i64 F.node))
      (first | (with_reducible exact HPQ.out _ HDR.out) | (with_reducible exact HPQ.out _ J5.out) | (with_reducible exact HPQ.out _ J6.out) | (with_reducible exact ⟨t0, t1, t2, t3, t4, t5, t6⟩))
      (first
      | (go_at_call 60; (with_reducible refine (HMK.out W4.drew).mono ?_); rintro e w5 ⟨rfl, hb5⟩; have J5 := Lib.hid (bt hb5 HDR.out); clear hb5)
      | (go_at_call 59; (with_reducible refine (HPC.out w5 J5.out).mono ?_); rintro e w6 ⟨g', c', n', rfl, h2, hb6⟩; have J6 := Lib.hid (bt hb6 J5.out); have HN6 := Lib.hid h2; have hr := HR4.out.below J6.out; have r0 := hr.cell 0; have r1 := hr.frozen 0; simp at r0; have s0 : ∀ u, (w6.setCell ⟨R, 0, none⟩ u).cell? ⟨R, 0, none⟩ = some u := (fun u => (hr.set_ 0 u).cell 0); obtain ⟨t0, t1, t2, t3, t4, t5, t6⟩ := HPS.out w6 J6.out (.slice (some ⟨g', 0, none⟩) n' c'); clear h2 hb6 hr))
    all_goals (
      go_wp2
      exact bodyPost_ret (v := .tuple #[.agg #[.slice (some ⟨g', 0, none⟩) n' c'], .int .i64 CI, .int .i64 CE]) (by simp [results, Tryz.results29, go_sem, s0]) rfl (pla_back HN6.out (fun b hb => hb) (bt J6.out HB4.out) HRW.out (by first | rfl | exact HCE.out) (by first | rfl | exact HCT.out) (by first | rfl | exact HCI.out)))
  · have qE' : (E != 0) = true := by simpa using qE
    have HA := Lib.hid (AE.out qE)
    clear qE
    go_wp2
    exact bodyPost_ret (v := .tuple #[.agg #[.slice (some ⟨g, 0, none⟩) t.length cc], .int .i64 0, .int .i64 E]) (by simp [results, Tryz.results29, go_sem, s0]) rfl (pla_back HN4.out (fun b hb => hb) HB4.out HRW.out (HA.out).1 (HA.out).2.1 (HA.out).2.2)
end Go.Proofs.YtfopnfgfoicidaaGreat
