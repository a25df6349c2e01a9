/-
  The reference's Find, Can, fits, fail and link of stage 11, and the statements' who. The conditions: no more groups than a million, a text of a million bytes at most.
-/
import Derived.Test.YtilepnepcamnaaaGreatRsR
import Derived.Test.YtilepnepcamnaaaGreatCF
import Derived.Test.YtilepnepcamnaaaGreatPR
import Derived.Test.YtilepnepcamnaaaGreatRpl
import Derived.Test.YtilepnepcamnaaaGreatMR
namespace Go.Proofs.YtilepnepcamnaaaGreat
open Go Go.RowKit
set_option maxRecDepth 100000

attribute [local go_sem] cell_off4 cell_blk4
theorem kind_ofr (x : Int) (a1 a2 a3 a4 a5 a6 a7 : Value) (w : World) : (Instr.field 75 (.agg #[.int .i64 x, a1, a2, a3, a4, a5, a6, a7]) 0).run Tryz.prog w = .ok (.int .i64 x) w := by kernel_rfl
attribute [local go_sem] kind_ofr
set_option maxHeartbeats 4000000 in
theorem rfind_any (n : Nd) (vn vk : Value) (name : Nm) (w : World) (hN : StrsR w vn (nmA (nmE n.ents))) (hK : IntsR w vk (idE n.ents)) (hn : n.ents.length ≤ 1000) :
    Calls Tryz.prog 78 #[.agg (rfC n vn vk), .string (bA name)] w fun e w' => e = .returned (.int .i64 (fnd n.ents name)) ∧ Below w.heap.size w w' := by
  have hb1 := ba w (.cells (rfC n vn vk) 75)
  have HP := Lib.hid (ref_place n vn vk name _ (hN.below hb1) (hK.below hb1) hn)
  have hk1 := Blk.new w 75 (rfC n vn vk)
  have HB1 := Lib.hid hb1
  have HK1 := Lib.hid hk1
  have HI := Lib.hid (hK.below hb1)
  obtain ⟨A1, c1, rfl⟩ := strs_form hN (nm_len _)
  obtain ⟨A2, c2, rfl⟩ := ints_form hK (idE_len _)
  clear hN hK hb1 hk1
  unfold plcI at HP
  by_cases hf : n.ents.findIdx (isN name) < n.ents.length
  · rw [if_pos hf] at HP
    obtain ⟨e, hke⟩ : ∃ e, n.ents[n.ents.findIdx (isN name)]? = some e := ⟨_, List.getElem?_eq_getElem hf⟩
    have HF := Lib.hid (plc_fnd n.ents name e hke)
    have HKE := Lib.hid hke
    clear hke
    generalize n.ents.findIdx (isN name) = k at HP HKE hf
    have hk2 : (k : Int) < (n.ents.length : Int) := by omega
    have hk0 : ¬ (k : Int) < 0 := by omega
    go_enter Tryz.func78, Tryz.ntmps78
    go_wp2_with fail
    refine HP.out.mono ?_
    rintro e2 w2 ⟨rfl, hb2⟩
    have hk3 := HK1.out.below hb2
    obtain ⟨p0, p1, p2, p3, p4, p5, p6, p7⟩ := hk3.c8
    obtain ⟨ad, rfl, c0⟩ := ints_get (HI.out.below hb2) (idE_at HKE.out)
    have HB2 := Lib.hid (bt hb2 HB1.out)
    clear hb2 hk3
    go_wp2
    go_ret
    exact ⟨ret_int HF.out.symm, HB2.out⟩
  · rw [if_neg hf] at HP
    have HF := Lib.hid (show fnd n.ents name = 0 from fnd_none (fun h => hf ((plc_mem name n.ents).2 h)))
    clear hf
    go_enter Tryz.func78, Tryz.ntmps78
    go_wp2_with fail
    refine HP.out.mono ?_
    rintro e2 w2 ⟨rfl, hb2⟩
    have HB2 := Lib.hid (bt hb2 HB1.out)
    clear hb2
    go_wp2
    go_ret
    exact ⟨ret_int HF.out.symm, HB2.out⟩
theorem tis_kind (t : List Nd) (i : Int) : tis t i = ((tget t i).kind != 0) := by
  unfold tis
  by_cases h : (tget t i).kind = 0 <;> simp [h]
set_option maxHeartbeats 4000000 in
theorem rrcan_any {P : Nat → Prop} (v : Value) (t : List Nd) (c : Wh) (A : Option Addr) (m k : Nat) (i want : Int) (w : World) (h : NsR P w v t) (hl : t.length ≤ 24) (hc : CrR w c A m k) :
    Calls Tryz.prog 43 #[.agg #[v], .agg #[.int .i64 c.u, .int .i64 c.g, .slice A m k], .int .i64 i, .int .i64 want] w fun e w' => e = .returned (.bool (canT t c i want)) ∧ Below w.heap.size w w' := by
  obtain ⟨g, k0, rfl⟩ := ns_form h
  have hb1 := al (ba w (.cells #[.slice (some ⟨g, 0, none⟩) t.length k0] 32)) (.cells #[.int .i64 c.u, .int .i64 c.g, .slice A m k] 42)
  have HG := Lib.hid (rget_any _ t i _ (h.below hb1) hl)
  have HC := Lib.hid (fun W hb (n : Nd) => rcan_any c.u c.g A m k c.gs n.uid n.gid n.mode want W ((hc.ints.below hb1).below hb) hc.few)
  have hk := Blk.new (w.alloc (.cells #[.slice (some ⟨g, 0, none⟩) t.length k0] 32)) 42 #[.int .i64 c.u, .int .i64 c.g, .slice A m k]
  have ez : (w.alloc (.cells #[.slice (some ⟨g, 0, none⟩) t.length k0] 32)).heap.size = w.heap.size + 1 := by simp
  rw [ez] at hk
  have HK := Lib.hid hk
  have HB := Lib.hid hb1
  obtain ⟨R, hR⟩ : ∃ R, canT t c i want = R := ⟨_, rfl⟩
  have HR := Lib.hid (show R = (((tget t i).kind != 0) && canN c (tget t i) want) from by rw [← hR, ← tis_kind]; rfl)
  rw [hR]
  generalize tget t i = n at HG HR
  clear h hc hb1 hk hR ez
  go_enter Tryz.func43, Tryz.ntmps43
  go_wp2_with fail
  refine HG.out.mono ?_
  rintro e w2 ⟨u, rfl, ⟨vn, vk, rfl, hN, hI⟩, hb2⟩
  obtain ⟨A5, k5, rfl⟩ := strs_form hN (nm_len _)
  obtain ⟨A6, k6, rfl⟩ := ints_form hI (idE_len _)
  unfold refV
  have hbx := al hb2 (.cells (rfC n (.slice A5 n.ents.length k5) (.slice A6 n.ents.length k6)) 75)
  have hk2 := HK.out.below hbx
  have HC2 := Lib.hid (HC.out _ hbx n)
  have HB2 := Lib.hid (bt hbx HB.out)
  clear hN hI hb2 hbx
  cases hq : (n.kind != 0) with
  | false =>
    have HZ := Lib.hid (show false = R from by rw [HR.out, hq]; rfl)
    clear hk2
    go_wp2
    go_ret
    exact ⟨ret_bool HZ.out, HB2.out⟩
  | true =>
    have HZ := Lib.hid (show canN c n want = R by rw [HR.out, hq, Bool.true_and])
    obtain ⟨p0, p1, p2⟩ := hk2.c3
    clear hk2
    go_wp2_with fail
    refine HC2.out.mono ?_
    rintro e w3 ⟨rfl, hb3⟩
    have HB3 := Lib.hid (bt hb3 HB2.out)
    clear hb3
    go_wp2
    go_ret
    exact ⟨ret_bool HZ.out, HB3.out⟩
end Go.Proofs.YtilepnepcamnaaaGreat
