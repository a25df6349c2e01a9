/-
  The calls of package resolve. The conditions are said at each.
-/
import Derived.Test.YtnkjaocmfhjnoaaGreatE4
import Derived.Test.YtnkjaocmfhjnoaaGreatE7
import Derived.Deep.DeepCutAuto
import Derived.WalkMore
namespace Go.Proofs.YtnkjaocmfhjnoaaGreat
open Go Go.RowKit
set_option maxRecDepth 100000

attribute [local go_sem] cell_off4 cell_blk4
theorem find_any (n : Nd) (vd ve : Value) (name : Nm) (w : World) (hd : BytesR w vd n.data) (he : EntsR w ve n.ents) (hn : n.ents.length ≤ 1000) :
    Calls Tryz.prog 206 #[nodeV n vd ve, .string (bA name)] w fun e w' => e = .returned (.int .i64 (fnd n.ents name)) ∧ Below w.heap.size w w' := by
  have hb1 := ba w (.cells (ndC n vd ve) 65)
  have HP := Lib.hid (placeOf_any ve n.ents name _ (box_ents (vd := vd) he) (by omega))
  have hk1 := Blk.new w 65 (ndC n vd ve)
  have HB1 := Lib.hid hb1
  have HK1 := Lib.hid hk1
  have HE := Lib.hid (box_ents (vd := vd) he)
  obtain ⟨A1, c1, rfl⟩ := bytes_form hd rfl
  obtain ⟨A2, c2, rfl⟩ := ents_form he rfl
  clear hd he hb1 hk1
  unfold nodeV
  unfold plcI at HP
  by_cases hf : n.ents.findIdx (isN name) < n.ents.length
  · rw [if_pos hf] at HP
    obtain ⟨e, hke⟩ : ∃ e, n.ents[n.ents.findIdx (isN name)]? = some e := ⟨_, List.getElem?_eq_getElem hf⟩
    have HF := Lib.hid (plc_fnd n.ents name e hke)
    have HKE := Lib.hid hke
    clear hke
    generalize n.ents.findIdx (isN name) = k at HP HKE hf
    have hk2 : (k : Int) < (n.ents.length : Int) := by omega
    go_enter Tryz.func206, Tryz.ntmps206
    go_wp2_with fail
    refine HP.out.mono ?_
    rintro e2 w2 ⟨rfl, hb2⟩
    have hk3 := HK1.out.below hb2
    obtain ⟨p0, p1, p2, p3, p4, p5, p6⟩ := hk3.c7
    obtain ⟨ad, rfl, c0, c3⟩ := ents_get (HE.out.below hb2) HKE.out
    have HB2 := Lib.hid (bt hb2 HB1.out)
    clear hb2 hk3
    go_wp2
    go_ret
    exact ⟨ret_int HF.out.symm, HB2.out⟩
  · rw [if_neg hf] at HP
    have HF := Lib.hid (show fnd n.ents name = 0 from fnd_none (fun h => hf ((plc_mem name n.ents).2 h)))
    clear hf
    go_enter Tryz.func206, Tryz.ntmps206
    go_wp2_with fail
    refine HP.out.mono ?_
    rintro e2 w2 ⟨rfl, hb2⟩
    have HB2 := Lib.hid (bt hb2 HB1.out)
    clear hb2
    go_wp2
    go_ret
    exact ⟨ret_int HF.out.symm, HB2.out⟩
end Go.Proofs.YtnkjaocmfhjnoaaGreat
namespace Go.Proofs.YtnkjaocmfhjnoaaGreat
open Go Go.RowKit
set_option maxRecDepth 100000

attribute [local go_sem] cell_off4 cell_blk4
structure CrR (w : World) (c : Wh) (A : Option Addr) (m k : Nat) : Prop where
  ints : IntsR w (.slice A m k) c.gs
  few : c.gs.length ≤ 2000000
theorem CrR.below {w w' : World} {c : Wh} {A : Option Addr} {m k : Nat} (h : CrR w c A m k) (hb : Below w.heap.size w w') : CrR w' c A m k := ⟨h.ints.below hb, h.few⟩
set_option maxHeartbeats 8000000 in
theorem rescan_any (v : Value) (t : List Nd) (c : Wh) (A : Option Addr) (m k : Nat) (i want : Int) (w : World) (h : TabP w v t) (hc : CrR w c A m k) :
    Calls Tryz.prog 125 #[v, .agg #[.int .i64 c.u, .int .i64 c.g, .slice A m k], .int .i64 i, .int .i64 want] w fun e w' => e = .returned (.bool (canT t c i want)) ∧ Below w.heap.size w w' := by
  have hb0 := ba w (.cells #[.int .i64 c.u, .int .i64 c.g, .slice A m k] 30)
  have hk0 := Blk.new w 30 #[.int .i64 c.u, .int .i64 c.g, .slice A m k]
  obtain ⟨W1, hW1⟩ : ∃ W1, w.alloc (.cells #[.int .i64 c.u, .int .i64 c.g, .slice A m k] 30) = W1 := ⟨_, rfl⟩
  rw [hW1] at hb0 hk0
  have HG := Lib.hid (get_any v t i W1 (h.below hb0))
  have HI := Lib.hid (hc.ints.below hb0)
  have HC := Lib.hid (fun W hb (n : Nd) => can_any c.u c.g A m k c.gs n.uid n.gid n.mode want W ((hc.ints.below hb0).below hb) hc.few)
  have HB := Lib.hid hb0
  have HK := Lib.hid hk0
  obtain ⟨R, hR⟩ : ∃ R, canT t c i want = R := ⟨_, rfl⟩
  have HR := Lib.hid (show R = (tis t i && canN c (tget t i) want) from hR.symm)
  rw [hR]
  generalize tis t i = q at HG HR
  generalize tget t i = n at HG HR
  unfold nodeV at HG
  clear h hc hb0 hk0 hR
  go_enter Tryz.func125, Tryz.ntmps125
  go_wp2_with fail
  clear hW1
  refine HG.out.mono ?_
  rintro e w2 ⟨vd, ve, rfl, hd, he, -, -, hb2⟩
  obtain ⟨A5, k5, rfl⟩ := bytesT_form hd
  obtain ⟨A6, k6, rfl⟩ := entsT_form he
  have hbx := al hb2 (.cells (ndC n (.slice A5 n.data.length k5) (.slice A6 n.ents.length k6)) 65)
  have hk2 := HK.out.below hbx
  have HC2 := Lib.hid (HC.out _ hbx n)
  have HB2 := Lib.hid (bt hbx HB.out)
  clear hd he hb2 hbx
  cases q with
  | false =>
    have HZ := Lib.hid (show false = R from HR.out.symm)
    clear hk2
    go_wp2
    go_ret
    exact ⟨ret_bool HZ.out, HB2.out⟩
  | true =>
    have HZ := Lib.hid (show canN c n want = R by rw [HR.out, Bool.true_and])
    have p0 := hk2.cell 0
    have p1 := hk2.cell 1
    have p2 := hk2.cell 2
    simp at p0 p1 p2
    clear hk2
    go_wp2_with fail
    refine HC2.out.mono ?_
    rintro e w3 ⟨rfl, hb3⟩
    have HB3 := Lib.hid (bt hb3 HB2.out)
    clear hb3
    go_wp2
    go_ret
    exact ⟨ret_bool HZ.out, HB3.out⟩
theorem resup_any (v : Value) (t : List Nd) (i : Int) (w : World) (h : TabP w v t) :
    Calls Tryz.prog 205 #[v, .int .i64 i] w fun e w' => e = .returned (.int .i64 (upI t i)) ∧ Below w.heap.size w w' := by
  have HP := Lib.hid (parent_any v t i w h)
  have HU := Lib.hid (show upI t i = if parT t 0 i ≠ 0 then (parT t 0 i : Int) else i from rfl)
  generalize upI t i = U at HU ⊢
  generalize parT t 0 i = p at HP HU
  by_cases q : p = 0
  · subst q
    have HZ := Lib.hid (show i = U by rw [HU.out, if_neg (fun q => q rfl)])
    clear h
    go_enter Tryz.func205, Tryz.ntmps205
    go_wp2_with fail
    refine HP.out.mono ?_
    rintro e w2 ⟨rfl, hb2⟩
    go_wp2
    go_ret
    exact ⟨ret_int HZ.out, hb2⟩
  · have HZ := Lib.hid (show (p : Int) = U by rw [HU.out, if_pos q])
    have q1 : ((p : Int) != 0) = true := by simpa using q
    clear h q
    go_enter Tryz.func205, Tryz.ntmps205
    go_wp2_with fail
    refine HP.out.mono ?_
    rintro e w2 ⟨rfl, hb2⟩
    go_wp2
    go_ret
    exact ⟨ret_int HZ.out, hb2⟩
def SrAns (t : List Nd) (c : Wh) (i : Int) (w : World) (e : Ending) (w' : World) : Prop :=
  ∃ (n : Nd) (A5 A6 : Option Addr) (k5 k6 : Nat), e = .returned (.tuple #[.agg (ndC n (.slice A5 n.data.length k5) (.slice A6 n.ents.length k6)), .int .i64 (srE t c i)]) ∧
    (srE t c i = 0 → n = tget t i ∧ BytesR w' (.slice A5 n.data.length k5) n.data ∧ EntsR w' (.slice A6 n.ents.length k6) n.ents) ∧ Below w.heap.size w w'
set_option maxHeartbeats 8000000 in
theorem searched_any (v : Value) (t : List Nd) (c : Wh) (A : Option Addr) (m k : Nat) (i : Int) (w : World) (h : TabP w v t) (hc : CrR w c A m k) :
    Calls Tryz.prog 204 #[v, .agg #[.int .i64 c.u, .int .i64 c.g, .slice A m k], .int .i64 i] w (SrAns t c i w) := by
  have hb0 := ba w (.cells #[.int .i64 c.u, .int .i64 c.g, .slice A m k] 30)
  have hk0 := Blk.new w 30 #[.int .i64 c.u, .int .i64 c.g, .slice A m k]
  obtain ⟨W1, hW1⟩ : ∃ W1, w.alloc (.cells #[.int .i64 c.u, .int .i64 c.g, .slice A m k] 30) = W1 := ⟨_, rfl⟩
  rw [hW1] at hb0 hk0
  have hb1 := al hb0 (.cells ndZ 65)
  have hk1 := hk0.below (ba W1 (.cells ndZ 65))
  have hr1 := Blk.new W1 65 ndZ
  obtain ⟨W2, hW2⟩ : ∃ W2, W1.alloc (.cells ndZ 65) = W2 := ⟨_, rfl⟩
  rw [hW2] at hb1 hk1 hr1
  obtain ⟨d, hdz⟩ : ∃ d, W1.heap.size = d := ⟨_, rfl⟩
  have HDW := Lib.hid (show w.heap.size < d by rw [← hdz, ← hW1]; simp)
  rw [hdz] at hr1
  have HT := Lib.hid (h.below hb1)
  have HG := Lib.hid (get_any v t i W2 (h.below hb1))
  have HCR := Lib.hid (hc.below hb1)
  have HB := Lib.hid hb1
  have HK := Lib.hid hk1
  have HR1 := Lib.hid hr1
  obtain ⟨E, hE⟩ : ∃ E, srE t c i = E := ⟨_, rfl⟩
  have HE := Lib.hid (show E = if (tget t i).kind ≠ 2 then 20 else if canT t c i 1 = false then 13 else 0 from hE.symm)
  obtain ⟨F, hF⟩ : ∃ F, SrAns t c i w = F := ⟨_, rfl⟩
  have HF := Lib.hid (show ∀ (e : Ending) (w' : World), (∃ (n : Nd) (A5 A6 : Option Addr) (k5 k6 : Nat), e = .returned (.tuple #[.agg (ndC n (.slice A5 n.data.length k5) (.slice A6 n.ents.length k6)), .int .i64 E]) ∧
    (E = 0 → n = tget t i ∧ BytesR w' (.slice A5 n.data.length k5) n.data ∧ EntsR w' (.slice A6 n.ents.length k6) n.ents) ∧ Below w.heap.size w w') → F e w' from fun e w' h => by rw [← hF]; unfold SrAns; rw [hE]; exact h)
  have HCC := Lib.hid (fun W (hb : Below W2.heap.size W2 W) => rescan_any v t c A m k i 1 W (HT.out.below hb) (HCR.out.below hb))
  rw [hF]
  generalize canT t c i 1 = q at HE HCC
  obtain ⟨n, hn⟩ : ∃ n, tget t i = n := ⟨_, rfl⟩
  rw [hn] at HG HE HF
  unfold nodeV at HG
  clear h hc hb0 hk0 hb1 hk1 hr1 hE hF hn
  go_enter Tryz.func204, Tryz.ntmps204
  go_wp2_with fail
  clear hW1 hW2 hdz
  refine HG.out.mono ?_
  rintro e w2 ⟨vd, ve, rfl, hd, he, -, -, hb2⟩
  obtain ⟨A5, k5, rfl⟩ := bytesT_form hd
  obtain ⟨A6, k6, rfl⟩ := entsT_form he
  have hbx := al hb2 (.cells (ndC n (.slice A5 n.data.length k5) (.slice A6 n.ents.length k6)) 65)
  have hbw := ba w2 (.cells (ndC n (.slice A5 n.data.length k5) (.slice A6 n.ents.length k6)) 65)
  have hkn := Blk.new w2 65 (ndC n (.slice A5 n.data.length k5) (.slice A6 n.ents.length k6))
  have hr3 := HR1.out.below hbx
  have HX := Lib.hid (show (∀ (ad : Addr) (m c : Nat), Value.slice A5 n.data.length k5 = .slice (some ad) m c → ad.block ≠ d) ∧ (∀ (ad : Addr) (m c : Nat), Value.slice A6 n.ents.length k6 = .slice (some ad) m c → ad.block ≠ d) from
    ⟨fun ad m c hv => by obtain ⟨cs, hk⟩ := (hd.below hbw).2 ad m c hv; exact blk_ne hk hr3 (by decide), fun ad m c hv => by obtain ⟨cs, hk⟩ := (he.below hbw).2 ad m c hv; exact blk_ne hk hr3 (by decide)⟩)
  have HD3 := Lib.hid (hd.1.below hbw)
  have HE3 := Lib.hid (he.1.below hbw)
  have HCC3 := Lib.hid (HCC.out _ hbx)
  have HB3 := Lib.hid (bt hbx HB.out)
  have hk3 := HK.out.below hbx
  obtain ⟨x, hx⟩ : ∃ x, w2.heap.size = x := ⟨_, rfl⟩
  obtain ⟨W3, hW3⟩ : ∃ W3, w2.alloc (.cells (ndC n (.slice A5 n.data.length k5) (.slice A6 n.ents.length k6)) 65) = W3 := ⟨_, rfl⟩
  rw [hW3] at hkn hr3 HD3 HE3 HCC3 HB3 hk3
  rw [hx] at hkn
  have HKN := Lib.hid hkn
  have HR3 := Lib.hid hr3
  have HK3 := Lib.hid hk3
  clear hd he hb2 hbx hbw HG HR1 HCC HCR HT HK HB
  have HG3 := Lib.hid (grown7 W3 d (.int .i64 0) (.int .i64 0) (.int .i64 0) (.int .i64 0) (.slice none 0 0) (.slice none 0 0) (.string ⟨#[]⟩))
  obtain ⟨n0, n1, n2, n3, n4, n5, n6⟩ := hkn.c7
  clear hkn hk3
  by_cases hk : n.kind = 2
  · have hkb : (n.kind != 2) = false := by simpa using hk
    have HE2 := Lib.hid (show E = if q = false then 13 else 0 by rw [HE.out, if_neg (fun h => h hk)])
    clear hk hr3
    have k0 : W3.cell? ⟨w.heap.size, 0, none⟩ = some (.int .i64 c.u) := by rw [HK3.out.cell]; rfl
    have k1 : W3.cell? ⟨w.heap.size, 1, none⟩ = some (.int .i64 c.g) := by rw [HK3.out.cell]; rfl
    have k2 : W3.cell? ⟨w.heap.size, 2, none⟩ = some (.slice A m k) := by rw [HK3.out.cell]; rfl
    go_wp2_with fail
    clear hW3 hx
    refine HCC3.out.mono ?_
    rintro e w4 ⟨rfl, hb4⟩
    have hr4 := HR3.out.below hb4
    have hkn4 := HKN.out.below hb4
    have HR4 := Lib.hid hr4
    have HB4 := Lib.hid (bt hb4 HB3.out)
    have HD4 := Lib.hid (HD3.out.below hb4)
    have HE4 := Lib.hid (HE3.out.below hb4)
    clear n0 n1 n2 n3 n4 n5 n6 k0 k1 k2 hb4
    obtain ⟨p0, p1, p2, p3, p4, p5, p6⟩ := hr4.c7
    obtain ⟨q0, q1, q2, q3, q4, q5, q6⟩ := hr4.f7
    obtain ⟨s0, s1, s2, s3, s4, s5, s6⟩ := hr4.s7
    cases q with
    | false =>
      have HZ := Lib.hid (show E = 13 by rw [HE2.out, if_pos rfl])
      have HG4 := Lib.hid (grown7 w4 d (.int .i64 0) (.int .i64 0) (.int .i64 0) (.int .i64 0) (.slice none 0 0) (.slice none 0 0) (.string ⟨#[]⟩))
      clear hr4 hkn4
      go_wp2
      exact bodyPost_ret (v := .tuple #[.agg ndZ, .int .i64 13]) (by simp [results, Tryz.results204, go_sem, s0, s1, s2, s3, s4, s5, s6]) rfl (HF.out _ _ ⟨Nd.zero, none, none, 0, 0, by rw [HZ.out]; rfl, fun h => absurd (HZ.out.symm.trans h) (by decide), below_grown HB4.out HG4.out (Nat.le_of_lt HDW.out)⟩)
    | true =>
      have HZ := Lib.hid (show E = 0 by rw [HE2.out, if_neg (by decide)])
      have HG4 := Lib.hid (grown7 w4 d (.int .i64 n.kind) (.int .i64 n.mode) (.int .i64 n.uid) (.int .i64 n.gid) (.slice A5 n.data.length k5) (.slice A6 n.ents.length k6) (.string (bA n.target)))
      obtain ⟨n0, n1, n2, n3, n4, n5, n6⟩ := hkn4.c7
      clear hr4 hkn4
      go_wp2
      exact bodyPost_ret (v := .tuple #[.agg (ndC n (.slice A5 n.data.length k5) (.slice A6 n.ents.length k6)), .int .i64 0]) (by simp [results, Tryz.results204, go_sem, s0, s1, s2, s3, s4, s5, s6]) rfl (HF.out _ _ ⟨n, A5, A6, k5, k6, by rw [HZ.out], fun _ => ⟨rfl, HD4.out.other HG4.out HX.out.1, HE4.out.other HG4.out HX.out.2⟩, below_grown HB4.out HG4.out (Nat.le_of_lt HDW.out)⟩)
  · have hkb : (n.kind != 2) = true := by simpa using hk
    have HZ := Lib.hid (show E = 20 by rw [HE.out, if_pos hk])
    obtain ⟨p0, p1, p2, p3, p4, p5, p6⟩ := hr3.c7
    obtain ⟨q0, q1, q2, q3, q4, q5, q6⟩ := hr3.f7
    obtain ⟨s0, s1, s2, s3, s4, s5, s6⟩ := hr3.s7
    clear hk hr3
    go_wp2
    exact bodyPost_ret (v := .tuple #[.agg ndZ, .int .i64 20]) (by simp [results, Tryz.results204, go_sem, s0, s1, s2, s3, s4, s5, s6]) rfl (HF.out _ _ ⟨Nd.zero, none, none, 0, 0, by rw [HZ.out]; rfl, fun h => absurd (HZ.out.symm.trans h) (by decide), below_grown HB3.out HG3.out (Nat.le_of_lt HDW.out)⟩)
end Go.Proofs.YtnkjaocmfhjnoaaGreat
namespace Go.Proofs.YtnkjaocmfhjnoaaGreat
open Go Go.RowKit
set_option maxRecDepth 100000

theorem unfit_any (v : Value) (t : List Nd) (p : Nm) (w : World) (h : TabP w v t) :
    Calls Tryz.prog 181 #[v, .string (bA p)] w fun e w' => e = .returned (.int .i64 (fitE t p)) ∧ Below w.heap.size w w' := by
  have HG := Lib.hid (get_any v t 1 w h)
  have HI := Lib.hid (fun W => show Calls Tryz.prog 187 #[.string (bA p), .int .u8 0] W fun e w' => e = .returned (.int .i64 (Lib.indexByte (bA p).data.toList 0)) ∧ W = w' from index_any (bA p) 0 W)
  have hx := index_has 0 (bA p).data.toList
  have HX := Lib.hid (show decide (Lib.indexByte (bA p).data.toList 0 ≥ 0) = p.contains 0 from hx)
  have hs := size_bA p
  have HE := Lib.hid (show fitE t p = if p = [] then 2 else if 64 < p.length then 36 else if p.contains 0 = true then 22 else if tis t 1 = false then 2 else 0 from rfl)
  generalize Lib.indexByte (bA p).data.toList 0 = X at HI HX
  generalize fitE t p = E at HE ⊢
  generalize tis t 1 = q at HG HE
  generalize tget t 1 = n at HG
  unfold nodeV at HG
  clear h hx
  by_cases hp : p = []
  · have e1 : ((bA p).toList == ([] : List UInt8)) = true := (len0_iff p).2 hp
    have HZ := Lib.hid (show E = 2 by rw [HE.out, if_pos hp])
    clear HE hp
    go_enter Tryz.func181, Tryz.ntmps181
    go_wp2_with fail
    refine HG.out.mono ?_
    rintro e w2 ⟨vd, ve, rfl, hd, he, -, -, hb2⟩
    obtain ⟨A5, k5, rfl⟩ := bytesT_form hd
    obtain ⟨A6, k6, rfl⟩ := entsT_form he
    have HB := Lib.hid (al hb2 (.cells (ndC n (.slice A5 n.data.length k5) (.slice A6 n.ents.length k6)) 65))
    clear hd he hb2
    go_wp2
    go_ret
    exact ⟨ret_int HZ.out.symm, HB.out⟩
  have e1 : ((bA p).toList == ([] : List UInt8)) = false := ne_nil_of p hp
  by_cases h64 : 64 < p.length
  · have e2 : ((bA p).size : Int) > 64 := by rw [hs]; omega
    have HZ := Lib.hid (show E = 36 by rw [HE.out, if_neg hp, if_pos h64])
    clear HE hp h64
    go_enter Tryz.func181, Tryz.ntmps181
    go_wp2_with fail
    refine HG.out.mono ?_
    rintro e w2 ⟨vd, ve, rfl, hd, he, -, -, hb2⟩
    obtain ⟨A5, k5, rfl⟩ := bytesT_form hd
    obtain ⟨A6, k6, rfl⟩ := entsT_form he
    have HB := Lib.hid (al hb2 (.cells (ndC n (.slice A5 n.data.length k5) (.slice A6 n.ents.length k6)) 65))
    clear hd he hb2
    go_wp2
    go_ret
    exact ⟨ret_int HZ.out.symm, HB.out⟩
  have e2 : ¬ ((bA p).size : Int) > 64 := by rw [hs]; omega
  by_cases hc : p.contains 0 = true
  · have e3 : X ≥ 0 := of_decide_eq_true (HX.out.trans hc)
    have HZ := Lib.hid (show E = 22 by rw [HE.out, if_neg hp, if_neg h64, if_pos hc])
    clear HE hp h64 hc
    go_enter Tryz.func181, Tryz.ntmps181
    go_wp2_with fail
    refine HG.out.mono ?_
    rintro e w2 ⟨vd, ve, rfl, hd, he, -, -, hb2⟩
    obtain ⟨A5, k5, rfl⟩ := bytesT_form hd
    obtain ⟨A6, k6, rfl⟩ := entsT_form he
    have HB := Lib.hid (al hb2 (.cells (ndC n (.slice A5 n.data.length k5) (.slice A6 n.ents.length k6)) 65))
    clear hd he hb2
    go_wp2_with fail
    refine (HI.out _).mono ?_
    rintro e w3 ⟨rfl, rfl⟩
    go_wp2
    go_ret
    exact ⟨ret_int HZ.out.symm, HB.out⟩
  have e3 : ¬ X ≥ 0 := of_decide_eq_false (HX.out.trans (by simpa using hc))
  cases q with
  | false =>
    have HZ := Lib.hid (show E = 2 by rw [HE.out, if_neg hp, if_neg h64, if_neg hc, if_pos rfl])
    clear HE hp h64 hc
    go_enter Tryz.func181, Tryz.ntmps181
    go_wp2_with fail
    refine HG.out.mono ?_
    rintro e w2 ⟨vd, ve, rfl, hd, he, -, -, hb2⟩
    obtain ⟨A5, k5, rfl⟩ := bytesT_form hd
    obtain ⟨A6, k6, rfl⟩ := entsT_form he
    have HB := Lib.hid (al hb2 (.cells (ndC n (.slice A5 n.data.length k5) (.slice A6 n.ents.length k6)) 65))
    clear hd he hb2
    go_wp2_with fail
    refine (HI.out _).mono ?_
    rintro e w3 ⟨rfl, rfl⟩
    go_wp2
    go_ret
    exact ⟨ret_int HZ.out.symm, HB.out⟩
  | true =>
    have HZ := Lib.hid (show E = 0 by rw [HE.out, if_neg hp, if_neg h64, if_neg hc, if_neg (by decide)])
    clear HE hp h64 hc
    go_enter Tryz.func181, Tryz.ntmps181
    go_wp2_with fail
    refine HG.out.mono ?_
    rintro e w2 ⟨vd, ve, rfl, hd, he, -, -, hb2⟩
    obtain ⟨A5, k5, rfl⟩ := bytesT_form hd
    obtain ⟨A6, k6, rfl⟩ := entsT_form he
    have HB := Lib.hid (al hb2 (.cells (ndC n (.slice A5 n.data.length k5) (.slice A6 n.ents.length k6)) 65))
    clear hd he hb2
    go_wp2_with fail
    refine (HI.out _).mono ?_
    rintro e w3 ⟨rfl, rfl⟩
    go_wp2
    go_ret
    exact ⟨ret_int HZ.out.symm, HB.out⟩
end Go.Proofs.YtnkjaocmfhjnoaaGreat
namespace Go.Proofs.YtnkjaocmfhjnoaaGreat
open Go Go.RowKit
set_option maxRecDepth 100000

attribute [local go_sem] cell_off4 cell_blk4
def StrsT (w : World) (v : Value) (l : List ByteArray) : Prop := StrsR w v l ∧ ∀ (ad : Addr) (n c : Nat), v = .slice (some ad) n c → ∃ cs, Blk w ad.block 9 cs
theorem StrsT.below {w w' : World} {v : Value} {l : List ByteArray} (h : StrsT w v l) (hb : Below w.heap.size w w') : StrsT w' v l :=
  ⟨h.1.below hb, fun ad n c hv => by obtain ⟨cs, hk⟩ := h.2 ad n c hv; exact ⟨cs, hk.below hb⟩⟩
theorem StrsT.other {w w' : World} {g : Nat} {t : TypeId} {cs : Array Value} {v : Value} {l : List ByteArray} (h : StrsT w v l) (hg : w.grownBy w' (some g)) (hk : Blk w g t cs) (hne : t ≠ 9) : StrsT w' v l := by
  obtain ⟨⟨A, c, rfl, hl, hc⟩, hb⟩ := h
  have key : ∀ ad : Addr, A = some ad → w'.heap[ad.block]? = w.heap[ad.block]? := fun ad e => by
    subst e
    obtain ⟨cs', hk'⟩ := hb ad _ _ rfl
    exact hg.block _ hk'.lt (fun q => by injection q with q; exact blk_ne hk hk' hne q.symm)
  refine ⟨⟨A, c, rfl, hl, fun k s hs => ?_⟩, fun ad n c' hv => ?_⟩
  · obtain ⟨ad, rfl, h1⟩ := hc k s hs
    have e1 : (ad.add k).block = ad.block := by unfold Addr.add; split <;> rfl
    exact ⟨ad, rfl, (World.cell?_of_block (a := ad.add k) (by rw [e1]; exact key ad rfl)).trans h1⟩
  · obtain ⟨cs', hk'⟩ := hb ad n c' hv
    injection hv with e
    exact ⟨cs', (key ad e).trans hk'⟩
theorem StrsT.of_own {w : World} {B : Nat} {v : Value} {l : List ByteArray} (h : w.ownsRow B 9 1 v l.length (sCells l)) : StrsT w v l := by
  refine ⟨StrsR.of_own h, fun ad n c hv => ?_⟩
  rcases h.2 with ⟨rfl, _⟩ | ⟨g', cap, cur, rfl, _, hh, _⟩
  · injection hv with e
    cases e
  · injection hv with e
    injection e with e
    subst e
    exact ⟨cur, hh⟩
theorem size_str (w : World) : (sizeOf (Tryz.prog.elem 55)).run Tryz.prog w = .ok 1 w := by kernel_rfl
theorem tail_run {w0 : World} {v : Value} {x : ByteArray} {r : List ByteArray} (h : StrsT w0 v (x :: r)) :
    ∃ (ad : Addr) (c c' : Nat) (A' : Option Addr), v = .slice (some ad) (r.length + 1) c ∧ w0.cell? ad = some (.string x) ∧ StrsT w0 (.slice A' r.length c') r ∧
      ∀ w : World, (Instr.slice 55 (.slice (some ad) (r.length + 1) c) (some (.int .i64 1)) none none).run Tryz.prog w = .ok (.slice A' r.length c') w := by
  obtain ⟨⟨A, c, rfl, ⟨hle, _⟩, hc⟩, hb⟩ := h
  obtain ⟨ad, rfl, h0⟩ := hc 0 x rfl
  rw [add_none] at h0
  simp only [List.length_cons] at hle
  obtain ⟨cs, hk⟩ := hb ad _ _ rfl
  refine ⟨ad, c, c - 1, if c = 1 then some ad else some (ad.add 1), rfl, h0, ⟨⟨_, _, rfl, ⟨by omega, fun e => by split at e <;> cases e⟩, fun k s hk => ?_⟩, fun ad' n c' hv => ?_⟩, fun w => ?_⟩
  · have hlt : k < r.length := (List.getElem?_eq_some_iff.1 hk).1
    rw [if_neg (by omega)]
    obtain ⟨ad', e, h1⟩ := hc (k + 1) s (by simpa using hk)
    injection e with e
    refine ⟨_, rfl, ?_⟩
    rw [add_two, Nat.add_comm 1 k, e]
    exact h1
  · injection hv with e
    refine ⟨cs, ?_⟩
    split at e
    · injection e with e
      rw [← e]; exact hk
    · injection e with e
      rw [← e]; exact hk
  · rw [run_slice_l w _ _ _ _ (by kernel_rfl) .i64 1 (by decide) (by omega), size_str]
    simp only [Result.andThen, sliced]
    by_cases hc1 : c = 1 <;> simp [hc1]
structure LdK (w : World) (L A B : Nat) (vl : Value) (l : List Nm) (i : Int) (f : Nat) : Prop where
  kl : Blk w L 55 #[vl]
  ka : Blk w A 3 #[.int .i64 i]
  kb : Blk w B 3 #[.int .i64 (f : Int)]
  ab : A ≠ B
  names : StrsT w vl (bAs l)
section
variable {w w' : World} {L A B : Nat} {vl : Value} {l : List Nm} {i : Int} {f : Nat}
theorem LdK.later (h : LdK w L A B vl l i f) (hb : Below w.heap.size w w') : LdK w' L A B vl l i f := ⟨h.kl.below hb, h.ka.below hb, h.kb.below hb, h.ab, h.names.below hb⟩
theorem LdK.la (h : LdK w L A B vl l i f) : L ≠ A := blk_ne h.kl h.ka (by decide)
theorem LdK.lb (h : LdK w L A B vl l i f) : L ≠ B := blk_ne h.kl h.kb (by decide)
theorem some_ne {a b : Nat} (h : a ≠ b) : (some a : Option Nat) ≠ some b := fun e => h (by injection e)
theorem LdK.setL (h : LdK w L A B vl l i f) {v' : Value} {l' : List Nm} (hn : StrsT w v' (bAs l')) : LdK (w.setCell ⟨L, 0, none⟩ v') L A B v' l' i f :=
  have hg := grown_setCell w ⟨L, 0, none⟩ v'
  ⟨by simpa using h.kl.set_ 0 v', h.ka.kept hg (some_ne h.la.symm), h.kb.kept hg (some_ne h.lb.symm), h.ab, hn.other hg h.kl (by decide)⟩
theorem LdK.setA (h : LdK w L A B vl l i f) (j : Int) : LdK (w.setCell ⟨A, 0, none⟩ (.int .i64 j)) L A B vl l j f :=
  have hg := grown_setCell w ⟨A, 0, none⟩ (.int .i64 j)
  ⟨h.kl.kept hg (some_ne h.la), by simpa using h.ka.set_ 0 (.int .i64 j), h.kb.kept hg (some_ne h.ab.symm), h.ab, h.names.other hg h.ka (by decide)⟩
theorem LdK.setB (h : LdK w L A B vl l i f) (j : Nat) : LdK (w.setCell ⟨B, 0, none⟩ (.int .i64 (j : Int))) L A B vl l i j :=
  have hg := grown_setCell w ⟨B, 0, none⟩ (.int .i64 (j : Int))
  ⟨h.kl.kept hg (some_ne h.lb), h.ka.kept hg (some_ne h.ab), by simpa using h.kb.set_ 0 (.int .i64 (j : Int)), h.ab, h.names.other hg h.kb (by decide)⟩
theorem LdK.app {w1 w5 : World} {B0 n : Nat} {v v5 : Value} {xs : List Value} {l' : List Nm} (h : LdK w1 L A B vl l i f) (ho : w1.ownsRow B0 9 1 v n xs) (hg : w1.grownBy w5 v.ownBlock) (hn : StrsT w5 v5 (bAs l')) :
    LdK (w5.setCell ⟨L, 0, none⟩ v5) L A B v5 l' i f ∧ w5.cell? ⟨L, 0, none⟩ = some vl ∧ w5.frozen? ⟨L, 0, none⟩ = false := by
  have kl := h.kl.kept hg (own_blk_ne ho h.kl (by decide)).symm
  have ka := h.ka.kept hg (own_blk_ne ho h.ka (by decide)).symm
  have kb := h.kb.kept hg (own_blk_ne ho h.kb (by decide)).symm
  have hs := grown_setCell w5 ⟨L, 0, none⟩ v5
  exact ⟨⟨by simpa using kl.set_ 0 v5, ka.kept hs (some_ne h.la.symm), kb.kept hs (some_ne h.lb.symm), h.ab, hn.other hs kl (by decide)⟩, by rw [kl.cell]; rfl, kl.frozen 0⟩
theorem LdK.facts (h : LdK w L A B vl l i f) : (w.cell? ⟨L, 0, none⟩ = some vl ∧ w.frozen? ⟨L, 0, none⟩ = false) ∧ (w.cell? ⟨A, 0, none⟩ = some (.int .i64 i) ∧ w.frozen? ⟨A, 0, none⟩ = false) ∧ (w.cell? ⟨B, 0, none⟩ = some (.int .i64 (f : Int)) ∧ w.frozen? ⟨B, 0, none⟩ = false) :=
  ⟨⟨by rw [h.kl.cell]; rfl, h.kl.frozen 0⟩, ⟨by rw [h.ka.cell]; rfl, h.ka.frozen 0⟩, ⟨by rw [h.kb.cell]; rfl, h.kb.frozen 0⟩⟩
end
def Ch3 (w w' : World) (L A B : Nat) : Prop := ∃ w1 w2 w3, Below w.heap.size w w1 ∧ w1.grownBy w2 (some L) ∧ w2.grownBy w3 (some A) ∧ w3.grownBy w' (some B)
theorem Ch3.blk {w w' : World} {L A B g : Nat} {t : TypeId} {cs : Array Value} (h : Ch3 w w' L A B) (hk : Blk w g t cs) (h1 : g ≠ L) (h2 : g ≠ A) (h3 : g ≠ B) : Blk w' g t cs := by
  obtain ⟨w1, w2, w3, a, b, c, d⟩ := h
  exact (((hk.below a).kept b (some_ne h1)).kept c (some_ne h2)).kept d (some_ne h3)
theorem Ch3.below {w0 w w' : World} {L A B : Nat} (h : Ch3 w w' L A B) (hb : Below w0.heap.size w0 w) (h1 : w0.heap.size ≤ L) (h2 : w0.heap.size ≤ A) (h3 : w0.heap.size ≤ B) : Below w0.heap.size w0 w' := by
  obtain ⟨w1, w2, w3, a, b, c, d⟩ := h
  exact below_grown (below_grown (below_grown (bt a hb) b h1) c h2) d h3
theorem grown_none (w : World) (r : Option Nat) : w.grownBy w r := grown_of_below (Below.refl _ _) r
set_option maxHeartbeats 8000000 in
theorem goAlong_any (tg : Nm) (l : List Nm) (L A B : Nat) (vl : Value) (i : Int) (f : Nat) (w : World) (h : LdK w L A B vl l i f) (ht : tg.length ≤ 1000000) (hl : l.length ≤ 1000000) (hf : f ≤ 1000000) :
    Calls Tryz.prog 203 #[.string (bA tg), .pointer (some ⟨L, 0, none⟩), .pointer (some ⟨A, 0, none⟩), .pointer (some ⟨B, 0, none⟩)] w fun e w' => e = .returned (.tuple #[]) ∧ (∃ vl', LdK w' L A B vl' (splitP tg ++ l) (if absP tg = true then 1 else i) (f + 1)) ∧ Ch3 w w' L A B := by
  have HS := Lib.hid (split_own (bA tg) w (by rw [size_bA]; exact ht))
  rw [tl_bA] at HS
  have hsl := spl_len tg
  have hbl := bAs_len (splitP tg)
  have HK := Lib.hid h
  have hb2 : (bAs l).length = l.length := bAs_len l
  obtain ⟨S, hS⟩ : ∃ S, splitP tg = S := ⟨_, rfl⟩
  rw [hS] at HS hsl hbl ⊢
  have HAP := Lib.hid (show bAs (S ++ l) = bAs S ++ bAs l by simp [bAs])
  have HLN := Lib.hid (show (bAs S).length + (bAs l).length ≤ 100000000 by omega)
  have hfw : IntKind.i64.wrap ((f : Int) + 1) = ((f + 1 : Nat) : Int) := by rw [IntKind.wrap_i64] <;> omega
  generalize absP tg = ab at HS ⊢
  clear h hS hsl hbl hb2
  cases ab with
  | false =>
    go_enter Tryz.func203, Tryz.ntmps203
    go_wp2_with fail
    refine HS.out.mono ?_
    rintro e w1 ⟨v, rfl, ho, hb⟩
    have hk1 := HK.out.later hb
    obtain ⟨⟨l0, l1⟩, -, -⟩ := hk1.facts
    have HO := Lib.hid ho
    have HK1 := Lib.hid hk1
    have HB1 := Lib.hid hb
    clear hk1 ho hb HS
    go_wp2_with (first | (at_builtin; refine wpList_append_strs rfl (.tmp 12) (.tmp 13) rfl w.heap.size v (bAs S) rfl HO.out vl (bAs l) rfl HK1.out.names.1 HLN.out HB1.out.size ?_; intro v5 w5 ho hg; obtain ⟨A9, c9, hv9⟩ := own_slice ho; subst hv9; have hn5 : StrsT w5 (.slice A9 (bAs S ++ bAs l).length c9) (bAs (S ++ l)) := (by rw [HAP.out]; exact StrsT.of_own ho); obtain ⟨hk5, q1, q2⟩ := HK1.out.app HO.out hg hn5; have HB5 := Lib.hid (HB1.out.grown hg HB1.out.size (fun q hq => (HO.out.lt q hq).1)); clear ho hg hn5; generalize (bAs S ++ bAs l).length = N9 at hk5 ⊢; have HK5 := Lib.hid hk5; obtain ⟨-, -, ⟨b0, b1⟩⟩ := hk5.facts; clear hk5) | fail)
    go_end0
    have hk7 := HK5.out.setB (f + 1)
    exact ⟨rfl, ⟨_, hk7⟩, _, _, _, HB5.out, grown_setCell _ _ _, grown_none _ _, grown_setCell _ _ _⟩
  | true =>
    go_enter Tryz.func203, Tryz.ntmps203
    go_wp2_with fail
    refine HS.out.mono ?_
    rintro e w1 ⟨v, rfl, ho, hb⟩
    have hk1 := HK.out.later hb
    obtain ⟨⟨l0, l1⟩, -, -⟩ := hk1.facts
    have HO := Lib.hid ho
    have HK1 := Lib.hid hk1
    have HB1 := Lib.hid hb
    clear hk1 ho hb HS
    go_wp2_with (first | (at_builtin; refine wpList_append_strs rfl (.tmp 12) (.tmp 13) rfl w.heap.size v (bAs S) rfl HO.out vl (bAs l) rfl HK1.out.names.1 HLN.out HB1.out.size ?_; intro v5 w5 ho hg; obtain ⟨A9, c9, hv9⟩ := own_slice ho; subst hv9; have hn5 : StrsT w5 (.slice A9 (bAs S ++ bAs l).length c9) (bAs (S ++ l)) := (by rw [HAP.out]; exact StrsT.of_own ho); obtain ⟨hk5, q1, q2⟩ := HK1.out.app HO.out hg hn5; have HB5 := Lib.hid (HB1.out.grown hg HB1.out.size (fun q hq => (HO.out.lt q hq).1)); clear ho hg hn5; generalize (bAs S ++ bAs l).length = N9 at hk5 ⊢; have HK5 := Lib.hid hk5; obtain ⟨-, ⟨a0, a1⟩, -⟩ := hk5.facts; have hk6 := hk5.setA 1; have HK6 := Lib.hid hk6; obtain ⟨-, -, ⟨b0, b1⟩⟩ := hk6.facts; clear hk5 hk6) | fail)
    go_end0
    have hk7 := HK6.out.setB (f + 1)
    exact ⟨rfl, ⟨_, hk7⟩, _, _, _, HB5.out, grown_setCell _ _ _, grown_setCell _ _ _, grown_setCell _ _ _⟩
end Go.Proofs.YtnkjaocmfhjnoaaGreat
namespace Go.Proofs.YtnkjaocmfhjnoaaGreat
open Go Go.RowKit
set_option maxRecDepth 100000

attribute [local go_sem] cell_off4 cell_blk4
def put3 (w : World) (g : Nat) (u0 u1 u2 : Value) : World := (((w.setCell ⟨g, 0, none⟩ u0).setCell ⟨g, 1, none⟩ u1).setCell ⟨g, 2, none⟩ u2)
section
variable {w : World} {g : Nat} {t : TypeId} {a0 a1 a2 : Value}
theorem Blk.set3_0 (h : Blk w g t #[a0, a1, a2]) (u : Value) : Blk (w.setCell ⟨g, 0, none⟩ u) g t #[u, a1, a2] := by simpa using h.set_ 0 u
theorem Blk.set3_1 (h : Blk w g t #[a0, a1, a2]) (u : Value) : Blk (w.setCell ⟨g, 1, none⟩ u) g t #[a0, u, a2] := by simpa using h.set_ 1 u
theorem Blk.set3_2 (h : Blk w g t #[a0, a1, a2]) (u : Value) : Blk (w.setCell ⟨g, 2, none⟩ u) g t #[a0, a1, u] := by simpa using h.set_ 2 u
theorem Blk.c3 (h : Blk w g t #[a0, a1, a2]) : w.cell? ⟨g, 0, none⟩ = some a0 ∧ w.cell? ⟨g, 1, none⟩ = some a1 ∧ w.cell? ⟨g, 2, none⟩ = some a2 := ⟨h.cell 0, h.cell 1, h.cell 2⟩
theorem Blk.f3 (h : Blk w g t #[a0, a1, a2]) : w.frozen? ⟨g, 0, none⟩ = false ∧ w.frozen? ⟨g, 1, none⟩ = false ∧ w.frozen? ⟨g, 2, none⟩ = false := ⟨h.frozen 0, h.frozen 1, h.frozen 2⟩
theorem Blk.s3 (h : Blk w g t #[a0, a1, a2]) : (∀ u0, (w.setCell ⟨g, 0, none⟩ u0).cell? ⟨g, 0, none⟩ = some u0) ∧
    (∀ u0 u1, ((w.setCell ⟨g, 0, none⟩ u0).setCell ⟨g, 1, none⟩ u1).cell? ⟨g, 1, none⟩ = some u1) ∧
    (∀ u0 u1 u2, (((w.setCell ⟨g, 0, none⟩ u0).setCell ⟨g, 1, none⟩ u1).setCell ⟨g, 2, none⟩ u2).cell? ⟨g, 2, none⟩ = some u2) :=
  ⟨fun u0 => (h.set3_0 u0).cell 0,
    fun u0 u1 => ((h.set3_0 u0).set3_1 u1).cell 1,
    fun u0 u1 u2 => (((h.set3_0 u0).set3_1 u1).set3_2 u2).cell 2⟩
end
theorem grown3 (w : World) (g : Nat) (u0 u1 u2 : Value) : w.grownBy (put3 w g u0 u1 u2) (some g) := by
  have h := fun (W : World) (i : Nat) (u : Value) => grown_setCell W ⟨g, i, none⟩ u
  exact (grown_trans (grown_trans (h _ _ _) (h _ _ _)) (h _ _ _))

theorem zero_kindM {t : List Nd} : (tget t 0).kind = 0 := by
  rw [tget_out (by omega)]
  rfl
structure LdS (w wr : World) (C R L A B : Nat) (vl : Value) (l : List Nm) (i : Int) (f : Nat) (c : Wh) (A0 : Option Addr) (m k : Nat) : Prop where
  below : Below w.heap.size w wr
  kc : Blk wr C 30 #[.int .i64 c.u, .int .i64 c.g, .slice A0 m k]
  kr : Blk wr R 197 #[.int .i64 0, .string ⟨#[]⟩, .int .i64 0]
  k3 : LdK wr L A B vl l i f
  lo : w.heap.size ≤ L ∧ w.heap.size ≤ A ∧ w.heap.size ≤ B
theorem LdS.later {w wr w' : World} {C R L A B : Nat} {vl : Value} {l : List Nm} {i : Int} {f : Nat} {c : Wh} {A0 : Option Addr} {m k : Nat} (h : LdS w wr C R L A B vl l i f c A0 m k) (hb : Below wr.heap.size wr w') : LdS w w' C R L A B vl l i f c A0 m k :=
  ⟨bt hb h.below, h.kc.below hb, h.kr.below hb, h.k3.later hb, h.lo⟩
section
variable {w wr : World} {C R L A B : Nat} {vl : Value} {l : List Nm} {i : Int} {f : Nat} {c : Wh} {A0 : Option Addr} {m k : Nat}
theorem LdS.cl (h : LdS w wr C R L A B vl l i f c A0 m k) : C ≠ L ∧ C ≠ A ∧ C ≠ B ∧ R ≠ L ∧ R ≠ A ∧ R ≠ B :=
  ⟨blk_ne h.kc h.k3.kl (by decide), blk_ne h.kc h.k3.ka (by decide), blk_ne h.kc h.k3.kb (by decide), blk_ne h.kr h.k3.kl (by decide), blk_ne h.kr h.k3.ka (by decide), blk_ne h.kr h.k3.kb (by decide)⟩
theorem LdS.setL (h : LdS w wr C R L A B vl l i f c A0 m k) {v' : Value} {l' : List Nm} (hn : StrsT wr v' (bAs l')) : LdS w (wr.setCell ⟨L, 0, none⟩ v') C R L A B v' l' i f c A0 m k :=
  have hg := grown_setCell wr ⟨L, 0, none⟩ v'
  ⟨below_grown h.below hg h.lo.1, h.kc.kept hg (some_ne h.cl.1), h.kr.kept hg (some_ne h.cl.2.2.2.1), h.k3.setL hn, h.lo⟩
theorem LdS.setA (h : LdS w wr C R L A B vl l i f c A0 m k) (j : Int) : LdS w (wr.setCell ⟨A, 0, none⟩ (.int .i64 j)) C R L A B vl l j f c A0 m k :=
  have hg := grown_setCell wr ⟨A, 0, none⟩ (.int .i64 j)
  ⟨below_grown h.below hg h.lo.2.1, h.kc.kept hg (some_ne h.cl.2.1), h.kr.kept hg (some_ne h.cl.2.2.2.2.1), h.k3.setA j, h.lo⟩
theorem LdS.went {w' : World} {vl' : Value} {l' : List Nm} {j : Int} {g : Nat} (h : LdS w wr C R L A B vl l i f c A0 m k) (hc : Ch3 wr w' L A B) (hk : LdK w' L A B vl' l' j g) : LdS w w' C R L A B vl' l' j g c A0 m k :=
  ⟨hc.below h.below h.lo.1 h.lo.2.1 h.lo.2.2, hc.blk h.kc h.cl.1 h.cl.2.1 h.cl.2.2.1, hc.blk h.kr h.cl.2.2.2.1 h.cl.2.2.2.2.1 h.cl.2.2.2.2.2, hk, h.lo⟩
theorem lds_start {w2 w3 : World} {v3 : Value} {S : List Nm} (hb : Below w.heap.size w w2) (hk : Blk w2 C 30 #[.int .i64 c.u, .int .i64 c.g, .slice A0 m k]) (hr : Blk w2 R 197 #[.int .i64 0, .string ⟨#[]⟩, .int .i64 0]) (hb3 : Below w2.heap.size w2 w3) (hn : StrsT w3 v3 (bAs S)) :
    LdS w (((w3.alloc (.cells #[v3] 55)).alloc (.cells #[.int .i64 1] 3)).alloc (.cells #[.int .i64 0] 3)) C R w3.heap.size (w3.heap.size + 1) (w3.heap.size + 1 + 1) v3 S 1 0 c A0 m k := by
  have b1 := ba w3 (.cells #[v3] 55)
  have k1 := Blk.new w3 55 #[v3]
  have e1 : (w3.alloc (.cells #[v3] 55)).heap.size = w3.heap.size + 1 := by simp
  generalize w3.alloc (.cells #[v3] 55) = x1 at b1 k1 e1 ⊢
  have b2 := ba x1 (.cells #[.int .i64 1] 3)
  have k2 := Blk.new x1 3 #[.int .i64 1]
  have e2 : (x1.alloc (.cells #[.int .i64 1] 3)).heap.size = w3.heap.size + 1 + 1 := by simp [e1]
  rw [e1] at k2
  generalize x1.alloc (.cells #[.int .i64 1] 3) = x2 at b2 k2 e2 ⊢
  have b3 := ba x2 (.cells #[.int .i64 0] 3)
  have k3 := Blk.new x2 3 #[.int .i64 0]
  rw [e2] at k3
  have bb := bt b3 (bt b2 b1)
  have hs : w.heap.size ≤ w3.heap.size := Nat.le_trans hb.size hb3.size
  exact ⟨bt bb (bt hb3 hb), (hk.below hb3).below bb, (hr.below hb3).below bb, ⟨(k1.below b2).below b3, k2.below b3, k3, by omega, hn.below bb⟩, by omega, by omega, by omega⟩
end
set_option maxHeartbeats 8000000 in
theorem lead_any (v : Value) (t : List Nd) (c : Wh) (A0 : Option Addr) (m k : Nat) (p : Nm) (f : Bool) (w : World) (h : TabP w v t) (hc : CrR w c A0 m k) (hp : p.length ≤ 1000) (F : Fo) (E : Int) (hR : wlk t c f 8 (splitP p) 1 = (F, E)) :
    Calls Tryz.prog 182 #[v, .agg #[.int .i64 c.u, .int .i64 c.g, .slice A0 m k], .string (bA p), .bool f] w fun e w' => e = .returned (.tuple #[.agg #[.int .i64 F.dir, .string (bA F.name), .int .i64 F.node], .int .i64 E]) ∧ Below w.heap.size w w' := by
  have hmf : ∀ (fn : Fn) (first cap : Array Value) (w : World), (Instr.makeFunc fn first cap).run Tryz.prog w = .ok (.func fn first cap) w := fun _ _ _ _ => rfl
  have hb1 := ba w (.cells #[.int .i64 c.u, .int .i64 c.g, .slice A0 m k] 30)
  have hk1 := Blk.new w 30 #[.int .i64 c.u, .int .i64 c.g, .slice A0 m k]
  obtain ⟨W1, hW1⟩ : ∃ W1, w.alloc (.cells #[.int .i64 c.u, .int .i64 c.g, .slice A0 m k] 30) = W1 := ⟨_, rfl⟩
  rw [hW1] at hb1 hk1
  have hb2 := al hb1 (.cells #[.int .i64 0, .string ⟨#[]⟩, .int .i64 0] 197)
  have hk2 := hk1.below (ba W1 (.cells #[.int .i64 0, .string ⟨#[]⟩, .int .i64 0] 197))
  have hr2 := Blk.new W1 197 #[.int .i64 0, .string ⟨#[]⟩, .int .i64 0]
  obtain ⟨W2, hW2⟩ : ∃ W2, W1.alloc (.cells #[.int .i64 0, .string ⟨#[]⟩, .int .i64 0] 197) = W2 := ⟨_, rfl⟩
  rw [hW2] at hb2 hk2 hr2
  obtain ⟨R, hR1⟩ : ∃ R, W1.heap.size = R := ⟨_, rfl⟩
  rw [hR1] at hr2
  have HRW := Lib.hid (show w.heap.size ≤ R by rw [← hR1]; exact hb1.size)
  have HS := Lib.hid (split_own (bA p) W2 (by rw [size_bA]; omega))
  rw [tl_bA] at HS
  have HSL := Lib.hid (spl_len p)
  have HT := Lib.hid h
  have HC := Lib.hid hc
  have HB2 := Lib.hid hb2
  have HK2 := Lib.hid hk2
  have HR2 := Lib.hid hr2
  have HWK := Lib.hid hR
  generalize splitP p = S at HS HSL HWK
  generalize absP p = ap at HS
  clear h hc hb1 hk1 hb2 hk2 hr2 hR
  go_enter Tryz.func182, Tryz.ntmps182
  go_wp2
  go_step3
  go_wp2_with fail
  refine HS.out.mono ?_
  rintro e w3 ⟨v3, rfl, ho, hb3⟩
  obtain ⟨A3, c3, rfl⟩ := own_slice ho
  go_wp2
  go_step3
  go_wp2
  have hS := lds_start HB2.out HK2.out HR2.out hb3 (StrsT.of_own ho)
  have hSl : S.length ≤ 1002 := by have := HSL.out; omega
  clear hmf hW1 hW2 hR1 HB2 HK2 HR2 HS HSL ho hb3
  generalize w3.heap.size + 1 + 1 = B at hS ⊢
  generalize w3.heap.size + 1 = A at hS ⊢
  generalize w3.heap.size = L at hS ⊢
  have HS0 := Lib.hid hS
  have HSl := Lib.hid hSl
  clear hS hSl
  go_loopg [] (8000 + S.length) (fun gh wr => ∃ (vl : Value) (l : List Nm) (i : Int) (g : Nat), gh = (8 - g) * 1000 + l.length ∧ g ≤ 8 ∧ l.length ≤ 1002 + 66 * g ∧ LdS w wr w.heap.size R L A B vl l i g c A0 m k ∧ wlk t c f (8 - g) l i = (F, E))
  case atStart =>
    have h1 := HSl.out
    exact ⟨_, S, 1, 0, by omega, by omega, by omega, HS0.out, HWK.out⟩
  case round =>
    clear HS0 HSl HWK
    obtain ⟨vl, l, i, g, rfl, hg, hl, hS, hw⟩ := hrel
    have HS := Lib.hid hS
    have HW := Lib.hid hw
    clear hS hw
    cases l with
    | nil =>
      have HZ := Lib.hid (show F = ⟨i, [], i⟩ ∧ E = 0 from by have h := HW.out; rw [wlk_nil] at h; injection h with h1 h2; exact ⟨h1.symm, h2.symm⟩)
      obtain ⟨Av, cv, hv⟩ : ∃ (Av : Option Addr) (cv : Nat), vl = .slice Av 0 cv := by obtain ⟨A', c', e, -⟩ := HS.out.k3.names.1; exact ⟨A', c', e⟩
      subst hv
      obtain ⟨⟨l0, l1⟩, ⟨a0, a1⟩, -⟩ := HS.out.k3.facts
      obtain ⟨p0, p1, p2⟩ := HS.out.kr.c3
      obtain ⟨q0, q1, q2⟩ := HS.out.kr.f3
      obtain ⟨s0, s1, s2⟩ := HS.out.kr.s3
      have HG := Lib.hid (grown3 wr R (.int .i64 i) (.string ⟨#[]⟩) (.int .i64 i))
      go_wp2
      rw [Exit.noGoto_ret]
      exact bodyPost_ret (v := .tuple #[.agg #[.int .i64 i, .string ⟨#[]⟩, .int .i64 i], .int .i64 0]) (by simp [results, Tryz.results182, go_sem, s0, s1, s2]) rfl ⟨by rw [HZ.out.1, HZ.out.2]; rfl, below_grown HS.out.below HG.out HRW.out⟩
    | cons n r =>
      have hlr : r.length + 1 ≤ 1002 + 66 * g := by simpa using hl
      obtain ⟨ad, c1, c2, A2, hv, h0, hT, hrun⟩ := tail_run (show StrsT wr vl (bA n :: bAs r) from HS.out.k3.names)
      have hbr : (bAs r).length = r.length := bAs_len r
      generalize (bAs r).length = N at hv hT hrun hbr
      have HBR := Lib.hid hbr
      clear hbr
      subst hv
      have hS1 := HS.out.setL hT
      have HS1 := Lib.hid hS1
      have HSR := Lib.hid (searched_any v t c A0 m k i _ (HT.out.below hS1.below) (HC.out.below hS1.below))
      obtain ⟨⟨l0, l1⟩, -, -⟩ := HS.out.k3.facts
      obtain ⟨k0, k1, k2⟩ := hS1.kc.c3
      obtain ⟨-, ⟨a0, -⟩, -⟩ := hS1.k3.facts
      have hgt : (N : Int) + 1 > 0 := by omega
      clear hS1 hl HS
      go_wp2_with fail
      refine HSR.out.mono ?_
      rintro e w5 ⟨nd, A5, A6, k5, k6, rfl, hsr, hb5⟩
      have hbx := al hb5 (.cells (ndC nd (.slice A5 nd.data.length k5) (.slice A6 nd.ents.length k6)) 65)
      have hbw := ba w5 (.cells (ndC nd (.slice A5 nd.data.length k5) (.slice A6 nd.ents.length k6)) 65)
      have hS6 := HS1.out.later hbx
      have hkn := Blk.new w5 65 (ndC nd (.slice A5 nd.data.length k5) (.slice A6 nd.ents.length k6))
      have HND := Lib.hid (fun h => (show nd = tget t i ∧ BytesR _ (.slice A5 nd.data.length k5) nd.data ∧ EntsR _ (.slice A6 nd.ents.length k6) nd.ents from ⟨(hsr h).1, (hsr h).2.1.below hbw, (hsr h).2.2.below hbw⟩))
      obtain ⟨x, hx⟩ : ∃ x, w5.heap.size = x := ⟨_, rfl⟩
      obtain ⟨W6, hW6⟩ : ∃ W6, w5.alloc (.cells (ndC nd (.slice A5 nd.data.length k5) (.slice A6 nd.ents.length k6)) 65) = W6 := ⟨_, rfl⟩
      rw [hW6] at hS6 hkn HND
      rw [hx] at hkn
      have HS6 := Lib.hid hS6
      have HKN := Lib.hid hkn
      clear hb5 hbx hbw hsr hS6 hkn HSR HS1 l0 l1 k0 k1 k2 a0 h0 hT hrun
      by_cases q : srE t c i = 0
      · obtain ⟨hnd, hd6, he6⟩ := HND.out q
        have HNE := Lib.hid hnd
        have HD6 := Lib.hid hd6
        have HE6 := Lib.hid he6
        have HQ := Lib.hid q
        have hkn := HKN.out
        rw [q]
        clear hnd hd6 he6 q HND
        by_cases n1 : n = [46]
        · have e1 : ((bA n).toList == ([46] : List UInt8)) = true := by rw [bA_list, n1]; rfl
          have HWN := Lib.hid (show wlk t c f (8 - g) r i = (F, E) from by have h := HW.out; rw [wlk_dot HQ.out n1] at h; exact h)
          clear n1 HW hkn
          go_wp2
          go_roundg ((8 - g) * 1000 + r.length)
          case measure => rw [List.length_cons]; omega
          case rel => exact ⟨_, r, i, g, rfl, hg, by omega, HS6.out, HWN.out⟩
        have e1 : ((bA n).toList == ([46] : List UInt8)) = false := by rw [bA_list]; simpa using n1
        by_cases n2 : n = [46, 46]
        · have e2 : ((bA n).toList == ([46, 46] : List UInt8)) = true := by rw [bA_list, n2]; rfl
          have HWN := Lib.hid (show wlk t c f (8 - g) r (upI t i) = (F, E) from by have h := HW.out; rw [wlk_up HQ.out n2] at h; exact h)
          have HUP := Lib.hid (resup_any v t i W6 (HT.out.below HS6.out.below))
          obtain ⟨-, ⟨a0, a1⟩, -⟩ := HS6.out.k3.facts
          generalize upI t i = up at HWN HUP
          clear n1 n2 HW hkn
          go_wp2_with fail
          refine HUP.out.mono ?_
          rintro e w7 ⟨rfl, hb7⟩
          have hS7 := HS6.out.later hb7
          have HS8 := Lib.hid (hS7.setA up)
          clear a0 a1 hb7
          obtain ⟨-, ⟨a0, a1⟩, -⟩ := hS7.k3.facts
          clear hS7 HS6
          go_wp2
          go_roundg ((8 - g) * 1000 + r.length)
          case measure => rw [List.length_cons]; omega
          case rel => exact ⟨_, r, up, g, rfl, hg, by omega, HS8.out, HWN.out⟩
        have e2 : ((bA n).toList == ([46, 46] : List UInt8)) = false := by rw [bA_list]; simpa using n2
        have HN := Lib.hid (show n ≠ [46] ∧ n ≠ [46, 46] from ⟨n1, n2⟩)
        clear n1 n2
        have HFEW := Lib.hid (show nd.ents.length ≤ 1000 from by rw [HNE.out]; have := (ok_few HT.out.ok.1 i).ents; omega)
        have HFD := Lib.hid (fun W (hb : Below W6.heap.size W6 W) => find_any nd _ _ n W (HD6.out.below hb) (HE6.out.below hb) HFEW.out)
        unfold nodeV at HFD
        obtain ⟨id, hid⟩ : ∃ id, fnd nd.ents n = id := ⟨_, rfl⟩
        rw [hid] at HFD
        have HID := Lib.hid (show fnd (tget t i).ents n = id from by rw [← HNE.out]; exact hid)
        clear hid
        obtain ⟨n0, n1, n2, n3, n4, n5, n6⟩ := hkn.c7
        obtain ⟨⟨l0, -⟩, -, -⟩ := HS6.out.k3.facts
        have hs0 : W6.drew.cell? ⟨x, 0, none⟩ = some (.int .i64 nd.kind) := n0
        have hs1 : W6.drew.cell? ⟨x, 1, none⟩ = some (.int .i64 nd.mode) := n1
        have hs2 : W6.drew.cell? ⟨x, 2, none⟩ = some (.int .i64 nd.uid) := n2
        have hs3 : W6.drew.cell? ⟨x, 3, none⟩ = some (.int .i64 nd.gid) := n3
        have hs4 : W6.drew.cell? ⟨x, 4, none⟩ = some (.slice A5 nd.data.length k5) := n4
        have hs5 : W6.drew.cell? ⟨x, 5, none⟩ = some (.slice A6 nd.ents.length k6) := n5
        have hs6 : W6.drew.cell? ⟨x, 6, none⟩ = some (.string (bA nd.target)) := n6
        have hs7 : W6.drew.cell? ⟨L, 0, none⟩ = some (.slice A2 N c2) := l0
        have hs8 : Below W6.heap.size W6 W6.drew := (Below.refl _ _).drew
        clear n0 n1 n2 n3 n4 n5 n6 l0 hkn
        go_upto_region 14 with fail
        go_region_held3 (fun w' => w'.cell? ⟨x, 0, none⟩ = some (.int .i64 nd.kind) ∧ w'.cell? ⟨x, 1, none⟩ = some (.int .i64 nd.mode) ∧ w'.cell? ⟨x, 2, none⟩ = some (.int .i64 nd.uid) ∧ w'.cell? ⟨x, 3, none⟩ = some (.int .i64 nd.gid) ∧ w'.cell? ⟨x, 4, none⟩ = some (.slice A5 nd.data.length k5) ∧ w'.cell? ⟨x, 5, none⟩ = some (.slice A6 nd.ents.length k6) ∧ w'.cell? ⟨x, 6, none⟩ = some (.string (bA nd.target)) ∧ w'.cell? ⟨L, 0, none⟩ = some (.slice A2 N c2) ∧ Below W6.heap.size W6 w')
          (first | exact ⟨hs0, hs1, hs2, hs3, hs4, hs5, hs6, hs7, hs8⟩ | exact ⟨bc h1 hs0, bc h1 hs1, bc h1 hs2, bc h1 hs3, bc h1 hs4, bc h1 hs5, bc h1 hs6, bc h1 hs7, bt h1 hs8⟩)
          (first | (go_at_call 206; (with_reducible refine (HFD.out _ hs8).mono ?_); rintro e1 w7 ⟨rfl, h1⟩))
        have hS7 := HS6.out.later (bt h1 hs8)
        have HS7 := Lib.hid hS7
        have HG := Lib.hid (get_any v t id w7 (HT.out.below hS7.below))
        obtain ⟨n2, hn2⟩ : ∃ n2, tget t id = n2 := ⟨_, rfl⟩
        rw [hn2] at HG
        have HN2 := Lib.hid hn2
        clear hs0 hs1 hs2 hs3 hs4 hs5 hs6 hs7 hs8 h1 hS7 hn2
        generalize tis t id = b2 at HG
        unfold nodeV at HG
        go_wp2_with fail
        refine HG.out.mono ?_
        rintro e w8 ⟨vd, ve, rfl, hd8, he8, -, -, hb8⟩
        obtain ⟨A7, k7, rfl⟩ := bytesT_form hd8
        obtain ⟨A8, k8, rfl⟩ := entsT_form he8
        have hS9 := HS7.out.later (al hb8 (.cells (ndC n2 (.slice A7 n2.data.length k7) (.slice A8 n2.ents.length k8)) 65))
        have hkm := Blk.new w8 65 (ndC n2 (.slice A7 n2.data.length k7) (.slice A8 n2.ents.length k8))
        obtain ⟨y, hy⟩ : ∃ y, w8.heap.size = y := ⟨_, rfl⟩
        obtain ⟨W9, hW9⟩ : ∃ W9, w8.alloc (.cells (ndC n2 (.slice A7 n2.data.length k7) (.slice A8 n2.ents.length k8)) 65) = W9 := ⟨_, rfl⟩
        rw [hW9] at hS9 hkm
        rw [hy] at hkm
        have HS9 := Lib.hid hS9
        obtain ⟨n0, n1, n2c, n3, n4, n5, n6⟩ := hkm.c7
        clear hd8 he8 hb8 HG HS7 HS6 hkm HD6 HE6 HFD HKN HNE HFEW
        have hsz := size_bA n
        by_cases h12 : 12 < n.length
        · have e3 : ((bA n).size : Int) > 12 := by rw [hsz]; omega
          have HZ := Lib.hid (show F = Fo.zero ∧ E = 36 from by have h := HW.out; rw [wlk_long HQ.out HN.out.1 HN.out.2 h12] at h; injection h with h1 h2; exact ⟨h1.symm, h2.symm⟩)
          obtain ⟨p0, p1, p2⟩ := hS9.kr.c3
          obtain ⟨q0, q1, q2⟩ := hS9.kr.f3
          obtain ⟨s0, s1, s2⟩ := hS9.kr.s3
          have HGR := Lib.hid (grown3 W9 R (.int .i64 0) (.string ⟨#[]⟩) (.int .i64 0))
          clear hS9 h12 hsz
          go_wp2
          rw [Exit.noGoto_ret]
          exact bodyPost_ret (v := .tuple #[.agg #[.int .i64 0, .string ⟨#[]⟩, .int .i64 0], .int .i64 36]) (by simp [results, Tryz.results182, go_sem, s0, s1, s2]) rfl ⟨by rw [HZ.out.1, HZ.out.2]; try rfl, below_grown HS9.out.below HGR.out HRW.out⟩
        have e3 : ¬ ((bA n).size : Int) > 12 := by rw [hsz]; omega
        have H12 := Lib.hid h12
        clear h12 hsz
        have HBN := HBR.out
        by_cases hr : r = []
        · have eN : ((N : Int) == 0) = true := by rw [HBN, hr]; rfl
          have HR0 := Lib.hid hr
          clear hr HBN
          by_cases hk : n2.kind = 3
          · have eK : (n2.kind == 3) = true := by simpa using hk
            have HIZ := Lib.hid (show id ≠ 0 from fun q => by have h := HN2.out; rw [q] at h; rw [← h, zero_kindM] at hk; exact absurd hk (by decide))
            have eI : (id == 0) = false := by rw [beq_eq_false_iff_ne]; exact HIZ.out
            cases f with
            | true =>
              by_cases hg8 : g = 8
              · have e8 : ((g : Int) == 8) = true := by rw [hg8]; rfl
                have hw8 : 8 - g = 0 := by omega
                have HW0 := Lib.hid (show wlk t c true 0 (n :: r) i = (F, E) from by have h := HW.out; rw [hw8] at h; exact h)
                obtain ⟨-, -, ⟨b0, b1⟩⟩ := hS9.k3.facts
                have HZ := Lib.hid (show F = Fo.zero ∧ E = 40 from by have h := HW0.out; rw [wlk_loop HQ.out HN.out.1 HN.out.2 H12.out (fun q => HIZ.out (by rw [← HID.out]; exact q.1)) ⟨by rw [HID.out, HN2.out]; exact hk, .inl rfl⟩] at h; injection h with h1 h2; exact ⟨h1.symm, h2.symm⟩)
                obtain ⟨p0, p1, p2⟩ := hS9.kr.c3
                obtain ⟨q0, q1, q2⟩ := hS9.kr.f3
                obtain ⟨s0, s1, s2⟩ := hS9.kr.s3
                have HGR := Lib.hid (grown3 W9 R (.int .i64 0) (.string ⟨#[]⟩) (.int .i64 0))
                clear hS9 hg8 hw8 hk
                go_wp2
                rw [Exit.noGoto_ret]
                exact bodyPost_ret (v := .tuple #[.agg #[.int .i64 0, .string ⟨#[]⟩, .int .i64 0], .int .i64 40]) (by simp [results, Tryz.results182, go_sem, s0, s1, s2]) rfl ⟨by rw [HZ.out.1, HZ.out.2]; try rfl, below_grown HS9.out.below HGR.out HRW.out⟩
              · have e8 : ((g : Int) == 8) = false := by rw [beq_eq_false_iff_ne]; omega
                obtain ⟨j, hj⟩ : ∃ j, 8 - g = j + 1 := ⟨7 - g, by omega⟩
                have HWN := Lib.hid (show wlk t c true (8 - (g + 1)) (splitP n2.target ++ r) (if absP n2.target = true then 1 else i) = (F, E) from by have h := HW.out; rw [hj, wlk_link HQ.out HN.out.1 HN.out.2 H12.out (fun q => HIZ.out (by rw [← HID.out]; exact q.1)) ⟨by rw [HID.out, HN2.out]; exact hk, .inl rfl⟩, HID.out, HN2.out] at h; rw [show 8 - (g + 1) = j by omega]; exact h)
                have HTL := Lib.hid (show n2.target.length ≤ 64 from by rw [← HN2.out]; exact target_len HT.out.ok.1 id)
                have HGA := Lib.hid (goAlong_any n2.target r L A B _ i g W9 hS9.k3 (by have := HTL.out; omega) (by omega) (by omega))
                obtain ⟨-, -, ⟨b0, b1⟩⟩ := hS9.k3.facts
                have HL2 := Lib.hid (spl_len n2.target)
                generalize splitP n2.target = sp at HWN HGA HL2
                generalize (if absP n2.target = true then 1 else i) = i2 at HWN HGA
                clear hS9 hk hj
                go_wp2_with fail
                refine HGA.out.mono ?_
                rintro e w10 ⟨rfl, ⟨vl', hk10⟩, hch⟩
                have HS10 := Lib.hid (HS9.out.went hch hk10)
                clear hk10 hch
                go_wp2
                go_roundg ((8 - (g + 1)) * 1000 + (sp ++ r).length)
                case measure => have h1 := HL2.out; have h2 := HTL.out; rw [List.length_append, List.length_cons]; omega
                case rel => exact ⟨_, sp ++ r, i2, g + 1, rfl, by omega, by have h1 := HL2.out; have h2 := HTL.out; rw [List.length_append]; omega, HS10.out, HWN.out⟩
            | false =>
              obtain ⟨-, ⟨a0, a1⟩, -⟩ := hS9.k3.facts
              have HZ := Lib.hid (show F = ⟨i, n, id⟩ ∧ E = 0 from by have h := HW.out; rw [wlk_last HQ.out HN.out.1 HN.out.2 H12.out (fun q => q.2.elim (fun q => by cases q) (fun q => q HR0.out)) HR0.out, HID.out] at h; injection h with h1 h2; exact ⟨h1.symm, h2.symm⟩)
              obtain ⟨p0, p1, p2⟩ := hS9.kr.c3
              obtain ⟨q0, q1, q2⟩ := hS9.kr.f3
              obtain ⟨s0, s1, s2⟩ := hS9.kr.s3
              have HGR := Lib.hid (grown3 W9 R (.int .i64 i) (.string (bA n)) (.int .i64 id))
              clear hS9 hk
              go_wp2
              rw [Exit.noGoto_ret]
              exact bodyPost_ret (v := .tuple #[.agg #[.int .i64 i, .string (bA n), .int .i64 id], .int .i64 0]) (by simp [results, Tryz.results182, go_sem, s0, s1, s2]) rfl ⟨by rw [HZ.out.1, HZ.out.2]; try rfl, below_grown HS9.out.below HGR.out HRW.out⟩
          · have eK : (n2.kind == 3) = false := by simpa using hk
            have HL3 := Lib.hid (show ¬ ((tget t (fnd (tget t i).ents n)).kind = 3 ∧ (f = true ∨ r ≠ [])) from fun q => hk (by have h := q.1; rw [HID.out, HN2.out] at h; exact h))
            clear hk
            by_cases hz : id = 0
            · have eI : (id == 0) = true := by simpa using hz
              have HZ0 := Lib.hid hz
              clear hz
              obtain ⟨-, ⟨a0, a1⟩, -⟩ := hS9.k3.facts
              have HZ := Lib.hid (show F = ⟨i, n, id⟩ ∧ E = 0 from by have h := HW.out; rw [wlk_last HQ.out HN.out.1 HN.out.2 H12.out (HL3.out) HR0.out, HID.out] at h; injection h with h1 h2; exact ⟨h1.symm, h2.symm⟩)
              obtain ⟨p0, p1, p2⟩ := hS9.kr.c3
              obtain ⟨q0, q1, q2⟩ := hS9.kr.f3
              obtain ⟨s0, s1, s2⟩ := hS9.kr.s3
              have HGR := Lib.hid (grown3 W9 R (.int .i64 i) (.string (bA n)) (.int .i64 id))
              clear hS9 
              go_wp2
              rw [Exit.noGoto_ret]
              exact bodyPost_ret (v := .tuple #[.agg #[.int .i64 i, .string (bA n), .int .i64 id], .int .i64 0]) (by simp [results, Tryz.results182, go_sem, s0, s1, s2]) rfl ⟨by rw [HZ.out.1, HZ.out.2]; try rfl, below_grown HS9.out.below HGR.out HRW.out⟩
            · have eI : (id == 0) = false := by simpa using hz
              clear hz
              obtain ⟨-, ⟨a0, a1⟩, -⟩ := hS9.k3.facts
              have HZ := Lib.hid (show F = ⟨i, n, id⟩ ∧ E = 0 from by have h := HW.out; rw [wlk_last HQ.out HN.out.1 HN.out.2 H12.out (HL3.out) HR0.out, HID.out] at h; injection h with h1 h2; exact ⟨h1.symm, h2.symm⟩)
              obtain ⟨p0, p1, p2⟩ := hS9.kr.c3
              obtain ⟨q0, q1, q2⟩ := hS9.kr.f3
              obtain ⟨s0, s1, s2⟩ := hS9.kr.s3
              have HGR := Lib.hid (grown3 W9 R (.int .i64 i) (.string (bA n)) (.int .i64 id))
              clear hS9 
              go_wp2
              rw [Exit.noGoto_ret]
              exact bodyPost_ret (v := .tuple #[.agg #[.int .i64 i, .string (bA n), .int .i64 id], .int .i64 0]) (by simp [results, Tryz.results182, go_sem, s0, s1, s2]) rfl ⟨by rw [HZ.out.1, HZ.out.2]; try rfl, below_grown HS9.out.below HGR.out HRW.out⟩
        have eN : ((N : Int) == 0) = false := by rw [HBN, beq_eq_false_iff_ne]; intro q; exact hr (List.length_eq_zero_iff.1 (by omega))
        have HR0 := Lib.hid hr
        clear hr HBN
        by_cases hz : id = 0
        · have eI : (id == 0) = true := by simpa using hz
          have HZ0 := Lib.hid hz
          have HZ := Lib.hid (show F = Fo.zero ∧ E = 2 from by have h := HW.out; rw [wlk_gone HQ.out HN.out.1 HN.out.2 H12.out (by rw [HID.out]; exact HZ0.out) HR0.out] at h; injection h with h1 h2; exact ⟨h1.symm, h2.symm⟩)
          obtain ⟨p0, p1, p2⟩ := hS9.kr.c3
          obtain ⟨q0, q1, q2⟩ := hS9.kr.f3
          obtain ⟨s0, s1, s2⟩ := hS9.kr.s3
          have HGR := Lib.hid (grown3 W9 R (.int .i64 0) (.string ⟨#[]⟩) (.int .i64 0))
          clear hS9 hz
          go_wp2
          rw [Exit.noGoto_ret]
          exact bodyPost_ret (v := .tuple #[.agg #[.int .i64 0, .string ⟨#[]⟩, .int .i64 0], .int .i64 2]) (by simp [results, Tryz.results182, go_sem, s0, s1, s2]) rfl ⟨by rw [HZ.out.1, HZ.out.2]; try rfl, below_grown HS9.out.below HGR.out HRW.out⟩
        have HIZ := Lib.hid hz
        have eI : (id == 0) = false := by simpa using hz
        clear hz
        by_cases hk : n2.kind = 3
        · have eK : (n2.kind == 3) = true := by simpa using hk
          cases f with
          | true =>
            by_cases hg8 : g = 8
            · have e8 : ((g : Int) == 8) = true := by rw [hg8]; rfl
              have hw8 : 8 - g = 0 := by omega
              have HW0 := Lib.hid (show wlk t c true 0 (n :: r) i = (F, E) from by have h := HW.out; rw [hw8] at h; exact h)
              obtain ⟨-, -, ⟨b0, b1⟩⟩ := hS9.k3.facts
              have HZ := Lib.hid (show F = Fo.zero ∧ E = 40 from by have h := HW0.out; rw [wlk_loop HQ.out HN.out.1 HN.out.2 H12.out (fun q => HIZ.out (by rw [← HID.out]; exact q.1)) ⟨by rw [HID.out, HN2.out]; exact hk, .inr HR0.out⟩] at h; injection h with h1 h2; exact ⟨h1.symm, h2.symm⟩)
              obtain ⟨p0, p1, p2⟩ := hS9.kr.c3
              obtain ⟨q0, q1, q2⟩ := hS9.kr.f3
              obtain ⟨s0, s1, s2⟩ := hS9.kr.s3
              have HGR := Lib.hid (grown3 W9 R (.int .i64 0) (.string ⟨#[]⟩) (.int .i64 0))
              clear hS9 hg8 hw8 hk
              go_wp2
              rw [Exit.noGoto_ret]
              exact bodyPost_ret (v := .tuple #[.agg #[.int .i64 0, .string ⟨#[]⟩, .int .i64 0], .int .i64 40]) (by simp [results, Tryz.results182, go_sem, s0, s1, s2]) rfl ⟨by rw [HZ.out.1, HZ.out.2]; try rfl, below_grown HS9.out.below HGR.out HRW.out⟩
            · have e8 : ((g : Int) == 8) = false := by rw [beq_eq_false_iff_ne]; omega
              obtain ⟨j, hj⟩ : ∃ j, 8 - g = j + 1 := ⟨7 - g, by omega⟩
              have HWN := Lib.hid (show wlk t c true (8 - (g + 1)) (splitP n2.target ++ r) (if absP n2.target = true then 1 else i) = (F, E) from by have h := HW.out; rw [hj, wlk_link HQ.out HN.out.1 HN.out.2 H12.out (fun q => HIZ.out (by rw [← HID.out]; exact q.1)) ⟨by rw [HID.out, HN2.out]; exact hk, .inr HR0.out⟩, HID.out, HN2.out] at h; rw [show 8 - (g + 1) = j by omega]; exact h)
              have HTL := Lib.hid (show n2.target.length ≤ 64 from by rw [← HN2.out]; exact target_len HT.out.ok.1 id)
              have HGA := Lib.hid (goAlong_any n2.target r L A B _ i g W9 hS9.k3 (by have := HTL.out; omega) (by omega) (by omega))
              obtain ⟨-, -, ⟨b0, b1⟩⟩ := hS9.k3.facts
              have HL2 := Lib.hid (spl_len n2.target)
              generalize splitP n2.target = sp at HWN HGA HL2
              generalize (if absP n2.target = true then 1 else i) = i2 at HWN HGA
              clear hS9 hk hj
              go_wp2_with fail
              refine HGA.out.mono ?_
              rintro e w10 ⟨rfl, ⟨vl', hk10⟩, hch⟩
              have HS10 := Lib.hid (HS9.out.went hch hk10)
              clear hk10 hch
              go_wp2
              go_roundg ((8 - (g + 1)) * 1000 + (sp ++ r).length)
              case measure => have h1 := HL2.out; have h2 := HTL.out; rw [List.length_append, List.length_cons]; omega
              case rel => exact ⟨_, sp ++ r, i2, g + 1, rfl, by omega, by have h1 := HL2.out; have h2 := HTL.out; rw [List.length_append]; omega, HS10.out, HWN.out⟩
          | false =>
            by_cases hg8 : g = 8
            · have e8 : ((g : Int) == 8) = true := by rw [hg8]; rfl
              have hw8 : 8 - g = 0 := by omega
              have HW0 := Lib.hid (show wlk t c false 0 (n :: r) i = (F, E) from by have h := HW.out; rw [hw8] at h; exact h)
              obtain ⟨-, -, ⟨b0, b1⟩⟩ := hS9.k3.facts
              have HZ := Lib.hid (show F = Fo.zero ∧ E = 40 from by have h := HW0.out; rw [wlk_loop HQ.out HN.out.1 HN.out.2 H12.out (fun q => HIZ.out (by rw [← HID.out]; exact q.1)) ⟨by rw [HID.out, HN2.out]; exact hk, .inr HR0.out⟩] at h; injection h with h1 h2; exact ⟨h1.symm, h2.symm⟩)
              obtain ⟨p0, p1, p2⟩ := hS9.kr.c3
              obtain ⟨q0, q1, q2⟩ := hS9.kr.f3
              obtain ⟨s0, s1, s2⟩ := hS9.kr.s3
              have HGR := Lib.hid (grown3 W9 R (.int .i64 0) (.string ⟨#[]⟩) (.int .i64 0))
              clear hS9 hg8 hw8 hk
              go_wp2
              rw [Exit.noGoto_ret]
              exact bodyPost_ret (v := .tuple #[.agg #[.int .i64 0, .string ⟨#[]⟩, .int .i64 0], .int .i64 40]) (by simp [results, Tryz.results182, go_sem, s0, s1, s2]) rfl ⟨by rw [HZ.out.1, HZ.out.2]; try rfl, below_grown HS9.out.below HGR.out HRW.out⟩
            · have e8 : ((g : Int) == 8) = false := by rw [beq_eq_false_iff_ne]; omega
              obtain ⟨j, hj⟩ : ∃ j, 8 - g = j + 1 := ⟨7 - g, by omega⟩
              have HWN := Lib.hid (show wlk t c false (8 - (g + 1)) (splitP n2.target ++ r) (if absP n2.target = true then 1 else i) = (F, E) from by have h := HW.out; rw [hj, wlk_link HQ.out HN.out.1 HN.out.2 H12.out (fun q => HIZ.out (by rw [← HID.out]; exact q.1)) ⟨by rw [HID.out, HN2.out]; exact hk, .inr HR0.out⟩, HID.out, HN2.out] at h; rw [show 8 - (g + 1) = j by omega]; exact h)
              have HTL := Lib.hid (show n2.target.length ≤ 64 from by rw [← HN2.out]; exact target_len HT.out.ok.1 id)
              have HGA := Lib.hid (goAlong_any n2.target r L A B _ i g W9 hS9.k3 (by have := HTL.out; omega) (by omega) (by omega))
              obtain ⟨-, -, ⟨b0, b1⟩⟩ := hS9.k3.facts
              have HL2 := Lib.hid (spl_len n2.target)
              generalize splitP n2.target = sp at HWN HGA HL2
              generalize (if absP n2.target = true then 1 else i) = i2 at HWN HGA
              clear hS9 hk hj
              go_wp2_with fail
              refine HGA.out.mono ?_
              rintro e w10 ⟨rfl, ⟨vl', hk10⟩, hch⟩
              have HS10 := Lib.hid (HS9.out.went hch hk10)
              clear hk10 hch
              go_wp2
              go_roundg ((8 - (g + 1)) * 1000 + (sp ++ r).length)
              case measure => have h1 := HL2.out; have h2 := HTL.out; rw [List.length_append, List.length_cons]; omega
              case rel => exact ⟨_, sp ++ r, i2, g + 1, rfl, by omega, by have h1 := HL2.out; have h2 := HTL.out; rw [List.length_append]; omega, HS10.out, HWN.out⟩
        · have eK : (n2.kind == 3) = false := by simpa using hk
          have HWN := Lib.hid (show wlk t c f (8 - g) r id = (F, E) from by have h := HW.out; rw [wlk_on HQ.out HN.out.1 HN.out.2 H12.out (by rw [HID.out]; exact HIZ.out) (fun q => hk (by have h := q.1; rw [HID.out, HN2.out] at h; exact h)) HR0.out, HID.out] at h; exact h)
          obtain ⟨-, ⟨a0, a1⟩, -⟩ := hS9.k3.facts
          have HS10 := Lib.hid (hS9.setA id)
          clear hS9 hk
          go_wp2
          go_roundg ((8 - g) * 1000 + r.length)
          case measure => rw [List.length_cons]; omega
          case rel => exact ⟨_, r, id, g, rfl, hg, by omega, HS10.out, HWN.out⟩
      · have HZ := Lib.hid (show F = Fo.zero ∧ E = srE t c i from by have h := HW.out; rw [wlk_sr q] at h; injection h with h1 h2; exact ⟨h1.symm, h2.symm⟩)
        have q3 : (srE t c i != 0) = true := by simpa using q
        obtain ⟨p0, p1, p2⟩ := HS6.out.kr.c3
        obtain ⟨q0, q1, q2⟩ := HS6.out.kr.f3
        obtain ⟨s0, s1, s2⟩ := HS6.out.kr.s3
        have HG := Lib.hid (grown3 W6 R (.int .i64 0) (.string ⟨#[]⟩) (.int .i64 0))
        generalize srE t c i = sr at q3 HZ ⊢
        clear q HND
        go_wp2
        rw [Exit.noGoto_ret]
        exact bodyPost_ret (v := .tuple #[.agg #[.int .i64 0, .string ⟨#[]⟩, .int .i64 0], .int .i64 sr]) (by simp [results, Tryz.results182, go_sem, s0, s1, s2]) rfl ⟨by rw [HZ.out.1, HZ.out.2]; rfl, below_grown HS6.out.below HG.out HRW.out⟩
end Go.Proofs.YtnkjaocmfhjnoaaGreat
namespace Go.Proofs.YtnkjaocmfhjnoaaGreat
open Go Go.RowKit
set_option maxRecDepth 100000

attribute [local go_sem] cell_off4 cell_blk4
theorem fit_len {t : List Nd} {p : Nm} (h : fitE t p = 0) : p.length ≤ 64 := by
  unfold fitE at h
  split at h
  · exact absurd h (by decide)
  · split at h
    · exact absurd h (by decide)
    · omega
set_option maxHeartbeats 8000000 in
theorem resolve_any (v : Value) (t : List Nd) (c : Wh) (A0 : Option Addr) (m k : Nat) (p : Nm) (f : Bool) (w : World) (h : TabP w v t) (hc : CrR w c A0 m k) (X : Fo × Int) (hX : resM t c p f = X) :
    Calls Tryz.prog 150 #[v, .agg #[.int .i64 c.u, .int .i64 c.g, .slice A0 m k], .string (bA p), .bool f] w fun e w' => e = .returned (.tuple #[.agg #[.int .i64 X.1.dir, .string (bA X.1.name), .int .i64 X.1.node], .int .i64 X.2]) ∧ Below w.heap.size w w' := by
  have hb1 := ba w (.cells #[.int .i64 c.u, .int .i64 c.g, .slice A0 m k] 30)
  have hk1 := Blk.new w 30 #[.int .i64 c.u, .int .i64 c.g, .slice A0 m k]
  obtain ⟨W1, hW1⟩ : ∃ W1, w.alloc (.cells #[.int .i64 c.u, .int .i64 c.g, .slice A0 m k] 30) = W1 := ⟨_, rfl⟩
  rw [hW1] at hb1 hk1
  have hb2 := al hb1 (.cells #[.int .i64 0, .string ⟨#[]⟩, .int .i64 0] 197)
  have hk2 := hk1.below (ba W1 (.cells #[.int .i64 0, .string ⟨#[]⟩, .int .i64 0] 197))
  have hr2 := Blk.new W1 197 #[.int .i64 0, .string ⟨#[]⟩, .int .i64 0]
  obtain ⟨W2, hW2⟩ : ∃ W2, W1.alloc (.cells #[.int .i64 0, .string ⟨#[]⟩, .int .i64 0] 197) = W2 := ⟨_, rfl⟩
  rw [hW2] at hb2 hk2 hr2
  obtain ⟨R, hR1⟩ : ∃ R, W1.heap.size = R := ⟨_, rfl⟩
  rw [hR1] at hr2
  have HRW := Lib.hid (show w.heap.size ≤ R by rw [← hR1]; exact hb1.size)
  have HU := Lib.hid (unfit_any v t p W2 (h.below hb2))
  have HT := Lib.hid h
  have HC := Lib.hid hc
  have HB2 := Lib.hid hb2
  have HK2 := Lib.hid hk2
  have HR2 := Lib.hid hr2
  have HX := Lib.hid (show (if fitE t p ≠ 0 then (Fo.zero, fitE t p) else wlk t c f 8 (splitP p) 1) = X from hX)
  have HP := Lib.hid (fun h => fit_len (t := t) (p := p) h)
  generalize fitE t p = u at HU HX HP
  clear h hc hb1 hk1 hb2 hk2 hr2 hX
  go_enter Tryz.func150, Tryz.ntmps150
  go_wp2_with fail
  clear hW1 hW2 hR1
  refine HU.out.mono ?_
  rintro e w3 ⟨rfl, hb3⟩
  have hk3 := HK2.out.below hb3
  have hr3 := HR2.out.below hb3
  have HR3 := Lib.hid hr3
  have HB3 := Lib.hid (bt hb3 HB2.out)
  by_cases q : u = 0
  · have q1 : (u != 0) = false := by simpa using q
    have hx := HX.out
    rw [if_neg (fun h => h q)] at hx
    have HL := Lib.hid (lead_any v t c A0 m k p f w3 (HT.out.below HB3.out) (HC.out.below HB3.out) (by have := HP.out q; omega) X.1 X.2 hx)
    obtain ⟨k0, k1, k2⟩ := hk3.c3
    clear q hx hk3 hr3 hb3
    go_wp2_with fail
    refine HL.out.mono ?_
    rintro e w4 ⟨rfl, hb4⟩
    have hr4 := HR3.out.below hb4
    have HB4 := Lib.hid (bt hb4 HB3.out)
    obtain ⟨p0, p1, p2⟩ := hr4.c3
    obtain ⟨q0, q1, q2⟩ := hr4.f3
    obtain ⟨s0, s1, s2⟩ := hr4.s3
    have HG := Lib.hid (grown3 w4 R (.int .i64 X.1.dir) (.string (bA X.1.name)) (.int .i64 X.1.node))
    clear k0 k1 k2 hr4 hb4 HL
    go_wp2
    exact bodyPost_ret (v := .tuple #[.agg #[.int .i64 X.1.dir, .string (bA X.1.name), .int .i64 X.1.node], .int .i64 X.2]) (by simp [results, Tryz.results150, go_sem, s0, s1, s2]) rfl ⟨rfl, below_grown HB4.out HG.out HRW.out⟩
  · have q3 : (u != 0) = true := by simpa using q
    have HZ := Lib.hid (show X = (Fo.zero, u) from by have h := HX.out; rw [if_pos q] at h; exact h.symm)
    obtain ⟨p0, p1, p2⟩ := hr3.c3
    obtain ⟨q0, q1, q2⟩ := hr3.f3
    obtain ⟨s0, s1, s2⟩ := hr3.s3
    have HG := Lib.hid (grown3 w3 R (.int .i64 0) (.string ⟨#[]⟩) (.int .i64 0))
    clear q hk3 hr3 hb3
    go_wp2
    exact bodyPost_ret (v := .tuple #[.agg #[.int .i64 0, .string ⟨#[]⟩, .int .i64 0], .int .i64 u]) (by simp [results, Tryz.results150, go_sem, s0, s1, s2]) rfl ⟨by rw [HZ.out]; rfl, below_grown HB3.out HG.out HRW.out⟩
end Go.Proofs.YtnkjaocmfhjnoaaGreat
