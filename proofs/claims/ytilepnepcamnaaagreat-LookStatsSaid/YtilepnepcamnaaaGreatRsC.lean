/-
  What Can, searched, up and unfit of package resolve answer. The condition: no more groups than a million.
-/
import Derived.Test.YtilepnepcamnaaaGreatRsM
import Derived.Test.YtilepnepcamnaaaGreatRsF
namespace Go.Proofs.YtilepnepcamnaaaGreat
open Go Go.RowKit
set_option maxRecDepth 100000

attribute [local go_sem] cell_off4 cell_blk4
def crV (c : Wh) (A : Option Addr) (m k : Nat) : Value := .agg #[.int .i64 c.u, .int .i64 c.g, .slice A m k]
/-- Who asks, as it lies in memory. -/
structure CrR (w : World) (c : Wh) (A : Option Addr) (m k : Nat) : Prop where
  ints : IntsR w (.slice A m k) c.gs
  few : c.gs.length ≤ 1000000
theorem CrR.below {w w' : World} {c : Wh} {A : Option Addr} {m k : Nat} (h : CrR w c A m k) (hb : Below w.heap.size w w') : CrR w' c A m k := ⟨h.ints.below hb, h.few⟩
set_option maxHeartbeats 8000000 in
theorem rescan_any (v : Value) (t : List Nd) (c : Wh) (A : Option Addr) (m k : Nat) (i want : Int) (w : World) (h : TabP w v t) (hc : CrR w c A m k) :
    Calls Tryz.prog 41 #[v, .agg #[.int .i64 c.u, .int .i64 c.g, .slice A m k], .int .i64 i, .int .i64 want] w fun e w' => e = .returned (.bool (canT t c i want)) ∧ Below w.heap.size w w' := by
  have hb0 := ba w (.cells #[.int .i64 c.u, .int .i64 c.g, .slice A m k] 25)
  have hk0 := Blk.new w 25 #[.int .i64 c.u, .int .i64 c.g, .slice A m k]
  obtain ⟨W1, hW1⟩ : ∃ W1, w.alloc (.cells #[.int .i64 c.u, .int .i64 c.g, .slice A m k] 25) = W1 := ⟨_, rfl⟩
  rw [hW1] at hb0 hk0
  have HG := Lib.hid (get_any v t i W1 (h.below hb0))
  have HI := Lib.hid (hc.ints.below hb0)
  have HC := Lib.hid (fun W hb (n : Nd) => can_any c.u c.g A m k c.gs n.uid n.gid n.mode want W ((hc.ints.below hb0).below hb) hc.few)
  have HB := Lib.hid hb0
  have HK := Lib.hid hk0
  obtain ⟨R, hR⟩ : ∃ R, canT t c i want = R := ⟨_, rfl⟩
  have HR := Lib.hid (show R = (tis t i && canN c (tget t i) want) from hR.symm)
  rw [hR]
  generalize tis t i = q at HG HR
  generalize tget t i = n at HG HR
  unfold nodeV at HG
  clear h hc hb0 hk0 hR
  go_enter Tryz.func41, Tryz.ntmps41
  go_wp2_with fail
  clear hW1
  refine HG.out.mono ?_
  rintro e w2 ⟨vd, ve, rfl, hd, he, -, -, hb2⟩
  obtain ⟨A5, k5, rfl⟩ := bytesT_form hd
  obtain ⟨A6, k6, rfl⟩ := entsT_form he
  have hbx := al hb2 (.cells (ndC n (.slice A5 n.data.length k5) (.slice A6 n.ents.length k6)) 70)
  have hk2 := HK.out.below hbx
  have HC2 := Lib.hid (HC.out _ hbx n)
  have HB2 := Lib.hid (bt hbx HB.out)
  clear hd he hb2 hbx
  cases q with
  | false =>
    have HZ := Lib.hid (show false = R from HR.out.symm)
    clear hk2
    go_wp2
    go_ret
    exact ⟨ret_bool HZ.out, HB2.out⟩
  | true =>
    have HZ := Lib.hid (show canN c n want = R by rw [HR.out, Bool.true_and])
    have p0 := hk2.cell 0
    have p1 := hk2.cell 1
    have p2 := hk2.cell 2
    simp at p0 p1 p2
    clear hk2
    go_wp2_with fail
    refine HC2.out.mono ?_
    rintro e w3 ⟨rfl, hb3⟩
    have HB3 := Lib.hid (bt hb3 HB2.out)
    clear hb3
    go_wp2
    go_ret
    exact ⟨ret_bool HZ.out, HB3.out⟩
theorem resup_any (v : Value) (t : List Nd) (i : Int) (w : World) (h : TabP w v t) :
    Calls Tryz.prog 97 #[v, .int .i64 i] w fun e w' => e = .returned (.int .i64 (upI t i)) ∧ Below w.heap.size w w' := by
  have HP := Lib.hid (parent_any v t i w h)
  have HU := Lib.hid (show upI t i = if parT t 0 i ≠ 0 then (parT t 0 i : Int) else i from rfl)
  generalize upI t i = U at HU ⊢
  generalize parT t 0 i = p at HP HU
  by_cases q : p = 0
  · subst q
    have HZ := Lib.hid (show i = U by rw [HU.out, if_neg (fun q => q rfl)])
    clear h
    go_enter Tryz.func97, Tryz.ntmps97
    go_wp2_with fail
    refine HP.out.mono ?_
    rintro e w2 ⟨rfl, hb2⟩
    go_wp2
    go_ret
    exact ⟨ret_int HZ.out, hb2⟩
  · have HZ := Lib.hid (show (p : Int) = U by rw [HU.out, if_pos q])
    have q1 : ((p : Int) != 0) = true := by simpa using q
    clear h q
    go_enter Tryz.func97, Tryz.ntmps97
    go_wp2_with fail
    refine HP.out.mono ?_
    rintro e w2 ⟨rfl, hb2⟩
    go_wp2
    go_ret
    exact ⟨ret_int HZ.out, hb2⟩
/-- What searched answers: a directory, or why it may not be searched. -/
def SrAns (t : List Nd) (c : Wh) (i : Int) (w : World) (e : Ending) (w' : World) : Prop :=
  ∃ (n : Nd) (A5 A6 : Option Addr) (k5 k6 : Nat), e = .returned (.tuple #[.agg (ndC n (.slice A5 n.data.length k5) (.slice A6 n.ents.length k6)), .int .i64 (srE t c i)]) ∧
    (srE t c i = 0 → n = tget t i ∧ BytesR w' (.slice A5 n.data.length k5) n.data ∧ EntsR w' (.slice A6 n.ents.length k6) n.ents) ∧ Below w.heap.size w w'
set_option maxHeartbeats 8000000 in
theorem searched_any (v : Value) (t : List Nd) (c : Wh) (A : Option Addr) (m k : Nat) (i : Int) (w : World) (h : TabP w v t) (hc : CrR w c A m k) :
    Calls Tryz.prog 96 #[v, .agg #[.int .i64 c.u, .int .i64 c.g, .slice A m k], .int .i64 i] w (SrAns t c i w) := by
  have hb0 := ba w (.cells #[.int .i64 c.u, .int .i64 c.g, .slice A m k] 25)
  have hk0 := Blk.new w 25 #[.int .i64 c.u, .int .i64 c.g, .slice A m k]
  obtain ⟨W1, hW1⟩ : ∃ W1, w.alloc (.cells #[.int .i64 c.u, .int .i64 c.g, .slice A m k] 25) = W1 := ⟨_, rfl⟩
  rw [hW1] at hb0 hk0
  have hb1 := al hb0 (.cells ndZ 70)
  have hk1 := hk0.below (ba W1 (.cells ndZ 70))
  have hr1 := Blk.new W1 70 ndZ
  obtain ⟨W2, hW2⟩ : ∃ W2, W1.alloc (.cells ndZ 70) = W2 := ⟨_, rfl⟩
  rw [hW2] at hb1 hk1 hr1
  obtain ⟨d, hdz⟩ : ∃ d, W1.heap.size = d := ⟨_, rfl⟩
  have HDW := Lib.hid (show w.heap.size < d by rw [← hdz, ← hW1]; simp)
  rw [hdz] at hr1
  have HT := Lib.hid (h.below hb1)
  have HG := Lib.hid (get_any v t i W2 (h.below hb1))
  have HCR := Lib.hid (hc.below hb1)
  have HB := Lib.hid hb1
  have HK := Lib.hid hk1
  have HR1 := Lib.hid hr1
  obtain ⟨E, hE⟩ : ∃ E, srE t c i = E := ⟨_, rfl⟩
  have HE := Lib.hid (show E = if (tget t i).kind ≠ 2 then 20 else if canT t c i 1 = false then 13 else 0 from hE.symm)
  obtain ⟨F, hF⟩ : ∃ F, SrAns t c i w = F := ⟨_, rfl⟩
  have HF := Lib.hid (show ∀ (e : Ending) (w' : World), (∃ (n : Nd) (A5 A6 : Option Addr) (k5 k6 : Nat), e = .returned (.tuple #[.agg (ndC n (.slice A5 n.data.length k5) (.slice A6 n.ents.length k6)), .int .i64 E]) ∧
    (E = 0 → n = tget t i ∧ BytesR w' (.slice A5 n.data.length k5) n.data ∧ EntsR w' (.slice A6 n.ents.length k6) n.ents) ∧ Below w.heap.size w w') → F e w' from fun e w' h => by rw [← hF]; unfold SrAns; rw [hE]; exact h)
  have HCC := Lib.hid (fun W (hb : Below W2.heap.size W2 W) => rescan_any v t c A m k i 1 W (HT.out.below hb) (HCR.out.below hb))
  rw [hF]
  generalize canT t c i 1 = q at HE HCC
  obtain ⟨n, hn⟩ : ∃ n, tget t i = n := ⟨_, rfl⟩
  rw [hn] at HG HE HF
  unfold nodeV at HG
  clear h hc hb0 hk0 hb1 hk1 hr1 hE hF hn
  go_enter Tryz.func96, Tryz.ntmps96
  go_wp2_with fail
  clear hW1 hW2 hdz
  refine HG.out.mono ?_
  rintro e w2 ⟨vd, ve, rfl, hd, he, -, -, hb2⟩
  obtain ⟨A5, k5, rfl⟩ := bytesT_form hd
  obtain ⟨A6, k6, rfl⟩ := entsT_form he
  have hbx := al hb2 (.cells (ndC n (.slice A5 n.data.length k5) (.slice A6 n.ents.length k6)) 70)
  have hbw := ba w2 (.cells (ndC n (.slice A5 n.data.length k5) (.slice A6 n.ents.length k6)) 70)
  have hkn := Blk.new w2 70 (ndC n (.slice A5 n.data.length k5) (.slice A6 n.ents.length k6))
  have hr3 := HR1.out.below hbx
  have HX := Lib.hid (show (∀ (ad : Addr) (m c : Nat), Value.slice A5 n.data.length k5 = .slice (some ad) m c → ad.block ≠ d) ∧ (∀ (ad : Addr) (m c : Nat), Value.slice A6 n.ents.length k6 = .slice (some ad) m c → ad.block ≠ d) from
    ⟨fun ad m c hv => by obtain ⟨cs, hk⟩ := (hd.below hbw).2 ad m c hv; exact blk_ne hk hr3 (by decide), fun ad m c hv => by obtain ⟨cs, hk⟩ := (he.below hbw).2 ad m c hv; exact blk_ne hk hr3 (by decide)⟩)
  have HD3 := Lib.hid (hd.1.below hbw)
  have HE3 := Lib.hid (he.1.below hbw)
  have HCC3 := Lib.hid (HCC.out _ hbx)
  have HB3 := Lib.hid (bt hbx HB.out)
  have hk3 := HK.out.below hbx
  obtain ⟨x, hx⟩ : ∃ x, w2.heap.size = x := ⟨_, rfl⟩
  obtain ⟨W3, hW3⟩ : ∃ W3, w2.alloc (.cells (ndC n (.slice A5 n.data.length k5) (.slice A6 n.ents.length k6)) 70) = W3 := ⟨_, rfl⟩
  rw [hW3] at hkn hr3 HD3 HE3 HCC3 HB3 hk3
  rw [hx] at hkn
  have HKN := Lib.hid hkn
  have HR3 := Lib.hid hr3
  have HK3 := Lib.hid hk3
  clear hd he hb2 hbx hbw HG HR1 HCC HCR HT HK HB
  have HG3 := Lib.hid (grown7 W3 d (.int .i64 0) (.int .i64 0) (.int .i64 0) (.int .i64 0) (.slice none 0 0) (.slice none 0 0) (.string ⟨#[]⟩))
  obtain ⟨n0, n1, n2, n3, n4, n5, n6⟩ := hkn.c7
  clear hkn hk3
  by_cases hk : n.kind = 2
  · have hkb : (n.kind != 2) = false := by simpa using hk
    have HE2 := Lib.hid (show E = if q = false then 13 else 0 by rw [HE.out, if_neg (fun h => h hk)])
    clear hk hr3
    have k0 : W3.cell? ⟨w.heap.size, 0, none⟩ = some (.int .i64 c.u) := by rw [HK3.out.cell]; rfl
    have k1 : W3.cell? ⟨w.heap.size, 1, none⟩ = some (.int .i64 c.g) := by rw [HK3.out.cell]; rfl
    have k2 : W3.cell? ⟨w.heap.size, 2, none⟩ = some (.slice A m k) := by rw [HK3.out.cell]; rfl
    go_wp2_with fail
    clear hW3 hx
    refine HCC3.out.mono ?_
    rintro e w4 ⟨rfl, hb4⟩
    have hr4 := HR3.out.below hb4
    have hkn4 := HKN.out.below hb4
    have HR4 := Lib.hid hr4
    have HB4 := Lib.hid (bt hb4 HB3.out)
    have HD4 := Lib.hid (HD3.out.below hb4)
    have HE4 := Lib.hid (HE3.out.below hb4)
    clear n0 n1 n2 n3 n4 n5 n6 k0 k1 k2 hb4
    obtain ⟨p0, p1, p2, p3, p4, p5, p6⟩ := hr4.c7
    obtain ⟨q0, q1, q2, q3, q4, q5, q6⟩ := hr4.f7
    obtain ⟨s0, s1, s2, s3, s4, s5, s6⟩ := hr4.s7
    cases q with
    | false =>
      have HZ := Lib.hid (show E = 13 by rw [HE2.out, if_pos rfl])
      have HG4 := Lib.hid (grown7 w4 d (.int .i64 0) (.int .i64 0) (.int .i64 0) (.int .i64 0) (.slice none 0 0) (.slice none 0 0) (.string ⟨#[]⟩))
      clear hr4 hkn4
      go_wp2
      exact bodyPost_ret (v := .tuple #[.agg ndZ, .int .i64 13]) (by simp [results, Tryz.results96, go_sem, s0, s1, s2, s3, s4, s5, s6]) rfl (HF.out _ _ ⟨Nd.zero, none, none, 0, 0, by rw [HZ.out]; rfl, fun h => absurd (HZ.out.symm.trans h) (by decide), below_grown HB4.out HG4.out (Nat.le_of_lt HDW.out)⟩)
    | true =>
      have HZ := Lib.hid (show E = 0 by rw [HE2.out, if_neg (by decide)])
      have HG4 := Lib.hid (grown7 w4 d (.int .i64 n.kind) (.int .i64 n.mode) (.int .i64 n.uid) (.int .i64 n.gid) (.slice A5 n.data.length k5) (.slice A6 n.ents.length k6) (.string (bA n.target)))
      obtain ⟨n0, n1, n2, n3, n4, n5, n6⟩ := hkn4.c7
      clear hr4 hkn4
      go_wp2
      exact bodyPost_ret (v := .tuple #[.agg (ndC n (.slice A5 n.data.length k5) (.slice A6 n.ents.length k6)), .int .i64 0]) (by simp [results, Tryz.results96, go_sem, s0, s1, s2, s3, s4, s5, s6]) rfl (HF.out _ _ ⟨n, A5, A6, k5, k6, by rw [HZ.out], fun _ => ⟨rfl, HD4.out.other HG4.out HX.out.1, HE4.out.other HG4.out HX.out.2⟩, below_grown HB4.out HG4.out (Nat.le_of_lt HDW.out)⟩)
  · have hkb : (n.kind != 2) = true := by simpa using hk
    have HZ := Lib.hid (show E = 20 by rw [HE.out, if_pos hk])
    obtain ⟨p0, p1, p2, p3, p4, p5, p6⟩ := hr3.c7
    obtain ⟨q0, q1, q2, q3, q4, q5, q6⟩ := hr3.f7
    obtain ⟨s0, s1, s2, s3, s4, s5, s6⟩ := hr3.s7
    clear hk hr3
    go_wp2
    exact bodyPost_ret (v := .tuple #[.agg ndZ, .int .i64 20]) (by simp [results, Tryz.results96, go_sem, s0, s1, s2, s3, s4, s5, s6]) rfl (HF.out _ _ ⟨Nd.zero, none, none, 0, 0, by rw [HZ.out]; rfl, fun h => absurd (HZ.out.symm.trans h) (by decide), below_grown HB3.out HG3.out (Nat.le_of_lt HDW.out)⟩)
end Go.Proofs.YtilepnepcamnaaaGreat
