/-
  What Resolve answers, of any table, for any who ask, any path. The condition: no more groups than a million.
-/
import Derived.Test.YtilepnepcamnaaaGreatRsW
namespace Go.Proofs.YtilepnepcamnaaaGreat
open Go Go.RowKit
set_option maxRecDepth 100000

attribute [local go_sem] cell_off4 cell_blk4
def foV (X : Fo × Int) : Value := .tuple #[.agg #[.int .i64 X.1.dir, .string (bA X.1.name), .int .i64 X.1.node], .int .i64 X.2]
theorem fit_len {t : List Nd} {p : Nm} (h : fitE t p = 0) : p.length ≤ 64 := by
  unfold fitE at h
  split at h
  · exact absurd h (by decide)
  · split at h
    · exact absurd h (by decide)
    · omega
set_option maxHeartbeats 8000000 in
theorem resolve_any (v : Value) (t : List Nd) (c : Wh) (A0 : Option Addr) (m k : Nat) (p : Nm) (f : Bool) (w : World) (h : TabP w v t) (hc : CrR w c A0 m k) (X : Fo × Int) (hX : resM t c p f = X) :
    Calls Tryz.prog 54 #[v, .agg #[.int .i64 c.u, .int .i64 c.g, .slice A0 m k], .string (bA p), .bool f] w fun e w' => e = .returned (.tuple #[.agg #[.int .i64 X.1.dir, .string (bA X.1.name), .int .i64 X.1.node], .int .i64 X.2]) ∧ Below w.heap.size w w' := by
  have hb1 := ba w (.cells #[.int .i64 c.u, .int .i64 c.g, .slice A0 m k] 25)
  have hk1 := Blk.new w 25 #[.int .i64 c.u, .int .i64 c.g, .slice A0 m k]
  obtain ⟨W1, hW1⟩ : ∃ W1, w.alloc (.cells #[.int .i64 c.u, .int .i64 c.g, .slice A0 m k] 25) = W1 := ⟨_, rfl⟩
  rw [hW1] at hb1 hk1
  have hb2 := al hb1 (.cells #[.int .i64 0, .string ⟨#[]⟩, .int .i64 0] 105)
  have hk2 := hk1.below (ba W1 (.cells #[.int .i64 0, .string ⟨#[]⟩, .int .i64 0] 105))
  have hr2 := Blk.new W1 105 #[.int .i64 0, .string ⟨#[]⟩, .int .i64 0]
  obtain ⟨W2, hW2⟩ : ∃ W2, W1.alloc (.cells #[.int .i64 0, .string ⟨#[]⟩, .int .i64 0] 105) = W2 := ⟨_, rfl⟩
  rw [hW2] at hb2 hk2 hr2
  obtain ⟨R, hR1⟩ : ∃ R, W1.heap.size = R := ⟨_, rfl⟩
  rw [hR1] at hr2
  have HRW := Lib.hid (show w.heap.size ≤ R by rw [← hR1]; exact hb1.size)
  have HU := Lib.hid (unfit_any v t p W2 (h.below hb2))
  have HT := Lib.hid h
  have HC := Lib.hid hc
  have HB2 := Lib.hid hb2
  have HK2 := Lib.hid hk2
  have HR2 := Lib.hid hr2
  have HX := Lib.hid (show (if fitE t p ≠ 0 then (Fo.zero, fitE t p) else wlk t c f 8 (splitP p) 1) = X from hX)
  have HP := Lib.hid (fun h => fit_len (t := t) (p := p) h)
  generalize fitE t p = u at HU HX HP
  clear h hc hb1 hk1 hb2 hk2 hr2 hX
  go_enter Tryz.func54, Tryz.ntmps54
  go_wp2_with fail
  clear hW1 hW2 hR1
  refine HU.out.mono ?_
  rintro e w3 ⟨rfl, hb3⟩
  have hk3 := HK2.out.below hb3
  have hr3 := HR2.out.below hb3
  have HR3 := Lib.hid hr3
  have HB3 := Lib.hid (bt hb3 HB2.out)
  by_cases q : u = 0
  · have q1 : (u != 0) = false := by simpa using q
    have hx := HX.out
    rw [if_neg (fun h => h q)] at hx
    have HL := Lib.hid (lead_any v t c A0 m k p f w3 (HT.out.below HB3.out) (HC.out.below HB3.out) (by have := HP.out q; omega) X.1 X.2 hx)
    obtain ⟨k0, k1, k2⟩ := hk3.c3
    clear q hx hk3 hr3 hb3
    go_wp2_with fail
    refine HL.out.mono ?_
    rintro e w4 ⟨rfl, hb4⟩
    have hr4 := HR3.out.below hb4
    have HB4 := Lib.hid (bt hb4 HB3.out)
    obtain ⟨p0, p1, p2⟩ := hr4.c3
    obtain ⟨q0, q1, q2⟩ := hr4.f3
    obtain ⟨s0, s1, s2⟩ := hr4.s3
    have HG := Lib.hid (grown3 w4 R (.int .i64 X.1.dir) (.string (bA X.1.name)) (.int .i64 X.1.node))
    clear k0 k1 k2 hr4 hb4 HL
    go_wp2
    exact bodyPost_ret (v := .tuple #[.agg #[.int .i64 X.1.dir, .string (bA X.1.name), .int .i64 X.1.node], .int .i64 X.2]) (by simp [results, Tryz.results54, go_sem, s0, s1, s2]) rfl ⟨rfl, below_grown HB4.out HG.out HRW.out⟩
  · have q3 : (u != 0) = true := by simpa using q
    have HZ := Lib.hid (show X = (Fo.zero, u) from by have h := HX.out; rw [if_pos q] at h; exact h.symm)
    obtain ⟨p0, p1, p2⟩ := hr3.c3
    obtain ⟨q0, q1, q2⟩ := hr3.f3
    obtain ⟨s0, s1, s2⟩ := hr3.s3
    have HG := Lib.hid (grown3 w3 R (.int .i64 0) (.string ⟨#[]⟩) (.int .i64 0))
    clear q hk3 hr3 hb3
    go_wp2
    exact bodyPost_ret (v := .tuple #[.agg #[.int .i64 0, .string ⟨#[]⟩, .int .i64 0], .int .i64 u]) (by simp [results, Tryz.results54, go_sem, s0, s1, s2]) rfl ⟨by rw [HZ.out]; rfl, below_grown HB3.out HG.out HRW.out⟩
end Go.Proofs.YtilepnepcamnaaaGreat
