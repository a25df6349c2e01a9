/-
  The reference's take of stage 11: one name is taken. The conditions: no more groups than a million, no more names than a thousand and a half.
-/
import Derived.Test.YtilepnepcamnaaaGreatRfB
namespace Go.Proofs.YtilepnepcamnaaaGreat
open Go Go.RowKit
set_option maxRecDepth 100000

attribute [local go_sem] cell_off4 cell_blk4
/-- What take answers: it is done, or other names are left. -/
def TkPost (t : List Nd) (c : Wh) (f : Bool) (g : Nat) (l : List Nm) (i : Int) (w : World) (e : Ending) (w' : World) : Prop :=
  ∃ (A : Option Addr) (n0 c0 : Nat) (i' : Int) (g' : Nat) (dn : Bool) (F : Fo) (E : Int), e = .returned (.agg #[.slice A n0 c0, .int .i64 i', .int .i64 (g' : Int), .bool dn, .int .i64 F.dir, .string (bA F.name), .int .i64 F.node, .int .i64 E]) ∧
    (dn = true → wlk t c f (8 - g) l i = (F, E)) ∧
    (dn = false → (F = Fo.zero ∧ E = 0) ∧ ∃ l', StrsT w' (.slice A n0 c0) (bAs l') ∧ wlk t c f (8 - g) l i = wlk t c f (8 - g') l' i' ∧ g' ≤ 8 ∧ (8 - g') * 1000 + l'.length < (8 - g) * 1000 + l.length ∧ l'.length ≤ 1002 + 66 * g') ∧ Below w.heap.size w w'
/-- The boxes of take. -/
structure TkB (w W : World) (v : Value) (c : Wh) (A0 : Option Addr) (m k : Nat) (sv : Array Value) : Prop where
  kt : Blk W w.heap.size 32 #[v]
  kc : Blk W (w.heap.size + 1) 42 #[.int .i64 c.u, .int .i64 c.g, .slice A0 m k]
  ks : Blk W (w.heap.size + 1 + 1) 112 sv
  kr : Blk W (w.heap.size + 1 + 1 + 1) 112 TkZ
  below : Below w.heap.size w W
section
variable {w W W' : World} {v : Value} {c : Wh} {A0 : Option Addr} {m k : Nat} {sv : Array Value} {a0 a1 a2 a3 a4 a5 a6 a7 : Value}
theorem TkB.later (h : TkB w W v c A0 m k sv) (hb : Below W.heap.size W W') : TkB w W' v c A0 m k sv := ⟨h.kt.below hb, h.kc.below hb, h.ks.below hb, h.kr.below hb, bt hb h.below⟩
theorem TkB.set0 (h : TkB w W v c A0 m k #[a0, a1, a2, a3, a4, a5, a6, a7]) (u : Value) : TkB w (W.setCell ⟨w.heap.size + 1 + 1, 0, none⟩ u) v c A0 m k #[u, a1, a2, a3, a4, a5, a6, a7] :=
  have hg := grown_setCell W ⟨w.heap.size + 1 + 1, 0, none⟩ u
  ⟨h.kt.kept hg (fun e => by injection e with e; have e : w.heap.size = w.heap.size + 1 + 1 := e; omega), h.kc.kept hg (fun e => by injection e with e; have e : w.heap.size + 1 = w.heap.size + 1 + 1 := e; omega), h.ks.set8_0 u, h.kr.kept hg (fun e => by injection e with e; have e : w.heap.size + 1 + 1 + 1 = w.heap.size + 1 + 1 := e; omega), below_grown h.below hg (show w.heap.size ≤ w.heap.size + 1 + 1 by omega)⟩
theorem TkB.set1 (h : TkB w W v c A0 m k #[a0, a1, a2, a3, a4, a5, a6, a7]) (u : Value) : TkB w (W.setCell ⟨w.heap.size + 1 + 1, 1, none⟩ u) v c A0 m k #[a0, u, a2, a3, a4, a5, a6, a7] :=
  have hg := grown_setCell W ⟨w.heap.size + 1 + 1, 1, none⟩ u
  ⟨h.kt.kept hg (fun e => by injection e with e; have e : w.heap.size = w.heap.size + 1 + 1 := e; omega), h.kc.kept hg (fun e => by injection e with e; have e : w.heap.size + 1 = w.heap.size + 1 + 1 := e; omega), h.ks.set8_1 u, h.kr.kept hg (fun e => by injection e with e; have e : w.heap.size + 1 + 1 + 1 = w.heap.size + 1 + 1 := e; omega), below_grown h.below hg (show w.heap.size ≤ w.heap.size + 1 + 1 by omega)⟩
theorem TkB.out (h : TkB w W v c A0 m k sv) (u0 u1 u2 u3 u4 u5 u6 u7 : Value) : Below w.heap.size w (put8 W (w.heap.size + 1 + 1 + 1) u0 u1 u2 u3 u4 u5 u6 u7) := below_grown h.below (grown8 W _ u0 u1 u2 u3 u4 u5 u6 u7) (show w.heap.size ≤ w.heap.size + 1 + 1 + 1 by omega)
theorem TkB.names (h : TkB w W v c A0 m k sv) {x : Value} {l : List ByteArray} (hn : StrsT W x l) (u0 u1 u2 u3 u4 u5 u6 u7 : Value) : StrsT (put8 W (w.heap.size + 1 + 1 + 1) u0 u1 u2 u3 u4 u5 u6 u7) x l := hn.other (grown8 W _ u0 u1 u2 u3 u4 u5 u6 u7) h.kr (by decide)
theorem tk_start (w : World) (v : Value) (c : Wh) (A0 : Option Addr) (m k : Nat) (sv : Array Value) : TkB w ((((w.alloc (.cells #[v] 32)).alloc (.cells #[.int .i64 c.u, .int .i64 c.g, .slice A0 m k] 42)).alloc (.cells sv 112)).alloc (.cells TkZ 112)) v c A0 m k sv := by
  have b1 := ba w (.cells #[v] 32)
  have k1 := Blk.new w 32 #[v]
  have e1 : (w.alloc (.cells #[v] 32)).heap.size = w.heap.size + 1 := by simp
  generalize w.alloc (.cells #[v] 32) = x1 at b1 k1 e1 ⊢
  have b2 := ba x1 (.cells #[.int .i64 c.u, .int .i64 c.g, .slice A0 m k] 42)
  have k2 := Blk.new x1 42 #[.int .i64 c.u, .int .i64 c.g, .slice A0 m k]
  have e2 : (x1.alloc (.cells #[.int .i64 c.u, .int .i64 c.g, .slice A0 m k] 42)).heap.size = w.heap.size + 1 + 1 := by simp [e1]
  rw [e1] at k2
  generalize x1.alloc (.cells #[.int .i64 c.u, .int .i64 c.g, .slice A0 m k] 42) = x2 at b2 k2 e2 ⊢
  have b3 := ba x2 (.cells sv 112)
  have k3 := Blk.new x2 112 sv
  have e3 : (x2.alloc (.cells sv 112)).heap.size = w.heap.size + 1 + 1 + 1 := by simp [e2]
  rw [e2] at k3
  generalize x2.alloc (.cells sv 112) = x3 at b3 k3 e3 ⊢
  have b4 := ba x3 (.cells TkZ 112)
  have k4 := Blk.new x3 112 TkZ
  rw [e3] at k4
  exact ⟨((k1.below b2).below b3).below b4, (k2.below b3).below b4, k3.below b4, k4, bt b4 (bt b3 (bt b2 b1))⟩
end
theorem wlk_sr20 {t : List Nd} {c : Wh} {f : Bool} {k : Nat} {n : Nm} {r : List Nm} {i : Int} (h : (tget t i).kind ≠ 2) : wlk t c f k (n :: r) i = (Fo.zero, 20) := by
  have h1 : srE t c i = 20 := by unfold srE; rw [if_pos h]
  rw [wlk_sr (by rw [h1]; decide), h1]
theorem wlk_sr13 {t : List Nd} {c : Wh} {f : Bool} {k : Nat} {n : Nm} {r : List Nm} {i : Int} (h : (tget t i).kind = 2) (hc : canT t c i 1 = false) : wlk t c f k (n :: r) i = (Fo.zero, 13) := by
  have h1 : srE t c i = 13 := by unfold srE; rw [if_neg (fun q => q h), if_pos hc]
  rw [wlk_sr (by rw [h1]; decide), h1]
set_option maxHeartbeats 8000000 in
theorem take_any {P : Nat → Prop} (v : Value) (t : List Nd) (c : Wh) (A0 : Option Addr) (m k : Nat) (Av : Option Addr) (nv cv : Nat) (n : Nm) (r : List Nm) (i : Int) (g : Nat) (f : Bool) (w : World) (h : NsR P w v t) (hl : t.length ≤ 24) (ho : okT t) (hc : CrR w c A0 m k) (hs : StrsT w (.slice Av nv cv) (bAs (n :: r))) (hg : g ≤ 8) (hr : r.length + 1 ≤ 1002 + 66 * g) :
    Calls Tryz.prog 57 #[.agg #[v], .agg #[.int .i64 c.u, .int .i64 c.g, .slice A0 m k], .agg #[.slice Av nv cv, .int .i64 i, .int .i64 (g : Int), .bool false, .int .i64 0, .string ⟨#[]⟩, .int .i64 0, .int .i64 0], .bool f] w (TkPost t c f g (n :: r) i w) := by
  obtain ⟨g0, k0, rfl⟩ := ns_form h
  obtain ⟨ad, c1, c2, A2, hv, h0, hT, hrun⟩ := tail_run (show StrsT w (.slice Av nv cv) (bA n :: bAs r) from hs)
  have hbr : (bAs r).length = r.length := bAs_len r
  generalize (bAs r).length = N at hv hT hrun hbr
  have HBR := Lib.hid hbr
  injection hv with hv1 hv2 hv3
  subst hv1 hv2 hv3
  have HN0 := Lib.hid hT
  have H0 := Lib.hid h0
  have HNS := Lib.hid h
  have HOK := Lib.hid ho
  have HCR := Lib.hid hc
  have h4 := tk_start w (.slice (some ⟨g0, 0, none⟩) t.length k0) c A0 m k #[.slice (some ad) (N + 1) cv, .int .i64 i, .int .i64 (g : Int), .bool false, .int .i64 0, .string ⟨#[]⟩, .int .i64 0, .int .i64 0]
  clear h hc hs h0 hT hbr ho
  go_enter Tryz.func57, Tryz.ntmps57
  go_upto_region 1 with fail
  obtain ⟨W4, hW4⟩ : ∃ W4, (((w.alloc (.cells #[.slice (some ⟨g0, 0, none⟩) t.length k0] 32)).alloc (.cells #[.int .i64 c.u, .int .i64 c.g, .slice A0 m k] 42)).alloc (.cells #[.slice (some ad) (N + 1) cv, .int .i64 i, .int .i64 (g : Int), .bool false, .int .i64 0, .string ⟨#[]⟩, .int .i64 0, .int .i64 0] 112)).alloc (.cells TkZ 112) = W4 := ⟨_, rfl⟩
  rw [hW4] at h4 ⊢
  clear hW4
  have h5 := h4.set0 (.slice A2 N c2)
  have H5 := Lib.hid h5
  have j0 := bc h4.below H0.out
  obtain ⟨p0, p1, p2, p3, p4, p5, p6, p7⟩ := h4.ks.c8
  obtain ⟨f0, f1, f2, f3, f4, f5, f6, f7⟩ := h4.ks.f8
  have q0 : (W4.setCell ⟨w.heap.size + 1 + 1, 0, none⟩ (.slice A2 N c2)).cell? ⟨w.heap.size, 0, none⟩ = some (.slice (some ⟨g0, 0, none⟩) t.length k0) := h5.kt.cell 0
  have q1 : (W4.setCell ⟨w.heap.size + 1 + 1, 0, none⟩ (.slice A2 N c2)).cell? ⟨w.heap.size + 1 + 1, 1, none⟩ = some (.int .i64 i) := h5.ks.cell 1
  have HG := Lib.hid (rget_any _ t i _ (HNS.out.below h5.below) hl)
  obtain ⟨n1, hn1⟩ : ∃ n1, tget t i = n1 := ⟨_, rfl⟩
  rw [hn1] at HG
  have HN1 := Lib.hid hn1
  clear h4 h5 hn1
  go_wp2_with fail
  refine HG.out.mono ?_
  rintro e w6 ⟨u, rfl, ⟨vn, vk, rfl, hN, hI⟩, hb6⟩
  obtain ⟨A5, k5, rfl⟩ := strs_form hN (nm_len _)
  obtain ⟨A6, k6, rfl⟩ := ints_form hI (idE_len _)
  have hbw := ba w6 (.cells (rfC n1 (.slice A5 n1.ents.length k5) (.slice A6 n1.ents.length k6)) 75)
  have hn6 := Blk.new w6 75 (rfC n1 (.slice A5 n1.ents.length k5) (.slice A6 n1.ents.length k6))
  have h6 := H5.out.later (al hb6 (.cells (rfC n1 (.slice A5 n1.ents.length k5) (.slice A6 n1.ents.length k6)) 75))
  have HN6 := Lib.hid (hN.below hbw)
  have HI6 := Lib.hid (hI.below hbw)
  unfold refV
  obtain ⟨d, hd⟩ : ∃ d, w6.heap.size = d := ⟨_, rfl⟩
  obtain ⟨W6, hW6⟩ : ∃ W6, w6.alloc (.cells (rfC n1 (.slice A5 n1.ents.length k5) (.slice A6 n1.ents.length k6)) 75) = W6 := ⟨_, rfl⟩
  rw [hW6] at hn6 h6 HN6 HI6
  rw [hd] at hn6
  have H6 := Lib.hid h6
  have HD6 := Lib.hid hn6
  clear p0 p1 p2 p3 p4 p5 p6 p7 f0 f1 f2 f3 f4 f5 f6 f7 q0 q1 j0 hN hI hb6 hbw HG H5 hrun
  obtain ⟨d0, d1, d2, d3, d4, d5, d6, d7⟩ := hn6.c8
  obtain ⟨p0, p1, p2, p3, p4, p5, p6, p7⟩ := h6.ks.c8
  have q0 : W6.cell? ⟨w.heap.size, 0, none⟩ = some (.slice (some ⟨g0, 0, none⟩) t.length k0) := h6.kt.cell 0
  obtain ⟨r0, r1, r2⟩ := h6.kc.c3
  clear hn6 h6
  by_cases q2 : n1.kind ≠ 2
  · have e2 : (n1.kind != 2) = true := by simpa using q2
    have HZ := Lib.hid (show wlk t c f (8 - g) (n :: r) i = (Fo.zero, 20) from wlk_sr20 (by rw [HN1.out]; exact q2))
    clear q2
    go_wp2_with fail
    refine (fail_any 20 W6).mono ?_
    rintro e x9 ⟨rfl, hb9⟩
    have h9 := H6.out.later hb9
    have H9 := Lib.hid h9
    clear d0 d1 d2 d3 d4 d5 d6 d7 p0 p1 p2 p3 p4 p5 p6 p7 q0 r0 r1 r2
    obtain ⟨y0, y1, y2, y3, y4, y5, y6, y7⟩ := h9.kr.c8
    obtain ⟨f0, f1, f2, f3, f4, f5, f6, f7⟩ := h9.kr.f8
    obtain ⟨s0, s1, s2, s3, s4, s5, s6, s7⟩ := h9.kr.s8
    clear h9 hb9
    go_wp2
    exact bodyPost_ret (v := .agg #[.slice none 0 0, .int .i64 0, .int .i64 0, .bool true, .int .i64 0, .string ⟨#[]⟩, .int .i64 0, .int .i64 20]) (by simp [results, Tryz.results57, go_sem, s0, s1, s2, s3, s4, s5, s6, s7]) rfl ⟨none, 0, 0, 0, 0, true, Fo.zero, 20, rfl, fun _ => HZ.out, fun h => (by cases h), H9.out.out _ _ _ _ _ _ _ _⟩
  replace q2 : n1.kind = 2 := Classical.byContradiction q2
  have e2 : (n1.kind != 2) = false := by simpa using q2
  have HK2 := Lib.hid (show (tget t i).kind = 2 from by rw [HN1.out]; exact q2)
  have HC := Lib.hid (rrcan_any _ t c A0 m k i 1 W6 (HNS.out.below H6.out.below) hl (HCR.out.below H6.out.below))
  obtain ⟨cn, hcn⟩ : ∃ cn, canT t c i 1 = cn := ⟨_, rfl⟩
  rw [hcn] at HC
  have HCN := Lib.hid hcn
  clear q2 hcn
  go_wp2_with fail
  clear hW6 hd
  refine HC.out.mono ?_
  rintro e w7 ⟨rfl, hb7⟩
  have H7 := Lib.hid (H6.out.later hb7)
  have HD7 := Lib.hid (HD6.out.below hb7)
  have HN7 := Lib.hid (HN6.out.below hb7)
  have HI7 := Lib.hid (HI6.out.below hb7)
  clear d0 d1 d2 d3 d4 d5 d6 d7 p0 p1 p2 p3 p4 p5 p6 p7 q0 r0 r1 r2
  clear hb7 HC H6 HD6 HN6 HI6
  obtain ⟨d0, d1, d2, d3, d4, d5, d6, d7⟩ := HD7.out.c8
  obtain ⟨p0, p1, p2, p3, p4, p5, p6, p7⟩ := H7.out.ks.c8
  have q0 : w7.cell? ⟨w.heap.size, 0, none⟩ = some (.slice (some ⟨g0, 0, none⟩) t.length k0) := H7.out.kt.cell 0
  obtain ⟨r0, r1, r2⟩ := H7.out.kc.c3
  cases cn with
  | false =>
    have HZ := Lib.hid (show wlk t c f (8 - g) (n :: r) i = (Fo.zero, 13) from wlk_sr13 HK2.out HCN.out)
    go_wp2_with fail
    refine (fail_any 13 w7).mono ?_
    rintro e x9 ⟨rfl, hb9⟩
    have h9 := H7.out.later hb9
    have H9 := Lib.hid h9
    clear d0 d1 d2 d3 d4 d5 d6 d7 p0 p1 p2 p3 p4 p5 p6 p7 q0 r0 r1 r2
    obtain ⟨y0, y1, y2, y3, y4, y5, y6, y7⟩ := h9.kr.c8
    obtain ⟨f0, f1, f2, f3, f4, f5, f6, f7⟩ := h9.kr.f8
    obtain ⟨s0, s1, s2, s3, s4, s5, s6, s7⟩ := h9.kr.s8
    clear h9 hb9
    go_wp2
    exact bodyPost_ret (v := .agg #[.slice none 0 0, .int .i64 0, .int .i64 0, .bool true, .int .i64 0, .string ⟨#[]⟩, .int .i64 0, .int .i64 13]) (by simp [results, Tryz.results57, go_sem, s0, s1, s2, s3, s4, s5, s6, s7]) rfl ⟨none, 0, 0, 0, 0, true, Fo.zero, 13, rfl, fun _ => HZ.out, fun h => (by cases h), H9.out.out _ _ _ _ _ _ _ _⟩
  | true =>
  have HSR := Lib.hid (show srE t c i = 0 from sr_zero.2 ⟨HK2.out, HCN.out⟩)
  by_cases m1 : n = [46]
  · have e1 : ((bA n).toList == ([46] : List UInt8)) = true := by rw [bA_list, m1]; rfl
    have HW := Lib.hid (show wlk t c f (8 - g) (n :: r) i = wlk t c f (8 - g) r i from wlk_dot HSR.out m1)
    clear m1
    obtain ⟨y0, y1, y2, y3, y4, y5, y6, y7⟩ := H7.out.kr.c8
    obtain ⟨f0, f1, f2, f3, f4, f5, f6, f7⟩ := H7.out.kr.f8
    obtain ⟨s0, s1, s2, s3, s4, s5, s6, s7⟩ := H7.out.kr.s8
    go_wp2
    exact bodyPost_ret (v := .agg #[.slice A2 N c2, .int .i64 i, .int .i64 (g : Int), .bool false, .int .i64 0, .string ⟨#[]⟩, .int .i64 0, .int .i64 0]) (by simp [results, Tryz.results57, go_sem, s0, s1, s2, s3, s4, s5, s6, s7]) rfl ⟨A2, N, c2, i, g, false, Fo.zero, 0, rfl, fun h => (by cases h), fun _ => ⟨⟨rfl, rfl⟩, r, H7.out.names (HN0.out.below H7.out.below) _ _ _ _ _ _ _ _, HW.out, hg, by rw [List.length_cons]; omega, by omega⟩, H7.out.out _ _ _ _ _ _ _ _⟩
  have e1 : ((bA n).toList == ([46] : List UInt8)) = false := by rw [bA_list]; simpa using m1
  by_cases m2 : n = [46, 46]
  · have e3 : ((bA n).toList == ([46, 46] : List UInt8)) = true := by rw [bA_list, m2]; rfl
    have HW := Lib.hid (show wlk t c f (8 - g) (n :: r) i = wlk t c f (8 - g) r (upI t i) from wlk_up HSR.out m2)
    have HU := Lib.hid (show upI t i = if parT t 0 i ≠ 0 then (parT t 0 i : Int) else i from rfl)
    have HP := Lib.hid (fun W (hb : Below w.heap.size w W) => rparent_any _ t i W (HNS.out.below hb) hl HOK.out)
    generalize upI t i = up at HW HU
    generalize parT t 0 i = pp at HU HP
    clear m1 m2
    go_wp2_with fail
    refine (HP.out _ H7.out.below).mono ?_
    rintro e w8 ⟨rfl, hb8⟩
    have H8 := Lib.hid (H7.out.later hb8)
    clear d0 d1 d2 d3 d4 d5 d6 d7 p0 p1 p2 p3 p4 p5 p6 p7 q0 r0 r1 r2
    clear hb8
    obtain ⟨p0, p1, p2, p3, p4, p5, p6, p7⟩ := H8.out.ks.c8
    have q0 : w8.cell? ⟨w.heap.size, 0, none⟩ = some (.slice (some ⟨g0, 0, none⟩) t.length k0) := H8.out.kt.cell 0
    by_cases qp : pp = 0
    · have ep : ¬ (pp : Int) > 0 := by omega
      have HZU := Lib.hid (show up = i from by rw [HU.out, if_neg (fun q => q qp)])
      clear qp
      obtain ⟨y0, y1, y2, y3, y4, y5, y6, y7⟩ := H8.out.kr.c8
      obtain ⟨f0, f1, f2, f3, f4, f5, f6, f7⟩ := H8.out.kr.f8
      obtain ⟨s0, s1, s2, s3, s4, s5, s6, s7⟩ := H8.out.kr.s8
      go_wp2
      exact bodyPost_ret (v := .agg #[.slice A2 N c2, .int .i64 i, .int .i64 (g : Int), .bool false, .int .i64 0, .string ⟨#[]⟩, .int .i64 0, .int .i64 0]) (by simp [results, Tryz.results57, go_sem, s0, s1, s2, s3, s4, s5, s6, s7]) rfl ⟨A2, N, c2, i, g, false, Fo.zero, 0, rfl, fun h => (by cases h), fun _ => ⟨⟨rfl, rfl⟩, r, H8.out.names (HN0.out.below H8.out.below) _ _ _ _ _ _ _ _, (by rw [HW.out, HZU.out]), hg, by rw [List.length_cons]; omega, by omega⟩, H8.out.out _ _ _ _ _ _ _ _⟩
    · have ep : (pp : Int) > 0 := by omega
      have HZU := Lib.hid (show up = (pp : Int) from by rw [HU.out, if_pos qp])
      clear qp
      go_wp2_with fail
      refine (HP.out _ H8.out.below).mono ?_
      rintro e w9 ⟨rfl, hb9⟩
      have h9 := H8.out.later hb9
      have h10 := h9.set1 (.int .i64 (pp : Int))
      have H10 := Lib.hid h10
      have HNN := Lib.hid ((HN0.out.below h9.below).other (grown_setCell w9 ⟨w.heap.size + 1 + 1, 1, none⟩ (.int .i64 (pp : Int))) h9.ks (by decide))
      clear p0 p1 p2 p3 p4 p5 p6 p7 q0 hb9
      obtain ⟨p0, p1, p2, p3, p4, p5, p6, p7⟩ := h9.ks.c8
      obtain ⟨x0, x1, x2, x3, x4, x5, x6, x7⟩ := h9.ks.f8
      obtain ⟨z0, z1, z2, z3, z4, z5, z6, z7⟩ := h10.ks.c8
      clear h9 h10
      obtain ⟨y0, y1, y2, y3, y4, y5, y6, y7⟩ := H10.out.kr.c8
      obtain ⟨f0, f1, f2, f3, f4, f5, f6, f7⟩ := H10.out.kr.f8
      obtain ⟨s0, s1, s2, s3, s4, s5, s6, s7⟩ := H10.out.kr.s8
      go_wp2
      exact bodyPost_ret (v := .agg #[.slice A2 N c2, .int .i64 (pp : Int), .int .i64 (g : Int), .bool false, .int .i64 0, .string ⟨#[]⟩, .int .i64 0, .int .i64 0]) (by simp [results, Tryz.results57, go_sem, s0, s1, s2, s3, s4, s5, s6, s7]) rfl ⟨A2, N, c2, (pp : Int), g, false, Fo.zero, 0, rfl, fun h => (by cases h), fun _ => ⟨⟨rfl, rfl⟩, r, H10.out.names HNN.out _ _ _ _ _ _ _ _, (by rw [HW.out, HZU.out]), hg, by rw [List.length_cons]; omega, by omega⟩, H10.out.out _ _ _ _ _ _ _ _⟩
  have e3 : ((bA n).toList == ([46, 46] : List UInt8)) = false := by rw [bA_list]; simpa using m2
  have HM := Lib.hid (show n ≠ [46] ∧ n ≠ [46, 46] from ⟨m1, m2⟩)
  have hsz := size_bA n
  clear m1 m2
  by_cases h12 : 12 < n.length
  · have e4 : ((bA n).size : Int) > 12 := by rw [hsz]; omega
    have HZ := Lib.hid (show wlk t c f (8 - g) (n :: r) i = (Fo.zero, 36) from wlk_long HSR.out HM.out.1 HM.out.2 h12)
    clear h12 hsz
    go_wp2_with fail
    refine (fail_any 36 w7).mono ?_
    rintro e x9 ⟨rfl, hb9⟩
    have h9 := H7.out.later hb9
    have H9 := Lib.hid h9
    clear d0 d1 d2 d3 d4 d5 d6 d7 p0 p1 p2 p3 p4 p5 p6 p7 q0 r0 r1 r2
    obtain ⟨y0, y1, y2, y3, y4, y5, y6, y7⟩ := h9.kr.c8
    obtain ⟨f0, f1, f2, f3, f4, f5, f6, f7⟩ := h9.kr.f8
    obtain ⟨s0, s1, s2, s3, s4, s5, s6, s7⟩ := h9.kr.s8
    clear h9 hb9
    go_wp2
    exact bodyPost_ret (v := .agg #[.slice none 0 0, .int .i64 0, .int .i64 0, .bool true, .int .i64 0, .string ⟨#[]⟩, .int .i64 0, .int .i64 36]) (by simp [results, Tryz.results57, go_sem, s0, s1, s2, s3, s4, s5, s6, s7]) rfl ⟨none, 0, 0, 0, 0, true, Fo.zero, 36, rfl, fun _ => HZ.out, fun h => (by cases h), H9.out.out _ _ _ _ _ _ _ _⟩
  have e4 : ¬ ((bA n).size : Int) > 12 := by rw [hsz]; omega
  have H12 := Lib.hid h12
  clear h12 hsz
  have HFW := Lib.hid (show n1.ents.length ≤ 1000 from by rw [← HN1.out]; have := (ok_few HOK.out i).ents; omega)
  have HFD := Lib.hid (rfind_any n1 _ _ n w7 HN7.out HI7.out HFW.out)
  obtain ⟨id, hid⟩ : ∃ id, fnd n1.ents n = id := ⟨_, rfl⟩
  rw [hid] at HFD
  have HID := Lib.hid (show fnd (tget t i).ents n = id from by rw [HN1.out]; exact hid)
  clear hid
  go_wp2_with fail
  refine HFD.out.mono ?_
  rintro e w8 ⟨rfl, hb8⟩
  have H8 := Lib.hid (H7.out.later hb8)
  clear d0 d1 d2 d3 d4 d5 d6 d7 p0 p1 p2 p3 p4 p5 p6 p7 q0 r0 r1 r2
  clear hb8 HFD H7 HD7 HN7 HI7
  obtain ⟨p0, p1, p2, p3, p4, p5, p6, p7⟩ := H8.out.ks.c8
  have q0 : w8.cell? ⟨w.heap.size, 0, none⟩ = some (.slice (some ⟨g0, 0, none⟩) t.length k0) := H8.out.kt.cell 0
  have HBN := HBR.out
  have HG2 := Lib.hid (fun W (hb : Below w.heap.size w W) => rget_any _ t id W (HNS.out.below hb) hl)
  obtain ⟨n2, hn2⟩ : ∃ n2, tget t id = n2 := ⟨_, rfl⟩
  rw [hn2] at HG2
  have HN2 := Lib.hid hn2
  clear hn2
  by_cases hr0 : r = []
  · have eN : ((N : Int) == 0) = true := by rw [HBN, hr0]; rfl
    have HR0 := Lib.hid hr0
    clear hr0 HBN
    by_cases hz : id = 0
    · have eI : (id == 0) = true := by simpa using hz
      have HKZ := Lib.hid (show n2.kind = 0 from by rw [← HN2.out, hz]; exact zero_kindM)
      clear hz
      go_wp2_with fail
      refine (HG2.out _ H8.out.below).mono ?_
      rintro e w9 ⟨u, rfl, ⟨vn, vk, rfl, hN, hI⟩, hb9⟩
      obtain ⟨A7, k7, rfl⟩ := strs_form hN (nm_len _)
      obtain ⟨A8, k8, rfl⟩ := ints_form hI (idE_len _)
      have h10 := H8.out.later (al hb9 (.cells (rfC n2 (.slice A7 n2.ents.length k7) (.slice A8 n2.ents.length k8)) 75))
      have hx10 := Blk.new w9 75 (rfC n2 (.slice A7 n2.ents.length k7) (.slice A8 n2.ents.length k8))
      unfold refV
      obtain ⟨d', hd'⟩ : ∃ d', w9.heap.size = d' := ⟨_, rfl⟩
      obtain ⟨W10, hW10⟩ : ∃ W10, w9.alloc (.cells (rfC n2 (.slice A7 n2.ents.length k7) (.slice A8 n2.ents.length k8)) 75) = W10 := ⟨_, rfl⟩
      rw [hW10] at h10 hx10
      rw [hd'] at hx10
      have H10 := Lib.hid h10
      clear p0 p1 p2 p3 p4 p5 p6 p7 q0
      obtain ⟨d0, d1, d2, d3, d4, d5, d6, d7⟩ := hx10.c8
      obtain ⟨p0, p1, p2, p3, p4, p5, p6, p7⟩ := h10.ks.c8
      clear hN hI hb9 h10 hx10
      have eK : (n2.kind == 3) = false := by rw [HKZ.out]; rfl
      have HZ := Lib.hid (show wlk t c f (8 - g) (n :: r) i = (⟨i, n, id⟩, 0) from by rw [wlk_last HSR.out HM.out.1 HM.out.2 H12.out (fun q => by have h := q.1; rw [HID.out, HN2.out, HKZ.out] at h; exact absurd h (by decide)) HR0.out, HID.out])
      obtain ⟨y0, y1, y2, y3, y4, y5, y6, y7⟩ := H10.out.kr.c8
      obtain ⟨f0, f1, f2, f3, f4, f5, f6, f7⟩ := H10.out.kr.f8
      obtain ⟨s0, s1, s2, s3, s4, s5, s6, s7⟩ := H10.out.kr.s8
      go_wp2
      exact bodyPost_ret (v := .agg #[.slice none 0 0, .int .i64 0, .int .i64 0, .bool true, .int .i64 i, .string (bA n), .int .i64 id, .int .i64 0]) (by simp [results, Tryz.results57, go_sem, s0, s1, s2, s3, s4, s5, s6, s7]) rfl ⟨none, 0, 0, 0, 0, true, ⟨i, n, id⟩, 0, rfl, fun _ => HZ.out, fun h => (by cases h), H10.out.out _ _ _ _ _ _ _ _⟩
    · have eI : (id == 0) = false := by simpa using hz
      have HIZ := Lib.hid hz
      clear hz
      go_wp2_with fail
      refine (HG2.out _ H8.out.below).mono ?_
      rintro e w9 ⟨u, rfl, ⟨vn, vk, rfl, hN, hI⟩, hb9⟩
      obtain ⟨A7, k7, rfl⟩ := strs_form hN (nm_len _)
      obtain ⟨A8, k8, rfl⟩ := ints_form hI (idE_len _)
      have h10 := H8.out.later (al hb9 (.cells (rfC n2 (.slice A7 n2.ents.length k7) (.slice A8 n2.ents.length k8)) 75))
      have hx10 := Blk.new w9 75 (rfC n2 (.slice A7 n2.ents.length k7) (.slice A8 n2.ents.length k8))
      unfold refV
      obtain ⟨d', hd'⟩ : ∃ d', w9.heap.size = d' := ⟨_, rfl⟩
      obtain ⟨W10, hW10⟩ : ∃ W10, w9.alloc (.cells (rfC n2 (.slice A7 n2.ents.length k7) (.slice A8 n2.ents.length k8)) 75) = W10 := ⟨_, rfl⟩
      rw [hW10] at h10 hx10
      rw [hd'] at hx10
      have H10 := Lib.hid h10
      clear p0 p1 p2 p3 p4 p5 p6 p7 q0
      obtain ⟨d0, d1, d2, d3, d4, d5, d6, d7⟩ := hx10.c8
      obtain ⟨p0, p1, p2, p3, p4, p5, p6, p7⟩ := h10.ks.c8
      clear hN hI hb9 h10 hx10
      by_cases hk : n2.kind = 3
      · have eK : (n2.kind == 3) = true := by simpa using hk
        have HKK := Lib.hid hk
        clear hk
        cases f with
        | true =>
          have HLK := Lib.hid (link_any n2.target r A2 N c2 i g W10 (HN0.out.below H10.out.below) (by have := target_len HOK.out id; rw [HN2.out] at this; omega) (by omega) hg)
          have HTL := Lib.hid (show n2.target.length ≤ 64 from by rw [← HN2.out]; exact target_len HOK.out id)
          have HL0 := Lib.hid (show g = 8 → wlk t c true (8 - g) (n :: r) i = (Fo.zero, 40) from fun hq => by rw [hq]; exact wlk_loop HSR.out HM.out.1 HM.out.2 H12.out (fun q => HIZ.out (by rw [← HID.out]; exact q.1)) ⟨by rw [HID.out, HN2.out]; exact HKK.out, .inl rfl⟩)
          have HL1 := Lib.hid (show g ≠ 8 → wlk t c true (8 - g) (n :: r) i = wlk t c true (8 - (g + 1)) (splitP n2.target ++ r) (if absP n2.target = true then 1 else i) from fun hq => by
            obtain ⟨j, hj⟩ : ∃ j, 8 - g = j + 1 := ⟨7 - g, by omega⟩
            rw [hj, wlk_link HSR.out HM.out.1 HM.out.2 H12.out (fun q => HIZ.out (by rw [← HID.out]; exact q.1)) ⟨by rw [HID.out, HN2.out]; exact HKK.out, .inl rfl⟩, HID.out, HN2.out, show 8 - (g + 1) = j by omega])
          go_wp2_with fail
          clear hW10 hd'
          refine HLK.out.mono ?_
          rintro e x9 ⟨⟨hq, rfl⟩ | ⟨hq, A9, n9, c9, rfl, hn9⟩, hb9⟩
          · have HZ := Lib.hid (HL0.out hq)
            have h9 := H10.out.later hb9
            have H9 := Lib.hid h9
            clear hq hb9 d0 d1 d2 d3 d4 d5 d6 d7 p0 p1 p2 p3 p4 p5 p6 p7
            obtain ⟨y0, y1, y2, y3, y4, y5, y6, y7⟩ := h9.kr.c8
            obtain ⟨f0, f1, f2, f3, f4, f5, f6, f7⟩ := h9.kr.f8
            obtain ⟨s0, s1, s2, s3, s4, s5, s6, s7⟩ := h9.kr.s8
            clear h9
            go_wp2
            exact bodyPost_ret (v := .agg #[.slice none 0 0, .int .i64 0, .int .i64 0, .bool true, .int .i64 0, .string ⟨#[]⟩, .int .i64 0, .int .i64 40]) (by simp [results, Tryz.results57, go_sem, s0, s1, s2, s3, s4, s5, s6, s7]) rfl ⟨none, 0, 0, 0, 0, true, Fo.zero, 40, rfl, fun _ => HZ.out, fun h => (by cases h), H9.out.out _ _ _ _ _ _ _ _⟩
          · have HZ := Lib.hid (HL1.out hq)
            have HQ8 := Lib.hid hq
            have HSP := Lib.hid (spl_len n2.target)
            have h9 := H10.out.later hb9
            have H9 := Lib.hid h9
            have HNN := Lib.hid hn9
            generalize splitP n2.target = sp at HZ HSP HNN
            generalize (if absP n2.target = true then 1 else i) = i9 at HZ ⊢
            clear hq hb9 hn9 d0 d1 d2 d3 d4 d5 d6 d7 p0 p1 p2 p3 p4 p5 p6 p7
            obtain ⟨y0, y1, y2, y3, y4, y5, y6, y7⟩ := h9.kr.c8
            obtain ⟨f0, f1, f2, f3, f4, f5, f6, f7⟩ := h9.kr.f8
            obtain ⟨s0, s1, s2, s3, s4, s5, s6, s7⟩ := h9.kr.s8
            clear h9
            go_wp2
            exact bodyPost_ret (v := .agg #[.slice A9 n9 c9, .int .i64 i9, .int .i64 ((g : Int) + 1), .bool false, .int .i64 0, .string ⟨#[]⟩, .int .i64 0, .int .i64 0]) (by simp [results, Tryz.results57, go_sem, s0, s1, s2, s3, s4, s5, s6, s7]) rfl ⟨A9, n9, c9, i9, g + 1, false, Fo.zero, 0, rfl, fun h => (by cases h), fun _ => ⟨⟨rfl, rfl⟩, sp ++ r, H9.out.names HNN.out _ _ _ _ _ _ _ _, HZ.out, by have := HQ8.out; omega, by have h1 := HSP.out; have h2 := HTL.out; have h3 := HQ8.out; rw [List.length_append, List.length_cons]; omega, by have h1 := HSP.out; have h2 := HTL.out; rw [List.length_append]; omega⟩, H9.out.out _ _ _ _ _ _ _ _⟩
        | false =>
          have HZ := Lib.hid (show wlk t c false (8 - g) (n :: r) i = (⟨i, n, id⟩, 0) from by rw [wlk_last HSR.out HM.out.1 HM.out.2 H12.out (fun q => q.2.elim (fun q => by cases q) (fun q => q HR0.out)) HR0.out, HID.out])
          obtain ⟨y0, y1, y2, y3, y4, y5, y6, y7⟩ := H10.out.kr.c8
          obtain ⟨f0, f1, f2, f3, f4, f5, f6, f7⟩ := H10.out.kr.f8
          obtain ⟨s0, s1, s2, s3, s4, s5, s6, s7⟩ := H10.out.kr.s8
          go_wp2
          exact bodyPost_ret (v := .agg #[.slice none 0 0, .int .i64 0, .int .i64 0, .bool true, .int .i64 i, .string (bA n), .int .i64 id, .int .i64 0]) (by simp [results, Tryz.results57, go_sem, s0, s1, s2, s3, s4, s5, s6, s7]) rfl ⟨none, 0, 0, 0, 0, true, ⟨i, n, id⟩, 0, rfl, fun _ => HZ.out, fun h => (by cases h), H10.out.out _ _ _ _ _ _ _ _⟩
      · have eK : (n2.kind == 3) = false := by simpa using hk
        have HKK := Lib.hid hk
        clear hk
        have HZ := Lib.hid (show wlk t c f (8 - g) (n :: r) i = (⟨i, n, id⟩, 0) from by rw [wlk_last HSR.out HM.out.1 HM.out.2 H12.out (fun q => HKK.out (by have h := q.1; rw [HID.out, HN2.out] at h; exact h)) HR0.out, HID.out])
        obtain ⟨y0, y1, y2, y3, y4, y5, y6, y7⟩ := H10.out.kr.c8
        obtain ⟨f0, f1, f2, f3, f4, f5, f6, f7⟩ := H10.out.kr.f8
        obtain ⟨s0, s1, s2, s3, s4, s5, s6, s7⟩ := H10.out.kr.s8
        go_wp2
        exact bodyPost_ret (v := .agg #[.slice none 0 0, .int .i64 0, .int .i64 0, .bool true, .int .i64 i, .string (bA n), .int .i64 id, .int .i64 0]) (by simp [results, Tryz.results57, go_sem, s0, s1, s2, s3, s4, s5, s6, s7]) rfl ⟨none, 0, 0, 0, 0, true, ⟨i, n, id⟩, 0, rfl, fun _ => HZ.out, fun h => (by cases h), H10.out.out _ _ _ _ _ _ _ _⟩
  have eN : ((N : Int) == 0) = false := by rw [HBN, beq_eq_false_iff_ne]; intro q; exact hr0 (List.length_eq_zero_iff.1 (by omega))
  have HR0 := Lib.hid hr0
  clear hr0 HBN
  by_cases hz : id = 0
  · have eI : (id == 0) = true := by simpa using hz
    have HZ := Lib.hid (show wlk t c f (8 - g) (n :: r) i = (Fo.zero, 2) from wlk_gone HSR.out HM.out.1 HM.out.2 H12.out (by rw [HID.out]; exact hz) HR0.out)
    clear hz
    go_wp2_with fail
    refine (fail_any 2 w8).mono ?_
    rintro e x9 ⟨rfl, hb9⟩
    have h9 := H8.out.later hb9
    have H9 := Lib.hid h9
    clear p0 p1 p2 p3 p4 p5 p6 p7 q0
    obtain ⟨y0, y1, y2, y3, y4, y5, y6, y7⟩ := h9.kr.c8
    obtain ⟨f0, f1, f2, f3, f4, f5, f6, f7⟩ := h9.kr.f8
    obtain ⟨s0, s1, s2, s3, s4, s5, s6, s7⟩ := h9.kr.s8
    clear h9 hb9
    go_wp2
    exact bodyPost_ret (v := .agg #[.slice none 0 0, .int .i64 0, .int .i64 0, .bool true, .int .i64 0, .string ⟨#[]⟩, .int .i64 0, .int .i64 2]) (by simp [results, Tryz.results57, go_sem, s0, s1, s2, s3, s4, s5, s6, s7]) rfl ⟨none, 0, 0, 0, 0, true, Fo.zero, 2, rfl, fun _ => HZ.out, fun h => (by cases h), H9.out.out _ _ _ _ _ _ _ _⟩
  have eI : (id == 0) = false := by simpa using hz
  have HIZ := Lib.hid hz
  clear hz
  go_wp2_with fail
  refine (HG2.out _ H8.out.below).mono ?_
  rintro e w9 ⟨u, rfl, ⟨vn, vk, rfl, hN, hI⟩, hb9⟩
  obtain ⟨A7, k7, rfl⟩ := strs_form hN (nm_len _)
  obtain ⟨A8, k8, rfl⟩ := ints_form hI (idE_len _)
  have h10 := H8.out.later (al hb9 (.cells (rfC n2 (.slice A7 n2.ents.length k7) (.slice A8 n2.ents.length k8)) 75))
  have hx10 := Blk.new w9 75 (rfC n2 (.slice A7 n2.ents.length k7) (.slice A8 n2.ents.length k8))
  unfold refV
  obtain ⟨d', hd'⟩ : ∃ d', w9.heap.size = d' := ⟨_, rfl⟩
  obtain ⟨W10, hW10⟩ : ∃ W10, w9.alloc (.cells (rfC n2 (.slice A7 n2.ents.length k7) (.slice A8 n2.ents.length k8)) 75) = W10 := ⟨_, rfl⟩
  rw [hW10] at h10 hx10
  rw [hd'] at hx10
  have H10 := Lib.hid h10
  clear p0 p1 p2 p3 p4 p5 p6 p7 q0
  obtain ⟨d0, d1, d2, d3, d4, d5, d6, d7⟩ := hx10.c8
  obtain ⟨p0, p1, p2, p3, p4, p5, p6, p7⟩ := h10.ks.c8
  clear hN hI hb9 h10 hx10
  by_cases hk : n2.kind = 3
  · have eK : (n2.kind == 3) = true := by simpa using hk
    have HKK := Lib.hid hk
    clear hk
    have HLK := Lib.hid (link_any n2.target r A2 N c2 i g W10 (HN0.out.below H10.out.below) (by have := target_len HOK.out id; rw [HN2.out] at this; omega) (by omega) hg)
    have HTL := Lib.hid (show n2.target.length ≤ 64 from by rw [← HN2.out]; exact target_len HOK.out id)
    have HL0 := Lib.hid (show g = 8 → wlk t c f (8 - g) (n :: r) i = (Fo.zero, 40) from fun hq => by rw [hq]; exact wlk_loop HSR.out HM.out.1 HM.out.2 H12.out (fun q => HIZ.out (by rw [← HID.out]; exact q.1)) ⟨by rw [HID.out, HN2.out]; exact HKK.out, .inr HR0.out⟩)
    have HL1 := Lib.hid (show g ≠ 8 → wlk t c f (8 - g) (n :: r) i = wlk t c f (8 - (g + 1)) (splitP n2.target ++ r) (if absP n2.target = true then 1 else i) from fun hq => by
      obtain ⟨j, hj⟩ : ∃ j, 8 - g = j + 1 := ⟨7 - g, by omega⟩
      rw [hj, wlk_link HSR.out HM.out.1 HM.out.2 H12.out (fun q => HIZ.out (by rw [← HID.out]; exact q.1)) ⟨by rw [HID.out, HN2.out]; exact HKK.out, .inr HR0.out⟩, HID.out, HN2.out, show 8 - (g + 1) = j by omega])
    go_wp2_with fail
    clear hW10 hd'
    refine HLK.out.mono ?_
    rintro e x9 ⟨⟨hq, rfl⟩ | ⟨hq, A9, n9, c9, rfl, hn9⟩, hb9⟩
    · have HZ := Lib.hid (HL0.out hq)
      have h9 := H10.out.later hb9
      have H9 := Lib.hid h9
      clear hq hb9 d0 d1 d2 d3 d4 d5 d6 d7 p0 p1 p2 p3 p4 p5 p6 p7
      obtain ⟨y0, y1, y2, y3, y4, y5, y6, y7⟩ := h9.kr.c8
      obtain ⟨f0, f1, f2, f3, f4, f5, f6, f7⟩ := h9.kr.f8
      obtain ⟨s0, s1, s2, s3, s4, s5, s6, s7⟩ := h9.kr.s8
      clear h9
      go_wp2
      exact bodyPost_ret (v := .agg #[.slice none 0 0, .int .i64 0, .int .i64 0, .bool true, .int .i64 0, .string ⟨#[]⟩, .int .i64 0, .int .i64 40]) (by simp [results, Tryz.results57, go_sem, s0, s1, s2, s3, s4, s5, s6, s7]) rfl ⟨none, 0, 0, 0, 0, true, Fo.zero, 40, rfl, fun _ => HZ.out, fun h => (by cases h), H9.out.out _ _ _ _ _ _ _ _⟩
    · have HZ := Lib.hid (HL1.out hq)
      have HQ8 := Lib.hid hq
      have HSP := Lib.hid (spl_len n2.target)
      have h9 := H10.out.later hb9
      have H9 := Lib.hid h9
      have HNN := Lib.hid hn9
      generalize splitP n2.target = sp at HZ HSP HNN
      generalize (if absP n2.target = true then 1 else i) = i9 at HZ ⊢
      clear hq hb9 hn9 d0 d1 d2 d3 d4 d5 d6 d7 p0 p1 p2 p3 p4 p5 p6 p7
      obtain ⟨y0, y1, y2, y3, y4, y5, y6, y7⟩ := h9.kr.c8
      obtain ⟨f0, f1, f2, f3, f4, f5, f6, f7⟩ := h9.kr.f8
      obtain ⟨s0, s1, s2, s3, s4, s5, s6, s7⟩ := h9.kr.s8
      clear h9
      go_wp2
      exact bodyPost_ret (v := .agg #[.slice A9 n9 c9, .int .i64 i9, .int .i64 ((g : Int) + 1), .bool false, .int .i64 0, .string ⟨#[]⟩, .int .i64 0, .int .i64 0]) (by simp [results, Tryz.results57, go_sem, s0, s1, s2, s3, s4, s5, s6, s7]) rfl ⟨A9, n9, c9, i9, g + 1, false, Fo.zero, 0, rfl, fun h => (by cases h), fun _ => ⟨⟨rfl, rfl⟩, sp ++ r, H9.out.names HNN.out _ _ _ _ _ _ _ _, HZ.out, by have := HQ8.out; omega, by have h1 := HSP.out; have h2 := HTL.out; have h3 := HQ8.out; rw [List.length_append, List.length_cons]; omega, by have h1 := HSP.out; have h2 := HTL.out; rw [List.length_append]; omega⟩, H9.out.out _ _ _ _ _ _ _ _⟩
  · have eK : (n2.kind == 3) = false := by simpa using hk
    have HW := Lib.hid (show wlk t c f (8 - g) (n :: r) i = wlk t c f (8 - g) r id from by rw [wlk_on HSR.out HM.out.1 HM.out.2 H12.out (by rw [HID.out]; exact HIZ.out) (fun q => hk (by have h := q.1; rw [HID.out, HN2.out] at h; exact h)) HR0.out, HID.out])
    have h11 := H10.out.set1 (.int .i64 id)
    have H11 := Lib.hid h11
    have HNN := Lib.hid ((HN0.out.below H10.out.below).other (grown_setCell W10 ⟨w.heap.size + 1 + 1, 1, none⟩ (.int .i64 id)) H10.out.ks (by decide))
    obtain ⟨x0, x1, x2, x3, x4, x5, x6, x7⟩ := H10.out.ks.f8
    obtain ⟨z0, z1, z2, z3, z4, z5, z6, z7⟩ := h11.ks.c8
    clear hk h11
    obtain ⟨y0, y1, y2, y3, y4, y5, y6, y7⟩ := H11.out.kr.c8
    obtain ⟨f0, f1, f2, f3, f4, f5, f6, f7⟩ := H11.out.kr.f8
    obtain ⟨s0, s1, s2, s3, s4, s5, s6, s7⟩ := H11.out.kr.s8
    go_wp2
    exact bodyPost_ret (v := .agg #[.slice A2 N c2, .int .i64 id, .int .i64 (g : Int), .bool false, .int .i64 0, .string ⟨#[]⟩, .int .i64 0, .int .i64 0]) (by simp [results, Tryz.results57, go_sem, s0, s1, s2, s3, s4, s5, s6, s7]) rfl ⟨A2, N, c2, id, g, false, Fo.zero, 0, rfl, fun h => (by cases h), fun _ => ⟨⟨rfl, rfl⟩, r, H11.out.names HNN.out _ _ _ _ _ _ _ _, HW.out, hg, by rw [List.length_cons]; omega, by omega⟩, H11.out.out _ _ _ _ _ _ _ _⟩
end Go.Proofs.YtilepnepcamnaaaGreat
