/-
  The reference's Resolve of stage 11. The conditions: no more groups than a million.
-/
import Derived.Test.YtilepnepcamnaaaGreatRfC
import Derived.Test.YtilepnepcamnaaaGreatRsW
namespace Go.Proofs.YtilepnepcamnaaaGreat
open Go Go.RowKit
set_option maxRecDepth 100000

set_option maxRecDepth 100000 in
set_option maxHeartbeats 8000000 in
theorem ref_splitT (p : ByteArray) (w : World) (hp : p.size ≤ 1000000) :
    Calls Tryz.prog 56 #[.string p] w fun e w' => ∃ v, e = .returned (.tuple #[.bool (absP (tl p)), v]) ∧ StrsT w' v (bAs (splitP (tl p))) ∧ Below w.heap.size w w' := by
  have HN := Lib.hid (ref_names p w hp)
  have HA := Lib.hid (fun w1 => ref_abs p w1)
  have HSP := Lib.hid (show splitP (tl p) = if nms (tl p) ≠ [] ∧ (tl p).getLast? = some 47 then nms (tl p) ++ [[46]] else nms (tl p) from rfl)
  have HPOS := Lib.hid (fun h => pos_of_nms (p := p) h)
  have hnl := nms_len (tl p)
  rw [tl_len] at hnl
  have hbl := bAs_len (nms (tl p))
  generalize nms (tl p) = ns at HN HSP HPOS hnl hbl
  generalize splitP (tl p) = R at HSP ⊢
  generalize absP (tl p) = ap at HA ⊢
  by_cases h0 : 0 < ns.length
  · have hps := HPOS.out h0
    have hne : ¬ ns = [] := by intro e; rw [e] at h0; exact absurd h0 (by decide)
    have h0' : (0 : Int) < (ns.length : Int) := by omega
    obtain ⟨m, hm⟩ : ∃ m, p.size = m + 1 := ⟨p.size - 1, by omega⟩
    have hml : m < p.size := by omega
    have hla := plast_at hm hml
    obtain ⟨b, hb⟩ : ∃ b, p[m] = b := ⟨_, rfl⟩
    rw [hb] at hla
    have hi : ((p.size : Int) - 1) = (m : Int) := by omega
    by_cases hl : b = 47
    · subst hl
      rw [if_pos ⟨hne, hla⟩] at HSP
      have HR := Lib.hid (show bAs R = bAs ns ++ [⟨#[46]⟩] by rw [HSP.out, bAs_snoc]; rfl)
      clear hla hne HSP
      go_enter Tryz.func56, Tryz.ntmps56
      go_wp2_with fail
      refine HN.out.mono ?_
      rintro e w2 ⟨v, rfl, ho, hb2⟩
      have HO := Lib.hid ho
      have HB2 := Lib.hid hb2
      obtain ⟨A, c, rfl⟩ := own_slice ho
      clear ho hb2 HN
      go_wp2_with (first | (at_builtin; refine wpList_append_one rfl (.tmp 18) (.tmp 19) _ rfl w.heap.size 9 _ 1 16 Tryz.underlying51 info_str rfl (by decide) (.slice A (bAs ns).length c) (bAs ns).length (sCells (bAs ns)) (by first | rfl | (rw [hbl]; rfl)) w2 [.string ⟨#[46]⟩] rfl (str_one _) HO.out rfl (by omega) (by omega) HB2.out.size ?_; intro v5 w5 ho hg; obtain ⟨A5, c5, hv5, ho5, hb5⟩ := app_one HB2.out HB2.out.size HO.out ho hg; subst hv5; have HO5 := Lib.hid ho5; have HB5 := Lib.hid hb5; clear ho hg ho5 hb5) | fail)
      refine (HA.out _).mono ?_
      rintro e w' ⟨rfl, rfl⟩
      go_wp2
      go_ret2
      exact ⟨_, rfl, by rw [HR.out]; have h := StrsT.of_own HO5.out; rw [hbl] at h; exact h, HB5.out⟩
    · have hqb : ((b.toNat : Int) == 47) = false := co_ne (a := b) (b := 47) hl
      rw [if_neg (fun e => hl (by have h := e.2; rw [hla] at h; injection h))] at HSP
      clear hla hne hl
      go_enter Tryz.func56, Tryz.ntmps56
      go_wp2_with fail
      refine HN.out.mono ?_
      rintro e w2 ⟨v, rfl, ho, hb2⟩
      have HO := Lib.hid ho
      have HB2 := Lib.hid hb2
      obtain ⟨A, c, rfl⟩ := own_slice ho
      clear ho hb2 HN
      go_wp2_with fail
      refine (HA.out _).mono ?_
      rintro e w' ⟨rfl, rfl⟩
      go_wp2
      go_ret2
      exact ⟨_, rfl, by rw [HSP.out]; have h := StrsT.of_own HO.out; first | exact h | (rw [hbl] at h; exact h), HB2.out⟩
  · have hn0 : ns.length = 0 := by omega
    have hns : ns = [] := List.eq_nil_of_length_eq_zero hn0
    rw [if_neg (fun e => e.1 hns)] at HSP
    rw [hn0] at hbl
    clear hns h0
    go_enter Tryz.func56, Tryz.ntmps56
    go_wp2_with fail
    refine HN.out.mono ?_
    rintro e w2 ⟨v, rfl, ho, hb2⟩
    have HO := Lib.hid ho
    have HB2 := Lib.hid hb2
    obtain ⟨A, c, rfl⟩ := own_slice ho
    clear ho hb2 HN
    go_wp2_with fail
    refine (HA.out _).mono ?_
    rintro e w' ⟨rfl, rfl⟩
    go_wp2
    go_ret2
    exact ⟨_, rfl, by rw [HSP.out]; have h := StrsT.of_own HO.out; first | exact h | (rw [hbl] at h; exact h), HB2.out⟩

attribute [local go_sem] cell_off4 cell_blk4
attribute [local go_sem] kind_ofr
/-- The boxes of Resolve. -/
structure RrB (w W : World) (v : Value) (c : Wh) (A0 : Option Addr) (m k : Nat) : Prop where
  kt : Blk W w.heap.size 32 #[v]
  kc : Blk W (w.heap.size + 1) 42 #[.int .i64 c.u, .int .i64 c.g, .slice A0 m k]
  kr : Blk W (w.heap.size + 1 + 1) 81 #[.int .i64 0, .string ⟨#[]⟩, .int .i64 0]
  below : Below w.heap.size w W
section
variable {w W W' : World} {v : Value} {c : Wh} {A0 : Option Addr} {m k S : Nat} {sv : Array Value}
theorem RrB.later (h : RrB w W v c A0 m k) (hb : Below W.heap.size W W') : RrB w W' v c A0 m k := ⟨h.kt.below hb, h.kc.below hb, h.kr.below hb, bt hb h.below⟩
theorem RrB.put (h : RrB w W v c A0 m k) (ks : Blk W S 112 sv) (hS : w.heap.size ≤ S) (u0 u1 u2 u3 u4 u5 u6 u7 : Value) : RrB w (put8 W S u0 u1 u2 u3 u4 u5 u6 u7) v c A0 m k :=
  have hg := grown8 W S u0 u1 u2 u3 u4 u5 u6 u7
  ⟨h.kt.kept hg (some_ne (blk_ne h.kt ks (by decide))), h.kc.kept hg (some_ne (blk_ne h.kc ks (by decide))), h.kr.kept hg (some_ne (blk_ne h.kr ks (by decide))), below_grown h.below hg hS⟩
theorem RrB.out (h : RrB w W v c A0 m k) (u0 u1 u2 : Value) : Below w.heap.size w (put3 W (w.heap.size + 1 + 1) u0 u1 u2) := below_grown h.below (grown3 W _ u0 u1 u2) (show w.heap.size ≤ w.heap.size + 1 + 1 by omega)
theorem rr_start (w : World) (v : Value) (c : Wh) (A0 : Option Addr) (m k : Nat) : RrB w (((w.alloc (.cells #[v] 32)).alloc (.cells #[.int .i64 c.u, .int .i64 c.g, .slice A0 m k] 42)).alloc (.cells #[.int .i64 0, .string ⟨#[]⟩, .int .i64 0] 81)) v c A0 m k := by
  have b1 := ba w (.cells #[v] 32)
  have k1 := Blk.new w 32 #[v]
  have e1 : (w.alloc (.cells #[v] 32)).heap.size = w.heap.size + 1 := by simp
  generalize w.alloc (.cells #[v] 32) = x1 at b1 k1 e1 ⊢
  have b2 := ba x1 (.cells #[.int .i64 c.u, .int .i64 c.g, .slice A0 m k] 42)
  have k2 := Blk.new x1 42 #[.int .i64 c.u, .int .i64 c.g, .slice A0 m k]
  have e2 : (x1.alloc (.cells #[.int .i64 c.u, .int .i64 c.g, .slice A0 m k] 42)).heap.size = w.heap.size + 1 + 1 := by simp [e1]
  rw [e1] at k2
  generalize x1.alloc (.cells #[.int .i64 c.u, .int .i64 c.g, .slice A0 m k] 42) = x2 at b2 k2 e2 ⊢
  have b3 := ba x2 (.cells #[.int .i64 0, .string ⟨#[]⟩, .int .i64 0] 81)
  have k3 := Blk.new x2 81 #[.int .i64 0, .string ⟨#[]⟩, .int .i64 0]
  rw [e2] at k3
  exact ⟨(k1.below b2).below b3, k2.below b3, k3, bt b3 (bt b2 b1)⟩
end
/-- Resolve where the path itself isn't fit. -/
theorem rres_bad (A : Option Addr) (nT cT : Nat) (n0 : Nd) (c : Wh) (A0 : Option Addr) (m k : Nat) (p : Nm) (f : Bool) (w : World) (hp : p.length ≤ 1000000) (HG : ∀ W, Below w.heap.size w W → Calls Tryz.prog 37 #[.agg #[.slice A nT cT], .int .i64 1] W fun e w' => ∃ u, e = .returned u ∧ NrR w' u n0 ∧ Below W.heap.size W w') (hq : fitK n0.kind p ≠ 0) :
    Calls Tryz.prog 36 #[.agg #[.slice A nT cT], .agg #[.int .i64 c.u, .int .i64 c.g, .slice A0 m k], .string (bA p), .bool f] w fun e w' => e = .returned (.tuple #[.agg #[.int .i64 0, .string ⟨#[]⟩, .int .i64 0], .int .i64 (fitK n0.kind p)]) ∧ Below w.heap.size w w' := by
  have h3 := rr_start w (.slice A nT cT) c A0 m k
  obtain ⟨W3, hW3⟩ : ∃ W3, (((w.alloc (.cells #[.slice A nT cT] 32)).alloc (.cells #[.int .i64 c.u, .int .i64 c.g, .slice A0 m k] 42)).alloc (.cells #[.int .i64 0, .string ⟨#[]⟩, .int .i64 0] 81)) = W3 := ⟨_, rfl⟩
  rw [hW3] at h3
  have H3 := Lib.hid h3
  have HF := Lib.hid (rfits_any A nT cT n0 p W3 hp (fun W hb => HG W (bt hb h3.below)))
  have q0 : W3.cell? ⟨w.heap.size, 0, none⟩ = some (.slice A nT cT) := h3.kt.cell 0
  generalize fitK n0.kind p = E at HF hq ⊢
  have q1 : (E != 0) = true := by simpa using hq
  clear h3 HG hq
  go_enter Tryz.func36, Tryz.ntmps36
  go_wp2_with fail
  clear hW3
  refine HF.out.mono ?_
  rintro e w4 ⟨rfl, hb4⟩
  have h4 := H3.out.later hb4
  have H4 := Lib.hid h4
  obtain ⟨p0, p1, p2⟩ := h4.kr.c3
  obtain ⟨f0, f1, f2⟩ := h4.kr.f3
  obtain ⟨s0, s1, s2⟩ := h4.kr.s3
  clear q0 h4 hb4
  go_wp2
  exact bodyPost_ret (v := .tuple #[.agg #[.int .i64 0, .string ⟨#[]⟩, .int .i64 0], .int .i64 E]) (by simp [results, Tryz.results36, go_sem, s0, s1, s2]) rfl ⟨rfl, H4.out.out _ _ _⟩
set_option maxHeartbeats 8000000 in
theorem rres_any {P : Nat → Prop} (v : Value) (t : List Nd) (c : Wh) (A0 : Option Addr) (m k : Nat) (p : Nm) (f : Bool) (w : World) (h : NsR P w v t) (hl : t.length ≤ 24) (ho : okT t) (hc : CrR w c A0 m k) (hp : p.length ≤ 1000) (X : Fo × Int) (hX : resM t c p f = X) :
    Calls Tryz.prog 36 #[.agg #[v], .agg #[.int .i64 c.u, .int .i64 c.g, .slice A0 m k], .string (bA p), .bool f] w fun e w' => e = .returned (.tuple #[.agg #[.int .i64 X.1.dir, .string (bA X.1.name), .int .i64 X.1.node], .int .i64 X.2]) ∧ Below w.heap.size w w' := by
  obtain ⟨g0, k0, rfl⟩ := ns_form h
  have HG := fun W (hb : Below w.heap.size w W) => rget_any _ t 1 W (h.below hb) hl
  have hX' : (if fitE t p ≠ 0 then (Fo.zero, fitE t p) else wlk t c f 8 (splitP p) 1) = X := hX
  rw [fitK_eq] at hX'
  by_cases hq : fitK (tget t 1).kind p ≠ 0
  · rw [if_pos hq] at hX'
    subst hX'
    exact rres_bad _ _ _ _ c A0 m k p f w (by omega) HG hq
  rw [if_neg hq] at hX'
  replace hq : fitK (tget t 1).kind p = 0 := Classical.byContradiction hq
  have h3 := rr_start w (.slice (some ⟨g0, 0, none⟩) t.length k0) c A0 m k
  obtain ⟨W3, hW3⟩ : ∃ W3, (((w.alloc (.cells #[.slice (some ⟨g0, 0, none⟩) t.length k0] 32)).alloc (.cells #[.int .i64 c.u, .int .i64 c.g, .slice A0 m k] 42)).alloc (.cells #[.int .i64 0, .string ⟨#[]⟩, .int .i64 0] 81)) = W3 := ⟨_, rfl⟩
  rw [hW3] at h3
  have H3 := Lib.hid h3
  have HF := Lib.hid (rfits_any (some ⟨g0, 0, none⟩) t.length k0 _ p W3 (by omega) (fun W hb => HG W (bt hb h3.below)))
  have q0 : W3.cell? ⟨w.heap.size, 0, none⟩ = some (.slice (some ⟨g0, 0, none⟩) t.length k0) := h3.kt.cell 0
  rw [hq] at HF
  have HS := Lib.hid (fun W => ref_splitT (bA p) W (by rw [size_bA]; omega))
  rw [tl_bA] at HS
  have HSL := Lib.hid (spl_len p)
  have HWK := Lib.hid hX'
  have HNS := Lib.hid h
  have HOK := Lib.hid ho
  have HCR := Lib.hid hc
  generalize splitP p = S at HS HSL HWK
  generalize absP p = ap at HS
  clear h3 HG hq hX hX' h ho hc
  go_enter Tryz.func36, Tryz.ntmps36
  go_wp2_with fail
  clear hW3
  refine HF.out.mono ?_
  rintro e w4 ⟨rfl, hb4⟩
  have H4 := Lib.hid (H3.out.later hb4)
  clear q0 hb4 HF H3
  go_wp2_with fail
  refine (HS.out w4).mono ?_
  rintro e w5 ⟨v5, rfl, hn5, hb5⟩
  obtain ⟨A5, c5, rfl⟩ := strs_form hn5.1 (bAs_len S)
  have h5 := H4.out.later hb5
  have ks6 := Blk.new w5 112 #[.slice A5 S.length c5, .int .i64 1, .int .i64 0, .bool false, .int .i64 0, .string ⟨#[]⟩, .int .i64 0, .int .i64 0]
  have h6 := h5.later (ba w5 (.cells #[.slice A5 S.length c5, .int .i64 1, .int .i64 0, .bool false, .int .i64 0, .string ⟨#[]⟩, .int .i64 0, .int .i64 0] 112))
  have hn6 := hn5.below (ba w5 (.cells #[.slice A5 S.length c5, .int .i64 1, .int .i64 0, .bool false, .int .i64 0, .string ⟨#[]⟩, .int .i64 0, .int .i64 0] 112))
  have H6 := Lib.hid (And.intro h6 (And.intro hn6 (And.intro ks6 h5.below.size)))
  clear h5 h6 hn6 ks6 hn5 hb5 H4 HS
  go_wp2
  generalize w5.heap.size = B at H6 ⊢
  have HSl := Lib.hid (show S.length ≤ 1002 by have := HSL.out; omega)
  clear HSL
  go_loopg [] (8000 + S.length + 1) (fun gh wr => ∃ (Av : Option Addr) (nv cv : Nat) (i : Int) (g : Nat) (dn : Bool) (F : Fo) (E : Int), RrB w wr (.slice (some ⟨g0, 0, none⟩) t.length k0) c A0 m k ∧ Blk wr B 112 #[.slice Av nv cv, .int .i64 i, .int .i64 (g : Int), .bool dn, .int .i64 F.dir, .string (bA F.name), .int .i64 F.node, .int .i64 E] ∧ w.heap.size ≤ B ∧ (dn = true → (F, E) = X ∧ gh = 0) ∧ (dn = false → (F = Fo.zero ∧ E = 0) ∧ ∃ l : List Nm, nv = l.length ∧ StrsT wr (.slice Av nv cv) (bAs l) ∧ wlk t c f (8 - g) l i = X ∧ g ≤ 8 ∧ l.length ≤ 1002 + 66 * g ∧ gh = (8 - g) * 1000 + l.length + 1))
  case atStart =>
    have h1 := HSl.out
    exact ⟨_, _, _, 1, 0, false, Fo.zero, 0, H6.out.1, H6.out.2.2.1, H6.out.2.2.2, fun h => (by cases h), fun _ => ⟨⟨rfl, rfl⟩, S, rfl, H6.out.2.1, HWK.out, by omega, by omega, by omega⟩⟩
  case round =>
    clear H6 HSl HWK
    obtain ⟨Av, nv, cv, i, g, dn, F, E, hR, hk, hB, hd, hu⟩ := hrel
    have HR := Lib.hid hR
    have HK := Lib.hid hk
    have HBB := Lib.hid hB
    have HU := Lib.hid hu
    have HD := Lib.hid hd
    have q0 : wr.cell? ⟨w.heap.size, 0, none⟩ = some (.slice (some ⟨g0, 0, none⟩) t.length k0) := hR.kt.cell 0
    obtain ⟨r0, r1, r2⟩ := hR.kc.c3
    obtain ⟨x0, x1, x2⟩ := hR.kr.c3
    obtain ⟨z0, z1, z2⟩ := hR.kr.f3
    obtain ⟨u0, u1, u2⟩ := hR.kr.s3
    obtain ⟨y0, y1, y2, y3, y4, y5, y6, y7⟩ := hk.c8
    clear hd hu hR hk hB
    cases dn with
    | true =>
      have HX := Lib.hid (HD.out rfl).1
      by_cases qn : nv = 0
      · have en : ¬ (nv : Int) > 0 := by omega
        clear qn
        go_wp2
        have HRd := Lib.hid (HR.out.later (Below.refl _ _).drew)
        have HKd := Lib.hid (HK.out.below ((Below.refl _ _).drew : Below wr.heap.size wr wr.drew))
        have hkp : Blk (((wr.setCell ⟨w.heap.size + 1 + 1, 0, none⟩ (.int .i64 F.dir)).setCell ⟨w.heap.size + 1 + 1, 1, none⟩ (.string (bA F.name))).setCell ⟨w.heap.size + 1 + 1, 2, none⟩ (.int .i64 F.node)) B 112 _ := HK.out.kept (grown3 wr (w.heap.size + 1 + 1) (.int .i64 F.dir) (.string (bA F.name)) (.int .i64 F.node)) (some_ne (blk_ne HK.out HR.out.kr (by decide)))
        obtain ⟨-, -, -, -, m4, m5, m6, m7⟩ := hkp.c8
        clear hkp q0 r0 r1 r2 y0 y1 y2 y3 y4 y5 y6 y7
        obtain ⟨-, -, -, -, y4, y5, y6, y7⟩ := HKd.out.c8
        go_region_held3 (fun w' => w'.cell? ⟨B, 4, none⟩ = some (.int .i64 F.dir) ∧ w'.cell? ⟨B, 5, none⟩ = some (.string (bA F.name)) ∧ w'.cell? ⟨B, 6, none⟩ = some (.int .i64 F.node) ∧ w'.cell? ⟨B, 7, none⟩ = some (.int .i64 E))
          (first | (with_reducible exact ⟨y4, y5, y6, y7⟩) | exact ⟨m4, m5, m6, m7⟩)
          (fail)
        all_goals (
          go_wp2
          exact bodyPost_ret (v := .tuple #[.agg #[.int .i64 F.dir, .string (bA F.name), .int .i64 F.node], .int .i64 E]) (by simp [results, Tryz.results36, go_sem, u0, u1, u2]) rfl ⟨by rw [← HX.out], by first | exact HR.out.out _ _ _ | exact (HR.out.out _ _ _).drew | exact HRd.out.out _ _ _⟩)
      · have en : (nv : Int) > 0 := by omega
        clear qn
        go_wp2
        have HRd := Lib.hid (HR.out.later (Below.refl _ _).drew)
        have HKd := Lib.hid (HK.out.below ((Below.refl _ _).drew : Below wr.heap.size wr wr.drew))
        have hkp : Blk (((wr.setCell ⟨w.heap.size + 1 + 1, 0, none⟩ (.int .i64 F.dir)).setCell ⟨w.heap.size + 1 + 1, 1, none⟩ (.string (bA F.name))).setCell ⟨w.heap.size + 1 + 1, 2, none⟩ (.int .i64 F.node)) B 112 _ := HK.out.kept (grown3 wr (w.heap.size + 1 + 1) (.int .i64 F.dir) (.string (bA F.name)) (.int .i64 F.node)) (some_ne (blk_ne HK.out HR.out.kr (by decide)))
        obtain ⟨-, -, -, -, m4, m5, m6, m7⟩ := hkp.c8
        clear hkp q0 r0 r1 r2 y0 y1 y2 y3 y4 y5 y6 y7
        obtain ⟨-, -, -, -, y4, y5, y6, y7⟩ := HKd.out.c8
        go_region_held3 (fun w' => w'.cell? ⟨B, 4, none⟩ = some (.int .i64 F.dir) ∧ w'.cell? ⟨B, 5, none⟩ = some (.string (bA F.name)) ∧ w'.cell? ⟨B, 6, none⟩ = some (.int .i64 F.node) ∧ w'.cell? ⟨B, 7, none⟩ = some (.int .i64 E))
          (first | (with_reducible exact ⟨y4, y5, y6, y7⟩) | exact ⟨m4, m5, m6, m7⟩)
          (fail)
        all_goals (
          go_wp2
          exact bodyPost_ret (v := .tuple #[.agg #[.int .i64 F.dir, .string (bA F.name), .int .i64 F.node], .int .i64 E]) (by simp [results, Tryz.results36, go_sem, u0, u1, u2]) rfl ⟨by rw [← HX.out], by first | exact HR.out.out _ _ _ | exact (HR.out.out _ _ _).drew | exact HRd.out.out _ _ _⟩)
    | false =>
      obtain ⟨⟨hF, hE⟩, l, hnl, hln, hw, hg, hll, hgh⟩ := HU.out rfl
      subst hF hE hnl hgh
      have HLN := Lib.hid hln
      have HW := Lib.hid hw
      clear hln hw HU HD
      cases l with
      | nil =>
        have HX := Lib.hid (show ((⟨i, [], i⟩ : Fo), (0 : Int)) = X from by rw [← HW.out, wlk_nil])
        go_wp2
        exact bodyPost_ret (v := .tuple #[.agg #[.int .i64 i, .string ⟨#[]⟩, .int .i64 i], .int .i64 0]) (by simp [results, Tryz.results36, go_sem, u0, u1, u2]) rfl ⟨by rw [← HX.out]; rfl, HR.out.out _ _ _⟩
      | cons n r =>
        have hlr : r.length + 1 ≤ 1002 + 66 * g := by simpa using hll
        have en : ((n :: r).length : Int) > 0 := by rw [List.length_cons]; omega
        have HTK := Lib.hid (take_any (.slice (some ⟨g0, 0, none⟩) t.length k0) t c A0 m k Av (n :: r).length cv n r i g f wr (HNS.out.below HR.out.below) hl HOK.out (HCR.out.below HR.out.below) HLN.out hg hlr)
        obtain ⟨N, hN⟩ : ∃ N, (n :: r).length = N := ⟨_, rfl⟩
        simp only [hN] at HTK en HK y0 ⊢
        have HN := Lib.hid hN
        clear hN hll HLN z0 z1 z2 u0 u1 u2 x0 x1 x2
        go_wp2_with fail
        refine HTK.out.mono ?_
        rintro e w7 ⟨A7, n7, c7, i7, g7, d7, F7, E7, rfl, hd7, hu7, hb7⟩
        have HR7 := Lib.hid (HR.out.later hb7)
        have HK7 := Lib.hid (HK.out.below hb7)
        have HD7 := Lib.hid hd7
        have HU7 := Lib.hid hu7
        clear q0 r0 r1 r2 y0 y1 y2 y3 y4 y5 y6 y7 hb7 hd7 hu7
        obtain ⟨y0, y1, y2, y3, y4, y5, y6, y7⟩ := HK7.out.c8
        obtain ⟨f0, f1, f2, f3, f4, f5, f6, f7⟩ := HK7.out.f8
        obtain ⟨s0, s1, s2, s3, s4, s5, s6, s7⟩ := HK7.out.s8
        have HRN := Lib.hid (HR7.out.put HK7.out HBB.out (.slice A7 n7 c7) (.int .i64 i7) (.int .i64 (g7 : Int)) (.bool d7) (.int .i64 F7.dir) (.string (bA F7.name)) (.int .i64 F7.node) (.int .i64 E7))
        have HKN := Lib.hid (HK7.out.put8 (.slice A7 n7 c7) (.int .i64 i7) (.int .i64 (g7 : Int)) (.bool d7) (.int .i64 F7.dir) (.string (bA F7.name)) (.int .i64 F7.node) (.int .i64 E7))
        go_wp2
        cases d7 with
        | true =>
          go_roundg 0
          case measure => omega
          case rel => exact ⟨_, _, _, i7, g7, true, F7, E7, HRN.out, HKN.out, HBB.out, fun _ => ⟨by rw [← HW.out]; exact (HD7.out rfl).symm, rfl⟩, fun h => (by cases h)⟩
        | false =>
          obtain ⟨⟨rfl, rfl⟩, l', hn', hw', hg', hm', hl'⟩ := HU7.out rfl
          have e7 : n7 = l'.length := by rw [← bAs_len l']; exact (strs_len hn'.1).symm
          have hm2 : (8 - g7) * 1000 + l'.length + 1 < (8 - g) * 1000 + (n :: r).length + 1 := by omega
          go_roundg ((8 - g7) * 1000 + l'.length + 1)
          case measure => have h1 := HN.out; omega
          case rel => exact ⟨_, _, _, i7, g7, false, Fo.zero, 0, HRN.out, HKN.out, HBB.out, fun h => (by cases h), fun _ => ⟨⟨rfl, rfl⟩, l', e7, hn'.other (grown8 _ _ _ _ _ _ _ _ _ _) HK7.out (by decide), by rw [← hw']; exact HW.out, hg', hl', rfl⟩⟩
end Go.Proofs.YtilepnepcamnaaaGreat
