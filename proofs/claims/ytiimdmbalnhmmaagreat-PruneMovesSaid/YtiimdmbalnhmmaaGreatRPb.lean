/-
  The reference's find. The conditions are said at each.
-/
import Derived.Test.YtiimdmbalnhmmaaGreatRPa
namespace Go.Proofs.YtiimdmbalnhmmaaGreat
open Go Go.RowKit
set_option maxRecDepth 100000

attribute [local go_sem] cell_off4 cell_blk4
set_option maxHeartbeats 8000000 in
theorem rfind_ent {P : Nat → Prop} (v : Value) (t : List Nd) (c : Wh) (A0 : Option Addr) (m0 k0 : Nat) (p : Nm) (w : World) (h : NsR P w v t) (hl : t.length ≤ 24) (ho : okT t) (hc : CrR w c A0 m0 k0) (hp : p.length ≤ 1000) (F : Fo) (E : Int) (hX : resM t c p false = (F, E)) :
    Calls Tryz.prog 40 #[.agg #[v], .agg #[.int .i64 c.u, .int .i64 c.g, .slice A0 m0 k0], .string (bA p)] w fun e w' => e = .returned (.tuple #[.agg #[.int .i64 F.dir, .string (bA F.name), .int .i64 F.node], .int .i64 (fnE t c (F, E))]) ∧ Below w.heap.size w w' := by
  obtain ⟨g, cc, rfl⟩ := ns_form h
  obtain ⟨X, hXX⟩ : ∃ X, fnE t c (F, E) = X := ⟨_, rfl⟩
  rw [hXX]
  have hx : X = if E ≠ 0 then E else if F.node = 0 then 2 else if F.name = [] then 22 else if canT t c F.dir 2 = false then 13 else if stkB t c F = false then 1 else 0 := hXX.symm
  have hb1 := ba w (.cells #[.slice (some ⟨g, 0, none⟩) t.length cc] 35)
  have h11 := Blk.new w 35 #[.slice (some ⟨g, 0, none⟩) t.length cc]
  obtain ⟨W1, hW1⟩ : ∃ W, w.alloc (.cells #[.slice (some ⟨g, 0, none⟩) t.length cc] 35) = W := ⟨_, rfl⟩
  rw [hW1] at hb1 h11
  have hb2 := al hb1 (.cells #[.int .i64 c.u, .int .i64 c.g, .slice A0 m0 k0] 40)
  have h12 := h11.alloc (.cells #[.int .i64 c.u, .int .i64 c.g, .slice A0 m0 k0] 40)
  have h22 := Blk.new W1 40 #[.int .i64 c.u, .int .i64 c.g, .slice A0 m0 k0]
  obtain ⟨W2, hW2⟩ : ∃ W, W1.alloc (.cells #[.int .i64 c.u, .int .i64 c.g, .slice A0 m0 k0] 40) = W := ⟨_, rfl⟩
  rw [hW2] at hb2 h12 h22
  have hb3 := al hb2 (.cells #[.int .i64 0, .string ⟨#[]⟩, .int .i64 0] 90)
  have h13 := h12.alloc (.cells #[.int .i64 0, .string ⟨#[]⟩, .int .i64 0] 90)
  have h23 := h22.alloc (.cells #[.int .i64 0, .string ⟨#[]⟩, .int .i64 0] 90)
  have h33 := Blk.new W2 90 #[.int .i64 0, .string ⟨#[]⟩, .int .i64 0]
  have hlR : w.heap.size ≤ W2.heap.size := hb2.size
  obtain ⟨W3, hW3⟩ : ∃ W, W2.alloc (.cells #[.int .i64 0, .string ⟨#[]⟩, .int .i64 0] 90) = W := ⟨_, rfl⟩
  rw [hW3] at hb3 h13 h23 h33
  obtain ⟨z2, hz2⟩ : ∃ z, W1.heap.size = z := ⟨_, rfl⟩
  obtain ⟨R, hR⟩ : ∃ z, W2.heap.size = z := ⟨_, rfl⟩
  rw [hz2] at h23
  rw [hR] at h33 hlR
  have HB3 := Lib.hid hb3
  have HLR := Lib.hid hlR
  have H1 := Lib.hid h13
  have H2 := Lib.hid h23
  have H3 := Lib.hid h33
  have HN := Lib.hid (h.below hb3)
  have HC := Lib.hid (hc.below hb3)
  have HRS := Lib.hid (rres_any _ t c A0 m0 k0 p false W3 HN.out hl ho HC.out hp (F, E) hX)
  have t0 := h13.cell 0
  obtain ⟨k0', k1, k2⟩ := h23.c3
  simp at t0
  clear h hb1 hb2 hb3 h11 h12 h13 h22 h23 h33 hlR hXX hX
  go_enter Tryz.func40, Tryz.ntmps40
  go_wp2_with fail
  clear hW1 hW2 hW3 hz2 hR
  refine HRS.out.mono ?_
  rintro e w4 ⟨rfl, hb4⟩
  have hbx := al hb4 (.cells #[.int .i64 F.dir, .string (bA F.name), .int .i64 F.node] 90)
  have hf4 := Blk.new w4 90 #[.int .i64 F.dir, .string (bA F.name), .int .i64 F.node]
  obtain ⟨W4, hW4⟩ : ∃ W, w4.alloc (.cells #[.int .i64 F.dir, .string (bA F.name), .int .i64 F.node] 90) = W := ⟨_, rfl⟩
  obtain ⟨y, hy⟩ : ∃ y, w4.heap.size = y := ⟨_, rfl⟩
  rw [hW4] at hbx hf4
  rw [hy] at hf4
  have HB4 := Lib.hid hbx
  have H4 := Lib.hid hf4
  have HCN := Lib.hid (fun (W : World) (hb : Below W4.heap.size W4 W) => rrcan_any _ t c A0 m0 k0 F.dir 2 W (HN.out.below (bt hb HB4.out)) hl (HC.out.below (bt hb HB4.out)))
  have HSK := Lib.hid (fun (W : World) (hb : Below W4.heap.size W4 W) => rstk_any _ t c A0 m0 k0 F W (HN.out.below (bt hb HB4.out)) hl)
  have hJ := Below.refl W4.heap.size W4
  clear hb4 hbx hf4 HRS k0' k1 k2 t0
  have t0 := (H1.out.below HB4.out).cell 0
  obtain ⟨k0', k1, k2⟩ := (H2.out.below HB4.out).c3
  simp at t0
  by_cases q0 : E = 0
  · have y0 : (E != 0) = false := by simpa using q0
    rw [if_neg (fun z => z q0)] at hx
    by_cases q1 : F.node = 0
    · have y1 : (F.node == 0) = true := by simpa using q1
      rw [if_pos q1] at hx
      have HX := Lib.hid hx
      clear hx q0 q1
      have hr := H3.out.below HB4.out
      have HE := Lib.hid (below_grown (bt HB4.out HB3.out) (grown3 W4 R (.int .i64 F.dir) (.string (bA F.name)) (.int .i64 F.node)) HLR.out)
      obtain ⟨r0, r1, r2⟩ := hr.c3
      obtain ⟨f0, f1, f2⟩ := hr.f3
      obtain ⟨s0, s1, s2⟩ := hr.s3
      obtain ⟨b0, b1, b2⟩ := (H4.out.below hJ).c3
      clear hr
      go_wp2
      exact bodyPost_ret (v := .tuple #[.agg #[.int .i64 F.dir, .string (bA F.name), .int .i64 F.node], .int .i64 2]) (by simp [results, Tryz.results40, go_sem, s0, s1, s2]) rfl ⟨by rw [HX.out], HE.out⟩
    have y1 : (F.node == 0) = false := by simpa using q1
    rw [if_neg q1] at hx
    by_cases q2 : F.name = []
    · have y2 : ((bA F.name).toList == ([] : List UInt8)) = true := (len0_iff F.name).2 q2
      rw [if_pos q2] at hx
      have HX := Lib.hid hx
      clear hx q0 q1 q2
      have hr := H3.out.below HB4.out
      have HE := Lib.hid (below_grown (bt HB4.out HB3.out) (grown3 W4 R (.int .i64 F.dir) (.string (bA F.name)) (.int .i64 F.node)) HLR.out)
      obtain ⟨r0, r1, r2⟩ := hr.c3
      obtain ⟨f0, f1, f2⟩ := hr.f3
      obtain ⟨s0, s1, s2⟩ := hr.s3
      obtain ⟨b0, b1, b2⟩ := (H4.out.below hJ).c3
      clear hr
      go_wp2
      exact bodyPost_ret (v := .tuple #[.agg #[.int .i64 F.dir, .string (bA F.name), .int .i64 F.node], .int .i64 22]) (by simp [results, Tryz.results40, go_sem, s0, s1, s2]) rfl ⟨by rw [HX.out], HE.out⟩
    have y2 : ((bA F.name).toList == ([] : List UInt8)) = false := ne_nil_of F.name q2
    rw [if_neg q2] at hx
    obtain ⟨b0, b1, b2⟩ := H4.out.c3
    have HX0 := Lib.hid hx
    clear hx q0 q1 q2
    obtain ⟨C, hC⟩ : ∃ C, canT t c F.dir 2 = C := ⟨_, rfl⟩
    obtain ⟨K, hK⟩ : ∃ K, stkB t c F = K := ⟨_, rfl⟩
    rw [hC] at HCN HX0
    rw [hK] at HSK HX0
    clear hC hK
    go_wp2_with fail
    clear hW4 hy
    refine (HCN.out W4 hJ).mono ?_
    rintro e w5 ⟨rfl, hb5⟩
    have J5 := Lib.hid hb5
    have HB5 := Lib.hid (bt hb5 HB4.out)
    clear hb5 t0 k0' k1 k2 b0 b1 b2
    have t0 := (H1.out.below HB5.out).cell 0
    obtain ⟨k0', k1, k2⟩ := (H2.out.below HB5.out).c3
    simp at t0
    cases C with
    | false =>
      have HX := Lib.hid (show X = 13 from by rw [HX0.out, if_pos rfl])
      have hr := H3.out.below HB5.out
      have HE := Lib.hid (below_grown (bt HB5.out HB3.out) (grown3 w5 R (.int .i64 F.dir) (.string (bA F.name)) (.int .i64 F.node)) HLR.out)
      obtain ⟨r0, r1, r2⟩ := hr.c3
      obtain ⟨f0, f1, f2⟩ := hr.f3
      obtain ⟨s0, s1, s2⟩ := hr.s3
      obtain ⟨b0, b1, b2⟩ := (H4.out.below J5.out).c3
      clear hr
      go_wp2
      exact bodyPost_ret (v := .tuple #[.agg #[.int .i64 F.dir, .string (bA F.name), .int .i64 F.node], .int .i64 13]) (by simp [results, Tryz.results40, go_sem, s0, s1, s2]) rfl ⟨by rw [HX.out], HE.out⟩
    | true =>
    obtain ⟨b0, b1, b2⟩ := (H4.out.below J5.out).c3
    go_wp2_with fail
    refine (HSK.out w5 J5.out).mono ?_
    rintro e w6 ⟨rfl, hb6⟩
    have J6 := Lib.hid (bt hb6 J5.out)
    have HB6 := Lib.hid (bt hb6 HB5.out)
    clear hb6 t0 k0' k1 k2 b0 b1 b2
    cases K with
    | false =>
      have HX := Lib.hid (show X = 1 from by rw [HX0.out, if_neg (by decide), if_pos rfl])
      have hr := H3.out.below HB6.out
      have HE := Lib.hid (below_grown (bt HB6.out HB3.out) (grown3 w6 R (.int .i64 F.dir) (.string (bA F.name)) (.int .i64 F.node)) HLR.out)
      obtain ⟨r0, r1, r2⟩ := hr.c3
      obtain ⟨f0, f1, f2⟩ := hr.f3
      obtain ⟨s0, s1, s2⟩ := hr.s3
      obtain ⟨b0, b1, b2⟩ := (H4.out.below J6.out).c3
      clear hr
      go_wp2
      exact bodyPost_ret (v := .tuple #[.agg #[.int .i64 F.dir, .string (bA F.name), .int .i64 F.node], .int .i64 1]) (by simp [results, Tryz.results40, go_sem, s0, s1, s2]) rfl ⟨by rw [HX.out], HE.out⟩
    | true =>
      have HX := Lib.hid (show X = 0 from by rw [HX0.out, if_neg (by decide), if_neg (by decide)])
      have hr := H3.out.below HB6.out
      have HE := Lib.hid (below_grown (bt HB6.out HB3.out) (grown3 w6 R (.int .i64 F.dir) (.string (bA F.name)) (.int .i64 F.node)) HLR.out)
      obtain ⟨r0, r1, r2⟩ := hr.c3
      obtain ⟨f0, f1, f2⟩ := hr.f3
      obtain ⟨s0, s1, s2⟩ := hr.s3
      obtain ⟨b0, b1, b2⟩ := (H4.out.below J6.out).c3
      clear hr
      go_wp2
      exact bodyPost_ret (v := .tuple #[.agg #[.int .i64 F.dir, .string (bA F.name), .int .i64 F.node], .int .i64 0]) (by simp [results, Tryz.results40, go_sem, s0, s1, s2]) rfl ⟨by rw [HX.out], HE.out⟩
  · have y0 : (E != 0) = true := by simpa using q0
    rw [if_pos q0] at hx
    have HX := Lib.hid hx
    clear hx q0
    have hr := H3.out.below HB4.out
    have HE := Lib.hid (below_grown (bt HB4.out HB3.out) (grown3 W4 R (.int .i64 F.dir) (.string (bA F.name)) (.int .i64 F.node)) HLR.out)
    obtain ⟨r0, r1, r2⟩ := hr.c3
    obtain ⟨f0, f1, f2⟩ := hr.f3
    obtain ⟨s0, s1, s2⟩ := hr.s3
    obtain ⟨b0, b1, b2⟩ := (H4.out.below hJ).c3
    clear hr
    go_wp2
    exact bodyPost_ret (v := .tuple #[.agg #[.int .i64 F.dir, .string (bA F.name), .int .i64 F.node], .int .i64 E]) (by simp [results, Tryz.results40, go_sem, s0, s1, s2]) rfl ⟨by rw [HX.out], HE.out⟩
end Go.Proofs.YtiimdmbalnhmmaaGreat
