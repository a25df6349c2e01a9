/-
  The reference's may: why an entry may not be moved. The conditions are said at each.
-/
import Derived.Test.YtiimdmbalnhmmaaGreatRPc
import Derived.Test.YtiimdmbalnhmmaaGreatLR
namespace Go.Proofs.YtiimdmbalnhmmaaGreat
open Go Go.RowKit
set_option maxRecDepth 100000

attribute [local go_sem] cell_off4 cell_blk4 kind_ofr names_ofr
set_option maxHeartbeats 16000000 in
theorem rmay_any {P : Nat → Prop} (v : Value) (t : List Nd) (c : Wh) (A0 : Option Addr) (m0 k0 : Nat) (i d : Int) (G : Fo) (w : World) (h : NsR P w v t) (hl : t.length ≤ 24) (ho : okT t) (hc : CrR w c A0 m0 k0) :
    Calls Tryz.prog 54 #[.agg #[v], .agg #[.int .i64 c.u, .int .i64 c.g, .slice A0 m0 k0], .int .i64 i, .int .i64 d, .agg #[.int .i64 G.dir, .string (bA G.name), .int .i64 G.node]] w fun e w' => e = .returned (.int .i64 (mvY t c i d G)) ∧ Below w.heap.size w w' := by
  obtain ⟨g, cc, rfl⟩ := ns_form h
  obtain ⟨X, hXX⟩ : ∃ X, mvY t c i d G = X := ⟨_, rfl⟩
  rw [hXX]
  have hb1 := ba w (.cells #[.slice (some ⟨g, 0, none⟩) t.length cc] 35)
  have h11 := Blk.new w 35 #[.slice (some ⟨g, 0, none⟩) t.length cc]
  obtain ⟨W1, hW1⟩ : ∃ W, w.alloc (.cells #[.slice (some ⟨g, 0, none⟩) t.length cc] 35) = W := ⟨_, rfl⟩
  rw [hW1] at hb1 h11
  have hb2 := al hb1 (.cells #[.int .i64 c.u, .int .i64 c.g, .slice A0 m0 k0] 40)
  have h12 := h11.alloc (.cells #[.int .i64 c.u, .int .i64 c.g, .slice A0 m0 k0] 40)
  have h22 := Blk.new W1 40 #[.int .i64 c.u, .int .i64 c.g, .slice A0 m0 k0]
  obtain ⟨W2, hW2⟩ : ∃ W, W1.alloc (.cells #[.int .i64 c.u, .int .i64 c.g, .slice A0 m0 k0] 40) = W := ⟨_, rfl⟩
  rw [hW2] at hb2 h12 h22
  have hb3 := al hb2 (.cells #[.int .i64 G.dir, .string (bA G.name), .int .i64 G.node] 90)
  have h13 := h12.alloc (.cells #[.int .i64 G.dir, .string (bA G.name), .int .i64 G.node] 90)
  have h23 := h22.alloc (.cells #[.int .i64 G.dir, .string (bA G.name), .int .i64 G.node] 90)
  have h33 := Blk.new W2 90 #[.int .i64 G.dir, .string (bA G.name), .int .i64 G.node]
  obtain ⟨W3, hW3⟩ : ∃ W, W2.alloc (.cells #[.int .i64 G.dir, .string (bA G.name), .int .i64 G.node] 90) = W := ⟨_, rfl⟩
  rw [hW3] at hb3 h13 h23 h33
  obtain ⟨z2, hz2⟩ : ∃ z, W1.heap.size = z := ⟨_, rfl⟩
  obtain ⟨z3, hz3⟩ : ∃ z, W2.heap.size = z := ⟨_, rfl⟩
  rw [hz2] at h23
  rw [hz3] at h33
  have HB3 := Lib.hid hb3
  have H1 := Lib.hid h13
  have H2 := Lib.hid h23
  have H3 := Lib.hid h33
  have HN := Lib.hid (h.below hb3)
  have HC := Lib.hid (hc.below hb3)
  have HCN := Lib.hid (fun (W : World) (hb : Below W3.heap.size W3 W) => rrcan_any _ t c A0 m0 k0 G.dir 3 W (HN.out.below hb) hl (HC.out.below hb))
  have HSK := Lib.hid (fun (W : World) (hb : Below W3.heap.size W3 W) => rstk_any _ t c A0 m0 k0 G W (HN.out.below hb) hl)
  have HBW := Lib.hid (fun (W : World) (hb : Below W3.heap.size W3 W) => rblw_any _ t G.dir i W (HN.out.below hb) hl ho)
  have HGT := Lib.hid (fun (W : World) (hb : Below W3.heap.size W3 W) (j : Int) => rget_rf _ t j W (HN.out.below hb) hl)
  have HGI := Lib.hid (fun (W : World) (hb : Below W3.heap.size W3 W) => HGT.out W hb i)
  have HGM := Lib.hid (fun (W : World) (hb : Below W3.heap.size W3 W) => HGT.out W hb G.node)
  have HGD := Lib.hid (fun (W : World) (hb : Below W3.heap.size W3 W) => HGT.out W hb G.dir)
  have hx : X = if G.name = [] then 22 else if canT t c G.dir 3 = false then 13 else if G.node = i then 0 else if (tget t i).kind = 2 ∧ blwB t G.dir i = true then 22
    else if G.node = 0 then (if G.dir ≠ d ∧ 8 ≤ (tget t G.dir).ents.length then 28 else 0)
    else if stkB t c G = false then 1 else if (tget t i).kind = 2 ∧ (tget t G.node).kind ≠ 2 then 20 else if (tget t i).kind ≠ 2 ∧ (tget t G.node).kind = 2 then 21
    else if (tget t G.node).ents ≠ [] then 39 else 0 := hXX.symm
  have t0 := h13.cell 0
  simp at t0
  obtain ⟨k0', k1', k2'⟩ := h23.c3
  obtain ⟨b0, b1, b2⟩ := h33.c3
  obtain ⟨C, hC⟩ : ∃ C, canT t c G.dir 3 = C := ⟨_, rfl⟩
  obtain ⟨K, hK⟩ : ∃ K, stkB t c G = K := ⟨_, rfl⟩
  obtain ⟨B, hB⟩ : ∃ B, blwB t G.dir i = B := ⟨_, rfl⟩
  obtain ⟨n, hn⟩ : ∃ n, tget t i = n := ⟨_, rfl⟩
  obtain ⟨m, hm⟩ : ∃ m, tget t G.node = m := ⟨_, rfl⟩
  obtain ⟨e, he⟩ : ∃ e, tget t G.dir = e := ⟨_, rfl⟩
  rw [hC] at HCN hx
  rw [hK] at HSK hx
  rw [hB] at HBW hx
  rw [hn] at HGI hx
  rw [hm] at HGM hx
  rw [he] at HGD hx
  clear h hb1 hb2 hb3 h11 h12 h13 h22 h23 h33 hXX ho hl hc hC hK hB hn hm he HGT
  by_cases q1 : G.name = []
  · have y1 : ((bA G.name).toList == ([] : List UInt8)) = true := (len0_iff G.name).2 q1
    rw [if_pos q1] at hx
    have HX := Lib.hid hx
    clear hx q1
    go_enter Tryz.func54, Tryz.ntmps54
    go_wp2
    go_ret
    exact ⟨by rw [HX.out]; rfl, HB3.out⟩
  have y1 : ((bA G.name).toList == ([] : List UInt8)) = false := ne_nil_of G.name q1
  rw [if_neg q1] at hx
  have HX0 := Lib.hid hx
  clear hx q1
  go_enter Tryz.func54, Tryz.ntmps54
  go_wp2_with fail
  clear hW1 hW2 hW3 hz2 hz3
  refine (HCN.out W3 (Below.refl _ _)).mono ?_
  rintro e w4 ⟨rfl, hb4⟩
  have J4 := Lib.hid hb4
  clear hb4 t0 k0' k1' k2' b0 b1 b2
  cases C with
  | false =>
    have HX := Lib.hid (show X = 13 from by rw [HX0.out, if_pos rfl])
    go_wp2
    go_ret
    exact ⟨by rw [HX.out]; rfl, bt J4.out HB3.out⟩
  | true =>
  have hx := HX0.out
  rw [if_neg (by decide)] at hx
  have t0 := (H1.out.below J4.out).cell 0
  simp at t0
  obtain ⟨k0', k1', k2'⟩ := (H2.out.below J4.out).c3
  obtain ⟨b0, b1, b2⟩ := (H3.out.below J4.out).c3
  by_cases q2 : G.node = i
  · have y2 : (G.node == i) = true := by simpa using q2
    rw [if_pos q2] at hx
    have HX := Lib.hid hx
    clear hx q2
    go_wp2
    go_ret
    exact ⟨by rw [HX.out]; rfl, bt J4.out HB3.out⟩
  have y2 : (G.node == i) = false := by simpa using q2
  rw [if_neg q2] at hx
  have HX1 := Lib.hid hx
  clear hx q2 HX0
  go_wp2_with fail
  refine (HGI.out w4 J4.out).mono ?_
  rintro e w5 ⟨vn, vk, rfl, hN, hI, hb5⟩
  obtain ⟨A5, k5, rfl⟩ := strs_form hN (nm_len _)
  obtain ⟨A6, k6, rfl⟩ := ints_form hI (idE_len _)
  have hbx := al hb5 (.cells #[.int .i64 n.kind, .int .i64 n.mode, .int .i64 n.uid, .int .i64 n.gid, .string (bA n.data), .slice A5 n.ents.length k5, .slice A6 n.ents.length k6, .string (bA n.target)] 87)
  have hkn := Blk.new w5 87 #[.int .i64 n.kind, .int .i64 n.mode, .int .i64 n.uid, .int .i64 n.gid, .string (bA n.data), .slice A5 n.ents.length k5, .slice A6 n.ents.length k6, .string (bA n.target)]
  obtain ⟨W5, hW5⟩ : ∃ W, w5.alloc (.cells #[.int .i64 n.kind, .int .i64 n.mode, .int .i64 n.uid, .int .i64 n.gid, .string (bA n.data), .slice A5 n.ents.length k5, .slice A6 n.ents.length k6, .string (bA n.target)] 87) = W := ⟨_, rfl⟩
  obtain ⟨zn, hzn⟩ : ∃ z, w5.heap.size = z := ⟨_, rfl⟩
  rw [hW5] at hbx hkn
  rw [hzn] at hkn
  have J5 := Lib.hid (bt hbx J4.out)
  have HKN := Lib.hid hkn
  clear hN hI hb5 hbx hkn t0 k0' k1' k2' b0 b1 b2 HGI
  have t0 := (H1.out.below J5.out).cell 0
  simp at t0
  obtain ⟨k0', k1', k2'⟩ := (H2.out.below J5.out).c3
  obtain ⟨b0, b1, b2⟩ := (H3.out.below J5.out).c3
  have p0 := HKN.out.cell 0
  simp at p0
  -- below?
  go_upto_region 9 with fail
  clear hW5 hzn
  go_cut [41] (fun s wx => s = .bool (decide (n.kind = 2 ∧ B = true)) ∧ Below W5.heap.size W5 wx)
  case first =>
    by_cases q3 : n.kind = 2
    · have y3 : (n.kind == 2) = true := by simpa using q3
      have HD := Lib.hid (show decide (n.kind = 2 ∧ B = true) = B from by cases B <;> simp [q3])
      clear q3
      go_wp2_with fail
      refine (HBW.out W5 J5.out).mono ?_
      rintro e w6 ⟨rfl, hb6⟩
      have J6 := Lib.hid hb6
      clear hb6
      go_wp2
      go_meet
      exact ⟨by rw [HD.out], J6.out⟩
    · have y3 : (n.kind == 2) = false := by simpa using q3
      have HD := Lib.hid (show decide (n.kind = 2 ∧ B = true) = false from by simp [q3])
      have J6 := Lib.hid (Below.refl W5.heap.size W5)
      clear q3
      go_wp2
      go_meet
      exact ⟨by rw [HD.out], J6.out⟩
  case rest =>
  obtain ⟨rfl, hb6⟩ := hcut
  obtain ⟨w6, hw6⟩ : ∃ W, wc = W := ⟨_, rfl⟩
  rw [hw6] at hb6 ⊢
  have J6 := Lib.hid (bt hb6 J5.out)
  have HKN6 := Lib.hid (HKN.out.below hb6)
  clear hb6 hw6 t0 k0' k1' k2' b0 b1 b2 p0 HKN HBW
  have t0 := (H1.out.below J6.out).cell 0
  simp at t0
  obtain ⟨k0', k1', k2'⟩ := (H2.out.below J6.out).c3
  obtain ⟨b0, b1, b2⟩ := (H3.out.below J6.out).c3
  have p0 := HKN6.out.cell 0
  simp at p0
  by_cases q3 : n.kind = 2 ∧ B = true
  · have y3 : decide (n.kind = 2 ∧ B = true) = true := decide_eq_true q3
    have hx := HX1.out
    rw [if_pos q3] at hx
    have HX := Lib.hid hx
    rw [y3]
    clear hx q3 y3
    go_wp2
    go_ret
    exact ⟨by rw [HX.out]; rfl, bt J6.out HB3.out⟩
  have y3 : decide (n.kind = 2 ∧ B = true) = false := decide_eq_false q3
  have hx := HX1.out
  rw [if_neg q3] at hx
  rw [y3]
  clear q3 y3 HX1
  by_cases q4 : G.node = 0
  · have y4 : (G.node == 0) = true := by simpa using q4
    rw [if_pos q4] at hx
    clear q4
    by_cases q5 : G.dir = d
    · have y5 : (G.dir != d) = false := by simp [q5]
      rw [if_neg (fun z => z.1 q5)] at hx
      have HX := Lib.hid hx
      clear hx q5
      go_wp2
      go_ret
      exact ⟨by rw [HX.out]; rfl, bt J6.out HB3.out⟩
    have y5 : (G.dir != d) = true := by simpa using q5
    by_cases q6 : 8 ≤ e.ents.length
    · have y6 : (e.ents.length : Int) ≥ 8 := by omega
      rw [if_pos ⟨q5, q6⟩] at hx
      have HX := Lib.hid hx
      clear hx q5 q6
      go_wp2_with fail
      refine (HGD.out w6 J6.out).mono ?_
      rintro e' w7 ⟨vn, vk, rfl, hN, hI, hb7⟩
      obtain ⟨A7, k7, rfl⟩ := strs_form hN (nm_len _)
      obtain ⟨A8, k8, rfl⟩ := ints_form hI (idE_len _)
      have J7 := Lib.hid (bt hb7 J6.out)
      clear hN hI hb7
      go_wp2
      go_ret
      exact ⟨by rw [HX.out]; rfl, bt J7.out HB3.out⟩
    have y6 : ¬ (e.ents.length : Int) ≥ 8 := by omega
    rw [if_neg (fun z => q6 z.2)] at hx
    have HX := Lib.hid hx
    clear hx q5 q6
    go_wp2_with fail
    refine (HGD.out w6 J6.out).mono ?_
    rintro e' w7 ⟨vn, vk, rfl, hN, hI, hb7⟩
    obtain ⟨A7, k7, rfl⟩ := strs_form hN (nm_len _)
    obtain ⟨A8, k8, rfl⟩ := ints_form hI (idE_len _)
    have J7 := Lib.hid (bt hb7 J6.out)
    clear hN hI hb7
    go_wp2
    go_ret
    exact ⟨by rw [HX.out]; rfl, bt J7.out HB3.out⟩
  have y4 : (G.node == 0) = false := by simpa using q4
  rw [if_neg q4] at hx
  have HX2 := Lib.hid hx
  clear hx q4
  go_wp2_with fail
  refine (HSK.out w6 J6.out).mono ?_
  rintro e' w7 ⟨rfl, hb7⟩
  have J7 := Lib.hid (bt hb7 J6.out)
  have HKN7 := Lib.hid (HKN6.out.below hb7)
  clear hb7 t0 k0' k1' k2' b0 b1 b2 p0 HSK
  have t0 := (H1.out.below J7.out).cell 0
  simp at t0
  obtain ⟨k0', k1', k2'⟩ := (H2.out.below J7.out).c3
  obtain ⟨b0, b1, b2⟩ := (H3.out.below J7.out).c3
  go_wp2_with fail
  refine (HGM.out w7 J7.out).mono ?_
  rintro e' w8 ⟨vn, vk, rfl, hN, hI, hb8⟩
  obtain ⟨A7, k7, rfl⟩ := strs_form hN (nm_len _)
  obtain ⟨A8, k8, rfl⟩ := ints_form hI (idE_len _)
  have hbx := al hb8 (.cells #[.int .i64 m.kind, .int .i64 m.mode, .int .i64 m.uid, .int .i64 m.gid, .string (bA m.data), .slice A7 m.ents.length k7, .slice A8 m.ents.length k8, .string (bA m.target)] 87)
  have hkm := Blk.new w8 87 #[.int .i64 m.kind, .int .i64 m.mode, .int .i64 m.uid, .int .i64 m.gid, .string (bA m.data), .slice A7 m.ents.length k7, .slice A8 m.ents.length k8, .string (bA m.target)]
  obtain ⟨W8, hW8⟩ : ∃ W, w8.alloc (.cells #[.int .i64 m.kind, .int .i64 m.mode, .int .i64 m.uid, .int .i64 m.gid, .string (bA m.data), .slice A7 m.ents.length k7, .slice A8 m.ents.length k8, .string (bA m.target)] 87) = W := ⟨_, rfl⟩
  obtain ⟨zm, hzm⟩ : ∃ z, w8.heap.size = z := ⟨_, rfl⟩
  rw [hW8] at hbx hkm
  rw [hzm] at hkm
  have J8 := Lib.hid (bt hbx J7.out)
  have p0 := (HKN7.out.below hbx).cell 0
  simp at p0
  obtain ⟨r0, r1, r2, r3, r4, r5, -⟩ := hkm.c8
  clear hN hI hb8 hbx hkm t0 k0' k1' k2' b0 b1 b2 HGM HKN6 HKN7
  have hx := HX2.out
  cases K with
  | false =>
    have HX := Lib.hid (show X = 1 from by rw [hx, if_pos rfl])
    clear hx
    go_wp2
    go_ret
    exact ⟨by rw [HX.out]; rfl, bt J8.out HB3.out⟩
  | true =>
  rw [if_neg (by decide)] at hx
  by_cases q5 : n.kind = 2
  · have y5 : (n.kind == 2) = true := by simpa using q5
    have y6 : (n.kind != 2) = false := by simpa using q5
    by_cases q6 : m.kind = 2
    · have y7 : (m.kind != 2) = false := by simpa using q6
      rw [if_neg (fun z => z.2 q6), if_neg (fun z => z.1 q5)] at hx
      by_cases q7 : m.ents = []
      · have y8 : ¬ (m.ents.length : Int) > 0 := by rw [q7]; decide
        have HX := Lib.hid (show X = 0 from by rw [hx, if_neg (fun z => z q7)])
        clear hx q5 q6 q7
        go_wp2
        go_ret
        exact ⟨by rw [HX.out]; rfl, bt J8.out HB3.out⟩
      · have y8 : (m.ents.length : Int) > 0 := by have := List.length_pos_iff.2 q7; omega
        have HX := Lib.hid (show X = 39 from by rw [hx, if_pos q7])
        clear hx q5 q6 q7
        go_wp2
        go_ret
        exact ⟨by rw [HX.out]; rfl, bt J8.out HB3.out⟩
    · have y7 : (m.kind != 2) = true := by simpa using q6
      have HX := Lib.hid (show X = 20 from by rw [hx, if_pos ⟨q5, q6⟩])
      clear hx q5 q6
      go_wp2
      go_ret
      exact ⟨by rw [HX.out]; rfl, bt J8.out HB3.out⟩
  · have y5 : (n.kind == 2) = false := by simpa using q5
    have y6 : (n.kind != 2) = true := by simpa using q5
    rw [if_neg (fun z => q5 z.1)] at hx
    by_cases q6 : m.kind = 2
    · have y7 : (m.kind == 2) = true := by simpa using q6
      have HX := Lib.hid (show X = 21 from by rw [hx, if_pos ⟨q5, q6⟩])
      clear hx q5 q6
      go_wp2
      go_ret
      exact ⟨by rw [HX.out]; rfl, bt J8.out HB3.out⟩
    · have y7 : (m.kind == 2) = false := by simpa using q6
      rw [if_neg (fun z => q6 z.2)] at hx
      by_cases q7 : m.ents = []
      · have y8 : ¬ (m.ents.length : Int) > 0 := by rw [q7]; decide
        have HX := Lib.hid (show X = 0 from by rw [hx, if_neg (fun z => z q7)])
        clear hx q5 q6 q7
        go_wp2
        go_ret
        exact ⟨by rw [HX.out]; rfl, bt J8.out HB3.out⟩
      · have y8 : (m.ents.length : Int) > 0 := by have := List.length_pos_iff.2 q7; omega
        have HX := Lib.hid (show X = 39 from by rw [hx, if_pos q7])
        clear hx q5 q6 q7
        go_wp2
        go_ret
        exact ⟨by rw [HX.out]; rfl, bt J8.out HB3.out⟩
end Go.Proofs.YtiimdmbalnhmmaaGreat
