/-
  The reference's Has, Right, written and ReadAt of stage 16. The conditions are said at each.
-/
import Derived.Test.YtfopnfgfoicidaaGreatRG
import Derived.Test.YtfopnfgfoicidaaGreatCD
import Derived.Test.YtfopnfgfoicidaaGreatFiM
import Derived.Deep.RegionWith
import Derived.Deep.DeepCutAuto
import Derived.Deep.RegionHeld3
namespace Go.Proofs.YtfopnfgfoicidaaGreat
open Go Go.RowKit
set_option maxRecDepth 100000

attribute [local go_sem] cell_off4 cell_blk4
theorem rhas_any (n i : Nat) (w : World) (hn : n ≤ 1000000) (hi : i ≤ 100) : Calls Tryz.prog 27 #[.int .i64 (n : Int), .int .i64 (i : Int)] w fun e w' => e = .returned (.bool (n.testBit i)) ∧ w = w' := by
  have HB := Lib.hid (rbit_any n i w hn hi)
  clear hn hi
  go_enter Tryz.func27, Tryz.ntmps27
  go_wp2_with fail
  refine HB.out.mono ?_
  rintro e w1 ⟨rfl, rfl⟩
  go_wp2
  go_ret
  exact ⟨rfl, rfl⟩
theorem flb_nat (n i : Nat) : flB (n : Int) i = n.testBit i := rfl
set_option maxHeartbeats 4000000 in
theorem rfright_any (fl : Int) (w : World) : Calls Tryz.prog 26 #[.int .i64 fl] w fun e w' => e = .returned (.bool (flR fl)) ∧ w = w' := by
  by_cases q0 : fl < 0
  · have HX := Lib.hid (show flR fl = false from by unfold flR; rw [decide_eq_false (by omega)]; rfl)
    go_enter Tryz.func26, Tryz.ntmps26
    go_wp2
    go_ret
    exact ⟨ret_bool HX.out.symm, rfl⟩
  by_cases q1 : fl > 63
  · have HX := Lib.hid (show flR fl = false from by unfold flR; rw [decide_eq_false (by omega)]; rfl)
    go_enter Tryz.func26, Tryz.ntmps26
    go_wp2
    go_ret
    exact ⟨ret_bool HX.out.symm, rfl⟩
  obtain ⟨n, rfl⟩ : ∃ n : Nat, fl = (n : Int) := ⟨fl.toNat, by omega⟩
  have hx : flR (n : Int) = ((n.testBit 0 || n.testBit 1) && ((!n.testBit 4 || n.testBit 1) && (!n.testBit 3 || n.testBit 2))) := by
    unfold flR
    rw [decide_eq_true (by omega)]
    rfl
  have HH := Lib.hid (fun (i : Nat) (hi : i ≤ 100) => rhas_any n i w (by omega) hi)
  have H0 := Lib.hid (show Calls Tryz.prog 27 #[.int .i64 (n : Int), .int .i64 0] w fun e w' => e = .returned (.bool (n.testBit 0)) ∧ w = w' from HH.out 0 (by decide))
  have H1 := Lib.hid (show Calls Tryz.prog 27 #[.int .i64 (n : Int), .int .i64 1] w fun e w' => e = .returned (.bool (n.testBit 1)) ∧ w = w' from HH.out 1 (by decide))
  have H2 := Lib.hid (show Calls Tryz.prog 27 #[.int .i64 (n : Int), .int .i64 2] w fun e w' => e = .returned (.bool (n.testBit 2)) ∧ w = w' from HH.out 2 (by decide))
  have H3 := Lib.hid (show Calls Tryz.prog 27 #[.int .i64 (n : Int), .int .i64 3] w fun e w' => e = .returned (.bool (n.testBit 3)) ∧ w = w' from HH.out 3 (by decide))
  have H4 := Lib.hid (show Calls Tryz.prog 27 #[.int .i64 (n : Int), .int .i64 4] w fun e w' => e = .returned (.bool (n.testBit 4)) ∧ w = w' from HH.out 4 (by decide))
  have HX := Lib.hid hx
  clear hx HH
  generalize n.testBit 0 = b0 at H0 HX
  generalize n.testBit 1 = b1 at H1 HX
  generalize n.testBit 2 = b2 at H2 HX
  generalize n.testBit 3 = b3 at H3 HX
  generalize n.testBit 4 = b4 at H4 HX
  go_enter Tryz.func26, Tryz.ntmps26
  go_wp2_with fail
  refine H0.out.mono ?_
  rintro e w1 ⟨rfl, rfl⟩
  cases b0 with
  | true =>
    go_wp2_with fail
    refine H4.out.mono ?_
    rintro e w2 ⟨rfl, rfl⟩
    cases b4 with
    | true =>
      go_wp2_with fail
      refine H1.out.mono ?_
      rintro e w3 ⟨rfl, rfl⟩
      cases b1 with
      | true =>
        go_wp2_with fail
        refine H3.out.mono ?_
        rintro e w4 ⟨rfl, rfl⟩
        cases b3 with
        | true =>
          go_wp2_with fail
          refine H2.out.mono ?_
          rintro e w5 ⟨rfl, rfl⟩
          cases b2 with
          | true =>
            go_wp2
            go_ret
            exact ⟨ret_bool (by rw [HX.out]; first | rfl | simp), rfl⟩
          | false =>
            go_wp2
            go_ret
            exact ⟨ret_bool (by rw [HX.out]; first | rfl | simp), rfl⟩
        | false =>
          go_wp2
          go_ret
          exact ⟨ret_bool (by rw [HX.out]; first | rfl | simp), rfl⟩
      | false =>
        go_wp2
        go_ret
        exact ⟨ret_bool (by rw [HX.out]; first | rfl | simp), rfl⟩
    | false =>
      go_wp2_with fail
      refine H3.out.mono ?_
      rintro e w6 ⟨rfl, rfl⟩
      cases b3 with
      | true =>
        go_wp2_with fail
        refine H2.out.mono ?_
        rintro e w7 ⟨rfl, rfl⟩
        cases b2 with
        | true =>
          go_wp2
          go_ret
          exact ⟨ret_bool (by rw [HX.out]; first | rfl | simp), rfl⟩
        | false =>
          go_wp2
          go_ret
          exact ⟨ret_bool (by rw [HX.out]; first | rfl | simp), rfl⟩
      | false =>
        go_wp2
        go_ret
        exact ⟨ret_bool (by rw [HX.out]; first | rfl | simp), rfl⟩
  | false =>
    go_wp2_with fail
    refine H1.out.mono ?_
    rintro e w8 ⟨rfl, rfl⟩
    cases b1 with
    | true =>
      go_wp2_with fail
      refine H4.out.mono ?_
      rintro e w9 ⟨rfl, rfl⟩
      cases b4 with
      | true =>
        go_wp2_with fail
        refine H1.out.mono ?_
        rintro e w10 ⟨rfl, rfl⟩
        go_wp2_with fail
        refine H3.out.mono ?_
        rintro e w11 ⟨rfl, rfl⟩
        cases b3 with
        | true =>
          go_wp2_with fail
          refine H2.out.mono ?_
          rintro e w12 ⟨rfl, rfl⟩
          cases b2 with
          | true =>
            go_wp2
            go_ret
            exact ⟨ret_bool (by rw [HX.out]; first | rfl | simp), rfl⟩
          | false =>
            go_wp2
            go_ret
            exact ⟨ret_bool (by rw [HX.out]; first | rfl | simp), rfl⟩
        | false =>
          go_wp2
          go_ret
          exact ⟨ret_bool (by rw [HX.out]; first | rfl | simp), rfl⟩
      | false =>
        go_wp2_with fail
        refine H3.out.mono ?_
        rintro e w13 ⟨rfl, rfl⟩
        cases b3 with
        | true =>
          go_wp2_with fail
          refine H2.out.mono ?_
          rintro e w14 ⟨rfl, rfl⟩
          cases b2 with
          | true =>
            go_wp2
            go_ret
            exact ⟨ret_bool (by rw [HX.out]; first | rfl | simp), rfl⟩
          | false =>
            go_wp2
            go_ret
            exact ⟨ret_bool (by rw [HX.out]; first | rfl | simp), rfl⟩
        | false =>
          go_wp2
          go_ret
          exact ⟨ret_bool (by rw [HX.out]; first | rfl | simp), rfl⟩
    | false =>
      go_wp2
      go_ret
      exact ⟨ret_bool (by rw [HX.out]; first | rfl | simp), rfl⟩
set_option maxHeartbeats 8000000 in
theorem rfwrt_any (c : Wh) (A0 : Option Addr) (m0 k0 : Nat) (n : Nd) (A1 A2 : Option Addr) (n1 k1 n2 k2 : Nat) (b : List UInt8) (w : World) :
    Calls Tryz.prog 33 #[.agg #[.int .i64 c.u, .int .i64 c.g, .slice A0 m0 k0], .agg #[.int .i64 n.kind, .int .i64 n.mode, .int .i64 n.uid, .int .i64 n.gid, .string (bA n.data), .slice A1 n1 k1, .slice A2 n2 k2, .string (bA n.target)], .string (bA b)] w fun e w' => e = .returned (.agg (rfC (wrN c n b) (.slice A1 n1 k1) (.slice A2 n2 k2))) ∧ Below w.heap.size w w' := by
  have hb1 := ba w (.cells #[.int .i64 c.u, .int .i64 c.g, .slice A0 m0 k0] 37)
  have h11 := Blk.new w 37 #[.int .i64 c.u, .int .i64 c.g, .slice A0 m0 k0]
  obtain ⟨W1, hW1⟩ : ∃ W, w.alloc (.cells #[.int .i64 c.u, .int .i64 c.g, .slice A0 m0 k0] 37) = W := ⟨_, rfl⟩
  rw [hW1] at hb1 h11
  have hb2 := al hb1 (.cells #[.int .i64 n.kind, .int .i64 n.mode, .int .i64 n.uid, .int .i64 n.gid, .string (bA n.data), .slice A1 n1 k1, .slice A2 n2 k2, .string (bA n.target)] 82)
  have h12 := h11.alloc (.cells #[.int .i64 n.kind, .int .i64 n.mode, .int .i64 n.uid, .int .i64 n.gid, .string (bA n.data), .slice A1 n1 k1, .slice A2 n2 k2, .string (bA n.target)] 82)
  have h22 := Blk.new W1 82 #[.int .i64 n.kind, .int .i64 n.mode, .int .i64 n.uid, .int .i64 n.gid, .string (bA n.data), .slice A1 n1 k1, .slice A2 n2 k2, .string (bA n.target)]
  have ne12 : w.heap.size ≠ W1.heap.size := Nat.ne_of_lt h11.lt
  obtain ⟨W2, hW2⟩ : ∃ W, W1.alloc (.cells #[.int .i64 n.kind, .int .i64 n.mode, .int .i64 n.uid, .int .i64 n.gid, .string (bA n.data), .slice A1 n1 k1, .slice A2 n2 k2, .string (bA n.target)] 82) = W := ⟨_, rfl⟩
  rw [hW2] at hb2 h12 h22
  have hb3 := al hb2 (.cells rfZ 82)
  have h13 := h12.alloc (.cells rfZ 82)
  have h23 := h22.alloc (.cells rfZ 82)
  have h33 := Blk.new W2 82 rfZ
  have ne13 : w.heap.size ≠ W2.heap.size := Nat.ne_of_lt h12.lt
  have ne23 : W1.heap.size ≠ W2.heap.size := Nat.ne_of_lt h22.lt
  obtain ⟨W3, hW3⟩ : ∃ W, W2.alloc (.cells rfZ 82) = W := ⟨_, rfl⟩
  rw [hW3] at hb3 h13 h23 h33
  have lo2 : w.heap.size ≤ W1.heap.size := hb1.size
  obtain ⟨z2, hz2⟩ : ∃ z, W1.heap.size = z := ⟨_, rfl⟩
  rw [hz2] at h23 lo2 ne12 ne23
  have lo3 : w.heap.size ≤ W2.heap.size := hb2.size
  obtain ⟨z3, hz3⟩ : ∃ z, W2.heap.size = z := ⟨_, rfl⟩
  rw [hz3] at h33 lo3 ne13 ne23
  have hg3 := grown_setCell W3 ⟨z2, 4, none⟩ (.string (bA b))
  have hb4 := below_grown hb3 hg3 lo2
  have h14 := h13.kept hg3 (some_ne ne12)
  have h24 : Blk (W3.setCell ⟨z2, 4, none⟩ (.string (bA b))) z2 82 #[.int .i64 n.kind, .int .i64 n.mode, .int .i64 n.uid, .int .i64 n.gid, .string (bA b), .slice A1 n1 k1, .slice A2 n2 k2, .string (bA n.target)] := h23.set_ 4 _
  have h34 := h33.kept hg3 (some_ne (fun q => ne23 q.symm))
  obtain ⟨p0, p1, p2, p3, p4, p5, p6, p7⟩ := h23.c8
  obtain ⟨f0, f1, f2, f3, f4, f5, f6, f7⟩ := h23.f8
  obtain ⟨W4, hW4⟩ : ∃ W, W3.setCell ⟨z2, 4, none⟩ (.string (bA b)) = W := ⟨_, rfl⟩
  rw [hW4] at hb4 h14 h24 h34
  obtain ⟨c0, c1, c2⟩ := h14.c3
  obtain ⟨q0, q1, q2, q3, q4, q5, q6, q7⟩ := h24.c8
  have HC := Lib.hid (rwritten_any c.u c.g A0 m0 k0 n.kind n.mode W4)
  obtain ⟨M, hM⟩ : ∃ M, writM c.u n.kind n.mode = M := ⟨_, rfl⟩
  have HM := Lib.hid hM
  rw [hM] at HC
  have HB4 := Lib.hid hb4
  have H2 := Lib.hid h24
  have H3 := Lib.hid h34
  have HL2 := Lib.hid lo2
  have HL3 := Lib.hid lo3
  have HN := Lib.hid ne23
  clear hM hg3 hb4 h14 h24 h34 hb1 hb2 hb3 h11 h12 h22 h13 h23 h33 lo2 lo3 ne12 ne13 ne23
  unfold rfZ at hW3
  go_enter Tryz.func33, Tryz.ntmps33
  go_wp2_with fail
  clear hW1 hW2 hz2 hW3 hz3 hW4
  refine HC.out.mono ?_
  rintro e w5 ⟨rfl, hb5⟩
  have h2 := H2.out.below hb5
  have hg := grown_setCell w5 ⟨z2, 1, none⟩ (.int .i64 M)
  have h2' : Blk (w5.setCell ⟨z2, 1, none⟩ (.int .i64 M)) z2 82 #[.int .i64 n.kind, .int .i64 M, .int .i64 n.uid, .int .i64 n.gid, .string (bA b), .slice A1 n1 k1, .slice A2 n2 k2, .string (bA n.target)] := h2.set_ 1 _
  have h3' := (H3.out.below hb5).kept hg (some_ne (fun q => HN.out q.symm))
  have hb6 := below_grown (bt hb5 HB4.out) hg HL2.out
  clear p0 p1 p2 p3 p4 p5 p6 p7 f0 f1 f2 f3 f4 f5 f6 f7 q0 q1 q2 q3 q4 q5 q6 q7 c0 c1 c2
  obtain ⟨p0, p1, p2, p3, p4, p5, p6, p7⟩ := h2.c8
  obtain ⟨f0, f1, f2, f3, f4, f5, f6, f7⟩ := h2.f8
  obtain ⟨W6, hW6⟩ : ∃ W, w5.setCell ⟨z2, 1, none⟩ (.int .i64 M) = W := ⟨_, rfl⟩
  rw [hW6] at h2' h3' hb6
  obtain ⟨q0, q1, q2, q3, q4, q5, q6, q7⟩ := h2'.c8
  obtain ⟨r0, r1, r2, r3, r4, r5, r6, r7⟩ := h3'.c8
  obtain ⟨x0, x1, x2, x3, x4, x5, x6, x7⟩ := h3'.f8
  obtain ⟨s0, s1, s2, s3, s4, s5, s6, s7⟩ := h3'.s8
  have HE := Lib.hid (below_grown hb6 (grown8 W6 z3 (.int .i64 n.kind) (.int .i64 M) (.int .i64 n.uid) (.int .i64 n.gid) (.string (bA b)) (.slice A1 n1 k1) (.slice A2 n2 k2) (.string (bA n.target))) HL3.out)
  clear hb5 h2 hg h2' h3' hb6
  go_wp2
  exact bodyPost_ret (v := .agg #[.int .i64 n.kind, .int .i64 M, .int .i64 n.uid, .int .i64 n.gid, .string (bA b), .slice A1 n1 k1, .slice A2 n2 k2, .string (bA n.target)]) (by simp [results, Tryz.results33, go_sem, s0, s1, s2, s3, s4, s5, s6, s7]) rfl ⟨by rw [← HM.out]; rfl, HE.out⟩
end Go.Proofs.YtfopnfgfoicidaaGreat
