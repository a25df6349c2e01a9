/-
  What ofPath, Stat and Lstat of package look answer. The condition: no more groups than a million.
-/
import Derived.Test.YtilepnepcamnaaaGreatLkP
namespace Go.Proofs.YtilepnepcamnaaaGreat
open Go Go.RowKit
set_option maxRecDepth 100000

attribute [local go_sem] cell_off4 cell_blk4
attribute [local go_sem] eq_stat
set_option maxHeartbeats 8000000 in
theorem ofPath_any (v : Value) (t : List Nd) (c : Wh) (A0 : Option Addr) (m k : Nat) (p : Nm) (f : Bool) (w : World) (h : TabP w v t) (hc : CrR w c A0 m k) (X : Sta × Int) (hX : staM t c p f = X) :
    Calls Tryz.prog 35 #[v, .agg #[.int .i64 c.u, .int .i64 c.g, .slice A0 m k], .string (bA p), .bool f] w fun e w' => e = .returned (.tuple #[stV X.1, .int .i64 X.2]) ∧ Below w.heap.size w w' := by
  have hb1 := ba w (.cells #[.int .i64 c.u, .int .i64 c.g, .slice A0 m k] 25)
  have hk1 := Blk.new w 25 #[.int .i64 c.u, .int .i64 c.g, .slice A0 m k]
  obtain ⟨W1, hW1⟩ : ∃ W1, w.alloc (.cells #[.int .i64 c.u, .int .i64 c.g, .slice A0 m k] 25) = W1 := ⟨_, rfl⟩
  rw [hW1] at hb1 hk1
  have hb2 := al hb1 (.cells #[.int .i64 0, .int .i64 0, .int .i64 0, .int .i64 0, .int .i64 0, .int .i64 0, .int .i64 0] 35)
  have hk2 := hk1.below (ba W1 (.cells #[.int .i64 0, .int .i64 0, .int .i64 0, .int .i64 0, .int .i64 0, .int .i64 0, .int .i64 0] 35))
  have hr2 := Blk.new W1 35 #[.int .i64 0, .int .i64 0, .int .i64 0, .int .i64 0, .int .i64 0, .int .i64 0, .int .i64 0]
  obtain ⟨W2, hW2⟩ : ∃ W2, W1.alloc (.cells #[.int .i64 0, .int .i64 0, .int .i64 0, .int .i64 0, .int .i64 0, .int .i64 0, .int .i64 0] 35) = W2 := ⟨_, rfl⟩
  rw [hW2] at hb2 hk2 hr2
  obtain ⟨R, hR1⟩ : ∃ R, W1.heap.size = R := ⟨_, rfl⟩
  rw [hR1] at hr2
  have HRW := Lib.hid (show w.heap.size ≤ R by rw [← hR1]; exact hb1.size)
  obtain ⟨FE, hFE⟩ : ∃ FE, resM t c p f = FE := ⟨_, rfl⟩
  obtain ⟨F, E⟩ := FE
  have HRS := Lib.hid (resolve_any v t c A0 m k p f W2 (h.below hb2) (hc.below hb2) (F, E) hFE)
  have HT := Lib.hid (h.below hb2)
  have HB2 := Lib.hid hb2
  have HK2 := Lib.hid hk2
  have HR2 := Lib.hid hr2
  have HX := Lib.hid (show staF t (F, E) = X from by rw [← hFE]; exact hX)
  clear h hc hb1 hb2 hr2 hX hFE hk1
  obtain ⟨k0, k1, k2⟩ := hk2.c3
  clear hk2
  go_enter Tryz.func35, Tryz.ntmps35
  go_wp2_with fail
  clear hW1 hW2 hR1
  refine HRS.out.mono ?_
  rintro e w3 ⟨rfl, hb3⟩
  have hbx := al hb3 (.cells #[.int .i64 F.dir, .string (bA F.name), .int .i64 F.node] 105)
  have HB4 := Lib.hid (bt hbx HB2.out)
  have HT4 := Lib.hid (HT.out.below hbx)
  have hr4 := HR2.out.below hbx
  have hf4 := Blk.new w3 105 #[.int .i64 F.dir, .string (bA F.name), .int .i64 F.node]
  have hrl : R < w3.heap.size := (HR2.out.below hb3).lt
  obtain ⟨y, hy⟩ : ∃ y, w3.heap.size = y := ⟨_, rfl⟩
  obtain ⟨W4, hW4⟩ : ∃ W4, w3.alloc (.cells #[.int .i64 F.dir, .string (bA F.name), .int .i64 F.node] 105) = W4 := ⟨_, rfl⟩
  rw [hW4] at HB4 HT4 hr4 hf4
  rw [hy] at hf4 hrl
  have HR4 := Lib.hid hr4
  clear hb3 hbx k0 k1 k2 HRS HT HR2
  by_cases qE : E = 0
  · have qE1 : (E != 0) = false := by simpa using qE
    obtain ⟨b0, b1, b2⟩ := hf4.c3
    obtain ⟨q, hq⟩ : ∃ q, tis t F.node = q := ⟨_, rfl⟩
    obtain ⟨S, hS⟩ : ∃ S, staT t F.node = S := ⟨_, rfl⟩
    have HO := Lib.hid (of_any v t F.node W4 HT4.out)
    have HXX := Lib.hid (show X = if q = true then (S, 0) else (Sta.zero, 2) from by
      have h := HX.out
      unfold staF at h
      rw [if_neg (fun r => r qE), hq, hS] at h
      exact h.symm)
    have HKN := Lib.hid (fun (r : q = true) => show S.kind ≠ 0 from by rw [← hS, sta_kind (hq.trans r)]; exact tis_kind0 (hq.trans r))
    have HZN := Lib.hid (fun (r : q = false) => show S = Sta.zero from by rw [← hS, sta_not (hq.trans r)])
    rw [hS, hq] at HO
    clear qE hS hq hr4 hf4
    cases q with
    | true =>
      have ek : (S.kind == 0) = false := by simpa using HKN.out rfl
      have HZ := Lib.hid (show X = (S, 0) from by rw [HXX.out, if_pos rfl])
      unfold stV stC at HO
      go_wp2_with fail
      clear hW4 hy
      refine HO.out.mono ?_
      rintro e w5 ⟨rfl, hb5⟩
      have hbx := al hb5 (.cells #[.int .i64 S.node, .int .i64 S.kind, .int .i64 S.mode, .int .i64 S.uid, .int .i64 S.gid, .int .i64 S.links, .int .i64 S.size] 35)
      have HB6 := Lib.hid (bt hbx HB4.out)
      have hr6 := HR4.out.below hbx
      have hs6 := Blk.new w5 35 #[.int .i64 S.node, .int .i64 S.kind, .int .i64 S.mode, .int .i64 S.uid, .int .i64 S.gid, .int .i64 S.links, .int .i64 S.size]
      obtain ⟨z, hz⟩ : ∃ z, w5.heap.size = z := ⟨_, rfl⟩
      obtain ⟨W6, hW6⟩ : ∃ W6, w5.alloc (.cells #[.int .i64 S.node, .int .i64 S.kind, .int .i64 S.mode, .int .i64 S.uid, .int .i64 S.gid, .int .i64 S.links, .int .i64 S.size] 35) = W6 := ⟨_, rfl⟩
      rw [hW6] at HB6 hr6 hs6
      rw [hz] at hs6
      obtain ⟨p0, p1, p2, p3, p4, p5, p6⟩ := hs6.c7
      obtain ⟨x0, x1, x2, x3, x4, x5, x6⟩ := hr6.c7
      obtain ⟨q0, q1, q2, q3, q4, q5, q6⟩ := hr6.f7
      obtain ⟨s0, s1, s2, s3, s4, s5, s6⟩ := hr6.s7
      have HG := Lib.hid (grown7 W6 R (.int .i64 S.node) (.int .i64 S.kind) (.int .i64 S.mode) (.int .i64 S.uid) (.int .i64 S.gid) (.int .i64 S.links) (.int .i64 S.size))
      clear hb5 hbx hr6 hs6 b0 b1 b2
      go_wp2
      exact bodyPost_ret (v := .tuple #[.agg #[.int .i64 S.node, .int .i64 S.kind, .int .i64 S.mode, .int .i64 S.uid, .int .i64 S.gid, .int .i64 S.links, .int .i64 S.size], .int .i64 0]) (by simp [results, Tryz.results35, go_sem, s0, s1, s2, s3, s4, s5, s6]) rfl ⟨by rw [HZ.out]; rfl, below_grown HB6.out HG.out HRW.out⟩
    | false =>
      have HZ := Lib.hid (show X = (Sta.zero, 2) from by rw [HXX.out, if_neg (by decide)])
      rw [HZN.out rfl] at HO
      have HO0 := Lib.hid (show Calls Tryz.prog 11 #[v, .int .i64 F.node] W4 fun e w' => e = .returned (.tuple #[.agg #[.int .i64 0, .int .i64 0, .int .i64 0, .int .i64 0, .int .i64 0, .int .i64 0, .int .i64 0], .bool false]) ∧ Below W4.heap.size W4 w' from HO.out)
      clear HO
      have HO := HO0
      clear HO0
      go_wp2_with fail
      clear hW4 hy
      refine HO.out.mono ?_
      rintro e w5 ⟨rfl, hb5⟩
      have hbx := al hb5 (.cells #[.int .i64 0, .int .i64 0, .int .i64 0, .int .i64 0, .int .i64 0, .int .i64 0, .int .i64 0] 35)
      have HB6 := Lib.hid (bt hbx HB4.out)
      have hr6 := HR4.out.below hbx
      have hs6 := Blk.new w5 35 #[.int .i64 0, .int .i64 0, .int .i64 0, .int .i64 0, .int .i64 0, .int .i64 0, .int .i64 0]
      obtain ⟨p0, p1, p2, p3, p4, p5, p6⟩ := hs6.c7
      obtain ⟨x0, x1, x2, x3, x4, x5, x6⟩ := hr6.c7
      obtain ⟨q0, q1, q2, q3, q4, q5, q6⟩ := hr6.f7
      obtain ⟨s0, s1, s2, s3, s4, s5, s6⟩ := hr6.s7
      have HG := Lib.hid (grown7 (w5.alloc (.cells #[.int .i64 0, .int .i64 0, .int .i64 0, .int .i64 0, .int .i64 0, .int .i64 0, .int .i64 0] 35)) R (.int .i64 0) (.int .i64 0) (.int .i64 0) (.int .i64 0) (.int .i64 0) (.int .i64 0) (.int .i64 0))
      clear hb5 hbx hr6 hs6 b0 b1 b2
      go_wp2
      exact bodyPost_ret (v := .tuple #[.agg #[.int .i64 0, .int .i64 0, .int .i64 0, .int .i64 0, .int .i64 0, .int .i64 0, .int .i64 0], .int .i64 2]) (by simp [results, Tryz.results35, go_sem, s0, s1, s2, s3, s4, s5, s6]) rfl ⟨by rw [HZ.out]; rfl, below_grown HB6.out HG.out HRW.out⟩
  · have qE1 : (E != 0) = true := by simpa using qE
    have HZ := Lib.hid (show X = (Sta.zero, E) from by have h := HX.out; rw [staF_err (R := (F, E)) qE] at h; exact h.symm)
    obtain ⟨x0, x1, x2, x3, x4, x5, x6⟩ := hr4.c7
    obtain ⟨q0, q1, q2, q3, q4, q5, q6⟩ := hr4.f7
    obtain ⟨s0, s1, s2, s3, s4, s5, s6⟩ := hr4.s7
    have HG := Lib.hid (grown7 W4 R (.int .i64 0) (.int .i64 0) (.int .i64 0) (.int .i64 0) (.int .i64 0) (.int .i64 0) (.int .i64 0))
    clear qE hr4 hf4
    go_wp2
    exact bodyPost_ret (v := .tuple #[.agg #[.int .i64 0, .int .i64 0, .int .i64 0, .int .i64 0, .int .i64 0, .int .i64 0, .int .i64 0], .int .i64 E]) (by simp [results, Tryz.results35, go_sem, s0, s1, s2, s3, s4, s5, s6]) rfl ⟨by rw [HZ.out]; rfl, below_grown HB4.out HG.out HRW.out⟩
set_option maxHeartbeats 8000000 in
theorem stat_any (v : Value) (t : List Nd) (c : Wh) (A0 : Option Addr) (m k : Nat) (p : Nm) (w : World) (h : TabP w v t) (hc : CrR w c A0 m k) (X : Sta × Int) (hX : staM t c p true = X) :
    Calls Tryz.prog 12 #[v, .agg #[.int .i64 c.u, .int .i64 c.g, .slice A0 m k], .string (bA p)] w fun e w' => e = .returned (.tuple #[stV X.1, .int .i64 X.2]) ∧ Below w.heap.size w w' := by
  have hb1 := ba w (.cells #[.int .i64 c.u, .int .i64 c.g, .slice A0 m k] 25)
  have hk1 := Blk.new w 25 #[.int .i64 c.u, .int .i64 c.g, .slice A0 m k]
  obtain ⟨W1, hW1⟩ : ∃ W1, w.alloc (.cells #[.int .i64 c.u, .int .i64 c.g, .slice A0 m k] 25) = W1 := ⟨_, rfl⟩
  rw [hW1] at hb1 hk1
  have hb2 := al hb1 (.cells #[.int .i64 0, .int .i64 0, .int .i64 0, .int .i64 0, .int .i64 0, .int .i64 0, .int .i64 0] 35)
  have hk2 := hk1.below (ba W1 (.cells #[.int .i64 0, .int .i64 0, .int .i64 0, .int .i64 0, .int .i64 0, .int .i64 0, .int .i64 0] 35))
  have hr2 := Blk.new W1 35 #[.int .i64 0, .int .i64 0, .int .i64 0, .int .i64 0, .int .i64 0, .int .i64 0, .int .i64 0]
  obtain ⟨W2, hW2⟩ : ∃ W2, W1.alloc (.cells #[.int .i64 0, .int .i64 0, .int .i64 0, .int .i64 0, .int .i64 0, .int .i64 0, .int .i64 0] 35) = W2 := ⟨_, rfl⟩
  rw [hW2] at hb2 hk2 hr2
  obtain ⟨R, hR1⟩ : ∃ R, W1.heap.size = R := ⟨_, rfl⟩
  rw [hR1] at hr2
  have HRW := Lib.hid (show w.heap.size ≤ R by rw [← hR1]; exact hb1.size)
  obtain ⟨S, E⟩ := X
  have HO := Lib.hid (ofPath_any v t c A0 m k p true W2 (h.below hb2) (hc.below hb2) (S, E) hX)
  have HB2 := Lib.hid hb2
  have HR2 := Lib.hid hr2
  unfold stV stC at HO ⊢
  clear h hc hb1 hb2 hr2 hX hk1
  obtain ⟨k0, k1, k2⟩ := hk2.c3
  clear hk2
  go_enter Tryz.func12, Tryz.ntmps12
  go_wp2_with fail
  clear hW1 hW2 hR1
  refine HO.out.mono ?_
  rintro e w3 ⟨rfl, hb3⟩
  have HB3 := Lib.hid (bt hb3 HB2.out)
  have hr3 := HR2.out.below hb3
  obtain ⟨x0, x1, x2, x3, x4, x5, x6⟩ := hr3.c7
  obtain ⟨q0, q1, q2, q3, q4, q5, q6⟩ := hr3.f7
  obtain ⟨s0, s1, s2, s3, s4, s5, s6⟩ := hr3.s7
  have HG := Lib.hid (grown7 w3 R (.int .i64 S.node) (.int .i64 S.kind) (.int .i64 S.mode) (.int .i64 S.uid) (.int .i64 S.gid) (.int .i64 S.links) (.int .i64 S.size))
  clear hb3 hr3 k0 k1 k2
  go_wp2
  exact bodyPost_ret (v := .tuple #[.agg #[.int .i64 S.node, .int .i64 S.kind, .int .i64 S.mode, .int .i64 S.uid, .int .i64 S.gid, .int .i64 S.links, .int .i64 S.size], .int .i64 E]) (by simp [results, Tryz.results12, go_sem, s0, s1, s2, s3, s4, s5, s6]) rfl ⟨rfl, below_grown HB3.out HG.out HRW.out⟩
set_option maxHeartbeats 8000000 in
theorem lstat_any (v : Value) (t : List Nd) (c : Wh) (A0 : Option Addr) (m k : Nat) (p : Nm) (w : World) (h : TabP w v t) (hc : CrR w c A0 m k) (X : Sta × Int) (hX : staM t c p false = X) :
    Calls Tryz.prog 15 #[v, .agg #[.int .i64 c.u, .int .i64 c.g, .slice A0 m k], .string (bA p)] w fun e w' => e = .returned (.tuple #[stV X.1, .int .i64 X.2]) ∧ Below w.heap.size w w' := by
  have hb1 := ba w (.cells #[.int .i64 c.u, .int .i64 c.g, .slice A0 m k] 25)
  have hk1 := Blk.new w 25 #[.int .i64 c.u, .int .i64 c.g, .slice A0 m k]
  obtain ⟨W1, hW1⟩ : ∃ W1, w.alloc (.cells #[.int .i64 c.u, .int .i64 c.g, .slice A0 m k] 25) = W1 := ⟨_, rfl⟩
  rw [hW1] at hb1 hk1
  have hb2 := al hb1 (.cells #[.int .i64 0, .int .i64 0, .int .i64 0, .int .i64 0, .int .i64 0, .int .i64 0, .int .i64 0] 35)
  have hk2 := hk1.below (ba W1 (.cells #[.int .i64 0, .int .i64 0, .int .i64 0, .int .i64 0, .int .i64 0, .int .i64 0, .int .i64 0] 35))
  have hr2 := Blk.new W1 35 #[.int .i64 0, .int .i64 0, .int .i64 0, .int .i64 0, .int .i64 0, .int .i64 0, .int .i64 0]
  obtain ⟨W2, hW2⟩ : ∃ W2, W1.alloc (.cells #[.int .i64 0, .int .i64 0, .int .i64 0, .int .i64 0, .int .i64 0, .int .i64 0, .int .i64 0] 35) = W2 := ⟨_, rfl⟩
  rw [hW2] at hb2 hk2 hr2
  obtain ⟨R, hR1⟩ : ∃ R, W1.heap.size = R := ⟨_, rfl⟩
  rw [hR1] at hr2
  have HRW := Lib.hid (show w.heap.size ≤ R by rw [← hR1]; exact hb1.size)
  obtain ⟨S, E⟩ := X
  have HO := Lib.hid (ofPath_any v t c A0 m k p false W2 (h.below hb2) (hc.below hb2) (S, E) hX)
  have HB2 := Lib.hid hb2
  have HR2 := Lib.hid hr2
  unfold stV stC at HO ⊢
  clear h hc hb1 hb2 hr2 hX hk1
  obtain ⟨k0, k1, k2⟩ := hk2.c3
  clear hk2
  go_enter Tryz.func15, Tryz.ntmps15
  go_wp2_with fail
  clear hW1 hW2 hR1
  refine HO.out.mono ?_
  rintro e w3 ⟨rfl, hb3⟩
  have HB3 := Lib.hid (bt hb3 HB2.out)
  have hr3 := HR2.out.below hb3
  obtain ⟨x0, x1, x2, x3, x4, x5, x6⟩ := hr3.c7
  obtain ⟨q0, q1, q2, q3, q4, q5, q6⟩ := hr3.f7
  obtain ⟨s0, s1, s2, s3, s4, s5, s6⟩ := hr3.s7
  have HG := Lib.hid (grown7 w3 R (.int .i64 S.node) (.int .i64 S.kind) (.int .i64 S.mode) (.int .i64 S.uid) (.int .i64 S.gid) (.int .i64 S.links) (.int .i64 S.size))
  clear hb3 hr3 k0 k1 k2
  go_wp2
  exact bodyPost_ret (v := .tuple #[.agg #[.int .i64 S.node, .int .i64 S.kind, .int .i64 S.mode, .int .i64 S.uid, .int .i64 S.gid, .int .i64 S.links, .int .i64 S.size], .int .i64 E]) (by simp [results, Tryz.results15, go_sem, s0, s1, s2, s3, s4, s5, s6]) rfl ⟨rfl, below_grown HB3.out HG.out HRW.out⟩
end Go.Proofs.YtilepnepcamnaaaGreat
