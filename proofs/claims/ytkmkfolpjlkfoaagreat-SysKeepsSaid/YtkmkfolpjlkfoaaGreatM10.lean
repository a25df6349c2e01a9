/-
  The calls of package look. The conditions are said at each. The calls of package build. The conditions are said at each.
-/
import Derived.Test.YtkmkfolpjlkfoaaGreatM3
import Derived.Test.YtkmkfolpjlkfoaaGreatM4
import Derived.Test.YtkmkfolpjlkfoaaGreatM5
import Derived.Test.YtkmkfolpjlkfoaaGreatM8
import Derived.Test.YtkmkfolpjlkfoaaGreatM9
import Derived.Deep.RegionWith
import Derived.Deep.RegionHeld3
namespace Go.Proofs.YtkmkfolpjlkfoaaGreat
open Go Go.RowKit
set_option maxRecDepth 100000

attribute [local go_sem] cell_off4 cell_blk4
theorem tab_few {w : World} {v : Value} {t : List Nd} (h : TabP w v t) (i : Int) : Few (tget t i) := ok_few h.ok.1 i
set_option maxHeartbeats 8000000 in
theorem of_any (v : Value) (t : List Nd) (i : Int) (w : World) (h : TabP w v t) :
    Calls Tryz.prog 207 #[v, .int .i64 i] w fun e w' => e = .returned (.tuple #[stV (staT t i), .bool (tis t i)]) ∧ Below w.heap.size w w' := by
  have hb0 := ba w (.cells #[.int .i64 0, .int .i64 0, .int .i64 0, .int .i64 0, .int .i64 0, .int .i64 0, .int .i64 0] 53)
  have hr0 := Blk.new w 53 #[.int .i64 0, .int .i64 0, .int .i64 0, .int .i64 0, .int .i64 0, .int .i64 0, .int .i64 0]
  obtain ⟨W1, hW1⟩ : ∃ W1, w.alloc (.cells #[.int .i64 0, .int .i64 0, .int .i64 0, .int .i64 0, .int .i64 0, .int .i64 0, .int .i64 0] 53) = W1 := ⟨_, rfl⟩
  rw [hW1] at hb0 hr0
  have HG := Lib.hid (get_any v t i W1 (h.below hb0))
  have HT := Lib.hid (h.below hb0)
  have HF := Lib.hid (tab_few h i)
  have HB0 := Lib.hid hb0
  have HR0 := Lib.hid hr0
  obtain ⟨S, hS⟩ : ∃ S, staT t i = S := ⟨_, rfl⟩
  have HYES := Lib.hid (fun (q : tis t i = true) => show S = ⟨i, (tget t i).kind, (tget t i).mode, (tget t i).uid, (tget t i).gid, (linkT t i : Int), sizM (tget t i)⟩ from by rw [← hS, sta_is q])
  have HNO := Lib.hid (fun (q : tis t i = false) => show S = Sta.zero from by rw [← hS, sta_not q])
  rw [hS]
  obtain ⟨q, hq⟩ : ∃ q, tis t i = q := ⟨_, rfl⟩
  obtain ⟨n, hn⟩ : ∃ n, tget t i = n := ⟨_, rfl⟩
  rw [hq] at HG HYES HNO ⊢
  rw [hn] at HG HYES HF
  obtain ⟨LK, hLK⟩ : ∃ LK, (linkT t i : Int) = LK := ⟨_, rfl⟩
  obtain ⟨SZ, hSZ⟩ : ∃ SZ, sizM n = SZ := ⟨_, rfl⟩
  rw [hLK, hSZ] at HYES
  have HLN := Lib.hid (fun (W : World) (hb : Below W1.heap.size W1 W) => show Calls Tryz.prog 50 #[v, .int .i64 i] W fun e w' => e = .returned (.int .i64 LK) ∧ Below W.heap.size W w' from by have h1 := links_any v t i W (HT.out.below hb); rw [hLK] at h1; exact h1)
  have HSI := Lib.hid (fun (vd ve : Value) (W : World) (hd : BytesR W vd n.data) (he : EntsR W ve n.ents) => show Calls Tryz.prog 240 #[nodeV n vd ve] W fun e w' => e = .returned (.int .i64 SZ) ∧ Below W.heap.size W w' from by have h1 := size_any n vd ve W hd he HF.out; rw [hSZ] at h1; exact h1)
  unfold nodeV at HG HSI
  clear h hb0 hr0 hS hq hn hLK hSZ
  go_enter Tryz.func207, Tryz.ntmps207
  go_wp2_with fail
  clear hW1
  refine HG.out.mono ?_
  rintro e w2 ⟨vd, ve, rfl, hd, he, -, -, hb2⟩
  obtain ⟨A5, k5, rfl⟩ := bytesT_form hd
  obtain ⟨A6, k6, rfl⟩ := entsT_form he
  have hbw := ba w2 (.cells (ndC n (.slice A5 n.data.length k5) (.slice A6 n.ents.length k6)) 82)
  have hbx := al hb2 (.cells (ndC n (.slice A5 n.data.length k5) (.slice A6 n.ents.length k6)) 82)
  have HBX := Lib.hid hbx
  have HB3 := Lib.hid (bt hbx HB0.out)
  have hr3 := HR0.out.below hbx
  have hn3 := Blk.new w2 82 (ndC n (.slice A5 n.data.length k5) (.slice A6 n.ents.length k6))
  have HD3 := Lib.hid (hd.1.below hbw)
  have HE3 := Lib.hid (he.1.below hbw)
  have zlt : w.heap.size < w2.heap.size := (HR0.out.below hb2).lt
  obtain ⟨z, hz⟩ : ∃ z, w2.heap.size = z := ⟨_, rfl⟩
  obtain ⟨W3, hW3⟩ : ∃ W3, w2.alloc (.cells (ndC n (.slice A5 n.data.length k5) (.slice A6 n.ents.length k6)) 82) = W3 := ⟨_, rfl⟩
  rw [hW3] at HBX HB3 hr3 hn3 HD3 HE3
  rw [hz] at hn3 zlt
  have HR3 := Lib.hid hr3
  have HN3 := Lib.hid hn3
  clear hd he hb2 hbx hbw HG HR0
  cases q with
  | false =>
    have HZ := Lib.hid (HNO.out rfl)
    obtain ⟨x0, x1, x2, x3, x4, x5, x6⟩ := hr3.c7
    obtain ⟨q0, q1, q2, q3, q4, q5, q6⟩ := hr3.f7
    obtain ⟨s0, s1, s2, s3, s4, s5, s6⟩ := hr3.s7
    have HGR := Lib.hid (grown7 W3 w.heap.size (.int .i64 0) (.int .i64 0) (.int .i64 0) (.int .i64 0) (.int .i64 0) (.int .i64 0) (.int .i64 0))
    clear hr3 hn3
    go_wp2
    exact bodyPost_ret (v := .tuple #[.agg #[.int .i64 0, .int .i64 0, .int .i64 0, .int .i64 0, .int .i64 0, .int .i64 0, .int .i64 0], .bool false]) (by simp [results, Tryz.results207, go_sem, s0, s1, s2, s3, s4, s5, s6]) rfl ⟨by rw [HZ.out]; rfl, below_grown HB3.out HGR.out (Nat.le_refl _)⟩
  | true =>
    have HZ := Lib.hid (HYES.out rfl)
    have HPR := Lib.hid (fun (W : World) (hb : Below W3.heap.size W3 W) => show W.cell? ⟨z, 0, none⟩ = some (.int .i64 n.kind) ∧ W.cell? ⟨z, 1, none⟩ = some (.int .i64 n.mode) ∧ W.cell? ⟨z, 2, none⟩ = some (.int .i64 n.uid) ∧ W.cell? ⟨z, 3, none⟩ = some (.int .i64 n.gid) ∧ W.cell? ⟨z, 4, none⟩ = some (.slice A5 n.data.length k5) ∧ W.cell? ⟨z, 5, none⟩ = some (.slice A6 n.ents.length k6) ∧ W.cell? ⟨z, 6, none⟩ = some (.string (bA n.target)) from (HN3.out.below hb).c7)
    have HS2 := Lib.hid (fun (W : World) (hb : Below W3.heap.size W3 W) => HSI.out (.slice A5 n.data.length k5) (.slice A6 n.ents.length k6) W (HD3.out.below hb) (HE3.out.below hb))
    have HL2 := Lib.hid (fun (W : World) (hb : Below W3.heap.size W3 W) => HLN.out W (bt hb HBX.out))
    have j0 : Below W3.heap.size W3 W3.drew := (Below.refl _ _).drew
    obtain ⟨p0, p1, p2, p3, p4, p5, p6⟩ := hn3.c7
    clear hr3 hn3 HYES HNO HLN HSI HF
    go_upto_region 4 with fail
    go_region_held3 (fun w' => w'.cell? ⟨z, 0, none⟩ = some (.int .i64 n.kind) ∧ w'.cell? ⟨z, 1, none⟩ = some (.int .i64 n.mode) ∧ w'.cell? ⟨z, 2, none⟩ = some (.int .i64 n.uid) ∧ w'.cell? ⟨z, 3, none⟩ = some (.int .i64 n.gid) ∧ w'.cell? ⟨z, 4, none⟩ = some (.slice A5 n.data.length k5) ∧ w'.cell? ⟨z, 5, none⟩ = some (.slice A6 n.ents.length k6) ∧ w'.cell? ⟨z, 6, none⟩ = some (.string (bA n.target)))
      (first | (with_reducible exact HPR.out _ j0) | (with_reducible exact HPR.out _ j1) | (with_reducible exact HPR.out _ j2) | (with_reducible exact ⟨t0, t1, t2, t3, t4, t5, t6⟩))
      (first
      | (go_at_call 50; (with_reducible refine (HL2.out _ j0).mono ?_); rintro e1 w4 ⟨rfl, hb4⟩; have j1 := bt hb4 j0; clear hb4)
      | (go_at_call 240; (with_reducible refine (HS2.out _ j1).mono ?_); rintro e2 w5 ⟨rfl, hb5⟩; have j2 := bt hb5 j1; have hr5 := HR3.out.below j2; have HR5 := Lib.hid hr5; obtain ⟨x0, x1, x2, x3, x4, x5, x6⟩ := hr5.c7; obtain ⟨f0, f1, f2, f3, f4, f5, f6⟩ := hr5.f7; have ht5 : Blk (((((((w5.setCell ⟨w.heap.size, 0, none⟩ (.int .i64 i)).setCell ⟨w.heap.size, 1, none⟩ (.int .i64 n.kind)).setCell ⟨w.heap.size, 2, none⟩ (.int .i64 n.mode)).setCell ⟨w.heap.size, 3, none⟩ (.int .i64 n.uid)).setCell ⟨w.heap.size, 4, none⟩ (.int .i64 n.gid)).setCell ⟨w.heap.size, 5, none⟩ (.int .i64 LK)).setCell ⟨w.heap.size, 6, none⟩ (.int .i64 SZ)) z 82 (ndC n (.slice A5 n.data.length k5) (.slice A6 n.ents.length k6)) := (HN3.out.below j2).kept (grown7 w5 w.heap.size (.int .i64 i) (.int .i64 n.kind) (.int .i64 n.mode) (.int .i64 n.uid) (.int .i64 n.gid) (.int .i64 LK) (.int .i64 SZ)) (some_ne (Nat.ne_of_gt zlt)); obtain ⟨t0, t1, t2, t3, t4, t5, t6⟩ := ht5.c7; obtain ⟨s0, s1, s2, s3, s4, s5, s6⟩ := hr5.s7; clear hb5 hr5 ht5))
    all_goals (
      have HGR := Lib.hid (grown7 w5 w.heap.size (.int .i64 i) (.int .i64 n.kind) (.int .i64 n.mode) (.int .i64 n.uid) (.int .i64 n.gid) (.int .i64 LK) (.int .i64 SZ))
      go_wp2
      exact bodyPost_ret (v := .tuple #[.agg #[.int .i64 i, .int .i64 n.kind, .int .i64 n.mode, .int .i64 n.uid, .int .i64 n.gid, .int .i64 LK, .int .i64 SZ], .bool true]) (by simp [results, Tryz.results207, go_sem, s0, s1, s2, s3, s4, s5, s6]) rfl ⟨by rw [HZ.out]; rfl, below_grown (bt j2 HB3.out) HGR.out (Nat.le_refl _)⟩)
end Go.Proofs.YtkmkfolpjlkfoaaGreat
namespace Go.Proofs.YtkmkfolpjlkfoaaGreat
open Go Go.RowKit
set_option maxRecDepth 100000

attribute [local go_sem] cell_off4 cell_blk4
set_option maxHeartbeats 8000000 in
theorem ofPath_any (v : Value) (t : List Nd) (c : Wh) (A0 : Option Addr) (m k : Nat) (p : Nm) (f : Bool) (w : World) (h : TabP w v t) (hc : CrR w c A0 m k) (X : Sta × Int) (hX : staM t c p f = X) :
    Calls Tryz.prog 147 #[v, .agg #[.int .i64 c.u, .int .i64 c.g, .slice A0 m k], .string (bA p), .bool f] w fun e w' => e = .returned (.tuple #[stV X.1, .int .i64 X.2]) ∧ Below w.heap.size w w' := by
  have hb1 := ba w (.cells #[.int .i64 c.u, .int .i64 c.g, .slice A0 m k] 35)
  have hk1 := Blk.new w 35 #[.int .i64 c.u, .int .i64 c.g, .slice A0 m k]
  obtain ⟨W1, hW1⟩ : ∃ W1, w.alloc (.cells #[.int .i64 c.u, .int .i64 c.g, .slice A0 m k] 35) = W1 := ⟨_, rfl⟩
  rw [hW1] at hb1 hk1
  have hb2 := al hb1 (.cells #[.int .i64 0, .int .i64 0, .int .i64 0, .int .i64 0, .int .i64 0, .int .i64 0, .int .i64 0] 53)
  have hk2 := hk1.below (ba W1 (.cells #[.int .i64 0, .int .i64 0, .int .i64 0, .int .i64 0, .int .i64 0, .int .i64 0, .int .i64 0] 53))
  have hr2 := Blk.new W1 53 #[.int .i64 0, .int .i64 0, .int .i64 0, .int .i64 0, .int .i64 0, .int .i64 0, .int .i64 0]
  obtain ⟨W2, hW2⟩ : ∃ W2, W1.alloc (.cells #[.int .i64 0, .int .i64 0, .int .i64 0, .int .i64 0, .int .i64 0, .int .i64 0, .int .i64 0] 53) = W2 := ⟨_, rfl⟩
  rw [hW2] at hb2 hk2 hr2
  obtain ⟨R, hR1⟩ : ∃ R, W1.heap.size = R := ⟨_, rfl⟩
  rw [hR1] at hr2
  have HRW := Lib.hid (show w.heap.size ≤ R by rw [← hR1]; exact hb1.size)
  obtain ⟨FE, hFE⟩ : ∃ FE, resM t c p f = FE := ⟨_, rfl⟩
  obtain ⟨F, E⟩ := FE
  have HRS := Lib.hid (resolve_any v t c A0 m k p f W2 (h.below hb2) (hc.below hb2) (F, E) hFE)
  have HT := Lib.hid (h.below hb2)
  have HB2 := Lib.hid hb2
  have HK2 := Lib.hid hk2
  have HR2 := Lib.hid hr2
  have HX := Lib.hid (show staF t (F, E) = X from by rw [← hFE]; exact hX)
  clear h hc hb1 hb2 hr2 hX hFE hk1
  obtain ⟨k0, k1, k2⟩ := hk2.c3
  clear hk2
  go_enter Tryz.func147, Tryz.ntmps147
  go_wp2_with fail
  clear hW1 hW2 hR1
  refine HRS.out.mono ?_
  rintro e w3 ⟨rfl, hb3⟩
  have hbx := al hb3 (.cells #[.int .i64 F.dir, .string (bA F.name), .int .i64 F.node] 223)
  have HB4 := Lib.hid (bt hbx HB2.out)
  have HT4 := Lib.hid (HT.out.below hbx)
  have hr4 := HR2.out.below hbx
  have hf4 := Blk.new w3 223 #[.int .i64 F.dir, .string (bA F.name), .int .i64 F.node]
  have hrl : R < w3.heap.size := (HR2.out.below hb3).lt
  obtain ⟨y, hy⟩ : ∃ y, w3.heap.size = y := ⟨_, rfl⟩
  obtain ⟨W4, hW4⟩ : ∃ W4, w3.alloc (.cells #[.int .i64 F.dir, .string (bA F.name), .int .i64 F.node] 223) = W4 := ⟨_, rfl⟩
  rw [hW4] at HB4 HT4 hr4 hf4
  rw [hy] at hf4 hrl
  have HR4 := Lib.hid hr4
  clear hb3 hbx k0 k1 k2 HRS HT HR2
  by_cases qE : E = 0
  · have qE1 : (E != 0) = false := by simpa using qE
    obtain ⟨b0, b1, b2⟩ := hf4.c3
    obtain ⟨q, hq⟩ : ∃ q, tis t F.node = q := ⟨_, rfl⟩
    obtain ⟨S, hS⟩ : ∃ S, staT t F.node = S := ⟨_, rfl⟩
    have HO := Lib.hid (of_any v t F.node W4 HT4.out)
    have HXX := Lib.hid (show X = if q = true then (S, 0) else (Sta.zero, 2) from by
      have h := HX.out
      unfold staF at h
      rw [if_neg (fun r => r qE), hq, hS] at h
      exact h.symm)
    have HKN := Lib.hid (fun (r : q = true) => show S.kind ≠ 0 from by rw [← hS, sta_kind (hq.trans r)]; exact tis_kind0 (hq.trans r))
    have HZN := Lib.hid (fun (r : q = false) => show S = Sta.zero from by rw [← hS, sta_not (hq.trans r)])
    rw [hS, hq] at HO
    clear qE hS hq hr4 hf4
    cases q with
    | true =>
      have ek : (S.kind == 0) = false := by simpa using HKN.out rfl
      have HZ := Lib.hid (show X = (S, 0) from by rw [HXX.out, if_pos rfl])
      unfold stV stC at HO
      go_wp2_with fail
      clear hW4 hy
      refine HO.out.mono ?_
      rintro e w5 ⟨rfl, hb5⟩
      have hbx := al hb5 (.cells #[.int .i64 S.node, .int .i64 S.kind, .int .i64 S.mode, .int .i64 S.uid, .int .i64 S.gid, .int .i64 S.links, .int .i64 S.size] 53)
      have HB6 := Lib.hid (bt hbx HB4.out)
      have hr6 := HR4.out.below hbx
      have hs6 := Blk.new w5 53 #[.int .i64 S.node, .int .i64 S.kind, .int .i64 S.mode, .int .i64 S.uid, .int .i64 S.gid, .int .i64 S.links, .int .i64 S.size]
      obtain ⟨z, hz⟩ : ∃ z, w5.heap.size = z := ⟨_, rfl⟩
      obtain ⟨W6, hW6⟩ : ∃ W6, w5.alloc (.cells #[.int .i64 S.node, .int .i64 S.kind, .int .i64 S.mode, .int .i64 S.uid, .int .i64 S.gid, .int .i64 S.links, .int .i64 S.size] 53) = W6 := ⟨_, rfl⟩
      rw [hW6] at HB6 hr6 hs6
      rw [hz] at hs6
      obtain ⟨p0, p1, p2, p3, p4, p5, p6⟩ := hs6.c7
      obtain ⟨x0, x1, x2, x3, x4, x5, x6⟩ := hr6.c7
      obtain ⟨q0, q1, q2, q3, q4, q5, q6⟩ := hr6.f7
      obtain ⟨s0, s1, s2, s3, s4, s5, s6⟩ := hr6.s7
      have HG := Lib.hid (grown7 W6 R (.int .i64 S.node) (.int .i64 S.kind) (.int .i64 S.mode) (.int .i64 S.uid) (.int .i64 S.gid) (.int .i64 S.links) (.int .i64 S.size))
      clear hb5 hbx hr6 hs6 b0 b1 b2
      go_wp2
      exact bodyPost_ret (v := .tuple #[.agg #[.int .i64 S.node, .int .i64 S.kind, .int .i64 S.mode, .int .i64 S.uid, .int .i64 S.gid, .int .i64 S.links, .int .i64 S.size], .int .i64 0]) (by simp [results, Tryz.results147, go_sem, s0, s1, s2, s3, s4, s5, s6]) rfl ⟨by rw [HZ.out]; rfl, below_grown HB6.out HG.out HRW.out⟩
    | false =>
      have HZ := Lib.hid (show X = (Sta.zero, 2) from by rw [HXX.out, if_neg (by decide)])
      rw [HZN.out rfl] at HO
      have HO0 := Lib.hid (show Calls Tryz.prog 207 #[v, .int .i64 F.node] W4 fun e w' => e = .returned (.tuple #[.agg #[.int .i64 0, .int .i64 0, .int .i64 0, .int .i64 0, .int .i64 0, .int .i64 0, .int .i64 0], .bool false]) ∧ Below W4.heap.size W4 w' from HO.out)
      clear HO
      have HO := HO0
      clear HO0
      go_wp2_with fail
      clear hW4 hy
      refine HO.out.mono ?_
      rintro e w5 ⟨rfl, hb5⟩
      have hbx := al hb5 (.cells #[.int .i64 0, .int .i64 0, .int .i64 0, .int .i64 0, .int .i64 0, .int .i64 0, .int .i64 0] 53)
      have HB6 := Lib.hid (bt hbx HB4.out)
      have hr6 := HR4.out.below hbx
      have hs6 := Blk.new w5 53 #[.int .i64 0, .int .i64 0, .int .i64 0, .int .i64 0, .int .i64 0, .int .i64 0, .int .i64 0]
      obtain ⟨p0, p1, p2, p3, p4, p5, p6⟩ := hs6.c7
      obtain ⟨x0, x1, x2, x3, x4, x5, x6⟩ := hr6.c7
      obtain ⟨q0, q1, q2, q3, q4, q5, q6⟩ := hr6.f7
      obtain ⟨s0, s1, s2, s3, s4, s5, s6⟩ := hr6.s7
      have HG := Lib.hid (grown7 (w5.alloc (.cells #[.int .i64 0, .int .i64 0, .int .i64 0, .int .i64 0, .int .i64 0, .int .i64 0, .int .i64 0] 53)) R (.int .i64 0) (.int .i64 0) (.int .i64 0) (.int .i64 0) (.int .i64 0) (.int .i64 0) (.int .i64 0))
      clear hb5 hbx hr6 hs6 b0 b1 b2
      go_wp2
      exact bodyPost_ret (v := .tuple #[.agg #[.int .i64 0, .int .i64 0, .int .i64 0, .int .i64 0, .int .i64 0, .int .i64 0, .int .i64 0], .int .i64 2]) (by simp [results, Tryz.results147, go_sem, s0, s1, s2, s3, s4, s5, s6]) rfl ⟨by rw [HZ.out]; rfl, below_grown HB6.out HG.out HRW.out⟩
  · have qE1 : (E != 0) = true := by simpa using qE
    have HZ := Lib.hid (show X = (Sta.zero, E) from by have h := HX.out; rw [staF_err (R := (F, E)) qE] at h; exact h.symm)
    obtain ⟨x0, x1, x2, x3, x4, x5, x6⟩ := hr4.c7
    obtain ⟨q0, q1, q2, q3, q4, q5, q6⟩ := hr4.f7
    obtain ⟨s0, s1, s2, s3, s4, s5, s6⟩ := hr4.s7
    have HG := Lib.hid (grown7 W4 R (.int .i64 0) (.int .i64 0) (.int .i64 0) (.int .i64 0) (.int .i64 0) (.int .i64 0) (.int .i64 0))
    clear qE hr4 hf4
    go_wp2
    exact bodyPost_ret (v := .tuple #[.agg #[.int .i64 0, .int .i64 0, .int .i64 0, .int .i64 0, .int .i64 0, .int .i64 0, .int .i64 0], .int .i64 E]) (by simp [results, Tryz.results147, go_sem, s0, s1, s2, s3, s4, s5, s6]) rfl ⟨by rw [HZ.out]; rfl, below_grown HB4.out HG.out HRW.out⟩
set_option maxHeartbeats 8000000 in
theorem stat_any (v : Value) (t : List Nd) (c : Wh) (A0 : Option Addr) (m k : Nat) (p : Nm) (w : World) (h : TabP w v t) (hc : CrR w c A0 m k) (X : Sta × Int) (hX : staM t c p true = X) :
    Calls Tryz.prog 106 #[v, .agg #[.int .i64 c.u, .int .i64 c.g, .slice A0 m k], .string (bA p)] w fun e w' => e = .returned (.tuple #[stV X.1, .int .i64 X.2]) ∧ Below w.heap.size w w' := by
  have hb1 := ba w (.cells #[.int .i64 c.u, .int .i64 c.g, .slice A0 m k] 35)
  have hk1 := Blk.new w 35 #[.int .i64 c.u, .int .i64 c.g, .slice A0 m k]
  obtain ⟨W1, hW1⟩ : ∃ W1, w.alloc (.cells #[.int .i64 c.u, .int .i64 c.g, .slice A0 m k] 35) = W1 := ⟨_, rfl⟩
  rw [hW1] at hb1 hk1
  have hb2 := al hb1 (.cells #[.int .i64 0, .int .i64 0, .int .i64 0, .int .i64 0, .int .i64 0, .int .i64 0, .int .i64 0] 53)
  have hk2 := hk1.below (ba W1 (.cells #[.int .i64 0, .int .i64 0, .int .i64 0, .int .i64 0, .int .i64 0, .int .i64 0, .int .i64 0] 53))
  have hr2 := Blk.new W1 53 #[.int .i64 0, .int .i64 0, .int .i64 0, .int .i64 0, .int .i64 0, .int .i64 0, .int .i64 0]
  obtain ⟨W2, hW2⟩ : ∃ W2, W1.alloc (.cells #[.int .i64 0, .int .i64 0, .int .i64 0, .int .i64 0, .int .i64 0, .int .i64 0, .int .i64 0] 53) = W2 := ⟨_, rfl⟩
  rw [hW2] at hb2 hk2 hr2
  obtain ⟨R, hR1⟩ : ∃ R, W1.heap.size = R := ⟨_, rfl⟩
  rw [hR1] at hr2
  have HRW := Lib.hid (show w.heap.size ≤ R by rw [← hR1]; exact hb1.size)
  obtain ⟨S, E⟩ := X
  have HO := Lib.hid (ofPath_any v t c A0 m k p true W2 (h.below hb2) (hc.below hb2) (S, E) hX)
  have HB2 := Lib.hid hb2
  have HR2 := Lib.hid hr2
  unfold stV stC at HO ⊢
  clear h hc hb1 hb2 hr2 hX hk1
  obtain ⟨k0, k1, k2⟩ := hk2.c3
  clear hk2
  go_enter Tryz.func106, Tryz.ntmps106
  go_wp2_with fail
  clear hW1 hW2 hR1
  refine HO.out.mono ?_
  rintro e w3 ⟨rfl, hb3⟩
  have HB3 := Lib.hid (bt hb3 HB2.out)
  have hr3 := HR2.out.below hb3
  obtain ⟨x0, x1, x2, x3, x4, x5, x6⟩ := hr3.c7
  obtain ⟨q0, q1, q2, q3, q4, q5, q6⟩ := hr3.f7
  obtain ⟨s0, s1, s2, s3, s4, s5, s6⟩ := hr3.s7
  have HG := Lib.hid (grown7 w3 R (.int .i64 S.node) (.int .i64 S.kind) (.int .i64 S.mode) (.int .i64 S.uid) (.int .i64 S.gid) (.int .i64 S.links) (.int .i64 S.size))
  clear hb3 hr3 k0 k1 k2
  go_wp2
  exact bodyPost_ret (v := .tuple #[.agg #[.int .i64 S.node, .int .i64 S.kind, .int .i64 S.mode, .int .i64 S.uid, .int .i64 S.gid, .int .i64 S.links, .int .i64 S.size], .int .i64 E]) (by simp [results, Tryz.results106, go_sem, s0, s1, s2, s3, s4, s5, s6]) rfl ⟨rfl, below_grown HB3.out HG.out HRW.out⟩
set_option maxHeartbeats 8000000 in
theorem lstat_any (v : Value) (t : List Nd) (c : Wh) (A0 : Option Addr) (m k : Nat) (p : Nm) (w : World) (h : TabP w v t) (hc : CrR w c A0 m k) (X : Sta × Int) (hX : staM t c p false = X) :
    Calls Tryz.prog 107 #[v, .agg #[.int .i64 c.u, .int .i64 c.g, .slice A0 m k], .string (bA p)] w fun e w' => e = .returned (.tuple #[stV X.1, .int .i64 X.2]) ∧ Below w.heap.size w w' := by
  have hb1 := ba w (.cells #[.int .i64 c.u, .int .i64 c.g, .slice A0 m k] 35)
  have hk1 := Blk.new w 35 #[.int .i64 c.u, .int .i64 c.g, .slice A0 m k]
  obtain ⟨W1, hW1⟩ : ∃ W1, w.alloc (.cells #[.int .i64 c.u, .int .i64 c.g, .slice A0 m k] 35) = W1 := ⟨_, rfl⟩
  rw [hW1] at hb1 hk1
  have hb2 := al hb1 (.cells #[.int .i64 0, .int .i64 0, .int .i64 0, .int .i64 0, .int .i64 0, .int .i64 0, .int .i64 0] 53)
  have hk2 := hk1.below (ba W1 (.cells #[.int .i64 0, .int .i64 0, .int .i64 0, .int .i64 0, .int .i64 0, .int .i64 0, .int .i64 0] 53))
  have hr2 := Blk.new W1 53 #[.int .i64 0, .int .i64 0, .int .i64 0, .int .i64 0, .int .i64 0, .int .i64 0, .int .i64 0]
  obtain ⟨W2, hW2⟩ : ∃ W2, W1.alloc (.cells #[.int .i64 0, .int .i64 0, .int .i64 0, .int .i64 0, .int .i64 0, .int .i64 0, .int .i64 0] 53) = W2 := ⟨_, rfl⟩
  rw [hW2] at hb2 hk2 hr2
  obtain ⟨R, hR1⟩ : ∃ R, W1.heap.size = R := ⟨_, rfl⟩
  rw [hR1] at hr2
  have HRW := Lib.hid (show w.heap.size ≤ R by rw [← hR1]; exact hb1.size)
  obtain ⟨S, E⟩ := X
  have HO := Lib.hid (ofPath_any v t c A0 m k p false W2 (h.below hb2) (hc.below hb2) (S, E) hX)
  have HB2 := Lib.hid hb2
  have HR2 := Lib.hid hr2
  unfold stV stC at HO ⊢
  clear h hc hb1 hb2 hr2 hX hk1
  obtain ⟨k0, k1, k2⟩ := hk2.c3
  clear hk2
  go_enter Tryz.func107, Tryz.ntmps107
  go_wp2_with fail
  clear hW1 hW2 hR1
  refine HO.out.mono ?_
  rintro e w3 ⟨rfl, hb3⟩
  have HB3 := Lib.hid (bt hb3 HB2.out)
  have hr3 := HR2.out.below hb3
  obtain ⟨x0, x1, x2, x3, x4, x5, x6⟩ := hr3.c7
  obtain ⟨q0, q1, q2, q3, q4, q5, q6⟩ := hr3.f7
  obtain ⟨s0, s1, s2, s3, s4, s5, s6⟩ := hr3.s7
  have HG := Lib.hid (grown7 w3 R (.int .i64 S.node) (.int .i64 S.kind) (.int .i64 S.mode) (.int .i64 S.uid) (.int .i64 S.gid) (.int .i64 S.links) (.int .i64 S.size))
  clear hb3 hr3 k0 k1 k2
  go_wp2
  exact bodyPost_ret (v := .tuple #[.agg #[.int .i64 S.node, .int .i64 S.kind, .int .i64 S.mode, .int .i64 S.uid, .int .i64 S.gid, .int .i64 S.links, .int .i64 S.size], .int .i64 E]) (by simp [results, Tryz.results107, go_sem, s0, s1, s2, s3, s4, s5, s6]) rfl ⟨rfl, below_grown HB3.out HG.out HRW.out⟩
end Go.Proofs.YtkmkfolpjlkfoaaGreat
namespace Go.Proofs.YtkmkfolpjlkfoaaGreat
open Go Go.RowKit
set_option maxRecDepth 100000

attribute [local go_sem] cell_off4 cell_blk4
theorem rdl_err {t : List Nd} {c : Wh} {p : Nm} {S : Sta} {E : Int} (h : staM t c p false = (S, E)) (hE : E ≠ 0) : rdlM t c p = ([], E) := by
  unfold rdlM
  rw [h, if_pos hE]
theorem rdl_kind {t : List Nd} {c : Wh} {p : Nm} {S : Sta} (h : staM t c p false = (S, 0)) (hk : S.kind ≠ 3) : rdlM t c p = ([], 22) := by
  unfold rdlM
  rw [h, if_neg (fun q => q rfl), if_pos hk]
theorem rdl_good {t : List Nd} {c : Wh} {p : Nm} {S : Sta} (h : staM t c p false = (S, 0)) (hk : S.kind = 3) : rdlM t c p = ((tget t S.node).target, 0) := by
  unfold rdlM
  rw [h, if_neg (fun q => q rfl), if_neg (fun q => q hk)]
theorem lst_err {t : List Nd} {c : Wh} {p : Nm} {S : Sta} {E : Int} (h : staM t c p true = (S, E)) (hE : E ≠ 0) : lstM t c p = ([], E) := by
  unfold lstM
  rw [h, if_pos hE]
theorem lst_kind {t : List Nd} {c : Wh} {p : Nm} {S : Sta} (h : staM t c p true = (S, 0)) (hk : S.kind ≠ 2) : lstM t c p = ([], 20) := by
  unfold lstM
  rw [h, if_neg (fun q => q rfl), if_pos hk]
theorem lst_can {t : List Nd} {c : Wh} {p : Nm} {S : Sta} (h : staM t c p true = (S, 0)) (hk : S.kind = 2) (hc : canT t c S.node 4 = false) : lstM t c p = ([], 13) := by
  unfold lstM
  rw [h, if_neg (fun q => q rfl), if_neg (fun q => q hk), if_pos hc]
theorem lst_good {t : List Nd} {c : Wh} {p : Nm} {S : Sta} (h : staM t c p true = (S, 0)) (hk : S.kind = 2) (hc : canT t c S.node 4 = true) : lstM t c p = (nmE (tget t S.node).ents, 0) := by
  unfold lstM
  rw [h, if_neg (fun q => q rfl), if_neg (fun q => q hk), if_neg (by rw [hc]; decide)]
theorem ok_rise {t : List Nd} (h : okT t) (i : Int) : rise (nmE (tget t i).ents) ∧ (tget t i).ents.length ≤ 12 := by
  rcases ok_tget h i with q | q
  · rw [q]
    exact ⟨List.Pairwise.nil, Nat.zero_le _⟩
  · rcases q.2 with q | q | q
    · rw [q.2.1]; exact ⟨List.Pairwise.nil, Nat.zero_le _⟩
    · have := q.2.2.2.2.2
      exact ⟨q.2.2.2.2.1, by omega⟩
    · rw [q.2.2.1]; exact ⟨List.Pairwise.nil, Nat.zero_le _⟩
set_option maxHeartbeats 8000000 in
theorem readlink_any (v : Value) (t : List Nd) (c : Wh) (A0 : Option Addr) (m k : Nat) (p : Nm) (w : World) (h : TabP w v t) (hc : CrR w c A0 m k) (X : Nm × Int) (hX : rdlM t c p = X) :
    Calls Tryz.prog 108 #[v, .agg #[.int .i64 c.u, .int .i64 c.g, .slice A0 m k], .string (bA p)] w fun e w' => e = .returned (.tuple #[.string (bA X.1), .int .i64 X.2]) ∧ Below w.heap.size w w' := by
  have hb1 := ba w (.cells #[.int .i64 c.u, .int .i64 c.g, .slice A0 m k] 35)
  have hk1 := Blk.new w 35 #[.int .i64 c.u, .int .i64 c.g, .slice A0 m k]
  obtain ⟨W1, hW1⟩ : ∃ W1, w.alloc (.cells #[.int .i64 c.u, .int .i64 c.g, .slice A0 m k] 35) = W1 := ⟨_, rfl⟩
  rw [hW1] at hb1 hk1
  obtain ⟨SE, hSE⟩ : ∃ SE, staM t c p false = SE := ⟨_, rfl⟩
  obtain ⟨S, E⟩ := SE
  have HO := Lib.hid (ofPath_any v t c A0 m k p false W1 (h.below hb1) (hc.below hb1) (S, E) hSE)
  have HT := Lib.hid (h.below hb1)
  have HB1 := Lib.hid hb1
  have HE1 := Lib.hid (fun (q : E ≠ 0) => show ([], E) = X from (rdl_err hSE q).symm.trans hX)
  have HE2 := Lib.hid (fun (q : E = 0) (r : S.kind ≠ 3) => show ([], 22) = X from (rdl_kind (by rw [hSE, q]) r).symm.trans hX)
  have HE3 := Lib.hid (fun (q : E = 0) (r : S.kind = 3) => show ((tget t S.node).target, 0) = X from (rdl_good (by rw [hSE, q]) r).symm.trans hX)
  unfold stV stC at HO
  clear h hc hb1 hX hSE
  obtain ⟨k0, k1, k2⟩ := hk1.c3
  clear hk1
  go_enter Tryz.func108, Tryz.ntmps108
  go_wp2_with fail
  clear hW1
  refine HO.out.mono ?_
  rintro e w2 ⟨rfl, hb2⟩
  have hbx := al hb2 (.cells #[.int .i64 S.node, .int .i64 S.kind, .int .i64 S.mode, .int .i64 S.uid, .int .i64 S.gid, .int .i64 S.links, .int .i64 S.size] 53)
  have HB3 := Lib.hid (bt hbx HB1.out)
  have HT3 := Lib.hid (HT.out.below hbx)
  have hs3 := Blk.new w2 53 #[.int .i64 S.node, .int .i64 S.kind, .int .i64 S.mode, .int .i64 S.uid, .int .i64 S.gid, .int .i64 S.links, .int .i64 S.size]
  obtain ⟨z, hz⟩ : ∃ z, w2.heap.size = z := ⟨_, rfl⟩
  obtain ⟨W3, hW3⟩ : ∃ W3, w2.alloc (.cells #[.int .i64 S.node, .int .i64 S.kind, .int .i64 S.mode, .int .i64 S.uid, .int .i64 S.gid, .int .i64 S.links, .int .i64 S.size] 53) = W3 := ⟨_, rfl⟩
  rw [hW3] at HB3 HT3 hs3
  rw [hz] at hs3
  clear hb2 hbx HO HT k0 k1 k2
  obtain ⟨p0, p1, p2, p3, p4, p5, p6⟩ := hs3.c7
  clear hs3
  by_cases qE : E = 0
  · have qE1 : (E != 0) = false := by simpa using qE
    by_cases qK : S.kind = 3
    · have qK1 : (S.kind != 3) = false := by simpa using qK
      have HZ := Lib.hid (HE3.out qE qK)
      obtain ⟨n, hn⟩ : ∃ n, tget t S.node = n := ⟨_, rfl⟩
      have HG := Lib.hid (get_any v t S.node W3 HT3.out)
      rw [hn] at HG HZ
      generalize tis t S.node = q at HG
      unfold nodeV at HG
      clear qE qK hn HE1 HE2 HE3
      go_wp2_with fail
      clear hW3 hz
      refine HG.out.mono ?_
      rintro e w4 ⟨vd, ve, rfl, hd, he, -, -, hb4⟩
      obtain ⟨A5, k5, rfl⟩ := bytesT_form hd
      obtain ⟨A6, k6, rfl⟩ := entsT_form he
      have HB4 := Lib.hid (bt (al hb4 (.cells (ndC n (.slice A5 n.data.length k5) (.slice A6 n.ents.length k6)) 82)) HB3.out)
      clear hd he hb4 p0 p1 p2 p3 p4 p5 p6
      go_wp2
      go_ret2
      exact ⟨by rw [← HZ.out]; rfl, HB4.out⟩
    · have qK1 : (S.kind != 3) = true := by simpa using qK
      have HZ := Lib.hid (HE2.out qE qK)
      clear qE qK HE1 HE2 HE3
      go_wp2
      go_ret2
      exact ⟨by rw [← HZ.out]; rfl, HB3.out⟩
  · have qE1 : (E != 0) = true := by simpa using qE
    have HZ := Lib.hid (HE1.out qE)
    clear qE HE1 HE2 HE3
    go_wp2
    go_ret2
    exact ⟨by rw [← HZ.out]; rfl, HB3.out⟩
theorem strs_none (W : World) : StrsR W (.slice none 0 0) (nmA ([] : List Nm)) := ⟨none, 0, rfl, ⟨Nat.le_refl _, fun _ => rfl⟩, fun k s h => by simp [nmA] at h⟩
end Go.Proofs.YtkmkfolpjlkfoaaGreat
namespace Go.Proofs.YtkmkfolpjlkfoaaGreat
open Go Go.RowKit
set_option maxRecDepth 100000

attribute [local go_sem] cell_off4 cell_blk4
abbrev rwC (r : Rw) (vd : Value) : Array Value := #[.int .i64 r.kind, .int .i64 r.mode, .int .i64 r.uid, .int .i64 r.gid, .int .i64 r.parent, .string (bA r.name), vd, .string (bA r.target), .int .i64 r.node]
section
variable {w : World} {g : Nat} {t : TypeId} {a0 a1 a2 a3 a4 a5 a6 a7 a8 : Value}
theorem Blk.c9 (h : Blk w g t #[a0, a1, a2, a3, a4, a5, a6, a7, a8]) : w.cell? ⟨g, 0, none⟩ = some a0 ∧ w.cell? ⟨g, 1, none⟩ = some a1 ∧ w.cell? ⟨g, 2, none⟩ = some a2 ∧ w.cell? ⟨g, 3, none⟩ = some a3 ∧ w.cell? ⟨g, 4, none⟩ = some a4 ∧ w.cell? ⟨g, 5, none⟩ = some a5 ∧ w.cell? ⟨g, 6, none⟩ = some a6 ∧ w.cell? ⟨g, 7, none⟩ = some a7 ∧ w.cell? ⟨g, 8, none⟩ = some a8 := ⟨h.cell 0, h.cell 1, h.cell 2, h.cell 3, h.cell 4, h.cell 5, h.cell 6, h.cell 7, h.cell 8⟩
end
structure AtW (w : World) (b o : Nat) (r : Rw) (vd : Value) : Prop where
  c1 : w.cell? ⟨b, o + 1, none⟩ = some (.int .i64 r.mode)
  c2 : w.cell? ⟨b, o + 2, none⟩ = some (.int .i64 r.uid)
  c3 : w.cell? ⟨b, o + 3, none⟩ = some (.int .i64 r.gid)
  c4 : w.cell? ⟨b, o + 4, none⟩ = some (.int .i64 r.parent)
  c5 : w.cell? ⟨b, o + 5, none⟩ = some (.string (bA r.name))
  c6 : w.cell? ⟨b, o + 6, none⟩ = some vd
  c7 : w.cell? ⟨b, o + 7, none⟩ = some (.string (bA r.target))
  c8 : w.cell? ⟨b, o + 8, none⟩ = some (.int .i64 r.node)
theorem AtW.below {w w' : World} {b o : Nat} {r : Rw} {vd : Value} (h : AtW w b o r vd) (hb : Below w.heap.size w w') : AtW w' b o r vd :=
  ⟨bc hb h.c1, bc hb h.c2, bc hb h.c3, bc hb h.c4, bc hb h.c5, bc hb h.c6, bc hb h.c7, bc hb h.c8⟩
def RawsR (w : World) (v : Value) (l : List Rw) : Prop := ∃ A c, v = .slice A l.length c ∧ ∀ (k : Nat) (r : Rw), l[k]? = some r → ∃ (ad : Addr) (vd : Value), A = some ad ∧
  w.cell? (ad.add (k * 9)) = some (.int .i64 r.kind) ∧ AtW w (ad.add (k * 9)).block (ad.add (k * 9)).off r vd ∧ BytesR w vd r.data
theorem RawsR.below {w w' : World} {v : Value} {l : List Rw} (h : RawsR w v l) (hb : Below w.heap.size w w') : RawsR w' v l := by
  obtain ⟨A, c, hv, hc⟩ := h
  refine ⟨A, c, hv, fun k r hk => ?_⟩
  obtain ⟨ad, vd, hA, h0, h1, h2⟩ := hc k r hk
  exact ⟨ad, vd, hA, bc hb h0, h1.below hb, h2.below hb⟩
theorem raws_form {w : World} {v : Value} {l : List Rw} (h : RawsR w v l) : ∃ A c, v = .slice A l.length c := by
  obtain ⟨A, c, rfl, -⟩ := h
  exact ⟨A, c, rfl⟩
theorem raws_get {w : World} {A : Option Addr} {n c : Nat} {l : List Rw} (h : RawsR w (.slice A n c) l) {k : Nat} {r : Rw} (hk : l[k]? = some r) : ∃ (ad : Addr) (vd : Value), A = some ad ∧
    w.cell? (ad.add (k * 9)) = some (.int .i64 r.kind) ∧ AtW w (ad.add (k * 9)).block (ad.add (k * 9)).off r vd ∧ BytesR w vd r.data := by
  obtain ⟨A', c', hv, hc⟩ := h
  injection hv with hA
  subst hA
  exact hc k r hk
def shortR (r : Rw) : Prop := r.name.length ≤ 40 ∧ r.data.length ≤ 100 ∧ r.target.length ≤ 100
def fewR (l : List Rw) : Prop := (∀ r ∈ l, shortR r) ∧ l.length ≤ 50
theorem shortR.few {r : Rw} (h : shortR r) : Few r.nd := ⟨by have := h.2.1; show r.data.length ≤ _; omega, Nat.zero_le _, (fun e he => by cases he), by have := h.2.2; show r.target.length ≤ _; omega⟩
set_option maxHeartbeats 4000000 in
theorem nodeOf_any (r : Rw) (A : Option Addr) (n c : Nat) (w : World) :
    Calls Tryz.prog 104 #[.agg (rwC r (.slice A n c))] w fun e w' => e = .returned (nodeV r.nd (.slice A n c) (.slice none 0 0)) ∧ Below w.heap.size w w' := by
  obtain ⟨W1, hW1⟩ : ∃ W1, W1 = (w.alloc (.cells (rwC r (.slice A n c)) 91)).alloc (.cells ndZ 82) := ⟨_, rfl⟩
  have hb1 : Below w.heap.size w W1 := by rw [hW1]; exact al (ba _ _) _
  have hkb : Blk W1 w.heap.size 91 (rwC r (.slice A n c)) := by rw [hW1]; exact (Blk.new _ _ _).alloc _
  have hkr : Blk W1 (w.heap.size + 1) 82 ndZ := by rw [hW1]; have := Blk.new (w.alloc (.cells (rwC r (.slice A n c)) 91)) 82 ndZ; simpa using this
  have HB := Lib.hid (below_grown hb1 (grown7 W1 (w.heap.size + 1) (.int .i64 r.kind) (.int .i64 r.mode) (.int .i64 r.uid) (.int .i64 r.gid) (.slice A n c) (.slice none 0 0) (.string (bA r.target))) (Nat.le_succ _))
  obtain ⟨p0, p1, p2, p3, p4, p5, p6, p7, p8⟩ := hkb.c9
  obtain ⟨f0, f1, f2, f3, f4, f5, f6⟩ := hkr.f7
  obtain ⟨r0, r1, r2, r3, r4, r5, r6⟩ := hkr.c7
  obtain ⟨s0, s1, s2, s3, s4, s5, s6⟩ := hkr.s7
  clear hb1 hkb hkr
  have hW2 := hW1.symm
  clear hW1
  go_enter Tryz.func104, Tryz.ntmps104
  go_wp2
  exact bodyPost_ret (v := nodeV r.nd (.slice A n c) (.slice none 0 0)) (by simp [results, Tryz.results104, go_sem, nodeV, Rw.nd, s0, s1, s2, s3, s4, s5, s6]) rfl ⟨rfl, HB.out⟩
end Go.Proofs.YtkmkfolpjlkfoaaGreat
namespace Go.Proofs.YtkmkfolpjlkfoaaGreat
open Go Go.RowKit
set_option maxRecDepth 100000

attribute [local go_sem] cell_off4 cell_blk4
theorem en_new {t : List Nd} {r : Rw} (h : ¬ r.kind = 4) (i : Int) : enE t r = addE t (toB (rightP r.nd)) ∧ enI t r = addI t (toB (rightP r.nd)) ∧ enT t r = actT t 1 i r.nd (toB (rightP r.nd)) := by
  have h1 : enE t r = addE t (toB (rightP r.nd)) := by unfold enE; rw [if_neg h]
  refine ⟨h1, ?_, ?_⟩
  · unfold enI
    rw [h1, if_neg h]
    unfold addI addE
    by_cases q : rightP r.nd
    · rw [toB_true q, if_neg (show ¬ (true = false) by decide), if_pos (show true = true from rfl)]
      by_cases q2 : freeT t 0 = 0
      · rw [if_pos q2, if_neg (show ¬ (28 : Int) = 0 by decide), q2]; rfl
      · rw [if_neg q2, if_pos rfl]
    · rw [toB_false q, if_pos rfl, if_neg (show ¬ (22 : Int) = 0 by decide), if_neg (show ¬ (false = true) by decide)]
  · unfold enT
    rw [h1, if_neg h]
    unfold actT addE
    rw [if_neg (show ¬ (1 : Int) = 0 by decide), if_pos rfl]
    by_cases q : rightP r.nd
    · rw [toB_true q, if_neg (show ¬ (true = false) by decide)]
      by_cases q2 : freeT t 0 = 0
      · rw [if_pos q2, if_neg (show ¬ (28 : Int) = 0 by decide), if_neg (fun h => h.2 q2)]
      · rw [if_neg q2, if_pos rfl, if_pos ⟨rfl, q2⟩]
    · rw [toB_false q, if_pos rfl, if_neg (show ¬ (22 : Int) = 0 by decide), if_neg (fun h => absurd h.1 (by decide))]
theorem ret_two {a b c d : Int} (h1 : a = c) (h2 : b = d) : Ending.returned (.tuple #[.int .i64 a, .int .i64 b]) = .returned (.tuple #[.int .i64 c, .int .i64 d]) := by rw [h1, h2]
set_option maxHeartbeats 4000000 in
theorem entry_any (g : Nat) (t : List Nd) (r : Rw) (A : Option Addr) (c : Nat) (w : World) (h : TabR w g t (fun _ => True)) (hd : BytesR w (.slice A r.data.length c) r.data) (hs : shortR r) :
    Calls Tryz.prog 100 #[.pointer (some ⟨g, 0, none⟩), .agg (rwC r (.slice A r.data.length c))] w fun e w' => e = .returned (.tuple #[.int .i64 (enI t r), .int .i64 (enE t r)]) ∧ TabR w' g (enT t r) (fun _ => True) ∧ w.grownBy w' (some g) := by
  obtain ⟨W1, hW1⟩ : ∃ W1, w.alloc (.cells (rwC r (.slice A r.data.length c)) 91) = W1 := ⟨_, rfl⟩
  have hb1 : Below w.heap.size w W1 := by rw [← hW1]; exact ba _ _
  have hk1 : Blk W1 w.heap.size 91 (rwC r (.slice A r.data.length c)) := by rw [← hW1]; exact Blk.new _ _ _
  have HB := Lib.hid hb1
  have HT := Lib.hid (h.below hb1)
  have HD := Lib.hid (hd.below hb1)
  have HK := Lib.hid hk1
  obtain ⟨p0, p1, p2, p3, p4, p5, p6, p7, p8⟩ := hk1.c9
  clear h hd hb1 hk1
  by_cases h4 : r.kind = 4
  · have e4 : (r.kind != 4) = false := by simpa using h4
    have HG := Lib.hid (get_any _ t r.node W1 HT.out.ptr)
    have hET : enT t r = t := by
      unfold enT
      rw [if_pos h4]
      split <;> rfl
    rw [hET]
    have HE := Lib.hid (show enE t r = if tis t r.node = false then 2 else if (tget t r.node).kind = 2 then 1 else 0 by unfold enE; rw [if_pos h4])
    have HI := Lib.hid (show enI t r = if enE t r = 0 then r.node else 0 by unfold enI; rw [if_pos h4])
    clear h4 hET
    generalize enE t r = X at HE HI ⊢
    generalize enI t r = I at HI ⊢
    generalize tget t r.node = n at HG HE
    go_enter Tryz.func100, Tryz.ntmps100
    go_wp2_with fail
    clear hW1
    refine HG.out.mono ?_
    rintro e w2 ⟨vd, ve, rfl, hd2, he2, -, -, hb2⟩
    obtain ⟨A5, k5, rfl⟩ := bytesT_form hd2
    obtain ⟨A6, k6, rfl⟩ := entsT_form he2
    have hkr := (HK.out.below hb2).alloc (.cells (ndC n (.slice A5 n.data.length k5) (.slice A6 n.ents.length k6)) 82)
    have hkn := Blk.new w2 82 (ndC n (.slice A5 n.data.length k5) (.slice A6 n.ents.length k6))
    have HB2 := Lib.hid (al (bt hb2 HB.out) (.cells (ndC n (.slice A5 n.data.length k5) (.slice A6 n.ents.length k6)) 82))
    have HT2 := Lib.hid (HT.out.below (al hb2 (.cells (ndC n (.slice A5 n.data.length k5) (.slice A6 n.ents.length k6)) 82)))
    obtain ⟨W3, hW3⟩ : ∃ W3, w2.alloc (.cells (ndC n (.slice A5 n.data.length k5) (.slice A6 n.ents.length k6)) 82) = W3 := ⟨_, rfl⟩
    rw [hW3] at hkr hkn HB2 HT2
    clear p0 p1 p2 p3 p4 p5 p6 p7 p8
    obtain ⟨p0, p1, p2, p3, p4, p5, p6, p7, p8⟩ := hkr.c9
    have n0 := hkn.c7.1
    clear hkr hkn hd2 he2 hb2
    unfold nodeV
    cases hX : tis t r.node
    · have hE := HE.out
      rw [hX, if_pos rfl] at hE
      have HI2 := Lib.hid (show (0 : Int) = I by rw [HI.out, hE]; rfl)
      have HE2 := Lib.hid hE.symm
      clear hE hX
      go_wp2
      go_ret2
      exact ⟨ret_two HI2.out HE2.out, HT2.out, grown_below HB2.out _⟩
    · have hE := HE.out
      rw [hX, if_neg (by decide)] at hE
      clear hX
      by_cases q : n.kind = 2
      · have e2 : (n.kind == 2) = true := by simpa using q
        rw [if_pos q] at hE
        have HI2 := Lib.hid (show (0 : Int) = I by rw [HI.out, hE]; rfl)
        have HE2 := Lib.hid hE.symm
        clear hE q
        go_wp2
        go_ret2
        exact ⟨ret_two HI2.out HE2.out, HT2.out, grown_below HB2.out _⟩
      · have e2 : (n.kind == 2) = false := by simpa using q
        rw [if_neg q] at hE
        have HI2 := Lib.hid (show r.node = I by rw [HI.out, hE]; rfl)
        have HE2 := Lib.hid hE.symm
        clear hE q
        go_wp2
        go_ret2
        exact ⟨ret_two HI2.out HE2.out, HT2.out, grown_below HB2.out _⟩
  · have e4 : (r.kind != 4) = true := by simpa using h4
    obtain ⟨h1, h2, h3⟩ := en_new (t := t) h4 0
    rw [h1, h2, h3]
    have HN := Lib.hid (nodeOf_any r A r.data.length c W1)
    have HA := Lib.hid (fun W (hb : Below W1.heap.size W1 W) => add_any g t (fun _ => True) r.nd (.slice A r.data.length c) (.slice none 0 0) W (HT.out.below hb) (HD.out.below hb) (EntsR.nil W) hs.few (fun _ _ => trivial) 0)
    clear h1 h2 h3 h4 hs
    go_enter Tryz.func100, Tryz.ntmps100
    go_wp2_with fail
    clear hW1
    refine HN.out.mono ?_
    rintro e w2 ⟨rfl, hb2⟩
    have HB2 := Lib.hid (bt hb2 HB.out)
    have HC := Lib.hid (HA.out w2 hb2)
    clear hb2 HA
    unfold nodeV at HC ⊢
    go_wp2_with fail
    refine HC.out.mono ?_
    rintro e w3 ⟨rfl, ht3, hg3⟩
    have HT3 := Lib.hid ht3
    have HG3 := Lib.hid (grown_trans (grown_below HB2.out (some g)) hg3)
    clear ht3 hg3
    go_wp2
    go_ret2
    exact ⟨rfl, HT3.out, HG3.out⟩
theorem grown_new {a b c : World} {g d : Nat} (h : a.grownBy b (some g)) (h' : b.grownBy c (some d)) (hd : a.heap.size ≤ d) : a.grownBy c (some g) :=
  ⟨h'.os.trans h.os, h'.tape.trans h.tape, h'.output.trans h.output, Nat.le_trans h.size h'.size, fun i hi hne => (h'.block i (Nat.lt_of_lt_of_le hi h.size) (by intro e; injection e with e; omega)).trans (h.block i hi hne)⟩
set_option maxHeartbeats 4000000 in
theorem root_any (g : Nat) (t : List Nd) (r : Rw) (A : Option Addr) (c : Nat) (w : World) (h : TabR w g t (fun _ => True)) (hd : BytesR w (.slice A r.data.length c) r.data) (hs : shortR r) :
    Calls Tryz.prog 56 #[.pointer (some ⟨g, 0, none⟩), .agg (rwC r (.slice A r.data.length c))] w fun e w' => e = .returned (.int .i64 (rtE t r)) ∧ w.grownBy w' (some g) ∧ (rtE t r = 0 → TabR w' g (rtT t r) (fun _ => True)) := by
  obtain ⟨W1, hW1⟩ : ∃ W1, w.alloc (.cells (rwC r (.slice A r.data.length c)) 91) = W1 := ⟨_, rfl⟩
  have hb1 : Below w.heap.size w W1 := by rw [← hW1]; exact ba _ _
  have hk1 : Blk W1 w.heap.size 91 (rwC r (.slice A r.data.length c)) := by rw [← hW1]; exact Blk.new _ _ _
  have HB := Lib.hid hb1
  have HT := Lib.hid (h.below hb1)
  have HD := Lib.hid (hd.below hb1)
  obtain ⟨p0, p1, p2, p3, p4, p5, p6, p7, p8⟩ := hk1.c9
  clear h hd hb1 hk1
  have HN := Lib.hid (nodeOf_any r A r.data.length c W1)
  have HA := Lib.hid (fun W (hb : Below W1.heap.size W1 W) => add_any g t (fun _ => True) r.nd (.slice A r.data.length c) (.slice none 0 0) W (HT.out.below hb) (HD.out.below hb) (EntsR.nil W) hs.few (fun _ _ => trivial) 0)
  by_cases q : r.kind ≠ 2 ∨ r.parent ≠ 0 ∨ r.name ≠ []
  · have hE : rtE t r = 22 := by unfold rtE; rw [if_pos q]
    rw [hE]
    have HX := Lib.hid (show (22 : Int) = 0 → ∀ W, TabR W g (rtT t r) (fun _ => True) from fun h => absurd h (by decide))
    clear hE hs HN HA
    by_cases q1 : r.kind = 2
    · have e1 : (r.kind != 2) = false := by simpa using q1
      by_cases q2 : r.parent = 0
      · have e2 : (r.parent != 0) = false := by simpa using q2
        have q3 : r.name ≠ [] := by
          rcases q with q | q | q
          · exact absurd q1 q
          · exact absurd q2 q
          · exact q
        have e3 : ((bA r.name).toList == ([] : List UInt8)) = false := by
          rw [Bool.eq_false_iff]
          intro h
          exact q3 ((len0_iff _).1 h)
        have e4 : ((bA r.name).toList != ([] : List UInt8)) = true := by
          show (!((bA r.name).toList == ([] : List UInt8))) = true
          rw [e3]; rfl
        clear q q1 q2 q3
        go_enter Tryz.func56, Tryz.ntmps56
        go_wp2
        go_ret
        exact ⟨rfl, grown_below HB.out _, fun h => HX.out h _⟩
      · have e2 : (r.parent != 0) = true := by simpa using q2
        clear q q1 q2
        go_enter Tryz.func56, Tryz.ntmps56
        go_wp2
        go_ret
        exact ⟨rfl, grown_below HB.out _, fun h => HX.out h _⟩
    · have e1 : (r.kind != 2) = true := by simpa using q1
      clear q q1
      go_enter Tryz.func56, Tryz.ntmps56
      go_wp2
      go_ret
      exact ⟨rfl, grown_below HB.out _, fun h => HX.out h _⟩
  · have hE : rtE t r = addE t (toB (rightP r.nd)) := by unfold rtE; rw [if_neg q]
    have q1 : r.kind = 2 := Classical.byContradiction (fun z => q (.inl z))
    have q2 : r.parent = 0 := Classical.byContradiction (fun z => q (.inr (.inl z)))
    have q3 : r.name = [] := Classical.byContradiction (fun z => q (.inr (.inr z)))
    have e1 : (r.kind != 2) = false := by simpa using q1
    have e2 : (r.parent != 0) = false := by simpa using q2
    have e3 : ((bA r.name).toList == ([] : List UInt8)) = true := (len0_iff _).2 q3
    have e4 : ((bA r.name).toList != ([] : List UInt8)) = false := by
      show (!((bA r.name).toList == ([] : List UInt8))) = false
      rw [e3]; rfl
    rw [hE]
    have HX := Lib.hid (show addE t (toB (rightP r.nd)) = 0 → rtT t r = actT t 1 0 r.nd (toB (rightP r.nd)) from fun h => by
      obtain ⟨h1, h2⟩ := addE_zero.1 h
      unfold rtT actT
      rw [if_neg (show ¬ (1 : Int) = 0 by decide), if_pos rfl, toB_true h1, if_pos ⟨rfl, h2⟩])
    clear q q1 q2 q3 hE hs
    go_enter Tryz.func56, Tryz.ntmps56
    go_wp2_with fail
    clear hW1
    refine HN.out.mono ?_
    rintro e w2 ⟨rfl, hb2⟩
    have HB2 := Lib.hid (bt hb2 HB.out)
    have HC := Lib.hid (HA.out w2 hb2)
    clear hb2 HA
    unfold nodeV at HC ⊢
    go_wp2_with fail
    refine HC.out.mono ?_
    rintro e w3 ⟨rfl, ht3, hg3⟩
    have HT3 := Lib.hid ht3
    have HG3 := Lib.hid (grown_trans (grown_below HB2.out (some g)) hg3)
    clear ht3 hg3
    go_wp2
    go_ret
    exact ⟨rfl, HG3.out, fun h => by rw [HX.out h]; exact HT3.out⟩
set_option maxHeartbeats 8000000 in
theorem below_any (g : Nat) (t : List Nd) (r : Rw) (A : Option Addr) (c : Nat) (w : World) (h : TabR w g t (fun _ => True)) (hd : BytesR w (.slice A r.data.length c) r.data) (hs : shortR r) :
    Calls Tryz.prog 55 #[.pointer (some ⟨g, 0, none⟩), .agg (rwC r (.slice A r.data.length c))] w fun e w' => e = .returned (.int .i64 (blE t r)) ∧ w.grownBy w' (some g) ∧ (blE t r = 0 → TabR w' g (blT t r) (fun _ => True)) := by
  obtain ⟨W1, hW1⟩ : ∃ W1, w.alloc (.cells (rwC r (.slice A r.data.length c)) 91) = W1 := ⟨_, rfl⟩
  have hb1 : Below w.heap.size w W1 := by rw [← hW1]; exact ba _ _
  have hk1 : Blk W1 w.heap.size 91 (rwC r (.slice A r.data.length c)) := by rw [← hW1]; exact Blk.new _ _ _
  have HGW := Lib.hid h.lt
  have HB := Lib.hid hb1
  have HT := Lib.hid (h.below hb1)
  have HDD := Lib.hid (show BytesR W1 (.slice A r.data.length c) r.data from hd.below hb1)
  have HK := Lib.hid hk1
  have HGW1 := Lib.hid hk1.lt
  have HS := Lib.hid hs
  obtain ⟨p0, p1, p2, p3, p4, p5, p6, p7, p8⟩ := hk1.c9
  have HG := Lib.hid (get_any _ t r.parent W1 HT.out.ptr)
  have HFD := Lib.hid (ok_few h.ok r.parent)
  have HRT := Lib.hid (show tis t r.parent = true → enE t r = 0 → withE (tget t r.parent) r.name (enI t r) = 0 → rightP (withM (tget t r.parent) r.name (enI t r)) from fun h1 _ h3 => (right_with (tis_right h.ok h1) h3).1)
  have HBL := Lib.hid (show blE t r = if tis t r.parent = false then 2 else if enE t r = 0 then withE (tget t r.parent) r.name (enI t r) else enE t r from rfl)
  have HBT := Lib.hid (show tis t r.parent = true → rightP (withM (tget t r.parent) r.name (enI t r)) → actT (enT t r) 0 r.parent (withM (tget t r.parent) r.name (enI t r)) (toB (rightP (withM (tget t r.parent) r.name (enI t r)))) = blT t r ∧ putE (enT t r) r.parent (toB (rightP (withM (tget t r.parent) r.name (enI t r)))) = 0 from fun h1 h2 => by
    have h3 : tis (enT t r) r.parent = true := en_tis h1
    constructor
    · unfold actT blT
      rw [if_pos rfl, if_pos ⟨h3, toB_true h2⟩]
    · unfold putE
      rw [h3, toB_true h2]
      rfl)
  have HEN := Lib.hid (fun W (ht : TabR W g t (fun _ => True)) (hb : BytesR W (.slice A r.data.length c) r.data) => entry_any g t r A c W ht hb HS.out)
  generalize blE t r = Z at HBL ⊢
  generalize blT t r = T2 at HBT ⊢
  generalize enE t r = X at HRT HBL HEN
  generalize enI t r = I at HRT HBL HBT HEN
  generalize enT t r = T1 at HBT HEN
  clear h hd hb1 hk1 hs
  obtain ⟨n, hn⟩ : ∃ n, tget t r.parent = n := ⟨_, rfl⟩
  rw [hn] at HG HRT HBL HBT HFD
  go_enter Tryz.func55, Tryz.ntmps55
  go_wp2_with fail
  clear hW1 hn
  refine HG.out.mono ?_
  rintro e w2 ⟨vd, ve, rfl, hd2, he2, hl2, hm2, hb2⟩
  obtain ⟨A5, k5, rfl⟩ := bytesT_form hd2
  obtain ⟨A6, k6, rfl⟩ := entsT_form he2
  have hbx := al hb2 (.cells (ndC n (.slice A5 n.data.length k5) (.slice A6 n.ents.length k6)) 82)
  have hbw := ba w2 (.cells (ndC n (.slice A5 n.data.length k5) (.slice A6 n.ents.length k6)) 82)
  have hkr := HK.out.below hbx
  have hkn := Blk.new w2 82 (ndC n (.slice A5 n.data.length k5) (.slice A6 n.ents.length k6))
  have hd3 := hd2.below hbw
  have he3 := he2.below hbw
  have ht3 := HT.out.below hbx
  have hdd3 := HDD.out.below hbx
  have HB3 := Lib.hid (bt hbx HB.out)
  obtain ⟨d, hdz⟩ : ∃ d, w2.heap.size = d := ⟨_, rfl⟩
  have HDG := Lib.hid (show d ≠ g ∧ w.heap.size < d by have := HGW.out; have := HGW1.out; have := hb2.size; constructor <;> omega)
  obtain ⟨W3, hW3⟩ : ∃ W3, w2.alloc (.cells (ndC n (.slice A5 n.data.length k5) (.slice A6 n.ents.length k6)) 82) = W3 := ⟨_, rfl⟩
  rw [hW3] at hkr hkn hd3 he3 ht3 hdd3 HB3
  rw [hdz] at hkn
  have HKR := Lib.hid hkr
  have HKN := Lib.hid hkn
  have HD3 := Lib.hid hd3
  have HE3 := Lib.hid he3
  have HC3 := Lib.hid (HEN.out W3 ht3 hdd3)
  have HL2 := Lib.hid (show (∀ (ad : Addr) (m c : Nat), Value.slice A5 n.data.length k5 = .slice (some ad) m c → ad.block ≠ g) ∧ (∀ (ad : Addr) (m c : Nat), Value.slice A6 n.ents.length k6 = .slice (some ad) m c → ad.block ≠ g) from
    ⟨fun ad m c hv => by have h1 := hl2 ad m c hv; have := HGW.out; have := HB.out.size; omega, fun ad m c hv => by have h1 := hm2 ad m c hv; have := HGW.out; have := HB.out.size; omega⟩)
  clear p0 p1 p2 p3 p4 p5 p6 p7 p8
  obtain ⟨p0, p1, p2, p3, p4, p5, p6, p7, p8⟩ := hkr.c9
  clear hkr hkn hd2 he2 hb2 hbx hbw hd3 he3 ht3 hdd3 hl2 hm2 HG HEN HT HDD HK
  unfold nodeV
  cases hX : tis t r.parent
  · have hZ := HBL.out
    rw [hX, if_pos rfl] at hZ
    have HZ := Lib.hid hZ.symm
    clear hZ hX
    go_wp2
    go_ret
    exact ⟨ret_int HZ.out, grown_below HB3.out _, fun h => by rw [← HZ.out] at h; exact absurd h (by decide)⟩
  · have hZ := HBL.out
    rw [hX, if_neg (by decide)] at hZ
    have HBT2 := Lib.hid (HBT.out hX)
    have HRT2 := Lib.hid (HRT.out hX)
    clear hX HBL HBT HRT
    go_wp2_with fail
    clear hW3 hdz
    refine HC3.out.mono ?_
    rintro e w4 ⟨rfl, ht4, hg4⟩
    have hkr4 := HKR.out.kept hg4 (by intro e; injection e with e; have := HGW.out; omega)
    have hkn4 := HKN.out.kept hg4 (by intro e; injection e with e; exact HDG.out.1 e)
    have hd4 := HD3.out.other hg4 HL2.out.1
    have he4 := HE3.out.other hg4 HL2.out.2
    have hgw4 := grown_trans (grown_below HB3.out (some g)) hg4
    have HGW4 := Lib.hid hgw4
    have HKR4 := Lib.hid hkr4
    have HKN4 := Lib.hid hkn4
    have HT4 := Lib.hid ht4
    clear p0 p1 p2 p3 p4 p5 p6 p7 p8
    obtain ⟨p0, p1, p2, p3, p4, p5, p6, p7, p8⟩ := hkr4.c9
    obtain ⟨n0, n1, n2, n3, n4, n5, n6⟩ := hkn4.c7
    by_cases qX : X = 0
    · subst qX
      rw [if_pos rfl] at hZ
      have HC5 := Lib.hid (with_anyT n _ _ r.name I w4 hd4.1 he4.1 HFD.out.data HFD.out.ents (by have := HS.out.1; omega))
      have HRT3 := Lib.hid (HRT2.out rfl)
      clear hkr4 hkn4 hd4 he4 ht4 hg4 hgw4 HC3 HD3 HE3 HKR HKN HRT2
      rw [← hZ] at HC5 HRT3
      generalize withM n r.name I = N at HC5 HRT3 HBT2
      unfold nodeV at HC5
      go_wp2_with fail
      refine HC5.out.mono ?_
      rintro e w5 ⟨v, rfl, ⟨vd5, ve5, rfl, hx5, hy5⟩, hb5⟩
      obtain ⟨A7, k7, rfl⟩ := bytesX_form hx5
      obtain ⟨A8, k8, rfl⟩ := entsT_form hy5
      have hkr5 := HKR4.out.below hb5
      have hkn5 := HKN4.out.below hb5
      obtain ⟨W6, hW6⟩ : ∃ W6, put7 w5 d (.int .i64 N.kind) (.int .i64 N.mode) (.int .i64 N.uid) (.int .i64 N.gid) (.slice A7 N.data.length k7) (.slice A8 N.ents.length k8) (.string (bA N.target)) = W6 := ⟨_, rfl⟩
      have hg6 : w5.grownBy W6 (some d) := by rw [← hW6]; exact grown7 _ _ _ _ _ _ _ _ _
      have hkn6 : Blk W6 d 82 (ndC N (.slice A7 N.data.length k7) (.slice A8 N.ents.length k8)) := by rw [← hW6]; exact hkn5.put7 _ _ _ _ _ _ _
      have hkr6 := hkr5.kept hg6 (by intro e; injection e with e; have := HDG.out.2; omega)
      have HT6 := Lib.hid ((HT4.out.below hb5).kind hg6 (fun e => HDG.out.1 e.symm) hkn5 (by decide) (by decide))
      have HX6 := Lib.hid (hx5.kept hkn5 (by decide) hg6)
      have HY6 := Lib.hid (hy5.kept hkn5 (by decide) hg6)
      have HGW6 := Lib.hid (show w.grownBy W6 (some g) from grown_new (grown_trans HGW4.out (grown_below hb5 (some g))) hg6 (Nat.le_of_lt HDG.out.2))
      clear n0 n1 n2 n3 n4 n5 n6 p0 p1 p2 p3 p4 p5 p6 p7 p8
      obtain ⟨f0, f1, f2, f3, f4, f5, f6⟩ := hkn5.f7
      obtain ⟨m0, m1, m2, m3, m4, m5, m6⟩ := hkn5.c7
      obtain ⟨n0, n1, n2, n3, n4, n5, n6⟩ := hkn6.c7
      obtain ⟨p0, p1, p2, p3, p4, p5, p6, p7, p8⟩ := hkr6.c9
      unfold put7 at hW6
      clear hkr5 hkn5 hkn6 hkr6 hx5 hy5 hb5 hg6 HC5 HKR4 HKN4 HT4
      unfold nodeV
      by_cases qZ : Z = 0
      · have eZ : (Z != 0) = false := by simpa using qZ
        have HRN := Lib.hid (HRT3.out qZ)
        have HPT := Lib.hid (HBT2.out HRN.out)
        have HC7 := Lib.hid (put_any g T1 (fun _ => True) r.parent N _ _ W6 HT6.out HX6.out.bytes HY6.out.1 (right_few HRN.out) (fun _ _ => trivial))
        rw [HPT.out.1, HPT.out.2] at HC7
        unfold nodeV at HC7
        have HZ := Lib.hid qZ
        clear qZ hZ HRT3 HBT2
        go_wp2_with fail
        clear hW6
        refine HC7.out.mono ?_
        rintro e w7 ⟨rfl, ht7, hg7⟩
        have HT7 := Lib.hid ht7
        have HG7 := Lib.hid (grown_trans HGW6.out hg7)
        clear ht7 hg7
        go_wp2
        go_ret
        exact ⟨ret_int HZ.out.symm, HG7.out, fun _ => HT7.out⟩
      · have eZ : (Z != 0) = true := by simpa using qZ
        have HZ := Lib.hid qZ
        clear qZ hZ HBT2 HRT3
        go_wp2
        go_ret
        exact ⟨rfl, HGW6.out, fun h => absurd h HZ.out⟩
    · rw [if_neg qX] at hZ
      subst hZ
      have eX : (Z != 0) = true := by simpa using qX
      have HX := Lib.hid qX
      clear qX hkr4 hkn4 hd4 he4 ht4 hg4 hgw4 HC3 HRT2 HBT2
      go_wp2
      go_ret
      exact ⟨rfl, HGW4.out, fun h => absurd h HX.out⟩
end Go.Proofs.YtkmkfolpjlkfoaaGreat
namespace Go.Proofs.YtkmkfolpjlkfoaaGreat
open Go Go.RowKit
set_option maxRecDepth 100000

attribute [local go_sem] cell_off4 cell_blk4
def BldAns (w : World) (X : BR) (e : Ending) (w' : World) : Prop :=
  match X with
  | .bad k err => e = .returned (.tuple #[.pointer none, .int .i64 (k : Int), .int .i64 err]) ∧ err ≠ 0
  | .good T => ∃ g, e = .returned (.tuple #[.pointer (some ⟨g, 0, none⟩), .int .i64 0, .int .i64 0]) ∧ TabR w' g T (fun _ => True) ∧ w.heap.size ≤ g
theorem bad_ans {w w' : World} {X : BR} {k : Nat} {err : Int} (h : X = .bad k err) (hne : err ≠ 0) : BldAns w X (.returned (.tuple #[.pointer none, .int .i64 (k : Int), .int .i64 err])) w' := by
  subst h
  exact ⟨rfl, hne⟩
theorem good_ans {w w' : World} {X : BR} {g : Nat} {T : List Nd} (h : X = .good T) (ht : TabR w' g T (fun _ => True)) (hg : w.heap.size ≤ g) : BldAns w X (.returned (.tuple #[.pointer (some ⟨g, 0, none⟩), .int .i64 0, .int .i64 0])) w' := by
  subst h
  exact ⟨g, rfl, ht, hg⟩
theorem drop_cons' {α : Type} {l : List α} {k : Nat} {x : α} (h : l[k]? = some x) : l.drop k = x :: l.drop (k + 1) := by
  obtain ⟨h1, h2⟩ := List.getElem?_eq_some_iff.1 h
  rw [List.drop_eq_getElem_cons h1, h2]
def BldAt (m : Int) (l : List Rw) (k : Nat) (T : List Nd) : Prop := (k = 0 ∧ T = newN m) ∨ (1 ≤ k ∧ bld T k (l.drop k) = bldA m l)
theorem bldAt_end {m : Int} {l : List Rw} {k : Nat} {T : List Nd} (h : BldAt m l k T) (hl : l ≠ []) (hk : l.length ≤ k) : bldA m l = .good T := by
  rcases h with ⟨rfl, -⟩ | ⟨h1, h2⟩
  · cases l with
    | nil => exact absurd rfl hl
    | cons a l => exact absurd hk (by simp)
  · rw [← h2, List.drop_eq_nil_of_le hk]
    rfl
theorem bldAt_root {m : Int} {l : List Rw} {r : Rw} (hr : l[0]? = some r) : (rtE (newN m) r = 0 → BldAt m l 1 (rtT (newN m) r)) ∧ (rtE (newN m) r ≠ 0 → bldA m l = .bad 0 (rtE (newN m) r)) := by
  cases l with
  | nil => cases hr
  | cons a l =>
    have : a = r := by simpa using hr
    subst this
    constructor
    · intro h
      refine .inr ⟨Nat.le_refl _, ?_⟩
      rw [bldA, if_pos h]
      rfl
    · intro h
      rw [bldA, if_neg h]
theorem bldAt_step {m : Int} {l : List Rw} {k : Nat} {T : List Nd} {r : Rw} (h : BldAt m l k T) (hk : k ≠ 0) (hr : l[k]? = some r) : (blE T r = 0 → BldAt m l (k + 1) (blT T r)) ∧ (blE T r ≠ 0 → bldA m l = .bad k (blE T r)) := by
  rcases h with ⟨h1, -⟩ | ⟨h1, h2⟩
  · exact absurd h1 hk
  · rw [drop_cons' hr, bld] at h2
    constructor
    · intro h
      rw [if_pos h] at h2
      exact .inr ⟨by omega, h2⟩
    · intro h
      rw [if_neg h] at h2
      exact h2.symm
set_option maxHeartbeats 8000000 in
theorem build_any (m : Int) (v : Value) (l : List Rw) (w : World) (h : RawsR w v l) (hf : fewR l) :
    Calls Tryz.prog 27 #[.int .i64 m, v] w fun e w' => BldAns w (bldA m l) e w' ∧ Below w.heap.size w w' := by
  obtain ⟨A, c, rfl⟩ := raws_form h
  have hlen := hf.2
  by_cases hz : l.length = 0
  · have hl0 : l = [] := List.length_eq_zero_iff.1 hz
    subst hl0
    clear h hf hlen hz
    go_enter Tryz.func27, Tryz.ntmps27
    go_wp2
    go_ret3
    exact ⟨⟨rfl, by decide⟩, Below.refl _ _⟩
  · have hzb : ((l.length : Int) == 0) = false := by simpa using hz
    have HNE := Lib.hid (show l ≠ [] from fun q => hz (by rw [q]; rfl))
    have HF := Lib.hid hf.1
    have HA := Lib.hid h
    obtain ⟨X, hX⟩ : ∃ X, bldA m l = X := ⟨_, rfl⟩
    have HST := Lib.hid (fun (k : Nat) (T : List Nd) (r : Rw) (h : BldAt m l k T) (hk : k ≠ 0) (hr : l[k]? = some r) => bldAt_step h hk hr)
    have HEND := Lib.hid (fun (k : Nat) (T : List Nd) (h : BldAt m l k T) (hk : l.length ≤ k) => bldAt_end h HNE.out hk)
    have HRO := Lib.hid (fun (r : Rw) (hr : l[0]? = some r) => bldAt_root (m := m) hr)
    rw [hX] at HST HEND HRO ⊢
    clear h hf hX hz
    go_enter Tryz.func27, Tryz.ntmps27
    go_wp2_with fail
    refine (new_any m w).mono ?_
    rintro e w1 ⟨rfl, ht1, hb1, -⟩
    obtain ⟨g, hg⟩ : ∃ g, w.heap.size = g := ⟨_, rfl⟩
    have HT1 := Lib.hid (show TabR w1 w.heap.size (newN m) (fun _ => True) from ht1 _)
    have HB1 := Lib.hid hb1
    rw [hg] at HT1 ⊢
    have HGS := Lib.hid (Nat.le_of_eq hg)
    have HGE := Lib.hid (Nat.le_of_eq hg.symm)
    clear ht1 hb1 hg
    go_wp2
    go_loopg [19] l.length (fun gh s19 wr => ∃ (k : Nat) (T : List Nd), s19 = .int .i64 k ∧ k ≤ l.length ∧ gh = l.length - k ∧ TabR wr g T (fun _ => True) ∧ Below w.heap.size w wr ∧ BldAt m l k T)
    case atStart => exact ⟨0, newN m, rfl, Nat.zero_le _, rfl, HT1.out, HB1.out, .inl ⟨rfl, rfl⟩⟩
    case round =>
      clear HT1 HB1
      obtain ⟨k, T, rfl, hk, rfl, ht, hbr, hat⟩ := hrel
      have HT := Lib.hid ht
      have HB := Lib.hid hbr
      have HAT := Lib.hid hat
      clear ht hbr hat
      by_cases hlt : k < l.length
      · have hlt' : (k : Int) < (l.length : Int) := by omega
        obtain ⟨r, hr⟩ : ∃ r, l[k]? = some r := ⟨_, List.getElem?_eq_getElem hlt⟩
        obtain ⟨ad, vd, hA, c0, ⟨c1, c2, c3, c4, c5, c6, c7, c8⟩, hd⟩ := raws_get (HA.out.below HB.out) hr
        subst hA
        have HS := Lib.hid (HF.out r (List.mem_of_getElem? hr))
        obtain ⟨A1, k1, rfl⟩ := bytes_form hd rfl
        have hbx := ba wr (.cells (rwC r (.slice A1 r.data.length k1)) 91)
        have hkr := Blk.new wr 91 (rwC r (.slice A1 r.data.length k1))
        have HT2 := Lib.hid (HT.out.below hbx)
        have HD2 := Lib.hid (hd.below hbx)
        have HB2 := Lib.hid (bt hbx HB.out)
        obtain ⟨W2, hW2⟩ : ∃ W2, wr.alloc (.cells (rwC r (.slice A1 r.data.length k1)) 91) = W2 := ⟨_, rfl⟩
        rw [hW2] at hkr HT2 HD2 HB2
        have HK := Lib.hid hr
        obtain ⟨p0, p1, p2, p3, p4, p5, p6, p7, p8⟩ := hkr.c9
        clear hd hbx hkr hr HT HB
        by_cases k0 : k = 0
        · have e0 : ((k : Int) == 0) = true := by simpa using k0
          have HC := Lib.hid (show T = newN m ∧ l[0]? = some r from by
            rcases HAT.out with ⟨h1, h2⟩ | ⟨h1, -⟩
            · exact ⟨h2, by rw [← h1]; exact HK.out⟩
            · omega)
          have HRR := Lib.hid (HRO.out r HC.out.2)
          have HCC := Lib.hid (root_any g T r A1 k1 W2 HT2.out HD2.out HS.out)
          rw [HC.out.1] at HCC
          have HK0 := Lib.hid k0
          clear k0
          generalize rtE (newN m) r = E at HRR HCC
          go_wp2_with fail
          clear hW2
          refine HCC.out.mono ?_
          rintro e w3 ⟨rfl, hg3, ht3⟩
          have HB3 := Lib.hid (below_grown HB2.out hg3 HGS.out)
          have HT3 := Lib.hid ht3
          clear ht3 hg3 c0 c1 c2 c3 c4 c5 c6 c7 c8 p0 p1 p2 p3 p4 p5 p6 p7 p8
          by_cases qE : E = 0
          · have eE : (E != 0) = false := by simpa using qE
            have HQ := Lib.hid (HT3.out qE)
            have HAT2 := Lib.hid (HRR.out.1 qE)
            clear qE
            go_wp2
            go_roundg (l.length - (k + 1))
            case measure => omega
            case rel => exact ⟨k + 1, rtT (newN m) r, by go_num, by omega, rfl, HQ.out, HB3.out, by rw [HK0.out]; exact HAT2.out⟩
          · have eE : (E != 0) = true := by simpa using qE
            have HQ := Lib.hid (HRR.out.2 qE)
            have HNZ := Lib.hid qE
            clear qE
            go_wp2
            go_ret3
            exact ⟨by have h1 := HQ.out; rw [← HK0.out] at h1; exact bad_ans h1 HNZ.out, HB3.out⟩
        · have e0 : ((k : Int) == 0) = false := by simpa using k0
          have HRR := Lib.hid (HST.out k T r HAT.out k0 HK.out)
          have HCC := Lib.hid (below_any g T r A1 k1 W2 HT2.out HD2.out HS.out)
          clear k0
          generalize blE T r = E at HRR HCC
          go_wp2_with fail
          clear hW2
          refine HCC.out.mono ?_
          rintro e w3 ⟨rfl, hg3, ht3⟩
          have HB3 := Lib.hid (below_grown HB2.out hg3 HGS.out)
          have HT3 := Lib.hid ht3
          clear ht3 hg3 c0 c1 c2 c3 c4 c5 c6 c7 c8 p0 p1 p2 p3 p4 p5 p6 p7 p8
          by_cases qE : E = 0
          · have eE : (E != 0) = false := by simpa using qE
            have HQ := Lib.hid (HT3.out qE)
            have HAT2 := Lib.hid (HRR.out.1 qE)
            clear qE
            go_wp2
            go_roundg (l.length - (k + 1))
            case measure => omega
            case rel => exact ⟨k + 1, blT T r, by go_num, by omega, rfl, HQ.out, HB3.out, HAT2.out⟩
          · have eE : (E != 0) = true := by simpa using qE
            have HQ := Lib.hid (HRR.out.2 qE)
            have HNZ := Lib.hid qE
            clear qE
            go_wp2
            go_ret3
            exact ⟨bad_ans HQ.out HNZ.out, HB3.out⟩
      · have hlt' : ¬ (k : Int) < (l.length : Int) := by omega
        have HQ := Lib.hid (HEND.out k T HAT.out (by omega))
        go_wp2
        go_ret3
        exact ⟨good_ans HQ.out HT.out HGS.out, HB.out⟩
end Go.Proofs.YtkmkfolpjlkfoaaGreat
namespace Go.Proofs.YtkmkfolpjlkfoaaGreat
open Go Go.RowKit
set_option maxRecDepth 100000

end Go.Proofs.YtkmkfolpjlkfoaaGreat
namespace Go.Proofs.YtkmkfolpjlkfoaaGreat
open Go Go.RowKit
set_option maxRecDepth 100000

attribute [local go_sem] cell_off4 cell_blk4
def rCells (l : List (Rw × Value)) : List Value := l.flatMap (fun q => (rwC q.1 q.2).toList)
theorem rCells_at : ∀ (l : List (Rw × Value)) (k j : Nat) (q : Rw × Value), l[k]? = some q → j < 9 → (rCells l)[k * 9 + j]? = (rwC q.1 q.2).toList[j]?
  | [], k, j, q, h, _ => by simp at h
  | p :: l, 0, j, q, h, hj => by
    have : p = q := by simpa using h
    subst this
    have e : rCells (p :: l) = (rwC p.1 p.2).toList ++ rCells l := rfl
    rw [e, Nat.zero_mul, Nat.zero_add, List.getElem?_append_left (by show j < 9; exact hj)]
  | p :: l, k + 1, j, q, h, hj => by
    have e : rCells (p :: l) = (rwC p.1 p.2).toList ++ rCells l := rfl
    rw [e, List.getElem?_append_right (by show 9 ≤ _; omega)]
    have := rCells_at l k j q (by simpa using h) hj
    rw [← this]
    congr 1
    show (k + 1) * 9 + j - 9 = k * 9 + j
    omega
end Go.Proofs.YtkmkfolpjlkfoaaGreat
