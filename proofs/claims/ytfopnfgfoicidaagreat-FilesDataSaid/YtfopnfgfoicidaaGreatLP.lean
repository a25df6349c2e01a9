/-
  The calls of package look. The conditions are said at each.
-/
import Derived.Test.YtfopnfgfoicidaaGreatLS
import Derived.Test.YtfopnfgfoicidaaGreatRR
import Derived.Deep.RegionWith
import Derived.Deep.RegionHeld3
namespace Go.Proofs.YtfopnfgfoicidaaGreat
open Go Go.RowKit
set_option maxRecDepth 100000

attribute [local go_sem] cell_off4 cell_blk4
attribute [local go_sem] eq_stat
theorem tab_few {w : World} {v : Value} {t : List Nd} (h : TabP w v t) (i : Int) : Few (tget t i) := ok_few h.ok.1 i
set_option maxHeartbeats 8000000 in
theorem of_any (v : Value) (t : List Nd) (i : Int) (w : World) (h : TabP w v t) :
    Calls Tryz.prog 73 #[v, .int .i64 i] w fun e w' => e = .returned (.tuple #[stV (staT t i), .bool (tis t i)]) ∧ Below w.heap.size w w' := by
  have hb0 := ba w (.cells #[.int .i64 0, .int .i64 0, .int .i64 0, .int .i64 0, .int .i64 0, .int .i64 0, .int .i64 0] 65)
  have hr0 := Blk.new w 65 #[.int .i64 0, .int .i64 0, .int .i64 0, .int .i64 0, .int .i64 0, .int .i64 0, .int .i64 0]
  obtain ⟨W1, hW1⟩ : ∃ W1, w.alloc (.cells #[.int .i64 0, .int .i64 0, .int .i64 0, .int .i64 0, .int .i64 0, .int .i64 0, .int .i64 0] 65) = W1 := ⟨_, rfl⟩
  rw [hW1] at hb0 hr0
  have HG := Lib.hid (get_any v t i W1 (h.below hb0))
  have HT := Lib.hid (h.below hb0)
  have HF := Lib.hid (tab_few h i)
  have HB0 := Lib.hid hb0
  have HR0 := Lib.hid hr0
  obtain ⟨S, hS⟩ : ∃ S, staT t i = S := ⟨_, rfl⟩
  have HYES := Lib.hid (fun (q : tis t i = true) => show S = ⟨i, (tget t i).kind, (tget t i).mode, (tget t i).uid, (tget t i).gid, (linkT t i : Int), sizM (tget t i)⟩ from by rw [← hS, sta_is q])
  have HNO := Lib.hid (fun (q : tis t i = false) => show S = Sta.zero from by rw [← hS, sta_not q])
  rw [hS]
  obtain ⟨q, hq⟩ : ∃ q, tis t i = q := ⟨_, rfl⟩
  obtain ⟨n, hn⟩ : ∃ n, tget t i = n := ⟨_, rfl⟩
  rw [hq] at HG HYES HNO ⊢
  rw [hn] at HG HYES HF
  obtain ⟨LK, hLK⟩ : ∃ LK, (linkT t i : Int) = LK := ⟨_, rfl⟩
  obtain ⟨SZ, hSZ⟩ : ∃ SZ, sizM n = SZ := ⟨_, rfl⟩
  rw [hLK, hSZ] at HYES
  have HLN := Lib.hid (fun (W : World) (hb : Below W1.heap.size W1 W) => show Calls Tryz.prog 109 #[v, .int .i64 i] W fun e w' => e = .returned (.int .i64 LK) ∧ Below W.heap.size W w' from by have h1 := links_any v t i W (HT.out.below hb); rw [hLK] at h1; exact h1)
  have HSI := Lib.hid (fun (vd ve : Value) (W : World) (hd : BytesR W vd n.data) (he : EntsR W ve n.ents) => show Calls Tryz.prog 110 #[nodeV n vd ve] W fun e w' => e = .returned (.int .i64 SZ) ∧ Below W.heap.size W w' from by have h1 := size_any n vd ve W hd he HF.out; rw [hSZ] at h1; exact h1)
  unfold nodeV at HG HSI
  clear h hb0 hr0 hS hq hn hLK hSZ
  go_enter Tryz.func73, Tryz.ntmps73
  go_wp2_with fail
  clear hW1
  refine HG.out.mono ?_
  rintro e w2 ⟨vd, ve, rfl, hd, he, -, -, hb2⟩
  obtain ⟨A5, k5, rfl⟩ := bytesT_form hd
  obtain ⟨A6, k6, rfl⟩ := entsT_form he
  have hbw := ba w2 (.cells (ndC n (.slice A5 n.data.length k5) (.slice A6 n.ents.length k6)) 56)
  have hbx := al hb2 (.cells (ndC n (.slice A5 n.data.length k5) (.slice A6 n.ents.length k6)) 56)
  have HBX := Lib.hid hbx
  have HB3 := Lib.hid (bt hbx HB0.out)
  have hr3 := HR0.out.below hbx
  have hn3 := Blk.new w2 56 (ndC n (.slice A5 n.data.length k5) (.slice A6 n.ents.length k6))
  have HD3 := Lib.hid (hd.1.below hbw)
  have HE3 := Lib.hid (he.1.below hbw)
  have zlt : w.heap.size < w2.heap.size := (HR0.out.below hb2).lt
  obtain ⟨z, hz⟩ : ∃ z, w2.heap.size = z := ⟨_, rfl⟩
  obtain ⟨W3, hW3⟩ : ∃ W3, w2.alloc (.cells (ndC n (.slice A5 n.data.length k5) (.slice A6 n.ents.length k6)) 56) = W3 := ⟨_, rfl⟩
  rw [hW3] at HBX HB3 hr3 hn3 HD3 HE3
  rw [hz] at hn3 zlt
  have HR3 := Lib.hid hr3
  have HN3 := Lib.hid hn3
  clear hd he hb2 hbx hbw HG HR0
  cases q with
  | false =>
    have HZ := Lib.hid (HNO.out rfl)
    obtain ⟨x0, x1, x2, x3, x4, x5, x6⟩ := hr3.c7
    obtain ⟨q0, q1, q2, q3, q4, q5, q6⟩ := hr3.f7
    obtain ⟨s0, s1, s2, s3, s4, s5, s6⟩ := hr3.s7
    have HGR := Lib.hid (grown7 W3 w.heap.size (.int .i64 0) (.int .i64 0) (.int .i64 0) (.int .i64 0) (.int .i64 0) (.int .i64 0) (.int .i64 0))
    clear hr3 hn3
    go_wp2
    exact bodyPost_ret (v := .tuple #[.agg #[.int .i64 0, .int .i64 0, .int .i64 0, .int .i64 0, .int .i64 0, .int .i64 0, .int .i64 0], .bool false]) (by simp [results, Tryz.results73, go_sem, s0, s1, s2, s3, s4, s5, s6]) rfl ⟨by rw [HZ.out]; rfl, below_grown HB3.out HGR.out (Nat.le_refl _)⟩
  | true =>
    have HZ := Lib.hid (HYES.out rfl)
    have HPR := Lib.hid (fun (W : World) (hb : Below W3.heap.size W3 W) => show W.cell? ⟨z, 0, none⟩ = some (.int .i64 n.kind) ∧ W.cell? ⟨z, 1, none⟩ = some (.int .i64 n.mode) ∧ W.cell? ⟨z, 2, none⟩ = some (.int .i64 n.uid) ∧ W.cell? ⟨z, 3, none⟩ = some (.int .i64 n.gid) ∧ W.cell? ⟨z, 4, none⟩ = some (.slice A5 n.data.length k5) ∧ W.cell? ⟨z, 5, none⟩ = some (.slice A6 n.ents.length k6) ∧ W.cell? ⟨z, 6, none⟩ = some (.string (bA n.target)) from (HN3.out.below hb).c7)
    have HS2 := Lib.hid (fun (W : World) (hb : Below W3.heap.size W3 W) => HSI.out (.slice A5 n.data.length k5) (.slice A6 n.ents.length k6) W (HD3.out.below hb) (HE3.out.below hb))
    have HL2 := Lib.hid (fun (W : World) (hb : Below W3.heap.size W3 W) => HLN.out W (bt hb HBX.out))
    have j0 : Below W3.heap.size W3 W3.drew := (Below.refl _ _).drew
    obtain ⟨p0, p1, p2, p3, p4, p5, p6⟩ := hn3.c7
    clear hr3 hn3 HYES HNO HLN HSI HF
    go_upto_region 4 with fail
    go_region_held3 (fun w' => w'.cell? ⟨z, 0, none⟩ = some (.int .i64 n.kind) ∧ w'.cell? ⟨z, 1, none⟩ = some (.int .i64 n.mode) ∧ w'.cell? ⟨z, 2, none⟩ = some (.int .i64 n.uid) ∧ w'.cell? ⟨z, 3, none⟩ = some (.int .i64 n.gid) ∧ w'.cell? ⟨z, 4, none⟩ = some (.slice A5 n.data.length k5) ∧ w'.cell? ⟨z, 5, none⟩ = some (.slice A6 n.ents.length k6) ∧ w'.cell? ⟨z, 6, none⟩ = some (.string (bA n.target)))
      (first | (with_reducible exact HPR.out _ j0) | (with_reducible exact HPR.out _ j1) | (with_reducible exact HPR.out _ j2) | (with_reducible exact ⟨t0, t1, t2, t3, t4, t5, t6⟩))
      (first
      | (go_at_call 109; (with_reducible refine (HL2.out _ j0).mono ?_); rintro e1 w4 ⟨rfl, hb4⟩; have j1 := bt hb4 j0; clear hb4)
      | (go_at_call 110; (with_reducible refine (HS2.out _ j1).mono ?_); rintro e2 w5 ⟨rfl, hb5⟩; have j2 := bt hb5 j1; have hr5 := HR3.out.below j2; have HR5 := Lib.hid hr5; obtain ⟨x0, x1, x2, x3, x4, x5, x6⟩ := hr5.c7; obtain ⟨f0, f1, f2, f3, f4, f5, f6⟩ := hr5.f7; have ht5 : Blk (((((((w5.setCell ⟨w.heap.size, 0, none⟩ (.int .i64 i)).setCell ⟨w.heap.size, 1, none⟩ (.int .i64 n.kind)).setCell ⟨w.heap.size, 2, none⟩ (.int .i64 n.mode)).setCell ⟨w.heap.size, 3, none⟩ (.int .i64 n.uid)).setCell ⟨w.heap.size, 4, none⟩ (.int .i64 n.gid)).setCell ⟨w.heap.size, 5, none⟩ (.int .i64 LK)).setCell ⟨w.heap.size, 6, none⟩ (.int .i64 SZ)) z 56 (ndC n (.slice A5 n.data.length k5) (.slice A6 n.ents.length k6)) := (HN3.out.below j2).kept (grown7 w5 w.heap.size (.int .i64 i) (.int .i64 n.kind) (.int .i64 n.mode) (.int .i64 n.uid) (.int .i64 n.gid) (.int .i64 LK) (.int .i64 SZ)) (some_ne (Nat.ne_of_gt zlt)); obtain ⟨t0, t1, t2, t3, t4, t5, t6⟩ := ht5.c7; obtain ⟨s0, s1, s2, s3, s4, s5, s6⟩ := hr5.s7; clear hb5 hr5 ht5))
    all_goals (
      have HGR := Lib.hid (grown7 w5 w.heap.size (.int .i64 i) (.int .i64 n.kind) (.int .i64 n.mode) (.int .i64 n.uid) (.int .i64 n.gid) (.int .i64 LK) (.int .i64 SZ))
      go_wp2
      exact bodyPost_ret (v := .tuple #[.agg #[.int .i64 i, .int .i64 n.kind, .int .i64 n.mode, .int .i64 n.uid, .int .i64 n.gid, .int .i64 LK, .int .i64 SZ], .bool true]) (by simp [results, Tryz.results73, go_sem, s0, s1, s2, s3, s4, s5, s6]) rfl ⟨by rw [HZ.out]; rfl, below_grown (bt j2 HB3.out) HGR.out (Nat.le_refl _)⟩)
end Go.Proofs.YtfopnfgfoicidaaGreat
namespace Go.Proofs.YtfopnfgfoicidaaGreat
open Go Go.RowKit
set_option maxRecDepth 100000

attribute [local go_sem] cell_off4 cell_blk4
attribute [local go_sem] eq_stat
set_option maxHeartbeats 8000000 in
theorem ofPath_any (v : Value) (t : List Nd) (c : Wh) (A0 : Option Addr) (m k : Nat) (p : Nm) (f : Bool) (w : World) (h : TabP w v t) (hc : CrR w c A0 m k) (X : Sta × Int) (hX : staM t c p f = X) :
    Calls Tryz.prog 51 #[v, .agg #[.int .i64 c.u, .int .i64 c.g, .slice A0 m k], .string (bA p), .bool f] w fun e w' => e = .returned (.tuple #[stV X.1, .int .i64 X.2]) ∧ Below w.heap.size w w' := by
  have hb1 := ba w (.cells #[.int .i64 c.u, .int .i64 c.g, .slice A0 m k] 25)
  have hk1 := Blk.new w 25 #[.int .i64 c.u, .int .i64 c.g, .slice A0 m k]
  obtain ⟨W1, hW1⟩ : ∃ W1, w.alloc (.cells #[.int .i64 c.u, .int .i64 c.g, .slice A0 m k] 25) = W1 := ⟨_, rfl⟩
  rw [hW1] at hb1 hk1
  have hb2 := al hb1 (.cells #[.int .i64 0, .int .i64 0, .int .i64 0, .int .i64 0, .int .i64 0, .int .i64 0, .int .i64 0] 65)
  have hk2 := hk1.below (ba W1 (.cells #[.int .i64 0, .int .i64 0, .int .i64 0, .int .i64 0, .int .i64 0, .int .i64 0, .int .i64 0] 65))
  have hr2 := Blk.new W1 65 #[.int .i64 0, .int .i64 0, .int .i64 0, .int .i64 0, .int .i64 0, .int .i64 0, .int .i64 0]
  obtain ⟨W2, hW2⟩ : ∃ W2, W1.alloc (.cells #[.int .i64 0, .int .i64 0, .int .i64 0, .int .i64 0, .int .i64 0, .int .i64 0, .int .i64 0] 65) = W2 := ⟨_, rfl⟩
  rw [hW2] at hb2 hk2 hr2
  obtain ⟨R, hR1⟩ : ∃ R, W1.heap.size = R := ⟨_, rfl⟩
  rw [hR1] at hr2
  have HRW := Lib.hid (show w.heap.size ≤ R by rw [← hR1]; exact hb1.size)
  obtain ⟨FE, hFE⟩ : ∃ FE, resM t c p f = FE := ⟨_, rfl⟩
  obtain ⟨F, E⟩ := FE
  have HRS := Lib.hid (resolve_any v t c A0 m k p f W2 (h.below hb2) (hc.below hb2) (F, E) hFE)
  have HT := Lib.hid (h.below hb2)
  have HB2 := Lib.hid hb2
  have HK2 := Lib.hid hk2
  have HR2 := Lib.hid hr2
  have HX := Lib.hid (show staF t (F, E) = X from by rw [← hFE]; exact hX)
  clear h hc hb1 hb2 hr2 hX hFE hk1
  obtain ⟨k0, k1, k2⟩ := hk2.c3
  clear hk2
  go_enter Tryz.func51, Tryz.ntmps51
  go_wp2_with fail
  clear hW1 hW2 hR1
  refine HRS.out.mono ?_
  rintro e w3 ⟨rfl, hb3⟩
  have hbx := al hb3 (.cells #[.int .i64 F.dir, .string (bA F.name), .int .i64 F.node] 91)
  have HB4 := Lib.hid (bt hbx HB2.out)
  have HT4 := Lib.hid (HT.out.below hbx)
  have hr4 := HR2.out.below hbx
  have hf4 := Blk.new w3 91 #[.int .i64 F.dir, .string (bA F.name), .int .i64 F.node]
  have hrl : R < w3.heap.size := (HR2.out.below hb3).lt
  obtain ⟨y, hy⟩ : ∃ y, w3.heap.size = y := ⟨_, rfl⟩
  obtain ⟨W4, hW4⟩ : ∃ W4, w3.alloc (.cells #[.int .i64 F.dir, .string (bA F.name), .int .i64 F.node] 91) = W4 := ⟨_, rfl⟩
  rw [hW4] at HB4 HT4 hr4 hf4
  rw [hy] at hf4 hrl
  have HR4 := Lib.hid hr4
  clear hb3 hbx k0 k1 k2 HRS HT HR2
  by_cases qE : E = 0
  · have qE1 : (E != 0) = false := by simpa using qE
    obtain ⟨b0, b1, b2⟩ := hf4.c3
    obtain ⟨q, hq⟩ : ∃ q, tis t F.node = q := ⟨_, rfl⟩
    obtain ⟨S, hS⟩ : ∃ S, staT t F.node = S := ⟨_, rfl⟩
    have HO := Lib.hid (of_any v t F.node W4 HT4.out)
    have HXX := Lib.hid (show X = if q = true then (S, 0) else (Sta.zero, 2) from by
      have h := HX.out
      unfold staF at h
      rw [if_neg (fun r => r qE), hq, hS] at h
      exact h.symm)
    have HKN := Lib.hid (fun (r : q = true) => show S.kind ≠ 0 from by rw [← hS, sta_kind (hq.trans r)]; exact tis_kind0 (hq.trans r))
    have HZN := Lib.hid (fun (r : q = false) => show S = Sta.zero from by rw [← hS, sta_not (hq.trans r)])
    rw [hS, hq] at HO
    clear qE hS hq hr4 hf4
    cases q with
    | true =>
      have ek : (S.kind == 0) = false := by simpa using HKN.out rfl
      have HZ := Lib.hid (show X = (S, 0) from by rw [HXX.out, if_pos rfl])
      unfold stV stC at HO
      go_wp2_with fail
      clear hW4 hy
      refine HO.out.mono ?_
      rintro e w5 ⟨rfl, hb5⟩
      have hbx := al hb5 (.cells #[.int .i64 S.node, .int .i64 S.kind, .int .i64 S.mode, .int .i64 S.uid, .int .i64 S.gid, .int .i64 S.links, .int .i64 S.size] 65)
      have HB6 := Lib.hid (bt hbx HB4.out)
      have hr6 := HR4.out.below hbx
      have hs6 := Blk.new w5 65 #[.int .i64 S.node, .int .i64 S.kind, .int .i64 S.mode, .int .i64 S.uid, .int .i64 S.gid, .int .i64 S.links, .int .i64 S.size]
      obtain ⟨z, hz⟩ : ∃ z, w5.heap.size = z := ⟨_, rfl⟩
      obtain ⟨W6, hW6⟩ : ∃ W6, w5.alloc (.cells #[.int .i64 S.node, .int .i64 S.kind, .int .i64 S.mode, .int .i64 S.uid, .int .i64 S.gid, .int .i64 S.links, .int .i64 S.size] 65) = W6 := ⟨_, rfl⟩
      rw [hW6] at HB6 hr6 hs6
      rw [hz] at hs6
      obtain ⟨p0, p1, p2, p3, p4, p5, p6⟩ := hs6.c7
      obtain ⟨x0, x1, x2, x3, x4, x5, x6⟩ := hr6.c7
      obtain ⟨q0, q1, q2, q3, q4, q5, q6⟩ := hr6.f7
      obtain ⟨s0, s1, s2, s3, s4, s5, s6⟩ := hr6.s7
      have HG := Lib.hid (grown7 W6 R (.int .i64 S.node) (.int .i64 S.kind) (.int .i64 S.mode) (.int .i64 S.uid) (.int .i64 S.gid) (.int .i64 S.links) (.int .i64 S.size))
      clear hb5 hbx hr6 hs6 b0 b1 b2
      go_wp2
      exact bodyPost_ret (v := .tuple #[.agg #[.int .i64 S.node, .int .i64 S.kind, .int .i64 S.mode, .int .i64 S.uid, .int .i64 S.gid, .int .i64 S.links, .int .i64 S.size], .int .i64 0]) (by simp [results, Tryz.results51, go_sem, s0, s1, s2, s3, s4, s5, s6]) rfl ⟨by rw [HZ.out]; rfl, below_grown HB6.out HG.out HRW.out⟩
    | false =>
      have HZ := Lib.hid (show X = (Sta.zero, 2) from by rw [HXX.out, if_neg (by decide)])
      rw [HZN.out rfl] at HO
      have HO0 := Lib.hid (show Calls Tryz.prog 73 #[v, .int .i64 F.node] W4 fun e w' => e = .returned (.tuple #[.agg #[.int .i64 0, .int .i64 0, .int .i64 0, .int .i64 0, .int .i64 0, .int .i64 0, .int .i64 0], .bool false]) ∧ Below W4.heap.size W4 w' from HO.out)
      clear HO
      have HO := HO0
      clear HO0
      go_wp2_with fail
      clear hW4 hy
      refine HO.out.mono ?_
      rintro e w5 ⟨rfl, hb5⟩
      have hbx := al hb5 (.cells #[.int .i64 0, .int .i64 0, .int .i64 0, .int .i64 0, .int .i64 0, .int .i64 0, .int .i64 0] 65)
      have HB6 := Lib.hid (bt hbx HB4.out)
      have hr6 := HR4.out.below hbx
      have hs6 := Blk.new w5 65 #[.int .i64 0, .int .i64 0, .int .i64 0, .int .i64 0, .int .i64 0, .int .i64 0, .int .i64 0]
      obtain ⟨p0, p1, p2, p3, p4, p5, p6⟩ := hs6.c7
      obtain ⟨x0, x1, x2, x3, x4, x5, x6⟩ := hr6.c7
      obtain ⟨q0, q1, q2, q3, q4, q5, q6⟩ := hr6.f7
      obtain ⟨s0, s1, s2, s3, s4, s5, s6⟩ := hr6.s7
      have HG := Lib.hid (grown7 (w5.alloc (.cells #[.int .i64 0, .int .i64 0, .int .i64 0, .int .i64 0, .int .i64 0, .int .i64 0, .int .i64 0] 65)) R (.int .i64 0) (.int .i64 0) (.int .i64 0) (.int .i64 0) (.int .i64 0) (.int .i64 0) (.int .i64 0))
      clear hb5 hbx hr6 hs6 b0 b1 b2
      go_wp2
      exact bodyPost_ret (v := .tuple #[.agg #[.int .i64 0, .int .i64 0, .int .i64 0, .int .i64 0, .int .i64 0, .int .i64 0, .int .i64 0], .int .i64 2]) (by simp [results, Tryz.results51, go_sem, s0, s1, s2, s3, s4, s5, s6]) rfl ⟨by rw [HZ.out]; rfl, below_grown HB6.out HG.out HRW.out⟩
  · have qE1 : (E != 0) = true := by simpa using qE
    have HZ := Lib.hid (show X = (Sta.zero, E) from by have h := HX.out; rw [staF_err (R := (F, E)) qE] at h; exact h.symm)
    obtain ⟨x0, x1, x2, x3, x4, x5, x6⟩ := hr4.c7
    obtain ⟨q0, q1, q2, q3, q4, q5, q6⟩ := hr4.f7
    obtain ⟨s0, s1, s2, s3, s4, s5, s6⟩ := hr4.s7
    have HG := Lib.hid (grown7 W4 R (.int .i64 0) (.int .i64 0) (.int .i64 0) (.int .i64 0) (.int .i64 0) (.int .i64 0) (.int .i64 0))
    clear qE hr4 hf4
    go_wp2
    exact bodyPost_ret (v := .tuple #[.agg #[.int .i64 0, .int .i64 0, .int .i64 0, .int .i64 0, .int .i64 0, .int .i64 0, .int .i64 0], .int .i64 E]) (by simp [results, Tryz.results51, go_sem, s0, s1, s2, s3, s4, s5, s6]) rfl ⟨by rw [HZ.out]; rfl, below_grown HB4.out HG.out HRW.out⟩
set_option maxHeartbeats 8000000 in
theorem lstat_any (v : Value) (t : List Nd) (c : Wh) (A0 : Option Addr) (m k : Nat) (p : Nm) (w : World) (h : TabP w v t) (hc : CrR w c A0 m k) (X : Sta × Int) (hX : staM t c p false = X) :
    Calls Tryz.prog 24 #[v, .agg #[.int .i64 c.u, .int .i64 c.g, .slice A0 m k], .string (bA p)] w fun e w' => e = .returned (.tuple #[stV X.1, .int .i64 X.2]) ∧ Below w.heap.size w w' := by
  have hb1 := ba w (.cells #[.int .i64 c.u, .int .i64 c.g, .slice A0 m k] 25)
  have hk1 := Blk.new w 25 #[.int .i64 c.u, .int .i64 c.g, .slice A0 m k]
  obtain ⟨W1, hW1⟩ : ∃ W1, w.alloc (.cells #[.int .i64 c.u, .int .i64 c.g, .slice A0 m k] 25) = W1 := ⟨_, rfl⟩
  rw [hW1] at hb1 hk1
  have hb2 := al hb1 (.cells #[.int .i64 0, .int .i64 0, .int .i64 0, .int .i64 0, .int .i64 0, .int .i64 0, .int .i64 0] 65)
  have hk2 := hk1.below (ba W1 (.cells #[.int .i64 0, .int .i64 0, .int .i64 0, .int .i64 0, .int .i64 0, .int .i64 0, .int .i64 0] 65))
  have hr2 := Blk.new W1 65 #[.int .i64 0, .int .i64 0, .int .i64 0, .int .i64 0, .int .i64 0, .int .i64 0, .int .i64 0]
  obtain ⟨W2, hW2⟩ : ∃ W2, W1.alloc (.cells #[.int .i64 0, .int .i64 0, .int .i64 0, .int .i64 0, .int .i64 0, .int .i64 0, .int .i64 0] 65) = W2 := ⟨_, rfl⟩
  rw [hW2] at hb2 hk2 hr2
  obtain ⟨R, hR1⟩ : ∃ R, W1.heap.size = R := ⟨_, rfl⟩
  rw [hR1] at hr2
  have HRW := Lib.hid (show w.heap.size ≤ R by rw [← hR1]; exact hb1.size)
  obtain ⟨S, E⟩ := X
  have HO := Lib.hid (ofPath_any v t c A0 m k p false W2 (h.below hb2) (hc.below hb2) (S, E) hX)
  have HB2 := Lib.hid hb2
  have HR2 := Lib.hid hr2
  unfold stV stC at HO ⊢
  clear h hc hb1 hb2 hr2 hX hk1
  obtain ⟨k0, k1, k2⟩ := hk2.c3
  clear hk2
  go_enter Tryz.func24, Tryz.ntmps24
  go_wp2_with fail
  clear hW1 hW2 hR1
  refine HO.out.mono ?_
  rintro e w3 ⟨rfl, hb3⟩
  have HB3 := Lib.hid (bt hb3 HB2.out)
  have hr3 := HR2.out.below hb3
  obtain ⟨x0, x1, x2, x3, x4, x5, x6⟩ := hr3.c7
  obtain ⟨q0, q1, q2, q3, q4, q5, q6⟩ := hr3.f7
  obtain ⟨s0, s1, s2, s3, s4, s5, s6⟩ := hr3.s7
  have HG := Lib.hid (grown7 w3 R (.int .i64 S.node) (.int .i64 S.kind) (.int .i64 S.mode) (.int .i64 S.uid) (.int .i64 S.gid) (.int .i64 S.links) (.int .i64 S.size))
  clear hb3 hr3 k0 k1 k2
  go_wp2
  exact bodyPost_ret (v := .tuple #[.agg #[.int .i64 S.node, .int .i64 S.kind, .int .i64 S.mode, .int .i64 S.uid, .int .i64 S.gid, .int .i64 S.links, .int .i64 S.size], .int .i64 E]) (by simp [results, Tryz.results24, go_sem, s0, s1, s2, s3, s4, s5, s6]) rfl ⟨rfl, below_grown HB3.out HG.out HRW.out⟩
end Go.Proofs.YtfopnfgfoicidaaGreat
namespace Go.Proofs.YtfopnfgfoicidaaGreat
open Go Go.RowKit
set_option maxRecDepth 100000

attribute [local go_sem] cell_off4 cell_blk4
theorem rdl_err {t : List Nd} {c : Wh} {p : Nm} {S : Sta} {E : Int} (h : staM t c p false = (S, E)) (hE : E ≠ 0) : rdlM t c p = ([], E) := by
  unfold rdlM
  rw [h, if_pos hE]
theorem rdl_kind {t : List Nd} {c : Wh} {p : Nm} {S : Sta} (h : staM t c p false = (S, 0)) (hk : S.kind ≠ 3) : rdlM t c p = ([], 22) := by
  unfold rdlM
  rw [h, if_neg (fun q => q rfl), if_pos hk]
theorem rdl_good {t : List Nd} {c : Wh} {p : Nm} {S : Sta} (h : staM t c p false = (S, 0)) (hk : S.kind = 3) : rdlM t c p = ((tget t S.node).target, 0) := by
  unfold rdlM
  rw [h, if_neg (fun q => q rfl), if_neg (fun q => q hk)]
theorem lst_err {t : List Nd} {c : Wh} {p : Nm} {S : Sta} {E : Int} (h : staM t c p true = (S, E)) (hE : E ≠ 0) : lstM t c p = ([], E) := by
  unfold lstM
  rw [h, if_pos hE]
theorem lst_kind {t : List Nd} {c : Wh} {p : Nm} {S : Sta} (h : staM t c p true = (S, 0)) (hk : S.kind ≠ 2) : lstM t c p = ([], 20) := by
  unfold lstM
  rw [h, if_neg (fun q => q rfl), if_pos hk]
theorem lst_can {t : List Nd} {c : Wh} {p : Nm} {S : Sta} (h : staM t c p true = (S, 0)) (hk : S.kind = 2) (hc : canT t c S.node 4 = false) : lstM t c p = ([], 13) := by
  unfold lstM
  rw [h, if_neg (fun q => q rfl), if_neg (fun q => q hk), if_pos hc]
theorem lst_good {t : List Nd} {c : Wh} {p : Nm} {S : Sta} (h : staM t c p true = (S, 0)) (hk : S.kind = 2) (hc : canT t c S.node 4 = true) : lstM t c p = (nmE (tget t S.node).ents, 0) := by
  unfold lstM
  rw [h, if_neg (fun q => q rfl), if_neg (fun q => q hk), if_neg (by rw [hc]; decide)]
theorem bA_nil : bA ([] : Nm) = ⟨#[]⟩ := rfl
theorem ok_rise {t : List Nd} (h : okT t) (i : Int) : rise (nmE (tget t i).ents) ∧ (tget t i).ents.length ≤ 12 := by
  rcases ok_tget h i with q | q
  · rw [q]
    exact ⟨List.Pairwise.nil, Nat.zero_le _⟩
  · rcases q.2 with q | q | q
    · rw [q.2.1]; exact ⟨List.Pairwise.nil, Nat.zero_le _⟩
    · have := q.2.2.2.2.2
      exact ⟨q.2.2.2.2.1, by omega⟩
    · rw [q.2.2.1]; exact ⟨List.Pairwise.nil, Nat.zero_le _⟩
theorem strs_none (W : World) : StrsR W (.slice none 0 0) (nmA ([] : List Nm)) := ⟨none, 0, rfl, ⟨Nat.le_refl _, fun _ => rfl⟩, fun k s h => by simp [nmA] at h⟩
end Go.Proofs.YtfopnfgfoicidaaGreat
