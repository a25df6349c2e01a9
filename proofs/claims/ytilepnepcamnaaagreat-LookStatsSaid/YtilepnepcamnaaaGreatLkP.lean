/-
  What is told of a node, and of the node to which a path leads: Of, ofPath, Stat and Lstat of package look. The condition: no more groups than a million.
-/
import Derived.Test.YtilepnepcamnaaaGreatLkS
import Derived.Test.YtilepnepcamnaaaGreatRsR
import Derived.Deep.RegionWith
import Derived.Deep.RegionHeld3
namespace Go.Proofs.YtilepnepcamnaaaGreat
open Go Go.RowKit
set_option maxRecDepth 100000

attribute [local go_sem] cell_off4 cell_blk4
attribute [local go_sem] eq_stat
theorem tab_few {w : World} {v : Value} {t : List Nd} (h : TabP w v t) (i : Int) : Few (tget t i) := ok_few h.ok.1 i
set_option maxHeartbeats 8000000 in
theorem of_any (v : Value) (t : List Nd) (i : Int) (w : World) (h : TabP w v t) :
    Calls Tryz.prog 11 #[v, .int .i64 i] w fun e w' => e = .returned (.tuple #[stV (staT t i), .bool (tis t i)]) ∧ Below w.heap.size w w' := by
  have hb0 := ba w (.cells #[.int .i64 0, .int .i64 0, .int .i64 0, .int .i64 0, .int .i64 0, .int .i64 0, .int .i64 0] 35)
  have hr0 := Blk.new w 35 #[.int .i64 0, .int .i64 0, .int .i64 0, .int .i64 0, .int .i64 0, .int .i64 0, .int .i64 0]
  obtain ⟨W1, hW1⟩ : ∃ W1, w.alloc (.cells #[.int .i64 0, .int .i64 0, .int .i64 0, .int .i64 0, .int .i64 0, .int .i64 0, .int .i64 0] 35) = W1 := ⟨_, rfl⟩
  rw [hW1] at hb0 hr0
  have HG := Lib.hid (get_any v t i W1 (h.below hb0))
  have HT := Lib.hid (h.below hb0)
  have HF := Lib.hid (tab_few h i)
  have HB0 := Lib.hid hb0
  have HR0 := Lib.hid hr0
  obtain ⟨S, hS⟩ : ∃ S, staT t i = S := ⟨_, rfl⟩
  have HYES := Lib.hid (fun (q : tis t i = true) => show S = ⟨i, (tget t i).kind, (tget t i).mode, (tget t i).uid, (tget t i).gid, (linkT t i : Int), sizM (tget t i)⟩ from by rw [← hS, sta_is q])
  have HNO := Lib.hid (fun (q : tis t i = false) => show S = Sta.zero from by rw [← hS, sta_not q])
  rw [hS]
  obtain ⟨q, hq⟩ : ∃ q, tis t i = q := ⟨_, rfl⟩
  obtain ⟨n, hn⟩ : ∃ n, tget t i = n := ⟨_, rfl⟩
  rw [hq] at HG HYES HNO ⊢
  rw [hn] at HG HYES HF
  obtain ⟨LK, hLK⟩ : ∃ LK, (linkT t i : Int) = LK := ⟨_, rfl⟩
  obtain ⟨SZ, hSZ⟩ : ∃ SZ, sizM n = SZ := ⟨_, rfl⟩
  rw [hLK, hSZ] at HYES
  have HLN := Lib.hid (fun (W : World) (hb : Below W1.heap.size W1 W) => show Calls Tryz.prog 33 #[v, .int .i64 i] W fun e w' => e = .returned (.int .i64 LK) ∧ Below W.heap.size W w' from by have h1 := links_any v t i W (HT.out.below hb); rw [hLK] at h1; exact h1)
  have HSI := Lib.hid (fun (vd ve : Value) (W : World) (hd : BytesR W vd n.data) (he : EntsR W ve n.ents) => show Calls Tryz.prog 34 #[nodeV n vd ve] W fun e w' => e = .returned (.int .i64 SZ) ∧ Below W.heap.size W w' from by have h1 := size_any n vd ve W hd he HF.out; rw [hSZ] at h1; exact h1)
  unfold nodeV at HG HSI
  clear h hb0 hr0 hS hq hn hLK hSZ
  go_enter Tryz.func11, Tryz.ntmps11
  go_wp2_with fail
  clear hW1
  refine HG.out.mono ?_
  rintro e w2 ⟨vd, ve, rfl, hd, he, -, -, hb2⟩
  obtain ⟨A5, k5, rfl⟩ := bytesT_form hd
  obtain ⟨A6, k6, rfl⟩ := entsT_form he
  have hbw := ba w2 (.cells (ndC n (.slice A5 n.data.length k5) (.slice A6 n.ents.length k6)) 70)
  have hbx := al hb2 (.cells (ndC n (.slice A5 n.data.length k5) (.slice A6 n.ents.length k6)) 70)
  have HBX := Lib.hid hbx
  have HB3 := Lib.hid (bt hbx HB0.out)
  have hr3 := HR0.out.below hbx
  have hn3 := Blk.new w2 70 (ndC n (.slice A5 n.data.length k5) (.slice A6 n.ents.length k6))
  have HD3 := Lib.hid (hd.1.below hbw)
  have HE3 := Lib.hid (he.1.below hbw)
  have zlt : w.heap.size < w2.heap.size := (HR0.out.below hb2).lt
  obtain ⟨z, hz⟩ : ∃ z, w2.heap.size = z := ⟨_, rfl⟩
  obtain ⟨W3, hW3⟩ : ∃ W3, w2.alloc (.cells (ndC n (.slice A5 n.data.length k5) (.slice A6 n.ents.length k6)) 70) = W3 := ⟨_, rfl⟩
  rw [hW3] at HBX HB3 hr3 hn3 HD3 HE3
  rw [hz] at hn3 zlt
  have HR3 := Lib.hid hr3
  have HN3 := Lib.hid hn3
  clear hd he hb2 hbx hbw HG HR0
  cases q with
  | false =>
    have HZ := Lib.hid (HNO.out rfl)
    obtain ⟨x0, x1, x2, x3, x4, x5, x6⟩ := hr3.c7
    obtain ⟨q0, q1, q2, q3, q4, q5, q6⟩ := hr3.f7
    obtain ⟨s0, s1, s2, s3, s4, s5, s6⟩ := hr3.s7
    have HGR := Lib.hid (grown7 W3 w.heap.size (.int .i64 0) (.int .i64 0) (.int .i64 0) (.int .i64 0) (.int .i64 0) (.int .i64 0) (.int .i64 0))
    clear hr3 hn3
    go_wp2
    exact bodyPost_ret (v := .tuple #[.agg #[.int .i64 0, .int .i64 0, .int .i64 0, .int .i64 0, .int .i64 0, .int .i64 0, .int .i64 0], .bool false]) (by simp [results, Tryz.results11, go_sem, s0, s1, s2, s3, s4, s5, s6]) rfl ⟨by rw [HZ.out]; rfl, below_grown HB3.out HGR.out (Nat.le_refl _)⟩
  | true =>
    have HZ := Lib.hid (HYES.out rfl)
    have HPR := Lib.hid (fun (W : World) (hb : Below W3.heap.size W3 W) => show W.cell? ⟨z, 0, none⟩ = some (.int .i64 n.kind) ∧ W.cell? ⟨z, 1, none⟩ = some (.int .i64 n.mode) ∧ W.cell? ⟨z, 2, none⟩ = some (.int .i64 n.uid) ∧ W.cell? ⟨z, 3, none⟩ = some (.int .i64 n.gid) ∧ W.cell? ⟨z, 4, none⟩ = some (.slice A5 n.data.length k5) ∧ W.cell? ⟨z, 5, none⟩ = some (.slice A6 n.ents.length k6) ∧ W.cell? ⟨z, 6, none⟩ = some (.string (bA n.target)) from (HN3.out.below hb).c7)
    have HS2 := Lib.hid (fun (W : World) (hb : Below W3.heap.size W3 W) => HSI.out (.slice A5 n.data.length k5) (.slice A6 n.ents.length k6) W (HD3.out.below hb) (HE3.out.below hb))
    have HL2 := Lib.hid (fun (W : World) (hb : Below W3.heap.size W3 W) => HLN.out W (bt hb HBX.out))
    have j0 : Below W3.heap.size W3 W3.drew := (Below.refl _ _).drew
    obtain ⟨p0, p1, p2, p3, p4, p5, p6⟩ := hn3.c7
    clear hr3 hn3 HYES HNO HLN HSI HF
    go_upto_region 4 with fail
    go_region_held3 (fun w' => w'.cell? ⟨z, 0, none⟩ = some (.int .i64 n.kind) ∧ w'.cell? ⟨z, 1, none⟩ = some (.int .i64 n.mode) ∧ w'.cell? ⟨z, 2, none⟩ = some (.int .i64 n.uid) ∧ w'.cell? ⟨z, 3, none⟩ = some (.int .i64 n.gid) ∧ w'.cell? ⟨z, 4, none⟩ = some (.slice A5 n.data.length k5) ∧ w'.cell? ⟨z, 5, none⟩ = some (.slice A6 n.ents.length k6) ∧ w'.cell? ⟨z, 6, none⟩ = some (.string (bA n.target)))
      (first | (with_reducible exact HPR.out _ j0) | (with_reducible exact HPR.out _ j1) | (with_reducible exact HPR.out _ j2) | (with_reducible exact ⟨t0, t1, t2, t3, t4, t5, t6⟩))
      (first
      | (go_at_call 33; (with_reducible refine (HL2.out _ j0).mono ?_); rintro e1 w4 ⟨rfl, hb4⟩; have j1 := bt hb4 j0; clear hb4)
      | (go_at_call 34; (with_reducible refine (HS2.out _ j1).mono ?_); rintro e2 w5 ⟨rfl, hb5⟩; have j2 := bt hb5 j1; have hr5 := HR3.out.below j2; have HR5 := Lib.hid hr5; obtain ⟨x0, x1, x2, x3, x4, x5, x6⟩ := hr5.c7; obtain ⟨f0, f1, f2, f3, f4, f5, f6⟩ := hr5.f7; have ht5 : Blk (((((((w5.setCell ⟨w.heap.size, 0, none⟩ (.int .i64 i)).setCell ⟨w.heap.size, 1, none⟩ (.int .i64 n.kind)).setCell ⟨w.heap.size, 2, none⟩ (.int .i64 n.mode)).setCell ⟨w.heap.size, 3, none⟩ (.int .i64 n.uid)).setCell ⟨w.heap.size, 4, none⟩ (.int .i64 n.gid)).setCell ⟨w.heap.size, 5, none⟩ (.int .i64 LK)).setCell ⟨w.heap.size, 6, none⟩ (.int .i64 SZ)) z 70 (ndC n (.slice A5 n.data.length k5) (.slice A6 n.ents.length k6)) := (HN3.out.below j2).kept (grown7 w5 w.heap.size (.int .i64 i) (.int .i64 n.kind) (.int .i64 n.mode) (.int .i64 n.uid) (.int .i64 n.gid) (.int .i64 LK) (.int .i64 SZ)) (some_ne (Nat.ne_of_gt zlt)); obtain ⟨t0, t1, t2, t3, t4, t5, t6⟩ := ht5.c7; obtain ⟨s0, s1, s2, s3, s4, s5, s6⟩ := hr5.s7; clear hb5 hr5 ht5))
    all_goals (
      have HGR := Lib.hid (grown7 w5 w.heap.size (.int .i64 i) (.int .i64 n.kind) (.int .i64 n.mode) (.int .i64 n.uid) (.int .i64 n.gid) (.int .i64 LK) (.int .i64 SZ))
      go_wp2
      exact bodyPost_ret (v := .tuple #[.agg #[.int .i64 i, .int .i64 n.kind, .int .i64 n.mode, .int .i64 n.uid, .int .i64 n.gid, .int .i64 LK, .int .i64 SZ], .bool true]) (by simp [results, Tryz.results11, go_sem, s0, s1, s2, s3, s4, s5, s6]) rfl ⟨by rw [HZ.out]; rfl, below_grown (bt j2 HB3.out) HGR.out (Nat.le_refl _)⟩)
end Go.Proofs.YtilepnepcamnaaaGreat
