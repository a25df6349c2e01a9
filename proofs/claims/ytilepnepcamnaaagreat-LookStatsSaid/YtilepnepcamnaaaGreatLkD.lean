/-
  The walk of LookStats: it answers true of whatever is told, of any who ask, of any path and number. The condition: what is told is no longer than a machine can hold.
-/
import Derived.Test.YtilepnepcamnaaaGreatLkK
import Derived.Test.YtilepnepcamnaaaGreatLkU
import Derived.Test.YtilepnepcamnaaaGreatTr11
import Derived.Deep.RegionWith
import Derived.Deep.DeepCutAuto
import Derived.Deep.RegionHeld3
namespace Go.Proofs.YtilepnepcamnaaaGreat
open Go Go.RowKit
set_option maxRecDepth 100000

attribute [local go_sem] cell_off4 cell_blk4
attribute [local go_sem] eq_stat
theorem putS_below {W w8 : World} {d : Nat} (S : Sta) (h : Below W.heap.size W w8) (hd : W.heap.size ≤ d) : Below W.heap.size W (((((((w8.setCell ⟨d, 0, none⟩ (.int .i64 S.node)).setCell ⟨d, 1, none⟩ (.int .i64 S.kind)).setCell ⟨d, 2, none⟩ (.int .i64 S.mode)).setCell ⟨d, 3, none⟩ (.int .i64 S.uid)).setCell ⟨d, 4, none⟩ (.int .i64 S.gid)).setCell ⟨d, 5, none⟩ (.int .i64 S.links)).setCell ⟨d, 6, none⟩ (.int .i64 S.size)) := below_grown h (grown7 w8 d _ _ _ _ _ _ _) hd
/-- A box of what is told, behind some steps. -/
structure Bs (w wx : World) (d : Nat) (S : Sta) : Prop where
  blk : Blk wx d 35 (stC S)
  below : Below w.heap.size w wx
theorem Bs.fresh {w w8 : World} {S : Sta} (h : Below w.heap.size w w8) : Bs w (w8.alloc (.cells #[.int .i64 S.node, .int .i64 S.kind, .int .i64 S.mode, .int .i64 S.uid, .int .i64 S.gid, .int .i64 S.links, .int .i64 S.size] 35)) w8.heap.size S := ⟨Blk.new _ _ _, al h _⟩
theorem Bs.put {w w8 : World} {d : Nat} {S : Sta} (hk : Blk w8 d 35 #[.int .i64 0, .int .i64 0, .int .i64 0, .int .i64 0, .int .i64 0, .int .i64 0, .int .i64 0]) (h : Below w.heap.size w w8) (hd : w.heap.size ≤ d) : Bs w (((((((w8.setCell ⟨d, 0, none⟩ (.int .i64 S.node)).setCell ⟨d, 1, none⟩ (.int .i64 S.kind)).setCell ⟨d, 2, none⟩ (.int .i64 S.mode)).setCell ⟨d, 3, none⟩ (.int .i64 S.uid)).setCell ⟨d, 4, none⟩ (.int .i64 S.gid)).setCell ⟨d, 5, none⟩ (.int .i64 S.links)).setCell ⟨d, 6, none⟩ (.int .i64 S.size)) d S :=
  ⟨hk.put7 _ _ _ _ _ _ _, putS_below S h hd⟩
set_option maxHeartbeats 8000000 in
theorem lstats_any (x0 : Int) (v1 : Value) (l : List Rw) (c : Wh) (A0 : Option Addr) (n0 k0 : Nat) (s : ByteArray) (i : Int) (w : World) (h1 : RawsR w v1 l) (hl1 : l.length ≤ maxLen) (h2 : IntsR w (.slice A0 n0 k0) c.gs) :
    Calls Tryz.prog 3 #[.int .i64 x0, v1, .agg #[.int .i64 c.u, .int .i64 c.g, .slice A0 n0 k0], .string s, .int .i64 i] w fun e w' => e = .returned (.bool true) ∧ Below w.heap.size w w' := by
  have hb0 := ba w (.cells #[.int .i64 c.u, .int .i64 c.g, .slice A0 n0 k0] 25)
  have hk0 := Blk.new w 25 #[.int .i64 c.u, .int .i64 c.g, .slice A0 n0 k0]
  obtain ⟨W1, hW1⟩ : ∃ W1, w.alloc (.cells #[.int .i64 c.u, .int .i64 c.g, .slice A0 n0 k0] 25) = W1 := ⟨_, rfl⟩
  rw [hW1] at hb0 hk0
  have HA := Lib.hid (awake12_any W1)
  have HR := Lib.hid (h1.below hb0)
  have HI := Lib.hid (h2.below hb0)
  have HL := Lib.hid hl1
  have HB0 := Lib.hid hb0
  have HK0 := Lib.hid hk0
  clear h1 h2 hl1 hb0 hk0
  go_enter Tryz.func3, Tryz.ntmps3
  go_wp2_with fail
  clear hW1
  refine HA.out.mono ?_
  rintro e w2 ⟨rfl, hb2⟩
  have hk2 := HK0.out.below hb2
  have HB2 := Lib.hid (bt hb2 HB0.out)
  have HK2 := Lib.hid hk2
  have HI2 := Lib.hid (HI.out.below hb2)
  have HBL := Lib.hid (built_any x0 v1 l c A0 n0 k0 w2 (HR.out.below hb2) HL.out HI2.out)
  obtain ⟨k0', k1, k2⟩ := hk2.c3
  clear hb2 hk2 HA HK0 HI HR HB0
  go_wp2_with fail
  refine HBL.out.mono ?_
  rintro e w3 ⟨hans, hb3⟩
  have HB3 := Lib.hid (bt hb3 HB2.out)
  have hk3 := HK2.out.below hb3
  have HI3 := Lib.hid (HI2.out.below hb3)
  clear k0' k1 k2 hb3 HBL
  rcases hans with ⟨rfl, -⟩ | ⟨g, T, rfl, hB, hT⟩
  · clear hk3
    go_wp2
    go_ret
    exact ⟨rfl, HB3.out⟩
  have HTT := Lib.hid hT
  have HT3 := Lib.hid hT.ptr
  have HTR := Lib.hid ((tre_all hB.2).1)
  have HCR3 := Lib.hid (show CrR w3 c A0 n0 k0 from ⟨HI3.out, by have := hB.1.2; omega⟩)
  have HK3 := Lib.hid hk3
  obtain ⟨k0', k1, k2⟩ := hk3.c3
  clear hT hB hk3 HK2 HI2 HB2
  by_cases ha : 100 < s.size
  · have ya : (s.size : Int) > 100 := by omega
    clear ha
    go_wp2
    go_ret
    exact ⟨rfl, HB3.out⟩
  have ya : ¬ (s.size : Int) > 100 := by omega
  have hl1000 : (tl s).length ≤ 1000 := by rw [tl_len]; omega
  clear ha
  obtain ⟨XE, hXE⟩ : ∃ XE, staM T c (tl s) true = XE := ⟨_, rfl⟩
  obtain ⟨X, E⟩ := XE
  obtain ⟨YF, hYF⟩ : ∃ YF, staM T c (tl s) false = YF := ⟨_, rfl⟩
  obtain ⟨Y, F⟩ := YF
  obtain ⟨S, hS⟩ : ∃ S, staT T i = S := ⟨_, rfl⟩
  obtain ⟨q, hq⟩ : ∃ q, tis T i = q := ⟨_, rfl⟩
  have HOF := Lib.hid (show ∀ W, Below w3.heap.size w3 W → Calls Tryz.prog 11 #[.pointer (some ⟨g, 0, none⟩), .int .i64 i] W fun e w' => e = .returned (.tuple #[.agg #[.int .i64 S.node, .int .i64 S.kind, .int .i64 S.mode, .int .i64 S.uid, .int .i64 S.gid, .int .i64 S.links, .int .i64 S.size], .bool q]) ∧ Below W.heap.size W w' from fun W hb => by have h1 := of_any _ T i W (HT3.out.below hb); rw [hS, hq] at h1; exact h1)
  have HXS := Lib.hid (show ∀ W, Below w3.heap.size w3 W → Calls Tryz.prog 12 #[.pointer (some ⟨g, 0, none⟩), .agg #[.int .i64 c.u, .int .i64 c.g, .slice A0 n0 k0], .string s] W fun e w' => e = .returned (.tuple #[.agg #[.int .i64 X.node, .int .i64 X.kind, .int .i64 X.mode, .int .i64 X.uid, .int .i64 X.gid, .int .i64 X.links, .int .i64 X.size], .int .i64 E]) ∧ Below W.heap.size W w' from fun W hb => by have h1 := stat_any _ T c A0 n0 k0 (tl s) W (HT3.out.below hb) (HCR3.out.below hb) (X, E) hXE; rw [bA_tl] at h1; exact h1)
  have HYS := Lib.hid (show ∀ W, Below w3.heap.size w3 W → Calls Tryz.prog 15 #[.pointer (some ⟨g, 0, none⟩), .agg #[.int .i64 c.u, .int .i64 c.g, .slice A0 n0 k0], .string s] W fun e w' => e = .returned (.tuple #[.agg #[.int .i64 Y.node, .int .i64 Y.kind, .int .i64 Y.mode, .int .i64 Y.uid, .int .i64 Y.gid, .int .i64 Y.links, .int .i64 Y.size], .int .i64 F]) ∧ Below W.heap.size W w' from fun W hb => by have h1 := lstat_any _ T c A0 n0 k0 (tl s) W (HT3.out.below hb) (HCR3.out.below hb) (Y, F) hYF; rw [bA_tl] at h1; exact h1)
  have HRX := Lib.hid (show ∀ (P : Nat → Prop) (v : Value) (W : World), NsR P W v T → Below w3.heap.size w3 W → Calls Tryz.prog 13 #[.agg #[v], .agg #[.int .i64 c.u, .int .i64 c.g, .slice A0 n0 k0], .string s, .bool true] W fun e w' => e = .returned (.tuple #[.agg #[.int .i64 X.node, .int .i64 X.kind, .int .i64 X.mode, .int .i64 X.uid, .int .i64 X.gid, .int .i64 X.links, .int .i64 X.size], .int .i64 E]) ∧ Below W.heap.size W w' from fun P v W hn hb => by have h1 := rstat_any v T c A0 n0 k0 (tl s) true W hn HTR.out (HCR3.out.below hb) hl1000 (X, E) hXE; rw [bA_tl] at h1; exact h1)
  have HRY := Lib.hid (show ∀ (P : Nat → Prop) (v : Value) (W : World), NsR P W v T → Below w3.heap.size w3 W → Calls Tryz.prog 13 #[.agg #[v], .agg #[.int .i64 c.u, .int .i64 c.g, .slice A0 n0 k0], .string s, .bool false] W fun e w' => e = .returned (.tuple #[.agg #[.int .i64 Y.node, .int .i64 Y.kind, .int .i64 Y.mode, .int .i64 Y.uid, .int .i64 Y.gid, .int .i64 Y.links, .int .i64 Y.size], .int .i64 F]) ∧ Below W.heap.size W w' from fun P v W hn hb => by have h1 := rstat_any v T c A0 n0 k0 (tl s) false W hn HTR.out (HCR3.out.below hb) hl1000 (Y, F) hYF; rw [bA_tl] at h1; exact h1)
  have HRO := Lib.hid (show ∀ (P : Nat → Prop) (v : Value) (W : World), NsR P W v T → Calls Tryz.prog 16 #[.agg #[v], .int .i64 i] W fun e w' => e = .returned (.agg #[.int .i64 S.node, .int .i64 S.kind, .int .i64 S.mode, .int .i64 S.uid, .int .i64 S.gid, .int .i64 S.links, .int .i64 S.size]) ∧ Below W.heap.size W w' from fun P v W hn => by have h1 := rof_any v T i W hn HTR.out.le HTR.out.ok; rw [hS] at h1; exact h1)
  have HRI := Lib.hid (show ∀ (P : Nat → Prop) (v : Value) (W : World), NsR P W v T → Calls Tryz.prog 17 #[.agg #[v], .int .i64 i] W fun e w' => e = .returned (.bool q) ∧ Below W.heap.size W w' from fun P v W hn => by have h1 := ris_any v T i W hn HTR.out.le; rw [hq] at h1; exact h1)
  have HTE := Lib.hid (tree11_any g T w3 HTT.out)
  have HWH := Lib.hid (fun (W : World) => who_any c A0 n0 k0 W)
  clear hXE hYF HI3 hl1000 hS hq
  go_wp2_with fail
  refine HTE.out.mono ?_
  rintro e w4 ⟨g4, c4, rfl, hn, hb⟩
  have hbx := al hb (.cells #[.slice (some ⟨g4, 0, none⟩) T.length c4] 32)
  have hx5 := Blk.new w4 32 #[.slice (some ⟨g4, 0, none⟩) T.length c4]
  have hn5 := hn.below (ba w4 (.cells #[.slice (some ⟨g4, 0, none⟩) T.length c4] 32))
  obtain ⟨z, hz⟩ : ∃ z, w4.heap.size = z := ⟨_, rfl⟩
  obtain ⟨W5, hW5⟩ : ∃ W5, w4.alloc (.cells #[.slice (some ⟨g4, 0, none⟩) T.length c4] 32) = W5 := ⟨_, rfl⟩
  rw [hW5] at hbx hx5 hn5
  rw [hz] at hx5
  have J5 := Lib.hid hbx
  have HX5 := Lib.hid hx5
  have HN5 := Lib.hid hn5
  have HK5 := Lib.hid (HK3.out.below hbx)
  clear hb hbx hx5 hn hn5 k0' k1 k2 HTE HTT
  go_wp2_with fail
  clear hW5 hz
  refine (HOF.out _ J5.out).mono ?_
  rintro e w6 ⟨rfl, hb⟩
  have hbx := al hb (.cells #[.int .i64 S.node, .int .i64 S.kind, .int .i64 S.mode, .int .i64 S.uid, .int .i64 S.gid, .int .i64 S.links, .int .i64 S.size] 35)
  have hbk := Blk.new w6 35 #[.int .i64 S.node, .int .i64 S.kind, .int .i64 S.mode, .int .i64 S.uid, .int .i64 S.gid, .int .i64 S.links, .int .i64 S.size]
  obtain ⟨zS, hzS⟩ : ∃ zS, w6.heap.size = zS := ⟨_, rfl⟩
  obtain ⟨W6, hW6⟩ : ∃ W6, w6.alloc (.cells #[.int .i64 S.node, .int .i64 S.kind, .int .i64 S.mode, .int .i64 S.uid, .int .i64 S.gid, .int .i64 S.links, .int .i64 S.size] 35) = W6 := ⟨_, rfl⟩
  rw [hW6] at hbx hbk
  rw [hzS] at hbk
  have J6 := Lib.hid (bt hbx J5.out)
  have HX6 := Lib.hid (HX5.out.below hbx)
  have HN6 := Lib.hid (HN5.out.below hbx)
  have HK6 := Lib.hid (HK5.out.below hbx)
  have BS6 := Lib.hid hbk
  clear hb hbx hbk HOF
  obtain ⟨k0', k1, k2⟩ := HK6.out.c3
  go_wp2_with fail
  clear hW6 hzS
  refine (HXS.out _ J6.out).mono ?_
  rintro e w7 ⟨rfl, hb⟩
  have hbx := al hb (.cells #[.int .i64 X.node, .int .i64 X.kind, .int .i64 X.mode, .int .i64 X.uid, .int .i64 X.gid, .int .i64 X.links, .int .i64 X.size] 35)
  have hbk := Blk.new w7 35 #[.int .i64 X.node, .int .i64 X.kind, .int .i64 X.mode, .int .i64 X.uid, .int .i64 X.gid, .int .i64 X.links, .int .i64 X.size]
  obtain ⟨zX, hzX⟩ : ∃ zX, w7.heap.size = zX := ⟨_, rfl⟩
  obtain ⟨W7, hW7⟩ : ∃ W7, w7.alloc (.cells #[.int .i64 X.node, .int .i64 X.kind, .int .i64 X.mode, .int .i64 X.uid, .int .i64 X.gid, .int .i64 X.links, .int .i64 X.size] 35) = W7 := ⟨_, rfl⟩
  rw [hW7] at hbx hbk
  rw [hzX] at hbk
  have J7 := Lib.hid (bt hbx J6.out)
  have HX7 := Lib.hid (HX6.out.below hbx)
  have HN7 := Lib.hid (HN6.out.below hbx)
  have HK7 := Lib.hid (HK6.out.below hbx)
  have BX7 := Lib.hid hbk
  have BS7 := Lib.hid (BS6.out.below hbx)
  clear k0' k1 k2
  clear hb hbx hbk HXS
  have x0 := HX7.out.cell 0
  simp at x0
  obtain ⟨k0', k1, k2⟩ := HK7.out.c3
  have HPQ := Lib.hid (fun (W : World) (hb : Below W7.heap.size W7 W) => show W.cell? ⟨w.heap.size, 0, none⟩ = some (.int .i64 c.u) ∧ W.cell? ⟨w.heap.size, 1, none⟩ = some (.int .i64 c.g) ∧ W.cell? ⟨w.heap.size, 2, none⟩ = some (.slice A0 n0 k0) ∧ W.cell? ⟨z, 0, none⟩ = some (.slice (some ⟨g4, 0, none⟩) T.length c4) from ⟨(HK7.out.below hb).c3.1, (HK7.out.below hb).c3.2.1, (HK7.out.below hb).c3.2.2, (HX7.out.below hb).cell 0⟩)
  have HDR := Lib.hid (show Below W7.heap.size W7 W7.drew from (Below.refl _ _).drew)
  have HAD := Lib.hid (show Below W7.heap.size W7 (W7.alloc (.cells #[.int .i64 0, .int .i64 0, .int .i64 0, .int .i64 0, .int .i64 0, .int .i64 0, .int .i64 0] 35)).drew from (ba W7 _).drew)
  have HRN := Lib.hid (fun (W : World) (hb : Below W7.heap.size W7 W) => HRX.out _ _ W (HN7.out.below hb) (bt hb J7.out))
  go_upto_region 10 with fail
  clear hW7 hzX
  clear k0' k1 k2 x0
  go_cut [19, 20] (fun sa sb wx => ∃ d : Nat, sa = .pointer (some ⟨d, 0, none⟩) ∧ sb = .int .i64 E ∧ Bs W7 wx d X)
  case first =>
    go_region_held3 (fun W => W.cell? ⟨w.heap.size, 0, none⟩ = some (.int .i64 c.u) ∧ W.cell? ⟨w.heap.size, 1, none⟩ = some (.int .i64 c.g) ∧ W.cell? ⟨w.heap.size, 2, none⟩ = some (.slice A0 n0 k0) ∧ W.cell? ⟨z, 0, none⟩ = some (.slice (some ⟨g4, 0, none⟩) T.length c4))
      (first | (with_reducible exact HPQ.out _ HDR.out) | (with_reducible exact HPQ.out _ HAD.out) | (with_reducible exact HPQ.out _ HB7.out) | (with_reducible exact HPQ.out _ (al HB7.out _)) | (with_reducible exact HPQ.out _ HB8.out) | (with_reducible exact HPQ.out _ (al HB8.out _)) | (with_reducible exact ⟨t0, t1, t2, t3⟩))
      (first
      | (go_at_call 14; (with_reducible refine (HWH.out W7.drew).mono ?_); rintro e1 w7 ⟨rfl, hb7⟩; have HB7 := Lib.hid (bt hb7 HDR.out); clear hb7)
      | (go_at_call 14; (with_reducible refine (HWH.out (W7.alloc (.cells #[.int .i64 0, .int .i64 0, .int .i64 0, .int .i64 0, .int .i64 0, .int .i64 0, .int .i64 0] 35)).drew).mono ?_); rintro e1 w7 ⟨rfl, hb7⟩; have HB7 := Lib.hid (bt hb7 HAD.out); have HBX := Lib.hid (show Blk w7 W7.heap.size 35 #[.int .i64 0, .int .i64 0, .int .i64 0, .int .i64 0, .int .i64 0, .int .i64 0, .int .i64 0] from Blk.below (w := (W7.alloc (.cells #[.int .i64 0, .int .i64 0, .int .i64 0, .int .i64 0, .int .i64 0, .int .i64 0, .int .i64 0] 35)).drew) (Blk.new W7 35 _) hb7); clear hb7)
      | (go_at_call 13; (with_reducible refine (HRN.out w7 HB7.out).mono ?_); rintro e2 w8 ⟨rfl, hb8⟩; have HB8 := Lib.hid (bt hb8 HB7.out); first | (have hx8 := HBX.out.below hb8; have HX8 := Lib.hid hx8; obtain ⟨x0, x1, x2, x3, x4, x5, x6⟩ := hx8.c7; obtain ⟨f0, f1, f2, f3, f4, f5, f6⟩ := hx8.f7; obtain ⟨t0, t1, t2, t3⟩ := HPQ.out (((((((w8.setCell ⟨W7.heap.size, 0, none⟩ (.int .i64 X.node)).setCell ⟨W7.heap.size, 1, none⟩ (.int .i64 X.kind)).setCell ⟨W7.heap.size, 2, none⟩ (.int .i64 X.mode)).setCell ⟨W7.heap.size, 3, none⟩ (.int .i64 X.uid)).setCell ⟨W7.heap.size, 4, none⟩ (.int .i64 X.gid)).setCell ⟨W7.heap.size, 5, none⟩ (.int .i64 X.links)).setCell ⟨W7.heap.size, 6, none⟩ (.int .i64 X.size)) (putS_below X HB8.out (Nat.le_refl _)); clear hx8 hb8) | clear hb8)
      | (go_at_call 13; (with_reducible refine (HRN.out (w7.alloc (.cells #[.int .i64 0, .int .i64 0, .int .i64 0, .int .i64 0, .int .i64 0, .int .i64 0, .int .i64 0] 35)) (al HB7.out _)).mono ?_); rintro e2 w8 ⟨rfl, hb8⟩; have HB8 := Lib.hid (bt hb8 (al HB7.out _)); have hx8 := Blk.below (Blk.new w7 35 #[.int .i64 0, .int .i64 0, .int .i64 0, .int .i64 0, .int .i64 0, .int .i64 0, .int .i64 0]) hb8; have HX8 := Lib.hid hx8; obtain ⟨x0, x1, x2, x3, x4, x5, x6⟩ := hx8.c7; obtain ⟨f0, f1, f2, f3, f4, f5, f6⟩ := hx8.f7; obtain ⟨t0, t1, t2, t3⟩ := HPQ.out (((((((w8.setCell ⟨w7.heap.size, 0, none⟩ (.int .i64 X.node)).setCell ⟨w7.heap.size, 1, none⟩ (.int .i64 X.kind)).setCell ⟨w7.heap.size, 2, none⟩ (.int .i64 X.mode)).setCell ⟨w7.heap.size, 3, none⟩ (.int .i64 X.uid)).setCell ⟨w7.heap.size, 4, none⟩ (.int .i64 X.gid)).setCell ⟨w7.heap.size, 5, none⟩ (.int .i64 X.links)).setCell ⟨w7.heap.size, 6, none⟩ (.int .i64 X.size)) (putS_below X HB8.out HB7.out.size); clear hx8 hb8))
    all_goals (
      go_wp2
      go_meet
      first
        | with_reducible exact ⟨_, rfl, rfl, Bs.put HX8.out HB8.out (Nat.le_refl _)⟩
        | with_reducible exact ⟨_, rfl, rfl, Bs.put HX8.out HB8.out HB7.out.size⟩
        | exact ⟨_, rfl, rfl, Bs.fresh HB8.out⟩)
  case rest =>
  obtain ⟨dX, rfl, rfl, hbx⟩ := hcut
  obtain ⟨W9, hW9⟩ : ∃ W, wc = W := ⟨_, rfl⟩
  rw [hW9] at hbx ⊢
  have J9 := Lib.hid (bt hbx.below J7.out)
  have HX9 := Lib.hid (HX7.out.below hbx.below)
  have HN9 := Lib.hid (HN7.out.below hbx.below)
  have HK9 := Lib.hid (HK7.out.below hbx.below)
  have RX9 := Lib.hid hbx.blk
  have BS9 := Lib.hid (BS7.out.below hbx.below)
  have BX9 := Lib.hid (BX7.out.below hbx.below)
  clear hbx hW9 HPQ HDR HAD HRN HRX
  obtain ⟨k0', k1, k2⟩ := HK9.out.c3
  go_wp2_with fail
  refine (HYS.out _ J9.out).mono ?_
  rintro e w10 ⟨rfl, hb⟩
  have hbx := al hb (.cells #[.int .i64 Y.node, .int .i64 Y.kind, .int .i64 Y.mode, .int .i64 Y.uid, .int .i64 Y.gid, .int .i64 Y.links, .int .i64 Y.size] 35)
  have hbk := Blk.new w10 35 #[.int .i64 Y.node, .int .i64 Y.kind, .int .i64 Y.mode, .int .i64 Y.uid, .int .i64 Y.gid, .int .i64 Y.links, .int .i64 Y.size]
  obtain ⟨zY, hzY⟩ : ∃ zY, w10.heap.size = zY := ⟨_, rfl⟩
  obtain ⟨W10, hW10⟩ : ∃ W10, w10.alloc (.cells #[.int .i64 Y.node, .int .i64 Y.kind, .int .i64 Y.mode, .int .i64 Y.uid, .int .i64 Y.gid, .int .i64 Y.links, .int .i64 Y.size] 35) = W10 := ⟨_, rfl⟩
  rw [hW10] at hbx hbk
  rw [hzY] at hbk
  have J10 := Lib.hid (bt hbx J9.out)
  have HX10 := Lib.hid (HX9.out.below hbx)
  have HN10 := Lib.hid (HN9.out.below hbx)
  have HK10 := Lib.hid (HK9.out.below hbx)
  have BY10 := Lib.hid hbk
  have BS10 := Lib.hid (BS9.out.below hbx)
  have BX10 := Lib.hid (BX9.out.below hbx)
  have RX10 := Lib.hid (RX9.out.below hbx)
  clear k0' k1 k2
  clear hb hbx hbk HYS
  have x0 := HX10.out.cell 0
  simp at x0
  obtain ⟨k0', k1, k2⟩ := HK10.out.c3
  have HPQ := Lib.hid (fun (W : World) (hb : Below W10.heap.size W10 W) => show W.cell? ⟨w.heap.size, 0, none⟩ = some (.int .i64 c.u) ∧ W.cell? ⟨w.heap.size, 1, none⟩ = some (.int .i64 c.g) ∧ W.cell? ⟨w.heap.size, 2, none⟩ = some (.slice A0 n0 k0) ∧ W.cell? ⟨z, 0, none⟩ = some (.slice (some ⟨g4, 0, none⟩) T.length c4) from ⟨(HK10.out.below hb).c3.1, (HK10.out.below hb).c3.2.1, (HK10.out.below hb).c3.2.2, (HX10.out.below hb).cell 0⟩)
  have HDR := Lib.hid (show Below W10.heap.size W10 W10.drew from (Below.refl _ _).drew)
  have HAD := Lib.hid (show Below W10.heap.size W10 (W10.alloc (.cells #[.int .i64 0, .int .i64 0, .int .i64 0, .int .i64 0, .int .i64 0, .int .i64 0, .int .i64 0] 35)).drew from (ba W10 _).drew)
  have HRN := Lib.hid (fun (W : World) (hb : Below W10.heap.size W10 W) => HRY.out _ _ W (HN10.out.below hb) (bt hb J10.out))
  go_upto_region 12 with fail
  clear hW10 hzY
  clear k0' k1 k2 x0
  go_cut [23, 24] (fun sa sb wx => ∃ d : Nat, sa = .pointer (some ⟨d, 0, none⟩) ∧ sb = .int .i64 F ∧ Bs W10 wx d Y)
  case first =>
    go_region_held3 (fun W => W.cell? ⟨w.heap.size, 0, none⟩ = some (.int .i64 c.u) ∧ W.cell? ⟨w.heap.size, 1, none⟩ = some (.int .i64 c.g) ∧ W.cell? ⟨w.heap.size, 2, none⟩ = some (.slice A0 n0 k0) ∧ W.cell? ⟨z, 0, none⟩ = some (.slice (some ⟨g4, 0, none⟩) T.length c4))
      (first | (with_reducible exact HPQ.out _ HDR.out) | (with_reducible exact HPQ.out _ HAD.out) | (with_reducible exact HPQ.out _ HB7.out) | (with_reducible exact HPQ.out _ (al HB7.out _)) | (with_reducible exact HPQ.out _ HB8.out) | (with_reducible exact HPQ.out _ (al HB8.out _)) | (with_reducible exact ⟨t0, t1, t2, t3⟩))
      (first
      | (go_at_call 14; (with_reducible refine (HWH.out W10.drew).mono ?_); rintro e1 w7 ⟨rfl, hb7⟩; have HB7 := Lib.hid (bt hb7 HDR.out); clear hb7)
      | (go_at_call 14; (with_reducible refine (HWH.out (W10.alloc (.cells #[.int .i64 0, .int .i64 0, .int .i64 0, .int .i64 0, .int .i64 0, .int .i64 0, .int .i64 0] 35)).drew).mono ?_); rintro e1 w7 ⟨rfl, hb7⟩; have HB7 := Lib.hid (bt hb7 HAD.out); have HBX := Lib.hid (show Blk w7 W10.heap.size 35 #[.int .i64 0, .int .i64 0, .int .i64 0, .int .i64 0, .int .i64 0, .int .i64 0, .int .i64 0] from Blk.below (w := (W10.alloc (.cells #[.int .i64 0, .int .i64 0, .int .i64 0, .int .i64 0, .int .i64 0, .int .i64 0, .int .i64 0] 35)).drew) (Blk.new W10 35 _) hb7); clear hb7)
      | (go_at_call 13; (with_reducible refine (HRN.out w7 HB7.out).mono ?_); rintro e2 w8 ⟨rfl, hb8⟩; have HB8 := Lib.hid (bt hb8 HB7.out); first | (have hx8 := HBX.out.below hb8; have HX8 := Lib.hid hx8; obtain ⟨x0, x1, x2, x3, x4, x5, x6⟩ := hx8.c7; obtain ⟨f0, f1, f2, f3, f4, f5, f6⟩ := hx8.f7; obtain ⟨t0, t1, t2, t3⟩ := HPQ.out (((((((w8.setCell ⟨W10.heap.size, 0, none⟩ (.int .i64 Y.node)).setCell ⟨W10.heap.size, 1, none⟩ (.int .i64 Y.kind)).setCell ⟨W10.heap.size, 2, none⟩ (.int .i64 Y.mode)).setCell ⟨W10.heap.size, 3, none⟩ (.int .i64 Y.uid)).setCell ⟨W10.heap.size, 4, none⟩ (.int .i64 Y.gid)).setCell ⟨W10.heap.size, 5, none⟩ (.int .i64 Y.links)).setCell ⟨W10.heap.size, 6, none⟩ (.int .i64 Y.size)) (putS_below Y HB8.out (Nat.le_refl _)); clear hx8 hb8) | clear hb8)
      | (go_at_call 13; (with_reducible refine (HRN.out (w7.alloc (.cells #[.int .i64 0, .int .i64 0, .int .i64 0, .int .i64 0, .int .i64 0, .int .i64 0, .int .i64 0] 35)) (al HB7.out _)).mono ?_); rintro e2 w8 ⟨rfl, hb8⟩; have HB8 := Lib.hid (bt hb8 (al HB7.out _)); have hx8 := Blk.below (Blk.new w7 35 #[.int .i64 0, .int .i64 0, .int .i64 0, .int .i64 0, .int .i64 0, .int .i64 0, .int .i64 0]) hb8; have HX8 := Lib.hid hx8; obtain ⟨x0, x1, x2, x3, x4, x5, x6⟩ := hx8.c7; obtain ⟨f0, f1, f2, f3, f4, f5, f6⟩ := hx8.f7; obtain ⟨t0, t1, t2, t3⟩ := HPQ.out (((((((w8.setCell ⟨w7.heap.size, 0, none⟩ (.int .i64 Y.node)).setCell ⟨w7.heap.size, 1, none⟩ (.int .i64 Y.kind)).setCell ⟨w7.heap.size, 2, none⟩ (.int .i64 Y.mode)).setCell ⟨w7.heap.size, 3, none⟩ (.int .i64 Y.uid)).setCell ⟨w7.heap.size, 4, none⟩ (.int .i64 Y.gid)).setCell ⟨w7.heap.size, 5, none⟩ (.int .i64 Y.links)).setCell ⟨w7.heap.size, 6, none⟩ (.int .i64 Y.size)) (putS_below Y HB8.out HB7.out.size); clear hx8 hb8))
    all_goals (
      go_wp2
      go_meet
      first
        | with_reducible exact ⟨_, rfl, rfl, Bs.put HX8.out HB8.out (Nat.le_refl _)⟩
        | with_reducible exact ⟨_, rfl, rfl, Bs.put HX8.out HB8.out HB7.out.size⟩
        | exact ⟨_, rfl, rfl, Bs.fresh HB8.out⟩)
  case rest =>
  obtain ⟨dY, rfl, rfl, hbx⟩ := hcut
  obtain ⟨W12, hW12⟩ : ∃ W, wc = W := ⟨_, rfl⟩
  rw [hW12] at hbx ⊢
  have J12 := Lib.hid (bt hbx.below J10.out)
  have HX12 := Lib.hid (HX10.out.below hbx.below)
  have HN12 := Lib.hid (HN10.out.below hbx.below)
  have HK12 := Lib.hid (HK10.out.below hbx.below)
  have RY12 := Lib.hid hbx.blk
  have BS12 := Lib.hid (BS10.out.below hbx.below)
  have BX12 := Lib.hid (BX10.out.below hbx.below)
  have BY12 := Lib.hid (BY10.out.below hbx.below)
  have RX12 := Lib.hid (RX10.out.below hbx.below)
  clear hbx hW12 HPQ HDR HAD HRN HRY
  have HPQ := Lib.hid (fun (W : World) (hb : Below W12.heap.size W12 W) => show W.cell? ⟨zS, 0, none⟩ = some (.int .i64 S.node) ∧ W.cell? ⟨zS, 1, none⟩ = some (.int .i64 S.kind) ∧ W.cell? ⟨zS, 2, none⟩ = some (.int .i64 S.mode) ∧ W.cell? ⟨zS, 3, none⟩ = some (.int .i64 S.uid) ∧ W.cell? ⟨zS, 4, none⟩ = some (.int .i64 S.gid) ∧ W.cell? ⟨zS, 5, none⟩ = some (.int .i64 S.links) ∧ W.cell? ⟨zS, 6, none⟩ = some (.int .i64 S.size) ∧ W.cell? ⟨zX, 0, none⟩ = some (.int .i64 X.node) ∧ W.cell? ⟨zX, 1, none⟩ = some (.int .i64 X.kind) ∧ W.cell? ⟨zX, 2, none⟩ = some (.int .i64 X.mode) ∧ W.cell? ⟨zX, 3, none⟩ = some (.int .i64 X.uid) ∧ W.cell? ⟨zX, 4, none⟩ = some (.int .i64 X.gid) ∧ W.cell? ⟨zX, 5, none⟩ = some (.int .i64 X.links) ∧ W.cell? ⟨zX, 6, none⟩ = some (.int .i64 X.size) ∧ W.cell? ⟨dX, 0, none⟩ = some (.int .i64 X.node) ∧ W.cell? ⟨dX, 1, none⟩ = some (.int .i64 X.kind) ∧ W.cell? ⟨dX, 2, none⟩ = some (.int .i64 X.mode) ∧ W.cell? ⟨dX, 3, none⟩ = some (.int .i64 X.uid) ∧ W.cell? ⟨dX, 4, none⟩ = some (.int .i64 X.gid) ∧ W.cell? ⟨dX, 5, none⟩ = some (.int .i64 X.links) ∧ W.cell? ⟨dX, 6, none⟩ = some (.int .i64 X.size) ∧ W.cell? ⟨zY, 0, none⟩ = some (.int .i64 Y.node) ∧ W.cell? ⟨zY, 1, none⟩ = some (.int .i64 Y.kind) ∧ W.cell? ⟨zY, 2, none⟩ = some (.int .i64 Y.mode) ∧ W.cell? ⟨zY, 3, none⟩ = some (.int .i64 Y.uid) ∧ W.cell? ⟨zY, 4, none⟩ = some (.int .i64 Y.gid) ∧ W.cell? ⟨zY, 5, none⟩ = some (.int .i64 Y.links) ∧ W.cell? ⟨zY, 6, none⟩ = some (.int .i64 Y.size) ∧ W.cell? ⟨dY, 0, none⟩ = some (.int .i64 Y.node) ∧ W.cell? ⟨dY, 1, none⟩ = some (.int .i64 Y.kind) ∧ W.cell? ⟨dY, 2, none⟩ = some (.int .i64 Y.mode) ∧ W.cell? ⟨dY, 3, none⟩ = some (.int .i64 Y.uid) ∧ W.cell? ⟨dY, 4, none⟩ = some (.int .i64 Y.gid) ∧ W.cell? ⟨dY, 5, none⟩ = some (.int .i64 Y.links) ∧ W.cell? ⟨dY, 6, none⟩ = some (.int .i64 Y.size) ∧ W.cell? ⟨z, 0, none⟩ = some (.slice (some ⟨g4, 0, none⟩) T.length c4) from ⟨(BS12.out.below hb).c7.1, (BS12.out.below hb).c7.2.1, (BS12.out.below hb).c7.2.2.1, (BS12.out.below hb).c7.2.2.2.1, (BS12.out.below hb).c7.2.2.2.2.1, (BS12.out.below hb).c7.2.2.2.2.2.1, (BS12.out.below hb).c7.2.2.2.2.2.2, (BX12.out.below hb).c7.1, (BX12.out.below hb).c7.2.1, (BX12.out.below hb).c7.2.2.1, (BX12.out.below hb).c7.2.2.2.1, (BX12.out.below hb).c7.2.2.2.2.1, (BX12.out.below hb).c7.2.2.2.2.2.1, (BX12.out.below hb).c7.2.2.2.2.2.2, (RX12.out.below hb).c7.1, (RX12.out.below hb).c7.2.1, (RX12.out.below hb).c7.2.2.1, (RX12.out.below hb).c7.2.2.2.1, (RX12.out.below hb).c7.2.2.2.2.1, (RX12.out.below hb).c7.2.2.2.2.2.1, (RX12.out.below hb).c7.2.2.2.2.2.2, (BY12.out.below hb).c7.1, (BY12.out.below hb).c7.2.1, (BY12.out.below hb).c7.2.2.1, (BY12.out.below hb).c7.2.2.2.1, (BY12.out.below hb).c7.2.2.2.2.1, (BY12.out.below hb).c7.2.2.2.2.2.1, (BY12.out.below hb).c7.2.2.2.2.2.2, (RY12.out.below hb).c7.1, (RY12.out.below hb).c7.2.1, (RY12.out.below hb).c7.2.2.1, (RY12.out.below hb).c7.2.2.2.1, (RY12.out.below hb).c7.2.2.2.2.1, (RY12.out.below hb).c7.2.2.2.2.2.1, (RY12.out.below hb).c7.2.2.2.2.2.2, (HX12.out.below hb).cell 0⟩)
  have y0 : (q == q) = true := by simp
  have y1 : (E == E) = true := by simp
  have y2 : (F == F) = true := by simp
  have HDR := Lib.hid (show Below W12.heap.size W12 W12.drew from (Below.refl _ _).drew)
  have HO2 := Lib.hid (fun (W : World) (hb : Below W12.heap.size W12 W) => HRO.out _ _ W (HN12.out.below hb))
  have HI2 := Lib.hid (fun (W : World) (hb : Below W12.heap.size W12 W) => HRI.out _ _ W (HN12.out.below hb))
  have hes : ∀ W : World, (Op.equalIn 10000 35 (.agg #[.int .i64 S.node, .int .i64 S.kind, .int .i64 S.mode, .int .i64 S.uid, .int .i64 S.gid, .int .i64 S.links, .int .i64 S.size]) (.agg #[.int .i64 S.node, .int .i64 S.kind, .int .i64 S.mode, .int .i64 S.uid, .int .i64 S.gid, .int .i64 S.links, .int .i64 S.size])).run Tryz.prog W = Result.ok true W := fun W => (eq_stat S.node S.kind S.mode S.uid S.gid S.links S.size S.node S.kind S.mode S.uid S.gid S.links S.size W).trans (by simp)
  have hex : ∀ W : World, (Op.equalIn 10000 35 (.agg #[.int .i64 X.node, .int .i64 X.kind, .int .i64 X.mode, .int .i64 X.uid, .int .i64 X.gid, .int .i64 X.links, .int .i64 X.size]) (.agg #[.int .i64 X.node, .int .i64 X.kind, .int .i64 X.mode, .int .i64 X.uid, .int .i64 X.gid, .int .i64 X.links, .int .i64 X.size])).run Tryz.prog W = Result.ok true W := fun W => (eq_stat X.node X.kind X.mode X.uid X.gid X.links X.size X.node X.kind X.mode X.uid X.gid X.links X.size W).trans (by simp)
  have hey : ∀ W : World, (Op.equalIn 10000 35 (.agg #[.int .i64 Y.node, .int .i64 Y.kind, .int .i64 Y.mode, .int .i64 Y.uid, .int .i64 Y.gid, .int .i64 Y.links, .int .i64 Y.size]) (.agg #[.int .i64 Y.node, .int .i64 Y.kind, .int .i64 Y.mode, .int .i64 Y.uid, .int .i64 Y.gid, .int .i64 Y.links, .int .i64 Y.size])).run Tryz.prog W = Result.ok true W := fun W => (eq_stat Y.node Y.kind Y.mode Y.uid Y.gid Y.links Y.size Y.node Y.kind Y.mode Y.uid Y.gid Y.links Y.size W).trans (by simp)
  go_upto_region 13 with fail
  go_region_held3 (fun W => W.cell? ⟨zS, 0, none⟩ = some (.int .i64 S.node) ∧ W.cell? ⟨zS, 1, none⟩ = some (.int .i64 S.kind) ∧ W.cell? ⟨zS, 2, none⟩ = some (.int .i64 S.mode) ∧ W.cell? ⟨zS, 3, none⟩ = some (.int .i64 S.uid) ∧ W.cell? ⟨zS, 4, none⟩ = some (.int .i64 S.gid) ∧ W.cell? ⟨zS, 5, none⟩ = some (.int .i64 S.links) ∧ W.cell? ⟨zS, 6, none⟩ = some (.int .i64 S.size) ∧ W.cell? ⟨zX, 0, none⟩ = some (.int .i64 X.node) ∧ W.cell? ⟨zX, 1, none⟩ = some (.int .i64 X.kind) ∧ W.cell? ⟨zX, 2, none⟩ = some (.int .i64 X.mode) ∧ W.cell? ⟨zX, 3, none⟩ = some (.int .i64 X.uid) ∧ W.cell? ⟨zX, 4, none⟩ = some (.int .i64 X.gid) ∧ W.cell? ⟨zX, 5, none⟩ = some (.int .i64 X.links) ∧ W.cell? ⟨zX, 6, none⟩ = some (.int .i64 X.size) ∧ W.cell? ⟨dX, 0, none⟩ = some (.int .i64 X.node) ∧ W.cell? ⟨dX, 1, none⟩ = some (.int .i64 X.kind) ∧ W.cell? ⟨dX, 2, none⟩ = some (.int .i64 X.mode) ∧ W.cell? ⟨dX, 3, none⟩ = some (.int .i64 X.uid) ∧ W.cell? ⟨dX, 4, none⟩ = some (.int .i64 X.gid) ∧ W.cell? ⟨dX, 5, none⟩ = some (.int .i64 X.links) ∧ W.cell? ⟨dX, 6, none⟩ = some (.int .i64 X.size) ∧ W.cell? ⟨zY, 0, none⟩ = some (.int .i64 Y.node) ∧ W.cell? ⟨zY, 1, none⟩ = some (.int .i64 Y.kind) ∧ W.cell? ⟨zY, 2, none⟩ = some (.int .i64 Y.mode) ∧ W.cell? ⟨zY, 3, none⟩ = some (.int .i64 Y.uid) ∧ W.cell? ⟨zY, 4, none⟩ = some (.int .i64 Y.gid) ∧ W.cell? ⟨zY, 5, none⟩ = some (.int .i64 Y.links) ∧ W.cell? ⟨zY, 6, none⟩ = some (.int .i64 Y.size) ∧ W.cell? ⟨dY, 0, none⟩ = some (.int .i64 Y.node) ∧ W.cell? ⟨dY, 1, none⟩ = some (.int .i64 Y.kind) ∧ W.cell? ⟨dY, 2, none⟩ = some (.int .i64 Y.mode) ∧ W.cell? ⟨dY, 3, none⟩ = some (.int .i64 Y.uid) ∧ W.cell? ⟨dY, 4, none⟩ = some (.int .i64 Y.gid) ∧ W.cell? ⟨dY, 5, none⟩ = some (.int .i64 Y.links) ∧ W.cell? ⟨dY, 6, none⟩ = some (.int .i64 Y.size) ∧ W.cell? ⟨z, 0, none⟩ = some (.slice (some ⟨g4, 0, none⟩) T.length c4))
    (first | (with_reducible exact HPQ.out _ HDR.out) | (with_reducible exact HPQ.out _ JW.out) | (with_reducible exact HPQ.out _ JV.out))
    (first
    | (go_at_call 16; (with_reducible refine (HO2.out _ HDR.out).mono ?_); rintro e1 w13 ⟨rfl, hb13⟩; have JW := Lib.hid (bt hb13 HDR.out); clear hb13)
    | (go_at_call 17; (with_reducible refine (HI2.out _ JW.out).mono ?_); rintro e2 w14 ⟨rfl, hb14⟩; have JV := Lib.hid (bt hb14 JW.out); clear hb14))
  all_goals (
    go_wp2
    go_ret
    exact ⟨ret_bool (by first | rfl | simp), bt JV.out (bt J12.out HB3.out)⟩)
end Go.Proofs.YtilepnepcamnaaaGreat
