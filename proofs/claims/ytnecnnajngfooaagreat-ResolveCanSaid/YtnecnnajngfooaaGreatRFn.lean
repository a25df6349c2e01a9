/-
  The walk of ResolveFinds: it answers true of whatever is told, of any who ask, of any path. The condition: what is told is no longer than a machine can hold.
-/
import Derived.Test.YtnecnnajngfooaaGreatRsK
import Derived.Test.YtnecnnajngfooaaGreatRfD
import Derived.Test.YtnecnnajngfooaaGreatTr11
import Derived.Deep.RegionHeld3
namespace Go.Proofs.YtnecnnajngfooaaGreat
open Go Go.RowKit
set_option maxRecDepth 100000

attribute [local go_sem] cell_off4 cell_blk4
theorem isB_crrZ {m : Int} {l : List Rw} {c : Wh} {T : List Nd} {A0 : Option Addr} {n0 k0 : Nat} {W : World} (h : isB m l c T) (hi : IntsR W (.slice A0 n0 k0) c.gs) : CrR W c A0 n0 k0 := ⟨hi, by have := h.1.2; omega⟩
structure Bz (w wx : World) (d : Nat) (cs : Array Value) : Prop where
  blk : Blk wx d 35 cs
  below : Below w.heap.size w wx
theorem Bz.fresh {w w8 : World} {cs : Array Value} (h : Below w.heap.size w w8) : Bz w (w8.alloc (.cells cs 35)) w8.heap.size cs := ⟨Blk.new _ _ _, al h _⟩
theorem Bz.put {w w8 : World} {d : Nat} {a b c a' b' c' : Value} (hk : Blk w8 d 35 #[a', b', c']) (h : Below w.heap.size w w8) (hd : w.heap.size ≤ d) : Bz w (put3 w8 d a b c) d #[a, b, c] := ⟨hk.put3 a b c, below_grown h (grown3 _ _ _ _ _) hd⟩
set_option maxHeartbeats 8000000 in
theorem finds_any (x0 : Int) (v1 : Value) (l : List Rw) (c : Wh) (A0 : Option Addr) (n0 k0 : Nat) (s : ByteArray) (f : Bool) (w : World) (h1 : RawsR w v1 l) (hl1 : l.length ≤ maxLen) (h2 : IntsR w (.slice A0 n0 k0) c.gs) :
    Calls Tryz.prog 3 #[.int .i64 x0, v1, .agg #[.int .i64 c.u, .int .i64 c.g, .slice A0 n0 k0], .string s, .bool f] w fun e w' => e = .returned (.bool true) ∧ Below w.heap.size w w' := by
  have hb0 := ba w (.cells #[.int .i64 c.u, .int .i64 c.g, .slice A0 n0 k0] 25)
  have hk0 := Blk.new w 25 #[.int .i64 c.u, .int .i64 c.g, .slice A0 n0 k0]
  obtain ⟨W1, hW1⟩ : ∃ W1, w.alloc (.cells #[.int .i64 c.u, .int .i64 c.g, .slice A0 n0 k0] 25) = W1 := ⟨_, rfl⟩
  rw [hW1] at hb0 hk0
  have HA := Lib.hid (awake11_any W1)
  have HR := Lib.hid (h1.below hb0)
  have HI := Lib.hid (h2.below hb0)
  have HL := Lib.hid hl1
  have HB0 := Lib.hid hb0
  have HK0 := Lib.hid hk0
  clear h1 h2 hl1 hb0 hk0
  go_enter Tryz.func3, Tryz.ntmps3
  go_wp2_with fail
  clear hW1
  refine HA.out.mono ?_
  rintro e w2 ⟨rfl, hb2⟩
  have hk2 := HK0.out.below hb2
  have HB2 := Lib.hid (bt hb2 HB0.out)
  have HK2 := Lib.hid hk2
  have HI2 := Lib.hid (HI.out.below hb2)
  have HBL := Lib.hid (built_any x0 v1 l c A0 n0 k0 w2 (HR.out.below hb2) HL.out HI2.out)
  obtain ⟨k0', k1, k2⟩ := hk2.c3
  clear hb2 hk2 HA HK0 HI HR HB0
  go_wp2_with fail
  refine HBL.out.mono ?_
  rintro e w3 ⟨hans, hb3⟩
  have HB3 := Lib.hid (bt hb3 HB2.out)
  have hk3 := HK2.out.below hb3
  have HI3 := Lib.hid (HI2.out.below hb3)
  clear k0' k1 k2 hb3 HBL
  rcases hans with ⟨rfl, -⟩ | ⟨g, T, rfl, hB, hT⟩
  · clear hk3
    go_wp2
    go_ret
    exact ⟨rfl, HB3.out⟩
  have HT3 := Lib.hid hT.ptr
  have HTT := Lib.hid hT
  have HCR3 := Lib.hid (isB_crrZ hB HI3.out)
  have HK3 := Lib.hid hk3
  obtain ⟨k0', k1, k2⟩ := hk3.c3
  clear hT hB hk3 HK2 HI2 HB2
  by_cases h100 : 100 < s.size
  · have y100 : (s.size : Int) > 100 := by omega
    clear h100
    go_wp2
    go_ret
    exact ⟨rfl, HB3.out⟩
  have y100 : ¬ (s.size : Int) > 100 := by omega
  have HSZ := Lib.hid (show (tl s).length ≤ 1000 by rw [tl_len]; omega)
  clear h100
  obtain ⟨X, hX⟩ : ∃ X, resM T c (tl s) f = X := ⟨_, rfl⟩
  obtain ⟨F, E⟩ := X
  have HX := Lib.hid (show Calls Tryz.prog 7 #[.pointer (some ⟨g, 0, none⟩), .agg #[.int .i64 c.u, .int .i64 c.g, .slice A0 n0 k0], .string s, .bool f] w3 fun e w' => e = .returned (.tuple #[.agg #[.int .i64 F.dir, .string (bA F.name), .int .i64 F.node], .int .i64 E]) ∧ Below w3.heap.size w3 w' from by have h1 := resolve_any _ T c A0 n0 k0 (tl s) f w3 HT3.out HCR3.out (F, E) hX; rw [bA_tl] at h1; exact h1)
  have HEQ := Lib.hid hX
  clear hX
  go_wp2_with fail
  refine HX.out.mono ?_
  rintro e w4 ⟨rfl, hb4⟩
  have hbx := al hb4 (.cells #[.int .i64 F.dir, .string (bA F.name), .int .i64 F.node] 31)
  have HB4 := Lib.hid (bt hbx HB3.out)
  have HT4 := Lib.hid (HTT.out.below hbx)
  have HCR4 := Lib.hid (HCR3.out.below hbx)
  have hk4 := HK3.out.below hbx
  have hf4 := Blk.new w4 31 #[.int .i64 F.dir, .string (bA F.name), .int .i64 F.node]
  obtain ⟨y, hy⟩ : ∃ y, w4.heap.size = y := ⟨_, rfl⟩
  obtain ⟨W5, hW5⟩ : ∃ W5, w4.alloc (.cells #[.int .i64 F.dir, .string (bA F.name), .int .i64 F.node] 31) = W5 := ⟨_, rfl⟩
  rw [hW5] at HB4 HT4 HCR4 hk4 hf4
  rw [hy] at hf4
  have HK5 := Lib.hid hk4
  have HF5 := Lib.hid hf4
  have zC := hk4.lt
  clear k0' k1 k2 hb4 hbx HX HK3 HI3 HB3 HT3 HTT HCR3
  obtain ⟨k0', k1, k2⟩ := hk4.c3
  have q0 : W5.drew.cell? ⟨w.heap.size, 0, none⟩ = some (.int .i64 c.u) := k0'
  have q1 : W5.drew.cell? ⟨w.heap.size, 1, none⟩ = some (.int .i64 c.g) := k1
  have q2 : W5.drew.cell? ⟨w.heap.size, 2, none⟩ = some (.slice A0 n0 k0) := k2
  have a0 : (W5.alloc (.cells #[.int .i64 0, .string ⟨#[]⟩, .int .i64 0] 35)).drew.cell? ⟨w.heap.size, 0, none⟩ = some (.int .i64 c.u) := bc (ba W5 _).drew k0'
  have a1 : (W5.alloc (.cells #[.int .i64 0, .string ⟨#[]⟩, .int .i64 0] 35)).drew.cell? ⟨w.heap.size, 1, none⟩ = some (.int .i64 c.g) := bc (ba W5 _).drew k1
  have a2 : (W5.alloc (.cells #[.int .i64 0, .string ⟨#[]⟩, .int .i64 0] 35)).drew.cell? ⟨w.heap.size, 2, none⟩ = some (.slice A0 n0 k0) := bc (ba W5 _).drew k2
  have HDR := Lib.hid (show Below W5.heap.size W5 W5.drew from (Below.refl _ _).drew)
  have HAD := Lib.hid (show Below W5.heap.size W5 (W5.alloc (.cells #[.int .i64 0, .string ⟨#[]⟩, .int .i64 0] 35)).drew from (ba W5 _).drew)
  have HTE := Lib.hid (fun (W : World) (hb : Below W5.heap.size W5 W) => tree11_any g T W (HT4.out.below hb))
  have HWH := Lib.hid (fun (W : World) => who_any c A0 n0 k0 W)
  have HRR := Lib.hid (fun (P : Nat → Prop) (v : Value) (W : World) (hb : Below W5.heap.size W5 W) (hn : NsR P W v T) => show Calls Tryz.prog 8 #[.agg #[v], .agg #[.int .i64 c.u, .int .i64 c.g, .slice A0 n0 k0], .string s, .bool f] W fun e w' => e = .returned (.tuple #[.agg #[.int .i64 F.dir, .string (bA F.name), .int .i64 F.node], .int .i64 E]) ∧ Below W.heap.size W w' from by have h1 := rres_any v T c A0 n0 k0 (tl s) f W hn HT4.out.hi HT4.out.ok (HCR4.out.below hb) HSZ.out (F, E) HEQ.out; rw [bA_tl] at h1; exact h1)
  clear hk4 hf4 k0' k1 k2
  go_upto_region 8 with fail
  go_cut [16, 17] (fun s16 s17 wx => ∃ d : Nat, s16 = .pointer (some ⟨d, 0, none⟩) ∧ s17 = .int .i64 E ∧ Bz W5 wx d #[.int .i64 F.dir, .string (bA F.name), .int .i64 F.node])
  case first =>
    go_region_held3 (fun w' => w'.cell? ⟨w.heap.size, 0, none⟩ = some (.int .i64 c.u) ∧ w'.cell? ⟨w.heap.size, 1, none⟩ = some (.int .i64 c.g) ∧ w'.cell? ⟨w.heap.size, 2, none⟩ = some (.slice A0 n0 k0))
      (first | (with_reducible exact ⟨q0, q1, q2⟩) | (with_reducible exact ⟨a0, a1, a2⟩) | (with_reducible exact ⟨r0, r1, r2⟩) | (with_reducible exact ⟨u0, u1, u2⟩) | (with_reducible exact ⟨v0, v1', v2⟩) | (with_reducible exact ⟨o0, o1, o2⟩) | (with_reducible exact ⟨p0, p1, p2⟩) | (with_reducible exact ⟨t0, t1, t2⟩) | (with_reducible exact ⟨bc (ba w9 _) p0, bc (ba w9 _) p1, bc (ba w9 _) p2⟩))
      (first
      | (go_at_call 9; (with_reducible refine (HTE.out W5.drew HDR.out).mono ?_); rintro e1 w7 ⟨g', c', rfl, hn7, hb7⟩; have HB7 := Lib.hid (bt hb7 HDR.out); have HN7 := Lib.hid hn7; have z7 : w.heap.size < w7.heap.size := Nat.lt_of_lt_of_le zC HB7.out.size; have r0 := bc hb7 q0; have r1 := bc hb7 q1; have r2 := bc hb7 q2; have u0 := bc (ba w7 (.cells #[.int .i64 0, .string ⟨#[]⟩, .int .i64 0] 35)) r0; have u1 := bc (ba w7 (.cells #[.int .i64 0, .string ⟨#[]⟩, .int .i64 0] 35)) r1; have u2 := bc (ba w7 (.cells #[.int .i64 0, .string ⟨#[]⟩, .int .i64 0] 35)) r2; clear hb7 hn7)
      | (go_at_call 9; (with_reducible refine (HTE.out (W5.alloc (.cells #[.int .i64 0, .string ⟨#[]⟩, .int .i64 0] 35)).drew HAD.out).mono ?_); rintro e1 w7 ⟨g', c', rfl, hn7, hb7⟩; have HB7 := Lib.hid (bt hb7 HAD.out); have HN7 := Lib.hid hn7; have z7 : w.heap.size < w7.heap.size := Nat.lt_of_lt_of_le zC HB7.out.size; have HBA := Lib.hid (show Blk w7 W5.heap.size 35 #[.int .i64 0, .string ⟨#[]⟩, .int .i64 0] from Blk.below (w := (W5.alloc (.cells #[.int .i64 0, .string ⟨#[]⟩, .int .i64 0] 35)).drew) (Blk.new W5 35 _) hb7); have r0 := bc hb7 a0; have r1 := bc hb7 a1; have r2 := bc hb7 a2; have u0 := bc (ba w7 (.cells #[.int .i64 0, .string ⟨#[]⟩, .int .i64 0] 35)) r0; have u1 := bc (ba w7 (.cells #[.int .i64 0, .string ⟨#[]⟩, .int .i64 0] 35)) r1; have u2 := bc (ba w7 (.cells #[.int .i64 0, .string ⟨#[]⟩, .int .i64 0] 35)) r2; clear hb7 hn7)
      | (go_at_call 10; (with_reducible refine (HWH.out w7).mono ?_); rintro e2 w8 ⟨rfl, hb8⟩; have HB8 := Lib.hid (bt hb8 HB7.out); have HN8 := Lib.hid (HN7.out.below hb8); have z8 : w.heap.size < w8.heap.size := Nat.lt_of_lt_of_le zC HB8.out.size; have v0 := bc hb8 r0; have v1' := bc hb8 r1; have v2 := bc hb8 r2; have o0 := bc (ba w8 (.cells #[.int .i64 0, .string ⟨#[]⟩, .int .i64 0] 35)) v0; have o1 := bc (ba w8 (.cells #[.int .i64 0, .string ⟨#[]⟩, .int .i64 0] 35)) v1'; have o2 := bc (ba w8 (.cells #[.int .i64 0, .string ⟨#[]⟩, .int .i64 0] 35)) v2; first | (have HBA8 := Lib.hid (HBA.out.below hb8); clear hb8) | clear hb8)
      | (go_at_call 10; (with_reducible refine (HWH.out (w7.alloc (.cells #[.int .i64 0, .string ⟨#[]⟩, .int .i64 0] 35))).mono ?_); rintro e2 w8 ⟨rfl, hb8⟩; have HB8 := Lib.hid (bt hb8 (al HB7.out _)); have HN8 := Lib.hid ((HN7.out.below (ba w7 (.cells #[.int .i64 0, .string ⟨#[]⟩, .int .i64 0] 35))).below hb8); have z8 : w.heap.size < w8.heap.size := Nat.lt_of_lt_of_le zC HB8.out.size; have v0 := bc hb8 u0; have v1' := bc hb8 u1; have v2 := bc hb8 u2; have HBB8 := Lib.hid (Blk.below (Blk.new w7 35 #[.int .i64 0, .string ⟨#[]⟩, .int .i64 0]) hb8); clear hb8)
      | (go_at_call 8; (with_reducible refine (HRR.out _ _ w8 HB8.out HN8.out).mono ?_); rintro e3 w9 ⟨rfl, hb9⟩; have HB9 := Lib.hid (bt hb9 HB8.out); have p0 := bc hb9 v0; have p1 := bc hb9 v1'; have p2 := bc hb9 v2; first | (have hx9 := HBA8.out.below hb9; have HX9 := Lib.hid hx9; obtain ⟨x0, x1, x2⟩ := hx9.c3; obtain ⟨f0, f1, f2⟩ := hx9.f3; have ht9 : Blk (((w9.setCell ⟨W5.heap.size, 0, none⟩ (.int .i64 F.dir)).setCell ⟨W5.heap.size, 1, none⟩ (.string (bA F.name))).setCell ⟨W5.heap.size, 2, none⟩ (.int .i64 F.node)) w.heap.size 25 #[.int .i64 c.u, .int .i64 c.g, .slice A0 n0 k0] := (HK5.out.below HB9.out).kept (grown3 w9 W5.heap.size (.int .i64 F.dir) (.string (bA F.name)) (.int .i64 F.node)) (some_ne (Nat.ne_of_lt zC)); obtain ⟨t0, t1, t2⟩ := ht9.c3; clear hx9 ht9; clear hb9) | (have hx9 := HBB8.out.below hb9; have HX9 := Lib.hid hx9; obtain ⟨x0, x1, x2⟩ := hx9.c3; obtain ⟨f0, f1, f2⟩ := hx9.f3; have ht9 : Blk (((w9.setCell ⟨w7.heap.size, 0, none⟩ (.int .i64 F.dir)).setCell ⟨w7.heap.size, 1, none⟩ (.string (bA F.name))).setCell ⟨w7.heap.size, 2, none⟩ (.int .i64 F.node)) w.heap.size 25 #[.int .i64 c.u, .int .i64 c.g, .slice A0 n0 k0] := (HK5.out.below HB9.out).kept (grown3 w9 w7.heap.size (.int .i64 F.dir) (.string (bA F.name)) (.int .i64 F.node)) (some_ne (Nat.ne_of_lt z7)); obtain ⟨t0, t1, t2⟩ := ht9.c3; clear hx9 ht9; clear hb9) | clear hb9)
      | (go_at_call 8; (with_reducible refine (HRR.out _ _ (w8.alloc (.cells #[.int .i64 0, .string ⟨#[]⟩, .int .i64 0] 35)) (al HB8.out _) (HN8.out.below (ba w8 (.cells #[.int .i64 0, .string ⟨#[]⟩, .int .i64 0] 35)))).mono ?_); rintro e3 w9 ⟨rfl, hb9⟩; have HB9 := Lib.hid (bt hb9 (al HB8.out _)); have p0 := bc hb9 o0; have p1 := bc hb9 o1; have p2 := bc hb9 o2; have hx9 := Blk.below (Blk.new w8 35 #[.int .i64 0, .string ⟨#[]⟩, .int .i64 0]) hb9; have HX9 := Lib.hid hx9; obtain ⟨x0, x1, x2⟩ := hx9.c3; obtain ⟨f0, f1, f2⟩ := hx9.f3; have ht9 : Blk (((w9.setCell ⟨w8.heap.size, 0, none⟩ (.int .i64 F.dir)).setCell ⟨w8.heap.size, 1, none⟩ (.string (bA F.name))).setCell ⟨w8.heap.size, 2, none⟩ (.int .i64 F.node)) w.heap.size 25 #[.int .i64 c.u, .int .i64 c.g, .slice A0 n0 k0] := (HK5.out.below HB9.out).kept (grown3 w9 w8.heap.size (.int .i64 F.dir) (.string (bA F.name)) (.int .i64 F.node)) (some_ne (Nat.ne_of_lt z8)); obtain ⟨t0, t1, t2⟩ := ht9.c3; clear hx9 ht9; clear hb9))
    all_goals (
      go_wp2
      go_meet
      first
        | exact ⟨_, rfl, rfl, Bz.fresh HB9.out⟩
        | exact ⟨_, rfl, rfl, Bz.put HX9.out HB9.out (Nat.le_refl _)⟩
        | exact ⟨_, rfl, rfl, Bz.put HX9.out HB9.out HB7.out.size⟩
        | exact ⟨_, rfl, rfl, Bz.put HX9.out HB9.out HB8.out.size⟩)
  case rest =>
    obtain ⟨d, rfl, rfl, hbx⟩ := hcut
    have HB9 := Lib.hid (bt hbx.below HB4.out)
    have hf9 := HF5.out.below hbx.below
    obtain ⟨g0, g1, g2⟩ := hbx.blk.c3
    obtain ⟨b0, b1, b2⟩ := hf9.c3
    have y0 : (E == E) = true := by simp
    have y1 : (F.dir == F.dir) = true := by simp
    have y2 : ((bA F.name).toList == (bA F.name).toList) = true := by simp
    have y3 : (F.node == F.node) = true := by simp
    clear hbx hf9 HB4 HT4 HCR4 HK5 HF5 q0 q1 q2 a0 a1 a2 zC hW5 hy HDR HAD HTE HWH HRR
    go_wp2
    go_ret
    exact ⟨ret_bool (by first | rfl | simp), HB9.out⟩
end Go.Proofs.YtnecnnajngfooaaGreat
