/-
  The walk of ResolveCan: it answers true of whatever is told, of any who ask, any node, any bits, any path. The condition: what is told is no longer than a machine can hold.
-/
import Derived.Test.YtnecnnajngfooaaGreatRFn
namespace Go.Proofs.YtnecnnajngfooaaGreat
open Go Go.RowKit
set_option maxRecDepth 100000

set_option maxHeartbeats 4000000 in
theorem rget0_any (w : World) :
    Calls Tryz.prog 25 #[.agg #[.slice none 0 0], .int .i64 1] w fun e w' => ∃ u, e = .returned u ∧ NrR w' u Nd.zero ∧ Below w.heap.size w w' := by
  have HE := Lib.hid (fun o p => rget_end (n := Nd.zero) (w := w) (vn := .slice none 0 0) (vk := .slice none 0 0) o p (StrsR.nil _) (IntsR.nil _))
  go_enter Tryz.func25, Tryz.ntmps25
  go_wp2
  exact bodyPost_ret (v := .agg rfZ) (by simp [results, Tryz.results25, go_sem]) rfl (HE.out _ _)
theorem fitK_zero (p : Nm) : fitK Nd.zero.kind p ≠ 0 := by
  have h : Nd.zero.kind = 0 := rfl
  unfold fitK
  rw [h]
  split
  · decide
  split
  · decide
  split
  · decide
  simp
theorem res_none (c : Wh) (p : Nm) (f : Bool) : resM [] c p f = (Fo.zero, fitK Nd.zero.kind p) := by
  have h : fitE [] p = fitK Nd.zero.kind p := fitK_eq [] p
  unfold resM
  rw [h, if_pos (fitK_zero p)]
theorem can_none (c : Wh) (i : Int) : canT [] c i 0 = false := by
  have h : tis [] i = false := by unfold tis; rw [tget_out (by rw [List.length_nil]; omega)]; rfl
  unfold canT
  rw [h]
  rfl
attribute [local go_sem] cell_off4 cell_blk4
set_option maxHeartbeats 8000000 in
theorem cans_any (x0 : Int) (v1 : Value) (l : List Rw) (c : Wh) (A0 : Option Addr) (n0 k0 : Nat) (i want : Int) (s : ByteArray) (w : World) (h1 : RawsR w v1 l) (hl1 : l.length ≤ maxLen) (h2 : IntsR w (.slice A0 n0 k0) c.gs) :
    Calls Tryz.prog 4 #[.int .i64 x0, v1, .agg #[.int .i64 c.u, .int .i64 c.g, .slice A0 n0 k0], .int .i64 i, .int .i64 want, .string s] w fun e w' => e = .returned (.bool true) ∧ Below w.heap.size w w' := by
  have hb0 := ba w (.cells #[.int .i64 c.u, .int .i64 c.g, .slice A0 n0 k0] 25)
  have hk0 := Blk.new w 25 #[.int .i64 c.u, .int .i64 c.g, .slice A0 n0 k0]
  obtain ⟨W1, hW1⟩ : ∃ W1, w.alloc (.cells #[.int .i64 c.u, .int .i64 c.g, .slice A0 n0 k0] 25) = W1 := ⟨_, rfl⟩
  rw [hW1] at hb0 hk0
  have HA := Lib.hid (awake11_any W1)
  have HR := Lib.hid (h1.below hb0)
  have HI := Lib.hid (h2.below hb0)
  have HL := Lib.hid hl1
  have HB0 := Lib.hid hb0
  have HK0 := Lib.hid hk0
  clear h1 h2 hl1 hb0 hk0
  go_enter Tryz.func4, Tryz.ntmps4
  go_wp2_with fail
  clear hW1
  refine HA.out.mono ?_
  rintro e w2 ⟨rfl, hb2⟩
  have hk2 := HK0.out.below hb2
  have HB2 := Lib.hid (bt hb2 HB0.out)
  have HK2 := Lib.hid hk2
  have HI2 := Lib.hid (HI.out.below hb2)
  have HBL := Lib.hid (built_any x0 v1 l c A0 n0 k0 w2 (HR.out.below hb2) HL.out HI2.out)
  obtain ⟨k0', k1, k2⟩ := hk2.c3
  clear hb2 hk2 HA HK0 HI HR HB0
  go_wp2_with fail
  refine HBL.out.mono ?_
  rintro e w3 ⟨hans, hb3⟩
  have HB3 := Lib.hid (bt hb3 HB2.out)
  have hk3 := HK2.out.below hb3
  have HI3 := Lib.hid (HI2.out.below hb3)
  clear k0' k1 k2 hb3 HBL
  rcases hans with ⟨rfl, -⟩ | ⟨g, T, rfl, hB, hT⟩
  · clear hk3
    go_wp2
    go_ret
    exact ⟨rfl, HB3.out⟩
  have HT3 := Lib.hid hT
  have HCR3 := Lib.hid (isB_crrZ hB HI3.out)
  have HK3 := Lib.hid hk3
  obtain ⟨k0', k1, k2⟩ := hk3.c3
  clear hT hB hk3 HK2 HI2 HB2
  by_cases h100 : 100 < s.size
  · have y100 : (s.size : Int) > 100 := by omega
    clear h100
    go_wp2
    go_ret
    exact ⟨rfl, HB3.out⟩
  have y100 : ¬ (s.size : Int) > 100 := by omega
  have HSZ := Lib.hid (show (tl s).length ≤ 1000000 by rw [tl_len]; omega)
  clear h100
  have HNZ := Lib.hid (fitK_zero (tl s))
  have HN := Lib.hid (res_none c (tl s) true)
  obtain ⟨F, hF⟩ : ∃ F, Fo.zero = F := ⟨_, rfl⟩
  have HX := Lib.hid (show Calls Tryz.prog 7 #[.pointer none, .agg #[.int .i64 c.u, .int .i64 c.g, .slice A0 n0 k0], .string s, .bool true] w3 fun e w' => e = .returned (.tuple #[.agg #[.int .i64 F.dir, .string (bA F.name), .int .i64 F.node], .int .i64 (fitK Nd.zero.kind (tl s))]) ∧ Below w3.heap.size w3 w' from by have h1 := resolve_any (.pointer none) [] c A0 n0 k0 (tl s) true w3 (TabP.none _) HCR3.out (F, fitK Nd.zero.kind (tl s)) (by rw [← hF]; exact HN.out); rw [bA_tl] at h1; exact h1)
  have HRR := Lib.hid (fun W => show Calls Tryz.prog 8 #[.agg #[.slice none 0 0], .agg #[.int .i64 c.u, .int .i64 c.g, .slice A0 n0 k0], .string s, .bool true] W fun e w' => e = .returned (.tuple #[.agg #[.int .i64 F.dir, .string (bA F.name), .int .i64 F.node], .int .i64 (fitK Nd.zero.kind (tl s))]) ∧ Below W.heap.size W w' from by have h1 := rres_bad none 0 0 Nd.zero c A0 n0 k0 (tl s) true W HSZ.out (fun W' _ => rget0_any W') HNZ.out; rw [bA_tl] at h1; rw [← hF]; exact h1)
  have HF0 := Lib.hid hF
  generalize fitK Nd.zero.kind (tl s) = E at HX HRR HNZ
  clear hF HN
  go_wp2_with fail
  refine HX.out.mono ?_
  rintro e w4 ⟨rfl, hb4⟩
  have hbx := al hb4 (.cells #[.int .i64 F.dir, .string (bA F.name), .int .i64 F.node] 31)
  have HB4 := Lib.hid (bt hbx HB3.out)
  have HT4 := Lib.hid (HT3.out.below hbx)
  have HCR4 := Lib.hid (HCR3.out.below hbx)
  have hk4 := HK3.out.below hbx
  have hf4 := Blk.new w4 31 #[.int .i64 F.dir, .string (bA F.name), .int .i64 F.node]
  obtain ⟨y, hy⟩ : ∃ y, w4.heap.size = y := ⟨_, rfl⟩
  obtain ⟨W5, hW5⟩ : ∃ W5, w4.alloc (.cells #[.int .i64 F.dir, .string (bA F.name), .int .i64 F.node] 31) = W5 := ⟨_, rfl⟩
  rw [hW5] at HB4 HT4 HCR4 hk4 hf4
  rw [hy] at hf4
  have HK5 := Lib.hid hk4
  have HF5 := Lib.hid hf4
  clear k0' k1 k2 hb4 hbx HX HK3 HI3 HB3 HT3 HCR3 hf4
  obtain ⟨k0', k1, k2⟩ := hk4.c3
  clear hk4
  go_wp2_with fail
  clear hW5 hy
  refine (who_any c A0 n0 k0 W5).mono ?_
  rintro e w6 ⟨rfl, hb6⟩
  have HB6 := Lib.hid hb6
  clear k0' k1 k2 hb6
  go_wp2_with fail
  refine (HRR.out w6).mono ?_
  rintro e w7 ⟨rfl, hb7⟩
  have hbz := al (bt hb7 HB6.out) (.cells #[.int .i64 F.dir, .string (bA F.name), .int .i64 F.node] 35)
  have HB8 := Lib.hid (bt hbz HB4.out)
  have HT8 := Lib.hid (HT4.out.below hbz)
  have HCR8 := Lib.hid (HCR4.out.below hbz)
  have hk8 := HK5.out.below hbz
  have hf8 := HF5.out.below hbz
  have hg8 := Blk.new w7 35 #[.int .i64 F.dir, .string (bA F.name), .int .i64 F.node]
  obtain ⟨z, hz⟩ : ∃ z, w7.heap.size = z := ⟨_, rfl⟩
  obtain ⟨W8, hW8⟩ : ∃ W8, w7.alloc (.cells #[.int .i64 F.dir, .string (bA F.name), .int .i64 F.node] 35) = W8 := ⟨_, rfl⟩
  rw [hW8] at HB8 HT8 HCR8 hk8 hf8 hg8
  rw [hz] at hg8
  have hf9 : Blk W8 y 31 #[.int .i64 0, .string ⟨#[]⟩, .int .i64 0] := by have h := hf8; rw [← HF0.out] at h; exact h
  have hg9 : Blk W8 z 35 #[.int .i64 0, .string ⟨#[]⟩, .int .i64 0] := by have h := hg8; rw [← HF0.out] at h; exact h
  have HPR := Lib.hid (fun (W : World) (hb : Below W8.heap.size W8 W) => show W.cell? ⟨w.heap.size, 0, none⟩ = some (.int .i64 c.u) ∧ W.cell? ⟨w.heap.size, 1, none⟩ = some (.int .i64 c.g) ∧ W.cell? ⟨w.heap.size, 2, none⟩ = some (.slice A0 n0 k0) ∧ W.cell? ⟨y, 0, none⟩ = some (.int .i64 0) ∧ W.cell? ⟨y, 1, none⟩ = some (.string ⟨#[]⟩) ∧ W.cell? ⟨y, 2, none⟩ = some (.int .i64 0) ∧ W.cell? ⟨z, 0, none⟩ = some (.int .i64 0) ∧ Below W8.heap.size W8 W from ⟨bc hb hk8.c3.1, bc hb hk8.c3.2.1, bc hb hk8.c3.2.2, bc hb hf9.c3.1, bc hb hf9.c3.2.1, bc hb hf9.c3.2.2, bc hb hg9.c3.1, hb⟩)
  have y1 : (E != 0) = true := by simpa using HNZ.out
  have y2 : (E == E) = true := by simp
  have HC0 := Lib.hid (fun (W : World) (hb : Below W8.heap.size W8 W) => rescan_any (.pointer none) [] c A0 n0 k0 i 0 W (TabP.none _) (HCR8.out.below hb))
  rw [can_none] at HC0
  have HC1 := Lib.hid (fun (W : World) (hb : Below W8.heap.size W8 W) => rescan_any (.pointer (some ⟨g, 0, none⟩)) T c A0 n0 k0 i want W (HT8.out.ptr.below hb) (HCR8.out.below hb))
  have HTE := Lib.hid (fun (W : World) (hb : Below W8.heap.size W8 W) => tree11_any g T W (HT8.out.below hb))
  have HWH := Lib.hid (fun (W : World) => who_any c A0 n0 k0 W)
  have HC2 := Lib.hid (fun (P : Nat → Prop) (v : Value) (W : World) (hb : Below W8.heap.size W8 W) (hn : NsR P W v T) => rrcan_any v T c A0 n0 k0 i want W hn HT8.out.hi (HCR8.out.below hb))
  generalize canT T c i want = cn at HC1 HC2
  have y3 : (cn == cn) = true := by simp
  have j0 : Below W8.heap.size W8 W8.drew := (Below.refl _ _).drew
  clear hk8 hf8 hg8 hf9 hg9 hb7 hbz HB6 HT4 HCR4 HK5 HF5 HB4 HRR
  go_upto_region 9 with fail
  clear hW8 hz
  go_region_held3 (fun w' => w'.cell? ⟨w.heap.size, 0, none⟩ = some (.int .i64 c.u) ∧ w'.cell? ⟨w.heap.size, 1, none⟩ = some (.int .i64 c.g) ∧ w'.cell? ⟨w.heap.size, 2, none⟩ = some (.slice A0 n0 k0) ∧ w'.cell? ⟨y, 0, none⟩ = some (.int .i64 0) ∧ w'.cell? ⟨y, 1, none⟩ = some (.string ⟨#[]⟩) ∧ w'.cell? ⟨y, 2, none⟩ = some (.int .i64 0) ∧ w'.cell? ⟨z, 0, none⟩ = some (.int .i64 0) ∧ Below W8.heap.size W8 w')
    (first | (with_reducible exact HPR.out _ j0) | (with_reducible exact HPR.out _ j1) | (with_reducible exact HPR.out _ j2) | (with_reducible exact HPR.out _ j3) | (with_reducible exact HPR.out _ j4) | (with_reducible exact HPR.out _ j5))
    (first
      | (go_at_call 11; (with_reducible refine (HC1.out _ j0).mono ?_); rintro e1 w9 ⟨rfl, h1⟩; have j1 := bt h1 j0; clear h1)
      | (go_at_call 9; (with_reducible refine (HTE.out _ j1).mono ?_); rintro e2 w10 ⟨g', c', rfl, hn10, h2⟩; have HN10 := Lib.hid hn10; have j2 := bt h2 j1; clear h2 hn10)
      | (go_at_call 10; (with_reducible refine (HWH.out _).mono ?_); rintro e3 w11 ⟨rfl, h3⟩; have HN11 := Lib.hid (HN10.out.below h3); have j3 := bt h3 j2; clear h3)
      | (go_at_call 12; (with_reducible refine (HC2.out _ _ _ j3 HN11.out).mono ?_); rintro e4 w12 ⟨rfl, h4⟩; have j4 := bt h4 j3; clear h4)
      | (go_at_call 11; (with_reducible refine (HC0.out _ j4).mono ?_); rintro e5 w13 ⟨rfl, h5⟩; have j5 := bt h5 j4; clear h5))
  all_goals (
    go_wp2
    go_ret
    exact ⟨ret_bool (by first | rfl | simp), bt j5 HB8.out⟩)
end Go.Proofs.YtnecnnajngfooaaGreat
