/-
  The walk of LookLists: it answers true of whatever is told, of any who ask, of any path. The condition: what is told is no longer than a machine can hold.
-/
import Derived.Test.YtilepnepcamnaaaGreatLkK
import Derived.Test.YtilepnepcamnaaaGreatRsB
import Derived.Test.YtilepnepcamnaaaGreatLkU
import Derived.Test.YtilepnepcamnaaaGreatTr11
import Derived.Deep.RegionWith
import Derived.Deep.DeepCutAuto
import Derived.Deep.RegionHeld3
namespace Go.Proofs.YtilepnepcamnaaaGreat
open Go Go.RowKit
set_option maxRecDepth 100000

attribute [local go_sem] cell_off4 cell_blk4
attribute [local go_sem] eq_stat
theorem lst_len {t : List Nd} (h : okT t) (c : Wh) (p : Nm) : (lstM t c p).1.length ≤ 12 := by
  unfold lstM
  split
  · exact Nat.zero_le _
  · split
    · exact Nat.zero_le _
    · split
      · exact Nat.zero_le _
      · rw [len_nmE]
        exact (ok_rise h _).2
set_option maxHeartbeats 8000000 in
theorem llists_any (x0 : Int) (v1 : Value) (l : List Rw) (c : Wh) (A0 : Option Addr) (n0 k0 : Nat) (s : ByteArray) (w : World) (h1 : RawsR w v1 l) (hl1 : l.length ≤ maxLen) (h2 : IntsR w (.slice A0 n0 k0) c.gs) :
    Calls Tryz.prog 4 #[.int .i64 x0, v1, .agg #[.int .i64 c.u, .int .i64 c.g, .slice A0 n0 k0], .string s] w fun e w' => e = .returned (.bool true) ∧ Below w.heap.size w w' := by
  have hb0 := ba w (.cells #[.int .i64 c.u, .int .i64 c.g, .slice A0 n0 k0] 25)
  have hk0 := Blk.new w 25 #[.int .i64 c.u, .int .i64 c.g, .slice A0 n0 k0]
  obtain ⟨W1, hW1⟩ : ∃ W1, w.alloc (.cells #[.int .i64 c.u, .int .i64 c.g, .slice A0 n0 k0] 25) = W1 := ⟨_, rfl⟩
  rw [hW1] at hb0 hk0
  have HA := Lib.hid (awake12_any W1)
  have HR := Lib.hid (h1.below hb0)
  have HI := Lib.hid (h2.below hb0)
  have HL := Lib.hid hl1
  have HB0 := Lib.hid hb0
  have HK0 := Lib.hid hk0
  clear h1 h2 hl1 hb0 hk0
  go_enter Tryz.func4, Tryz.ntmps4
  go_wp2_with fail
  clear hW1
  refine HA.out.mono ?_
  rintro e w2 ⟨rfl, hb2⟩
  have hk2 := HK0.out.below hb2
  have HB2 := Lib.hid (bt hb2 HB0.out)
  have HK2 := Lib.hid hk2
  have HI2 := Lib.hid (HI.out.below hb2)
  have HBL := Lib.hid (built_any x0 v1 l c A0 n0 k0 w2 (HR.out.below hb2) HL.out HI2.out)
  obtain ⟨k0', k1, k2⟩ := hk2.c3
  clear hb2 hk2 HA HK0 HI HR HB0
  go_wp2_with fail
  refine HBL.out.mono ?_
  rintro e w3 ⟨hans, hb3⟩
  have HB3 := Lib.hid (bt hb3 HB2.out)
  have hk3 := HK2.out.below hb3
  have HI3 := Lib.hid (HI2.out.below hb3)
  clear k0' k1 k2 hb3 HBL
  rcases hans with ⟨rfl, -⟩ | ⟨g, T, rfl, hB, hT⟩
  · clear hk3
    go_wp2
    go_ret
    exact ⟨rfl, HB3.out⟩
  have HTT := Lib.hid hT
  have HT3 := Lib.hid hT.ptr
  have HTR := Lib.hid ((tre_all hB.2).1)
  have HCR3 := Lib.hid (show CrR w3 c A0 n0 k0 from ⟨HI3.out, by have := hB.1.2; omega⟩)
  have HK3 := Lib.hid hk3
  obtain ⟨k0', k1, k2⟩ := hk3.c3
  clear hT hB hk3 HK2 HI2 HB2
  by_cases ha : 100 < s.size
  · have ya : (s.size : Int) > 100 := by omega
    clear ha
    go_wp2
    go_ret
    exact ⟨rfl, HB3.out⟩
  have ya : ¬ (s.size : Int) > 100 := by omega
  have hl1000 : (tl s).length ≤ 1000 := by rw [tl_len]; omega
  clear ha
  obtain ⟨XE, hXE⟩ : ∃ XE, rdlM T c (tl s) = XE := ⟨_, rfl⟩
  obtain ⟨X, E⟩ := XE
  obtain ⟨YF, hYF⟩ : ∃ YF, lstM T c (tl s) = YF := ⟨_, rfl⟩
  obtain ⟨Y, F⟩ := YF
  have HRD := Lib.hid (show ∀ W, Below w3.heap.size w3 W → Calls Tryz.prog 19 #[.pointer (some ⟨g, 0, none⟩), .agg #[.int .i64 c.u, .int .i64 c.g, .slice A0 n0 k0], .string s] W fun e w' => e = .returned (.tuple #[.string (bA X), .int .i64 E]) ∧ Below W.heap.size W w' from fun W hb => by have h1 := readlink_any _ T c A0 n0 k0 (tl s) W (HT3.out.below hb) (HCR3.out.below hb) (X, E) hXE; rw [bA_tl] at h1; exact h1)
  have HLS := Lib.hid (show ∀ W, Below w3.heap.size w3 W → Calls Tryz.prog 21 #[.pointer (some ⟨g, 0, none⟩), .agg #[.int .i64 c.u, .int .i64 c.g, .slice A0 n0 k0], .string s] W fun e w' => ∃ u, e = .returned (.tuple #[u, .int .i64 F]) ∧ StrsR w' u (nmA Y) ∧ Below W.heap.size W w' from fun W hb => by have h1 := list_any _ T c A0 n0 k0 (tl s) W (HT3.out.below hb) (HCR3.out.below hb) (Y, F) hYF; rw [bA_tl] at h1; exact h1)
  have HRR := Lib.hid (show ∀ (P : Nat → Prop) (v : Value) (W : World), NsR P W v T → Below w3.heap.size w3 W → Calls Tryz.prog 20 #[.agg #[v], .agg #[.int .i64 c.u, .int .i64 c.g, .slice A0 n0 k0], .string s] W fun e w' => e = .returned (.tuple #[.string (bA X), .int .i64 E]) ∧ Below W.heap.size W w' from fun P v W hn hb => by have h1 := rreadlink_any v T c A0 n0 k0 (tl s) W hn HTR.out (HCR3.out.below hb) hl1000 (X, E) hXE; rw [bA_tl] at h1; exact h1)
  have HRL := Lib.hid (show ∀ (P : Nat → Prop) (v : Value) (W : World), NsR P W v T → Below w3.heap.size w3 W → Calls Tryz.prog 22 #[.agg #[v], .agg #[.int .i64 c.u, .int .i64 c.g, .slice A0 n0 k0], .string s] W fun e w' => ∃ u, e = .returned (.tuple #[u, .int .i64 F]) ∧ StrsR w' u (nmA Y) ∧ Below W.heap.size W w' from fun P v W hn hb => by have h1 := rlist_any v T c A0 n0 k0 (tl s) W hn HTR.out (HCR3.out.below hb) hl1000 (Y, F) hYF; rw [bA_tl] at h1; exact h1)
  have HYB := Lib.hid (show (nmA Y).length ≤ 1000000 from by rw [nmA_len]; have h := (lst_len HTR.out.ok c (tl s)); rw [hYF] at h; exact Nat.le_trans h (by decide))
  have HTE := Lib.hid (tree11_any g T w3 HTT.out)
  have HWH := Lib.hid (fun (W : World) => who_any c A0 n0 k0 W)
  clear hXE hYF HI3 hl1000
  go_wp2_with fail
  refine HTE.out.mono ?_
  rintro e w4 ⟨g4, c4, rfl, hn, hb⟩
  have hbx := al hb (.cells #[.slice (some ⟨g4, 0, none⟩) T.length c4] 32)
  have hx5 := Blk.new w4 32 #[.slice (some ⟨g4, 0, none⟩) T.length c4]
  have hn5 := hn.below (ba w4 (.cells #[.slice (some ⟨g4, 0, none⟩) T.length c4] 32))
  obtain ⟨z, hz⟩ : ∃ z, w4.heap.size = z := ⟨_, rfl⟩
  obtain ⟨W5, hW5⟩ : ∃ W5, w4.alloc (.cells #[.slice (some ⟨g4, 0, none⟩) T.length c4] 32) = W5 := ⟨_, rfl⟩
  rw [hW5] at hbx hx5 hn5
  rw [hz] at hx5
  have J5 := Lib.hid hbx
  have HX5 := Lib.hid hx5
  have HN5 := Lib.hid hn5
  have HK5 := Lib.hid (HK3.out.below hbx)
  have HCL := Lib.hid (clone_any g T (fun _ => True) (fun _ => True) W5 (HTT.out.below hbx) (fun _ _ => trivial))
  clear hb hbx hx5 hn hn5 k0' k1 k2 HTE HTT
  go_wp2_with fail
  clear hW5 hz
  refine HCL.out.mono ?_
  rintro e w6 ⟨rfl, ht6, hb⟩
  have J6 := Lib.hid (bt hb J5.out)
  have HX6 := Lib.hid (HX5.out.below hb)
  have HN6 := Lib.hid (HN5.out.below hb)
  have HK6 := Lib.hid (HK5.out.below hb)
  have HC6 := Lib.hid ht6.ptr
  obtain ⟨k0', k1, k2⟩ := HK6.out.c3
  clear hb ht6 HCL
  go_wp2_with fail
  refine (HRD.out _ J6.out).mono ?_
  rintro e w7 ⟨rfl, hb⟩
  have J7 := Lib.hid (bt hb J6.out)
  have HX7 := Lib.hid (HX6.out.below hb)
  have HN7 := Lib.hid (HN6.out.below hb)
  have HK7 := Lib.hid (HK6.out.below hb)
  have HC7 := Lib.hid (HC6.out.below hb)
  clear hb k0' k1 k2 HRD
  obtain ⟨k0', k1, k2⟩ := HK7.out.c3
  have x0 := HX7.out.cell 0
  simp at x0
  have HPQ10 := Lib.hid (fun (W : World) (hb : Below w7.heap.size w7 W) => show W.cell? ⟨w.heap.size, 0, none⟩ = some (.int .i64 c.u) ∧ W.cell? ⟨w.heap.size, 1, none⟩ = some (.int .i64 c.g) ∧ W.cell? ⟨w.heap.size, 2, none⟩ = some (.slice A0 n0 k0) ∧ W.cell? ⟨z, 0, none⟩ = some (.slice (some ⟨g4, 0, none⟩) T.length c4) from ⟨bc hb k0', bc hb k1, bc hb k2, bc hb x0⟩)
  have HDR10 := Lib.hid (show Below w7.heap.size w7 w7.drew from (Below.refl _ _).drew)
  have HRN10 := Lib.hid (fun (W : World) (hb : Below w7.heap.size w7 W) => HRR.out _ _ W (HN7.out.below hb) (bt hb J7.out))
  go_upto_region 10 with fail
  go_region_held3 (fun W => W.cell? ⟨w.heap.size, 0, none⟩ = some (.int .i64 c.u) ∧ W.cell? ⟨w.heap.size, 1, none⟩ = some (.int .i64 c.g) ∧ W.cell? ⟨w.heap.size, 2, none⟩ = some (.slice A0 n0 k0) ∧ W.cell? ⟨z, 0, none⟩ = some (.slice (some ⟨g4, 0, none⟩) T.length c4))
    (first | (with_reducible exact HPQ10.out _ HDR10.out) | (with_reducible exact HPQ10.out _ JW.out) | (with_reducible exact HPQ10.out _ (bt hb9 JW.out)))
    (first
    | (go_at_call 14; (with_reducible refine (HWH.out w7.drew).mono ?_); rintro e1 w8 ⟨rfl, hb8⟩; have JW := Lib.hid (bt hb8 HDR10.out); clear hb8)
    | (go_at_call 20; (with_reducible refine (HRN10.out w8 JW.out).mono ?_); rintro e2 w9 ⟨rfl, hb9⟩))
  have hbz := bt hb9 JW.out
  have J9 := Lib.hid (bt hbz J7.out)
  have HX9 := Lib.hid (HX7.out.below hbz)
  have HN9 := Lib.hid (HN7.out.below hbz)
  have HK9 := Lib.hid (HK7.out.below hbz)
  have HC9 := Lib.hid (HC7.out.below hbz)
  clear hb9 hbz k0' k1 k2 x0 JW HPQ10 HDR10 HRN10 HRR
  obtain ⟨k0', k1, k2⟩ := HK9.out.c3
  have x0 := HX9.out.cell 0
  simp at x0
  go_wp2_with fail
  refine (HLS.out _ J9.out).mono ?_
  rintro e w10 ⟨u, rfl, hu, hb⟩
  have J10 := Lib.hid (bt hb J9.out)
  have HX10 := Lib.hid (HX9.out.below hb)
  have HN10 := Lib.hid (HN9.out.below hb)
  have HK10 := Lib.hid (HK9.out.below hb)
  have HC10 := Lib.hid (HC9.out.below hb)
  have HU10 := Lib.hid hu
  obtain ⟨A5, k5, rfl⟩ := strs_form hu (nmA_len Y)
  clear hb hu k0' k1 k2 HLS x0
  obtain ⟨k0', k1, k2⟩ := HK10.out.c3
  have x0 := HX10.out.cell 0
  simp at x0
  have HPQ12 := Lib.hid (fun (W : World) (hb : Below w10.heap.size w10 W) => show W.cell? ⟨w.heap.size, 0, none⟩ = some (.int .i64 c.u) ∧ W.cell? ⟨w.heap.size, 1, none⟩ = some (.int .i64 c.g) ∧ W.cell? ⟨w.heap.size, 2, none⟩ = some (.slice A0 n0 k0) ∧ W.cell? ⟨z, 0, none⟩ = some (.slice (some ⟨g4, 0, none⟩) T.length c4) from ⟨bc hb k0', bc hb k1, bc hb k2, bc hb x0⟩)
  have HDR12 := Lib.hid (show Below w10.heap.size w10 w10.drew from (Below.refl _ _).drew)
  have HRN12 := Lib.hid (fun (W : World) (hb : Below w10.heap.size w10 W) => HRL.out _ _ W (HN10.out.below hb) (bt hb J10.out))
  go_upto_region 12 with fail
  go_region_held3 (fun W => W.cell? ⟨w.heap.size, 0, none⟩ = some (.int .i64 c.u) ∧ W.cell? ⟨w.heap.size, 1, none⟩ = some (.int .i64 c.g) ∧ W.cell? ⟨w.heap.size, 2, none⟩ = some (.slice A0 n0 k0) ∧ W.cell? ⟨z, 0, none⟩ = some (.slice (some ⟨g4, 0, none⟩) T.length c4))
    (first | (with_reducible exact HPQ12.out _ HDR12.out) | (with_reducible exact HPQ12.out _ JW.out) | (with_reducible exact HPQ12.out _ (bt hb12 JW.out)))
    (first
    | (go_at_call 14; (with_reducible refine (HWH.out w10.drew).mono ?_); rintro e1 w11 ⟨rfl, hb11⟩; have JW := Lib.hid (bt hb11 HDR12.out); clear hb11)
    | (go_at_call 22; (with_reducible refine (HRN12.out w11 JW.out).mono ?_); rintro e2 w12 ⟨u2, rfl, hv12, hb12⟩; have HV12 := Lib.hid hv12; obtain ⟨A6, k6, rfl⟩ := strs_form hv12 (nmA_len Y); clear hv12))
  have J12 := Lib.hid (bt (bt hb12 JW.out) J10.out)
  have HSM := Lib.hid (strs_same _ _ (nmA Y) w12 (HU10.out.below (bt hb12 JW.out)) HV12.out HYB.out)
  have y0 : (E == E) = true := by simp
  have y1 : (F == F) = true := by simp
  have y2 : ((bA X).toList == (bA X).toList) = true := by simp
  clear k0' k1 k2 x0
  go_wp2_with fail
  refine HSM.out.mono ?_
  rintro e w13 ⟨rfl, hb⟩
  have J13 := Lib.hid (bt hb J12.out)
  have HTS := Lib.hid (tsame_any _ _ T T w13 (HT3.out.below J13.out) ((HC10.out.below (bt hb12 JW.out)).below hb))
  have HTB := Lib.hid (show toB (sam24 T T) = true from toB_true (fun k hk => rfl))
  rw [HTB.out] at HTS
  clear hb hb12
  go_wp2_with fail
  refine HTS.out.mono ?_
  rintro e w14 ⟨rfl, hb⟩
  have J14 := Lib.hid (bt hb J13.out)
  clear hb
  go_wp2
  go_ret
  exact ⟨ret_bool (by first | rfl | simp), bt J14.out HB3.out⟩
end Go.Proofs.YtilepnepcamnaaaGreat
