/-
  The walk of FilesBack: it answers true of whatever is told, of any numbers and bytes. The conditions: what is told is no longer than a machine can hold; the bytes' room is no less than their number; what is said of package files.
-/
import Derived.Test.YtfopnfgfoicidaaGreatAwF
import Derived.Test.YtfopnfgfoicidaaGreatFiN
import Derived.Deep.RegionHeld3
import Derived.Deep.DeepCutAuto
import Derived.Deep.QuietTactic
import Derived.BigQuiet
namespace Go.Proofs.YtfopnfgfoicidaaGreat
open Go Go.RowKit
set_option maxRecDepth 100000

attribute [local go_sem] cell_off4 cell_blk4
theorem blt_kept {W W' : World} {x g : Nat} {T U : List Nd} {P Q : Nat → Prop} (h : TabR W x T P) (hg : TabR W g U Q) (hgr : W.grownBy W' (some g)) (hne : x ≠ g) : TabR W' x T P := by
  obtain ⟨cs, hb, -⟩ := hg.blk
  exact h.kind hgr hne hb (by decide) (by decide)
theorem sam_refl (t : List Nd) : toB (sam24 t t) = true := toB_true (fun _ _ => rfl)
theorem bytesT_keep {g : Nat} {t : List Nd} {P : Nat → Prop} {W W' : World} {v : Value} {l : List UInt8} (ht : TabR W g t P) (hd : BytesT W v l) (hgr : W.grownBy W' (some g)) : BytesT W' v l := by
  obtain ⟨cs, hg, -⟩ := ht.blk
  exact hd.other hgr (fun ad n c hv => by obtain ⟨cs2, hc⟩ := hd.2 ad n c hv; exact blk_ne hc hg (by decide))
theorem box_keep {g z : Nat} {t : List Nd} {P : Nat → Prop} {W W' : World} {cs : Array Value} (ht : TabR W g t P) (hk : Blk W z 25 cs) (hgr : W.grownBy W' (some g)) : Blk W' z 25 cs := by
  obtain ⟨cs2, hg, -⟩ := ht.blk
  exact hk.kept hgr (some_ne (blk_ne hk hg (by decide)))
theorem size_b (w : World) : (sizeOf (Tryz.prog.elem 43)).run Tryz.prog w = .ok 1 w := by kernel_rfl
theorem at_two (ad : Addr) (n k : Nat) : (ad.add (n * 1)).add k = ad.add (n + k) := by rw [Nat.mul_one]; exact add_two ad n k
/-- The first n bytes of a slice. -/
theorem cut_head {W : World} {A : Option Addr} {k : Nat} {b : List UInt8} (h : BytesR W (.slice A b.length k) b) {n : Nat} (hn : n ≤ b.length) (hk : b.length ≤ k) : ∃ A' k', (∀ w : World, (Instr.slice 43 (.slice A b.length k) none (some (.int .i64 (n : Int))) none).run Tryz.prog w = .ok (.slice A' n k') w) ∧ BytesR W (.slice A' n k') (b.take n) := by
  refine ⟨if k = 0 then A else A.map (·.add (0 * 1)), k - 0, fun w => ?_, ?_⟩
  · rw [run_slice_h w _ _ _ _ (by kernel_rfl) .i64 (n : Int) (by omega) (by omega), size_b]
    simp [Result.andThen, sliced]
  · have hl : (b.take n).length = n := List.length_take_of_le hn
    refine ⟨if k = 0 then A else A.map (·.add (0 * 1)), k - 0, by rw [hl], fun j x hj => ?_⟩
    have hlt : j < n := by have := (List.getElem?_eq_some_iff.1 hj).1; omega
    rw [List.getElem?_take_of_lt hlt] at hj
    obtain ⟨ad, rfl, h0⟩ := bytes_get h hj
    rw [if_neg (by omega)]
    refine ⟨_, rfl, ?_⟩
    rw [at_two, Nat.zero_add]
    exact h0
/-- The bytes behind the first n. -/
theorem cut_tail {W : World} {A : Option Addr} {k : Nat} {b : List UInt8} (h : BytesR W (.slice A b.length k) b) {n : Nat} (hn : n ≤ b.length) (hk : b.length ≤ k) : ∃ A' m k', (∀ w : World, (Instr.slice 43 (.slice A b.length k) (some (.int .i64 (n : Int))) none none).run Tryz.prog w = .ok (.slice A' m k') w) ∧ BytesR W (.slice A' m k') (b.drop n) := by
  refine ⟨if k = n then A else A.map (·.add (n * 1)), b.length - n, k - n, fun w => ?_, ?_⟩
  · rw [run_slice_l w _ _ _ _ (by kernel_rfl) .i64 (n : Int) (by omega) (by omega), size_b]
    simp [Result.andThen, sliced]
  · have hl : (b.drop n).length = b.length - n := List.length_drop ..
    refine ⟨if k = n then A else A.map (·.add (n * 1)), k - n, by rw [hl], fun j x hj => ?_⟩
    have hlt : j < b.length - n := by have := (List.getElem?_eq_some_iff.1 hj).1; omega
    rw [List.getElem?_drop] at hj
    obtain ⟨ad, rfl, h0⟩ := bytes_get h hj
    rw [if_neg (by omega)]
    refine ⟨_, rfl, ?_⟩
    rw [at_two]
    exact h0
set_option maxHeartbeats 32000000 in
theorem lback_slice (HPC : FilesC) (x0 : Int) (v1 : Value) (l : List Rw) (i off cut : Int) (b : List UInt8) (A9 : Option Addr) (k9 : Nat) (w : World) (h1 : RawsR w v1 l) (hl1 : l.length ≤ maxLen) (h3 : BytesR w (.slice A9 b.length k9) b) (hk9 : b.length ≤ k9) (hof : 0 ≤ off ∧ off ≤ 255) (hcu : 0 ≤ cut ∧ cut ≤ 255) :
    Calls Tryz.prog 6 #[.int .i64 x0, v1, .int .u8 i, .int .u8 off, .slice A9 b.length k9, .int .u8 cut] w fun e w' => e = .returned (.bool true) ∧ Below w.heap.size w w' := by
  have HA := Lib.hid (awk16_any HPC w)
  have HR := Lib.hid h1
  have HL := Lib.hid hl1
  have HY0 := Lib.hid h3
  have HK9 := Lib.hid hk9
  obtain ⟨o9, ho9, ho50⟩ : ∃ o : Nat, off.tmod 50 = (o : Int) ∧ o < 50 := ⟨(off.tmod 50).toNat, by rw [Int.tmod_eq_emod_of_nonneg hof.1]; omega, by rw [Int.tmod_eq_emod_of_nonneg hof.1]; omega⟩
  obtain ⟨c9, hc9, hcl⟩ : ∃ n : Nat, cut.tmod ((b.length : Int) + 1) = (n : Int) ∧ n ≤ b.length := ⟨(cut.tmod ((b.length : Int) + 1)).toNat, by rw [Int.tmod_eq_emod_of_nonneg hcu.1]; exact (Int.toNat_of_nonneg (Int.emod_nonneg _ (by omega))).symm, by rw [Int.tmod_eq_emod_of_nonneg hcu.1]; have h2 := Int.emod_lt_of_pos cut (show (0 : Int) < (b.length : Int) + 1 by omega); omega⟩
  have HO9 := Lib.hid ho9
  have HC9 := Lib.hid hc9
  have HCL := Lib.hid hcl
  have HOB := Lib.hid hof
  have HCB := Lib.hid hcu
  clear h1 hl1 h3 hk9 ho9 hc9 hcl hof hcu
  go_enter Tryz.func6, Tryz.ntmps6
  go_wp2_with fail
  refine HA.out.mono ?_
  rintro e w2 ⟨rfl, hb2⟩
  have HB2 := Lib.hid hb2
  have HBL := Lib.hid (show Calls Tryz.prog 9 #[.int .i64 x0, v1, .agg #[.int .i64 0, .int .i64 0, .slice none 0 0]] w2 fun e w' => BltAns w2 x0 l wh0 e w' ∧ Below w2.heap.size w2 w' from built_any x0 v1 l wh0 none 0 0 w2 (HR.out.below hb2) HL.out (IntsR.nil _))
  clear hb2 HA HR
  go_wp2_with fail
  refine HBL.out.mono ?_
  rintro e w3 ⟨hans, hb3⟩
  have HB3 := Lib.hid (bt hb3 HB2.out)
  clear hb3 HBL
  rcases hans with ⟨rfl, -⟩ | ⟨g, T, rfl, hB, hT, hG⟩
  · go_wp2
    go_ret
    exact ⟨rfl, HB3.out⟩
  have HTT := Lib.hid hT
  have HTR := Lib.hid ((tre_all hB.2).1)
  have HGE := Lib.hid (show w.heap.size ≤ g from Nat.le_trans HB2.out.size hG)
  have HGL := Lib.hid hT.lt
  clear hT hB hG HB2
  by_cases hd : 60 < b.length
  · have yd : (b.length : Int) > 60 := by omega
    clear hd
    go_wp2
    go_ret
    exact ⟨rfl, HB3.out⟩
  have yd : ¬ (b.length : Int) > 60 := by omega
  by_cases h0 : b = []
  · have y0 : ((b.length : Int) == 0) = true := by rw [h0]; rfl
    clear h0 hd
    go_wp2
    go_ret
    exact ⟨rfl, HB3.out⟩
  have y0 : ((b.length : Int) == 0) = false := by have := List.length_pos_iff.mpr h0; simp; exact h0
  have HNE := Lib.hid h0
  have HB60 := Lib.hid (show b.length ≤ 60 by omega)
  clear hd h0
  go_upto_region 7 with fail
  clear yd y0
  go_cut [16] (fun s wx => ∃ K : Int, s = .int .i64 K ∧ wx = w3)
  case first =>
    go_wp2
    go_meet
    exact ⟨_, rfl, rfl⟩
  case rest =>
  obtain ⟨K, rfl, rfl⟩ := hcut
  go_upto_region 8 with fail
  go_cut [17] (fun s wx => s = .int .i64 (o9 : Int) ∧ wx = wc)
  case first =>
    have ho := HO9.out
    go_wp2
    go_meet
    exact ⟨by first | rfl | rw [ho] | (rw [ho, IntKind.wrap_u8 (by omega) (by omega)]), rfl⟩
  case rest =>
  obtain ⟨rfl, rfl⟩ := hcut
  obtain ⟨w3', hw3⟩ : ∃ W, wc = W := ⟨_, rfl⟩
  rw [hw3] at HTT HB3 HGL ⊢
  clear hw3
  have HYG := Lib.hid (fun (W : World) (hb : Below w.heap.size w W) => HY0.out.below hb)
  have HRD := Lib.hid (fun (U : List Nd) (o n : Int) (W : World) (h : TabR W g U (fun _ => True)) => show Calls Tryz.prog 15 #[.pointer (some ⟨g, 0, none⟩), .int .i64 K, .int .i64 o, .int .i64 n] W fun e w' => ∃ A k, e = .returned (.tuple #[.slice A (faB U K o n).length k, .int .i64 (faE U K o n)]) ∧ BytesT w' (.slice A (faB U K o n).length k) (faB U K o n) ∧ Below W.heap.size W w' from by
    refine (HPC.rd (.pointer (some ⟨g, 0, none⟩)) U K o n W h.ptr h.ok).mono ?_
    rintro e w' ⟨vb, rfl, hd, hb⟩
    obtain ⟨A, k, rfl⟩ := bytesT_form hd
    exact ⟨A, k, rfl, hd, hb⟩)
  have HWR := Lib.hid (fun (x : Nat) (U : List Nd) (o : Int) (d : List UInt8) (vd : Value) (W : World) (h : TabR W x U (fun _ => True)) (hd : BytesR W vd d) (hl : d.length ≤ 1000) => show Calls Tryz.prog 18 #[.pointer (some ⟨x, 0, none⟩), .agg #[.int .i64 0, .int .i64 0, .slice none 0 0], .int .i64 K, .int .i64 o, vd] W fun e w' => e = .returned (.int .i64 (fwE U K o d)) ∧ TabR w' x (fwT U wh0 K o d) (fun _ => True) ∧ W.grownBy w' (some x) from HPC.wr x U (fun _ => True) wh0 none 0 0 K o d vd W h h.ok (fcr_none W wh0 rfl) hd hl (fun _ _ => trivial))
  have HB1000 := Lib.hid (show b.length ≤ 1000 from by have := HB60.out; omega)
  obtain ⟨T1, hT1⟩ : ∃ E, fwT T wh0 K (o9 : Int) b = E := ⟨_, rfl⟩
  obtain ⟨E2, hE2⟩ : ∃ E, fwE T K (o9 : Int) b = E := ⟨_, rfl⟩
  obtain ⟨FE, hFE⟩ : ∃ E, faE T K 0 100 = E := ⟨_, rfl⟩
  obtain ⟨W0, hW0⟩ : ∃ E, faB T K 0 100 = E := ⟨_, rfl⟩
  have HNOT := Lib.hid (show FE ≠ 0 ∨ E2 ≠ 0 → T1 = T from by
    intro q
    rw [← hT1]
    refine back_not (n := 100) (q.imp (fun q => ⟨by rw [hFE]; exact q, by decide⟩) (fun q => by rw [hE2]; exact q)))
  have HBK := Lib.hid (show E2 = 0 → (faE T1 K 0 100 = 0 ∧ faB T1 K 0 100 = ovr W0 o9 b) ∧ (faE T1 K (o9 : Int) (b.length : Int) = 0 ∧ faB T1 K (o9 : Int) (b.length : Int) = b) from by
    intro q
    have h := back_read HTR.out.ok wh0 (off := o9) (by rw [hE2]; exact q) HNE.out
    rw [hT1] at h
    have hn := h.now
    rw [hW0] at hn
    exact ⟨hn, h.got⟩)
  have HTW := Lib.hid (show E2 = 0 → fwE T K (o9 : Int) (b.take c9) = 0 ∧ fwE (fwT T wh0 K (o9 : Int) (b.take c9)) K ((o9 : Int) + c9) (b.drop c9) = 0 ∧ fwT (fwT T wh0 K (o9 : Int) (b.take c9)) wh0 K ((o9 : Int) + c9) (b.drop c9) = T1 from by
    intro q
    have h := back_two HTR.out.ok (c := wh0) rfl (off := o9) (by rw [hE2]; exact q) c9 HCL.out
    rw [hT1] at h
    exact h)
  have HR1 := Lib.hid (fun (W : World) (h : TabR W g T (fun _ => True)) => show Calls Tryz.prog 15 #[.pointer (some ⟨g, 0, none⟩), .int .i64 K, .int .i64 0, .int .i64 100] W fun e w' => ∃ A k, e = .returned (.tuple #[.slice A W0.length k, .int .i64 FE]) ∧ BytesT w' (.slice A W0.length k) W0 ∧ Below W.heap.size W w' from by have h1 := HRD.out T 0 100 W h; rw [hW0, hFE] at h1; exact h1)
  have HW1 := Lib.hid (fun (W : World) (h : TabR W g T (fun _ => True)) (hb : Below w.heap.size w W) => show Calls Tryz.prog 18 #[.pointer (some ⟨g, 0, none⟩), .agg #[.int .i64 0, .int .i64 0, .slice none 0 0], .int .i64 K, .int .i64 (o9 : Int), .slice A9 b.length k9] W fun e w' => e = .returned (.int .i64 E2) ∧ TabR w' g T1 (fun _ => True) ∧ W.grownBy w' (some g) from by have h1 := HWR.out g T (o9 : Int) b (.slice A9 b.length k9) W h (HYG.out W hb) HB1000.out; rw [hT1, hE2] at h1; exact h1)
  have HW100 := Lib.hid (show W0.length ≤ 100 from by rw [← hW0]; unfold faB; split <;> simp [List.length_take]; omega)
  clear hT1 hE2 hFE hW0 HPC
  have hb4 := ba w3' (.cells #[.int .i64 0, .int .i64 0, .slice none 0 0] 25)
  have hk4 := Blk.new w3' 25 #[.int .i64 0, .int .i64 0, .slice none 0 0]
  go_upto_region 10 with fail
  obtain ⟨z, hz⟩ : ∃ z, w3'.heap.size = z := ⟨_, rfl⟩
  obtain ⟨w4, hw4⟩ : ∃ W, w3'.alloc (.cells #[.int .i64 0, .int .i64 0, .slice none 0 0] 25) = W := ⟨_, rfl⟩
  rw [hw4] at hb4 hk4 ⊢
  rw [hz] at hk4 ⊢
  have HT4 := Lib.hid (HTT.out.below hb4)
  have HK4 := Lib.hid hk4
  have HB4 := Lib.hid (bt hb4 HB3.out)
  have HRA := Lib.hid (HR1.out w4 (HTT.out.below hb4))
  clear hb4 hk4 hw4 hz HTT HB3 HR1
  go_wp2_with fail
  refine HRA.out.mono ?_
  rintro e w5 ⟨AW, kw, rfl, hd, hb⟩
  have HD5 := Lib.hid hd
  have HT5 := Lib.hid (HT4.out.below hb)
  have HK5 := Lib.hid (HK4.out.below hb)
  have HB5 := Lib.hid (bt hb HB4.out)
  clear hd hb HRA HT4 HK4 HB4
  go_wp2_with fail
  refine (clone_any g T (fun _ => True) (fun _ => True) w5 HT5.out (fun _ _ => trivial)).mono ?_
  rintro e w6 ⟨rfl, hu, hb6⟩
  have HUG := Lib.hid (show w5.heap.size ≠ g from Nat.ne_of_gt HT5.out.lt)
  have HWU := Lib.hid (show w.heap.size ≤ w5.heap.size from HB5.out.size)
  generalize w5.heap.size = u at hu HUG HWU ⊢
  have HU6 := Lib.hid hu
  have HT6 := Lib.hid (HT5.out.below hb6)
  have HD6 := Lib.hid (HD5.out.below hb6)
  have hk6 := HK5.out.below hb6
  have HK6 := Lib.hid hk6
  have HB6 := Lib.hid (bt hb6 HB5.out)
  obtain ⟨k0, k1, k2⟩ := hk6.c3
  clear hu hb6 hk6 HT5 HD5 HK5 HB5
  go_wp2_with fail
  refine (HW1.out w6 HT6.out HB6.out).mono ?_
  rintro e w7 ⟨rfl, ht, hgr⟩
  have HT7 := Lib.hid ht
  have HU7 := Lib.hid (blt_kept HU6.out HT6.out hgr HUG.out)
  have HD7 := Lib.hid (bytesT_keep HT6.out HD6.out hgr)
  have hk7 := box_keep HT6.out HK6.out hgr
  have HK7 := Lib.hid hk7
  have HB7 := Lib.hid (grown_bl HB6.out hgr HGE.out)
  clear ht hgr k0 k1 k2 hk7 HT6 HU6 HD6 HK6 HB6 HW1
  have HSM := Lib.hid (fun (q : T1 = T) => show Calls Tryz.prog 20 #[.pointer (some ⟨g, 0, none⟩), .pointer (some ⟨u, 0, none⟩)] w7 fun e w' => e = .returned (.bool true) ∧ Below w7.heap.size w7 w' from by have h := tsame_any (.pointer (some ⟨g, 0, none⟩)) (.pointer (some ⟨u, 0, none⟩)) T1 T w7 HT7.out.ptr HU7.out.ptr; rw [q, sam_refl] at h; exact h)
  by_cases q1 : FE = 0
  case neg =>
    have y1 : (FE != 0) = true := by simpa using q1
    have HS := Lib.hid (HSM.out (HNOT.out (.inl q1)))
    clear q1 HSM
    go_wp2_with fail
    refine HS.out.mono ?_
    rintro e w8 ⟨rfl, hb⟩
    have HB8 := Lib.hid (bt hb HB7.out)
    clear hb
    go_wp2
    go_ret
    exact ⟨ret_bool (by first | rfl | simp), HB8.out⟩
  have y1 : (FE != 0) = false := by simpa using q1
  by_cases q2 : E2 = 0
  case neg =>
    have y2 : (E2 != 0) = true := by simpa using q2
    have HS := Lib.hid (HSM.out (HNOT.out (.inr q2)))
    clear q1 q2 HSM
    go_wp2_with fail
    refine HS.out.mono ?_
    rintro e w8 ⟨rfl, hb⟩
    have HB8 := Lib.hid (bt hb HB7.out)
    clear hb
    go_wp2
    go_ret
    exact ⟨ret_bool (by first | rfl | simp), HB8.out⟩
  have y2 : (E2 != 0) = false := by simpa using q2
  obtain ⟨N, hN⟩ : ∃ N, ovr W0 o9 b = N := ⟨_, rfl⟩
  obtain ⟨n1, n2⟩ := (HBK.out q2).1
  obtain ⟨n3, n4⟩ := (HBK.out q2).2
  rw [hN] at n2
  have hNL := ovr_len W0 o9 b
  rw [hN] at hNL
  have HNL := Lib.hid hNL
  have HNJ := Lib.hid (fun (j : Nat) (hj : ¬ (o9 ≤ j ∧ j < o9 + b.length)) (hl : j < N.length) => show N[j]? = if j < W0.length then W0[j]? else some 0 from by rw [← hN] at hl ⊢; exact ovr_at W0 o9 b hj hl)
  have HTW2 := Lib.hid (HTW.out q2)
  have HRN := Lib.hid (fun (W : World) (h : TabR W g T1 (fun _ => True)) => show Calls Tryz.prog 15 #[.pointer (some ⟨g, 0, none⟩), .int .i64 K, .int .i64 0, .int .i64 100] W fun e w' => ∃ A k, e = .returned (.tuple #[.slice A N.length k, .int .i64 0]) ∧ BytesT w' (.slice A N.length k) N ∧ Below W.heap.size W w' from by have h1 := HRD.out T1 0 100 W h; rw [n1, n2] at h1; exact h1)
  have HRG := Lib.hid (fun (W : World) (h : TabR W g T1 (fun _ => True)) => show Calls Tryz.prog 15 #[.pointer (some ⟨g, 0, none⟩), .int .i64 K, .int .i64 (o9 : Int), .int .i64 (b.length : Int)] W fun e w' => ∃ A k, e = .returned (.tuple #[.slice A b.length k, .int .i64 0]) ∧ BytesT w' (.slice A b.length k) b ∧ Below W.heap.size W w' from by have h1 := HRD.out T1 (o9 : Int) (b.length : Int) W h; rw [n3, n4] at h1; exact h1)
  have HLE := Lib.hid (show N.length ≤ 2000 from by rw [hNL]; have h1 := HW100.out; have h2 := HB60.out; omega)
  clear q1 q2 n1 n2 n3 n4 hN hNL HBK HTW HSM HNOT HRD
  go_wp2_with fail
  refine (HRN.out w7 HT7.out).mono ?_
  rintro e w8 ⟨AN, kn, rfl, hd, hb⟩
  have HN8 := Lib.hid hd
  have HT8 := Lib.hid (HT7.out.below hb)
  have HU8 := Lib.hid (HU7.out.below hb)
  have HD8 := Lib.hid (HD7.out.below hb)
  have HK8 := Lib.hid (HK7.out.below hb)
  have HB8 := Lib.hid (bt hb HB7.out)
  clear hd hb HT7 HU7 HD7 HK7 HB7 HRN
  go_wp2_with fail
  refine (HRG.out w8 HT8.out).mono ?_
  rintro e w9 ⟨AG, kg, rfl, hd, hb⟩
  have HT9 := Lib.hid (HT8.out.below hb)
  have HU9 := Lib.hid (HU8.out.below hb)
  have HD9 := Lib.hid (HD8.out.below hb)
  have HN9 := Lib.hid (HN8.out.below hb)
  have HK9' := Lib.hid (HK8.out.below hb)
  have hb9 := bt hb HB8.out
  have HB9 := Lib.hid hb9
  have r1 := bytes_back hd.1
  have r2 := bytes_back (HYG.out w9 hb9)
  have r3 : ((bA b).toList != (bA b).toList) = false := by simp
  have r4 : ((N.length : Int) != max (W0.length : Int) ((o9 : Int) + (b.length : Int))) = false := by rw [HNL.out]; simp; omega
  clear hd hb hb9 HT8 HU8 HD8 HN8 HK8 HB8 HRG
  go_upto_region 17 with fail
  go_cut [115] (fun s wx => s = .bool false ∧ wx = w9)
  case first =>
    go_wp2
    go_meet
    exact ⟨by first | rfl | simp_all, rfl⟩
  case rest =>
  obtain ⟨rfl, rfl⟩ := hcut
  clear r1 r2 r3 r4 y1 y2
  obtain ⟨w10, hw10⟩ : ∃ W, wc = W := ⟨_, rfl⟩
  rw [hw10] at HT9 HU9 HD9 HN9 HK9' HB9 ⊢
  clear hw10
  go_wp2
  go_loopg [27] N.length (fun gh s27 wr => ∃ j : Nat, s27 = .int .i64 (j : Int) ∧ j ≤ N.length ∧ gh = N.length - j ∧ Below w10.heap.size w10 wr)
  case atStart => exact ⟨0, rfl, Nat.zero_le _, rfl, Below.refl _ _⟩
  case round =>
    obtain ⟨j, rfl, hj, rfl, hbr⟩ := hrel
    have HBR := Lib.hid hbr
    clear hbr
    have hn100 : N.length ≤ 2000 := HLE.out
    have HN100 := Lib.hid hn100
    clear hn100
    by_cases hlt : j < N.length
    · have hlt' : (j : Int) < (N.length : Int) := by omega
      have HLT := Lib.hid hlt
      by_cases hin : o9 ≤ j ∧ j < o9 + b.length
      · have ya : (o9 : Int) ≤ (j : Int) := by omega
        have yb : (j : Int) < (o9 : Int) + (b.length : Int) := by omega
        have b60 := HB60.out
        clear hin hlt
        go_wp2
        have hlt := HLT.out
        have hn := HN100.out
        go_roundg (N.length - (j + 1))
        case measure => omega
        case rel => exact ⟨j + 1, by go_num, by omega, rfl, HBR.out⟩
      · obtain ⟨x, hx⟩ : ∃ x, N[j]? = some x := ⟨_, List.getElem?_eq_getElem hlt⟩
        have hw0 := HNJ.out j hin hlt
        rw [hx] at hw0
        have hnr := HN9.out.below HBR.out
        have hdr := HD9.out.below HBR.out
        obtain ⟨ad, hA, c0⟩ := bytes_get hnr.1 hx
        subst hA
        have HIN := Lib.hid hin
        go_upto_region 22 with fail
        go_cut [132] (fun s wx => s = .bool false ∧ wx = wr)
        case first =>
          clear c0
          have b60 := HB60.out
          by_cases ha : o9 ≤ j
          · have ya : (o9 : Int) ≤ (j : Int) := by omega
            have yb : ¬ (j : Int) < (o9 : Int) + (b.length : Int) := by omega
            clear hin hlt hx hw0 hnr hdr
            go_wp2
            go_meet
            exact ⟨by first | rfl | simp_all, rfl⟩
          · have ya : ¬ (o9 : Int) ≤ (j : Int) := by omega
            clear hin hlt hx hw0 hnr hdr
            go_wp2
            go_meet
            exact ⟨by first | rfl | simp_all, rfl⟩
        case rest =>
        obtain ⟨rfl, rfl⟩ := hcut
        by_cases hw : j < W0.length
        · rw [if_pos hw] at hw0
          obtain ⟨ad', hA', c1⟩ := bytes_get hdr.1 hw0.symm
          subst hA'
          have q1 : (co x != co x) = false := by simp
          have hw' : (j : Int) < (W0.length : Int) := by omega
          have hw3 : ¬ (W0.length : Int) ≤ (j : Int) := by omega
          have hw4 : decide ((W0.length : Int) ≤ (j : Int)) = false := decide_eq_false (fun q => by omega)
          have hw6 : decide (W0.length ≤ j) = false := decide_eq_false (fun q => by omega)
          clear hin hlt hx hw0 hnr hdr hw
          have hlt := HLT.out
          have hn := HN100.out
          go_wp2
          go_quiet (fail)
          go_wp2
          go_roundg (N.length - (j + 1))
          case measure => omega
          case rel => exact ⟨j + 1, by go_num, by omega, rfl, bdN HBR.out _⟩
        · rw [if_neg hw] at hw0
          injection hw0 with hx0
          subst hx0
          have q1 : (co 0 != 0) = false := by decide
          have q2 : ((0 : Int) != 0) = false := by decide
          have hw' : ¬ (j : Int) < (W0.length : Int) := by omega
          have hw5 : decide ((j : Int) < (W0.length : Int)) = false := decide_eq_false (fun q => by omega)
          have hw6 : decide (j < W0.length) = false := decide_eq_false (fun q => by omega)
          have hw7 : decide (W0.length ≤ j) = true := decide_eq_true (by omega)
          have hw3 : (W0.length : Int) ≤ (j : Int) := by omega
          clear hin hlt hx hnr hdr hw
          have hlt := HLT.out
          have hn := HN100.out
          go_wp2
          go_quiet (fail)
          go_wp2
          go_roundg (N.length - (j + 1))
          case measure => omega
          case rel => exact ⟨j + 1, by go_num, by omega, rfl, bdN HBR.out _⟩
    · have hlt' : ¬ (j : Int) < (N.length : Int) := by omega
      have hlt5 : decide ((j : Int) < (N.length : Int)) = false := by simp; omega
      have hTr := HT9.out.below HBR.out
      have hUr := HU9.out.below HBR.out
      have hKr := HK9'.out.below HBR.out
      have HBz := Lib.hid (bt HBR.out HB9.out)
      have HTz := Lib.hid hTr
      have HUz := Lib.hid hUr
      have HKz := Lib.hid hKr
      clear hlt hj hTr hUr hKr HT9 HU9 HK9' HB9 HD9 HN9 HBR HN100
      go_upto_region 25 with fail
      clear hlt' hlt5
      go_cut [28] (fun s wx => s = .int .i64 (c9 : Int) ∧ wx = wr)
      case first =>
        have hc := HC9.out
        have b60 := HB60.out
        have hwc : wrap64 cut = cut := by have h := HCB.out; unfold wrap64; omega
        go_wp2
        go_meet
        exact ⟨by first | rfl | rw [hc] | rw [hwc, hc], rfl⟩
      case rest =>
      obtain ⟨rfl, rfl⟩ := hcut
      obtain ⟨wz, hwz⟩ : ∃ W, wc = W := ⟨_, rfl⟩
      rw [hwz] at HTz HUz HKz HBz ⊢
      clear hwz
      obtain ⟨AH, kh, hsh, hhd⟩ := cut_head HY0.out HCL.out HK9.out
      obtain ⟨AT, mt, kt, hst, htl⟩ := cut_tail HY0.out HCL.out HK9.out
      have HHD := Lib.hid hhd
      have HTL := Lib.hid htl
      have HSH := Lib.hid hsh
      have HST := Lib.hid hst
      have HDR := Lib.hid (show Below wz.heap.size wz wz.drew from (Below.refl _ _).drew)
      have HPA := Lib.hid (fun (W : World) (hb : Below wz.heap.size wz W) => show W.cell? ⟨z, 0, none⟩ = some (.int .i64 0) ∧ W.cell? ⟨z, 1, none⟩ = some (.int .i64 0) ∧ W.cell? ⟨z, 2, none⟩ = some (.slice none 0 0) ∧ (Instr.slice 43 (.slice A9 b.length k9) none (some (.int .i64 (c9 : Int))) none).run Tryz.prog W = .ok (.slice AH c9 kh) W from ⟨(HKz.out.below hb).c3.1, (HKz.out.below hb).c3.2.1, (HKz.out.below hb).c3.2.2, HSH.out W⟩)
      obtain ⟨U1, hU1⟩ : ∃ U, fwT T wh0 K (o9 : Int) (b.take c9) = U := ⟨_, rfl⟩
      obtain ⟨t1, t2, t3⟩ := HTW2.out
      rw [hU1] at t2 t3
      have HWA := Lib.hid (fun (W : World) (h : TabR W u T (fun _ => True)) (hb : Below wz.heap.size wz W) => show Calls Tryz.prog 18 #[.pointer (some ⟨u, 0, none⟩), .agg #[.int .i64 0, .int .i64 0, .slice none 0 0], .int .i64 K, .int .i64 (o9 : Int), .slice AH c9 kh] W fun e w' => e = .returned (.int .i64 0) ∧ TabR w' u U1 (fun _ => True) ∧ W.grownBy w' (some u) from by have h1 := HWR.out u T (o9 : Int) (b.take c9) (.slice AH c9 kh) W h (HHD.out.below (bt hb HBz.out)) (Nat.le_trans (List.length_take_le' ..) HB1000.out); rw [t1, hU1] at h1; exact h1)
      have hwr : IntKind.i64.wrap ((o9 : Int) + (c9 : Int)) = (o9 : Int) + (c9 : Int) := by have b60 := HB60.out; have c60 := HCL.out; rw [IntKind.wrap_i64] <;> omega
      have HWB := Lib.hid (fun (W : World) (h : TabR W u U1 (fun _ => True)) (hr : BytesR W (.slice AT mt kt) (b.drop c9)) => show Calls Tryz.prog 18 #[.pointer (some ⟨u, 0, none⟩), .agg #[.int .i64 0, .int .i64 0, .slice none 0 0], .int .i64 K, .int .i64 (IntKind.i64.wrap ((o9 : Int) + (c9 : Int))), .slice AT mt kt] W fun e w' => e = .returned (.int .i64 0) ∧ TabR w' u T1 (fun _ => True) ∧ W.grownBy w' (some u) from by have h1 := HWR.out u U1 ((o9 : Int) + (c9 : Int)) (b.drop c9) (.slice AT mt kt) W h hr (by rw [List.length_drop]; have := HB1000.out; omega); rw [t2, t3] at h1; rw [hwr]; exact h1)
      clear hwr hhd htl hsh hst t1 t2 t3 hU1 HWR HTW2
      go_upto_region 26 with fail
      go_region_held3 (fun W => W.cell? ⟨z, 0, none⟩ = some (.int .i64 0) ∧ W.cell? ⟨z, 1, none⟩ = some (.int .i64 0) ∧ W.cell? ⟨z, 2, none⟩ = some (.slice none 0 0) ∧ (Instr.slice 43 (.slice A9 b.length k9) none (some (.int .i64 (c9 : Int))) none).run Tryz.prog W = .ok (.slice AH c9 kh) W)
        (first | (with_reducible exact HPA.out _ HDR.out) | (with_reducible exact ⟨HK1.out.c3.1, HK1.out.c3.2.1, HK1.out.c3.2.2, HSH.out _⟩))
        (first | (go_at_call 18; (with_reducible refine (HWA.out wz.drew (HUz.out.below HDR.out) HDR.out).mono ?_); rintro e1 x1 ⟨rfl, hu1, hg1⟩; have HU1 := Lib.hid hu1; have HT1 := Lib.hid (blt_kept (HTz.out.below HDR.out) (HUz.out.below HDR.out) hg1 HUG.out.symm); have HK1 := Lib.hid (box_keep (HUz.out.below HDR.out) (HKz.out.below HDR.out) hg1); have HB1 := Lib.hid (grown_bl (bt HDR.out HBz.out) hg1 HWU.out); clear hu1 hg1))
      go_upto_region 27 with fail
      have HDS := Lib.hid (show Below x1.heap.size x1 x1.drew from (Below.refl _ _).drew)
      have HPB := Lib.hid (fun (W : World) (hb : Below x1.heap.size x1 W) => show W.cell? ⟨z, 0, none⟩ = some (.int .i64 0) ∧ W.cell? ⟨z, 1, none⟩ = some (.int .i64 0) ∧ W.cell? ⟨z, 2, none⟩ = some (.slice none 0 0) ∧ (Instr.slice 43 (.slice A9 b.length k9) (some (.int .i64 (c9 : Int))) none none).run Tryz.prog W = .ok (.slice AT mt kt) W from ⟨(HK1.out.below hb).c3.1, (HK1.out.below hb).c3.2.1, (HK1.out.below hb).c3.2.2, HST.out W⟩)
      have HWC := Lib.hid (fun (W : World) (hb : Below x1.heap.size x1 W) => HWB.out W (HU1.out.below hb) (HTL.out.below (bt hb HB1.out)))
      clear HPA HDR HWA HWB HSH HTz HUz HKz HBz
      have b60 := HB60.out
      have c60 := HCL.out
      go_region_held3 (fun W => W.cell? ⟨z, 0, none⟩ = some (.int .i64 0) ∧ W.cell? ⟨z, 1, none⟩ = some (.int .i64 0) ∧ W.cell? ⟨z, 2, none⟩ = some (.slice none 0 0) ∧ (Instr.slice 43 (.slice A9 b.length k9) (some (.int .i64 (c9 : Int))) none none).run Tryz.prog W = .ok (.slice AT mt kt) W)
        (first | (with_reducible exact HPB.out _ HDS.out) | (with_reducible exact ⟨HK2.out.c3.1, HK2.out.c3.2.1, HK2.out.c3.2.2, HST.out _⟩))
        (first | (go_at_call 18; (with_reducible refine (HWC.out x1.drew HDS.out).mono ?_); rintro e2 x2 ⟨rfl, hu2, hg2⟩; have HU2 := Lib.hid hu2; have HT2 := Lib.hid (blt_kept (HT1.out.below HDS.out) (HU1.out.below HDS.out) hg2 HUG.out.symm); have HK2 := Lib.hid (box_keep (HU1.out.below HDS.out) (HK1.out.below HDS.out) hg2); have HB2 := Lib.hid (grown_bl (bt HDS.out HB1.out) hg2 HWU.out); clear hu2 hg2))
      have HSE := Lib.hid (show Calls Tryz.prog 20 #[.pointer (some ⟨u, 0, none⟩), .pointer (some ⟨g, 0, none⟩)] x2 fun e w' => e = .returned (.bool true) ∧ Below x2.heap.size x2 w' from by have h := tsame_any (.pointer (some ⟨u, 0, none⟩)) (.pointer (some ⟨g, 0, none⟩)) T1 T1 x2 HU2.out.ptr HT2.out.ptr; rw [sam_refl] at h; exact h)
      go_wp2_with fail
      refine HSE.out.mono ?_
      rintro e x3 ⟨rfl, h3⟩
      have HB3 := Lib.hid (bt h3 HB2.out)
      clear h3
      go_wp2
      go_ret
      exact ⟨ret_bool (by first | rfl | simp), HB3.out⟩
theorem lback_any (HPC : FilesC) (x0 : Int) (v1 : Value) (l : List Rw) (i off cut : Int) (b : List UInt8) (A9 : Option Addr) (k9 : Nat) (w : World) (h1 : RawsR w v1 l) (hl1 : l.length ≤ maxLen) (h3 : BytesR w (.slice A9 b.length k9) b) (hk9 : b.length ≤ k9) (hof : 0 ≤ off ∧ off ≤ 255) (hcu : 0 ≤ cut ∧ cut ≤ 255) :
    Calls Tryz.prog 6 #[.int .i64 x0, v1, .int .u8 i, .int .u8 off, .slice A9 b.length k9, .int .u8 cut] w fun e w' => e = .returned (.bool true) ∧ Below w.heap.size w w' :=
  lback_slice HPC x0 v1 l i off cut b A9 k9 w h1 hl1 h3 hk9 hof hcu
end Go.Proofs.YtfopnfgfoicidaaGreat
