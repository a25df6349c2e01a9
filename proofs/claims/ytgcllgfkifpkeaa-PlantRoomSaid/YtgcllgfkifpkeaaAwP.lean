/-
  The document's examples of stage 14: awake. The condition: what is said of package plant's calls.
-/
import Derived.Test.YtgcllgfkifpkeaaPlC
import Derived.Lib.SlBytesConst
namespace Go.Proofs.Ytgcllgfkifpkeaa
open Go Go.RowKit
set_option maxRecDepth 100000

attribute [local go_sem] cell_off4 cell_blk4
theorem raws_of_row {w : World} {g : Nat} {t : TypeId} (ps : List (Rw × Value)) (n c : Nat) (hn : ps.length = n) (h : Blk w g t (rCells ps).toArray) (hd : ∀ q ∈ ps, BytesR w q.2 q.1.data) : RawsR w (.slice (some ⟨g, 0, none⟩) n c) (ps.map Prod.fst) := by
  subst hn
  refine ⟨some ⟨g, 0, none⟩, c, by rw [List.length_map], fun k r hk => ?_⟩
  rw [List.getElem?_map] at hk
  obtain ⟨q, hq, rfl⟩ := Option.map_eq_some_iff.1 hk
  have key : ∀ j u, j < 9 → (rwC q.1 q.2).toList[j]? = some u → w.cell? ⟨g, k * 9 + j, none⟩ = some u := fun j u hj hu => by
    rw [h.cell, List.getElem?_toArray, rCells_at ps k j q hq hj]; exact hu
  have e0 : (⟨g, 0, none⟩ : Addr).add (k * 9) = ⟨g, k * 9, none⟩ := add_lit _ _
  refine ⟨⟨g, 0, none⟩, q.2, rfl, ?_, ?_, hd q (List.mem_of_getElem? hq)⟩
  · rw [e0]; exact key 0 _ (by decide) rfl
  · rw [e0]
    exact ⟨key 1 _ (by decide) rfl, key 2 _ (by decide) rfl, key 3 _ (by decide) rfl, key 4 _ (by decide) rfl, key 5 _ (by decide) rfl, key 6 _ (by decide) rfl, key 7 _ (by decide) rfl, key 8 _ (by decide) rfl⟩
theorem crr_nil (W : World) (c : Wh) (h : c.gs = []) : CrR W c none 0 0 := ⟨by rw [h]; exact IntsR.nil W, by rw [h]; decide⟩
def pxRow : List (Rw × Value) := [(px0, .slice none 0 0), (px1, .slice none 0 0)]
theorem ints_one {W : World} {x : Nat} {t : TypeId} {a : Int} (h : Blk W x t #[.int .i64 a]) : IntsR W (.slice (some ⟨x, 0, none⟩) 1 1) [a] := by
  refine ⟨_, 1, rfl, fun k e hk => ⟨_, rfl, ?_⟩⟩
  rw [add_lit]
  match k, hk with
  | 0, hk => have e1 : a = e := by simpa using hk
             rw [← e1]; exact h.cell 0
  | k + 1, hk => simp at hk
set_option maxHeartbeats 8000000 in
theorem awake14_any (HMK : MkdirC) (HSY : SymlinkC) (HCT : CreateC) (w : World) :
    Calls Try.prog 4 #[] w fun e w' => e = .returned (.bool true) ∧ Below w.heap.size w w' := by
  have hb2 := ba w (.cells (rCells pxRow).toArray 46)
  have hr2 : RawsR (w.alloc (.cells (rCells pxRow).toArray 46)) (.slice (some ⟨w.heap.size, 0, none⟩) 2 2) [px0, px1] := raws_of_row pxRow 2 2 rfl (Blk.new w 46 _) (fun q hq => by
    unfold pxRow at hq
    simp only [List.mem_cons, List.not_mem_nil, or_false] at hq
    rcases hq with rfl | rfl
    · exact BytesR.nil _
    · exact BytesR.nil _)
  have HC1 := Lib.hid (build_any 9 _ [px0, px1] _ hr2 ⟨fun r hr => by
    simp only [List.mem_cons, List.not_mem_nil, or_false] at hr
    rcases hr with rfl | rfl <;> exact ⟨by decide, by decide, by decide⟩, by decide⟩)
  rw [px_all] at HC1
  have HB2 := Lib.hid hb2
  have HX1 := Lib.hid (fun (g x : Nat) (W : World) (h : TabR W g pxT1 (fun _ => True)) (hc : CrR W whP (some ⟨x, 0, none⟩) 1 1) => show Calls Try.prog 11 #[.pointer (some ⟨g, 0, none⟩), .agg #[.int .i64 1, .int .i64 1, .slice (some ⟨x, 0, none⟩) 1 1], .int .i64 18, .string ⟨#[120]⟩, .int .i64 511] W fun e w' => e = .returned (.int .i64 0) ∧ TabR w' g pxT2 (fun _ => True) ∧ W.grownBy w' (some g) from by
    have h1 := HMK g pxT1 (fun _ => True) whP (some ⟨x, 0, none⟩) 1 1 18 [120] 511 W h px_trx hc (fun _ _ => trivial)
    unfold mkE mkT at h1; rw [px_1.1, px_1.2.1] at h1
    exact h1)
  have HX2 := Lib.hid (fun (g x : Nat) (W : World) (h : TabR W g pxT2 (fun _ => True)) (hc : CrR W whP (some ⟨x, 0, none⟩) 1 1) => show Calls Try.prog 11 #[.pointer (some ⟨g, 0, none⟩), .agg #[.int .i64 1, .int .i64 1, .slice (some ⟨x, 0, none⟩) 1 1], .int .i64 18, .string ⟨#[100, 47, 120]⟩, .int .i64 511] W fun e w' => e = .returned (.int .i64 0) ∧ TabR w' g pxT3 (fun _ => True) ∧ W.grownBy w' (some g) from by
    have h1 := HMK g pxT2 (fun _ => True) whP (some ⟨x, 0, none⟩) 1 1 18 [100, 47, 120] 511 W h px_trx2 hc (fun _ _ => trivial)
    unfold mkE mkT at h1; rw [px_2.1, px_2.2.1] at h1
    exact h1)
  have HX3 := Lib.hid (fun (g x : Nat) (W : World) (h : TabR W g pxT3 (fun _ => True)) (hc : CrR W whP (some ⟨x, 0, none⟩) 1 1) => show Calls Try.prog 11 #[.pointer (some ⟨g, 0, none⟩), .agg #[.int .i64 1, .int .i64 1, .slice (some ⟨x, 0, none⟩) 1 1], .int .i64 18, .string ⟨#[120]⟩, .int .i64 511] W fun e w' => e = .returned (.int .i64 17) ∧ TabR w' g pxT3 (fun _ => True) ∧ W.grownBy w' (some g) from by
    have h1 := HMK g pxT3 (fun _ => True) whP (some ⟨x, 0, none⟩) 1 1 18 [120] 511 W h px_trx3 hc (fun _ _ => trivial)
    unfold mkE mkT at h1; rw [(pl_err (by rw [px_3]; decide)).1, px_3] at h1
    exact h1)
  have HX4 := Lib.hid (fun (g x : Nat) (W : World) (h : TabR W g pxT3 (fun _ => True)) (hc : CrR W whP (some ⟨x, 0, none⟩) 1 1) => show Calls Try.prog 13 #[.pointer (some ⟨g, 0, none⟩), .agg #[.int .i64 1, .int .i64 1, .slice (some ⟨x, 0, none⟩) 1 1], .int .i64 18, .string ⟨#[102]⟩, .int .i64 438, .bool true] W fun e w' => e = .returned (.tuple #[.int .i64 5, .int .i64 0]) ∧ TabR w' g pxT4 (fun _ => True) ∧ W.grownBy w' (some g) from by
    have h1 := HCT g pxT3 (fun _ => True) whP (some ⟨x, 0, none⟩) 1 1 18 [102] 438 true W h px_trx3 hc (fun _ _ => trivial)
    unfold crE crT crI at h1
    rw [px_4.1, px_4.2.1, px_4.2.2] at h1
    exact h1)
  have HX5 := Lib.hid (fun (g x : Nat) (W : World) (h : TabR W g pxT4 (fun _ => True)) (hc : CrR W whP (some ⟨x, 0, none⟩) 1 1) => show Calls Try.prog 14 #[.pointer (some ⟨g, 0, none⟩), .agg #[.int .i64 1, .int .i64 1, .slice (some ⟨x, 0, none⟩) 1 1], .string ⟨#[102]⟩, .string ⟨#[115]⟩] W fun e w' => e = .returned (.int .i64 0) ∧ TabR w' g pxT5 (fun _ => True) ∧ W.grownBy w' (some g) from by
    have h1 := HSY g pxT4 (fun _ => True) whP (some ⟨x, 0, none⟩) 1 1 [102] [115] W h px_trx4 hc (by decide) (fun _ _ => trivial)
    have e1 := sy_plain (t := pxT4) (c := whP) (tg := [102]) (p := [115]) (by decide +kernel)
    rw [e1.1, e1.2, px_5.1, px_5.2.1] at h1
    exact h1)
  have HG3 := Lib.hid (fun (g : Nat) (W : World) (h : TabR W g pxT3 (fun _ => True)) => get_forms2 h 3 (pxD 2 493 1 1 [] []) rfl)
  have HG4 := Lib.hid (fun (g : Nat) (W : World) (h : TabR W g pxT3 (fun _ => True)) => get_forms2 h 4 (pxD 2 1517 1 7 [] []) rfl)
  have HUS := Lib.hid (fun (g : Nat) (W : World) (h : TabR W g pxT5 (fun _ => True)) => show Calls Try.prog 9 #[.pointer (some ⟨g, 0, none⟩)] W fun e w' => e = .returned (.int .i64 6) ∧ Below W.heap.size W w' from used_any _ pxT5 W h.ptr)
  have HRI := Lib.hid (fun (g : Nat) (W : World) (h : TabR W g pxT5 (fun _ => True)) => show Calls Try.prog 15 #[.pointer (some ⟨g, 0, none⟩), .slice none 0 0] W fun e w' => e = .returned (.bool true) ∧ Below W.heap.size W w' from by have h1 := tright_any _ (.slice none 0 0) pxT5 [] W h.ptr (IntsR.nil _) (by decide); rw [toB_true (tre_all_right px_trx5)] at h1; exact h1)
  generalize tis pxT3 3 = q3 at HG3
  generalize tis pxT3 4 = q4 at HG4
  generalize pxT1 = T1 at HC1 HX1
  generalize pxT2 = T2 at HX1 HX2
  generalize pxT3 = T3 at HX2 HX3 HX4 HG3 HG4
  generalize pxT4 = T4 at HX4 HX5
  generalize pxT5 = T5 at HX5 HUS HRI
  clear hb2 hr2 HMK HSY HCT
  go_enter Try.func4, Try.ntmps4
  go_wp2_with fail
  refine HC1.out.mono ?_
  rintro e w2 ⟨⟨g, rfl, ht, hg⟩, hb⟩
  have HGE := Lib.hid (show w.heap.size ≤ g from by first | exact hg | exact Nat.le_trans HB2.out.size hg | (have := HB2.out.size; omega))
  have hb3 := ba w2 (.cells #[.int .i64 7] 3)
  have hi3 := Blk.new w2 3 #[.int .i64 7]
  have HXG := Lib.hid (show w2.heap.size ≠ g from Nat.ne_of_gt ht.lt)
  have HXL := Lib.hid ht.lt
  obtain ⟨x, hx⟩ : ∃ x, w2.heap.size = x := ⟨_, rfl⟩
  rw [hx] at hi3 HXG HXL
  obtain ⟨W3, hW3⟩ : ∃ W3, w2.alloc (.cells #[.int .i64 7] 3) = W3 := ⟨_, rfl⟩
  rw [hW3] at hb3 hi3
  have hb4 := al hb3 (.cells #[.int .i64 1, .int .i64 1, .slice (some ⟨x, 0, none⟩) 1 1] 27)
  have hk4 := Blk.new W3 27 #[.int .i64 1, .int .i64 1, .slice (some ⟨x, 0, none⟩) 1 1]
  have hc4 : CrR (W3.alloc (.cells #[.int .i64 1, .int .i64 1, .slice (some ⟨x, 0, none⟩) 1 1] 27)) whP (some ⟨x, 0, none⟩) 1 1 := ⟨ints_one (hi3.below (ba W3 _)), by decide⟩
  have HNE := Lib.hid (show W3.heap.size ≠ g from by have h1 := hb3.size; have h2 := HXL.out; omega)
  obtain ⟨y, hy⟩ : ∃ y, W3.heap.size = y := ⟨_, rfl⟩
  rw [hy] at hk4 HNE
  obtain ⟨W4, hW4⟩ : ∃ W4, W3.alloc (.cells #[.int .i64 1, .int .i64 1, .slice (some ⟨x, 0, none⟩) 1 1] 27) = W4 := ⟨_, rfl⟩
  rw [hW4] at hb4 hk4 hc4
  have HT4 := Lib.hid (ht.below hb4)
  have HB4 := Lib.hid (bt hb4 (bt hb HB2.out))
  have HK4 := Lib.hid hk4
  have HC4 := Lib.hid hc4
  obtain ⟨k0, k1, k2⟩ := hk4.c3
  clear ht hb hg hb3 hi3 hb4 hk4 hc4 HC1 HB2
  go_wp2_with fail
  clear hW3 hW4 hx hy
  refine (HX1.out g x _ HT4.out HC4.out).mono ?_
  rintro e w5 ⟨rfl, ht, hgr⟩
  have HB5 := Lib.hid (grown_bl HB4.out hgr HGE.out)
  have hk := HK4.out.kept hgr (some_ne HNE.out)
  have HC5 := Lib.hid (crr_other HC4.out hgr (fun ad q => by injection q with q; rw [← q]; exact HXG.out))
  have HT5 := Lib.hid ht
  have HK5 := Lib.hid hk
  clear k0 k1 k2
  obtain ⟨k0, k1, k2⟩ := hk.c3
  clear ht hgr hk
  go_wp2_with fail
  refine (HX2.out g x _ HT5.out HC5.out).mono ?_
  rintro e w6 ⟨rfl, ht, hgr⟩
  have HB6 := Lib.hid (grown_bl HB5.out hgr HGE.out)
  have hk := HK5.out.kept hgr (some_ne HNE.out)
  have HC6 := Lib.hid (crr_other HC5.out hgr (fun ad q => by injection q with q; rw [← q]; exact HXG.out))
  have HT6 := Lib.hid ht
  have HK6 := Lib.hid hk
  clear k0 k1 k2
  obtain ⟨k0, k1, k2⟩ := hk.c3
  clear ht hgr hk
  go_wp2_with fail
  refine (HX3.out g x _ HT6.out HC6.out).mono ?_
  rintro e w7 ⟨rfl, ht, hgr⟩
  have HB7 := Lib.hid (grown_bl HB6.out hgr HGE.out)
  have hk := HK6.out.kept hgr (some_ne HNE.out)
  have HC7 := Lib.hid (crr_other HC6.out hgr (fun ad q => by injection q with q; rw [← q]; exact HXG.out))
  have HT7 := Lib.hid ht
  have HK7 := Lib.hid hk
  clear k0 k1 k2
  obtain ⟨k0, k1, k2⟩ := hk.c3
  clear ht hgr hk
  go_wp2_with fail
  refine (HG3.out g w7 HT7.out).mono ?_
  rintro e wa ⟨A1, n1, c1, A2, c2, rfl, -, hb⟩
  have hbx := al hb (.cells #[.int .i64 2, .int .i64 493, .int .i64 1, .int .i64 1, .slice A1 n1 c1, .slice A2 0 c2, .string (bA [])] 35)
  have hn := Blk.new wa 35 #[.int .i64 2, .int .i64 493, .int .i64 1, .int .i64 1, .slice A1 n1 c1, .slice A2 0 c2, .string (bA [])]
  have HzaG := Lib.hid (show wa.heap.size ≠ g from Nat.ne_of_gt (HT7.out.below hb).lt)
  obtain ⟨za, hza⟩ : ∃ za, wa.heap.size = za := ⟨_, rfl⟩
  obtain ⟨w8, hw8⟩ : ∃ w8, wa.alloc (.cells #[.int .i64 2, .int .i64 493, .int .i64 1, .int .i64 1, .slice A1 n1 c1, .slice A2 0 c2, .string (bA [])] 35) = w8 := ⟨_, rfl⟩
  rw [hw8] at hbx hn
  rw [hza] at hn HzaG
  have Hza8 := Lib.hid hn
  have HT8 := Lib.hid (HT7.out.below hbx)
  have HK8 := Lib.hid (HK7.out.below hbx)
  have HC8 := Lib.hid (HC7.out.below hbx)
  have HB8 := Lib.hid (bt hbx HB7.out)
  clear k0 k1 k2 hb hbx hn
  obtain ⟨k0, k1, k2⟩ := HK8.out.c3
  simp only [pxD, List.length_nil]
  go_wp2_with fail
  clear hw8 hza
  refine (HG4.out g w8 HT8.out).mono ?_
  rintro e wa ⟨A1, n1, c1, A2, c2, rfl, -, hb⟩
  have hbx := al hb (.cells #[.int .i64 2, .int .i64 1517, .int .i64 1, .int .i64 7, .slice A1 n1 c1, .slice A2 0 c2, .string (bA [])] 35)
  have hn := Blk.new wa 35 #[.int .i64 2, .int .i64 1517, .int .i64 1, .int .i64 7, .slice A1 n1 c1, .slice A2 0 c2, .string (bA [])]
  have HzbG := Lib.hid (show wa.heap.size ≠ g from Nat.ne_of_gt (HT8.out.below hb).lt)
  obtain ⟨zb, hzb⟩ : ∃ zb, wa.heap.size = zb := ⟨_, rfl⟩
  obtain ⟨w9, hw9⟩ : ∃ w9, wa.alloc (.cells #[.int .i64 2, .int .i64 1517, .int .i64 1, .int .i64 7, .slice A1 n1 c1, .slice A2 0 c2, .string (bA [])] 35) = w9 := ⟨_, rfl⟩
  rw [hw9] at hbx hn
  rw [hzb] at hn HzbG
  have Hzb9 := Lib.hid hn
  have Hza9 := Lib.hid (Hza8.out.below hbx)
  have HT9 := Lib.hid (HT8.out.below hbx)
  have HK9 := Lib.hid (HK8.out.below hbx)
  have HC9 := Lib.hid (HC8.out.below hbx)
  have HB9 := Lib.hid (bt hbx HB8.out)
  clear k0 k1 k2 hb hbx hn
  obtain ⟨k0, k1, k2⟩ := HK9.out.c3
  simp only [pxD, List.length_nil]
  go_wp2_with fail
  clear hw9 hzb
  refine (HX4.out g x _ HT9.out HC9.out).mono ?_
  rintro e w10 ⟨rfl, ht, hgr⟩
  have HB10 := Lib.hid (grown_bl HB9.out hgr HGE.out)
  have hk := HK9.out.kept hgr (some_ne HNE.out)
  have HC10 := Lib.hid (crr_other HC9.out hgr (fun ad q => by injection q with q; rw [← q]; exact HXG.out))
  have HT10 := Lib.hid ht
  have HK10 := Lib.hid hk
  clear k0 k1 k2
  obtain ⟨k0, k1, k2⟩ := hk.c3
  have Hza10 := Lib.hid (Hza9.out.kept hgr (some_ne HzaG.out))
  have Hzb10 := Lib.hid (Hzb9.out.kept hgr (some_ne HzbG.out))
  clear ht hgr hk
  go_wp2_with fail
  refine (HX5.out g x _ HT10.out HC10.out).mono ?_
  rintro e w11 ⟨rfl, ht, hgr⟩
  have HB11 := Lib.hid (grown_bl HB10.out hgr HGE.out)
  have hk := HK10.out.kept hgr (some_ne HNE.out)
  have HC11 := Lib.hid (crr_other HC10.out hgr (fun ad q => by injection q with q; rw [← q]; exact HXG.out))
  have HT11 := Lib.hid ht
  have HK11 := Lib.hid hk
  clear k0 k1 k2
  obtain ⟨k0, k1, k2⟩ := hk.c3
  have Hza11 := Lib.hid (Hza10.out.kept hgr (some_ne HzaG.out))
  have Hzb11 := Lib.hid (Hzb10.out.kept hgr (some_ne HzbG.out))
  clear ht hgr hk
  obtain ⟨a0, a1, a2, a3, a4, a5, a6⟩ := Hza11.out.c7
  obtain ⟨b0, b1, b2, b3, b4, b5, b6⟩ := Hzb11.out.c7
  go_wp2_with fail
  refine (HUS.out g w11 HT11.out).mono ?_
  rintro e w12 ⟨rfl, hb⟩
  have HT12 := Lib.hid (HT11.out.below hb)
  have HB12 := Lib.hid (bt hb HB11.out)
  clear hb
  go_wp2_with fail
  refine (HRI.out g w12 HT12.out).mono ?_
  rintro e w13 ⟨rfl, hb⟩
  have HB13 := Lib.hid (bt hb HB12.out)
  clear hb
  go_wp2
  go_ret
  exact ⟨ret_bool (by first | rfl | simp), HB13.out⟩
end Go.Proofs.Ytgcllgfkifpkeaa
