/-
  The document's examples of stage 15: awake. The conditions: what is said of package prune's calls.
-/
import Derived.Test.YtiimdmbalnhmmaaGreatPrC
import Derived.Test.YtiimdmbalnhmmaaGreatPrS
import Derived.Lib.SlBytesConst
namespace Go.Proofs.YtiimdmbalnhmmaaGreat
open Go Go.RowKit
set_option maxRecDepth 100000

attribute [local go_sem] cell_off4 cell_blk4
theorem raws_row {w : World} {g : Nat} {t : TypeId} (ps : List (Rw × Value)) (n c : Nat) (hn : ps.length = n) (h : Blk w g t (rCells ps).toArray) (hd : ∀ q ∈ ps, BytesR w q.2 q.1.data) : RawsR w (.slice (some ⟨g, 0, none⟩) n c) (ps.map Prod.fst) := by
  subst hn
  refine ⟨some ⟨g, 0, none⟩, c, by rw [List.length_map], fun k r hk => ?_⟩
  rw [List.getElem?_map] at hk
  obtain ⟨q, hq, rfl⟩ := Option.map_eq_some_iff.1 hk
  have key : ∀ j u, j < 9 → (rwC q.1 q.2).toList[j]? = some u → w.cell? ⟨g, k * 9 + j, none⟩ = some u := fun j u hj hu => by
    rw [h.cell, List.getElem?_toArray, rCells_at ps k j q hq hj]; exact hu
  have e0 : (⟨g, 0, none⟩ : Addr).add (k * 9) = ⟨g, k * 9, none⟩ := add_lit _ _
  refine ⟨⟨g, 0, none⟩, q.2, rfl, ?_, ?_, hd q (List.mem_of_getElem? hq)⟩
  · rw [e0]; exact key 0 _ (by decide) rfl
  · rw [e0]
    exact ⟨key 1 _ (by decide) rfl, key 2 _ (by decide) rfl, key 3 _ (by decide) rfl, key 4 _ (by decide) rfl, key 5 _ (by decide) rfl, key 6 _ (by decide) rfl, key 7 _ (by decide) rfl, key 8 _ (by decide) rfl⟩
def pwRow : List (Rw × Value) := [(pw0, .slice none 0 0), (pw1, .slice none 0 0), (pw2, .slice none 0 0), (pw3, .slice none 0 0)]
set_option maxHeartbeats 8000000 in
theorem awake15_any (HUL : UnlinkC) (HRD : RmdirC) (HRN : RenameC) (HFR : FreeC) (HBL : BelowC) (w : World) :
    Calls Tryz.prog 8 #[] w fun e w' => e = .returned (.bool true) ∧ Below w.heap.size w w' := by
  have hb2 := ba w (.cells (rCells pwRow).toArray 77)
  have hr2 : RawsR (w.alloc (.cells (rCells pwRow).toArray 77)) (.slice (some ⟨w.heap.size, 0, none⟩) 4 4) [pw0, pw1, pw2, pw3] := raws_row pwRow 4 4 rfl (Blk.new w 77 _) (fun q hq => by
    unfold pwRow at hq
    simp only [List.mem_cons, List.not_mem_nil, or_false] at hq
    rcases hq with rfl | rfl | rfl | rfl <;> exact BytesR.nil _)
  have HC1 := Lib.hid (build_any 9 _ [pw0, pw1, pw2, pw3] _ hr2 ⟨fun r hr => by
    simp only [List.mem_cons, List.not_mem_nil, or_false] at hr
    rcases hr with rfl | rfl | rfl | rfl <;> exact ⟨by decide, by decide, by decide⟩, by decide⟩)
  rw [pw_all] at HC1
  have HB2 := Lib.hid hb2
  have HX1 := Lib.hid (fun (g : Nat) (W : World) (h : TabR W g pwT1 (fun _ => True)) => show Calls Tryz.prog 18 #[.pointer (some ⟨g, 0, none⟩), .agg #[.int .i64 1, .int .i64 0, .slice none 0 0], .string ⟨#[102]⟩, .slice none 0 0] W fun e w' => e = .returned (.int .i64 0) ∧ TabR w' g pwT2 (fun _ => True) ∧ W.grownBy w' (some g) from by
    have h1 := HUL g pwT1 (fun _ => True) whW none 0 0 [102] [] none 0 0 W h pw_tre (crr_none W whW rfl) (IntsR.nil W) (by decide) (off_nil none g) (off_nil none g) (fun _ _ => trivial)
    rw [pw_1.1, pw_1.2] at h1
    exact h1)
  have HX2 := Lib.hid (fun (g : Nat) (W : World) (h : TabR W g pwT2 (fun _ => True)) => show Calls Tryz.prog 18 #[.pointer (some ⟨g, 0, none⟩), .agg #[.int .i64 1, .int .i64 0, .slice none 0 0], .string ⟨#[103]⟩, .slice none 0 0] W fun e w' => e = .returned (.int .i64 1) ∧ TabR w' g pwT2 (fun _ => True) ∧ W.grownBy w' (some g) from by
    have h1 := HUL g pwT2 (fun _ => True) whW none 0 0 [103] [] none 0 0 W h pw_tre2 (crr_none W whW rfl) (IntsR.nil W) (by decide) (off_nil none g) (off_nil none g) (fun _ _ => trivial)
    rw [(ul_kept pw_tre2).2 (by rw [pw_2]; decide), pw_2] at h1
    exact h1)
  have HX3 := Lib.hid (fun (g : Nat) (W : World) (h : TabR W g pwT2 (fun _ => True)) => show Calls Tryz.prog 23 #[.pointer (some ⟨g, 0, none⟩), .agg #[.int .i64 1, .int .i64 0, .slice none 0 0], .string ⟨#[100]⟩, .string ⟨#[100, 47, 101]⟩, .slice none 0 0] W fun e w' => e = .returned (.int .i64 22) ∧ TabR w' g pwT2 (fun _ => True) ∧ W.grownBy w' (some g) from by
    have h1 := HRN g pwT2 (fun _ => True) whW none 0 0 [100] [100, 47, 101] [] none 0 0 W h pw_tre2 (crr_none W whW rfl) (IntsR.nil W) (by decide) (off_nil none g) (off_nil none g) (fun _ _ => trivial)
    rw [(mv_kept pw_tre2).2 (by rw [pw_3]; decide), pw_3] at h1
    exact h1)
  have HX4 := Lib.hid (fun (g : Nat) (W : World) (h : TabR W g pwT2 (fun _ => True)) => show Calls Tryz.prog 23 #[.pointer (some ⟨g, 0, none⟩), .agg #[.int .i64 1, .int .i64 0, .slice none 0 0], .string ⟨#[100]⟩, .string ⟨#[104]⟩, .slice none 0 0] W fun e w' => e = .returned (.int .i64 0) ∧ TabR w' g pwT3 (fun _ => True) ∧ W.grownBy w' (some g) from by
    have h1 := HRN g pwT2 (fun _ => True) whW none 0 0 [100] [104] [] none 0 0 W h pw_tre2 (crr_none W whW rfl) (IntsR.nil W) (by decide) (off_nil none g) (off_nil none g) (fun _ _ => trivial)
    rw [pw_4.1, pw_4.2] at h1
    exact h1)
  have HX5 := Lib.hid (fun (g : Nat) (W : World) (h : TabR W g pwT3 (fun _ => True)) => show Calls Tryz.prog 19 #[.pointer (some ⟨g, 0, none⟩), .agg #[.int .i64 1, .int .i64 0, .slice none 0 0], .string ⟨#[104]⟩] W fun e w' => e = .returned (.int .i64 0) ∧ TabR w' g pwT4 (fun _ => True) ∧ W.grownBy w' (some g) from by
    have h1 := HRD g pwT3 (fun _ => True) whW none 0 0 [104] W h pw_tre3 (crr_none W whW rfl) (off_nil none g) (fun _ _ => trivial)
    rw [pw_5.1, pw_5.2] at h1
    exact h1)
  have HUS := Lib.hid (fun (g : Nat) (W : World) (h : TabR W g pwT4 (fun _ => True)) => show Calls Tryz.prog 26 #[.pointer (some ⟨g, 0, none⟩)] W fun e w' => e = .returned (.int .i64 2) ∧ Below W.heap.size W w' from used_any _ pwT4 W h.ptr)
  have HRI := Lib.hid (fun (g : Nat) (W : World) (h : TabR W g pwT4 (fun _ => True)) => show Calls Tryz.prog 25 #[.pointer (some ⟨g, 0, none⟩), .slice none 0 0] W fun e w' => e = .returned (.bool true) ∧ Below W.heap.size W w' from by have h1 := tright_any _ (.slice none 0 0) pwT4 [] W h.ptr (IntsR.nil _) (by decide); rw [toB_true (tre_right pw_tre4)] at h1; exact h1)
  have HBW := Lib.hid (fun (g : Nat) (W : World) (h : TabR W g pwT4 (fun _ => True)) => show Calls Tryz.prog 11 #[.pointer (some ⟨g, 0, none⟩), .int .i64 3, .int .i64 1] W fun e w' => e = .returned (.bool true) ∧ Below W.heap.size W w' from by have h1 := HBL g pwT4 (fun _ => True) 3 1 W h pw_tre4; rw [pw_end.2.1] at h1; exact h1)
  have HFE := Lib.hid (fun (g : Nat) (W : World) (h : TabR W g pwT4 (fun _ => True)) => show Calls Tryz.prog 20 #[.pointer (some ⟨g, 0, none⟩), .int .i64 3, .slice none 0 0] W fun e w' => e = .returned (.bool false) ∧ W.grownBy w' (some g) from by
    have h1 := HFR g pwT4 (fun _ => True) 3 [] none 0 0 W h pw_tre4 (IntsR.nil W) (by decide) (off_nil none g) (fun _ _ => trivial)
    rw [pw_end.2.2] at h1
    refine h1.mono ?_
    rintro e w' ⟨rfl, -, h3⟩
    exact ⟨rfl, h3⟩)
  generalize pwT1 = T1 at HC1 HX1
  generalize pwT2 = T2 at HX1 HX2 HX3 HX4
  generalize pwT3 = T3 at HX4 HX5
  generalize pwT4 = T4 at HX5 HUS HRI HBW HFE
  clear hb2 hr2 HUL HRD HRN HFR HBL
  go_enter Tryz.func8, Tryz.ntmps8
  go_wp2_with fail
  refine HC1.out.mono ?_
  rintro e w2 ⟨⟨g, rfl, ht, hg⟩, hb⟩
  have HGE := Lib.hid (show w.heap.size ≤ g from by first | exact hg | exact Nat.le_trans HB2.out.size hg | (have := HB2.out.size; omega))
  have hbx := ba w2 (.cells #[.int .i64 1, .int .i64 0, .slice none 0 0] 25)
  have hk := Blk.new w2 25 #[.int .i64 1, .int .i64 0, .slice none 0 0]
  have HNE := Lib.hid (show w2.heap.size ≠ g from Nat.ne_of_gt ht.lt)
  have HT0 := Lib.hid (ht.below hbx)
  have HB0 := Lib.hid (bt hbx (bt hb HB2.out))
  have HK0 := Lib.hid hk
  clear ht hb hg hbx hk HC1 HB2
  go_wp2_with fail
  refine (HX1.out g _ HT0.out).mono ?_
  rintro e w4 ⟨rfl, ht, hgr⟩
  have HB1 := Lib.hid (grown_bl HB0.out hgr HGE.out)
  have hk := HK0.out.kept hgr (some_ne HNE.out)
  have HT1 := Lib.hid ht
  have HK1 := Lib.hid hk
  skip
  obtain ⟨k0, k1, k2⟩ := hk.c3
  clear ht hgr hk HX1
  go_wp2_with fail
  refine (HX2.out g _ HT1.out).mono ?_
  rintro e w5 ⟨rfl, ht, hgr⟩
  have HB2 := Lib.hid (grown_bl HB1.out hgr HGE.out)
  have hk := HK1.out.kept hgr (some_ne HNE.out)
  have HT2 := Lib.hid ht
  have HK2 := Lib.hid hk
  clear k0 k1 k2
  obtain ⟨k0, k1, k2⟩ := hk.c3
  clear ht hgr hk HX2
  go_wp2_with fail
  refine (HX3.out g _ HT2.out).mono ?_
  rintro e w6 ⟨rfl, ht, hgr⟩
  have HB3 := Lib.hid (grown_bl HB2.out hgr HGE.out)
  have hk := HK2.out.kept hgr (some_ne HNE.out)
  have HT3 := Lib.hid ht
  have HK3 := Lib.hid hk
  clear k0 k1 k2
  obtain ⟨k0, k1, k2⟩ := hk.c3
  clear ht hgr hk HX3
  go_wp2_with fail
  refine (HX4.out g _ HT3.out).mono ?_
  rintro e w7 ⟨rfl, ht, hgr⟩
  have HB4 := Lib.hid (grown_bl HB3.out hgr HGE.out)
  have hk := HK3.out.kept hgr (some_ne HNE.out)
  have HT4 := Lib.hid ht
  have HK4 := Lib.hid hk
  clear k0 k1 k2
  obtain ⟨k0, k1, k2⟩ := hk.c3
  clear ht hgr hk HX4
  go_wp2_with fail
  refine (HX5.out g _ HT4.out).mono ?_
  rintro e w8 ⟨rfl, ht, hgr⟩
  have HB5 := Lib.hid (grown_bl HB4.out hgr HGE.out)
  have hk := HK4.out.kept hgr (some_ne HNE.out)
  have HT5 := Lib.hid ht
  have HK5 := Lib.hid hk
  clear k0 k1 k2
  obtain ⟨k0, k1, k2⟩ := hk.c3
  clear ht hgr hk HX5
  go_wp2_with fail
  refine (HUS.out g _ HT5.out).mono ?_
  rintro e w11 ⟨rfl, hb⟩
  have HT6 := Lib.hid (HT5.out.below hb)
  have HB6 := Lib.hid (bt hb HB5.out)
  clear hb k0 k1 k2
  go_wp2_with fail
  refine (HRI.out g w11 HT6.out).mono ?_
  rintro e w12 ⟨rfl, hb⟩
  have HT7 := Lib.hid (HT6.out.below hb)
  have HB7 := Lib.hid (bt hb HB6.out)
  clear hb
  go_wp2_with fail
  refine (HBW.out g w12 HT7.out).mono ?_
  rintro e w13 ⟨rfl, hb⟩
  have HT8 := Lib.hid (HT7.out.below hb)
  have HB8 := Lib.hid (bt hb HB7.out)
  clear hb
  go_wp2_with fail
  refine (HFE.out g w13 HT8.out).mono ?_
  rintro e w14 ⟨rfl, hgr⟩
  have HB9 := Lib.hid (grown_bl HB8.out hgr HGE.out)
  clear hgr
  go_wp2
  go_ret
  exact ⟨ret_bool (by first | rfl | simp), HB9.out⟩
theorem awk15_any (H : PruneC) (w : World) : Calls Tryz.prog 8 #[] w fun e w' => e = .returned (.bool true) ∧ Below w.heap.size w w' := awake15_any H.ul H.rd H.rn H.fr H.bl w
end Go.Proofs.YtiimdmbalnhmmaaGreat
