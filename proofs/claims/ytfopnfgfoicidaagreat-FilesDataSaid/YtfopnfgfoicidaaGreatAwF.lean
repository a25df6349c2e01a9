/-
  The document's examples of stage 16: awake. The condition: what is said of package files' calls.
-/
import Derived.Test.YtfopnfgfoicidaaGreatFiC
import Derived.Test.YtfopnfgfoicidaaGreatFiX
import Derived.Test.YtfopnfgfoicidaaGreatRB
import Derived.Lib.SlBytesConst
namespace Go.Proofs.YtfopnfgfoicidaaGreat
open Go Go.RowKit
set_option maxRecDepth 100000

attribute [local go_sem] cell_off4 cell_blk4
theorem raws_row16 {w : World} {g : Nat} {t : TypeId} (ps : List (Rw × Value)) (n c : Nat) (hn : ps.length = n) (h : Blk w g t (rCells ps).toArray) (hd : ∀ q ∈ ps, BytesR w q.2 q.1.data) : RawsR w (.slice (some ⟨g, 0, none⟩) n c) (ps.map Prod.fst) := by
  subst hn
  refine ⟨some ⟨g, 0, none⟩, c, by rw [List.length_map], fun k r hk => ?_⟩
  rw [List.getElem?_map] at hk
  obtain ⟨q, hq, rfl⟩ := Option.map_eq_some_iff.1 hk
  have key : ∀ j u, j < 9 → (rwC q.1 q.2).toList[j]? = some u → w.cell? ⟨g, k * 9 + j, none⟩ = some u := fun j u hj hu => by
    rw [h.cell, List.getElem?_toArray, rCells_at ps k j q hq hj]; exact hu
  have e0 : (⟨g, 0, none⟩ : Addr).add (k * 9) = ⟨g, k * 9, none⟩ := add_lit _ _
  refine ⟨⟨g, 0, none⟩, q.2, rfl, ?_, ?_, hd q (List.mem_of_getElem? hq)⟩
  · rw [e0]; exact key 0 _ (by decide) rfl
  · rw [e0]
    exact ⟨key 1 _ (by decide) rfl, key 2 _ (by decide) rfl, key 3 _ (by decide) rfl, key 4 _ (by decide) rfl, key 5 _ (by decide) rfl, key 6 _ (by decide) rfl, key 7 _ (by decide) rfl, key 8 _ (by decide) rfl⟩
/-- A literal's bytes, marked. -/
theorem bytes_lit2 (w : World) (a b : UInt8) : BytesR (w.alloc (.cells #[.int .u8 (co a), .int .u8 (co b)] 5 (2, 3))) (.slice (some ⟨w.heap.size, 0, none⟩) 2 2) [a, b] := by
  refine ⟨_, 2, rfl, fun k e hk => ⟨_, rfl, ?_⟩⟩
  rw [add_lit]
  match k, hk with
  | 0, hk => have e : a = e := by simpa using hk
             rw [← e]; exact (cell_of_row _ _ 0 _ _ (2, 3) (heap_alloc_new w _)).trans rfl
  | 1, hk => have e : b = e := by simpa using hk
             rw [← e]; exact (cell_of_row _ _ 1 _ _ (2, 3) (heap_alloc_new w _)).trans rfl
  | k + 2, hk => simp at hk
theorem bytes_lit1 (w : World) (a : UInt8) : BytesR (w.alloc (.cells #[.int .u8 (co a)] 5 (1, 2))) (.slice (some ⟨w.heap.size, 0, none⟩) 1 1) [a] := by
  refine ⟨_, 1, rfl, fun k e hk => ⟨_, rfl, ?_⟩⟩
  rw [add_lit]
  match k, hk with
  | 0, hk => have e : a = e := by simpa using hk
             rw [← e]; exact (cell_of_row _ _ 0 _ _ (1, 2) (heap_alloc_new w _)).trans rfl
  | k + 1, hk => simp at hk
def fzRow (g : Nat) : List (Rw × Value) := [(fz0, .slice none 0 0), (fz1, .slice none 0 0), (fz2, .slice (some ⟨g, 0, none⟩) 2 2), (fz3, .slice none 0 0)]
set_option maxHeartbeats 8000000 in
theorem awk16_any (H : FilesC) (w : World) :
    Calls Tryz.prog 8 #[] w fun e w' => e = .returned (.bool true) ∧ Below w.heap.size w w' := by
  have hcv := Lib.run_convert_bytes_const (P := Tryz.prog) w 43 5 #[.int .u8 104, .int .u8 105] 2 2 Tryz.underlying43 Tryz.underlying5
  have hb1 := ba w (.cells #[.int .u8 104, .int .u8 105] 5 (2, 3))
  have hk1 : BytesR (w.alloc (.cells #[.int .u8 104, .int .u8 105] 5 (2, 3))) (.slice (some ⟨w.heap.size, 0, none⟩) 2 2) [104, 105] := bytes_lit2 w 104 105
  have e1 : (w.alloc (.cells #[.int .u8 104, .int .u8 105] 5 (2, 3))).heap.size = w.heap.size + 1 := by simp
  obtain ⟨W1, hW1⟩ : ∃ W1, w.alloc (.cells #[.int .u8 104, .int .u8 105] 5 (2, 3)) = W1 := ⟨_, rfl⟩
  have hcv2 : (convert 43 43 (.slice (some ⟨w.heap.size, 0, none⟩) 2 2)).run Tryz.prog (w.alloc (.cells #[.int .u8 104, .int .u8 105] 5)) = .ok (.slice (some ⟨w.heap.size, 0, none⟩) 2 2) W1 := by rw [← hW1]; exact hcv
  rw [hW1] at hb1 hk1 e1
  clear hcv
  have hb2 := al hb1 (.cells (rCells (fzRow w.heap.size)).toArray 72)
  have hr2 : RawsR (W1.alloc (.cells (rCells (fzRow w.heap.size)).toArray 72)) (.slice (some ⟨W1.heap.size, 0, none⟩) 4 4) [fz0, fz1, fz2, fz3] := raws_row16 (fzRow w.heap.size) 4 4 rfl (Blk.new W1 72 _) (fun q hq => by
    unfold fzRow at hq
    simp only [List.mem_cons, List.not_mem_nil, or_false] at hq
    rcases hq with rfl | rfl | rfl | rfl
    · exact BytesR.nil _
    · exact BytesR.nil _
    · exact hk1.below (ba W1 _)
    · exact BytesR.nil _)
  have HC1 := Lib.hid (build_any 9 _ [fz0, fz1, fz2, fz3] _ hr2 ⟨fun r hr => by
    simp only [List.mem_cons, List.not_mem_nil, or_false] at hr
    rcases hr with rfl | rfl | rfl | rfl <;> exact ⟨by decide, by decide, by decide⟩, by decide⟩)
  rw [fz_all, e1] at HC1
  have HB2 := Lib.hid hb2
  have HX1 := Lib.hid (fun (g : Nat) (W : World) (h : TabR W g (fzT [104, 105]) (fun _ => True)) => show Calls Tryz.prog 13 #[.pointer (some ⟨g, 0, none⟩), .agg #[.int .i64 1, .int .i64 1, .slice none 0 0], .int .i64 0, .string ⟨#[100, 47, 102]⟩, .int .i64 14, .int .i64 0] W fun e w' => e = .returned (.tuple #[.int .i64 0, .int .i64 17]) ∧ TabR w' g (fzT [104, 105]) (fun _ => True) ∧ W.grownBy w' (some g) from by
    have h1 := H.op g (fzT [104, 105]) (fun _ => True) whF none 0 0 0 [100, 47, 102] 14 0 W h fz_ok1 (fcr_none W whF rfl) (fun _ _ => trivial)
    obtain ⟨z1, z2⟩ := fo_err (t := fzT [104, 105]) (c := whF) (um := 0) (p := [100, 47, 102]) (fl := 14) (md := 0) (by rw [fz_1]; decide)
    rw [z1, z2, fz_1] at h1
    exact h1)
  have HX2 := Lib.hid (fun (g : Nat) (W : World) (h : TabR W g (fzT [104, 105]) (fun _ => True)) => show Calls Tryz.prog 13 #[.pointer (some ⟨g, 0, none⟩), .agg #[.int .i64 1, .int .i64 1, .slice none 0 0], .int .i64 0, .string ⟨#[115]⟩, .int .i64 19, .int .i64 0] W fun e w' => e = .returned (.tuple #[.int .i64 3, .int .i64 0]) ∧ TabR w' g (fzT []) (fun _ => True) ∧ W.grownBy w' (some g) from by
    have h1 := H.op g (fzT [104, 105]) (fun _ => True) whF none 0 0 0 [115] 19 0 W h fz_ok1 (fcr_none W whF rfl) (fun _ _ => trivial)
    rw [fz_2.1, fz_2.2.1, fz_2.2.2] at h1
    exact h1)
  have HX3 := Lib.hid (fun (g : Nat) (vb : Value) (W : World) (h : TabR W g (fzT []) (fun _ => True)) (hb : BytesR W vb [120]) => show Calls Tryz.prog 18 #[.pointer (some ⟨g, 0, none⟩), .agg #[.int .i64 1, .int .i64 1, .slice none 0 0], .int .i64 3, .int .i64 0, vb] W fun e w' => e = .returned (.int .i64 0) ∧ TabR w' g (fzT [120]) (fun _ => True) ∧ W.grownBy w' (some g) from by
    have h1 := H.wr g (fzT []) (fun _ => True) whF none 0 0 3 0 [120] vb W h fz_ok2 (fcr_none W whF rfl) hb (by decide) (fun _ _ => trivial)
    rw [fz_3.1, fz_3.2] at h1
    exact h1)
  have HX4 := Lib.hid (fun (g : Nat) (vb : Value) (W : World) (h : TabR W g (fzT [120]) (fun _ => True)) (hb : BytesR W vb [97, 98]) => show Calls Tryz.prog 18 #[.pointer (some ⟨g, 0, none⟩), .agg #[.int .i64 1, .int .i64 1, .slice none 0 0], .int .i64 3, .int .i64 2, vb] W fun e w' => e = .returned (.int .i64 0) ∧ TabR w' g (fzT [120, 0, 97, 98]) (fun _ => True) ∧ W.grownBy w' (some g) from by
    have h1 := H.wr g (fzT [120]) (fun _ => True) whF none 0 0 3 2 [97, 98] vb W h fz_ok3 (fcr_none W whF rfl) hb (by decide) (fun _ _ => trivial)
    rw [fz_4.1, fz_4.2] at h1
    exact h1)
  have HX5 := Lib.hid (fun (g : Nat) (W : World) (h : TabR W g (fzT [120, 0, 97, 98]) (fun _ => True)) => show Calls Tryz.prog 15 #[.pointer (some ⟨g, 0, none⟩), .int .i64 3, .int .i64 0, .int .i64 9] W fun e w' => ∃ A n c, e = .returned (.tuple #[.slice A n c, .int .i64 0]) ∧ BytesR w' (.slice A n c) [120, 0, 97, 98] ∧ Below W.heap.size W w' from by
    have h1 := H.rd (.pointer (some ⟨g, 0, none⟩)) (fzT [120, 0, 97, 98]) 3 0 9 W h.ptr fz_ok4
    rw [fz_5.1, fz_5.2] at h1
    refine h1.mono ?_
    rintro e w' ⟨vb, rfl, hd, hb⟩
    obtain ⟨A, c, rfl⟩ := bytesT_form hd
    exact ⟨_, _, _, rfl, hd.1, hb⟩)
  have HX6 := Lib.hid (fun (g : Nat) (W : World) (h : TabR W g (fzT [120, 0, 97, 98]) (fun _ => True)) => show Calls Tryz.prog 15 #[.pointer (some ⟨g, 0, none⟩), .int .i64 1, .int .i64 0, .int .i64 9] W fun e w' => ∃ vb, e = .returned (.tuple #[vb, .int .i64 9]) ∧ Below W.heap.size W w' from by
    have h1 := H.rd (.pointer (some ⟨g, 0, none⟩)) (fzT [120, 0, 97, 98]) 1 0 9 W h.ptr fz_ok4
    rw [fz_6.1] at h1
    refine h1.mono ?_
    rintro e w' ⟨vb, rfl, -, hb⟩
    exact ⟨_, rfl, hb⟩)
  generalize fzT [104, 105] = T at HC1 HX1 HX2
  generalize fzT [] = T1 at HX2 HX3
  generalize fzT [120] = T2 at HX3 HX4
  generalize fzT [120, 0, 97, 98] = T3 at HX4 HX5 HX6
  have HE1 := Lib.hid e1
  clear hb1 hk1 hb2 hr2 H
  go_enter Tryz.func8, Tryz.ntmps8
  go_wp2_with fail
  clear hW1 hcv2
  refine HC1.out.mono ?_
  rintro e w2 ⟨⟨g, rfl, ht, hg⟩, hb⟩
  have HGE := Lib.hid (show w.heap.size ≤ g from Nat.le_trans HB2.out.size hg)
  have HNE := Lib.hid (show w2.heap.size ≠ g from Nat.ne_of_gt ht.lt)
  have HT3 := Lib.hid (ht.below (ba w2 (.cells #[.int .i64 1, .int .i64 1, .slice none 0 0] 25)))
  have hk2 := Blk.new w2 25 #[.int .i64 1, .int .i64 1, .slice none 0 0]
  have HB3 := Lib.hid (bt (al hb (.cells #[.int .i64 1, .int .i64 1, .slice none 0 0] 25)) HB2.out)
  have HK3 := Lib.hid hk2
  obtain ⟨k0, k1, k2⟩ := hk2.c3
  clear ht hb hk2 HC1 HB2 hg e1 HE1
  go_wp2_with fail
  refine (HX1.out g _ HT3.out).mono ?_
  rintro e w4 ⟨rfl, ht, hgr⟩
  have HB4 := Lib.hid (grown_bl HB3.out hgr HGE.out)
  have hk := HK3.out.kept hgr (some_ne HNE.out)
  have HT4 := Lib.hid ht
  have HK4 := Lib.hid hk
  clear k0 k1 k2
  obtain ⟨k0, k1, k2⟩ := hk.c3
  clear ht hgr hk
  go_wp2_with fail
  refine (HX2.out g _ HT4.out).mono ?_
  rintro e w5 ⟨rfl, ht, hgr⟩
  have HB5 := Lib.hid (grown_bl HB4.out hgr HGE.out)
  have hk := HK4.out.kept hgr (some_ne HNE.out)
  have HT5 := Lib.hid ht
  have HK5 := Lib.hid hk
  clear k0 k1 k2
  obtain ⟨k0, k1, k2⟩ := hk.c3
  clear ht hgr hk
  have hb := ba w5 (.cells #[.int .u8 120] 5 (1, 2))
  have HL5 := Lib.hid (show BytesR (w5.alloc (.cells #[.int .u8 120] 5 (1, 2))) (.slice (some ⟨w5.heap.size, 0, none⟩) 1 1) [120] from bytes_lit1 w5 120)
  have HTL5 := Lib.hid (HT5.out.below hb)
  have HKL5 := Lib.hid (HK5.out.below hb)
  have HBL5 := Lib.hid (bt hb HB5.out)
  have hcv := Lib.run_convert_bytes_const (P := Tryz.prog) w5 43 5 #[.int .u8 120] 1 1 Tryz.underlying43 Tryz.underlying5
  obtain ⟨V5, hV5⟩ : ∃ V, w5.alloc (.cells #[.int .u8 120] 5 (1, 2)) = V := ⟨_, rfl⟩
  have hcv2 : (convert 43 43 (.slice (some ⟨w5.heap.size, 0, none⟩) 1 1)).run Tryz.prog (w5.alloc (.cells #[.int .u8 120] 5)) = .ok (.slice (some ⟨w5.heap.size, 0, none⟩) 1 1) V5 := by rw [← hV5]; exact hcv
  clear hcv
  rw [hV5] at HL5 HTL5 HKL5 HBL5
  clear hb hV5
  go_wp2_with fail
  clear hcv2
  refine (HX3.out g _ V5 HTL5.out HL5.out).mono ?_
  rintro e w6 ⟨rfl, ht, hgr⟩
  have HB6 := Lib.hid (grown_bl HBL5.out hgr HGE.out)
  have hk := HKL5.out.kept hgr (some_ne HNE.out)
  have HT6 := Lib.hid ht
  have HK6 := Lib.hid hk
  clear k0 k1 k2
  obtain ⟨k0, k1, k2⟩ := hk.c3
  clear ht hgr hk HL5 HTL5 HKL5 HBL5
  have hb := ba w6 (.cells #[.int .u8 97, .int .u8 98] 5 (2, 3))
  have HL6 := Lib.hid (show BytesR (w6.alloc (.cells #[.int .u8 97, .int .u8 98] 5 (2, 3))) (.slice (some ⟨w6.heap.size, 0, none⟩) 2 2) [97, 98] from bytes_lit2 w6 97 98)
  have HTL6 := Lib.hid (HT6.out.below hb)
  have HKL6 := Lib.hid (HK6.out.below hb)
  have HBL6 := Lib.hid (bt hb HB6.out)
  have hcv := Lib.run_convert_bytes_const (P := Tryz.prog) w6 43 5 #[.int .u8 97, .int .u8 98] 2 2 Tryz.underlying43 Tryz.underlying5
  obtain ⟨V6, hV6⟩ : ∃ V, w6.alloc (.cells #[.int .u8 97, .int .u8 98] 5 (2, 3)) = V := ⟨_, rfl⟩
  have hcv2 : (convert 43 43 (.slice (some ⟨w6.heap.size, 0, none⟩) 2 2)).run Tryz.prog (w6.alloc (.cells #[.int .u8 97, .int .u8 98] 5)) = .ok (.slice (some ⟨w6.heap.size, 0, none⟩) 2 2) V6 := by rw [← hV6]; exact hcv
  clear hcv
  rw [hV6] at HL6 HTL6 HKL6 HBL6
  clear hb hV6
  go_wp2_with fail
  clear hcv2
  refine (HX4.out g _ V6 HTL6.out HL6.out).mono ?_
  rintro e w7 ⟨rfl, ht, hgr⟩
  have HB7 := Lib.hid (grown_bl HBL6.out hgr HGE.out)
  have hk := HKL6.out.kept hgr (some_ne HNE.out)
  have HT7 := Lib.hid ht
  have HK7 := Lib.hid hk
  clear k0 k1 k2
  obtain ⟨k0, k1, k2⟩ := hk.c3
  clear ht hgr hk HL6 HTL6 HKL6 HBL6
  go_wp2_with fail
  refine (HX5.out g _ HT7.out).mono ?_
  rintro e w8 ⟨A, n, c, rfl, hd, hb⟩
  have HD8 := Lib.hid hd
  have HT8 := Lib.hid (HT7.out.below hb)
  have HB8 := Lib.hid (bt hb HB7.out)
  clear hd hb k0 k1 k2
  go_wp2_with fail
  refine (HX6.out g _ HT8.out).mono ?_
  rintro e w9 ⟨vb, rfl, hb⟩
  have hd := HD8.out.below hb
  obtain ⟨A', c', hv⟩ := bytes_form hd rfl
  injection hv with v1 v2 v3
  subst v1 v2 v3
  have hcv : (convert 43 9 (.slice A 4 c)).run Tryz.prog w9 = .ok (.string (bA [120, 0, 97, 98])) w9 := bytes_back hd
  have HB9 := Lib.hid (bt hb HB8.out)
  have y1 : ((bA [120, 0, 97, 98]).toList == [120, 0, 97, 98]) = true := by rw [bA_list]; rfl
  clear hb hd
  go_wp2
  go_ret
  exact ⟨ret_bool (by first | rfl | simp), HB9.out⟩
end Go.Proofs.YtfopnfgfoicidaaGreat
