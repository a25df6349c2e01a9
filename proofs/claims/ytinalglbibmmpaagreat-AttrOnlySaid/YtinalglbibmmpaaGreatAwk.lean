/-
  The document's example of stage 13: awake. No condition.
-/
import Derived.Test.YtinalglbibmmpaaGreatACd
import Derived.Test.YtinalglbibmmpaaGreatAtX
import Derived.Lib.SlBytesConst
namespace Go.Proofs.YtinalglbibmmpaaGreat
open Go Go.RowKit
set_option maxRecDepth 100000

attribute [local go_sem] cell_off4 cell_blk4
theorem raws_of_row {w : World} {g : Nat} {t : TypeId} (ps : List (Rw × Value)) (n c : Nat) (hn : ps.length = n) (h : Blk w g t (rCells ps).toArray) (hd : ∀ q ∈ ps, BytesR w q.2 q.1.data) : RawsR w (.slice (some ⟨g, 0, none⟩) n c) (ps.map Prod.fst) := by
  subst hn
  refine ⟨some ⟨g, 0, none⟩, c, by rw [List.length_map], fun k r hk => ?_⟩
  rw [List.getElem?_map] at hk
  obtain ⟨q, hq, rfl⟩ := Option.map_eq_some_iff.1 hk
  have key : ∀ j u, j < 9 → (rwC q.1 q.2).toList[j]? = some u → w.cell? ⟨g, k * 9 + j, none⟩ = some u := fun j u hj hu => by
    rw [h.cell, List.getElem?_toArray, rCells_at ps k j q hq hj]; exact hu
  have e0 : (⟨g, 0, none⟩ : Addr).add (k * 9) = ⟨g, k * 9, none⟩ := add_lit _ _
  refine ⟨⟨g, 0, none⟩, q.2, rfl, ?_, ?_, hd q (List.mem_of_getElem? hq)⟩
  · rw [e0]; exact key 0 _ (by decide) rfl
  · rw [e0]
    exact ⟨key 1 _ (by decide) rfl, key 2 _ (by decide) rfl, key 3 _ (by decide) rfl, key 4 _ (by decide) rfl, key 5 _ (by decide) rfl, key 6 _ (by decide) rfl, key 7 _ (by decide) rfl, key 8 _ (by decide) rfl⟩
theorem bytes_two {w : World} {g : Nat} {a b : UInt8} (h0 : w.cell? ⟨g, 0, none⟩ = some (.int .u8 (co a))) (h1 : w.cell? ⟨g, 1, none⟩ = some (.int .u8 (co b))) : BytesR w (.slice (some ⟨g, 0, none⟩) 2 2) [a, b] := by
  refine ⟨_, 2, rfl, fun k e hk => ⟨_, rfl, ?_⟩⟩
  rw [add_lit]
  match k, hk with
  | 0, hk => have e : a = e := by simpa using hk
             rw [← e]; exact h0
  | 1, hk => have e : b = e := by simpa using hk
             rw [← e]; exact h1
  | k + 2, hk => simp at hk
def exRow (g : Nat) : List (Rw × Value) := [(ex0, .slice none 0 0), (ex1, .slice none 0 0), (ex2, .slice (some ⟨g, 0, none⟩) 2 2), (ex3, .slice none 0 0)]
theorem crr_nil (W : World) (c : Wh) (h : c.gs = []) : CrR W c none 0 0 := ⟨by rw [h]; exact IntsR.nil W, by rw [h]; decide⟩
def exT4 : List Nd := chmT exT3 whA [115] 4095
set_option maxHeartbeats 8000000 in
theorem awake13_any (w : World) :
    Calls Tryz.prog 6 #[] w fun e w' => e = .returned (.bool true) ∧ Below w.heap.size w w' := by
  have hcv := Lib.run_convert_bytes_const (P := Tryz.prog) w 52 5 #[.int .u8 104, .int .u8 105] 2 2 Tryz.underlying52 Tryz.underlying5
  have hb1 := ba w (.cells #[.int .u8 104, .int .u8 105] 5 (2, 3))
  have hk1 : BytesR (w.alloc (.cells #[.int .u8 104, .int .u8 105] 5 (2, 3))) (.slice (some ⟨w.heap.size, 0, none⟩) 2 2) [104, 105] := bytes_two ((cell_of_row _ _ 0 _ _ (2, 3) (heap_alloc_new w _)).trans rfl) ((cell_of_row _ _ 1 _ _ (2, 3) (heap_alloc_new w _)).trans rfl)
  have e1 : (w.alloc (.cells #[.int .u8 104, .int .u8 105] 5 (2, 3))).heap.size = w.heap.size + 1 := by simp
  obtain ⟨W1, hW1⟩ : ∃ W1, w.alloc (.cells #[.int .u8 104, .int .u8 105] 5 (2, 3)) = W1 := ⟨_, rfl⟩
  have hcv2 : (convert 52 52 (.slice (some ⟨w.heap.size, 0, none⟩) 2 2)).run Tryz.prog (w.alloc (.cells #[.int .u8 104, .int .u8 105] 5)) = .ok (.slice (some ⟨w.heap.size, 0, none⟩) 2 2) W1 := by rw [← hW1]; exact hcv
  rw [hW1] at hb1 hk1 e1
  clear hcv
  have hb2 := al hb1 (.cells (rCells (exRow w.heap.size)).toArray 67)
  have hr2 : RawsR (W1.alloc (.cells (rCells (exRow w.heap.size)).toArray 67)) (.slice (some ⟨W1.heap.size, 0, none⟩) 4 4) [ex0, ex1, ex2, ex3] := raws_of_row (exRow w.heap.size) 4 4 rfl (Blk.new W1 67 _) (fun q hq => by
    unfold exRow at hq
    simp only [List.mem_cons, List.not_mem_nil, or_false] at hq
    rcases hq with rfl | rfl | rfl | rfl
    · exact BytesR.nil _
    · exact BytesR.nil _
    · exact hk1.below (ba W1 _)
    · exact BytesR.nil _)
  have HC1 := Lib.hid (build_any 9 _ [ex0, ex1, ex2, ex3] _ hr2 ⟨fun r hr => by
    simp only [List.mem_cons, List.not_mem_nil, or_false] at hr
    rcases hr with rfl | rfl | rfl | rfl <;> exact ⟨by decide, by decide, by decide⟩, by decide⟩)
  rw [ex_all, e1] at HC1
  have HB2 := Lib.hid hb2
  have HX1 := Lib.hid (fun (g : Nat) (W : World) (h : TabR W g exT3 (fun _ => True)) => show Calls Tryz.prog 14 #[.pointer (some ⟨g, 0, none⟩), .agg #[.int .i64 1, .int .i64 1, .slice none 0 0], .string ⟨#[100, 47, 102]⟩, .int .i64 (-1), .int .i64 1, .bool true] W fun e w' => e = .returned (.int .i64 0) ∧ TabR w' g exT3 (fun _ => True) ∧ W.grownBy w' (some g) from by have h1 := chown_any g exT3 (fun _ => True) whA none 0 0 [100, 47, 102] (-1) 1 true W h ex_trx (crr_nil W whA rfl) (fun _ _ => trivial); rw [ex_chw1, ex_chw1T] at h1; exact h1)
  have HX2 := Lib.hid (fun (g : Nat) (W : World) (h : TabR W g exT3 (fun _ => True)) => show Calls Tryz.prog 14 #[.pointer (some ⟨g, 0, none⟩), .agg #[.int .i64 1, .int .i64 1, .slice none 0 0], .string ⟨#[100, 47, 102]⟩, .int .i64 2, .int .i64 (-1), .bool true] W fun e w' => e = .returned (.int .i64 1) ∧ TabR w' g exT3 (fun _ => True) ∧ W.grownBy w' (some g) from by have h1 := chown_any g exT3 (fun _ => True) whA none 0 0 [100, 47, 102] 2 (-1) true W h ex_trx (crr_nil W whA rfl) (fun _ _ => trivial); rw [chwT_err (by rw [ex_chw2]; decide), ex_chw2] at h1; exact h1)
  have HX3 := Lib.hid (fun (g : Nat) (W : World) (h : TabR W g exT3 (fun _ => True)) => show Calls Tryz.prog 11 #[.pointer (some ⟨g, 0, none⟩), .agg #[.int .i64 1, .int .i64 1, .slice none 0 0], .string ⟨#[115]⟩, .int .i64 4095] W fun e w' => e = .returned (.int .i64 0) ∧ TabR w' g exT4 (fun _ => True) ∧ W.grownBy w' (some g) from by have h1 := chmod_any g exT3 (fun _ => True) whA none 0 0 [115] 4095 W h ex_trx (crr_nil W whA rfl) (fun _ _ => trivial); rw [ex_chm3] at h1; exact h1)
  have HX4 := Lib.hid (fun (g : Nat) (W : World) (h : TabR W g exT4 (fun _ => True)) => show Calls Tryz.prog 19 #[.pointer (some ⟨g, 0, none⟩), .int .i64 3] W fun e w' => ∃ A1 n1 c1 A2 n2 c2, e = .returned (.tuple #[.agg #[.int .i64 1, .int .i64 4095, .int .i64 1, .int .i64 1, .slice A1 n1 c1, .slice A2 n2 c2, .string (bA [])], .bool true]) ∧ Below W.heap.size W w' from by
    have h1 := get_any (.pointer (some ⟨g, 0, none⟩)) exT4 3 W h.ptr
    have e1 : tget exT4 3 = ⟨1, 4095, 1, 1, [104, 105], [], []⟩ := ex_chm3T.1
    have e2 : tis exT4 3 = true := ex_chm3T.2
    rw [e1, e2] at h1
    refine h1.mono ?_
    rintro e w' ⟨vd, ve, rfl, hd, he, -, -, hb⟩
    obtain ⟨A1, c1, rfl⟩ := bytesT_form hd
    obtain ⟨A2, c2, rfl⟩ := entsT_form he
    exact ⟨_, _, _, _, _, _, rfl, hb⟩)
  generalize exT3 = T at HC1 HX1 HX2 HX3
  generalize exT4 = T4 at HX3 HX4
  have HE1 := Lib.hid e1
  clear hb1 hk1 hb2 hr2
  go_enter Tryz.func6, Tryz.ntmps6
  go_wp2_with fail
  clear hW1 hcv2
  refine HC1.out.mono ?_
  rintro e w2 ⟨⟨g, rfl, ht, hg⟩, hb⟩
  have HGE := Lib.hid (show w.heap.size ≤ g from Nat.le_trans HB2.out.size hg)
  have HNE := Lib.hid (show w2.heap.size ≠ g from Nat.ne_of_gt ht.lt)
  have HT3 := Lib.hid (ht.below (ba w2 (.cells #[.int .i64 1, .int .i64 1, .slice none 0 0] 25)))
  have hk2 := Blk.new w2 25 #[.int .i64 1, .int .i64 1, .slice none 0 0]
  have HB3 := Lib.hid (bt (al hb (.cells #[.int .i64 1, .int .i64 1, .slice none 0 0] 25)) HB2.out)
  have HK3 := Lib.hid hk2
  obtain ⟨k0, k1, k2⟩ := hk2.c3
  clear ht hb hk2 HC1 HB2 hg e1 HE1
  go_wp2_with fail
  refine (HX1.out g _ HT3.out).mono ?_
  rintro e w4 ⟨rfl, ht, hgr⟩
  have HB4 := Lib.hid (grown_bl HB3.out hgr HGE.out)
  have hk := HK3.out.kept hgr (some_ne HNE.out)
  have HT4 := Lib.hid ht
  have HK4 := Lib.hid hk
  clear k0 k1 k2
  obtain ⟨k0, k1, k2⟩ := hk.c3
  clear ht hgr hk
  go_wp2_with fail
  refine (HX2.out g _ HT4.out).mono ?_
  rintro e w5 ⟨rfl, ht, hgr⟩
  have HB5 := Lib.hid (grown_bl HB4.out hgr HGE.out)
  have hk := HK4.out.kept hgr (some_ne HNE.out)
  have HT5 := Lib.hid ht
  have HK5 := Lib.hid hk
  clear k0 k1 k2
  obtain ⟨k0, k1, k2⟩ := hk.c3
  clear ht hgr hk
  go_wp2_with fail
  refine (HX3.out g _ HT5.out).mono ?_
  rintro e w6 ⟨rfl, ht, hgr⟩
  have HB6 := Lib.hid (grown_bl HB5.out hgr HGE.out)
  have HT6 := Lib.hid ht
  clear k0 k1 k2 ht hgr
  go_wp2_with fail
  refine (HX4.out g _ HT6.out).mono ?_
  rintro e w7 ⟨A1, n1, c1, A2, n2, c2, rfl, hb⟩
  have hkn := Blk.new w7 55 #[.int .i64 1, .int .i64 4095, .int .i64 1, .int .i64 1, .slice A1 n1 c1, .slice A2 n2 c2, .string (bA [])]
  have HB7 := Lib.hid (bt (al hb (.cells #[.int .i64 1, .int .i64 4095, .int .i64 1, .int .i64 1, .slice A1 n1 c1, .slice A2 n2 c2, .string (bA [])] 55)) HB6.out)
  obtain ⟨p0, p1, p2, p3, p4, p5, p6⟩ := hkn.c7
  clear hb hkn
  go_wp2
  go_ret
  exact ⟨ret_bool (by first | rfl | simp), HB7.out⟩
end Go.Proofs.YtinalglbibmmpaaGreat
