/-
  The document's example of stage 11: awake. No condition.
-/
import Derived.Test.YtnecnnajngfooaaGreatRsA
import Derived.Test.YtnecnnajngfooaaGreatRsB
import Derived.Test.YtnecnnajngfooaaGreatTelP
import Derived.Lib.SlBytesConst
namespace Go.Proofs.YtnecnnajngfooaaGreat
open Go Go.RowKit
set_option maxRecDepth 100000

attribute [local go_sem] cell_off4 cell_blk4
theorem raws_of_row {w : World} {g : Nat} {t : TypeId} (ps : List (Rw × Value)) (n c : Nat) (hn : ps.length = n) (h : Blk w g t (rCells ps).toArray) (hd : ∀ q ∈ ps, BytesR w q.2 q.1.data) : RawsR w (.slice (some ⟨g, 0, none⟩) n c) (ps.map Prod.fst) := by
  subst hn
  refine ⟨some ⟨g, 0, none⟩, c, by rw [List.length_map], fun k r hk => ?_⟩
  rw [List.getElem?_map] at hk
  obtain ⟨q, hq, rfl⟩ := Option.map_eq_some_iff.1 hk
  have key : ∀ j u, j < 9 → (rwC q.1 q.2).toList[j]? = some u → w.cell? ⟨g, k * 9 + j, none⟩ = some u := fun j u hj hu => by
    rw [h.cell, List.getElem?_toArray, rCells_at ps k j q hq hj]; exact hu
  have e0 : (⟨g, 0, none⟩ : Addr).add (k * 9) = ⟨g, k * 9, none⟩ := add_lit _ _
  refine ⟨⟨g, 0, none⟩, q.2, rfl, ?_, ?_, hd q (List.mem_of_getElem? hq)⟩
  · rw [e0]; exact key 0 _ (by decide) rfl
  · rw [e0]
    exact ⟨key 1 _ (by decide) rfl, key 2 _ (by decide) rfl, key 3 _ (by decide) rfl, key 4 _ (by decide) rfl, key 5 _ (by decide) rfl, key 6 _ (by decide) rfl, key 7 _ (by decide) rfl, key 8 _ (by decide) rfl⟩
theorem bytes_two {w : World} {g : Nat} {a b : UInt8} (h0 : w.cell? ⟨g, 0, none⟩ = some (.int .u8 (co a))) (h1 : w.cell? ⟨g, 1, none⟩ = some (.int .u8 (co b))) : BytesR w (.slice (some ⟨g, 0, none⟩) 2 2) [a, b] := by
  refine ⟨_, 2, rfl, fun k e hk => ⟨_, rfl, ?_⟩⟩
  rw [add_lit]
  match k, hk with
  | 0, hk => have e : a = e := by simpa using hk
             rw [← e]; exact h0
  | 1, hk => have e : b = e := by simpa using hk
             rw [← e]; exact h1
  | k + 2, hk => simp at hk
def exRow (g : Nat) : List (Rw × Value) := [(ex0, .slice none 0 0), (ex1, .slice none 0 0), (ex2, .slice (some ⟨g, 0, none⟩) 2 2), (ex3, .slice none 0 0)]
theorem crr_nil (W : World) (c : Wh) (h : c.gs = []) : CrR W c none 0 0 := ⟨by rw [h]; exact IntsR.nil W, by rw [h]; decide⟩
set_option maxHeartbeats 8000000 in
theorem awake11_any (w : World) :
    Calls Tryz.prog 5 #[] w fun e w' => e = .returned (.bool true) ∧ Below w.heap.size w w' := by
  have hcv := Lib.run_convert_bytes_const (P := Tryz.prog) w 50 5 #[.int .u8 104, .int .u8 105] 2 2 Tryz.underlying50 Tryz.underlying5
  have hb1 := ba w (.cells #[.int .u8 104, .int .u8 105] 5 (2, 3))
  have hk1 : BytesR (w.alloc (.cells #[.int .u8 104, .int .u8 105] 5 (2, 3))) (.slice (some ⟨w.heap.size, 0, none⟩) 2 2) [104, 105] := bytes_two ((cell_of_row _ _ 0 _ _ (2, 3) (heap_alloc_new w _)).trans rfl) ((cell_of_row _ _ 1 _ _ (2, 3) (heap_alloc_new w _)).trans rfl)
  have e1 : (w.alloc (.cells #[.int .u8 104, .int .u8 105] 5 (2, 3))).heap.size = w.heap.size + 1 := by simp
  obtain ⟨W1, hW1⟩ : ∃ W1, w.alloc (.cells #[.int .u8 104, .int .u8 105] 5 (2, 3)) = W1 := ⟨_, rfl⟩
  have hcv2 : (convert 50 50 (.slice (some ⟨w.heap.size, 0, none⟩) 2 2)).run Tryz.prog (w.alloc (.cells #[.int .u8 104, .int .u8 105] 5)) = .ok (.slice (some ⟨w.heap.size, 0, none⟩) 2 2) W1 := by rw [← hW1]; exact hcv
  rw [hW1] at hb1 hk1 e1
  clear hcv
  have hb2 := al hb1 (.cells (rCells (exRow w.heap.size)).toArray 52)
  have hr2 : RawsR (W1.alloc (.cells (rCells (exRow w.heap.size)).toArray 52)) (.slice (some ⟨W1.heap.size, 0, none⟩) 4 4) [ex0, ex1, ex2, ex3] := raws_of_row (exRow w.heap.size) 4 4 rfl (Blk.new W1 52 _) (fun q hq => by
    unfold exRow at hq
    simp only [List.mem_cons, List.not_mem_nil, or_false] at hq
    rcases hq with rfl | rfl | rfl | rfl
    · exact BytesR.nil _
    · exact BytesR.nil _
    · exact hk1.below (ba W1 _)
    · exact BytesR.nil _)
  have HC1 := Lib.hid (build_any 9 _ [ex0, ex1, ex2, ex3] _ hr2 ⟨fun r hr => by
    simp only [List.mem_cons, List.not_mem_nil, or_false] at hr
    rcases hr with rfl | rfl | rfl | rfl <;> exact ⟨by decide, by decide, by decide⟩, by decide⟩)
  rw [ex_all, e1] at HC1
  have HB2 := Lib.hid hb2
  have HX1 := Lib.hid (fun (v : Value) (W : World) (h : TabP W v exT3) => show Calls Tryz.prog 7 #[v, .agg #[.int .i64 1, .int .i64 1, .slice none 0 0], .string ⟨#[115]⟩, .bool true] W fun e w' => e = .returned (.tuple #[.agg #[.int .i64 2, .string ⟨#[102]⟩, .int .i64 3], .int .i64 0]) ∧ Below W.heap.size W w' from resolve_any v exT3 whA none 0 0 [115] true W h (crr_nil W whA rfl) _ ex_s)
  have HX2 := Lib.hid (fun (v : Value) (W : World) (h : TabP W v exT3) => show Calls Tryz.prog 7 #[v, .agg #[.int .i64 1, .int .i64 1, .slice none 0 0], .string ⟨#[115]⟩, .bool false] W fun e w' => e = .returned (.tuple #[.agg #[.int .i64 1, .string ⟨#[115]⟩, .int .i64 4], .int .i64 0]) ∧ Below W.heap.size W w' from resolve_any v exT3 whA none 0 0 [115] false W h (crr_nil W whA rfl) _ ex_n)
  have HX3 := Lib.hid (fun (v : Value) (W : World) (h : TabP W v exT3) => show Calls Tryz.prog 7 #[v, .agg #[.int .i64 1, .int .i64 1, .slice none 0 0], .string ⟨#[100, 47, 120]⟩, .bool true] W fun e w' => e = .returned (.tuple #[.agg #[.int .i64 2, .string ⟨#[120]⟩, .int .i64 0], .int .i64 0]) ∧ Below W.heap.size W w' from resolve_any v exT3 whA none 0 0 [100, 47, 120] true W h (crr_nil W whA rfl) _ ex_x)
  have HX4 := Lib.hid (fun (v : Value) (W : World) (h : TabP W v exT3) => show Calls Tryz.prog 7 #[v, .agg #[.int .i64 3, .int .i64 3, .slice none 0 0], .string ⟨#[100, 47, 102]⟩, .bool true] W fun e w' => e = .returned (.tuple #[.agg #[.int .i64 0, .string ⟨#[]⟩, .int .i64 0], .int .i64 13]) ∧ Below W.heap.size W w' from resolve_any v exT3 whB none 0 0 [100, 47, 102] true W h (crr_nil W whB rfl) _ ex_e)
  have HX5 := Lib.hid (fun (v : Value) (W : World) (h : TabP W v exT3) => show Calls Tryz.prog 11 #[v, .agg #[.int .i64 1, .int .i64 1, .slice none 0 0], .int .i64 3, .int .i64 6] W fun e w' => e = .returned (.bool true) ∧ Below W.heap.size W w' from by have h1 := rescan_any v exT3 whA none 0 0 3 6 W h (crr_nil W whA rfl); rw [ex_c.1] at h1; exact h1)
  have HX6 := Lib.hid (fun (v : Value) (W : World) (h : TabP W v exT3) => show Calls Tryz.prog 11 #[v, .agg #[.int .i64 1, .int .i64 1, .slice none 0 0], .int .i64 3, .int .i64 1] W fun e w' => e = .returned (.bool false) ∧ Below W.heap.size W w' from by have h1 := rescan_any v exT3 whA none 0 0 3 1 W h (crr_nil W whA rfl); rw [ex_c.2] at h1; exact h1)
  generalize exT3 = T at HC1 HX1 HX2 HX3 HX4 HX5 HX6
  clear hb1 hk1 hb2 hr2
  go_enter Tryz.func5, Tryz.ntmps5
  go_wp2_with fail
  clear hW1 hcv2
  refine HC1.out.mono ?_
  rintro e w2 ⟨⟨g, rfl, ht, -⟩, hb⟩
  have hT2 := ht.ptr.below (ba w2 (.cells #[.int .i64 1, .int .i64 1, .slice none 0 0] 25))
  have hk2 := Blk.new w2 25 #[.int .i64 1, .int .i64 1, .slice none 0 0]
  have HB3 := Lib.hid (bt (al hb (.cells #[.int .i64 1, .int .i64 1, .slice none 0 0] 25)) HB2.out)
  have HT3 := Lib.hid hT2
  have HK3 := Lib.hid hk2
  clear ht hb hT2 hk2 HC1 HB2
  go_wp2_with fail
  refine (HX1.out _ _ HT3.out).mono ?_
  rintro e w4 ⟨rfl, hb⟩
  have hbx := al hb (.cells #[.int .i64 2, .string ⟨#[102]⟩, .int .i64 3] 31)
  have hT := HT3.out.below hbx
  have hK := HK3.out.below hbx
  have HT4 := Lib.hid hT
  have HK4 := Lib.hid hK
  have HB4 := Lib.hid (bt hbx HB3.out)
  have HF5_4 := Lib.hid (Blk.new w4 31 #[.int .i64 2, .string ⟨#[102]⟩, .int .i64 3])
  obtain ⟨k0, k1, k2⟩ := hK.c3
  clear hb hbx hT hK
  go_wp2_with fail
  refine (HX2.out _ _ HT4.out).mono ?_
  rintro e w5 ⟨rfl, hb⟩
  have hbx := al hb (.cells #[.int .i64 1, .string ⟨#[115]⟩, .int .i64 4] 31)
  have hT := HT4.out.below hbx
  have hK := HK4.out.below hbx
  have HT5 := Lib.hid hT
  have HK5 := Lib.hid hK
  have HB5 := Lib.hid (bt hbx HB4.out)
  have HF5_5 := Lib.hid (HF5_4.out.below hbx)
  have HF7_5 := Lib.hid (Blk.new w5 31 #[.int .i64 1, .string ⟨#[115]⟩, .int .i64 4])
  clear k0 k1 k2
  obtain ⟨k0, k1, k2⟩ := hK.c3
  clear hb hbx hT hK
  go_wp2_with fail
  refine (HX3.out _ _ HT5.out).mono ?_
  rintro e w6 ⟨rfl, hb⟩
  have hbx := al hb (.cells #[.int .i64 2, .string ⟨#[120]⟩, .int .i64 0] 31)
  have hT := HT5.out.below hbx
  have hK := HK5.out.below hbx
  have HT6 := Lib.hid hT
  have HK6 := Lib.hid hK
  have HB6 := Lib.hid (bt hbx HB5.out)
  have HF5_6 := Lib.hid (HF5_5.out.below hbx)
  have HF7_6 := Lib.hid (HF7_5.out.below hbx)
  have HF9_6 := Lib.hid (Blk.new w6 31 #[.int .i64 2, .string ⟨#[120]⟩, .int .i64 0])
  clear k0 k1 k2
  obtain ⟨k0, k1, k2⟩ := hK.c3
  clear hb hbx hT hK
  go_wp2_with fail
  refine (HX4.out _ _ HT6.out).mono ?_
  rintro e w7 ⟨rfl, hb⟩
  have hbx := al hb (.cells #[.int .i64 0, .string ⟨#[]⟩, .int .i64 0] 31)
  have hT := HT6.out.below hbx
  have hK := HK6.out.below hbx
  have HT7 := Lib.hid hT
  have HK7 := Lib.hid hK
  have HB7 := Lib.hid (bt hbx HB6.out)
  have HF5_7 := Lib.hid (HF5_6.out.below hbx)
  have HF7_7 := Lib.hid (HF7_6.out.below hbx)
  have HF9_7 := Lib.hid (HF9_6.out.below hbx)
  have HF11_7 := Lib.hid (Blk.new w7 31 #[.int .i64 0, .string ⟨#[]⟩, .int .i64 0])
  clear k0 k1 k2
  obtain ⟨k0, k1, k2⟩ := hK.c3
  clear hb hbx hT hK
  obtain ⟨b50, b51, b52⟩ := HF5_7.out.c3
  obtain ⟨b70, b71, b72⟩ := HF7_7.out.c3
  obtain ⟨b90, b91, b92⟩ := HF9_7.out.c3
  go_wp2_with fail
  refine (HX5.out _ _ HT7.out).mono ?_
  rintro e w8 ⟨rfl, hb⟩
  have hT := HT7.out.below hb
  have hK := HK7.out.below hb
  have HT8 := Lib.hid hT
  have HB8 := Lib.hid (bt hb HB7.out)
  clear k0 k1 k2
  obtain ⟨k0, k1, k2⟩ := hK.c3
  clear hb hT hK
  go_wp2_with fail
  refine (HX6.out _ _ HT8.out).mono ?_
  rintro e w9 ⟨rfl, hb⟩
  have HB9 := Lib.hid (bt hb HB8.out)
  clear hb
  go_wp2
  go_ret
  exact ⟨rfl, HB9.out⟩
end Go.Proofs.YtnecnnajngfooaaGreat
