/-
  The document's example of stage 12: awake. No condition.
-/
import Derived.Test.YtilepnepcamnaaaGreatLkT
import Derived.Test.YtilepnepcamnaaaGreatRsA
import Derived.Test.YtilepnepcamnaaaGreatRsB
import Derived.Test.YtilepnepcamnaaaGreatTelP
import Derived.Lib.SlBytesConst
namespace Go.Proofs.YtilepnepcamnaaaGreat
open Go Go.RowKit
set_option maxRecDepth 100000

attribute [local go_sem] cell_off4 cell_blk4
theorem raws_of_row {w : World} {g : Nat} {t : TypeId} (ps : List (Rw × Value)) (n c : Nat) (hn : ps.length = n) (h : Blk w g t (rCells ps).toArray) (hd : ∀ q ∈ ps, BytesR w q.2 q.1.data) : RawsR w (.slice (some ⟨g, 0, none⟩) n c) (ps.map Prod.fst) := by
  subst hn
  refine ⟨some ⟨g, 0, none⟩, c, by rw [List.length_map], fun k r hk => ?_⟩
  rw [List.getElem?_map] at hk
  obtain ⟨q, hq, rfl⟩ := Option.map_eq_some_iff.1 hk
  have key : ∀ j u, j < 9 → (rwC q.1 q.2).toList[j]? = some u → w.cell? ⟨g, k * 9 + j, none⟩ = some u := fun j u hj hu => by
    rw [h.cell, List.getElem?_toArray, rCells_at ps k j q hq hj]; exact hu
  have e0 : (⟨g, 0, none⟩ : Addr).add (k * 9) = ⟨g, k * 9, none⟩ := add_lit _ _
  refine ⟨⟨g, 0, none⟩, q.2, rfl, ?_, ?_, hd q (List.mem_of_getElem? hq)⟩
  · rw [e0]; exact key 0 _ (by decide) rfl
  · rw [e0]
    exact ⟨key 1 _ (by decide) rfl, key 2 _ (by decide) rfl, key 3 _ (by decide) rfl, key 4 _ (by decide) rfl, key 5 _ (by decide) rfl, key 6 _ (by decide) rfl, key 7 _ (by decide) rfl, key 8 _ (by decide) rfl⟩
theorem bytes_two {w : World} {g : Nat} {a b : UInt8} (h0 : w.cell? ⟨g, 0, none⟩ = some (.int .u8 (co a))) (h1 : w.cell? ⟨g, 1, none⟩ = some (.int .u8 (co b))) : BytesR w (.slice (some ⟨g, 0, none⟩) 2 2) [a, b] := by
  refine ⟨_, 2, rfl, fun k e hk => ⟨_, rfl, ?_⟩⟩
  rw [add_lit]
  match k, hk with
  | 0, hk => have e : a = e := by simpa using hk
             rw [← e]; exact h0
  | 1, hk => have e : b = e := by simpa using hk
             rw [← e]; exact h1
  | k + 2, hk => simp at hk
def exRow (g : Nat) : List (Rw × Value) := [(ex0, .slice none 0 0), (ex1, .slice none 0 0), (ex2, .slice (some ⟨g, 0, none⟩) 2 2), (ex3, .slice none 0 0)]
theorem crr_nil (W : World) (c : Wh) (h : c.gs = []) : CrR W c none 0 0 := ⟨by rw [h]; exact IntsR.nil W, by rw [h]; decide⟩
theorem strs_two {W : World} {g : Nat} {a b : ByteArray} (h : Blk W g 9 #[.string a, .string b]) : StrsR W (.slice (some ⟨g, 0, none⟩) 2 2) [a, b] := by
  refine ⟨_, 2, rfl, ⟨Nat.le_refl _, fun e => by cases e⟩, fun k s hk => ⟨_, rfl, ?_⟩⟩
  rw [add_lit, h.cell]
  match k, hk with
  | 0, hk => have e : a = s := by simpa using hk
             rw [← e]; rfl
  | 1, hk => have e : b = s := by simpa using hk
             rw [← e]; rfl
  | k + 2, hk => simp at hk
theorem ex_d : resM exT3 whA [100] false = (⟨1, [100], 2⟩, 0) := by
  have h1 : fitE exT3 [100] = 0 := by decide +kernel
  have h2 : splitP [100] = [[100]] := by decide +kernel
  have f1 : fnd (tget exT3 1).ents [100] = 2 := by decide +kernel
  unfold resM
  rw [if_neg (fun q => q h1), h2, wlk_last sr_A1 (by decide) (by decide) (by decide) (fun q => q.2.elim (fun q => by cases q) (fun q => q rfl)) rfl, f1]
def exS3 : Sta := ⟨3, 1, 420, 1, 1, 1, 2⟩
def exS4 : Sta := ⟨4, 3, 511, 0, 0, 1, 3⟩
theorem ex_t3 : staT exT3 3 = exS3 := rfl
theorem ex_t4 : staT exT3 4 = exS4 := rfl
theorem ex_stat : staM exT3 whA [115] true = (exS3, 0) := by
  unfold staM
  rw [ex_s, staF_good (R := (⟨2, [102], 3⟩, 0)) rfl (by decide), ex_t3]
theorem ex_lstat : staM exT3 whA [115] false = (exS4, 0) := by
  unfold staM
  rw [ex_n, staF_good (R := (⟨1, [115], 4⟩, 0)) rfl (by decide), ex_t4]
theorem ex_rd : rdlM exT3 whA [100] = ([], 22) := by
  refine rdl_kind (S := staT exT3 2) ?_ (by decide)
  unfold staM
  rw [ex_d, staF_good (R := (⟨1, [100], 2⟩, 0)) rfl (by decide)]
theorem ex_rs : rdlM exT3 whA [115] = ([100, 47, 102], 0) := rdl_good ex_lstat rfl
theorem ex_ls : lstM exT3 whA [47] = ([[100], [115]], 0) := by
  refine (lst_good (S := staT exT3 1) ?_ (by decide) (by decide +kernel)).trans rfl
  unfold staM
  rw [res_top (t := exT3) (by decide), staF_good (R := (⟨1, [], 1⟩, 0)) rfl (by decide)]
set_option maxHeartbeats 8000000 in
theorem awake12_any (w : World) :
    Calls Tryz.prog 8 #[] w fun e w' => e = .returned (.bool true) ∧ Below w.heap.size w w' := by
  have hcv := Lib.run_convert_bytes_const (P := Tryz.prog) w 63 5 #[.int .u8 104, .int .u8 105] 2 2 Tryz.underlying63 Tryz.underlying5
  have hb1 := ba w (.cells #[.int .u8 104, .int .u8 105] 5 (2, 3))
  have hk1 : BytesR (w.alloc (.cells #[.int .u8 104, .int .u8 105] 5 (2, 3))) (.slice (some ⟨w.heap.size, 0, none⟩) 2 2) [104, 105] := bytes_two ((cell_of_row _ _ 0 _ _ (2, 3) (heap_alloc_new w _)).trans rfl) ((cell_of_row _ _ 1 _ _ (2, 3) (heap_alloc_new w _)).trans rfl)
  have e1 : (w.alloc (.cells #[.int .u8 104, .int .u8 105] 5 (2, 3))).heap.size = w.heap.size + 1 := by simp
  obtain ⟨W1, hW1⟩ : ∃ W1, w.alloc (.cells #[.int .u8 104, .int .u8 105] 5 (2, 3)) = W1 := ⟨_, rfl⟩
  have hcv2 : (convert 63 63 (.slice (some ⟨w.heap.size, 0, none⟩) 2 2)).run Tryz.prog (w.alloc (.cells #[.int .u8 104, .int .u8 105] 5)) = .ok (.slice (some ⟨w.heap.size, 0, none⟩) 2 2) W1 := by rw [← hW1]; exact hcv
  rw [hW1] at hb1 hk1 e1
  clear hcv
  have hb2 := al hb1 (.cells (rCells (exRow w.heap.size)).toArray 65)
  have hr2 : RawsR (W1.alloc (.cells (rCells (exRow w.heap.size)).toArray 65)) (.slice (some ⟨W1.heap.size, 0, none⟩) 4 4) [ex0, ex1, ex2, ex3] := raws_of_row (exRow w.heap.size) 4 4 rfl (Blk.new W1 65 _) (fun q hq => by
    unfold exRow at hq
    simp only [List.mem_cons, List.not_mem_nil, or_false] at hq
    rcases hq with rfl | rfl | rfl | rfl
    · exact BytesR.nil _
    · exact BytesR.nil _
    · exact hk1.below (ba W1 _)
    · exact BytesR.nil _)
  have HC1 := Lib.hid (build_any 9 _ [ex0, ex1, ex2, ex3] _ hr2 ⟨fun r hr => by
    simp only [List.mem_cons, List.not_mem_nil, or_false] at hr
    rcases hr with rfl | rfl | rfl | rfl <;> exact ⟨by decide, by decide, by decide⟩, by decide⟩)
  rw [ex_all, e1] at HC1
  have HB2 := Lib.hid hb2
  have HX1 := Lib.hid (fun (v : Value) (W : World) (h : TabP W v exT3) => show Calls Tryz.prog 12 #[v, .agg #[.int .i64 1, .int .i64 1, .slice none 0 0], .string ⟨#[115]⟩] W fun e w' => e = .returned (.tuple #[.agg #[.int .i64 3, .int .i64 1, .int .i64 420, .int .i64 1, .int .i64 1, .int .i64 1, .int .i64 2], .int .i64 0]) ∧ Below W.heap.size W w' from stat_any v exT3 whA none 0 0 [115] W h (crr_nil W whA rfl) _ ex_stat)
  have HX2 := Lib.hid (fun (v : Value) (W : World) (h : TabP W v exT3) => show Calls Tryz.prog 15 #[v, .agg #[.int .i64 1, .int .i64 1, .slice none 0 0], .string ⟨#[115]⟩] W fun e w' => e = .returned (.tuple #[.agg #[.int .i64 4, .int .i64 3, .int .i64 511, .int .i64 0, .int .i64 0, .int .i64 1, .int .i64 3], .int .i64 0]) ∧ Below W.heap.size W w' from lstat_any v exT3 whA none 0 0 [115] W h (crr_nil W whA rfl) _ ex_lstat)
  have HX3 := Lib.hid (fun (v : Value) (W : World) (h : TabP W v exT3) => show Calls Tryz.prog 19 #[v, .agg #[.int .i64 1, .int .i64 1, .slice none 0 0], .string ⟨#[100]⟩] W fun e w' => e = .returned (.tuple #[.string ⟨#[]⟩, .int .i64 22]) ∧ Below W.heap.size W w' from readlink_any v exT3 whA none 0 0 [100] W h (crr_nil W whA rfl) _ ex_rd)
  have HX4 := Lib.hid (fun (v : Value) (W : World) (h : TabP W v exT3) => show Calls Tryz.prog 19 #[v, .agg #[.int .i64 1, .int .i64 1, .slice none 0 0], .string ⟨#[115]⟩] W fun e w' => e = .returned (.tuple #[.string ⟨#[100, 47, 102]⟩, .int .i64 0]) ∧ Below W.heap.size W w' from readlink_any v exT3 whA none 0 0 [115] W h (crr_nil W whA rfl) _ ex_rs)
  have HX5 := Lib.hid (fun (v : Value) (W : World) (h : TabP W v exT3) => show Calls Tryz.prog 21 #[v, .agg #[.int .i64 1, .int .i64 1, .slice none 0 0], .string ⟨#[47]⟩] W fun e w' => ∃ u, e = .returned (.tuple #[u, .int .i64 0]) ∧ StrsR w' u (nmA [[100], [115]]) ∧ Below W.heap.size W w' from list_any v exT3 whA none 0 0 [47] W h (crr_nil W whA rfl) _ ex_ls)
  generalize exT3 = T at HC1 HX1 HX2 HX3 HX4 HX5
  clear hb1 hk1 hb2 hr2
  go_enter Tryz.func8, Tryz.ntmps8
  go_wp2_with fail
  clear hW1 hcv2
  refine HC1.out.mono ?_
  rintro e w2 ⟨⟨g, rfl, ht, -⟩, hb⟩
  have hT2 := ht.ptr.below (ba w2 (.cells #[.int .i64 1, .int .i64 1, .slice none 0 0] 25))
  have hk2 := Blk.new w2 25 #[.int .i64 1, .int .i64 1, .slice none 0 0]
  have HB3 := Lib.hid (bt (al hb (.cells #[.int .i64 1, .int .i64 1, .slice none 0 0] 25)) HB2.out)
  have HT3 := Lib.hid hT2
  have HK3 := Lib.hid hk2
  clear ht hb hT2 hk2 HC1 HB2
  go_wp2_with fail
  refine (HX1.out _ _ HT3.out).mono ?_
  rintro e w4 ⟨rfl, hb⟩
  have hbx := al hb (.cells #[.int .i64 3, .int .i64 1, .int .i64 420, .int .i64 1, .int .i64 1, .int .i64 1, .int .i64 2] 35)
  have hT := HT3.out.below hbx
  have hK := HK3.out.below hbx
  have HT4 := Lib.hid hT
  have HK4 := Lib.hid hK
  have HB4 := Lib.hid (bt hbx HB3.out)
  have HF5_4 := Lib.hid (Blk.new w4 35 #[.int .i64 3, .int .i64 1, .int .i64 420, .int .i64 1, .int .i64 1, .int .i64 1, .int .i64 2])
  obtain ⟨k0, k1, k2⟩ := hK.c3
  clear hb hbx hT hK
  go_wp2_with fail
  refine (HX2.out _ _ HT4.out).mono ?_
  rintro e w5 ⟨rfl, hb⟩
  have hbx := al hb (.cells #[.int .i64 4, .int .i64 3, .int .i64 511, .int .i64 0, .int .i64 0, .int .i64 1, .int .i64 3] 35)
  have hT := HT4.out.below hbx
  have hK := HK4.out.below hbx
  have HT5 := Lib.hid hT
  have HK5 := Lib.hid hK
  have HB5 := Lib.hid (bt hbx HB4.out)
  have HF5_5 := Lib.hid (HF5_4.out.below hbx)
  have HF7_5 := Lib.hid (Blk.new w5 35 #[.int .i64 4, .int .i64 3, .int .i64 511, .int .i64 0, .int .i64 0, .int .i64 1, .int .i64 3])
  clear k0 k1 k2
  obtain ⟨k0, k1, k2⟩ := hK.c3
  clear hb hbx hT hK
  go_wp2_with fail
  refine (HX3.out _ _ HT5.out).mono ?_
  rintro e w6 ⟨rfl, hb⟩
  have hK := HK5.out.below hb
  have HT6 := Lib.hid (HT5.out.below hb)
  have HK6 := Lib.hid hK
  have HB6 := Lib.hid (bt hb HB5.out)
  have HF5_6 := Lib.hid (HF5_5.out.below hb)
  have HF7_6 := Lib.hid (HF7_5.out.below hb)
  clear k0 k1 k2
  obtain ⟨k0, k1, k2⟩ := hK.c3
  clear hb hK
  go_wp2_with fail
  refine (HX4.out _ _ HT6.out).mono ?_
  rintro e w7 ⟨rfl, hb⟩
  have hK := HK6.out.below hb
  have HT7 := Lib.hid (HT6.out.below hb)
  have HB7 := Lib.hid (bt hb HB6.out)
  have HF5_7 := Lib.hid (HF5_6.out.below hb)
  have HF7_7 := Lib.hid (HF7_6.out.below hb)
  clear k0 k1 k2
  obtain ⟨k0, k1, k2⟩ := hK.c3
  clear hb hK
  go_wp2_with fail
  refine (HX5.out _ _ HT7.out).mono ?_
  rintro e w8 ⟨u, rfl, hu, hb⟩
  have HB8 := Lib.hid (bt hb HB7.out)
  have hbz := ba w8 (.cells #[.string ⟨#[100]⟩, .string ⟨#[115]⟩] 9)
  have hu2 := hu.below hbz
  have hv2 : StrsR (w8.alloc (.cells #[.string ⟨#[100]⟩, .string ⟨#[115]⟩] 9)) (.slice (some ⟨w8.heap.size, 0, none⟩) 2 2) (nmA [[100], [115]]) := strs_two (Blk.new w8 9 #[.string ⟨#[100]⟩, .string ⟨#[115]⟩])
  have HSM := Lib.hid (strs_same u _ (nmA [[100], [115]]) _ hu2 hv2 (by decide))
  have HBZ := Lib.hid (bt hbz HB8.out)
  have h5 := HF5_7.out.below hb
  have h7 := HF7_7.out.below hb
  obtain ⟨a0, a1, a2, a3, a4, a5, a6⟩ := h5.c7
  obtain ⟨b0, b1, b2, b3, b4, b5, b6⟩ := h7.c7
  clear hb h5 h7 hu hu2 hv2 hbz k0 k1 k2
  go_wp2_with fail
  refine HSM.out.mono ?_
  rintro e w9 ⟨rfl, hb9⟩
  have HB9 := Lib.hid (bt hb9 HBZ.out)
  clear hb9
  go_wp2
  go_ret
  exact ⟨rfl, HB9.out⟩
end Go.Proofs.YtilepnepcamnaaaGreat
