/-
  The document's example of stage 10: awake. No condition.
-/
import Derived.Test.YtnecnnajngfooaaTelL
import Derived.Test.YtnecnnajngfooaaBldB
namespace Go.Proofs.Ytnecnnajngfooaa
open Go Go.RowKit
set_option maxRecDepth 100000

attribute [local go_sem] cell_off4 cell_blk4
theorem raws_of_blk {w : World} {g : Nat} {t : TypeId} (ps : List (Rw × Value)) (n c : Nat) (hn : ps.length = n) (h : Blk w g t (rCells ps).toArray) (hd : ∀ q ∈ ps, BytesR w q.2 q.1.data) : RawsR w (.slice (some ⟨g, 0, none⟩) n c) (ps.map Prod.fst) := by
  subst hn
  refine ⟨some ⟨g, 0, none⟩, c, by rw [List.length_map], fun k r hk => ?_⟩
  rw [List.getElem?_map] at hk
  obtain ⟨q, hq, rfl⟩ := Option.map_eq_some_iff.1 hk
  have key : ∀ j u, j < 9 → (rwC q.1 q.2).toList[j]? = some u → w.cell? ⟨g, k * 9 + j, none⟩ = some u := fun j u hj hu => by
    rw [h.cell, List.getElem?_toArray, rCells_at ps k j q hq hj]; exact hu
  have e0 : (⟨g, 0, none⟩ : Addr).add (k * 9) = ⟨g, k * 9, none⟩ := add_lit _ _
  refine ⟨⟨g, 0, none⟩, q.2, rfl, ?_, ?_, hd q (List.mem_of_getElem? hq)⟩
  · rw [e0]; exact key 0 _ (by decide) rfl
  · rw [e0]
    exact ⟨key 1 _ (by decide) rfl, key 2 _ (by decide) rfl, key 3 _ (by decide) rfl, key 4 _ (by decide) rfl, key 5 _ (by decide) rfl, key 6 _ (by decide) rfl, key 7 _ (by decide) rfl, key 8 _ (by decide) rfl⟩
def aw0 : Rw := ⟨2, 493, 0, 0, 0, [], [], [], 0⟩
def aw1 : Rw := ⟨1, 0, 0, 0, 1, [97], [], [], 0⟩
def aw2 : Rw := ⟨4, 0, 0, 0, 1, [98], [], [], 2⟩
def aw3 : Rw := ⟨2, 0, 0, 0, 0, [], [], [], 0⟩
def aw4 : Rw := ⟨1, 0, 0, 0, 2, [97], [], [], 0⟩
def awT1 : List Nd := [⟨2, 493, 0, 0, [], [], []⟩, Nd.zero, Nd.zero, Nd.zero, Nd.zero]
def awT2 : List Nd := [⟨2, 493, 0, 0, [], [([97], 2)], []⟩, ⟨1, 0, 0, 0, [], [], []⟩, Nd.zero, Nd.zero, Nd.zero]
def awT3 : List Nd := [⟨2, 493, 0, 0, [], [([97], 2), ([98], 2)], []⟩, ⟨1, 0, 0, 0, [], [], []⟩, Nd.zero, Nd.zero, Nd.zero]
theorem dir_right (m : Int) (h : 0 ≤ m ∧ m ≤ 4095) : rightP ⟨2, m, 0, 0, [], [], []⟩ :=
  ⟨⟨h, (show (0 : Int) ≤ 0 ∧ (0 : Int) ≤ 65535 by decide), (show (0 : Int) ≤ 0 ∧ (0 : Int) ≤ 65535 by decide)⟩, .inr (.inl ⟨rfl, rfl, rfl, (fun e he => by cases he), List.Pairwise.nil, Nat.zero_le _⟩)⟩
theorem file_right : rightP ⟨1, 0, 0, 0, [], [], []⟩ := ⟨⟨by decide, by decide, by decide⟩, .inl ⟨rfl, rfl, rfl, Nat.zero_le _⟩⟩
theorem aw_one : bldA 5 [aw0, aw1, aw2] = .good awT3 := by
  have h0 : rtE (newN 5) aw0 = 0 := rt_zero.2 ⟨rfl, rfl, rfl, dir_right 493 (by decide), by rw [new_free]; decide⟩
  have e0 : rtT (newN 5) aw0 = awT1 := rfl
  rw [bldA, if_pos h0, e0, bld]
  have k1 : enE awT1 aw1 = 0 := en_zero.2 (.inr ⟨by decide, file_right, by decide⟩)
  have i1 : enI awT1 aw1 = 2 := by unfold enI; rw [if_pos k1]; rfl
  have w1 : withE (tget awT1 1) [97] 2 = 0 := by decide
  have h1 : blE awT1 aw1 = 0 := bl_zero.2 ⟨rfl, k1, by rw [i1]; exact w1⟩
  have e1 : blT awT1 aw1 = awT2 := by
    unfold blT enT
    rw [if_pos k1, i1]
    rfl
  rw [if_pos h1, e1, bld]
  have k2 : enE awT2 aw2 = 0 := en_zero.2 (.inl ⟨rfl, rfl, by decide⟩)
  have i2 : enI awT2 aw2 = 2 := by unfold enI; rw [if_pos k2]; rfl
  have w2 : withE (tget awT2 1) [98] 2 = 0 := by decide
  have h2 : blE awT2 aw2 = 0 := bl_zero.2 ⟨rfl, k2, by rw [i2]; exact w2⟩
  have e2 : blT awT2 aw2 = awT3 := by
    unfold blT enT
    rw [if_pos k2, i2]
    rfl
  rw [if_pos h2, e2, bld]
theorem aw_two : bldA 5 [aw3, aw4] = .bad 1 2 := by
  have h0 : rtE (newN 5) aw3 = 0 := rt_zero.2 ⟨rfl, rfl, rfl, dir_right 0 (by decide), by rw [new_free]; decide⟩
  have h1 : blE (rtT (newN 5) aw3) aw4 = 2 := by
    unfold blE
    rw [if_pos (by rfl)]
  rw [bldA, if_pos h0, bld, if_neg (by rw [h1]; decide), h1]
theorem aw_facts : usedT awT3 = 2 ∧ linkT awT3 2 = 2 ∧ allT awT3 [] ∧ (tellL awT3).length = 3 := by
  have hr := tre_all_right (tre_all aw_one).1
  refine ⟨by decide, by decide, hr, ?_⟩
  unfold tellL
  rw [toB_true hr, if_pos rfl]
  rfl
set_option maxHeartbeats 8000000 in
theorem awake10_any (w : World) :
    Calls Try.prog 40 #[] w fun e w' => e = .returned (.bool true) ∧ Below w.heap.size w w' := by
  obtain ⟨f1, f2, f3, f4⟩ := aw_facts
  have HF := Lib.hid (show (usedT awT3 = 2 ∧ linkT awT3 2 = 2) ∧ (toB (allT awT3 []) = true ∧ (tellL awT3).length = 3) from ⟨⟨f1, f2⟩, toB_true f3, f4⟩)
  clear f1 f2 f3 f4
  have hb1 := ba w (.cells #[.int .i64 2, .int .i64 493, .int .i64 0, .int .i64 0, .int .i64 0, .string ⟨#[]⟩, .slice none 0 0, .string ⟨#[]⟩, .int .i64 0, .int .i64 1, .int .i64 0, .int .i64 0, .int .i64 0, .int .i64 1, .string ⟨#[97]⟩, .slice none 0 0, .string ⟨#[]⟩, .int .i64 0, .int .i64 4, .int .i64 0, .int .i64 0, .int .i64 0, .int .i64 1, .string ⟨#[98]⟩, .slice none 0 0, .string ⟨#[]⟩, .int .i64 2] 115)
  have hr1 := raws_of_blk [(aw0, .slice none 0 0), (aw1, .slice none 0 0), (aw2, .slice none 0 0)] 3 3 rfl (Blk.new w 115 #[.int .i64 2, .int .i64 493, .int .i64 0, .int .i64 0, .int .i64 0, .string ⟨#[]⟩, .slice none 0 0, .string ⟨#[]⟩, .int .i64 0, .int .i64 1, .int .i64 0, .int .i64 0, .int .i64 0, .int .i64 1, .string ⟨#[97]⟩, .slice none 0 0, .string ⟨#[]⟩, .int .i64 0, .int .i64 4, .int .i64 0, .int .i64 0, .int .i64 0, .int .i64 1, .string ⟨#[98]⟩, .slice none 0 0, .string ⟨#[]⟩, .int .i64 2]) (fun q hq => by
    simp only [List.mem_cons, List.not_mem_nil, or_false] at hq
    rcases hq with rfl | rfl | rfl <;> exact BytesR.nil _)
  have HC1 := Lib.hid (build_any 5 _ [aw0, aw1, aw2] _ hr1 ⟨fun r hr => by
    simp only [List.mem_cons, List.not_mem_nil, or_false] at hr
    rcases hr with rfl | rfl | rfl <;> exact ⟨by decide, by decide, by decide⟩, by decide⟩)
  have HC2 := Lib.hid (fun (W : World) => build_any 5 (.slice (some ⟨W.heap.size, 0, none⟩) 2 2) [aw3, aw4] (W.alloc (.cells #[.int .i64 2, .int .i64 0, .int .i64 0, .int .i64 0, .int .i64 0, .string ⟨#[]⟩, .slice none 0 0, .string ⟨#[]⟩, .int .i64 0, .int .i64 1, .int .i64 0, .int .i64 0, .int .i64 0, .int .i64 2, .string ⟨#[97]⟩, .slice none 0 0, .string ⟨#[]⟩, .int .i64 0] 115)) (raws_of_blk [(aw3, .slice none 0 0), (aw4, .slice none 0 0)] 2 2 rfl (Blk.new W 115 #[.int .i64 2, .int .i64 0, .int .i64 0, .int .i64 0, .int .i64 0, .string ⟨#[]⟩, .slice none 0 0, .string ⟨#[]⟩, .int .i64 0, .int .i64 1, .int .i64 0, .int .i64 0, .int .i64 0, .int .i64 2, .string ⟨#[97]⟩, .slice none 0 0, .string ⟨#[]⟩, .int .i64 0]) (fun q hq => by
    simp only [List.mem_cons, List.not_mem_nil, or_false] at hq
    rcases hq with rfl | rfl <;> exact BytesR.nil _)) ⟨fun r hr => by
    simp only [List.mem_cons, List.not_mem_nil, or_false] at hr
    rcases hr with rfl | rfl <;> exact ⟨by decide, by decide, by decide⟩, by decide⟩)
  rw [aw_one] at HC1
  rw [aw_two] at HC2
  have HB1 := Lib.hid hb1
  generalize awT3 = T at HC1 HF
  clear hr1 hb1
  go_enter Try.func40, Try.ntmps40
  go_wp2_with fail
  refine HC1.out.mono ?_
  rintro e w2 ⟨⟨g, rfl, ht, -⟩, hb2⟩
  have HT2 := Lib.hid ht.ptr
  have HB2 := Lib.hid (bt hb2 HB1.out)
  clear ht hb2 HC1 HB1
  go_wp2_with fail
  refine (HC2.out w2).mono ?_
  rintro e w3 ⟨⟨rfl, -⟩, hb3⟩
  have hb23 := bt hb3 (ba w2 _)
  have HT3 := Lib.hid (HT2.out.below hb23)
  have HB3 := Lib.hid (bt hb23 HB2.out)
  clear hb3 hb23 HC2 HT2 HB2
  go_wp2_with fail
  refine (used_any _ T w3 HT3.out).mono ?_
  rintro e w4 ⟨rfl, hb4⟩
  have HT4 := Lib.hid (HT3.out.below hb4)
  have HB4 := Lib.hid (bt hb4 HB3.out)
  clear hb4 HT3 HB3
  rw [HF.out.1.1]
  go_wp2_with fail
  refine (links_any _ T 2 w4 HT4.out).mono ?_
  rintro e w5 ⟨rfl, hb5⟩
  have HT5 := Lib.hid (HT4.out.below hb5)
  have HB5 := Lib.hid (bt hb5 HB4.out)
  clear hb5 HT4 HB4
  rw [HF.out.1.2]
  go_wp2_with fail
  refine (tright_any _ (.slice none 0 0) T [] w5 HT5.out (IntsR.nil _) (by decide)).mono ?_
  rintro e w6 ⟨rfl, hb6⟩
  have HT6 := Lib.hid (HT5.out.below hb6)
  have HB6 := Lib.hid (bt hb6 HB5.out)
  clear hb6 HT5 HB5
  rw [HF.out.2.1]
  go_wp2_with fail
  refine (tell_any _ T w6 HT6.out).mono ?_
  rintro e w7 ⟨⟨u, rfl, hu⟩, hb7⟩
  have HB7 := Lib.hid (bt hb7 HB6.out)
  obtain ⟨A, c, rfl⟩ := raws_form hu
  rw [HF.out.2.2]
  clear hu hb7 HT6 HB6
  go_wp2
  go_ret
  exact ⟨rfl, HB7.out⟩
end Go.Proofs.Ytnecnnajngfooaa
