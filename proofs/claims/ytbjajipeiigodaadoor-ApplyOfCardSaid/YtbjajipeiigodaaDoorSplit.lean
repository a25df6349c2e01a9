/-
  What strings.Split answers at the separator ',': the text's pieces, in one new block; for any text of a million bytes at most.
-/
import Derived.Test.YtbjajipeiigodaaDoorLeaf
import Derived.Test.YtbjajipeiigodaaDoorShelf
namespace Go.Proofs.YtbjajipeiigodaaDoor
open Go Go.RowKit

theorem isPrefix_one (b : UInt8) (l : List UInt8) : List.isPrefixOf [44] (b :: l) = (b == 44) := by
  rw [List.isPrefixOf]
  cases h : (b == 44) with
  | true => rw [beq_iff_eq] at h; subst h; simp [List.isPrefixOf]
  | false =>
    have : ((44 : UInt8) == b) = false := by
      rw [beq_eq_false_iff_ne] at h ⊢
      exact fun e => h e.symm
    rw [this]; rfl
theorem index_comma (l : List UInt8) : Lib.index l [44] = Lib.indexByte l 44 := by
  induction l with
  | nil => rfl
  | cons b l ih => rw [Lib.index, Lib.indexByte, ih, isPrefix_one]
theorem splitK_pieces (l : List UInt8) : ∀ k, l.count 44 = k → Lib.splitK [44] 0 k l = pieces l := by
  induction l with
  | nil => intro k h; subst h; rfl
  | cons c r ih =>
    intro k h
    by_cases hc : c = 44
    · subst hc
      rw [List.count_cons_self] at h
      subst h
      rw [Lib.splitK, Lib.index, isPrefix_one, pieces, if_pos rfl, ← ih _ rfl]
      rfl
    · rw [List.count_cons_of_ne hc] at h
      have hi := ih k h
      have hb : (c == 44) = false := by rw [beq_eq_false_iff_ne]; exact hc
      rw [pieces, if_neg hc, ← hi]
      cases k with
      | zero => rfl
      | succ k =>
        rw [Lib.splitK, Lib.splitK, Lib.index, isPrefix_one, hb]
        simp only [Bool.false_eq_true, if_false]
        by_cases hn : Lib.index r [44] = -1
        · rw [hn]; rfl
        · have hg := Lib.index_ge r [44]
          obtain ⟨i, hi⟩ : ∃ i : Nat, Lib.index r [44] = i := ⟨(Lib.index r [44]).toNat, by omega⟩
          have h1 : ((Lib.index r [44]) == -1) = false := by rw [beq_eq_false_iff_ne]; exact hn
          have h2 : ((Lib.index r [44] + 1) == -1) = false := by rw [beq_eq_false_iff_ne]; omega
          rw [h1]
          simp only [Bool.false_eq_true, if_false, h2]
          rw [hi]
          have h3 : ((i : Int) + 1).toNat = i + 1 := by omega
          have h4 : (i : Int).toNat = i := by omega
          rw [h3, h4]
          simp
def spl (s : ByteArray) : List ByteArray := Lib.splitB ⟨#[44]⟩ 0 (Lib.countB s ⟨#[44]⟩) s
theorem spl_pieces (s : ByteArray) : (spl s).map (·.data.toList) = pieces s.data.toList := by
  unfold spl
  rw [Lib.splitB_data]
  apply splitK_pieces
  rw [← Lib.count_one]
theorem spl_len (s : ByteArray) : (spl s).length = Lib.countB s ⟨#[44]⟩ + 1 := Lib.splitB_all _ (by decide) 0 _ s rfl
theorem index_call (x : ByteArray) (w : World) : Calls Tryd.prog 71 #[.string x, .string ⟨#[44]⟩] w fun e w' => e = .returned (.int .i64 (Lib.indexB x ⟨#[44]⟩)) ∧ w' = w :=
  (Tryd.strings_Index_one x 44 w).mono fun _ _ h => ⟨h.1.trans (ret_int (index_comma _).symm), h.2⟩
theorem count_call (x : ByteArray) (w : World) : Calls Tryd.prog 70 #[.string x, .string ⟨#[44]⟩] w fun e w' => e = .returned (.int .i64 (Lib.countB x ⟨#[44]⟩)) ∧ w' = w :=
  (Tryd.strings_Count_one x 44 w).mono fun _ _ h => ⟨h.1.trans (ret_int (by rw [Lib.countByte, ← Lib.count_one])), h.2⟩
theorem genSplit_call (s : ByteArray) (w : World) (hs : s.size ≤ 1000000) : Calls Tryd.prog 53 #[.string s, .string ⟨#[44]⟩, .int .i64 0, .int .i64 (-1)] w fun e w' =>
    e = .returned (.slice (some ⟨w.heap.size, 0, none⟩) (spl s).length (spl s).length) ∧ w' = w.alloc (.cells ((spl s).map Value.string).toArray 9) := by
  have hle := Lib.countB_le ⟨#[44]⟩ (by decide) s.size s (Nat.le_refl _)
  have c := Any.strings_genSplit_core Tryd.lays221 (by kernel_rfl) s ⟨#[44]⟩ 0 (-1) (Lib.countB s ⟨#[44]⟩ + 1) w (by omega) (by decide) (by decide) (fun x _ _ => index_call x _) (count_call s w) (by decide) (by decide) (by rw [if_pos (by decide)]; omega)
  rw [Nat.add_sub_cancel] at c
  have e2 : Lib.cellsOf (Lib.splitB ⟨#[44]⟩ 0 (Lib.countB s ⟨#[44]⟩) s) (Lib.countB s ⟨#[44]⟩ + 1) = ((spl s).map Value.string).toArray := by rw [← spl_len]; exact Lib.cellsOf_full _
  rw [e2] at c
  refine (show Calls Tryd.prog 53 _ w _ from c).mono fun _ _ h => ⟨h.1.trans ?_, h.2⟩
  rw [← spl_len]
  rfl
theorem split_call (s : ByteArray) (w : World) (hs : s.size ≤ 1000000) : Calls Tryd.prog 34 #[.string s, .string ⟨#[44]⟩] w fun e w' =>
    e = .returned (.slice (some ⟨w.heap.size, 0, none⟩) (spl s).length (spl s).length) ∧ w' = w.alloc (.cells ((spl s).map Value.string).toArray 9) := by
  have HC := Lib.hid (genSplit_call s w hs)
  clear hs
  go_enter Tryd.func34, Tryd.ntmps34
  go_wp2_with fail
  refine HC.out.mono ?_
  rintro e w' ⟨rfl, hw⟩
  rw [hw]
  go_wp2
  go_ret
  exact ⟨rfl, rfl⟩
/-- A piece is no longer than the text. -/
theorem piece_len (l : List UInt8) : ∀ p ∈ pieces l, p.length ≤ l.length := by
  induction l with
  | nil => intro p hp; simp [pieces] at hp; rw [hp]; exact Nat.le_refl _
  | cons c r ih =>
    intro p hp
    rw [pieces] at hp
    split at hp
    · rcases List.mem_cons.1 hp with rfl | hp
      · simp
      · have := ih p hp; simp; omega
    · cases h : pieces r with
      | nil => exact absurd h (pieces_ne r)
      | cons q qs =>
        rw [h] at hp ih
        rcases List.mem_cons.1 hp with rfl | hp
        · have := ih q (List.mem_cons_self ..); simp; omega
        · have := ih p (List.mem_cons_of_mem _ hp); simp; omega
theorem pieces_count (l : List UInt8) : (pieces l).length ≤ l.length + 1 := by
  induction l with
  | nil => simp [pieces]
  | cons c r ih =>
    rw [pieces]
    split
    · simp; omega
    · cases h : pieces r with
      | nil => simp
      | cons q qs => rw [h] at ih; simp at ih ⊢; omega
end Go.Proofs.YtbjajipeiigodaaDoor
