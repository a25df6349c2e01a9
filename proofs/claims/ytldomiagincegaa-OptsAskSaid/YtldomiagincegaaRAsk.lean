/-
  What the reference's Value and Last answer of any options. The conditions: there are a million options, and letters, at most.
-/
import Derived.Test.YtldomiagincegaaRef
namespace Go.Proofs.Ytldomiagincegaa
open Go Go.RowKit

theorem one_has (x c : UInt8) : [x].contains c = (c == x) := by rw [List.contains_cons, List.contains_nil, Bool.or_false]
set_option maxHeartbeats 1000000 in
theorem rvalue_any (vF vR : Value) (ok : Bool) (fl : List Fl) (x : UInt8) (w : World) (hF : FlagsR w vF fl) (hR : ∃ A n c, vR = .slice A n c) (hn : fl.length ≤ 1000000) :
    Calls Try.prog 14 #[.agg #[vF, vR, .bool ok], .int .u8 (co x)] w fun e w' => e = .returned (.tuple #[.string (lv (lastF fl [x])).2, .bool (lastF fl [x]).isSome]) ∧ Below w.heap.size w w' := by
  obtain ⟨O, hO⟩ : ∃ O, lastF fl [x] = O := ⟨_, rfl⟩
  rw [hO]
  have HO := Lib.hid hO
  clear hO
  obtain ⟨AR, nR, cR, rfl⟩ := hR
  obtain ⟨A, c, rfl, hc⟩ := hF
  obtain ⟨W, hW⟩ : ∃ W, W = w.alloc (.cells #[.slice A fl.length c, .slice AR nR cR, .bool ok] 33) := ⟨_, rfl⟩
  have hb : Below w.heap.size w W := by rw [hW]; exact (Below.refl _ _).alloc (Nat.le_refl _) _
  have hB0 : Blk W w.heap.size 33 #[.slice A fl.length c, .slice AR nR cR, .bool ok] := by rw [hW]; exact Blk.new _ _ _
  have HC := Lib.hid hc
  have HB := Lib.hid hb
  have HW := Lib.hid hW
  have HB0 := Lib.hid hB0
  clear hW hb hB0 hc
  go_enter Try.func14, Try.ntmps14
  go_wp2
  go_loopg [6] fl.length (fun gh s6 wr => ((gh = 0 ∧ s6 = .int .i64 (-1)) ∨ ∃ j : Nat, gh = j + 1 ∧ j < fl.length ∧ s6 = .int .i64 j) ∧ noneF (fl.drop gh) [x] = true ∧ W = wr)
  case atStart =>
    refine ⟨?_, by rw [List.drop_length]; rfl, HW.out⟩
    rcases Nat.eq_zero_or_pos fl.length with h | h
    · exact .inl ⟨h, by rw [h]; rfl⟩
    · exact .inr ⟨fl.length - 1, by omega, by omega, by go_num⟩
  case round =>
    obtain ⟨hj, hno, rfl⟩ := hrel
    have HNO := Lib.hid hno
    clear hno
    have k0 := HB0.out.cell 0
    simp at k0
    rcases hj with ⟨rfl, rfl⟩ | ⟨j, rfl, hlt, rfl⟩
    · have HX := Lib.hid (show O = none by rw [← HO.out]; exact lastF_none (by have := HNO.out; rwa [List.drop_zero] at this))
      go_wp2
      go_ret2
      rw [HX.out]
      exact ⟨rfl, HB.out⟩
    · obtain ⟨f, hf⟩ : ∃ f, fl[j]? = some f := ⟨_, List.getElem?_eq_getElem hlt⟩
      obtain ⟨ad, rfl, c0, c1⟩ := HC.out j f hf
      have e0 := bc HB.out c0
      have e1 := bc HB.out c1
      have HFJ := Lib.hid hf
      clear hf c0 c1
      by_cases hcon : f.1 = x
      · have HX := Lib.hid (show O = some f by rw [← HO.out]; exact lastF_at HFJ.out (by rw [one_has, hcon]; simp) HNO.out)
        have hq : (co f.1 == co x) = true := by rw [hcon]; simp
        clear hcon
        go_wp2
        go_ret2
        rw [HX.out]
        exact ⟨rfl, HB.out⟩
      · have HX := Lib.hid (noneF_step HFJ.out (by rw [one_has]; simpa using hcon) HNO.out)
        have hq : (co f.1 == co x) = false := co_ne hcon
        clear hcon
        go_wp2
        go_roundg j
        case measure => omega
        case rel =>
          refine ⟨?_, HX.out, rfl⟩
          rcases Nat.eq_zero_or_pos j with h | h
          · exact .inl ⟨h, by rw [h]; rfl⟩
          · exact .inr ⟨j - 1, by omega, by omega, by go_num⟩
theorem lastF_snoc (fl : List Fl) (f : Fl) (ls : List UInt8) : lastF (fl ++ [f]) ls = if ls.contains f.1 = true then some f else lastF fl ls := by
  rw [lastF, List.reverse_append, List.reverse_singleton, List.singleton_append, List.find?_cons]
  split
  · rename_i h; rw [if_pos h]
  · rename_i h; rw [if_neg (by rw [h]; decide)]; rfl
theorem index_has (c : UInt8) : ∀ l : List UInt8, decide (0 ≤ Lib.indexByte l c) = l.contains c
  | [] => rfl
  | b :: l => by
    have := index_has c l
    have hb := index_bd c l
    rw [Lib.indexByte, List.contains_cons]
    cases he : (b == c) with
    | true =>
      have : (c == b) = true := by rw [beq_iff_eq] at he ⊢; exact he.symm
      rw [this]
      simp
    | false =>
      have h2 : (c == b) = false := by rw [beq_eq_false_iff_ne] at he ⊢; exact fun e => he e.symm
      rw [h2, Bool.false_or, ← this]
      simp only [Bool.false_eq_true, if_false]
      split
      · rename_i h
        rw [beq_iff_eq] at h
        rw [h]
      · rename_i h
        rw [beq_iff_eq] at h
        by_cases h0 : 0 ≤ Lib.indexByte l c
        · simp [h0]; omega
        · omega
set_option maxHeartbeats 1000000 in
theorem rlast_any (vF vR : Value) (ok : Bool) (fl : List Fl) (s : ByteArray) (w : World) (hF : FlagsR w vF fl) (hR : ∃ A n c, vR = .slice A n c) (hn : fl.length ≤ 1000000) (hs : s.size ≤ 1000000) :
    Calls Try.prog 17 #[.agg #[vF, vR, .bool ok], .string s] w fun e w' => e = .returned (.int .u8 (co (lv (lastF fl s.data.toList)).1)) ∧ Below w.heap.size w w' := by
  obtain ⟨O, hO⟩ : ∃ O, lastF fl s.data.toList = O := ⟨_, rfl⟩
  rw [hO]
  have HO := Lib.hid hO
  clear hO
  obtain ⟨AR, nR, cR, rfl⟩ := hR
  obtain ⟨A, c, rfl, hc⟩ := hF
  obtain ⟨W, hW⟩ : ∃ W, W = w.alloc (.cells #[.slice A fl.length c, .slice AR nR cR, .bool ok] 33) := ⟨_, rfl⟩
  have hb : Below w.heap.size w W := by rw [hW]; exact (Below.refl _ _).alloc (Nat.le_refl _) _
  have hB0 : Blk W w.heap.size 33 #[.slice A fl.length c, .slice AR nR cR, .bool ok] := by rw [hW]; exact Blk.new _ _ _
  have HC := Lib.hid hc
  have HB := Lib.hid hb
  have HW := Lib.hid hW
  have HB0 := Lib.hid hB0
  clear hW hb hB0 hc
  go_enter Try.func17, Try.ntmps17
  go_wp2
  go_loopg [5, 6] fl.length (fun gh s5 s6 wr => ∃ k : Nat, s6 = .int .i64 k ∧ k ≤ fl.length ∧ gh = fl.length - k ∧ s5 = .int .u8 (co (lv (lastF (fl.take k) s.data.toList)).1) ∧ W = wr)
  case atStart => exact ⟨0, rfl, Nat.zero_le _, rfl, rfl, HW.out⟩
  case round =>
    obtain ⟨k, rfl, hk, rfl, rfl, rfl⟩ := hrel
    have k0 := HB0.out.cell 0
    simp at k0
    by_cases hlt : k < fl.length
    · obtain ⟨f, hf⟩ : ∃ f, fl[k]? = some f := ⟨_, List.getElem?_eq_getElem hlt⟩
      obtain ⟨ad, rfl, c0, c1⟩ := HC.out k f hf
      have e0 := bc HB.out c0
      have HFJ := Lib.hid hf
      have HP := Lib.hid (place_any s f.1 W hs)
      have hih := index_has f.1 s.data.toList
      have hbd := index_bd f.1 s.data.toList
      rw [size_len] at hbd
      generalize Lib.indexByte s.data.toList f.1 = X at HP hih hbd
      have HIH := Lib.hid hih
      clear hf c0 c1 hih
      by_cases hx : 0 ≤ X
      · have HX := Lib.hid (show lastF (fl.take (k + 1)) s.data.toList = some f by
          rw [take_snoc' HFJ.out, lastF_snoc, if_pos (by rw [← HIH.out]; simpa using hx)])
        go_wp2_with fail
        refine HP.out.mono ?_
        rintro e w1 ⟨rfl, rfl⟩
        go_wp2
        go_roundg (fl.length - (k + 1))
        case measure => omega
        case rel => exact ⟨k + 1, by go_num, by omega, rfl, by rw [HX.out]; rfl, rfl⟩
      · have HX := Lib.hid (show lastF (fl.take (k + 1)) s.data.toList = lastF (fl.take k) s.data.toList by
          rw [take_snoc' HFJ.out, lastF_snoc, if_neg (by rw [← HIH.out]; simpa using hx)])
        go_wp2_with fail
        refine HP.out.mono ?_
        rintro e w1 ⟨rfl, rfl⟩
        go_wp2
        go_roundg (fl.length - (k + 1))
        case measure => omega
        case rel => exact ⟨k + 1, by go_num, by omega, rfl, by rw [HX.out], rfl⟩
    · have HX := Lib.hid (show lastF (fl.take k) s.data.toList = O by rw [← HO.out, List.take_of_length_le (by omega)])
      go_wp2
      go_ret
      rw [HX.out]
      exact ⟨rfl, HB.out⟩
end Go.Proofs.Ytldomiagincegaa
