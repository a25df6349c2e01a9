/-
  What strings.Cut answers at the separator ':', and what owner.Parse answers of any text. The only condition is that a text has a million bytes at most.
-/
import Derived.Test.YtkbdlmmpeieaeaaDoorRef
import Derived.Test.YtkbdlmmpeieaeaaDoorShelf
import Derived.Deep.Draws
namespace Go.Proofs.YtkbdlmmpeieaeaaDoor
open Go Go.RowKit

theorem index_col (l : List UInt8) : Lib.indexByte l 58 = if col l < l.length then (col l : Int) else -1 := by
  induction l with
  | nil => rfl
  | cons b r ih =>
    rw [Lib.indexByte, ih]
    unfold col
    rw [List.findIdx_cons]
    cases hb : (b == 58) with
    | true => simp
    | false =>
      simp only [Bool.false_eq_true, if_false, cond_false, List.length_cons, Nat.add_lt_add_iff_right]
      split
      · rw [if_neg (by rw [beq_iff_eq]; omega)]
        omega
      · rfl
theorem index_none {s : ByteArray} (h : ¬ col s.data.toList < s.size) : Lib.indexByte s.data.toList 58 = -1 := by
  rw [index_col, if_neg (by rw [size_len]; exact h)]
theorem index_some {s : ByteArray} (h : col s.data.toList < s.size) : Lib.indexByte s.data.toList 58 = (col s.data.toList : Int) := by
  rw [index_col, if_pos (by rw [size_len]; exact h)]
theorem lcut_none (s : ByteArray) (w : World) (h : ¬ col s.data.toList < s.size) :
    Calls Tryd.prog 25 #[.string s, .string ⟨#[58]⟩] w fun e w' => e = .returned (.tuple #[.string s, .string ⟨#[]⟩, .bool false]) ∧ w' = w := by
  have HI := Lib.hid (Tryd.stringslite_Index_one s 58 w)
  rw [index_none h] at HI
  clear h
  go_enter Tryd.func25, Tryd.ntmps25
  go_wp2_with fail
  refine HI.out.mono ?_
  rintro e w' ⟨rfl, hw⟩
  rw [hw]
  go_wp2
  go_ret3
  exact ⟨rfl, rfl⟩
theorem cut_none (s : ByteArray) (w : World) (h : ¬ col s.data.toList < s.size) :
    Calls Tryd.prog 18 #[.string s, .string ⟨#[58]⟩] w fun e w' => e = .returned (.tuple #[.string s, .string ⟨#[]⟩, .bool false]) ∧ w' = w := by
  have HI := Lib.hid (lcut_none s w h)
  clear h
  go_enter Tryd.func18, Tryd.ntmps18
  go_wp2_with fail
  refine HI.out.mono ?_
  rintro e w' ⟨rfl, hw⟩
  rw [hw]
  go_wp2
  go_ret3
  exact ⟨rfl, rfl⟩
theorem lcut_some (s : ByteArray) (hs : s.size ≤ 1000000) (h : col s.data.toList < s.size) :
    ∃ x y : ByteArray, x.data.toList = s.data.toList.take (col s.data.toList) ∧ y.data.toList = s.data.toList.drop (col s.data.toList + 1) ∧
      ∀ w, Calls Tryd.prog 25 #[.string s, .string ⟨#[58]⟩] w fun e w' => e = .returned (.tuple #[.string x, .string y, .bool true]) ∧ Below w.heap.size w w' := by
  obtain ⟨x, hx, hxr⟩ := to_run s (col s.data.toList) (by omega)
  obtain ⟨y, hy, hyr⟩ := from_run s (col s.data.toList + 1) ((col s.data.toList : Int) + 1) (by omega) (by omega)
  refine ⟨x, y, hx, hy, fun w => ?_⟩
  have HI := Lib.hid (Tryd.stringslite_Index_one s 58 w)
  rw [index_some h] at HI
  clear hx hy
  generalize col s.data.toList = k at *
  go_enter Tryd.func25, Tryd.ntmps25
  go_wp2_with fail
  refine HI.out.mono ?_
  rintro e w' ⟨rfl, hw⟩
  rw [hw]
  clear hw HI
  go_wp2
  go_region
  go_wp2
  go_ret3
  exact ⟨rfl, by first | exact Below.refl _ _ | exact (Below.refl _ _).drew⟩
theorem cut_some (s : ByteArray) (hs : s.size ≤ 1000000) (h : col s.data.toList < s.size) :
    ∃ x y : ByteArray, x.data.toList = s.data.toList.take (col s.data.toList) ∧ y.data.toList = s.data.toList.drop (col s.data.toList + 1) ∧
      ∀ w, Calls Tryd.prog 18 #[.string s, .string ⟨#[58]⟩] w fun e w' => e = .returned (.tuple #[.string x, .string y, .bool true]) ∧ Below w.heap.size w w' := by
  obtain ⟨x, y, hx, hy, hc⟩ := lcut_some s hs h
  refine ⟨x, y, hx, hy, fun w => ?_⟩
  have HI := Lib.hid (hc w)
  clear hx hy hc h
  go_enter Tryd.func18, Tryd.ntmps18
  go_wp2_with fail
  refine HI.out.mono ?_
  rintro e w' ⟨rfl, hb⟩
  have HB := Lib.hid hb
  clear hb
  go_wp2
  go_ret3
  exact ⟨rfl, HB.out⟩
/-- What the third answer is. -/
def pE (b : Bool) : Int := if b then 0 else 22
set_option maxHeartbeats 2000000 in
theorem parse_none (s : ByteArray) (w : World) (hm : s.size ≤ 1000000) (hc : ¬ col s.data.toList < s.size) :
    Calls Tryd.prog 9 #[.string s] w fun e w' => e = .returned (.tuple #[.int .i64 (par s.data.toList).1, .int .i64 (par s.data.toList).2.1, .int .i64 (pE (par s.data.toList).2.2)]) ∧ Below w.heap.size w w' := by
  have HP := Lib.hid (show par s.data.toList = parN (usr s.data.toList) by rw [par, if_neg (by rw [size_len]; exact hc)])
  have HU := Lib.hid (fun w => user_any s w (by omega))
  rw [show idn root ann bob cat s.data.toList = usr s.data.toList from rfl] at HU
  have HC := Lib.hid (cut_none s w hc)
  clear hc
  obtain ⟨Pr, hPr⟩ : ∃ Pr, par s.data.toList = Pr := ⟨_, rfl⟩
  rw [hPr] at HP ⊢
  clear hPr
  generalize usr s.data.toList = U at HU HP
  by_cases hu : U < 0
  · have HQ := Lib.hid (show Pr = (0, 0, false) by rw [HP.out, parN, if_pos hu])
    rw [okN, okE, if_pos hu, if_pos hu] at HU
    clear hu
    by_cases hz : s.size = 0
    · have h1 : s.toList = [] := (empty_iff s).2 hz
      have h2 : (s.toList == []) = true := by rw [h1]; rfl
      have h3 : s.toList.isEmpty = true := by rw [h1]; rfl
      clear hz
      go_enter Tryd.func9, Tryd.ntmps9
      go_wp2_with fail
      refine HC.out.mono ?_
      rintro e w' ⟨rfl, hw⟩
      rw [hw]
      go_wp2_with fail
      refine (HU.out _).mono ?_
      rintro e w' ⟨rfl, hb⟩
      have HB := Lib.hid hb
      clear hb
      go_wp2
      go_ret3
      exact ⟨ret_three (by rw [HQ.out]; exact ⟨rfl, rfl, rfl⟩), HB.out⟩
    · have h1 : ¬ s.toList = [] := fun e => hz ((empty_iff s).1 e)
      have h3 : s.toList.isEmpty = false := empty_false hz
      clear hz
      go_enter Tryd.func9, Tryd.ntmps9
      go_wp2_with fail
      refine HC.out.mono ?_
      rintro e w' ⟨rfl, hw⟩
      rw [hw]
      go_wp2_with fail
      refine (HU.out _).mono ?_
      rintro e w' ⟨rfl, hb⟩
      have HB := Lib.hid hb
      clear hb
      go_wp2
      go_ret3
      exact ⟨ret_three (by rw [HQ.out]; exact ⟨rfl, rfl, rfl⟩), HB.out⟩
  · have HQ := Lib.hid (show Pr = (U, -1, true) by rw [HP.out, parN, if_neg hu])
    rw [okN, okE, if_neg hu, if_neg hu] at HU
    clear hu
    by_cases hz : s.size = 0
    · have h1 : s.toList = [] := (empty_iff s).2 hz
      have h2 : (s.toList == []) = true := by rw [h1]; rfl
      have h3 : s.toList.isEmpty = true := by rw [h1]; rfl
      clear hz
      go_enter Tryd.func9, Tryd.ntmps9
      go_wp2_with fail
      refine HC.out.mono ?_
      rintro e w' ⟨rfl, hw⟩
      rw [hw]
      go_wp2_with fail
      refine (HU.out _).mono ?_
      rintro e w' ⟨rfl, hb⟩
      have HB := Lib.hid hb
      clear hb
      go_wp2
      go_ret3
      exact ⟨ret_three (by rw [HQ.out]; exact ⟨rfl, rfl, rfl⟩), HB.out⟩
    · have h1 : ¬ s.toList = [] := fun e => hz ((empty_iff s).1 e)
      have h3 : s.toList.isEmpty = false := empty_false hz
      clear hz
      go_enter Tryd.func9, Tryd.ntmps9
      go_wp2_with fail
      refine HC.out.mono ?_
      rintro e w' ⟨rfl, hw⟩
      rw [hw]
      go_wp2_with fail
      refine (HU.out _).mono ?_
      rintro e w' ⟨rfl, hb⟩
      have HB := Lib.hid hb
      clear hb
      go_wp2
      go_ret3
      exact ⟨ret_three (by rw [HQ.out]; exact ⟨rfl, rfl, rfl⟩), HB.out⟩
set_option maxHeartbeats 2000000 in
theorem parse_some (s : ByteArray) (w : World) (hm : s.size ≤ 1000000) (hc : col s.data.toList < s.size) :
    Calls Tryd.prog 9 #[.string s] w fun e w' => e = .returned (.tuple #[.int .i64 (par s.data.toList).1, .int .i64 (par s.data.toList).2.1, .int .i64 (pE (par s.data.toList).2.2)]) ∧ Below w.heap.size w w' := by
  have HP := Lib.hid (show par s.data.toList = parC (col s.data.toList) (usr (s.data.toList.take (col s.data.toList))) (grp (s.data.toList.drop (col s.data.toList + 1))) by rw [par, if_pos (by rw [size_len]; exact hc)])
  obtain ⟨x, y, hx, hy, hcut⟩ := cut_some s hm hc
  have hxz : x.size = col s.data.toList := by rw [← size_len, hx, List.length_take, size_len]; omega
  have hxs : x.size ≤ 9223372036854775807 := by omega
  have hys : y.size ≤ 9223372036854775807 := by rw [← size_len, hy, List.length_drop, size_len]; omega
  have HU := Lib.hid (fun w => user_any x w hxs)
  have HG := Lib.hid (fun w => group_any y w hys)
  have HC := Lib.hid (hcut w)
  rw [hx, show idn root ann bob cat (s.data.toList.take (col s.data.toList)) = usr (s.data.toList.take (col s.data.toList)) from rfl] at HU
  rw [hy, show idn wheel staff ops lab (s.data.toList.drop (col s.data.toList + 1)) = grp (s.data.toList.drop (col s.data.toList + 1)) from rfl] at HG
  clear hx hy hxs hys hcut
  obtain ⟨Pr, hPr⟩ : ∃ Pr, par s.data.toList = Pr := ⟨_, rfl⟩
  rw [hPr] at HP ⊢
  clear hPr
  generalize usr (s.data.toList.take (col s.data.toList)) = U at HU HP
  generalize grp (s.data.toList.drop (col s.data.toList + 1)) = G at HG HP
  generalize col s.data.toList = k at HP hxz hc
  by_cases hz : k = 0
  · have h1 : x.toList = [] := (empty_iff x).2 (by omega)
    have h2 : (x.toList == []) = true := by rw [h1]; rfl
    have h3 : x.toList.isEmpty = true := by rw [h1]; rfl
    have HZ := Lib.hid hz
    clear hz hxz hc
    by_cases hg : G < 0
    · have HQ := Lib.hid (show Pr = (0, 0, false) by rw [HP.out, parC, if_pos (.inl hg)])
      rw [okN, okE, if_pos hg, if_pos hg] at HG
      clear hg
      go_enter Tryd.func9, Tryd.ntmps9
      go_wp2_with fail
      refine HC.out.mono ?_
      rintro e w1 ⟨rfl, hb1⟩
      have HB1 := Lib.hid hb1
      clear hb1
      go_wp2_with fail
      refine (HG.out _).mono ?_
      rintro e w2 ⟨rfl, hb⟩
      have HB := Lib.hid (bt hb HB1.out)
      clear hb
      go_wp2
      go_ret3
      exact ⟨ret_three (by rw [HQ.out]; exact ⟨rfl, rfl, rfl⟩), HB.out⟩
    · have HQ := Lib.hid (show Pr = (-1, G, true) by rw [HP.out, parC, if_neg (by have := HZ.out; omega), if_pos HZ.out])
      rw [okN, okE, if_neg hg, if_neg hg] at HG
      clear hg
      go_enter Tryd.func9, Tryd.ntmps9
      go_wp2_with fail
      refine HC.out.mono ?_
      rintro e w1 ⟨rfl, hb1⟩
      have HB1 := Lib.hid hb1
      clear hb1
      go_wp2_with fail
      refine (HG.out _).mono ?_
      rintro e w2 ⟨rfl, hb⟩
      have HB := Lib.hid (bt hb HB1.out)
      clear hb
      go_wp2
      go_ret3
      exact ⟨ret_three (by rw [HQ.out]; exact ⟨rfl, rfl, rfl⟩), HB.out⟩
  · have h1 : ¬ x.toList = [] := fun e => hz (by have := (empty_iff x).1 e; omega)
    have h3 : x.toList.isEmpty = false := empty_false (by omega)
    have HZ := Lib.hid hz
    clear hz hxz hc
    by_cases hu : U < 0
    · have HQ := Lib.hid (show Pr = (0, 0, false) by rw [HP.out, parC, if_pos (.inr ⟨hu, by have := HZ.out; omega⟩)])
      rw [okN, okE, if_pos hu, if_pos hu] at HU
      clear hu
      go_enter Tryd.func9, Tryd.ntmps9
      go_wp2_with fail
      refine HC.out.mono ?_
      rintro e w1 ⟨rfl, hb1⟩
      have HB1 := Lib.hid hb1
      clear hb1
      go_wp2_with fail
      refine (HU.out _).mono ?_
      rintro e w3 ⟨rfl, hb⟩
      have HB2 := Lib.hid (bt hb HB1.out)
      clear hb
      go_wp2_with fail
      refine (HG.out _).mono ?_
      rintro e w2 ⟨rfl, hb⟩
      have HB := Lib.hid (bt hb HB2.out)
      clear hb
      go_wp2
      go_ret3
      exact ⟨ret_three (by rw [HQ.out]; exact ⟨rfl, rfl, rfl⟩), HB.out⟩
    · by_cases hg : G < 0
      · have HQ := Lib.hid (show Pr = (0, 0, false) by rw [HP.out, parC, if_pos (.inl hg)])
        rw [okN, okE, if_neg hu, if_neg hu] at HU
        rw [okN, okE, if_pos hg, if_pos hg] at HG
        clear hu hg
        go_enter Tryd.func9, Tryd.ntmps9
        go_wp2_with fail
        refine HC.out.mono ?_
        rintro e w1 ⟨rfl, hb1⟩
        have HB1 := Lib.hid hb1
        clear hb1
        go_wp2_with fail
        refine (HU.out _).mono ?_
        rintro e w3 ⟨rfl, hb⟩
        have HB2 := Lib.hid (bt hb HB1.out)
        clear hb
        go_wp2_with fail
        refine (HG.out _).mono ?_
        rintro e w2 ⟨rfl, hb⟩
        have HB := Lib.hid (bt hb HB2.out)
        clear hb
        go_wp2
        go_ret3
        exact ⟨ret_three (by rw [HQ.out]; exact ⟨rfl, rfl, rfl⟩), HB.out⟩
      · have HQ := Lib.hid (show Pr = (U, G, true) by rw [HP.out, parC, if_neg (by omega), if_neg HZ.out])
        rw [okN, okE, if_neg hu, if_neg hu] at HU
        rw [okN, okE, if_neg hg, if_neg hg] at HG
        clear hu hg
        go_enter Tryd.func9, Tryd.ntmps9
        go_wp2_with fail
        refine HC.out.mono ?_
        rintro e w1 ⟨rfl, hb1⟩
        have HB1 := Lib.hid hb1
        clear hb1
        go_wp2_with fail
        refine (HU.out _).mono ?_
        rintro e w3 ⟨rfl, hb⟩
        have HB2 := Lib.hid (bt hb HB1.out)
        clear hb
        go_wp2_with fail
        refine (HG.out _).mono ?_
        rintro e w2 ⟨rfl, hb⟩
        have HB := Lib.hid (bt hb HB2.out)
        clear hb
        go_wp2
        go_ret3
        exact ⟨ret_three (by rw [HQ.out]; exact ⟨rfl, rfl, rfl⟩), HB.out⟩
theorem parse_any (s : ByteArray) (w : World) (hm : s.size ≤ 1000000) :
    Calls Tryd.prog 9 #[.string s] w fun e w' => e = .returned (.tuple #[.int .i64 (par s.data.toList).1, .int .i64 (par s.data.toList).2.1, .int .i64 (pE (par s.data.toList).2.2)]) ∧ Below w.heap.size w w' := by
  by_cases h : col s.data.toList < s.size
  · exact parse_some s w hm h
  · exact parse_none s w hm h
end Go.Proofs.YtkbdlmmpeieaeaaDoor
