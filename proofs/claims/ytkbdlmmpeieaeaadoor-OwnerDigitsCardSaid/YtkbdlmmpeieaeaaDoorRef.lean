/-
  What the reference's name, User, Group and Parse answer of any text. The only condition is that a text's length is a number that a machine has.
-/
import Derived.Test.YtkbdlmmpeieaeaaDoorId
import Derived.Laws.Strings3
namespace Go.Proofs.YtkbdlmmpeieaeaaDoor
open Go Go.RowKit

theorem rname_any (s a b c d : ByteArray) (w : World) :
    Calls Tryd.prog 22 #[.string s, .string a, .string b, .string c, .string d] w fun e w' => e = .returned (.int .i64 (nam a.data.toList b.data.toList c.data.toList d.data.toList s.data.toList)) ∧ w = w' := by
  go_enter Tryd.func22, Tryd.ntmps22
  go_wp2
  all_goals
    go_ret
    exact ⟨ret_int (by simp only [ByteArray.toList_eq] at *; simp_all [nam]), rfl⟩
theorem rname_u (s : ByteArray) (w : World) : Calls Tryd.prog 22 #[.string s, .string ⟨#[114, 111, 111, 116]⟩, .string ⟨#[97, 110, 110]⟩, .string ⟨#[98, 111, 98]⟩, .string ⟨#[99, 97, 116]⟩] w fun e w' => e = .returned (.int .i64 (nam root ann bob cat s.data.toList)) ∧ w = w' :=
  rname_any s ⟨#[114, 111, 111, 116]⟩ ⟨#[97, 110, 110]⟩ ⟨#[98, 111, 98]⟩ ⟨#[99, 97, 116]⟩ w
theorem rname_g (s : ByteArray) (w : World) : Calls Tryd.prog 22 #[.string s, .string ⟨#[119, 104, 101, 101, 108]⟩, .string ⟨#[115, 116, 97, 102, 102]⟩, .string ⟨#[111, 112, 115]⟩, .string ⟨#[108, 97, 98]⟩] w fun e w' => e = .returned (.int .i64 (nam wheel staff ops lab s.data.toList)) ∧ w = w' :=
  rname_any s ⟨#[119, 104, 101, 101, 108]⟩ ⟨#[115, 116, 97, 102, 102]⟩ ⟨#[111, 112, 115]⟩ ⟨#[108, 97, 98]⟩ w
theorem ruser_any (s : ByteArray) (w : World) (hm : s.size ≤ 9223372036854775807) :
    Calls Tryd.prog 13 #[.string s] w fun e w' => e = .returned (.int .i64 (idn root ann bob cat s.data.toList)) ∧ w = w' := by
  have HN := Lib.hid (rname_u s w)
  have HD := Lib.hid (rdigits_any s w hm)
  unfold idn
  generalize nam root ann bob cat s.data.toList = N at HN ⊢
  by_cases h : N < 0
  · rw [if_pos h]
    go_enter Tryd.func13, Tryd.ntmps13
    go_wp2_with fail
    refine HN.out.mono ?_
    rintro e w' ⟨rfl, rfl⟩
    go_wp2_with fail
    refine HD.out.mono ?_
    rintro e w' ⟨rfl, rfl⟩
    go_wp2
    go_ret
    exact ⟨rfl, rfl⟩
  · rw [if_neg h]
    go_enter Tryd.func13, Tryd.ntmps13
    go_wp2_with fail
    refine HN.out.mono ?_
    rintro e w' ⟨rfl, rfl⟩
    go_wp2
    go_ret
    exact ⟨rfl, rfl⟩
theorem rgroup_any (s : ByteArray) (w : World) (hm : s.size ≤ 9223372036854775807) :
    Calls Tryd.prog 14 #[.string s] w fun e w' => e = .returned (.int .i64 (idn wheel staff ops lab s.data.toList)) ∧ w = w' := by
  have HN := Lib.hid (rname_g s w)
  have HD := Lib.hid (rdigits_any s w hm)
  unfold idn
  generalize nam wheel staff ops lab s.data.toList = N at HN ⊢
  by_cases h : N < 0
  · rw [if_pos h]
    go_enter Tryd.func14, Tryd.ntmps14
    go_wp2_with fail
    refine HN.out.mono ?_
    rintro e w' ⟨rfl, rfl⟩
    go_wp2_with fail
    refine HD.out.mono ?_
    rintro e w' ⟨rfl, rfl⟩
    go_wp2
    go_ret
    exact ⟨rfl, rfl⟩
  · rw [if_neg h]
    go_enter Tryd.func14, Tryd.ntmps14
    go_wp2_with fail
    refine HN.out.mono ?_
    rintro e w' ⟨rfl, rfl⟩
    go_wp2
    go_ret
    exact ⟨rfl, rfl⟩

/-- Where the first colon stands; the length, if there is none. -/
def col (l : List UInt8) : Nat := l.findIdx (· == 58)
def usr (l : List UInt8) : Int := idn root ann bob cat l
def grp (l : List UInt8) : Int := idn wheel staff ops lab l
/-- What is made of a user and a group, the colon at k. -/
def parC (k : Nat) (u g : Int) : Int × Int × Bool := if g < 0 ∨ (u < 0 ∧ 0 < k) then (0, 0, false) else (if k = 0 then -1 else u, g, true)
def parN (u : Int) : Int × Int × Bool := if u < 0 then (0, 0, false) else (u, -1, true)
/-- The owner and the group that a text tells. -/
def par (l : List UInt8) : Int × Int × Bool := if col l < l.length then parC (col l) (usr (l.take (col l))) (grp (l.drop (col l + 1))) else parN (usr l)
theorem from_run (s : ByteArray) (i : Nat) (I : Int) (hI : I = (i : Int)) (h : i ≤ s.size) : ∃ pc : ByteArray, pc.data.toList = s.data.toList.drop i ∧ ∀ w : World, (Instr.slice 9 (.string s) (some (.int .i64 I)) none none).run Tryd.prog w = .ok (.string pc) w := by
  subst hI
  refine ⟨s.extract i s.size, ?_, fun w => ?_⟩
  · rw [ByteArray.data_extract, Array.toList_extract, List.extract_eq_take_drop]
    exact List.take_of_length_le (by simp)
  · have e := run_slice_string_from_if (P := Tryd.prog) w 9 s .i64 (i : Int) Tryd.underlying9
    rw [if_pos (by omega)] at e
    exact e
theorem to_run (s : ByteArray) (i : Nat) (h : i ≤ s.size) : ∃ pc : ByteArray, pc.data.toList = s.data.toList.take i ∧ ∀ w : World, (Instr.slice 9 (.string s) none (some (.int .i64 (i : Int))) none).run Tryd.prog w = .ok (.string pc) w := by
  refine ⟨s.extract 0 i, ?_, fun w => ?_⟩
  · rw [ByteArray.data_extract, Array.toList_extract, List.extract_eq_take_drop]
    simp
  · have e := run_slice_string_to_if (P := Tryd.prog) w 9 s .i64 (i : Int) Tryd.underlying9
    rw [if_pos (by omega)] at e
    exact e
theorem col_le (l : List UInt8) : col l ≤ l.length := List.findIdx_le_length
theorem col_at (s : ByteArray) (h : col s.data.toList < s.size) : s[col s.data.toList] = 58 := by
  have e := List.findIdx_getElem (p := fun b : UInt8 => b == 58) (xs := s.data.toList) (w := by rw [size_len]; exact h)
  exact beq_iff_eq.1 e
theorem col_lt (s : ByteArray) (j : Nat) (hj : j < col s.data.toList) (h : j < s.size) : ¬ s[j] = 58 := by
  have e := List.not_of_lt_findIdx (p := fun b : UInt8 => b == 58) (xs := s.data.toList) hj
  exact fun h2 => beq_eq_false_iff_ne.1 e h2
theorem b58 {c : UInt8} (h : c = 58) : ((c.toNat : Int) != 58) = false := by rw [h]; rfl
theorem b58n {c : UInt8} (h : ¬ c = 58) : ((c.toNat : Int) != 58) = true := by
  rw [bne_iff_ne]
  intro e
  apply h
  apply UInt8.toNat_inj.1
  have : c.toNat = 58 := by omega
  rw [this]; rfl
theorem ret_three {a b c d : Int} {x y : Value} (h : c = a ∧ d = b ∧ y = x) : Ending.returned (.tuple #[.int .i64 a, .int .i64 b, x]) = .returned (.tuple #[.int .i64 c, .int .i64 d, y]) := by rw [h.1, h.2.1, h.2.2]
set_option maxHeartbeats 2000000 in
theorem rparse_none (s : ByteArray) (w : World) (hm : s.size ≤ 1000000) (hc : ¬ col s.data.toList < s.size) :
    Calls Tryd.prog 10 #[.string s] w fun e w' => e = .returned (.tuple #[.int .i64 (par s.data.toList).1, .int .i64 (par s.data.toList).2.1, .bool (par s.data.toList).2.2]) ∧ Below w.heap.size w w' := by
  have hce : col s.data.toList = s.size := by have := col_le s.data.toList; rw [size_len] at this; omega
  have HP := Lib.hid (show par s.data.toList = parN (usr s.data.toList) by rw [par, if_neg (by rw [size_len]; exact hc)])
  have HU := Lib.hid (fun w => ruser_any s w (by omega))
  rw [show idn root ann bob cat s.data.toList = usr s.data.toList from rfl] at HU
  have HC := Lib.hid (fun (j : Nat) (h : j < s.size) => b58n (col_lt s j (by omega) h))
  clear hc hce
  go_enter Tryd.func10, Tryd.ntmps10
  go_wp2
  go_loopg [5] s.size (fun g i wr => ∃ k : Nat, i = .int .i64 k ∧ k ≤ s.size ∧ g = s.size - k ∧ Below w.heap.size w wr)
  case atStart => exact ⟨0, rfl, Nat.zero_le _, rfl, Below.refl _ _⟩
  case round =>
    obtain ⟨k, rfl, hk, rfl, hB⟩ := hrel
    have HB := Lib.hid hB
    clear hB
    by_cases hlt : k < s.size
    · have hq := HC.out k hlt
      go_wp2
      go_roundg (s.size - (k + 1))
      case measure => omega
      case rel => exact ⟨k + 1, by go_num, by omega, rfl, HB.out⟩
    · obtain ⟨U, hU⟩ : ∃ U, usr s.data.toList = U := ⟨_, rfl⟩
      rw [hU] at HU HP
      clear hU
      by_cases hu : U < 0
      · have HQ := Lib.hid (show par s.data.toList = (0, 0, false) by rw [HP.out, parN, if_pos hu])
        go_wp2_with fail
        refine (HU.out _).mono ?_
        rintro e w' ⟨rfl, rfl⟩
        go_wp2
        go_ret3
        exact ⟨ret_three (by rw [HQ.out]; exact ⟨rfl, rfl, rfl⟩), HB.out⟩
      · have HQ := Lib.hid (show par s.data.toList = (U, -1, true) by rw [HP.out, parN, if_neg hu])
        go_wp2_with fail
        refine (HU.out _).mono ?_
        rintro e w' ⟨rfl, rfl⟩
        go_wp2
        go_ret3
        exact ⟨ret_three (by rw [HQ.out]; exact ⟨rfl, rfl, rfl⟩), HB.out⟩
set_option maxHeartbeats 2000000 in
theorem rparse_some (s : ByteArray) (w : World) (hm : s.size ≤ 1000000) (hc : col s.data.toList < s.size) :
    Calls Tryd.prog 10 #[.string s] w fun e w' => e = .returned (.tuple #[.int .i64 (par s.data.toList).1, .int .i64 (par s.data.toList).2.1, .bool (par s.data.toList).2.2]) ∧ Below w.heap.size w w' := by
  have HP := Lib.hid (show par s.data.toList = parC (col s.data.toList) (usr (s.data.toList.take (col s.data.toList))) (grp (s.data.toList.drop (col s.data.toList + 1))) by rw [par, if_pos (by rw [size_len]; exact hc)])
  have HC := Lib.hid (fun (j : Nat) (h : j < s.size) (hj : j < col s.data.toList) => b58n (col_lt s j hj h))
  have HE := Lib.hid (fun (j : Nat) (h : j < s.size) (hj : j = col s.data.toList) => b58 (show s[j] = 58 by subst hj; exact col_at s h))
  obtain ⟨x, hx, hxr⟩ := to_run s (col s.data.toList) (by omega)
  obtain ⟨y, hy, hyr⟩ := from_run s (col s.data.toList + 1) ((col s.data.toList : Int) + 1) (by omega) (by omega)
  have hxs : x.size ≤ 9223372036854775807 := by rw [← size_len, hx, List.length_take, size_len]; omega
  have hys : y.size ≤ 9223372036854775807 := by rw [← size_len, hy, List.length_drop, size_len]; omega
  have HU := Lib.hid (fun w => ruser_any x w hxs)
  have HG := Lib.hid (fun w => rgroup_any y w hys)
  rw [hx, show idn root ann bob cat (s.data.toList.take (col s.data.toList)) = usr (s.data.toList.take (col s.data.toList)) from rfl] at HU
  rw [hy, show idn wheel staff ops lab (s.data.toList.drop (col s.data.toList + 1)) = grp (s.data.toList.drop (col s.data.toList + 1)) from rfl] at HG
  clear hx hy hxs hys
  obtain ⟨U, hU⟩ : ∃ U, usr (s.data.toList.take (col s.data.toList)) = U := ⟨_, rfl⟩
  obtain ⟨G, hG⟩ : ∃ G, grp (s.data.toList.drop (col s.data.toList + 1)) = G := ⟨_, rfl⟩
  rw [hU] at HU HP
  rw [hG] at HG HP
  clear hU hG
  have HXR := Lib.hid hxr
  have HYR := Lib.hid hyr
  clear hxr hyr
  obtain ⟨Pr, hPr⟩ : ∃ Pr, par s.data.toList = Pr := ⟨_, rfl⟩
  rw [hPr] at HP ⊢
  clear hPr
  obtain ⟨K, hK⟩ : ∃ K, col s.data.toList = K := ⟨_, rfl⟩
  have HK := Lib.hid hK
  rw [hK] at hc
  simp only [hK] at HC HE HXR HYR HP
  clear hK
  go_enter Tryd.func10, Tryd.ntmps10
  go_wp2
  go_loopg [5] K (fun g i wr => ∃ k : Nat, i = .int .i64 k ∧ k ≤ K ∧ g = K - k ∧ Below w.heap.size w wr)
  case atStart => exact ⟨0, rfl, Nat.zero_le _, rfl, Below.refl _ _⟩
  case round =>
    obtain ⟨k, rfl, hk, rfl, hB⟩ := hrel
    have HB := Lib.hid hB
    clear hB
    have hlt : k < s.size := by omega
    by_cases hkK : k < K
    · have hq := HC.out k hlt hkK
      go_wp2
      go_roundg (K - (k + 1))
      case measure => omega
      case rel => exact ⟨k + 1, by go_num, by omega, rfl, HB.out⟩
    · obtain rfl : k = K := by omega
      have hq := HE.out k hlt rfl
      have hxr := HXR.out
      have hyr := HYR.out
      by_cases hg : G < 0
      · have HQ := Lib.hid (show Pr = (0, 0, false) by rw [HP.out, parC, if_pos (.inl hg)])
        go_wp2_with fail
        refine (HG.out _).mono ?_
        rintro e w' ⟨rfl, rfl⟩
        go_wp2_with fail
        refine (HU.out _).mono ?_
        rintro e w' ⟨rfl, rfl⟩
        go_wp2
        go_ret3
        exact ⟨ret_three (by rw [HQ.out]; exact ⟨rfl, rfl, rfl⟩), HB.out⟩
      · by_cases h0 : k = 0
        · have HQ := Lib.hid (show Pr = (-1, G, true) by rw [HP.out, parC, if_neg (by omega), if_pos h0])
          have h0' : ¬ (0 : Int) < (k : Int) := by omega
          have h0'' : ((k : Int) == 0) = true := by rw [h0]; rfl
          have HZ := Lib.hid h0
          clear h0
          by_cases hu : U < 0
          · go_wp2_with fail
            refine (HG.out _).mono ?_
            rintro e w' ⟨rfl, rfl⟩
            go_wp2_with fail
            refine (HU.out _).mono ?_
            rintro e w' ⟨rfl, rfl⟩
            go_wp2
            go_ret3
            exact ⟨ret_three (by rw [HQ.out]; exact ⟨rfl, rfl, rfl⟩), HB.out⟩
          · go_wp2_with fail
            refine (HG.out _).mono ?_
            rintro e w' ⟨rfl, rfl⟩
            go_wp2_with fail
            refine (HU.out _).mono ?_
            rintro e w' ⟨rfl, rfl⟩
            go_wp2
            go_ret3
            exact ⟨ret_three (by rw [HQ.out]; exact ⟨rfl, rfl, rfl⟩), HB.out⟩
        · have h0' : (0 : Int) < (k : Int) := by omega
          have h0'' : ((k : Int) == 0) = false := by rw [beq_eq_false_iff_ne]; omega
          by_cases hu : U < 0
          · have HQ := Lib.hid (show Pr = (0, 0, false) by rw [HP.out, parC, if_pos (.inr ⟨hu, by omega⟩)])
            go_wp2_with fail
            refine (HG.out _).mono ?_
            rintro e w' ⟨rfl, rfl⟩
            go_wp2_with fail
            refine (HU.out _).mono ?_
            rintro e w' ⟨rfl, rfl⟩
            go_wp2
            go_ret3
            exact ⟨ret_three (by rw [HQ.out]; exact ⟨rfl, rfl, rfl⟩), HB.out⟩
          · have HQ := Lib.hid (show Pr = (U, G, true) by rw [HP.out, parC, if_neg (by omega), if_neg h0])
            go_wp2_with fail
            refine (HG.out _).mono ?_
            rintro e w' ⟨rfl, rfl⟩
            go_wp2_with fail
            refine (HU.out _).mono ?_
            rintro e w' ⟨rfl, rfl⟩
            go_wp2
            go_ret3
            exact ⟨ret_three (by rw [HQ.out]; exact ⟨rfl, rfl, rfl⟩), HB.out⟩
theorem rparse_any (s : ByteArray) (w : World) (hm : s.size ≤ 1000000) :
    Calls Tryd.prog 10 #[.string s] w fun e w' => e = .returned (.tuple #[.int .i64 (par s.data.toList).1, .int .i64 (par s.data.toList).2.1, .bool (par s.data.toList).2.2]) ∧ Below w.heap.size w w' := by
  by_cases h : col s.data.toList < s.size
  · exact rparse_some s w hm h
  · exact rparse_none s w hm h
end Go.Proofs.YtkbdlmmpeieaeaaDoor
