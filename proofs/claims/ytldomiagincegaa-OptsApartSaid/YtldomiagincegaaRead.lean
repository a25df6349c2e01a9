/-
  What readValue and readLetters add to what is parsed. The conditions: a text has a million bytes at most, and so many options, words and letters there are at most.
-/
import Derived.Test.YtldomiagincegaaPar
namespace Go.Proofs.Ytldomiagincegaa
open Go Go.RowKit

/-- What is parsed behind a call that adds options; none: an error. -/
def RP (w0 : World) (g : Nat) (may : ByteArray) (o : Option (List Fl × List ByteArray)) (e : Ending) (w' : World) : Prop :=
  match o with
  | none => e = .returned (.int .i64 22) ∧ Below w0.heap.size w0 w'
  | some p => e = .returned (.int .i64 0) ∧ ∃ vF vW, PS w0 w' g vF p.1 may vW p.2
theorem readValue_left {w0 w : World} {g : Nat} {vF : Value} {fl : List Fl} {may : ByteArray} {vW : Value} {ws : List ByteArray} (h : PS w0 w g vF fl may vW ws) (hf : fl.length ≤ 1000000) (c : UInt8) (s : ByteArray) (hs : ¬ s.size = 0) :
    Calls Try.prog 26 #[.pointer (some ⟨g, 0, none⟩), .int .u8 (co c), .string s] w (RP w0 g may (some (fl ++ [(c, s)], ws))) := by
  have h1 : ¬ s.toList = [] := fun e => hs ((empty_iff s).1 e)
  have h3 : s.toList.isEmpty = false := empty_false hs
  have HA := Lib.hid (addFlag_any h hf c s)
  clear h hs
  generalize co c = n at HA ⊢
  go_enter Try.func26, Try.ntmps26
  go_wp2_with fail
  refine HA.out.mono ?_
  rintro e w1 ⟨rfl, vF', hP⟩
  have HP := Lib.hid hP
  clear hP
  go_wp2
  go_ret
  exact ⟨rfl, _, _, HP.out⟩
theorem readValue_next {w0 w : World} {g : Nat} {vF : Value} {fl : List Fl} {may : ByteArray} {vW : Value} {ws : List ByteArray} (h : PS w0 w g vF fl may vW ws) (hf : fl.length ≤ 1000000) (hw : ws.length ≤ 1000000) (c : UInt8) (s : ByteArray) (hs : s.size = 0) :
    Calls Try.prog 26 #[.pointer (some ⟨g, 0, none⟩), .int .u8 (co c), .string s] w (RP w0 g may ((takeV c ws).map fun p => (fl ++ p.1, p.2))) := by
  have h1 : s.toList = [] := (empty_iff s).2 hs
  have h2 : (s.toList == []) = true := by rw [h1]; rfl
  have h3 : s.toList.isEmpty = true := by rw [h1]; rfl
  clear hs
  cases ws with
  | nil =>
    have HN := Lib.hid (next_nil h)
    have HB := Lib.hid h.below
    clear h
    go_enter Try.func26, Try.ntmps26
    go_wp2_with fail
    refine HN.out.mono ?_
    rintro e w1 ⟨rfl, rfl⟩
    go_wp2
    go_ret
    exact ⟨rfl, HB.out⟩
  | cons x r =>
    have HN := Lib.hid (next_cons h (by simp only [List.length_cons] at hw; omega))
    have HA := Lib.hid (fun w1 vW' (hP : PS w0 w1 g vF fl may vW' r) => addFlag_any hP hf c x)
    clear h
    generalize co c = n at HA ⊢
    go_enter Try.func26, Try.ntmps26
    go_wp2_with fail
    refine HN.out.mono ?_
    rintro e w1 ⟨rfl, vW', hP⟩
    have HP := Lib.hid hP
    clear hP
    go_wp2_with fail
    refine (HA.out _ _ HP.out).mono ?_
    rintro e w2 ⟨rfl, vF', hP⟩
    have HP2 := Lib.hid hP
    clear hP
    go_wp2
    go_ret
    exact ⟨rfl, _, _, HP2.out⟩
theorem ltr_at (s : ByteArray) (i : Nat) (h : i < s.size) : ltr s (s.size - (i + 1)) = s[i] := by
  unfold ltr
  rw [show s.size - (s.size - (i + 1) + 1) = i by omega, List.getD_eq_getElem?_getD, Lib.data_getElem? s i h]
  rfl
theorem lets_bad {may s : ByteArray} {left : List ByteArray} {i : Nat} (h : i < s.size) (hk : knd may s[i] = 0) : lets may s left (s.size - i) = none := by
  rw [show s.size - i = (s.size - (i + 1)) + 1 by omega, lets, ltr_at s i h, if_pos hk]
theorem lets_one {may s : ByteArray} {left : List ByteArray} {i : Nat} (h : i < s.size) (hk : knd may s[i] = 1) : lets may s left (s.size - i) = (lets may s left (s.size - (i + 1))).map fun p => ((s[i], ⟨#[]⟩) :: p.1, p.2) := by
  rw [show s.size - i = (s.size - (i + 1)) + 1 by omega, lets, ltr_at s i h, if_neg (by omega), if_pos hk]
theorem lets_last {may s : ByteArray} {left : List ByteArray} {i : Nat} (h : i < s.size) (hk : knd may s[i] = 2) (hl : i + 1 = s.size) : lets may s left (s.size - i) = takeV s[i] left := by
  rw [show s.size - i = (s.size - (i + 1)) + 1 by omega, lets, ltr_at s i h, if_neg (by omega), if_neg (by omega), if_pos (by omega)]
theorem lets_val {may s : ByteArray} {left : List ByteArray} {i : Nat} (h : i < s.size) (hk : knd may s[i] = 2) (hl : ¬ i + 1 = s.size) : lets may s left (s.size - i) = some ([(s[i], s.extract (i + 1) s.size)], left) := by
  rw [show s.size - i = (s.size - (i + 1)) + 1 by omega, lets, ltr_at s i h, if_neg (by omega), if_neg (by omega), if_neg (by omega), show s.size - (s.size - (i + 1)) = i + 1 by omega]
set_option maxHeartbeats 1000000 in
theorem readLetters_any {w0 w : World} {g : Nat} {vF : Value} {fl : List Fl} {may : ByteArray} {vW : Value} {ws : List ByteArray} (h : PS w0 w g vF fl may vW ws) (s : ByteArray) (hf : fl.length + s.size ≤ 1000000) (hw : ws.length ≤ 1000000) (hm : may.size ≤ 1000000) :
    Calls Try.prog 20 #[.pointer (some ⟨g, 0, none⟩), .string s] w (RP w0 g may ((lets may s ws s.size).map fun p => (fl ++ p.1, p.2))) := by
  have H := Lib.hid h
  clear h
  obtain ⟨O, hO⟩ : ∃ O, ((lets may s ws s.size).map fun p => (fl ++ p.1, p.2)) = O := ⟨_, rfl⟩
  rw [hO]
  have HO := Lib.hid hO
  clear hO
  go_enter Try.func20, Try.ntmps20
  go_wp2
  go_loopg [11] s.size (fun gh s11 wr => ∃ (i : Nat) (done : List Fl) (vF' : Value), s11 = .int .i64 i ∧ i ≤ s.size ∧ gh = s.size - i ∧ done.length ≤ fl.length + i ∧ PS w0 wr g vF' done may vW ws ∧ O = (lets may s ws (s.size - i)).map fun p => (done ++ p.1, p.2))
  case atStart => exact ⟨0, fl, vF, rfl, Nat.zero_le _, rfl, by omega, H.out, HO.out.symm⟩
  case round =>
    obtain ⟨i, done, vF', rfl, hi, rfl, hd, hP, hE⟩ := hrel
    have HP := Lib.hid hP
    have HE := Lib.hid hE
    have k2 := hP.blk.cell 2
    simp at k2
    clear hP hE
    by_cases hlt : i < s.size
    · obtain ⟨c, hc⟩ : ∃ c, s[i] = c := ⟨_, rfl⟩
      have HF := Lib.hid (fun w => find_any may c w hm)
      rcases knd_le may c with hk | hk | hk
      · have HX := Lib.hid (show O = none by rw [HE.out, lets_bad hlt (by rw [hc]; exact hk)]; rfl)
        rw [hk] at HF
        clear hk
        go_wp2_with fail
        refine (HF.out _).mono ?_
        rintro e w1 ⟨rfl, hb⟩
        have HB := Lib.hid (bt hb HP.out.below)
        clear hb
        go_wp2
        go_ret
        rw [HX.out]
        exact ⟨rfl, HB.out⟩
      · have HX := Lib.hid (show O = (lets may s ws (s.size - (i + 1))).map fun p => ((done ++ [(c, ⟨#[]⟩)]) ++ p.1, p.2) by
          rw [HE.out, lets_one hlt (by rw [hc]; exact hk), hc, Option.map_map]
          congr 1
          funext p
          simp)
        rw [hk] at HF
        have HA := Lib.hid (fun w1 (hb : Below wr.heap.size wr w1) => addFlag_any (HP.out.later hb) (by omega) c ⟨#[]⟩)
        clear hk
        go_wp2_with fail
        refine (HF.out _).mono ?_
        rintro e w1 ⟨rfl, hb⟩
        have HB := Lib.hid hb
        clear hb
        go_wp2_with fail
        refine (HA.out _ HB.out).mono ?_
        rintro e w2 ⟨rfl, vF2, hP2⟩
        have HP2 := Lib.hid hP2
        clear hP2
        go_wp2
        go_roundg (s.size - (i + 1))
        case measure => omega
        case rel => exact ⟨i + 1, done ++ [(c, ⟨#[]⟩)], vF2, by go_num, by omega, rfl, by rw [List.length_append]; simp; omega, HP2.out, HX.out⟩
      · rw [hk] at HF
        have HA := Lib.hid (show ∀ w1, Below wr.heap.size wr w1 → Calls Try.prog 26 #[.pointer (some ⟨g, 0, none⟩), .int .u8 (co c), .string (s.extract (i + 1) s.size)] w1 (RP w0 g may O) by
          intro w1 hb
          by_cases hl : i + 1 = s.size
          · rw [show O = (takeV c ws).map fun p => (done ++ p.1, p.2) by rw [HE.out, lets_last hlt (by rw [hc]; exact hk) hl, hc]]
            exact readValue_next (HP.out.later hb) (by omega) hw c _ (by rw [ByteArray.size_extract]; omega)
          · rw [show O = some (done ++ [(c, s.extract (i + 1) s.size)], ws) by rw [HE.out, lets_val hlt (by rw [hc]; exact hk) hl, hc]; rfl]
            exact readValue_left (HP.out.later hb) (by omega) c _ (by rw [ByteArray.size_extract]; omega))
        clear hk
        have hi1 : (i : Int) + 1 ≤ s.size := by omega
        go_wp2_with fail
        refine (HF.out _).mono ?_
        rintro e w1 ⟨rfl, hb⟩
        have HB := Lib.hid hb
        clear hb
        go_wp2_with fail
        refine (HA.out _ HB.out).mono ?_
        intro e w2 hR
        clear HE
        cases O with
        | none =>
          obtain ⟨rfl, hb⟩ := hR
          have HB2 := Lib.hid hb
          clear hb
          go_wp2
          go_ret
          exact ⟨rfl, HB2.out⟩
        | some p =>
          obtain ⟨rfl, hb⟩ := hR
          have HB2 := Lib.hid hb
          clear hb
          go_wp2
          go_ret
          exact ⟨rfl, HB2.out⟩
    · have HX := Lib.hid (show O = some (done, ws) by rw [HE.out, show s.size - i = 0 by omega, lets]; simp)
      go_wp2
      go_ret
      rw [HX.out]
      exact ⟨rfl, _, _, HP.out⟩
end Go.Proofs.Ytldomiagincegaa
