/-
  The walk of ClauseShow: it answers true of every slice of clauses.
-/
import Derived.Test.YtbjajipeiigodaaDoorAwake
import Derived.Test.YtbjajipeiigodaaDoorRShow
namespace Go.Proofs.YtbjajipeiigodaaDoor
open Go Go.RowKit

theorem bytes_eq {t : ByteArray} {l : List UInt8} (h : t.data.toList = l) : t = ⟨l.toArray⟩ := by
  apply ByteArray.ext
  rw [← h]
set_option maxRecDepth 100000 in
theorem shows_far (v : Value) (cs : List CC) (w : World) (h : ClsR w v cs) (_hn : cs.length ≤ maxLen) (_hl : ∀ c ∈ cs, c.acts.length ≤ maxLen) (hc : (40 : Int) < cs.length) : Calls Tryd.prog 4 #[v] w fun e w' => e = .returned (.bool true) ∧ Below w.heap.size w w' := by
  obtain ⟨A, c, rfl, -⟩ := h
  clear _hl _hn
  go_enter Tryd.func4, Tryd.ntmps4
  go_wp2_with fail
  refine (awake_any _).mono ?_
  rintro e w1 ⟨rfl, hb1⟩
  have B1 := Lib.hid hb1
  clear hb1
  go_wp2
  go_ret
  exact ⟨rfl, B1.out⟩
set_option maxRecDepth 100000 in
set_option maxHeartbeats 4000000 in
theorem shows_near (v : Value) (cs : List CC) (w : World) (h : ClsR w v cs) (_hn : cs.length ≤ maxLen) (hl : ∀ c ∈ cs, c.acts.length ≤ maxLen) (hc : cs.length ≤ 40) (R : Bool) (hr : rightC cs = R) : Calls Tryd.prog 4 #[v] w fun e w' => e = .returned (.bool true) ∧ Below w.heap.size w w' := by
  have n1 : ¬ (40 : Int) < cs.length := by omega
  have HRT := Lib.hid (fun w h hl => right_any v cs w h (by omega) hl)
  rw [hr] at HRT
  have HRR := Lib.hid (fun v w h hl => rright_any v cs w h (by omega) hl)
  rw [hr] at HRR
  have HSR := Lib.hid (fun v w h hl => rshow_any v cs w h (by omega) hl)
  have HC := Lib.hid h
  have HL := Lib.hid hl
  obtain ⟨A, c, rfl, -⟩ := h
  clear hl _hn hr
  go_enter Tryd.func4, Tryd.ntmps4
  go_wp2_with fail
  refine (awake_any _).mono ?_
  rintro e w1 ⟨rfl, hb1⟩
  have B1 := Lib.hid hb1
  have C1 := Lib.hid (HC.out.below hb1)
  clear hb1
  go_wp2
  go_loop [4] (fun i => ∃ k : Nat, k ≤ cs.length ∧ i = .int .i64 k ∧ ∀ c ∈ cs.take k, c.acts.length ≤ 40) (fun i => cs.length - (intOf i).toNat)
  case atStart => exact ⟨0, Nat.zero_le _, rfl, by simp⟩
  case round =>
    obtain ⟨k, hk, rfl, hall⟩ := hrel
    have HALL := Lib.hid hall
    clear hall
    by_cases hlt : k < cs.length
    · obtain ⟨x, hx⟩ : ∃ x, cs[k]? = some x := ⟨_, List.getElem?_eq_getElem hlt⟩
      obtain ⟨A2, c2, e2, hcc⟩ := C1.out
      injection e2 with eA _ eC
      subst eA
      subst eC
      obtain ⟨ad, va, rfl, c0, c1, hA⟩ := hcc k x hx
      have HX := Lib.hid hx
      clear hcc c0 hx
      obtain ⟨who, acts⟩ := x
      obtain ⟨A', c', rfl, -⟩ := hA
      simp only at c1
      have hal : acts.length ≤ 9223372036854775807 := by have := HL.out _ (List.mem_of_getElem? HX.out); unfold maxLen at this; simpa using this
      by_cases hq : (40 : Int) < acts.length
      · go_wp2
        go_ret
        exact ⟨rfl, B1.out⟩
      · have HN := Lib.hid (show ∀ c ∈ cs.take (k + 1), c.acts.length ≤ 40 by
          intro c hc
          rw [take_snoc' HX.out] at hc
          rcases List.mem_append.1 hc with hc | hc
          · exact HALL.out c hc
          · rw [List.mem_singleton] at hc
            rw [hc]
            simp only
            omega)
        go_wp2
        go_round
        case rel => exact ⟨k + 1, by omega, by go_num, HN.out⟩
        case measure => simp [intOf]; omega
    · have hall := HALL.out
      rw [List.take_of_length_le (by omega)] at hall
      have HL6 := Lib.hid (show ∀ c ∈ cs, c.acts.length ≤ 1000000 from fun c hc => Nat.le_trans (hall c hc) (by decide))
      have HL4 := Lib.hid (show ∀ c ∈ cs, c.acts.length ≤ 10000 from fun c hc => Nat.le_trans (hall c hc) (by decide))
      clear hall
      go_wp2_with fail
      refine (model_any _ cs w1 C1.out (by omega) HL4.out).mono ?_
      rintro e w2 ⟨v2, rfl, hc2, hb2⟩
      have B2 := Lib.hid (B1.out.trans (hb2.mono B1.out.size))
      have C2 := Lib.hid (C1.out.below hb2)
      have M2 := Lib.hid hc2
      clear hb2 hc2
      go_wp2_with fail
      refine (HRT.out _ C2.out HL6.out).mono ?_
      rintro e w3 ⟨rfl, hb3⟩
      have B3 := Lib.hid (B2.out.trans (hb3.mono B2.out.size))
      have C3 := Lib.hid (C2.out.below hb3)
      have M3 := Lib.hid (M2.out.below hb3)
      clear hb3
      go_wp2_with fail
      refine (HRR.out v2 _ M3.out HL6.out).mono ?_
      rintro e w4 ⟨rfl, hb4⟩
      have B4 := Lib.hid (B3.out.trans (hb4.mono B3.out.size))
      have C4 := Lib.hid (C3.out.below hb4)
      have M4 := Lib.hid (M3.out.below hb4)
      clear hb4
      go_wp2_with fail
      refine (show_any _ cs w4 C4.out (by omega) HL4.out).mono ?_
      rintro e w5 ⟨rfl, hb5⟩
      have B5 := Lib.hid (B4.out.trans (hb5.mono B4.out.size))
      have M5 := Lib.hid (M4.out.below hb5)
      clear hb5
      go_wp2_with fail
      refine (HSR.out v2 _ M5.out HL4.out).mono ?_
      rintro e w6 ⟨t6, rfl, ht6, hb6⟩
      have B6 := Lib.hid (B5.out.trans (hb6.mono B5.out.size))
      obtain rfl := bytes_eq ht6
      clear hb6 ht6
      go_wp2
      go_ret
      exact ⟨rfl, B6.out⟩
theorem showsLaw (v : Value) (cs : List CC) (w : World) (h : ClsR w v cs) (hn : cs.length ≤ maxLen) (hl : ∀ c ∈ cs, c.acts.length ≤ maxLen) : Calls Tryd.prog 4 #[v] w fun e w' => e = .returned (.bool true) ∧ Below w.heap.size w w' := by
  by_cases hc : (40 : Int) < cs.length
  · exact shows_far v cs w h hn hl hc
  · exact shows_near v cs w h hn hl (by omega) _ rfl
end Go.Proofs.YtbjajipeiigodaaDoor
