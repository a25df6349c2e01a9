/-
  The walk of the law OptsParse: of any letters and words it answers true.
-/
import Derived.Test.YtldomiagincegaaAwake
import Derived.Test.YtldomiagincegaaRPar
import Derived.Test.YtldomiagincegaaSame
namespace Go.Proofs.Ytldomiagincegaa
open Go Go.RowKit

theorem prs_bd {may : ByteArray} : ∀ (n : Nat) {ws : List ByteArray}, ws.length ≤ n → (oF (prs may ws)).length ≤ tot ws ∧ (oR (prs may ws)).length ≤ ws.length
  | 0, ws, h => by
    have : ws = [] := List.eq_nil_of_length_eq_zero (by omega)
    subst this
    rw [prs_nil]
    exact ⟨Nat.zero_le _, Nat.le_refl _⟩
  | n + 1, [], _ => by
    rw [prs_nil]
    exact ⟨Nat.zero_le _, Nat.le_refl _⟩
  | n + 1, x :: r, h => by
    rw [tot_cons, List.length_cons]
    rw [List.length_cons] at h
    cases ho : isOpt x with
    | false =>
      rw [prs_oper may ho]
      exact ⟨Nat.zero_le _, Nat.le_refl _⟩
    | true =>
      by_cases hd : x.data.toList = [45, 45]
      · rw [prs_end may ho hd]
        exact ⟨Nat.zero_le _, Nat.le_succ _⟩
      · cases hl : lets may (x.extract 1 x.size) r (x.extract 1 x.size).size with
        | none =>
          rw [prs_bad ho hd hl]
          exact ⟨Nat.zero_le _, Nat.zero_le _⟩
        | some p =>
          have hb := lets_bd (f := p.1) (l := p.2) hl
          have ih := prs_bd (may := may) n (ws := p.2) (by omega)
          have hz : (x.extract 1 x.size).size ≤ x.size := by rw [ByteArray.size_extract]; omega
          rw [prs_go (f := p.1) (l := p.2) ho hd hl]
          cases hq : prs may p.2 with
          | none => exact ⟨Nat.zero_le _, Nat.zero_le _⟩
          | some q =>
            rw [hq] at ih
            have i1 : q.1.length ≤ tot p.2 := ih.1
            have i2 : q.2.length ≤ p.2.length := ih.2
            refine ⟨?_, ?_⟩
            · show (p.1 ++ q.1).length ≤ _
              rw [List.length_append]
              omega
            · show q.2.length ≤ _
              omega
theorem parseLaw_out (may : ByteArray) (vA : Value) (ws : List ByteArray) (w : World) (hA : StrsR w vA ws) (hn : ws.length ≤ maxLen) (hz : ∀ s ∈ ws, s.size ≤ maxLen) (hm : may.size ≤ maxLen) (h : fewB ws = false ∨ 60 < may.size) :
    Calls Try.prog 3 #[.string may, vA] w fun e w' => e = .returned (.bool true) ∧ Below w.heap.size w w' := by
  have hm' : may.size ≤ 9223372036854775807 := by unfold maxLen at hm; omega
  have HA := Lib.hid (awake_any w)
  have HF := Lib.hid (fun w1 hb => few_any vA ws w1 (hA.below hb) hn hz)
  obtain ⟨A, c, rfl, -, -⟩ := hA
  clear hn hz hm
  cases hf : fewB ws with
  | false =>
    rw [hf] at HF
    clear hf h
    go_enter Try.func3, Try.ntmps3
    go_wp2_with fail
    refine HA.out.mono ?_
    rintro e w1 ⟨rfl, hb⟩
    have HB1 := Lib.hid hb
    clear hb
    go_wp2_with fail
    refine (HF.out _ HB1.out).mono ?_
    rintro e w2 ⟨rfl, rfl⟩
    go_wp2
    go_ret
    exact ⟨rfl, HB1.out⟩
  | true =>
    have h1 : (60 : Int) < may.size := by rw [hf] at h; rcases h with h | h; cases h; omega
    rw [hf] at HF
    clear hf h
    go_enter Try.func3, Try.ntmps3
    go_wp2_with fail
    refine HA.out.mono ?_
    rintro e w1 ⟨rfl, hb⟩
    have HB1 := Lib.hid hb
    clear hb
    go_wp2_with fail
    refine (HF.out _ HB1.out).mono ?_
    rintro e w2 ⟨rfl, rfl⟩
    go_wp2
    go_ret
    exact ⟨rfl, HB1.out⟩
set_option maxRecDepth 100000 in
set_option maxHeartbeats 8000000 in
theorem parseLaw_in (may : ByteArray) (vA : Value) (ws : List ByteArray) (w : World) (hA : StrsR w vA ws) (hn : ws.length ≤ maxLen) (hz : ∀ s ∈ ws, s.size ≤ maxLen) (hf : fewB ws = true) (hm : may.size ≤ 60) :
    Calls Try.prog 3 #[.string may, vA] w fun e w' => e = .returned (.bool true) ∧ Below w.heap.size w w' := by
  have hfb := few_bd hf
  have hbd := prs_bd (may := may) ws.length (ws := ws) (Nat.le_refl _)
  have HA := Lib.hid (awake_any w)
  have HF := Lib.hid (fun w1 hb => few_any vA ws w1 (hA.below hb) hn hz)
  have HP := Lib.hid (fun w1 hb => parse_any may vA ws w1 (by omega) (hA.below hb) (by omega) (by omega))
  have HQ := Lib.hid (fun w1 hb => rparse_any may vA ws w1 (by omega) (hA.below hb) (by omega) (by omega))
  have HS := Lib.hid (fun vF vR vF' vR' ok w1 h1 h2 h3 h4 => same_true vF vR vF' vR' ok (oF (prs may ws)) (oR (prs may ws)) w1 h1 h2 h3 h4 (by omega) (by omega))
  obtain ⟨A, c, rfl, -, -⟩ := hA
  have h1 : ¬ (60 : Int) < may.size := by omega
  rw [hf] at HF
  clear hn hz hf hfb hbd
  generalize prs may ws = O at HP HQ HS
  cases O with
  | none =>
    go_enter Try.func3, Try.ntmps3
    go_wp2_with fail
    refine HA.out.mono ?_
    rintro e w1 ⟨rfl, hb⟩
    have HB1 := Lib.hid hb
    clear hb
    go_wp2_with fail
    refine (HF.out _ HB1.out).mono ?_
    rintro e w2 ⟨rfl, rfl⟩
    go_wp2_with fail
    refine (HP.out _ HB1.out).mono ?_
    rintro e w3 ⟨vF, vR, rfl, hF, hS, hb⟩
    have HB3 := Lib.hid (bt hb HB1.out)
    have HF3 := Lib.hid hF
    have HS3 := Lib.hid hS
    rw [show eN none = 22 from rfl]
    obtain ⟨A1, c1, rfl, -⟩ := hF
    obtain ⟨A2, c2, rfl, -, -⟩ := hS
    clear hb
    go_wp2_with fail
    refine (HQ.out _ (al HB3.out _)).mono ?_
    rintro e w4 ⟨vF', vR', rfl, hF', hS', hb⟩
    have HB4 := Lib.hid (bt hb (al HB3.out _))
    have HB43 := Lib.hid (bt hb (al (Below.refl _ _) _))
    have HF4 := Lib.hid hF'
    have HS4 := Lib.hid hS'
    have hk := (Blk.new w3 27 #[_, _]).below hb
    have k0 := hk.cell 0
    have k1 := hk.cell 1
    have hkl := hk.lt
    simp at k0 k1
    obtain ⟨A3, c3, rfl, -⟩ := hF'
    obtain ⟨A4, c4, rfl, -, -⟩ := hS'
    clear hb hk
    go_wp2_with fail
    refine (HS.out _ _ _ _ _ _ (HF3.out.below (al HB43.out _)) (HS3.out.below (al HB43.out _)) (HF4.out.below (al (Below.refl _ _) _)) (HS4.out.below (al (Below.refl _ _) _))).mono ?_
    rintro e w5 ⟨rfl, hb⟩
    have HB5 := Lib.hid (bt hb (al HB4.out _))
    clear hb
    go_wp2
    go_ret
    exact ⟨rfl, HB5.out⟩
  | some p =>
    go_enter Try.func3, Try.ntmps3
    go_wp2_with fail
    refine HA.out.mono ?_
    rintro e w1 ⟨rfl, hb⟩
    have HB1 := Lib.hid hb
    clear hb
    go_wp2_with fail
    refine (HF.out _ HB1.out).mono ?_
    rintro e w2 ⟨rfl, rfl⟩
    go_wp2_with fail
    refine (HP.out _ HB1.out).mono ?_
    rintro e w3 ⟨vF, vR, rfl, hF, hS, hb⟩
    have HB3 := Lib.hid (bt hb HB1.out)
    have HF3 := Lib.hid hF
    have HS3 := Lib.hid hS
    rw [show eN (some p) = 0 from rfl]
    obtain ⟨A1, c1, rfl, -⟩ := hF
    obtain ⟨A2, c2, rfl, -, -⟩ := hS
    clear hb
    go_wp2_with fail
    refine (HQ.out _ (al HB3.out _)).mono ?_
    rintro e w4 ⟨vF', vR', rfl, hF', hS', hb⟩
    have HB4 := Lib.hid (bt hb (al HB3.out _))
    have HB43 := Lib.hid (bt hb (al (Below.refl _ _) _))
    have HF4 := Lib.hid hF'
    have HS4 := Lib.hid hS'
    have hk := (Blk.new w3 27 #[_, _]).below hb
    have k0 := hk.cell 0
    have k1 := hk.cell 1
    have hkl := hk.lt
    simp at k0 k1
    obtain ⟨A3, c3, rfl, -⟩ := hF'
    obtain ⟨A4, c4, rfl, -, -⟩ := hS'
    clear hb hk
    go_wp2_with fail
    refine (HS.out _ _ _ _ _ _ (HF3.out.below (al HB43.out _)) (HS3.out.below (al HB43.out _)) (HF4.out.below (al (Below.refl _ _) _)) (HS4.out.below (al (Below.refl _ _) _))).mono ?_
    rintro e w5 ⟨rfl, hb⟩
    have HB5 := Lib.hid (bt hb (al HB4.out _))
    clear hb
    go_wp2
    go_ret
    exact ⟨rfl, HB5.out⟩
theorem parseWalk (may : ByteArray) (vA : Value) (ws : List ByteArray) (w : World) (hA : StrsR w vA ws) (hn : ws.length ≤ maxLen) (hz : ∀ s ∈ ws, s.size ≤ maxLen) (hm : may.size ≤ maxLen) :
    Calls Try.prog 3 #[.string may, vA] w fun e w' => e = .returned (.bool true) ∧ Below w.heap.size w w' := by
  cases hf : fewB ws with
  | false => exact parseLaw_out may vA ws w hA hn hz hm (.inl hf)
  | true =>
    by_cases h : may.size ≤ 60
    · exact parseLaw_in may vA ws w hA hn hz hf h
    · exact parseLaw_out may vA ws w hA hn hz hm (.inr (by omega))
end Go.Proofs.Ytldomiagincegaa
