/-
  The walk of ClauseParse: it answers true of every text.
-/
import Derived.Test.YtbjajipeiigodaaDoorAwake
import Derived.Test.YtbjajipeiigodaaDoorRParse
namespace Go.Proofs.YtbjajipeiigodaaDoor
open Go Go.RowKit

theorem cparse_few {s : ByteArray} {cs : List CC} (h : parseC s.data.toList = some cs) (hs : s.size ≤ 300) : cs.length ≤ 301 ∧ ∀ c ∈ cs, c.acts.length ≤ 300 := by
  have h1 := allC_len h
  have h2 := pieces_count s.data.toList
  have h3 := allC_acts h (n := 300) (fun p hp => by
    have := piece_len _ p hp
    simp at this
    omega)
  simp at h2
  exact ⟨by omega, h3⟩
set_option maxRecDepth 100000 in
set_option maxHeartbeats 4000000 in
theorem cparseLaw (s : ByteArray) (w : World) : Calls Tryd.prog 3 #[.string s] w fun e w' => e = .returned (.bool true) ∧ Below w.heap.size w w' := by
  by_cases h1 : (300 : Int) < s.size
  · go_enter Tryd.func3, Tryd.ntmps3
    go_wp2_with fail
    refine (awake_any _).mono ?_
    rintro e w1 ⟨rfl, hb1⟩
    have B1 := Lib.hid hb1
    clear hb1
    go_wp2
    go_ret
    exact ⟨rfl, B1.out⟩
  have HP := Lib.hid (fun w => parse_any s w (by omega))
  have HQ := Lib.hid (fun w => rparse_any s w (by omega))
  cases hc : parseC s.data.toList with
  | none =>
    rw [hc] at HP HQ
    unfold ParsePost at HP
    unfold RPPost at HQ
    simp only at HP HQ
    clear hc
    go_enter Tryd.func3, Tryd.ntmps3
    go_wp2_with fail
    refine (awake_any _).mono ?_
    rintro e w1 ⟨rfl, hb1⟩
    have B1 := Lib.hid hb1
    clear hb1
    go_wp2_with fail
    refine (HP.out _).mono ?_
    rintro e w2 ⟨v2, hb2, rfl, rfl⟩
    have B2 := Lib.hid (B1.out.trans (hb2.mono B1.out.size))
    clear hb2
    go_wp2_with fail
    refine (HQ.out _).mono ?_
    rintro e w3 ⟨hb3, rfl⟩
    have B3 := Lib.hid (B2.out.trans (hb3.mono B2.out.size))
    clear hb3
    go_wp2
    go_ret
    exact ⟨rfl, B3.out⟩
  | some cs =>
    have hf := cparse_few hc (by omega)
    have n1 := hf.1
    have HL4 := Lib.hid (show ∀ c ∈ cs, c.acts.length ≤ 10000 from fun c hc => Nat.le_trans (hf.2 c hc) (by decide))
    rw [hc] at HP HQ
    unfold ParsePost at HP
    unfold RPPost at HQ
    simp only at HP HQ
    clear hc hf
    go_enter Tryd.func3, Tryd.ntmps3
    go_wp2_with fail
    refine (awake_any _).mono ?_
    rintro e w1 ⟨rfl, hb1⟩
    have B1 := Lib.hid hb1
    clear hb1
    go_wp2_with fail
    refine (HP.out _).mono ?_
    rintro e w2 ⟨v2, hb2, ho2, rfl⟩
    have B2 := Lib.hid (B1.out.trans (hb2.mono B1.out.size))
    have X2 := Lib.hid ho2.cls
    clear hb2 ho2
    go_wp2_with fail
    refine (HQ.out _).mono ?_
    rintro e w3 ⟨hb3, A, n, c, rfl, hy⟩
    have B3 := Lib.hid (B2.out.trans (hb3.mono B2.out.size))
    have X3 := Lib.hid (X2.out.below hb3)
    have Y3 := Lib.hid hy
    clear hb3 hy
    go_wp2_with fail
    refine (same_any v2 _ cs w3 X3.out Y3.out (by omega) HL4.out).mono ?_
    rintro e w4 ⟨rfl, hb4⟩
    have B4 := Lib.hid (B3.out.trans (hb4.mono B3.out.size))
    clear hb4
    go_wp2
    go_ret
    exact ⟨rfl, B4.out⟩
end Go.Proofs.YtbjajipeiigodaaDoor
