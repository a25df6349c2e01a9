/-
  The walk of ApplyClauses: it answers true of every slice of clauses, mode, kind and umask.
-/
import Derived.Test.YtbjajipeiigodaaDoorRApply
import Derived.Test.YtbjajipeiigodaaDoorModel3
import Derived.Test.YtbjajipeiigodaaDoorParts
namespace Go.Proofs.YtbjajipeiigodaaDoor
open Go Go.RowKit

theorem clauses_no (v : Value) (cs : List CC) (mode : Int) (dir : Bool) (u : Int) (w : World) (h : ClsR w v cs) (hn : cs.length ≤ maxLen) (hl : ∀ c ∈ cs, c.acts.length ≤ maxLen) (hf : fewB cs = false) :
    Calls Tryd.prog 9 #[v, .int .i64 mode, .bool dir, .int .i64 u] w fun e w' => e = .returned (.bool true) ∧ Below w.heap.size w w' := by
  have HC := Lib.hid h
  have HFA := Lib.hid (fun w h => few_any v cs w h hn hl)
  rw [hf] at HFA
  clear h hn hl hf
  go_enter Tryd.func9, Tryd.ntmps9
  go_wp2_with fail
  refine (awake3_any _).mono ?_
  rintro e w1 ⟨rfl, hb1⟩
  have B1 := Lib.hid hb1
  have C1 := Lib.hid (HC.out.below hb1)
  clear hb1
  go_wp2_with fail
  refine (HFA.out _ C1.out).mono ?_
  rintro e w2 ⟨rfl, rfl⟩
  go_wp2
  go_ret
  exact ⟨rfl, B1.out⟩
set_option maxHeartbeats 1000000 in
theorem clauses_yes (v : Value) (cs : List CC) (mode : Int) (dir : Bool) (u : Int) (w : World) (h : ClsR w v cs) (hn : cs.length ≤ maxLen) (hl : ∀ c ∈ cs, c.acts.length ≤ maxLen) (hf : fewB cs = true) :
    Calls Tryd.prog 9 #[v, .int .i64 mode, .bool dir, .int .i64 u] w fun e w' => e = .returned (.bool true) ∧ Below w.heap.size w w' := by
  have HC := Lib.hid h
  have HFA := Lib.hid (fun w h => few_any v cs w h hn hl)
  rw [hf] at HFA
  have fa := few_of hf
  have l20 := fa.1
  have HLA := Lib.hid (show ∀ c ∈ cs, c.acts.length ≤ 10000 from fun c hc => Nat.le_trans (fa.2 c hc) (by decide))
  have HLB := Lib.hid (show ∀ c ∈ cs, c.acts.length ≤ 1000000 from fun c hc => Nat.le_trans (fa.2 c hc) (by decide))
  clear h hn hl hf fa
  obtain ⟨X, hX⟩ : ∃ X, applyM cs mode dir u = X := ⟨_, rfl⟩
  have HX := Lib.hid hX
  clear hX
  go_enter Tryd.func9, Tryd.ntmps9
  go_wp2_with fail
  refine (awake3_any _).mono ?_
  rintro e w1 ⟨rfl, hb1⟩
  have B1 := Lib.hid hb1
  have C1 := Lib.hid (HC.out.below hb1)
  clear hb1
  go_wp2_with fail
  refine (HFA.out _ C1.out).mono ?_
  rintro e w2 ⟨rfl, rfl⟩
  have H3 := Lib.hid (apply_any v cs mode dir u w1 C1.out (by omega) HLB.out)
  rw [HX.out] at H3
  go_wp2_with fail
  refine H3.out.mono ?_
  rintro e w3 ⟨rfl, hb3⟩
  have B3 := Lib.hid (B1.out.trans (hb3.mono B1.out.size))
  have C3 := Lib.hid (C1.out.below hb3)
  clear hb3
  go_wp2_with fail
  refine (model3_any v cs w3 C3.out (by omega) HLA.out).mono ?_
  rintro e w4 ⟨v4, rfl, hc4, hb4⟩
  have B4 := Lib.hid (B3.out.trans (hb4.mono B3.out.size))
  have H5 := Lib.hid (rapply_any v4 cs mode dir u w4 hc4 (by omega) HLB.out)
  rw [HX.out] at H5
  clear hb4 hc4
  go_wp2_with fail
  refine H5.out.mono ?_
  rintro e w5 ⟨rfl, hb5⟩
  have B5 := Lib.hid (B4.out.trans (hb5.mono B4.out.size))
  clear hb5
  go_wp2
  go_ret
  exact ⟨rfl, B5.out⟩
theorem clausesLaw (v : Value) (cs : List CC) (mode : Int) (dir : Bool) (u : Int) (w : World) (h : ClsR w v cs) (hn : cs.length ≤ maxLen) (hl : ∀ c ∈ cs, c.acts.length ≤ maxLen) :
    Calls Tryd.prog 9 #[v, .int .i64 mode, .bool dir, .int .i64 u] w fun e w' => e = .returned (.bool true) ∧ Below w.heap.size w w' := by
  cases hf : fewB cs with
  | true => exact clauses_yes v cs mode dir u w h hn hl hf
  | false => exact clauses_no v cs mode dir u w h hn hl hf
end Go.Proofs.YtbjajipeiigodaaDoor
