/-
  Where an entry stands, and where a new one belongs: the two closures, slices.IndexFunc with each, placeOf and placeFor. The condition: no more entries than a million.
-/
import Derived.Test.YtibmnafnandodaaEnts
import Derived.Laws.Cover1
namespace Go.Proofs.Ytibmnafnandodaa
open Go Go.RowKit

/-- Is it the entry with a name? -/
def isN (name : Nm) (e : En) : Bool := e.1 == name
/-- Is its name greater? -/
def gtN (name : Nm) (e : En) : Bool := lss name e.1
theorem gt_lss (a b : Nm) : (!(lss a b || a == b)) = lss b a := by
  by_cases h : a = b
  · subst h
    simp [lss_irrefl]
  · have hb : (a == b) = false := by rw [beq_eq_false_iff_ne]; exact h
    rw [hb, Bool.or_false]
    cases hl : lss a b with
    | true => rw [lss_asymm hl]; rfl
    | false => rw [lss_of hl h]; rfl
theorem le_lss (a b : Nm) : (lss a b || a == b) = !lss b a := by rw [← gt_lss a b, Bool.not_not]
/-- The place of the first entry of a kind; -1: there is none. -/
def plcI (p : En → Bool) (l : List En) : Int := if l.findIdx p < l.length then (l.findIdx p : Int) else -1
theorem clOf (n name : Nm) (i : Int) (b : Nat) (w : World) (hb : w.cell? ⟨b, 0, none⟩ = some (.string (bA name))) :
    Calls Try.prog 44 #[.agg #[.string (bA n), .int .i64 i], .pointer (some ⟨b, 0, none⟩)] w fun e w' => e = .returned (.bool (isN name (n, i))) ∧ Below w.heap.size w w' := by
  have hb1 := bc (ba w (.cells #[.string (bA n), .int .i64 i] 49)) hb
  have HF := Lib.hid (show ((bA n).toList == (bA name).toList) = isN name (n, i) by rw [bA_list, bA_list]; first | rfl | (rw [← Bool.not_or]; exact gt_lss n name))
  go_enter Try.func44, Try.ntmps44
  go_wp2
  go_ret
  exact ⟨ret_bool HF.out, ba _ _⟩
theorem ixOf (v : Value) (l : List En) (name : Nm) (b : Nat) (w : World) (hR : EntsR w v l) (hb : w.cell? ⟨b, 0, none⟩ = some (.string (bA name))) (hn : l.length ≤ 1000000) :
    Calls Try.prog 42 #[v, .func (.func 44) #[] #[.pointer (some ⟨b, 0, none⟩)]] w fun e w' => e = .returned (.int .i64 (plcI (isN name) l)) ∧ Below w.heap.size w w' := by
  obtain ⟨A, c, rfl⟩ := ents_form hR rfl
  have HR := Lib.hid hR
  have HC := Lib.hid hb
  clear hR hb
  have hFl : l.findIdx (isN name) ≤ l.length := List.findIdx_le_length
  have HLT := Lib.hid (fun (k : Nat) (e : En) (hk : l[k]? = some e) (h : k < l.findIdx (isN name)) => show isN name e = false by
    have h2 := List.not_of_lt_findIdx h
    obtain ⟨h3, h4⟩ := List.getElem?_eq_some_iff.1 hk
    rw [h4] at h2
    simpa using h2)
  have HEQ := Lib.hid (fun (k : Nat) (e : En) (hk : l[k]? = some e) (h : k = l.findIdx (isN name)) => show isN name e = true by
    subst h
    obtain ⟨h3, h4⟩ := List.getElem?_eq_some_iff.1 hk
    have h2 := List.findIdx_getElem (w := h3)
    rw [h4] at h2
    exact h2)
  have HX := Lib.hid (show plcI (isN name) l = if l.findIdx (isN name) < l.length then (l.findIdx (isN name) : Int) else -1 from rfl)
  generalize plcI (isN name) l = X at HX ⊢
  generalize l.findIdx (isN name) = F at hFl HLT HEQ HX
  go_enter Try.func42, Try.ntmps42
  go_wp2
  go_loopg [8] l.length (fun g s8 wr => ∃ k : Nat, s8 = .int .i64 k ∧ k ≤ F ∧ g = l.length - k ∧ Below w.heap.size w wr)
  case atStart => exact ⟨0, rfl, Nat.zero_le _, rfl, Below.refl _ _⟩
  case round =>
    obtain ⟨k, rfl, hk, rfl, hbr⟩ := hrel
    have HB := Lib.hid hbr
    clear hbr
    by_cases hlt : k < l.length
    · obtain ⟨e, he⟩ : ∃ e, l[k]? = some e := ⟨_, List.getElem?_eq_getElem hlt⟩
      obtain ⟨ad, rfl, c0, c1⟩ := ents_get (HR.out.below HB.out) he
      have HE := Lib.hid he
      clear he
      by_cases hkF : k = F
      · have HP := Lib.hid (HEQ.out k e HE.out hkF)
        have HX2 := Lib.hid (show X = (k : Int) by rw [HX.out, if_pos (by omega), hkF])
        clear hkF
        go_wp2_with fail
        refine (clOf e.1 name e.2 b _ (bc HB.out HC.out)).mono ?_
        rintro e3 w3 ⟨rfl, hb3⟩
        have HB3 := Lib.hid (bt hb3 HB.out)
        clear hb3 c0 c1
        rw [show (e.1, e.2) = e from rfl, HP.out]
        go_wp2
        go_ret
        exact ⟨ret_int HX2.out.symm, HB3.out⟩
      · have HP := Lib.hid (HLT.out k e HE.out (by omega))
        have hkF2 : k + 1 ≤ F := by omega
        clear hkF
        go_wp2_with fail
        refine (clOf e.1 name e.2 b _ (bc HB.out HC.out)).mono ?_
        rintro e3 w3 ⟨rfl, hb3⟩
        have HB3 := Lib.hid (bt hb3 HB.out)
        clear hb3 c0 c1
        rw [show (e.1, e.2) = e from rfl, HP.out]
        go_wp2
        go_roundg (l.length - (k + 1))
        case measure => omega
        case rel => exact ⟨k + 1, by go_num, by omega, rfl, HB3.out⟩
    · have HX2 := Lib.hid (show X = -1 by rw [HX.out, if_neg (by omega)])
      go_wp2
      go_ret
      exact ⟨ret_int HX2.out.symm, HB.out⟩
theorem clFor (n name : Nm) (i : Int) (b : Nat) (w : World) (hb : w.cell? ⟨b, 0, none⟩ = some (.string (bA name))) :
    Calls Try.prog 43 #[.agg #[.string (bA n), .int .i64 i], .pointer (some ⟨b, 0, none⟩)] w fun e w' => e = .returned (.bool (gtN name (n, i))) ∧ Below w.heap.size w w' := by
  have hb1 := bc (ba w (.cells #[.string (bA n), .int .i64 i] 49)) hb
  have HF := Lib.hid (show (!Op.bytesLess (bA n).toList (bA name).toList && !((bA n).toList == (bA name).toList)) = gtN name (n, i) by rw [bA_list, bA_list]; first | rfl | (rw [← Bool.not_or]; exact gt_lss n name))
  go_enter Try.func43, Try.ntmps43
  go_wp2
  go_ret
  exact ⟨ret_bool HF.out, ba _ _⟩
theorem ixFor (v : Value) (l : List En) (name : Nm) (b : Nat) (w : World) (hR : EntsR w v l) (hb : w.cell? ⟨b, 0, none⟩ = some (.string (bA name))) (hn : l.length ≤ 1000000) :
    Calls Try.prog 42 #[v, .func (.func 43) #[] #[.pointer (some ⟨b, 0, none⟩)]] w fun e w' => e = .returned (.int .i64 (plcI (gtN name) l)) ∧ Below w.heap.size w w' := by
  obtain ⟨A, c, rfl⟩ := ents_form hR rfl
  have HR := Lib.hid hR
  have HC := Lib.hid hb
  clear hR hb
  have hFl : l.findIdx (gtN name) ≤ l.length := List.findIdx_le_length
  have HLT := Lib.hid (fun (k : Nat) (e : En) (hk : l[k]? = some e) (h : k < l.findIdx (gtN name)) => show gtN name e = false by
    have h2 := List.not_of_lt_findIdx h
    obtain ⟨h3, h4⟩ := List.getElem?_eq_some_iff.1 hk
    rw [h4] at h2
    simpa using h2)
  have HEQ := Lib.hid (fun (k : Nat) (e : En) (hk : l[k]? = some e) (h : k = l.findIdx (gtN name)) => show gtN name e = true by
    subst h
    obtain ⟨h3, h4⟩ := List.getElem?_eq_some_iff.1 hk
    have h2 := List.findIdx_getElem (w := h3)
    rw [h4] at h2
    exact h2)
  have HX := Lib.hid (show plcI (gtN name) l = if l.findIdx (gtN name) < l.length then (l.findIdx (gtN name) : Int) else -1 from rfl)
  generalize plcI (gtN name) l = X at HX ⊢
  generalize l.findIdx (gtN name) = F at hFl HLT HEQ HX
  go_enter Try.func42, Try.ntmps42
  go_wp2
  go_loopg [8] l.length (fun g s8 wr => ∃ k : Nat, s8 = .int .i64 k ∧ k ≤ F ∧ g = l.length - k ∧ Below w.heap.size w wr)
  case atStart => exact ⟨0, rfl, Nat.zero_le _, rfl, Below.refl _ _⟩
  case round =>
    obtain ⟨k, rfl, hk, rfl, hbr⟩ := hrel
    have HB := Lib.hid hbr
    clear hbr
    by_cases hlt : k < l.length
    · obtain ⟨e, he⟩ : ∃ e, l[k]? = some e := ⟨_, List.getElem?_eq_getElem hlt⟩
      obtain ⟨ad, rfl, c0, c1⟩ := ents_get (HR.out.below HB.out) he
      have HE := Lib.hid he
      clear he
      by_cases hkF : k = F
      · have HP := Lib.hid (HEQ.out k e HE.out hkF)
        have HX2 := Lib.hid (show X = (k : Int) by rw [HX.out, if_pos (by omega), hkF])
        clear hkF
        go_wp2_with fail
        refine (clFor e.1 name e.2 b _ (bc HB.out HC.out)).mono ?_
        rintro e3 w3 ⟨rfl, hb3⟩
        have HB3 := Lib.hid (bt hb3 HB.out)
        clear hb3 c0 c1
        rw [show (e.1, e.2) = e from rfl, HP.out]
        go_wp2
        go_ret
        exact ⟨ret_int HX2.out.symm, HB3.out⟩
      · have HP := Lib.hid (HLT.out k e HE.out (by omega))
        have hkF2 : k + 1 ≤ F := by omega
        clear hkF
        go_wp2_with fail
        refine (clFor e.1 name e.2 b _ (bc HB.out HC.out)).mono ?_
        rintro e3 w3 ⟨rfl, hb3⟩
        have HB3 := Lib.hid (bt hb3 HB.out)
        clear hb3 c0 c1
        rw [show (e.1, e.2) = e from rfl, HP.out]
        go_wp2
        go_roundg (l.length - (k + 1))
        case measure => omega
        case rel => exact ⟨k + 1, by go_num, by omega, rfl, HB3.out⟩
    · have HX2 := Lib.hid (show X = -1 by rw [HX.out, if_neg (by omega)])
      go_wp2
      go_ret
      exact ⟨ret_int HX2.out.symm, HB.out⟩
theorem placeOf_any (v : Value) (l : List En) (name : Nm) (w : World) (hR : EntsR w v l) (hn : l.length ≤ 1000000) :
    Calls Try.prog 28 #[v, .string (bA name)] w fun e w' => e = .returned (.int .i64 (plcI (isN name) l)) ∧ Below w.heap.size w w' := by
  have hmf : ∀ (fn : Fn) (first cap : Array Value) (w : World), (Instr.makeFunc fn first cap).run Try.prog w = .ok (.func fn first cap) w := fun _ _ _ _ => rfl
  have H := Lib.hid (ixOf v l name w.heap.size _ (hR.below (ba w (.cells #[.string (bA name)] 9))) (by simp) hn)
  have HB := Lib.hid (ba w (.cells #[.string (bA name)] 9))
  clear hR
  generalize plcI (isN name) l = X at H ⊢
  go_enter Try.func28, Try.ntmps28
  go_wp2_with fail
  refine H.out.mono ?_
  rintro e w2 ⟨rfl, hb2⟩
  have HB2 := Lib.hid (bt hb2 HB.out)
  clear hb2
  go_wp2
  go_ret
  exact ⟨rfl, HB2.out⟩
theorem placeFor_any (v : Value) (l : List En) (name : Nm) (w : World) (hR : EntsR w v l) (hn : l.length ≤ 1000000) :
    Calls Try.prog 24 #[v, .string (bA name)] w fun e w' => e = .returned (.int .i64 (l.findIdx (gtN name) : Nat)) ∧ Below w.heap.size w w' := by
  have hmf : ∀ (fn : Fn) (first cap : Array Value) (w : World), (Instr.makeFunc fn first cap).run Try.prog w = .ok (.func fn first cap) w := fun _ _ _ _ => rfl
  have H := Lib.hid (ixFor v l name w.heap.size _ (hR.below (ba w (.cells #[.string (bA name)] 9))) (by simp) hn)
  have HB := Lib.hid (ba w (.cells #[.string (bA name)] 9))
  obtain ⟨A, c, rfl⟩ := ents_form hR rfl
  clear hR
  have hFl : l.findIdx (gtN name) ≤ l.length := List.findIdx_le_length
  unfold plcI at H
  generalize l.findIdx (gtN name) = F at H hFl ⊢
  by_cases h : F < l.length
  · rw [if_pos h] at H
    go_enter Try.func24, Try.ntmps24
    go_wp2_with fail
    refine H.out.mono ?_
    rintro e w2 ⟨rfl, hb2⟩
    have HB2 := Lib.hid (bt hb2 HB.out)
    clear hb2
    go_wp2
    go_ret
    exact ⟨rfl, HB2.out⟩
  · rw [if_neg h] at H
    have hF := Lib.hid (show l.length = F by omega)
    go_enter Try.func24, Try.ntmps24
    go_wp2_with fail
    refine H.out.mono ?_
    rintro e w2 ⟨rfl, hb2⟩
    have HB2 := Lib.hid (bt hb2 HB.out)
    clear hb2
    go_wp2
    go_ret
    exact ⟨ret_int (by rw [hF.out]), HB2.out⟩
end Go.Proofs.Ytibmnafnandodaa
