/-
  Whether a node may be, and its size: upTo, entsRight, Right, Size. The conditions: no list is longer than a thousand, and no text.
-/
import Derived.Test.YtmapkmjhpebcbaaNd
namespace Go.Proofs.Ytmapkmjhpebcbaa
open Go Go.RowKit

noncomputable def toB (p : Prop) : Bool := @decide p (Classical.propDecidable p)
theorem toB_true {p : Prop} (h : p) : toB p = true := by unfold toB; exact @decide_eq_true p (Classical.propDecidable p) h
theorem toB_false {p : Prop} (h : ¬ p) : toB p = false := by unfold toB; exact @decide_eq_false p (Classical.propDecidable p) h
theorem toB_iff {p : Prop} : toB p = true ↔ p := by
  constructor
  · intro h
    by_cases hp : p
    · exact hp
    · rw [toB_false hp] at h; cases h
  · exact toB_true
/-- Is a number from 0 up to another? -/
def upB (m x : Int) : Bool := decide (0 ≤ x) && decide (x ≤ m)
theorem upB_iff {m x : Int} : upB m x = true ↔ 0 ≤ x ∧ x ≤ m := by unfold upB; rw [Bool.and_eq_true, decide_eq_true_iff, decide_eq_true_iff]
theorem upB_not {m x : Int} (h : upB m x = false) : ¬ (0 ≤ x ∧ x ≤ m) := fun h2 => by rw [upB_iff.2 h2] at h; cases h
theorem upTo_any (m x : Int) (w : World) : Calls Try.prog 51 #[.int .i64 m, .int .i64 x] w fun e w' => e = .returned (.bool (upB m x)) ∧ w = w' := by
  unfold upB
  by_cases h1 : 0 ≤ x
  · rw [decide_eq_true h1, Bool.true_and]
    go_enter Try.func51, Try.ntmps51
    go_wp2
    go_ret
    exact ⟨rfl, rfl⟩
  · rw [decide_eq_false h1, Bool.false_and]
    go_enter Try.func51, Try.ntmps51
    go_wp2
    go_ret
    exact ⟨rfl, rfl⟩
/-- Entries, as far as they are gone through. -/
def gdP (l : List En) : Prop := (∀ e ∈ l, nok e.1 = true ∧ 1 ≤ e.2) ∧ rise (nmE l)
theorem gdP_nil : gdP [] := ⟨fun e h => (by cases h), List.Pairwise.nil⟩
theorem bdN {W w : World} (h : Below W.heap.size W w) (n : Nat) : Below W.heap.size W (w.drewN n) := ⟨h.os, h.tape, h.output, h.size, h.block⟩
theorem rise_snoc {l : List Nm} {x : Nm} (h : rise l) (hx : ∀ y, l[l.length - 1]? = some y → lss y x = true) : rise (l ++ [x]) := by
  refine rise_adj (fun i a b ha hb => ?_)
  by_cases hi : i + 1 < l.length
  · rw [List.getElem?_append_left (by omega)] at ha
    rw [List.getElem?_append_left hi] at hb
    exact adj_rise h i a b ha hb
  · have hb2 := (List.getElem?_eq_some_iff.1 hb).1
    rw [List.length_append] at hb2
    simp only [List.length_cons, List.length_nil] at hb2
    rw [List.getElem?_append_right (by omega), show i + 1 - l.length = 0 by omega] at hb
    simp at hb
    subst hb
    rw [List.getElem?_append_left (by omega)] at ha
    exact hx a (by rw [show l.length - 1 = i by omega]; exact ha)
theorem gdP_snoc {l : List En} {k : Nat} {e : En} (he : l[k]? = some e) (h : gdP (l.take k)) (h1 : nok e.1 = true) (h2 : 1 ≤ e.2) (h3 : k = 0 ∨ ∃ p, l[k - 1]? = some p ∧ lss p.1 e.1 = true) : gdP (l.take (k + 1)) := by
  rw [take_snoc' he]
  refine ⟨fun f hf => ?_, ?_⟩
  · rcases List.mem_append.1 hf with hf | hf
    · exact h.1 f hf
    · rw [List.mem_singleton] at hf
      subst hf
      exact ⟨h1, h2⟩
  · rw [nmE, List.map_append]
    refine rise_snoc h.2 (fun y hy => ?_)
    rcases h3 with rfl | ⟨p, hp, hl⟩
    · simp at hy
    · have hk : 0 < k := by
        by_cases h0 : k = 0
        · subst h0
          simp at hy
        · omega
      have hlt : k - 1 < l.length := (List.getElem?_eq_some_iff.1 hp).1
      rw [List.length_map, List.length_take, List.getElem?_map, List.getElem?_take] at hy
      rw [show min k l.length - 1 = k - 1 by omega, if_pos (by omega), hp] at hy
      injection hy with hy
      rw [← hy]
      exact hl
theorem cmp_lt {a b : Nm} (h : lss b a = true) : Op.bytesLess (bA a).toList (bA b).toList = false ∧ ((bA a).toList == (bA b).toList) = false := by
  rw [bA_list, bA_list]
  exact ⟨lss_asymm h, by rw [beq_eq_false_iff_ne]; exact fun e => lss_ne h e.symm⟩
theorem cmp_ge {a b : Nm} (h : lss b a = false) : (Op.bytesLess (bA a).toList (bA b).toList = true ∧ ((bA a).toList == (bA b).toList) = false) ∨ (Op.bytesLess (bA a).toList (bA b).toList = false ∧ ((bA a).toList == (bA b).toList) = true) := by
  rw [bA_list, bA_list]
  by_cases he : a = b
  · subst he
    exact .inr ⟨lss_irrefl a, by simp⟩
  · exact .inl ⟨lss_of h (fun e => he e.symm), by rw [beq_eq_false_iff_ne]; exact he⟩
set_option maxRecDepth 100000 in
set_option maxHeartbeats 4000000 in
theorem entsRight_any (v : Value) (l : List En) (w : World) (hR : EntsR w v l) (hn : l.length ≤ 1000) (hsz : ∀ e ∈ l, e.1.length ≤ 1000) :
    Calls Try.prog 52 #[v] w fun e w' => e = .returned (.bool (toB (entsP l))) ∧ Below w.heap.size w w' := by
  obtain ⟨A, c, rfl⟩ := ents_form hR rfl
  have HR := Lib.hid hR
  clear hR
  by_cases h8 : l.length ≤ 8
  · have h8' : ¬ (8 : Int) < (l.length : Int) := by omega
    have HY := Lib.hid (show gdP l → toB (entsP l) = true from fun h => toB_true ⟨h.1, h.2, h8⟩)
    have HN1 := Lib.hid (fun (k : Nat) (e : En) (he : l[k]? = some e) (h : nok e.1 = false) => show toB (entsP l) = false from toB_false (fun hp => by rw [(hp.1 e (List.mem_of_getElem? he)).1] at h; cases h))
    have HN2 := Lib.hid (fun (k : Nat) (e : En) (he : l[k]? = some e) (h : e.2 < 1) => show toB (entsP l) = false from toB_false (fun hp => by have := (hp.1 e (List.mem_of_getElem? he)).2; omega))
    have HN3 := Lib.hid (fun (k : Nat) (e p : En) (hk : 0 < k) (he : l[k]? = some e) (hp : l[k - 1]? = some p) (h : lss p.1 e.1 = false) => show toB (entsP l) = false from toB_false (fun hp2 => by
      have := adj_rise hp2.2.1 (k - 1) p.1 e.1 (nmE_at hp) (by rw [show k - 1 + 1 = k by omega]; exact nmE_at he)
      rw [this] at h
      cases h))
    generalize toB (entsP l) = X at HY HN1 HN2 HN3 ⊢
    go_enter Try.func52, Try.ntmps52
    go_wp2
    go_loopg [10] l.length (fun g s10 wr => ∃ k : Nat, s10 = .int .i64 k ∧ k ≤ l.length ∧ g = l.length - k ∧ gdP (l.take k) ∧ Below w.heap.size w wr)
    case atStart => exact ⟨0, rfl, Nat.zero_le _, rfl, gdP_nil, Below.refl _ _⟩
    case round =>
      obtain ⟨k, rfl, hk, rfl, hgd, hbr⟩ := hrel
      have HGD := Lib.hid hgd
      have HB := Lib.hid hbr
      clear hgd hbr
      by_cases hlt : k < l.length
      · obtain ⟨e, he⟩ : ∃ e, l[k]? = some e := ⟨_, List.getElem?_eq_getElem hlt⟩
        obtain ⟨ad, rfl, c0, c1⟩ := ents_get (HR.out.below HB.out) he
        have HE := Lib.hid he
        have HNM := Lib.hid (fun W => Name_any (bA e.1) W (by rw [size_bA]; have := hsz e (List.mem_of_getElem? he); unfold maxLen; omega))
        rw [nam_nok, tl_bA] at HNM
        clear he
        obtain ⟨NK, hNK⟩ : ∃ NK, nok e.1 = NK := ⟨_, rfl⟩
        rw [hNK] at HNM
        have HK := Lib.hid hNK
        clear hNK
        have hbA := ba wr (.cells #[.string (bA e.1), .int .i64 e.2] 72)
        have HBA := Lib.hid (bt hbA HB.out)
        have hadl : (ad.add (k * 2)).block < wr.heap.size := World.block_lt_of_cell? _ _ c0
        cases NK with
        | false =>
          go_wp2_with fail
          refine (HNM.out _).mono ?_
          rintro e3 w3 ⟨rfl, rfl⟩
          go_wp2
          go_ret
          exact ⟨ret_bool (HN1.out k e HE.out HK.out).symm, HBA.out⟩
        | true =>
          by_cases h2 : e.2 < 1
          · go_wp2_with fail
            refine (HNM.out _).mono ?_
            rintro e3 w3 ⟨rfl, rfl⟩
            go_wp2
            go_ret
            exact ⟨ret_bool (HN2.out k e HE.out h2).symm, HBA.out⟩
          · by_cases h0 : k = 0
            · have hk0 : decide (0 < k) = false := by simp; omega
              have hk1 : ¬ (0 : Int) < (k : Int) := by omega
              have HK0 := Lib.hid h0
              clear h0
              go_wp2_with fail
              refine (HNM.out _).mono ?_
              rintro e3 w3 ⟨rfl, rfl⟩
              have HH2 := Lib.hid h2
              go_wp2_with fail
              go_quiet (fail)
              go_wp2
              go_roundg (l.length - (k + 1))
              case measure => omega
              case rel => exact ⟨k + 1, by go_num, by omega, rfl, gdP_snoc HE.out HGD.out HK.out (by have := HH2.out; omega) (.inl HK0.out), bdN HBA.out _⟩
            · obtain ⟨p, hp⟩ : ∃ p, l[k - 1]? = some p := ⟨_, List.getElem?_eq_getElem (by omega)⟩
              obtain ⟨ad2, hA2, d0, d1⟩ := ents_get (HR.out.below HB.out) hp
              injection hA2 with hA2
              subst hA2
              have HP := Lib.hid hp
              clear hp
              have d0' := bc hbA d0
              obtain ⟨j, hj⟩ : ∃ j, j = k - 1 := ⟨_, rfl⟩
              rw [← hj] at d0 d1 d0' HP
              have kj1 : (k : Int) - 1 = (j : Int) := by omega
              have kj2 : IntKind.i64.wrap ((k : Int) - 1) = (j : Int) := by rw [IntKind.wrap_i64]; omega
              have kj3 : (j : Int) < (l.length : Int) := by omega
              have kj4 : j < l.length := by omega
              have hk0 : decide (0 < k) = true := by simp; omega
              have hk1 : (0 : Int) < (k : Int) := by omega
              have HJ := Lib.hid hj
              have HK0 := Lib.hid h0
              have HH2 := Lib.hid h2
              clear hj h0 d1 hbA
              by_cases hl : lss p.1 e.1 = true
              · obtain ⟨m1, m2⟩ := cmp_lt hl
                have HL := Lib.hid hl
                clear hl
                go_wp2_with fail
                refine (HNM.out _).mono ?_
                rintro e3 w3 ⟨rfl, rfl⟩
                go_wp2_with fail
                go_quiet (fail)
                go_wp2
                go_roundg (l.length - (k + 1))
                case measure => omega
                case rel => exact ⟨k + 1, by go_num, by omega, rfl, gdP_snoc HE.out HGD.out HK.out (by have := HH2.out; omega) (.inr ⟨p, by rw [← HJ.out]; exact HP.out, HL.out⟩), bdN HBA.out _⟩
              · have hl' : lss p.1 e.1 = false := by simpa using hl
                have HF := Lib.hid (HN3.out k e p (by have := HK0.out; omega) HE.out (by rw [← HJ.out]; exact HP.out) hl')
                clear hl
                rcases cmp_ge hl' with ⟨m1, m2⟩ | ⟨m1, m2⟩
                all_goals (
                  clear hl'
                  go_wp2_with fail
                  refine (HNM.out _).mono ?_
                  rintro e3 w3 ⟨rfl, rfl⟩
                  go_wp2_with fail
                  go_quiet (fail)
                  go_wp2
                  go_ret
                  exact ⟨ret_bool HF.out.symm, bdN HBA.out _⟩)
      · have hY := HY.out (by have := HGD.out; rw [List.take_of_length_le (by omega)] at this; exact this)
        have HY2 := Lib.hid hY
        clear hY
        go_wp2
        go_ret
        exact ⟨ret_bool HY2.out.symm, HB.out⟩
  · have h8' : (8 : Int) < (l.length : Int) := by omega
    have HF := Lib.hid (show toB (entsP l) = false from toB_false (fun h => h8 h.2.2))
    clear h8
    go_enter Try.func52, Try.ntmps52
    go_wp2
    go_ret
    exact ⟨ret_bool HF.out.symm, Below.refl _ _⟩
end Go.Proofs.Ytmapkmjhpebcbaa
