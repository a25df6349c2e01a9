/-
  The walk of ApplyParts: it answers true of every two slices of clauses, mode, kind and umask. Memory may be shared between the two.
-/
import Derived.Test.YtbjajipeiigodaaDoorAwake
import Derived.Test.YtbjajipeiigodaaDoorAMath
namespace Go.Proofs.YtbjajipeiigodaaDoor
open Go Go.RowKit

/-- Are clauses few, and their acts? -/
def fewB (cs : List CC) : Bool := cs.all (fun c => decide (c.acts.length ≤ 20)) && decide (cs.length ≤ 20)
theorem few_of {cs : List CC} (h : fewB cs = true) : cs.length ≤ 20 ∧ ∀ c ∈ cs, c.acts.length ≤ 20 := by
  simp only [fewB, Bool.and_eq_true, decide_eq_true_eq, List.all_eq_true] at h
  exact ⟨h.2, h.1⟩
set_option maxRecDepth 100000 in
set_option maxHeartbeats 1000000 in
theorem few_any (v : Value) (cs : List CC) (w : World) (h : ClsR w v cs) (hn : cs.length ≤ maxLen) (hl : ∀ c ∈ cs, c.acts.length ≤ maxLen) : Calls Tryd.prog 28 #[v] w fun e w' => e = .returned (.bool (fewB cs)) ∧ w = w' := by
  unfold maxLen at hn
  have HL := Lib.hid hl
  clear hl
  obtain ⟨A, c, rfl, hc⟩ := h
  have HC := Lib.hid hc
  clear hc
  obtain ⟨R, hR⟩ : ∃ R, fewB cs = R := ⟨_, rfl⟩
  have HR := Lib.hid hR
  rw [hR]
  clear hR
  go_enter Tryd.func28, Tryd.ntmps28
  go_wp2
  go_loop [3] (fun i => ∃ k : Nat, k ≤ cs.length ∧ i = .int .i64 k ∧ (cs.take k).all (fun c => decide (c.acts.length ≤ 20)) = true) (fun i => cs.length - (intOf i).toNat)
  case atStart => exact ⟨0, Nat.zero_le _, rfl, rfl⟩
  case round =>
    obtain ⟨k, hk, rfl, hall⟩ := hrel
    have HALL := Lib.hid hall
    clear hall
    by_cases hlt : k < cs.length
    · obtain ⟨x, hx⟩ : ∃ x, cs[k]? = some x := ⟨_, List.getElem?_eq_getElem hlt⟩
      obtain ⟨ad, va, rfl, c0, c1, hA⟩ := HC.out k x hx
      obtain ⟨who, acts⟩ := x
      obtain ⟨A', c', rfl, -⟩ := hA
      have hal : acts.length ≤ 9223372036854775807 := by have := HL.out _ (List.mem_of_getElem? hx); unfold maxLen at this; simpa using this
      have HX := Lib.hid hx
      clear hx c0
      simp only at c1
      by_cases hq : (20 : Int) < acts.length
      · have HF := Lib.hid (show R = false by
          rw [← HR.out, fewB]
          have : cs.all (fun c => decide (c.acts.length ≤ 20)) = false := by
            rw [List.all_eq_false]
            exact ⟨_, List.mem_of_getElem? HX.out, by simp; omega⟩
          rw [this]; rfl)
        go_wp2
        go_ret
        exact ⟨ret_bool HF.out.symm, rfl⟩
      · have HN := Lib.hid (show (cs.take (k + 1)).all (fun c => decide (c.acts.length ≤ 20)) = true by
          rw [take_snoc' HX.out, List.all_append, HALL.out]
          simp; omega)
        go_wp2
        go_round
        case rel => exact ⟨k + 1, by omega, by go_num, HN.out⟩
        case measure => simp [intOf]; omega
    · have HF := Lib.hid (show R = decide ((cs.length : Int) ≤ 20) by
        rw [← HR.out, fewB]
        have h1 := HALL.out
        rw [List.take_of_length_le (by omega)] at h1
        rw [h1, Bool.true_and]
        congr 1
        rw [eq_iff_iff]
        omega)
      go_wp2
      go_ret
      exact ⟨ret_bool (by rw [HF.out]), rfl⟩

theorem ClsR.pairs {w : World} {ad : Addr} {n c : Nat} {cs : List CC} (h : ClsR w (.slice (some ad) n c) cs) : n = cs.length ∧ ∃ l : List (CC × Value), l.map (·.1) = cs ∧ (∀ j u, (cCells l)[j]? = some u → w.cell? (ad.add j) = some u) ∧ ∀ p ∈ l, ActsR w p.2 p.1.acts ∧ p.2.oneCell' = true := by
  obtain ⟨A, c', hv, hc⟩ := h
  injection hv with hA hn hcap
  subst hA hn hcap
  refine ⟨rfl, ?_⟩
  have key : ∀ k : Fin cs.length, ∃ va : Value, w.cell? (ad.add (k.val * 2)) = some (.int .i64 cs[k].who) ∧ w.cell? ⟨(ad.add (k.val * 2)).block, (ad.add (k.val * 2)).off + 1, none⟩ = some va ∧ ActsR w va cs[k].acts := by
    intro k
    obtain ⟨ad', va, e, h0, h1, h2⟩ := hc k.val cs[k] (List.getElem?_eq_getElem k.isLt)
    injection e with e
    subst e
    exact ⟨va, h0, h1, h2⟩
  refine ⟨List.ofFn fun k : Fin cs.length => (cs[k], Classical.choose (key k)), ?_, ?_, ?_⟩
  · rw [List.map_ofFn]
    exact List.ofFn_getElem
  · intro j u hj
    have hjl : j / 2 < cs.length := by
      have h1 := (List.getElem?_eq_some_iff.1 hj).1
      rw [cCells_len, List.length_ofFn] at h1
      omega
    have hs := Classical.choose_spec (key ⟨j / 2, hjl⟩)
    have ha := cCells_at (List.ofFn fun k : Fin cs.length => (cs[k], Classical.choose (key k))) (j / 2) (cs[j / 2], Classical.choose (key ⟨j / 2, hjl⟩)) (by rw [List.getElem?_ofFn, dif_pos hjl]; rfl)
    rcases Nat.mod_two_eq_zero_or_one j with h | h
    · have e : j = j / 2 * 2 := by omega
      rw [e] at hj ⊢
      rw [ha.1] at hj
      injection hj with hj
      rw [← hj]
      have e2 : j / 2 * 2 / 2 = j / 2 := by omega
      exact hs.1
    · have e : j = j / 2 * 2 + 1 := by omega
      have hj2 := hj
      rw [e, ha.2] at hj2
      injection hj2 with hj2
      rw [← hj2]
      have e3 : ad.add j = ⟨(ad.add (j / 2 * 2)).block, (ad.add (j / 2 * 2)).off + 1, none⟩ := by
        conv => lhs; rw [e]
        unfold Addr.add
        by_cases hz : j / 2 * 2 = 0
        · simp [hz]
        · simp [hz, Nat.add_assoc]
      rw [e3]
      exact hs.2.1
  · intro p hp
    rw [List.mem_ofFn] at hp
    obtain ⟨k, rfl⟩ := hp
    have hs := Classical.choose_spec (key k)
    refine ⟨hs.2.2, ?_⟩
    obtain ⟨A, c, hv, _⟩ := hs.2.2
    simp only
    rw [hv]
    rfl
theorem cls_some {w : World} {A : Option Addr} {n c : Nat} {cs : List CC} (h : ClsR w (.slice A n c) cs) (hn : cs ≠ []) : ∃ ad, A = some ad := by
  obtain ⟨A', c', hv, hc⟩ := h
  injection hv with hA _ _
  subst hA
  cases cs with
  | nil => exact absurd rfl hn
  | cons x cs =>
    obtain ⟨ad, _, hA, _⟩ := hc 0 x rfl
    exact ⟨ad, hA⟩
theorem right_ne {cs : List CC} (h : rightC cs = true) : cs ≠ [] := by
  intro e
  subst e
  simp [rightC] at h
theorem right_append {a b : List CC} (ha : rightC a = true) (hb : rightC b = true) : rightC (a ++ b) = true := by
  simp only [rightC, Bool.and_eq_true] at ha hb ⊢
  refine ⟨by rw [List.all_append, ha.1, hb.1]; rfl, ?_⟩
  cases a with
  | nil => simp at ha
  | cons x a => rfl
/-- Clauses one behind the other. -/
theorem applyM_append {a b : List CC} (ha : rightC a = true) (hb : rightC b = true) (mode : Int) (dir : Bool) (u : Int) : applyM (a ++ b) mode dir u = applyM b (applyM a mode dir u) dir u := by
  rw [applyM, if_pos (right_append ha hb), applyM, if_pos hb, applyM, if_pos ha]
  have hlt := foldM_lt (u % 4096).toNat dir a (mode % 4096).toNat (by omega)
  have e : (((foldM (u % 4096).toNat dir a (mode % 4096).toNat : Nat) : Int) % 4096).toNat = foldM (u % 4096).toNat dir a (mode % 4096).toNat := by omega
  rw [e]
  simp only [foldM, List.foldl_append]
end Go.Proofs.YtbjajipeiigodaaDoor
