/-
  few, of any node. The condition: a node has no more entries than a machine can hold.
-/
import Derived.Test.YtmapkmjhpebcbaaSame2
namespace Go.Proofs.Ytmapkmjhpebcbaa
open Go Go.RowKit

/-- Is a node small? -/
def fewP (n : Nd) : Prop := (∀ e ∈ n.ents, e.1.length ≤ 40) ∧ n.ents.length ≤ 20 ∧ n.data.length ≤ 100 ∧ n.target.length ≤ 100
theorem fewP.few {n : Nd} (h : fewP n) : Few n :=
  ⟨by have := h.2.2.1; omega, by have := h.2.1; omega, fun e he => by have := h.1 e he; omega, by have := h.2.2.2; omega⟩
set_option maxRecDepth 100000 in
set_option maxHeartbeats 4000000 in
theorem few_any (n : Nd) (vd ve : Value) (w : World) (hd : BytesR w vd n.data) (he : EntsR w ve n.ents) (hl : n.ents.length ≤ maxLen) :
    Calls Try.prog 37 #[nodeV n vd ve] w fun e w' => e = .returned (.bool (toB (fewP n))) ∧ Below w.heap.size w w' := by
  have hl' : n.ents.length ≤ 9223372036854775807 := by unfold maxLen at hl; omega
  have HB1 := Lib.hid (ba w (.cells (ndC n vd ve) 39))
  have HE := Lib.hid (box_ents (vd := vd) he)
  obtain ⟨A1, c1, rfl⟩ := bytes_form hd rfl
  obtain ⟨A2, c2, rfl⟩ := ents_form he rfl
  have HN := Lib.hid (fun (k : Nat) (e : En) (hk : n.ents[k]? = some e) (h : ¬ e.1.length ≤ 40) => show toB (fewP n) = false from toB_false (fun hp => h (hp.1 e (List.mem_of_getElem? hk))))
  have HY := Lib.hid (fun (h : ∀ e ∈ n.ents, e.1.length ≤ 40) => show toB (fewP n) = (decide (n.ents.length ≤ 20) && (decide (n.data.length ≤ 100) && decide (n.target.length ≤ 100))) by
    by_cases h1 : n.ents.length ≤ 20
    · by_cases h2 : n.data.length ≤ 100
      · by_cases h3 : n.target.length ≤ 100
        · rw [toB_true ⟨h, h1, h2, h3⟩, decide_eq_true h1, decide_eq_true h2, decide_eq_true h3]; rfl
        · rw [toB_false (fun hp => h3 hp.2.2.2), decide_eq_false h3, Bool.and_false, Bool.and_false]
      · rw [toB_false (fun hp => h2 hp.2.2.1), decide_eq_false h2, Bool.false_and, Bool.and_false]
    · rw [toB_false (fun hp => h1 hp.2.1), decide_eq_false h1, Bool.false_and])
  have hsz := size_bA n.target
  clear hd he hl
  generalize toB (fewP n) = X at HN HY ⊢
  unfold nodeV
  go_enter Try.func37, Try.ntmps37
  go_wp2
  go_loopg [3] n.ents.length (fun g s3 wr => ∃ k : Nat, s3 = .int .i64 k ∧ k ≤ n.ents.length ∧ g = n.ents.length - k ∧ (∀ e ∈ n.ents.take k, e.1.length ≤ 40) ∧ w.alloc (.cells (ndC n (.slice A1 n.data.length c1) (.slice A2 n.ents.length c2)) 39) = wr)
  case atStart => exact ⟨0, rfl, Nat.zero_le _, rfl, fun e h => by simp at h, rfl⟩
  case round =>
    obtain ⟨k, rfl, hk, rfl, hgo, rfl⟩ := hrel
    have HG := Lib.hid hgo
    clear hgo
    by_cases hlt : k < n.ents.length
    · obtain ⟨e, he⟩ : ∃ e, n.ents[k]? = some e := ⟨_, List.getElem?_eq_getElem hlt⟩
      obtain ⟨ad, rfl, c0, c1⟩ := ents_get HE.out he
      have HK := Lib.hid he
      have hse := size_bA e.1
      clear he
      have hlt' : (k : Int) < (n.ents.length : Int) := by omega
      by_cases h4 : e.1.length ≤ 40
      · have q4 : ¬ (40 : Int) < ((bA e.1).size : Int) := by rw [hse]; omega
        have H4 := Lib.hid h4
        clear h4 hse
        go_wp2
        go_roundg (n.ents.length - (k + 1))
        case measure => omega
        case rel => exact ⟨k + 1, by go_num, by omega, rfl, (by
          intro f hf
          rw [take_snoc' HK.out] at hf
          rcases List.mem_append.1 hf with hf | hf
          · exact HG.out f hf
          · rw [List.mem_singleton] at hf
            rw [hf]
            exact H4.out), rfl⟩
      · have q4 : (40 : Int) < ((bA e.1).size : Int) := by rw [hse]; omega
        have HF := Lib.hid (HN.out k e HK.out h4)
        clear h4 hse
        go_wp2
        go_ret
        exact ⟨ret_bool HF.out.symm, HB1.out⟩
    · have hlt' : ¬ (k : Int) < (n.ents.length : Int) := by omega
      have HF := Lib.hid (HY.out (by have := HG.out; rw [List.take_of_length_le (by omega)] at this; exact this))
      by_cases h1 : n.ents.length ≤ 20
      · have q1 : (n.ents.length : Int) ≤ 20 := by omega
        by_cases h2 : n.data.length ≤ 100
        · have q2 : (n.data.length : Int) ≤ 100 := by omega
          have HF2 := Lib.hid (show X = decide (((bA n.target).size : Int) ≤ 100) by
            rw [HF.out, decide_eq_true h1, decide_eq_true h2, Bool.true_and, Bool.true_and, hsz]
            congr 1
            apply propext
            constructor <;> intro h <;> omega)
          clear h1 h2
          go_wp2
          go_ret
          exact ⟨ret_bool HF2.out.symm, HB1.out⟩
        · have q2 : ¬ (n.data.length : Int) ≤ 100 := by omega
          have HF2 := Lib.hid (show X = false by rw [HF.out, decide_eq_false h2, Bool.false_and, Bool.and_false])
          clear h1 h2
          go_wp2
          go_ret
          exact ⟨ret_bool HF2.out.symm, HB1.out⟩
      · have q1 : ¬ (n.ents.length : Int) ≤ 20 := by omega
        have HF2 := Lib.hid (show X = false by rw [HF.out, decide_eq_false h1, Bool.false_and])
        clear h1
        go_wp2
        go_ret
        exact ⟨ret_bool HF2.out.symm, HB1.out⟩
end Go.Proofs.Ytmapkmjhpebcbaa
