/-
  The reference's Place. The condition: no more entries than a thousand.
-/
import Derived.Test.YtilepnepcamnaaaGreatWB
import Derived.Test.YtilepnepcamnaaaGreatMP
namespace Go.Proofs.YtilepnepcamnaaaGreat
open Go Go.RowKit
set_option maxRecDepth 100000

set_option maxRecDepth 100000 in
set_option maxHeartbeats 4000000 in
theorem ref_place (n : Nd) (vn vk : Value) (name : Nm) (w : World) (hN : StrsR w vn (nmA (nmE n.ents))) (hK : IntsR w vk (idE n.ents)) (hn : n.ents.length ≤ 1000) :
    Calls Tryz.prog 99 #[.agg (rfC n vn vk), .string (bA name)] w fun e w' => e = .returned (.int .i64 (plcI (isN name) n.ents)) ∧ Below w.heap.size w w' := by
  have HB1 := Lib.hid (ba w (.cells (rfC n vn vk) 75))
  have HNN := Lib.hid (hN.below (ba w (.cells (rfC n vn vk) 75)))
  obtain ⟨A1, c1, rfl⟩ := strs_form hN (nm_len _)
  obtain ⟨A2, c2, rfl⟩ := ints_form hK (idE_len _)
  have hFl : n.ents.findIdx (isN name) ≤ n.ents.length := List.findIdx_le_length
  have HLT := Lib.hid (fun (k : Nat) (e : En) (hk : n.ents[k]? = some e) (h : k < n.ents.findIdx (isN name)) => show isN name e = false by
    have h2 := List.not_of_lt_findIdx h
    obtain ⟨h3, h4⟩ := List.getElem?_eq_some_iff.1 hk
    rw [h4] at h2
    simpa using h2)
  have HEQ := Lib.hid (fun (k : Nat) (e : En) (hk : n.ents[k]? = some e) (h : k = n.ents.findIdx (isN name)) => show isN name e = true by
    subst h
    obtain ⟨h3, h4⟩ := List.getElem?_eq_some_iff.1 hk
    have h2 := List.findIdx_getElem (w := h3)
    rw [h4] at h2
    exact h2)
  have HX := Lib.hid (show plcI (isN name) n.ents = if n.ents.findIdx (isN name) < n.ents.length then (n.ents.findIdx (isN name) : Int) else -1 from rfl)
  generalize plcI (isN name) n.ents = X at HX ⊢
  generalize n.ents.findIdx (isN name) = F at hFl HLT HEQ HX
  clear hN hK
  go_enter Tryz.func99, Tryz.ntmps99
  go_wp2
  go_loopg [5] n.ents.length (fun g s5 wr => ∃ k : Nat, s5 = .int .i64 k ∧ k ≤ F ∧ g = n.ents.length - k ∧ w.alloc (.cells (rfC n (.slice A1 n.ents.length c1) (.slice A2 n.ents.length c2)) 75) = wr)
  case atStart => exact ⟨0, rfl, Nat.zero_le _, rfl, rfl⟩
  case round =>
    obtain ⟨k, rfl, hk, rfl, rfl⟩ := hrel
    by_cases hlt : k < n.ents.length
    · have hlt' : (k : Int) < (n.ents.length : Int) := by omega
      obtain ⟨e, he⟩ : ∃ e, n.ents[k]? = some e := ⟨_, List.getElem?_eq_getElem hlt⟩
      obtain ⟨ad, rfl, c0⟩ := strs_get HNN.out (nmA_at (nmE_at he))
      have HE := Lib.hid he
      clear he
      by_cases hkF : k = F
      · have hp : ((bA e.1).toList == (bA name).toList) = true := by rw [bA_list, bA_list]; exact HEQ.out k e HE.out hkF
        have HX2 := Lib.hid (show X = (k : Int) by rw [HX.out, if_pos (by omega), hkF])
        clear hkF
        go_wp2
        go_ret
        exact ⟨ret_int HX2.out.symm, HB1.out⟩
      · have hp : ((bA e.1).toList == (bA name).toList) = false := by rw [bA_list, bA_list]; exact HLT.out k e HE.out (by omega)
        have hkF2 : k + 1 ≤ F := by omega
        clear hkF
        go_wp2
        go_roundg (n.ents.length - (k + 1))
        case measure => omega
        case rel => exact ⟨k + 1, by go_num, by omega, rfl, rfl⟩
    · have hlt' : ¬ (k : Int) < (n.ents.length : Int) := by omega
      have HX2 := Lib.hid (show X = -1 by rw [HX.out, if_neg (by omega)])
      go_wp2
      go_ret
      exact ⟨ret_int HX2.out.symm, HB1.out⟩
end Go.Proofs.YtilepnepcamnaaaGreat
