/-
  The calls of package look. The conditions are said at each.
-/
import Derived.Test.YtgcllgfkifpkeaaLS
import Derived.Test.YtgcllgfkifpkeaaRR
import Derived.Deep.RegionWith
import Derived.Deep.RegionHeld3
namespace Go.Proofs.Ytgcllgfkifpkeaa
open Go Go.RowKit
set_option maxRecDepth 100000

attribute [local go_sem] cell_off4 cell_blk4
theorem tab_few {w : World} {v : Value} {t : List Nd} (h : TabP w v t) (i : Int) : Few (tget t i) := ok_few h.ok.1 i
end Go.Proofs.Ytgcllgfkifpkeaa
namespace Go.Proofs.Ytgcllgfkifpkeaa
open Go Go.RowKit
set_option maxRecDepth 100000

attribute [local go_sem] cell_off4 cell_blk4
end Go.Proofs.Ytgcllgfkifpkeaa
namespace Go.Proofs.Ytgcllgfkifpkeaa
open Go Go.RowKit
set_option maxRecDepth 100000

attribute [local go_sem] cell_off4 cell_blk4
theorem rdl_err {t : List Nd} {c : Wh} {p : Nm} {S : Sta} {E : Int} (h : staM t c p false = (S, E)) (hE : E ≠ 0) : rdlM t c p = ([], E) := by
  unfold rdlM
  rw [h, if_pos hE]
theorem rdl_kind {t : List Nd} {c : Wh} {p : Nm} {S : Sta} (h : staM t c p false = (S, 0)) (hk : S.kind ≠ 3) : rdlM t c p = ([], 22) := by
  unfold rdlM
  rw [h, if_neg (fun q => q rfl), if_pos hk]
theorem rdl_good {t : List Nd} {c : Wh} {p : Nm} {S : Sta} (h : staM t c p false = (S, 0)) (hk : S.kind = 3) : rdlM t c p = ((tget t S.node).target, 0) := by
  unfold rdlM
  rw [h, if_neg (fun q => q rfl), if_neg (fun q => q hk)]
theorem lst_err {t : List Nd} {c : Wh} {p : Nm} {S : Sta} {E : Int} (h : staM t c p true = (S, E)) (hE : E ≠ 0) : lstM t c p = ([], E) := by
  unfold lstM
  rw [h, if_pos hE]
theorem lst_kind {t : List Nd} {c : Wh} {p : Nm} {S : Sta} (h : staM t c p true = (S, 0)) (hk : S.kind ≠ 2) : lstM t c p = ([], 20) := by
  unfold lstM
  rw [h, if_neg (fun q => q rfl), if_pos hk]
theorem lst_can {t : List Nd} {c : Wh} {p : Nm} {S : Sta} (h : staM t c p true = (S, 0)) (hk : S.kind = 2) (hc : canT t c S.node 4 = false) : lstM t c p = ([], 13) := by
  unfold lstM
  rw [h, if_neg (fun q => q rfl), if_neg (fun q => q hk), if_pos hc]
theorem lst_good {t : List Nd} {c : Wh} {p : Nm} {S : Sta} (h : staM t c p true = (S, 0)) (hk : S.kind = 2) (hc : canT t c S.node 4 = true) : lstM t c p = (nmE (tget t S.node).ents, 0) := by
  unfold lstM
  rw [h, if_neg (fun q => q rfl), if_neg (fun q => q hk), if_neg (by rw [hc]; decide)]
theorem bA_nil : bA ([] : Nm) = ⟨#[]⟩ := rfl
theorem ok_rise {t : List Nd} (h : okT t) (i : Int) : rise (nmE (tget t i).ents) ∧ (tget t i).ents.length ≤ 12 := by
  rcases ok_tget h i with q | q
  · rw [q]
    exact ⟨List.Pairwise.nil, Nat.zero_le _⟩
  · rcases q.2 with q | q | q
    · rw [q.2.1]; exact ⟨List.Pairwise.nil, Nat.zero_le _⟩
    · have := q.2.2.2.2.2
      exact ⟨q.2.2.2.2.1, by omega⟩
    · rw [q.2.2.1]; exact ⟨List.Pairwise.nil, Nat.zero_le _⟩
theorem strs_none (W : World) : StrsR W (.slice none 0 0) (nmA ([] : List Nm)) := ⟨none, 0, rfl, ⟨Nat.le_refl _, fun _ => rfl⟩, fun k s h => by simp [nmA] at h⟩
end Go.Proofs.Ytgcllgfkifpkeaa
