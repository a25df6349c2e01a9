/-
  slices.Delete of one entry, in a row with no place to spare. The condition: no more entries than a thousand.
-/
import Derived.Test.YtibmnafnandodaaInsert
namespace Go.Proofs.Ytibmnafnandodaa
open Go Go.RowKit

theorem EntsR.of_cells {w : World} {g : Nat} {l : List En} {n : Nat} (c : Nat) (hn : l.length = n) (h : ∀ (j : Nat) (u : Value), (eCells l)[j]? = some u → w.cell? ⟨g, j, none⟩ = some u) : EntsR w (.slice (some ⟨g, 0, none⟩) n c) l := by
  subst hn
  refine ⟨_, c, rfl, fun k e hk => ⟨_, rfl, ?_⟩⟩
  obtain ⟨h0, h1⟩ := eCells_at l k e hk
  rw [add_lit]
  exact ⟨h _ _ h0, h _ _ h1⟩
theorem grown_setCells (b : Nat) : ∀ (vs : List Value) (o : Nat) (w : World), w.grownBy (w.setCells b o vs) (some b)
  | [], _, w => ⟨rfl, rfl, rfl, Nat.le_refl _, fun _ _ _ => rfl⟩
  | v :: r, o, w => by
    rw [World.setCells]
    exact grown_trans (grown_setCell w ⟨b, o, none⟩ v) (grown_setCells b r (o + 1) _)
theorem blk_setCells {g : Nat} {t : TypeId} : ∀ (vs : List Value) (o : Nat) (w : World) (cs : Array Value), Blk w g t cs → ∃ cs', Blk (w.setCells g o vs) g t cs'
  | [], _, _, cs, h => ⟨cs, h⟩
  | v :: r, o, w, cs, h => by
    rw [World.setCells]
    exact blk_setCells r (o + 1) _ _ (h.set_ o v)
theorem grown_drew (w : World) (r : Option Nat) : w.grownBy w.drew r := ⟨rfl, rfl, rfl, Nat.le_refl _, fun _ _ _ => rfl⟩
/-- clear of one entry. -/
theorem run_clear_ent (w : World) (ty : TypeId) (b o c : Nat) (hc : ∀ j, j < 2 → (w.cell? ⟨b, o + j, none⟩).isSome = true) (hf : ∀ j, j < 2 → w.frozen? ⟨b, o + j, none⟩ = false) :
    (Builtin.clear_ #[23] ty #[.slice (some ⟨b, o, none⟩) 1 c]).run Try.prog w = .ok (.tuple #[]) (w.setCells b o [.string ⟨#[]⟩, .int .i64 0]) := by
  have hv : (zeroValue 49).run Try.prog w = .ok (.agg #[.string ⟨#[]⟩, .int .i64 0]) w := by kernel_rfl
  have hzc : (Builtin.zeroCells (Value.agg #[.string ⟨#[]⟩, .int .i64 0]).cells 1).toList = [.string ⟨#[]⟩, .int .i64 0] := by kernel_rfl
  have hst := run_storeCells_cells (P := Try.prog) b o [.string ⟨#[]⟩, .int .i64 0] 0 w (by simpa using hc) (by simpa using hf) (by intro v hv'; simp at hv'; rcases hv' with rfl | rfl <;> rfl)
  simp only [Nat.add_zero] at hst
  simp [Builtin.clear_, run_underlying Try.underlying23, hv, hzc, hst]
set_option maxHeartbeats 4000000 in
set_option maxRecDepth 100000 in
theorem delete_any (g : Nat) (l : List En) (k : Nat) (w : World) (hk : Blk w g 49 (eCells l).toArray) (hkl : k < l.length) (hn : l.length ≤ 1000) :
    Calls Try.prog 29 #[.slice (some ⟨g, 0, none⟩) l.length l.length, .int .i64 (k : Int), .int .i64 ((k : Int) + 1)] w fun e' w' => ∃ v', e' = .returned v' ∧ EntsT w' v' (l.take k ++ l.drop (k + 1)) ∧ w.grownBy w' (some g) := by
  obtain ⟨i0, hi0, hz0, hzs, hzb⟩ := info_parts info_ent
  have hcell : ∀ (j : Nat) (u : Value), (eCells l)[j]? = some u → w.cell? ⟨g, j, none⟩ = some u := by
    intro j u hj
    rw [hk.cell j, List.getElem?_toArray]
    exact hj
  have hsome : ∀ j, j < l.length * 2 → (w.cell? ⟨g, j, none⟩).isSome = true := by
    intro j hj
    rw [hk.cell j, List.getElem?_toArray, List.getElem?_eq_getElem (by rw [eCells_len]; exact hj)]
    rfl
  have hfro : ∀ j, w.frozen? ⟨g, j, none⟩ = false := hk.frozen
  have hld : (eCells (l.drop (k + 1))).length = (l.length - (k + 1)) * 2 := by rw [eCells_len, List.length_drop]
  have hlt : (eCells (l.take k)).length = k * 2 := by rw [eCells_len, List.length_take, Nat.min_eq_left (by omega)]
  obtain ⟨news, hnews⟩ : ∃ news, news = eCells (l.drop (k + 1)) := ⟨_, rfl⟩
  obtain ⟨A, hA, hsrc⟩ : ∃ A : Addr, (if l.length = k + 1 then some (⟨g, 0, none⟩ : Addr) else some ⟨g, (k + 1) * 2, none⟩) = some A ∧ Hid (∀ t u, news[t]? = some u → w.drew.cell? (A.add t) = some u) := by
    by_cases h : l.length = k + 1
    · refine ⟨⟨g, 0, none⟩, by simp [h], fun t u hu => ?_⟩
      rw [hnews, List.drop_eq_nil_of_le (by omega)] at hu
      simp [eCells] at hu
    · refine ⟨⟨g, (k + 1) * 2, none⟩, by simp [h], fun t u hu => ?_⟩
      rw [Addr.add_lit]
      refine hcell _ u ?_
      rw [hnews, ← eCells_drop, List.getElem?_drop] at hu
      exact hu
  have s1 : Hid (news.length = (l.length - (k + 1)) * 2) := by rw [hnews]; exact hld
  have s2 : Hid (∀ u ∈ news, u.oneCell' = true) := by rw [hnews]; exact eCells_one _
  have s3 : Hid (∀ t, t < news.length → (w.drew.cell? ⟨g, 0 + k * 2 + t, none⟩).isSome = true ∧ w.drew.frozen? ⟨g, 0 + k * 2 + t, none⟩ = false) := by
    intro t ht
    rw [s1.out] at ht
    exact ⟨hsome _ (by omega), hfro _⟩
  obtain ⟨W1, hW1⟩ : ∃ W1, W1 = w.drew.setCells g (0 + k * 2) news := ⟨_, rfl⟩
  have hW : Hid (W1 = w.drew.setCells g (0 + k * 2) news) := hW1
  have hW1o : ∀ j, j < k * 2 → W1.cell? ⟨g, j, none⟩ = w.cell? ⟨g, j, none⟩ := by
    intro j hj
    rw [hW1, World.cell?_setCells_out _ _ _ _ _ (fun _ _ => .inl (by show j < 0 + k * 2; omega))]
    rfl
  have hW1i : ∀ j, j < (l.length - (k + 1)) * 2 → W1.cell? ⟨g, k * 2 + j, none⟩ = news[j]? := by
    intro j hj
    have hj' : j < news.length := by rw [s1.out]; exact hj
    have := World.cell?_setCells_in g news (0 + k * 2) w.drew (fun t ht => (s3.out t ht).1) j hj'
    rw [Nat.zero_add] at this hW1
    rw [hW1, this, List.getElem?_eq_getElem hj']
  have hW1l : ∀ j, j < 2 → W1.cell? ⟨g, (l.length - 1) * 2 + j, none⟩ = w.cell? ⟨g, (l.length - 1) * 2 + j, none⟩ := by
    intro j hj
    rw [hW1, World.cell?_setCells_out _ _ _ _ _ (fun _ _ => .inr (by show 0 + k * 2 + news.length ≤ (l.length - 1) * 2 + j; rw [s1.out]; omega))]
    rfl
  have hW1f : ∀ j, W1.frozen? ⟨g, j, none⟩ = false := by
    intro j
    rw [hW1, World.frozen?_setCells]
    exact hfro j
  have hcl := fun ty c => run_clear_ent W1 ty g ((l.length - 1) * 2) c (fun j hj => by rw [hW1l j hj]; exact hsome _ (by omega)) (fun j hj => hW1f _)
  obtain ⟨W2, hW2⟩ : ∃ W2, W2 = W1.setCells g ((l.length - 1) * 2) [.string ⟨#[]⟩, .int .i64 0] := ⟨_, rfl⟩
  rw [← hW2] at hcl
  have HG := Lib.hid (show w.grownBy W2 (some g) by
    rw [hW2, hW1]
    exact grown_trans (grown_trans (grown_drew w _) (grown_setCells g _ _ _)) (grown_setCells g _ _ _))
  have hkW2 : ∃ cs', Blk W2 g 49 cs' := by
    rw [hW2, hW1]
    obtain ⟨cs1, hcs1⟩ := blk_setCells news (0 + k * 2) w.drew _ hk
    exact blk_setCells _ _ _ cs1 hcs1
  have HE0 : EntsR W2 (.slice (some ⟨g, 0, none⟩) (l.length - 1) l.length) (l.take k ++ l.drop (k + 1)) :=
    EntsR.of_cells _ (by simp; omega) (by
      intro j u hj
      have hjl : j < (l.length - 1) * 2 := by
        have := (List.getElem?_eq_some_iff.1 hj).1
        rw [eCells_len] at this
        simp at this
        omega
      rw [hW2, World.cell?_setCells_out _ _ _ _ _ (fun _ _ => .inl hjl)]
      rw [eCells_app] at hj
      by_cases h : j < k * 2
      · rw [List.getElem?_append_left (by rw [hlt]; exact h)] at hj
        rw [hW1o j h]
        refine hcell j u ?_
        rw [← eCells_take, List.getElem?_take, if_pos h] at hj
        exact hj
      · rw [List.getElem?_append_right (by rw [hlt]; omega), hlt, ← hnews] at hj
        have := hW1i (j - k * 2) (by omega)
        rw [show k * 2 + (j - k * 2) = j by omega] at this
        rw [this]
        exact hj)
  have HE := Lib.hid (show EntsT W2 (.slice (some ⟨g, 0, none⟩) (l.length - 1) l.length) (l.take k ++ l.drop (k + 1)) from
    ⟨HE0, fun ad n' c' hv => by injection hv with hA; injection hA with hA; subst hA; exact hkW2⟩)
  clear HE0 hkW2
  obtain ⟨m, hm0⟩ : ∃ m, m = l.length - 1 := ⟨_, rfl⟩
  rw [← hm0] at hcl HE
  have hm : k + (l.length - (k + 1)) = m := by omega
  have hm1 : l.length - m = 1 := by omega
  have hm2 : (m : Int) ≤ (l.length : Int) := by omega
  have hm3 : ¬ l.length = m := by omega
  clear hm0
  clear hW1 hW2 hW1o hW1i hW1l hW1f hnews hcell hsome hfro hld hlt hk
  have n1 : ((k : Int) == (k : Int) + 1) = false := by rw [beq_eq_false_iff_ne]; omega
  have n3 : (k : Int) ≤ (l.length : Int) := by omega
  have n5 : (k : Int) + 1 ≤ (l.length : Int) := by omega
  have n6 : (k : Int) ≤ (k : Int) + 1 := by omega
  have mixed : Try.prog.follows Departure.mixedOrders = true := by kernel_rfl
  have hb1 : (0 : Int) ≤ (k : Int) + 1 := by omega
  have htn : ((k : Int) + 1).toNat = k + 1 := by omega
  have hic : k ≤ l.length := by omega
  have hjc : k + 1 ≤ l.length := by omega
  go_enter Try.func29, Try.ntmps29
  go_wp2_with fail
  go_region_law_o (refine step_append_room rfl (.tmp 22) (.tmp 25) 23 rfl 49 i0 2 Try.underlying23 hi0 hzs g 0 k l.length (by simp [Act.eval, Act.put]) A (l.length - (k + 1)) (l.length - (k + 1)) news (by simp [Act.eval, Act.put]) s1.out hsrc.out s2.out (by omega) s3.out ?_; rw [← hW.out, hm])
  go_wp2
  go_ret
  exact ⟨_, rfl, HE.out, HG.out⟩
end Go.Proofs.Ytibmnafnandodaa
