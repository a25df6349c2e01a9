/-
  slices.Insert of one entry into a row with no place to spare. The condition: no more entries than a thousand.
-/
import Derived.Test.YtibmnafnandodaaCopied
import Derived.Shelf.Spec.SlicesInsert
namespace Go.Proofs.Ytibmnafnandodaa
open Go Go.RowKit

theorem ent_one (e : En) : ∀ u ∈ [Value.string (bA e.1), .int .i64 e.2], u.oneCell' = true := by
  intro u hu
  simp only [List.mem_cons, List.mem_nil_iff, or_false] at hu
  rcases hu with rfl | rfl <;> rfl
theorem EntsR.of_own {w : World} {B : Nat} {e : TypeId} {v : Value} {l : List En} (h : w.ownsRow B e 2 v l.length (eCells l)) : EntsR w v l := by
  rcases h.2 with ⟨rfl, hn⟩ | ⟨g, cap, cur, rfl, _⟩
  · have : l = [] := List.eq_nil_of_length_eq_zero hn
    subst this
    exact EntsR.nil w
  · refine ⟨some ⟨g, 0, none⟩, cap, rfl, fun k a hk => ⟨_, rfl, ?_⟩⟩
    obtain ⟨h0, h1⟩ := eCells_at l k a hk
    rw [add_lit]
    exact ⟨row_at h _ _ h0, row_at h _ _ h1⟩
theorem EntsT.of_own {w : World} {B : Nat} {v : Value} {l : List En} (h : w.ownsRow B 49 2 v l.length (eCells l)) : EntsT w v l := by
  refine ⟨EntsR.of_own h, fun ad n c hv => ?_⟩
  rcases h.2 with ⟨rfl, hn⟩ | ⟨g, cap, cur, rfl, _, hh, _⟩
  · injection hv with hv; cases hv
  · injection hv with hA
    injection hA with hA
    subst hA
    exact ⟨cur, hh⟩
theorem EntsX.own {w : World} {B : Nat} {v : Value} {l : List En} (h : EntsX w B v l) (hn : l.length ≤ 1000000) : w.ownsRow B 49 2 v l.length (eCells l) := by
  rcases h with ⟨rfl, rfl⟩ | ⟨g, h1, rfl, -, h4⟩
  · exact World.ownsRow_nil _ _ _ _
  · refine ⟨eCells_len l, .inr ⟨g, l.length, _, rfl, h1, h4, Nat.le_refl _, by unfold maxLen; omega, ?_, ?_⟩⟩
    · rw [List.size_toArray, eCells_len]
    · rw [List.take_of_length_le (by rw [eCells_len]; exact Nat.le_refl _)]
/-- One entry more at the end. -/
theorem insert_end (v : Value) (l : List En) (B : Nat) (e : En) (vb : Nat) (w : World) (hX : EntsX w B v l) (hn : l.length ≤ 1000) (hB : B ≤ w.heap.size) (h0 : w.cell? ⟨vb, 0, none⟩ = some (.string (bA e.1))) (h1 : w.cell? ⟨vb, 1, none⟩ = some (.int .i64 e.2)) :
    Calls Try.prog 23 #[v, .int .i64 (l.length : Int), .slice (some ⟨vb, 0, none⟩) 1 1] w fun e' w' => ∃ v', e' = .returned v' ∧ EntsT w' v' (l ++ [e]) ∧ w.grownBy w' v.ownBlock := by
  have HO := Lib.hid (hX.own (by omega))
  obtain ⟨i, hi0, hz0, hz1, hz2⟩ := info_parts info_ent
  obtain ⟨A, c, rfl⟩ := entsX_form hX
  have hc : c = l.length := by
    rcases hX with ⟨h, rfl⟩ | ⟨g, -, h, -⟩
    · injection h with _ _ h
    · injection h with _ _ h
  subst hc
  have hsrc : Hid (∀ (j : Nat) (u : Value), [Value.string (bA e.1), .int .i64 e.2][j]? = some u → w.cell? ((⟨vb, 0, none⟩ : Addr).add j) = some u) := by
    intro j u hj
    rw [add_lit]
    match j, hj with
    | 0, hj => simp at hj; subst hj; exact h0
    | 1, hj => simp at hj; subst hj; exact h1
  have hle : l.length ≤ l.length := Nat.le_refl _
  clear hX
  go_enter Try.func23, Try.ntmps23
  go_wp2_with (at_builtin; refine wpList_append_own _ rfl (.tmp 23) (.tmp 24) _ rfl B 49 i _ 2 24 Try.underlying23 hi0 hz0 hz1 hz2 rfl (by decide) _ l.length (eCells l) rfl HO.out ⟨vb, 0, none⟩ 1 1 [.string (bA e.1), .int .i64 e.2] rfl rfl hsrc.out (ent_one e) (by unfold maxLen; omega) (by omega) hB ?_; intro v' w' ho hg _; have HO2 := Lib.hid ho; have HG := Lib.hid hg; obtain ⟨A', c', hv'⟩ := own_slice ho; subst hv'; clear ho hg)
  all_goals (
    go_ret
    refine ⟨_, rfl, EntsT.of_own (B := B) ?_, HG.out⟩
    have := HO2.out
    rw [eCells_app, List.length_append]
    exact this)
theorem zero_cells (n : Nat) : (Builtin.zeroCells (Value.agg #[.string ⟨#[]⟩, .int .i64 0]).cells n).size = n * 2 := by simp [Builtin.zeroCells, Value.cells]
theorem take_at {cur : List Value} {o : Nat} {cs : List Value} : (cur.take o ++ cs ++ cur.drop (o + cs.length)).length = min o cur.length + cs.length + (cur.length - (o + cs.length)) := by simp [Nat.add_assoc]
set_option maxHeartbeats 4000000 in
set_option maxRecDepth 100000 in
/-- One entry more ahead of another one. -/
theorem insert_mid (g : Nat) (l : List En) (k : Nat) (e : En) (vb : Nat) (w : World) (hk : Blk w g 49 (eCells l).toArray) (hkl : k < l.length) (hn : l.length ≤ 1000) (h0 : w.cell? ⟨vb, 0, none⟩ = some (.string (bA e.1))) (h1 : w.cell? ⟨vb, 1, none⟩ = some (.int .i64 e.2)) :
    Calls Try.prog 23 #[.slice (some ⟨g, 0, none⟩) l.length l.length, .int .i64 (k : Int), .slice (some ⟨vb, 0, none⟩) 1 1] w fun e' w' => ∃ v', e' = .returned v' ∧ EntsT w' v' (l.take k ++ e :: l.drop k) ∧ Below w.heap.size w w' := by
  obtain ⟨i0, hi0, hz0, hzs, hzb⟩ := info_parts info_ent
  have hgl := hk.lt
  have hvl : vb < w.heap.size := World.block_lt_of_cell? _ _ h0
  have hcell : ∀ (j : Nat) (u : Value), (eCells l)[j]? = some u → w.cell? ⟨g, j, none⟩ = some u := by
    intro j u hj
    rw [hk.cell j, List.getElem?_toArray]
    exact hj
  have hlt : (eCells (l.take k)).length = k * 2 := by rw [eCells_len, List.length_take, Nat.min_eq_left (by omega)]
  have hld : (eCells (l.drop k)).length = (l.length - k) * 2 := by rw [eCells_len, List.length_drop]
  have hold : (Builtin.firstCells i0.size k (.slice (some ⟨g, 0, none⟩) k l.length)).run Try.prog w.drew = .ok (eCells (l.take k)).toArray w.drew := by
    rw [hzs]
    refine run_firstCells_some w.drew 2 k ⟨g, 0, none⟩ k l.length (eCells (l.take k)) hlt (fun j u hj => ?_)
    rw [add_lit]
    refine hcell j u ?_
    rw [← eCells_take, List.getElem?_take] at hj
    split at hj
    · exact hj
    · cases hj
  have hrz0 := fun ty => Lib.run_append_grow_zeros (P := Try.prog) w 23 3 ty 49 i0 _ .i64 .i64 Try.underlying23 Try.underlying3 hi0 hz0 (some ⟨g, 0, none⟩) k l.length (eCells (l.take k)) hold (l.length + 1 - k) (by omega) (by omega) (by omega) (by omega) (by rw [hzb]; omega) (by rw [hzb, show k + (l.length + 1 - k) = l.length + 1 by omega]; exact growslice_fits (by omega) (by omega))
  rw [show k + (l.length + 1 - k) = l.length + 1 by omega] at hrz0
  obtain ⟨G, hG⟩ : ∃ G, G = grownCap w (l.length + 1) l.length 49 := ⟨_, rfl⟩
  have hGn : l.length + 1 ≤ G := by rw [hG]; exact grownCap_ge w _ _ _
  have hG63 : G ≤ 9223372036854775807 := by
    have := grownCap_le_maxLen w (l.length + 1) l.length 49 (by unfold maxLen; omega)
    rw [← hG] at this
    unfold maxLen at this
    omega
  obtain ⟨ROW, hROW⟩ : ∃ ROW : Array Value, ROW = (eCells (l.take k)).toArray ++ Builtin.zeroCells (Value.agg #[.string ⟨#[]⟩, .int .i64 0]).cells (l.length + 1 - k) ++ Builtin.zeroCells (Value.agg #[.string ⟨#[]⟩, .int .i64 0]).cells (G - (l.length + 1)) := ⟨_, rfl⟩
  rw [← hG] at hrz0
  rw [← hROW] at hrz0
  have hRs : ROW.size = G * 2 := by
    rw [hROW, Array.size_append, Array.size_append, zero_cells, zero_cells, List.size_toArray, hlt]
    omega
  have hRt : ROW.toList.take (k * 2) = eCells (l.take k) := by
    rw [hROW, Array.toList_append, Array.toList_append, List.append_assoc, ← hlt]
    exact List.take_left
  obtain ⟨W1, hW1⟩ : ∃ W1, W1 = w.drew.alloc (.cells ROW 49) := ⟨_, rfl⟩
  rw [← hW1] at hrz0
  have hB1 : Below w.heap.size w W1 := by rw [hW1]; exact ((Below.refl w.heap.size w).drew).alloc (Nat.le_refl _) _
  have hk1 : Blk W1 w.heap.size 49 ROW := by rw [hW1]; exact Blk.new w.drew _ _
  have hrz : ∀ ty, (Builtin.append_ #[23, 3] ty #[.slice (some ⟨g, 0, none⟩) k l.length, .int .i64 ((l.length : Int) + 1 - (k : Int))]).run Try.prog w = .ok (.slice (some ⟨w.heap.size, 0, none⟩) (l.length + 1) G) W1 := by
    intro ty
    rw [show (l.length : Int) + 1 - (k : Int) = ((l.length + 1 - k : Nat) : Int) by omega]
    exact hrz0 ty
  -- the new entry
  have hcpA := fun ty => run_copy_rowK (P := Try.prog) W1 23 23 ty 49 w.heap.size (k * 2) (l.length + 1 - k) (G - k) ⟨vb, 0, none⟩ 1 1 ROW _ [.string (bA e.1), .int .i64 e.2] 2 Try.underlying23 size_ent hk1
    (by show 2 = Nat.min 1 (l.length + 1 - k) * 2; rw [show Nat.min 1 (l.length + 1 - k) = 1 from Nat.min_eq_left (by omega)])
    (by
      intro j u hj
      rw [add_lit]
      match j, hj with
      | 0, hj => simp at hj; subst hj; exact bc hB1 h0
      | 1, hj => simp at hj; subst hj; exact bc hB1 h1)
    (by rw [hRs]; show k * 2 + 2 ≤ _; omega) (ent_one e)
  obtain ⟨R2, hR2⟩ : ∃ R2 : List Value, R2 = ROW.toList.take (k * 2) ++ [.string (bA e.1), .int .i64 e.2] ++ ROW.toList.drop (k * 2 + [Value.string (bA e.1), .int .i64 e.2].length) := ⟨_, rfl⟩
  rw [← hR2, show Nat.min 1 (l.length + 1 - k) = 1 from Nat.min_eq_left (by omega)] at hcpA
  have hR2l : R2.length = G * 2 := by
    rw [hR2, take_at, Array.length_toList, hRs]
    show min (k * 2) (G * 2) + 2 + (G * 2 - (k * 2 + 2)) = G * 2
    omega
  have hR2t : R2.take (k * 2 + 2) = eCells (l.take k ++ [e]) := by
    rw [hR2, hRt, eCells_app]
    refine List.take_left' ?_
    rw [List.length_append, hlt]
    rfl
  obtain ⟨W2, hW2⟩ : ∃ W2, W2 = W1.setRow w.heap.size R2.toArray := ⟨_, rfl⟩
  rw [← hW2] at hcpA
  have hB2 : Below w.heap.size w W2 := by rw [hW2]; exact below_setRow hB1 (Nat.le_refl _) _
  have hk2 : Blk W2 w.heap.size 49 R2.toArray := by rw [hW2]; exact blk_setRow hk1
  -- what stood behind it
  have hcpB := fun ty => run_copy_rowK (P := Try.prog) W2.drew 23 23 ty 49 w.heap.size ((k + 1) * 2) (l.length - k) (G - (k + 1)) ⟨g, k * 2, none⟩ (l.length - k) (l.length - k) R2.toArray _ (eCells (l.drop k)) 2 Try.underlying23 size_ent hk2
    (by rw [hld]; exact congrArg (· * 2) (Nat.min_self _).symm)
    (by
      intro j u hj
      rw [Addr.add_lit]
      refine bc hB2.drew (hcell (k * 2 + j) u ?_)
      rw [← eCells_drop, List.getElem?_drop] at hj
      exact hj)
    (by rw [List.size_toArray, hR2l, hld]; omega) (eCells_one _)
  obtain ⟨R3, hR3⟩ : ∃ R3 : List Value, R3 = R2.toArray.toList.take ((k + 1) * 2) ++ eCells (l.drop k) ++ R2.toArray.toList.drop ((k + 1) * 2 + (eCells (l.drop k)).length) := ⟨_, rfl⟩
  rw [← hR3, show Nat.min (l.length - k) (l.length - k) = l.length - k from Nat.min_self _] at hcpB
  have hR3t : R3.take ((l.length + 1) * 2) = eCells (l.take k ++ e :: l.drop k) := by
    rw [hR3, List.toList_toArray, show (k + 1) * 2 = k * 2 + 2 by omega, hR2t, show l.take k ++ e :: l.drop k = (l.take k ++ [e]) ++ l.drop k by simp, eCells_app (l.take k ++ [e])]
    refine List.take_left' ?_
    rw [← eCells_app, eCells_len]
    simp
    omega
  have HE := Lib.hid (show EntsT (W2.drew.setRow w.heap.size R3.toArray) (.slice (some ⟨w.heap.size, 0, none⟩) (l.length + 1) G) (l.take k ++ e :: l.drop k) from
    ⟨EntsR.of_blk (t := 49) G (by simp; omega) (blk_setRow hk2) (by rw [List.toList_toArray]; exact hR3t), fun ad n' c' hv => by injection hv with hA; injection hA with hA; subst hA; exact ⟨_, blk_setRow hk2⟩⟩)
  have HB := Lib.hid (show Below w.heap.size w (W2.drew.setRow w.heap.size R3.toArray) from below_setRow hB2.drew (Nat.le_refl _) _)
  generalize W2.drew.setRow w.heap.size R3.toArray = W3 at hcpB HE HB
  clear hrz0 hROW hRs hRt hR2 hR2l hR2t hR3 hR3t hk1 hk2 hold hcell hlt hld hW1 hW2 hB1 hB2 hG hk h0 h1 hi0 hz0 hzs hzb
  have n1 : ((k : Int) == (l.length : Int)) = false := by rw [beq_eq_false_iff_ne]; omega
  have n2 : (l.length : Int) < (l.length : Int) + 1 := by omega
  have n3 : (k : Int) ≤ (l.length : Int) := by omega
  have n4 : (k : Int) ≤ (l.length : Int) + 1 := by omega
  have n5 : (k : Int) + 1 ≤ (l.length : Int) + 1 := by omega
  have mixed : Try.prog.follows Departure.mixedOrders = true := by kernel_rfl
  have hw1 : IntKind.i64.wrap ((k : Int) + 1) = (k : Int) + 1 := by rw [IntKind.wrap_i64]; omega
  have hb1 : (0 : Int) ≤ (k : Int) + 1 := by omega
  have htn : ((k : Int) + 1).toNat = k + 1 := by omega
  have m1 : ¬ (G = k) := by omega
  have m2 : ¬ (G = k + 1) := by omega
  have m3 : ¬ (l.length = k) := by omega
  go_enter Try.func23, Try.ntmps23
  go_wp2_with (first
    | (at_builtin; refine Lib.wpList_append_run _ rfl _ _ _ _ rfl _ _ rfl rfl _ _ (hrz _) ?_)
    | (at_builtin; refine wpList_copy_runI _ rfl _ _ 23 23 rfl _ _ rfl rfl (hcpA _) ?_))
  go_region_law_o (refine step_copy_runI rfl _ _ 23 23 rfl (.slice (some ⟨w.heap.size, (k + 1) * 2, none⟩) (l.length - k) (G - (k + 1))) (.slice (some ⟨g, k * 2, none⟩) (l.length - k) (l.length - k)) (by simp [Act.eval, Act.put]) (by simp [Act.eval, Act.put]) (hcpB _) ?_)
  go_wp2
  go_ret
  exact ⟨_, rfl, HE.out, HB.out⟩
end Go.Proofs.Ytibmnafnandodaa
