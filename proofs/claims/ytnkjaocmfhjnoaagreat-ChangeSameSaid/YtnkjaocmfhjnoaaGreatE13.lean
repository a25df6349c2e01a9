/-
  A node with one entry less, or why there is none: Without. The conditions: a name has a thousand bytes at most, and no list is longer than a thousand. Package prune's small functions: what they answer. The conditions are said at each.
-/
import Derived.Test.YtnkjaocmfhjnoaaGreatE7
import Derived.Test.YtnkjaocmfhjnoaaGreatE10
import Derived.Test.YtnkjaocmfhjnoaaGreatE11
namespace Go.Proofs.YtnkjaocmfhjnoaaGreat
open Go Go.RowKit
set_option maxRecDepth 100000

theorem EntsR.of_cells {w : World} {g : Nat} {l : List En} {n : Nat} (c : Nat) (hn : l.length = n) (h : ∀ (j : Nat) (u : Value), (eCells l)[j]? = some u → w.cell? ⟨g, j, none⟩ = some u) : EntsR w (.slice (some ⟨g, 0, none⟩) n c) l := by
  subst hn
  refine ⟨_, c, rfl, fun k e hk => ⟨_, rfl, ?_⟩⟩
  obtain ⟨h0, h1⟩ := eCells_at l k e hk
  rw [add_lit]
  exact ⟨h _ _ h0, h _ _ h1⟩
theorem grown_setCells (b : Nat) : ∀ (vs : List Value) (o : Nat) (w : World), w.grownBy (w.setCells b o vs) (some b)
  | [], _, w => ⟨rfl, rfl, rfl, Nat.le_refl _, fun _ _ _ => rfl⟩
  | v :: r, o, w => by
    rw [World.setCells]
    exact grown_trans (grown_setCell w ⟨b, o, none⟩ v) (grown_setCells b r (o + 1) _)
theorem blk_setCells {g : Nat} {t : TypeId} : ∀ (vs : List Value) (o : Nat) (w : World) (cs : Array Value), Blk w g t cs → ∃ cs', Blk (w.setCells g o vs) g t cs'
  | [], _, _, cs, h => ⟨cs, h⟩
  | v :: r, o, w, cs, h => by
    rw [World.setCells]
    exact blk_setCells r (o + 1) _ _ (h.set_ o v)
theorem grown_drew (w : World) (r : Option Nat) : w.grownBy w.drew r := ⟨rfl, rfl, rfl, Nat.le_refl _, fun _ _ _ => rfl⟩
theorem run_clear_ent (w : World) (ty : TypeId) (b o c : Nat) (hc : ∀ j, j < 2 → (w.cell? ⟨b, o + j, none⟩).isSome = true) (hf : ∀ j, j < 2 → w.frozen? ⟨b, o + j, none⟩ = false) :
    (Builtin.clear_ #[63] ty #[.slice (some ⟨b, o, none⟩) 1 c]).run Tryz.prog w = .ok (.tuple #[]) (w.setCells b o [.string ⟨#[]⟩, .int .i64 0]) := by
  have hv : (zeroValue 126).run Tryz.prog w = .ok (.agg #[.string ⟨#[]⟩, .int .i64 0]) w := by kernel_rfl
  have hzc : (Builtin.zeroCells (Value.agg #[.string ⟨#[]⟩, .int .i64 0]).cells 1).toList = [.string ⟨#[]⟩, .int .i64 0] := by kernel_rfl
  have hst := run_storeCells_cells (P := Tryz.prog) b o [.string ⟨#[]⟩, .int .i64 0] 0 w (by simpa using hc) (by simpa using hf) (by intro v hv'; simp at hv'; rcases hv' with rfl | rfl <;> rfl)
  simp only [Nat.add_zero] at hst
  simp [Builtin.clear_, run_underlying Tryz.underlying63, hv, hzc, hst]
set_option maxHeartbeats 4000000 in
set_option maxRecDepth 100000 in
theorem delete_any (g : Nat) (l : List En) (k : Nat) (w : World) (hk : Blk w g 126 (eCells l).toArray) (hkl : k < l.length) (hn : l.length ≤ 1000) :
    Calls Tryz.prog 200 #[.slice (some ⟨g, 0, none⟩) l.length l.length, .int .i64 (k : Int), .int .i64 ((k : Int) + 1)] w fun e' w' => ∃ v', e' = .returned v' ∧ EntsT w' v' (l.take k ++ l.drop (k + 1)) ∧ w.grownBy w' (some g) := by
  obtain ⟨i0, hi0, hz0, hzs, hzb⟩ := info_parts info_ent
  have hcell : ∀ (j : Nat) (u : Value), (eCells l)[j]? = some u → w.cell? ⟨g, j, none⟩ = some u := by
    intro j u hj
    rw [hk.cell j, List.getElem?_toArray]
    exact hj
  have hsome : ∀ j, j < l.length * 2 → (w.cell? ⟨g, j, none⟩).isSome = true := by
    intro j hj
    rw [hk.cell j, List.getElem?_toArray, List.getElem?_eq_getElem (by rw [eCells_len]; exact hj)]
    rfl
  have hfro : ∀ j, w.frozen? ⟨g, j, none⟩ = false := hk.frozen
  have hld : (eCells (l.drop (k + 1))).length = (l.length - (k + 1)) * 2 := by rw [eCells_len, List.length_drop]
  have hlt : (eCells (l.take k)).length = k * 2 := by rw [eCells_len, List.length_take, Nat.min_eq_left (by omega)]
  obtain ⟨news, hnews⟩ : ∃ news, news = eCells (l.drop (k + 1)) := ⟨_, rfl⟩
  obtain ⟨A, hA, hsrc⟩ : ∃ A : Addr, (if l.length = k + 1 then some (⟨g, 0, none⟩ : Addr) else some ⟨g, (k + 1) * 2, none⟩) = some A ∧ Hid (∀ t u, news[t]? = some u → w.drew.cell? (A.add t) = some u) := by
    by_cases h : l.length = k + 1
    · refine ⟨⟨g, 0, none⟩, by simp [h], fun t u hu => ?_⟩
      rw [hnews, List.drop_eq_nil_of_le (by omega)] at hu
      simp [eCells] at hu
    · refine ⟨⟨g, (k + 1) * 2, none⟩, by simp [h], fun t u hu => ?_⟩
      rw [Addr.add_lit]
      refine hcell _ u ?_
      rw [hnews, ← eCells_drop, List.getElem?_drop] at hu
      exact hu
  have s1 : Hid (news.length = (l.length - (k + 1)) * 2) := by rw [hnews]; exact hld
  have s2 : Hid (∀ u ∈ news, u.oneCell' = true) := by rw [hnews]; exact eCells_one _
  have s3 : Hid (∀ t, t < news.length → (w.drew.cell? ⟨g, 0 + k * 2 + t, none⟩).isSome = true ∧ w.drew.frozen? ⟨g, 0 + k * 2 + t, none⟩ = false) := by
    intro t ht
    rw [s1.out] at ht
    exact ⟨hsome _ (by omega), hfro _⟩
  obtain ⟨W1, hW1⟩ : ∃ W1, W1 = w.drew.setCells g (0 + k * 2) news := ⟨_, rfl⟩
  have hW : Hid (W1 = w.drew.setCells g (0 + k * 2) news) := hW1
  have hW1o : ∀ j, j < k * 2 → W1.cell? ⟨g, j, none⟩ = w.cell? ⟨g, j, none⟩ := by
    intro j hj
    rw [hW1, World.cell?_setCells_out _ _ _ _ _ (fun _ _ => .inl (by show j < 0 + k * 2; omega))]
    rfl
  have hW1i : ∀ j, j < (l.length - (k + 1)) * 2 → W1.cell? ⟨g, k * 2 + j, none⟩ = news[j]? := by
    intro j hj
    have hj' : j < news.length := by rw [s1.out]; exact hj
    have := World.cell?_setCells_in g news (0 + k * 2) w.drew (fun t ht => (s3.out t ht).1) j hj'
    rw [Nat.zero_add] at this hW1
    rw [hW1, this, List.getElem?_eq_getElem hj']
  have hW1l : ∀ j, j < 2 → W1.cell? ⟨g, (l.length - 1) * 2 + j, none⟩ = w.cell? ⟨g, (l.length - 1) * 2 + j, none⟩ := by
    intro j hj
    rw [hW1, World.cell?_setCells_out _ _ _ _ _ (fun _ _ => .inr (by show 0 + k * 2 + news.length ≤ (l.length - 1) * 2 + j; rw [s1.out]; omega))]
    rfl
  have hW1f : ∀ j, W1.frozen? ⟨g, j, none⟩ = false := by
    intro j
    rw [hW1, World.frozen?_setCells]
    exact hfro j
  have hcl := fun ty c => run_clear_ent W1 ty g ((l.length - 1) * 2) c (fun j hj => by rw [hW1l j hj]; exact hsome _ (by omega)) (fun j hj => hW1f _)
  obtain ⟨W2, hW2⟩ : ∃ W2, W2 = W1.setCells g ((l.length - 1) * 2) [.string ⟨#[]⟩, .int .i64 0] := ⟨_, rfl⟩
  rw [← hW2] at hcl
  have HG := Lib.hid (show w.grownBy W2 (some g) by
    rw [hW2, hW1]
    exact grown_trans (grown_trans (grown_drew w _) (grown_setCells g _ _ _)) (grown_setCells g _ _ _))
  have hkW2 : ∃ cs', Blk W2 g 126 cs' := by
    rw [hW2, hW1]
    obtain ⟨cs1, hcs1⟩ := blk_setCells news (0 + k * 2) w.drew _ hk
    exact blk_setCells _ _ _ cs1 hcs1
  have HE0 : EntsR W2 (.slice (some ⟨g, 0, none⟩) (l.length - 1) l.length) (l.take k ++ l.drop (k + 1)) :=
    EntsR.of_cells _ (by simp; omega) (by
      intro j u hj
      have hjl : j < (l.length - 1) * 2 := by
        have := (List.getElem?_eq_some_iff.1 hj).1
        rw [eCells_len] at this
        simp at this
        omega
      rw [hW2, World.cell?_setCells_out _ _ _ _ _ (fun _ _ => .inl hjl)]
      rw [eCells_app] at hj
      by_cases h : j < k * 2
      · rw [List.getElem?_append_left (by rw [hlt]; exact h)] at hj
        rw [hW1o j h]
        refine hcell j u ?_
        rw [← eCells_take, List.getElem?_take, if_pos h] at hj
        exact hj
      · rw [List.getElem?_append_right (by rw [hlt]; omega), hlt, ← hnews] at hj
        have := hW1i (j - k * 2) (by omega)
        rw [show k * 2 + (j - k * 2) = j by omega] at this
        rw [this]
        exact hj)
  have HE := Lib.hid (show EntsT W2 (.slice (some ⟨g, 0, none⟩) (l.length - 1) l.length) (l.take k ++ l.drop (k + 1)) from
    ⟨HE0, fun ad n' c' hv => by injection hv with hA; injection hA with hA; subst hA; exact hkW2⟩)
  clear HE0 hkW2
  obtain ⟨m, hm0⟩ : ∃ m, m = l.length - 1 := ⟨_, rfl⟩
  rw [← hm0] at hcl HE
  have hm : k + (l.length - (k + 1)) = m := by omega
  have hm1 : l.length - m = 1 := by omega
  have hm2 : (m : Int) ≤ (l.length : Int) := by omega
  have hm3 : ¬ l.length = m := by omega
  clear hm0
  clear hW1 hW2 hW1o hW1i hW1l hW1f hnews hcell hsome hfro hld hlt hk
  have n1 : ((k : Int) == (k : Int) + 1) = false := by rw [beq_eq_false_iff_ne]; omega
  have n3 : (k : Int) ≤ (l.length : Int) := by omega
  have n5 : (k : Int) + 1 ≤ (l.length : Int) := by omega
  have n6 : (k : Int) ≤ (k : Int) + 1 := by omega
  have mixed : Tryz.prog.follows Departure.mixedOrders = true := by kernel_rfl
  have hb1 : (0 : Int) ≤ (k : Int) + 1 := by omega
  have htn : ((k : Int) + 1).toNat = k + 1 := by omega
  have hic : k ≤ l.length := by omega
  have hjc : k + 1 ≤ l.length := by omega
  go_enter Tryz.func200, Tryz.ntmps200
  go_wp2_with fail
  go_region_law_o (refine step_append_room rfl (.tmp 22) (.tmp 25) 63 rfl 126 i0 2 Tryz.underlying63 hi0 hzs g 0 k l.length (by simp [Act.eval, Act.put]) A (l.length - (k + 1)) (l.length - (k + 1)) news (by simp [Act.eval, Act.put]) s1.out hsrc.out s2.out (by omega) s3.out ?_; rw [← hW.out, hm])
  go_wp2
  go_ret
  exact ⟨_, rfl, HE.out, HG.out⟩
attribute [local go_sem] cell_off4 cell_blk4
theorem outM_bad {n : Nd} {name : Nm} (h : ¬ outE n name = 0) : outM n name = Nd.zero := if_neg h
theorem outM_good {n : Nd} {name : Nm} (h : outE n name = 0) (hm : name ∈ nmE n.ents) : outM n name = { n with ents := n.ents.take (n.ents.findIdx (isN name)) ++ n.ents.drop (n.ents.findIdx (isN name) + 1) } := by
  rw [outM, if_pos h, plc_del _ _ hm]
theorem out_at (v : Value) (l : List En) (B k : Nat) (W : World) (hX : EntsX W B v l) (hk : k < l.length) (hn : l.length ≤ 1000) :
    Calls Tryz.prog 200 #[v, .int .i64 (k : Int), .int .i64 ((k : Int) + 1)] W fun e' w' => ∃ v', e' = .returned v' ∧ EntsT w' v' (l.take k ++ l.drop (k + 1)) ∧ W.grownBy w' v.ownBlock := by
  rcases hX with ⟨-, rfl⟩ | ⟨g, -, rfl, -, hb⟩
  · simp at hk
  · exact delete_any g l k W hb hk hn
set_option maxRecDepth 100000 in
theorem out_kind (n : Nd) (vd ve : Value) (name : Nm) (w : World) (hd : BytesR w vd n.data) (he : EntsR w ve n.ents) (h1 : ¬ n.kind = 2) :
    Calls Tryz.prog 177 #[nodeV n vd ve, .string (bA name)] w fun e w' => ∃ v, e = .returned (.tuple #[v, .int .i64 20]) ∧ NdT w' v Nd.zero ∧ Below w.heap.size w w' := by
  obtain ⟨A1, c1, rfl⟩ := bytes_form hd rfl
  obtain ⟨A2, c2, rfl⟩ := ents_form he rfl
  have k1 : (n.kind != 2) = true := by simpa using h1
  have HB1 := Lib.hid (al (ba w (.cells (ndC n (.slice A1 n.data.length c1) (.slice A2 n.ents.length c2)) 65)) (.cells ndZ 65))
  clear hd he h1
  unfold nodeV
  go_enter Tryz.func177, Tryz.ntmps177
  go_wp2
  exact bodyPost_ret (v := .tuple #[.agg ndZ, .int .i64 20]) (by simp [results, Tryz.results177, go_sem]) rfl ⟨_, rfl, zero_nd _, HB1.out⟩
set_option maxRecDepth 100000 in
set_option maxHeartbeats 4000000 in
theorem without_anyT (n : Nd) (vd ve : Value) (name : Nm) (w : World) (hd : BytesR w vd n.data) (he : EntsR w ve n.ents) (hnd : n.data.length ≤ 1000) (hn : n.ents.length ≤ 1000) :
    Calls Tryz.prog 177 #[nodeV n vd ve, .string (bA name)] w fun e w' => ∃ v, e = .returned (.tuple #[v, .int .i64 (outE n name)]) ∧ NdT w' v (outM n name) ∧ Below w.heap.size w w' := by
  obtain ⟨W1, hW1⟩ : ∃ W1, W1 = (w.alloc (.cells (ndC n vd ve) 65)).alloc (.cells ndZ 65) := ⟨_, rfl⟩
  have hb1 : Below w.heap.size w W1 := by rw [hW1]; exact al (ba _ _) _
  have hz1 : W1.heap.size = w.heap.size + 2 := by rw [hW1]; simp
  have hkb : Blk W1 w.heap.size 65 (ndC n vd ve) := by rw [hW1]; exact (Blk.new _ _ _).alloc _
  have hkr : Blk W1 (w.heap.size + 1) 65 ndZ := by rw [hW1]; have := Blk.new (w.alloc (.cells (ndC n vd ve) 65)) 65 ndZ; simpa using this
  have HP := Lib.hid (placeOf_any ve n.ents name W1 (he.below hb1) (by omega))
  have HC := Lib.hid (fun W (hb : Below W1.heap.size W1 W) => ncopied_any n vd ve W ((hd.below hb1).below hb) ((he.below hb1).below hb) (by omega) (by omega))
  have HB1 := Lib.hid hb1
  have HKB := Lib.hid hkb
  have HKR := Lib.hid hkr
  have HZ1 := Lib.hid hz1
  obtain ⟨A1, c1, rfl⟩ := bytes_form hd rfl
  obtain ⟨A2, c2, rfl⟩ := ents_form he rfl
  have HD := Lib.hid hd
  have HE0 := Lib.hid he
  clear hd he hb1 hkb hkr hz1
  subst hW1
  have hmem := plc_mem name n.ents
  unfold nodeV at HC ⊢
  by_cases h1 : n.kind = 2
  · have k1 : (n.kind != 2) = false := by simpa using h1
    unfold plcI at HP
    by_cases h2 : n.ents.findIdx (isN name) < n.ents.length
    · have h3 := hmem.1 h2
      have hX : outE n name = 0 := by rw [outE, if_neg (fun h => h h1), if_pos h3]
      have HM := Lib.hid (outM_good hX h3)
      rw [if_pos h2] at HP
      rw [hX]
      clear hX h1 hmem h3
      generalize outM n name = M at HM ⊢
      generalize n.ents.findIdx (isN name) = k at HM HP h2
      go_enter Tryz.func177, Tryz.ntmps177
      go_wp2_with fail
      refine HP.out.mono ?_
      rintro e w2 ⟨rfl, hb2⟩
      have HB2 := Lib.hid hb2
      obtain ⟨p0, p1, p2, p3, p4, p5, p6⟩ := (HKB.out.below hb2).c7
      clear hb2 HP
      go_wp2_with fail
      refine (HC.out w2 HB2.out).mono ?_
      rintro e w3 ⟨vd', ve', rfl, hx3, hy3, hb3⟩
      have HKB3 := Lib.hid ((HKB.out.below HB2.out).below hb3)
      have HKR3 := Lib.hid ((HKR.out.below HB2.out).below hb3)
      obtain ⟨A3, c3, hv3⟩ := bytesX_form hx3
      obtain ⟨A4, c4, hv4⟩ := entsX_form hy3
      subst hv3 hv4
      have HX3 := Lib.hid hx3
      have HY3 := Lib.hid hy3
      have HB3 := Lib.hid hb3
      clear p0 p1 p2 p3 p4 p5 p6 hb3 hx3 hy3 HC
      obtain ⟨p0, p1, p2, p3, p4, p5, p6⟩ := HKB3.out.c7
      obtain ⟨f0, f1, f2, f3, f4, f5, f6⟩ := HKB3.out.f7
      obtain ⟨s0, s1, s2, s3, s4, s5, s6⟩ := HKB3.out.s7
      have hS := WS.put (n := n) (vd := .slice A3 n.data.length c3) (ve := .slice A4 n.ents.length c4) (bt HB3.out (bt HB2.out HB1.out)) (show w.heap.size ≤ w2.heap.size by have := HB2.out.size; rw [HZ1.out] at this; omega) HB3.out.size HKB3.out HKR3.out (by omega) (Nat.le_refl _) HX3.out HY3.out
      have HS := Lib.hid hS
      clear hS
      go_wp2_with fail
      refine (out_at (.slice A4 n.ents.length c4) n.ents w2.heap.size k (put7 w3 w.heap.size (.int .i64 n.kind) (.int .i64 n.mode) (.int .i64 n.uid) (.int .i64 n.gid) (.slice A3 n.data.length c3) (.slice A4 n.ents.length c4) (.string (bA n.target))) HS.out.ents h2 hn).mono ?_
      rintro e w6 ⟨v6, rfl, he6, hg6⟩
      obtain ⟨hb6, hk6, hr6, hd6⟩ := HS.out.turned hg6
      clear hg6 p0 p1 p2 p3 p4 p5 p6 f0 f1 f2 f3 f4 f5 f6 s0 s1 s2 s3 s4 s5 s6 HS
      obtain ⟨A6, c6, hv6⟩ := ents_form (n := n.ents.length - 1) he6.1 (by simp; omega)
      subst hv6
      have HE6 := Lib.hid he6
      have HB6 := Lib.hid hb6
      have HK6 := Lib.hid hk6
      have HR6 := Lib.hid hr6
      have HD6 := Lib.hid hd6
      obtain ⟨p0, p1, p2, p3, p4, p5, p6⟩ := hk6.c7
      obtain ⟨f0, f1, f2, f3, f4, f5, f6⟩ := hk6.f7
      clear he6 hb6 hk6 hr6 hd6
      have t5 : ∀ u, (w6.setCell ⟨w.heap.size, 5, none⟩ u).cell? ⟨w.heap.size, 5, none⟩ = some u := fun u => (HK6.out.set7_5 u).cell 5
      have HG7 := Lib.hid (grown_setCell w6 ⟨w.heap.size, 5, none⟩ (.slice A6 (n.ents.length - 1) c6))
      have HR7 := Lib.hid (HR6.out.kept HG7.out (by simp))
      obtain ⟨r0, r1, r2, r3, r4, r5, r6⟩ := HR7.out.c7
      obtain ⟨g0, g1, g2, g3, g4, g5, g6⟩ := HR7.out.f7
      obtain ⟨s0, s1, s2, s3, s4, s5, s6⟩ := HR7.out.s7
      go_wp2
      have HG8 := grown7 (w6.setCell ⟨w.heap.size, 5, none⟩ (.slice A6 (n.ents.length - 1) c6)) (w.heap.size + 1) (.int .i64 n.kind) (.int .i64 n.mode) (.int .i64 n.uid) (.int .i64 n.gid) (.slice A3 n.data.length c3) (.slice A6 (n.ents.length - 1) c6) (.string (bA n.target))
      rw [HM.out]
      exact bodyPost_ret (v := .tuple #[nodeV n (.slice A3 n.data.length c3) (.slice A6 (n.ents.length - 1) c6), .int .i64 0]) (by simp [results, Tryz.results177, go_sem, nodeV, s0, s1, s2, s3, s4, s5, s6]) rfl (nwith_end HK6.out HR7.out HD6.out HE6.out HB6.out HG7.out HG8 (Nat.le_refl _) (Nat.le_succ _) 0)
    · have h3 : ¬ name ∈ nmE n.ents := fun h => h2 (hmem.2 h)
      have hX : outE n name = 2 := by rw [outE, if_neg (fun h => h h1), if_neg h3]
      have hM := outM_bad (n := n) (name := name) (by rw [hX]; decide)
      rw [if_neg h2] at HP
      rw [hX, hM]
      clear hX hM h1 h2 hmem h3 HC
      go_enter Tryz.func177, Tryz.ntmps177
      go_wp2_with fail
      refine HP.out.mono ?_
      rintro e w2 ⟨rfl, hb2⟩
      have HB2 := Lib.hid (bt hb2 HB1.out)
      have HR2 := Lib.hid (HKR.out.below hb2)
      obtain ⟨r0, r1, r2, r3, r4, r5, r6⟩ := HR2.out.c7
      obtain ⟨g0, g1, g2, g3, g4, g5, g6⟩ := HR2.out.f7
      obtain ⟨s0, s1, s2, s3, s4, s5, s6⟩ := HR2.out.s7
      clear hb2
      go_wp2
      have HG8 := grown7 w2 (w.heap.size + 1) (.int .i64 0) (.int .i64 0) (.int .i64 0) (.int .i64 0) (.slice none 0 0) (.slice none 0 0) (.string ⟨#[]⟩)
      exact bodyPost_ret (v := .tuple #[.agg ndZ, .int .i64 2]) (by simp [results, Tryz.results177, go_sem, s0, s1, s2, s3, s4, s5, s6]) rfl (bad_end HB2.out HG8 (Nat.le_succ _) 2)
  · have k1 : (n.kind != 2) = true := by simpa using h1
    have hX : outE n name = 20 := by rw [outE, if_pos h1]
    have hM := outM_bad (n := n) (name := name) (by rw [hX]; decide)
    rw [hX, hM]
    exact out_kind n _ _ name w HD.out HE0.out h1
theorem nwo_any (n : Nd) (vd ve : Value) (name : Nm) (w : World) (hd : BytesR w vd n.data) (he : EntsR w ve n.ents) (hnd : n.data.length ≤ 1000) (hn : n.ents.length ≤ 1000) :
    Calls Tryz.prog 177 #[nodeV n vd ve, .string (bA name)] w fun e w' => ∃ v, e = .returned (.tuple #[v, .int .i64 (outE n name)]) ∧ NdR w' v (outM n name) ∧ Below w.heap.size w w' :=
  (without_anyT n vd ve name w hd he hnd hn).mono fun _ _ ⟨v, h1, h2, h3⟩ => ⟨v, h1, h2.nd, h3⟩
end Go.Proofs.YtnkjaocmfhjnoaaGreat
namespace Go.Proofs.YtnkjaocmfhjnoaaGreat
open Go Go.RowKit
set_option maxRecDepth 100000

attribute [local go_sem] cell_off4 cell_blk4
set_option maxHeartbeats 4000000 in
theorem qkind_any (v : Value) (t : List Nd) (i : Int) (w : World) (h : TabP w v t) :
    Calls Tryz.prog 142 #[v, .int .i64 i] w fun e w' => e = .returned (.int .i64 (tget t i).kind) ∧ Below w.heap.size w w' := by
  have HG := Lib.hid (get_any v t i w h)
  generalize tget t i = n at HG ⊢
  generalize tis t i = b at HG
  unfold nodeV at HG
  clear h
  go_enter Tryz.func142, Tryz.ntmps142
  go_wp2_with fail
  refine HG.out.mono ?_
  rintro e w2 ⟨vd, ve, rfl, hd, he, -, -, hb2⟩
  obtain ⟨A5, k5, rfl⟩ := bytesT_form hd
  obtain ⟨A6, k6, rfl⟩ := entsT_form he
  have HB := Lib.hid (al hb2 (.cells (ndC n (.slice A5 n.data.length k5) (.slice A6 n.ents.length k6)) 65))
  clear hd he hb2
  go_wp2
  go_ret
  exact ⟨rfl, HB.out⟩
set_option maxHeartbeats 4000000 in
theorem qentries_any (v : Value) (t : List Nd) (i : Int) (w : World) (h : TabP w v t) :
    Calls Tryz.prog 144 #[v, .int .i64 i] w fun e w' => e = .returned (.int .i64 ((tget t i).ents.length : Int)) ∧ Below w.heap.size w w' := by
  have HG := Lib.hid (get_any v t i w h)
  generalize tget t i = n at HG ⊢
  generalize tis t i = b at HG
  unfold nodeV at HG
  clear h
  go_enter Tryz.func144, Tryz.ntmps144
  go_wp2_with fail
  refine HG.out.mono ?_
  rintro e w2 ⟨vd, ve, rfl, hd, he, -, -, hb2⟩
  obtain ⟨A5, k5, rfl⟩ := bytesT_form hd
  obtain ⟨A6, k6, rfl⟩ := entsT_form he
  have HB := Lib.hid (al hb2 (.cells (ndC n (.slice A5 n.data.length k5) (.slice A6 n.ents.length k6)) 65))
  clear hd he hb2
  go_wp2
  go_ret
  exact ⟨rfl, HB.out⟩
set_option maxHeartbeats 8000000 in
theorem qmay_any (v : Value) (t : List Nd) (c : Wh) (A0 : Option Addr) (m k : Nat) (F : Fo) (w : World) (h : TabP w v t) :
    Calls Tryz.prog 176 #[v, .agg #[.int .i64 c.u, .int .i64 c.g, .slice A0 m k], .agg #[.int .i64 F.dir, .string (bA F.name), .int .i64 F.node]] w fun e w' => e = .returned (.bool (stkB t c F)) ∧ Below w.heap.size w w' := by
  have hb1 := ba w (.cells #[.int .i64 c.u, .int .i64 c.g, .slice A0 m k] 30)
  have h11 := Blk.new w 30 #[.int .i64 c.u, .int .i64 c.g, .slice A0 m k]
  obtain ⟨W1, hW1⟩ : ∃ W, w.alloc (.cells #[.int .i64 c.u, .int .i64 c.g, .slice A0 m k] 30) = W := ⟨_, rfl⟩
  rw [hW1] at hb1 h11
  have hb2 := al hb1 (.cells #[.int .i64 F.dir, .string (bA F.name), .int .i64 F.node] 197)
  have h12 := h11.alloc (.cells #[.int .i64 F.dir, .string (bA F.name), .int .i64 F.node] 197)
  have h22 := Blk.new W1 197 #[.int .i64 F.dir, .string (bA F.name), .int .i64 F.node]
  obtain ⟨W2, hW2⟩ : ∃ W, W1.alloc (.cells #[.int .i64 F.dir, .string (bA F.name), .int .i64 F.node] 197) = W := ⟨_, rfl⟩
  rw [hW2] at hb2 h12 h22
  obtain ⟨z2, hz2⟩ : ∃ z, W1.heap.size = z := ⟨_, rfl⟩
  rw [hz2] at h22
  have HG := Lib.hid (get_any v t F.dir W2 (h.below hb2))
  have HG2 := Lib.hid (fun (W : World) (hb : Below W2.heap.size W2 W) => get_any v t F.node W ((h.below hb2).below hb))
  have HB2 := Lib.hid hb2
  have H1 := Lib.hid h12
  have H2 := Lib.hid h22
  obtain ⟨K, hK⟩ : ∃ K, stkB t c F = K := ⟨_, rfl⟩
  have HK := Lib.hid (show (c.u == 0 || bits .and .i64 (tget t F.dir).mode 512 == 0 || (tget t F.dir).uid == c.u || (tget t F.node).uid == c.u) = K from hK)
  rw [hK]
  generalize tget t F.dir = d at HG HK
  generalize tget t F.node = n at HG2 HK
  generalize tis t F.dir = q1 at HG
  generalize tis t F.node = q2 at HG2
  have HC := Lib.hid (fun W => sticky_any c.u c.g A0 m k d.mode d.uid n.uid W)
  unfold nodeV at HG HG2
  obtain ⟨k0, k1, k2⟩ := h12.c3
  obtain ⟨b0, b1, b2⟩ := h22.c3
  clear h hK hb1 hb2 h11 h12 h22
  go_enter Tryz.func176, Tryz.ntmps176
  go_wp2_with fail
  clear hW1 hW2 hz2
  refine HG.out.mono ?_
  rintro e w3 ⟨vd, ve, rfl, hd, he, -, -, hb⟩
  obtain ⟨A5, k5, rfl⟩ := bytesT_form hd
  obtain ⟨A6, k6, rfl⟩ := entsT_form he
  have hbx := al hb (.cells #[.int .i64 d.kind, .int .i64 d.mode, .int .i64 d.uid, .int .i64 d.gid, .slice A5 d.data.length k5, .slice A6 d.ents.length k6, .string (bA d.target)] 65)
  have hkx := Blk.new w3 65 #[.int .i64 d.kind, .int .i64 d.mode, .int .i64 d.uid, .int .i64 d.gid, .slice A5 d.data.length k5, .slice A6 d.ents.length k6, .string (bA d.target)]
  have hdx := hd.below (ba w3 (.cells #[.int .i64 d.kind, .int .i64 d.mode, .int .i64 d.uid, .int .i64 d.gid, .slice A5 d.data.length k5, .slice A6 d.ents.length k6, .string (bA d.target)] 65))
  have hex := he.below (ba w3 (.cells #[.int .i64 d.kind, .int .i64 d.mode, .int .i64 d.uid, .int .i64 d.gid, .slice A5 d.data.length k5, .slice A6 d.ents.length k6, .string (bA d.target)] 65))
  obtain ⟨W4, hW4⟩ : ∃ W, w3.alloc (.cells #[.int .i64 d.kind, .int .i64 d.mode, .int .i64 d.uid, .int .i64 d.gid, .slice A5 d.data.length k5, .slice A6 d.ents.length k6, .string (bA d.target)] 65) = W := ⟨_, rfl⟩
  obtain ⟨y, hy⟩ : ∃ z, w3.heap.size = z := ⟨_, rfl⟩
  rw [hW4] at hbx hkx hdx hex
  rw [hy] at hkx
  have HG3 := Lib.hid (HG2.out W4 hbx)
  have J4 := Lib.hid hbx
  have HD4 := Lib.hid hkx
  clear hd he hb hbx hkx hdx hex k0 k1 k2 b0 b1 b2 HG HG2
  obtain ⟨b0, b1, b2⟩ := (H2.out.below J4.out).c3
  go_wp2_with fail
  clear hW4 hy
  refine HG3.out.mono ?_
  rintro e w5 ⟨vd, ve, rfl, hd, he, -, -, hb⟩
  obtain ⟨A7, k7, rfl⟩ := bytesT_form hd
  obtain ⟨A8, k8, rfl⟩ := entsT_form he
  have hbx := al hb (.cells #[.int .i64 n.kind, .int .i64 n.mode, .int .i64 n.uid, .int .i64 n.gid, .slice A7 n.data.length k7, .slice A8 n.ents.length k8, .string (bA n.target)] 65)
  have hkx := Blk.new w5 65 #[.int .i64 n.kind, .int .i64 n.mode, .int .i64 n.uid, .int .i64 n.gid, .slice A7 n.data.length k7, .slice A8 n.ents.length k8, .string (bA n.target)]
  have hdx := hd.below (ba w5 (.cells #[.int .i64 n.kind, .int .i64 n.mode, .int .i64 n.uid, .int .i64 n.gid, .slice A7 n.data.length k7, .slice A8 n.ents.length k8, .string (bA n.target)] 65))
  have hex := he.below (ba w5 (.cells #[.int .i64 n.kind, .int .i64 n.mode, .int .i64 n.uid, .int .i64 n.gid, .slice A7 n.data.length k7, .slice A8 n.ents.length k8, .string (bA n.target)] 65))
  obtain ⟨W6, hW6⟩ : ∃ W, w5.alloc (.cells #[.int .i64 n.kind, .int .i64 n.mode, .int .i64 n.uid, .int .i64 n.gid, .slice A7 n.data.length k7, .slice A8 n.ents.length k8, .string (bA n.target)] 65) = W := ⟨_, rfl⟩
  obtain ⟨x, hx⟩ : ∃ z, w5.heap.size = z := ⟨_, rfl⟩
  rw [hW6] at hbx hkx hdx hex
  rw [hx] at hkx
  have J6 := Lib.hid (bt hbx J4.out)
  obtain ⟨k0, k1, k2⟩ := (H1.out.below J6.out).c3
  obtain ⟨p0, p1, p2, p3, p4, p5, p6⟩ := (HD4.out.below hbx).c7
  obtain ⟨r0, r1, r2, r3, r4, r5, r6⟩ := hkx.c7
  clear hd he hb hbx hkx hdx hex b0 b1 b2 HG3
  go_wp2_with fail
  clear hW6 hx
  refine (HC.out _).mono ?_
  rintro e w7 ⟨rfl, hb7⟩
  have HB7 := Lib.hid (bt hb7 (bt J6.out HB2.out))
  clear hb7
  go_wp2
  go_ret
  exact ⟨ret_bool HK.out, HB7.out⟩
/-! An entry is taken away, or not. -/
set_option maxHeartbeats 8000000 in
theorem qtake_yes (g : Nat) (t : List Nd) (P : Nat → Prop) (F : Fo) (w : World) (h : TabR w g t P) (hk : (tget t F.dir).kind = 2) (hm : F.name ∈ nmE (tget t F.dir).ents) (hP : ∀ b, w.heap.size ≤ b → P b) :
    Calls Tryz.prog 143 #[.pointer (some ⟨g, 0, none⟩), .agg #[.int .i64 F.dir, .string (bA F.name), .int .i64 F.node]] w fun e w' => e = .returned (.tuple #[]) ∧ TabR w' g (cutT t F.dir F.name) P ∧ w.grownBy w' (some g) := by
  have ho := h.ptr.ok.1
  have hti := kind_tis hk
  have hX : outE (tget t F.dir) F.name = 0 := by unfold outE; rw [if_neg (fun q => q hk), if_pos hm]
  have hr := (right_out (tis_right ho hti) hX).1
  have hfN := right_few hr
  have hb1 := ba w (.cells #[.int .i64 F.dir, .string (bA F.name), .int .i64 F.node] 197)
  have h11 := Blk.new w 197 #[.int .i64 F.dir, .string (bA F.name), .int .i64 F.node]
  obtain ⟨W1, hW1⟩ : ∃ W, w.alloc (.cells #[.int .i64 F.dir, .string (bA F.name), .int .i64 F.node] 197) = W := ⟨_, rfl⟩
  rw [hW1] at hb1 h11
  have hf := ok_few ho F.dir
  have HG := Lib.hid (get_any (.pointer (some ⟨g, 0, none⟩)) t F.dir W1 (h.below hb1).ptr)
  have HW := Lib.hid (fun (vd ve : Value) (W : World) (hd : BytesR W vd (tget t F.dir).data) (he : EntsR W ve (tget t F.dir).ents) => nwo_any (tget t F.dir) vd ve F.name W hd he hf.1 hf.2)
  obtain ⟨N, hN⟩ : ∃ N, outM (tget t F.dir) F.name = N := ⟨_, rfl⟩
  have HC := Lib.hid (show cutT t F.dir F.name = setT t F.dir N from by rw [← hN]; rfl)
  rw [hN] at hr hfN
  have HPT := Lib.hid (fun (vd ve : Value) (W : World) (hb : Below W1.heap.size W1 W) (hd : BytesR W vd N.data) (he : EntsR W ve N.ents) => show Calls Tryz.prog 22 #[.pointer (some ⟨g, 0, none⟩), .int .i64 F.dir, nodeV N vd ve] W fun e w' => ∃ x, e = .returned (.int .i64 x) ∧ TabR w' g (setT t F.dir N) P ∧ W.grownBy w' (some g) from by
    have h1 := put_any g t P F.dir N vd ve W ((h.below hb1).below hb) hd he hfN (fun b q => hP b (Nat.le_trans hb1.size (Nat.le_trans hb.size q)))
    rw [actT, if_pos rfl, if_pos ⟨hti, toB_true hr⟩] at h1
    exact h1.mono fun _ _ ⟨a1, a2, a3⟩ => ⟨_, a1, a2, a3⟩)
  rw [hX, hN] at HW
  have HB1 := Lib.hid hb1
  have H1 := Lib.hid h11
  obtain ⟨b0, b1, b2⟩ := h11.c3
  generalize tget t F.dir = d at HG HW
  generalize tis t F.dir = q1 at HG
  unfold nodeV at HG HW HPT
  clear h ho hX hN hk hm hti hr hfN hP hf hb1 h11
  go_enter Tryz.func143, Tryz.ntmps143
  go_wp2_with fail
  clear hW1
  refine HG.out.mono ?_
  rintro e w2 ⟨vd, ve, rfl, hd, he, -, -, hb⟩
  obtain ⟨A5, k5, rfl⟩ := bytesT_form hd
  obtain ⟨A6, k6, rfl⟩ := entsT_form he
  have hbx := al hb (.cells #[.int .i64 d.kind, .int .i64 d.mode, .int .i64 d.uid, .int .i64 d.gid, .slice A5 d.data.length k5, .slice A6 d.ents.length k6, .string (bA d.target)] 65)
  have hkx := Blk.new w2 65 #[.int .i64 d.kind, .int .i64 d.mode, .int .i64 d.uid, .int .i64 d.gid, .slice A5 d.data.length k5, .slice A6 d.ents.length k6, .string (bA d.target)]
  have hdx := hd.below (ba w2 (.cells #[.int .i64 d.kind, .int .i64 d.mode, .int .i64 d.uid, .int .i64 d.gid, .slice A5 d.data.length k5, .slice A6 d.ents.length k6, .string (bA d.target)] 65))
  have hex := he.below (ba w2 (.cells #[.int .i64 d.kind, .int .i64 d.mode, .int .i64 d.uid, .int .i64 d.gid, .slice A5 d.data.length k5, .slice A6 d.ents.length k6, .string (bA d.target)] 65))
  obtain ⟨W3, hW3⟩ : ∃ W, w2.alloc (.cells #[.int .i64 d.kind, .int .i64 d.mode, .int .i64 d.uid, .int .i64 d.gid, .slice A5 d.data.length k5, .slice A6 d.ents.length k6, .string (bA d.target)] 65) = W := ⟨_, rfl⟩
  obtain ⟨y, hy⟩ : ∃ z, w2.heap.size = z := ⟨_, rfl⟩
  rw [hW3] at hbx hkx hdx hex
  rw [hy] at hkx
  have HW3 := Lib.hid (HW.out _ _ W3 hdx.1 hex.1)
  have J3 := Lib.hid hbx
  obtain ⟨p0, p1, p2, p3, p4, p5, p6⟩ := hkx.c7
  clear b0 b1 b2
  obtain ⟨b0, b1, b2⟩ := (H1.out.below J3.out).c3
  clear hd he hb hbx hkx hdx hex HG HW
  go_wp2_with fail
  clear hW3 hy
  refine HW3.out.mono ?_
  rintro e w4 ⟨v, rfl, ⟨vd, ve, rfl, hd, he⟩, hb⟩
  obtain ⟨A7, k7, rfl⟩ := bytes_form hd rfl
  obtain ⟨A8, k8, rfl⟩ := ents_form he rfl
  unfold nodeV
  have hbx := al hb (.cells #[.int .i64 N.kind, .int .i64 N.mode, .int .i64 N.uid, .int .i64 N.gid, .slice A7 N.data.length k7, .slice A8 N.ents.length k8, .string (bA N.target)] 65)
  have hkx := Blk.new w4 65 #[.int .i64 N.kind, .int .i64 N.mode, .int .i64 N.uid, .int .i64 N.gid, .slice A7 N.data.length k7, .slice A8 N.ents.length k8, .string (bA N.target)]
  have hdx := hd.below (ba w4 (.cells #[.int .i64 N.kind, .int .i64 N.mode, .int .i64 N.uid, .int .i64 N.gid, .slice A7 N.data.length k7, .slice A8 N.ents.length k8, .string (bA N.target)] 65))
  have hex := he.below (ba w4 (.cells #[.int .i64 N.kind, .int .i64 N.mode, .int .i64 N.uid, .int .i64 N.gid, .slice A7 N.data.length k7, .slice A8 N.ents.length k8, .string (bA N.target)] 65))
  obtain ⟨W5, hW5⟩ : ∃ W, w4.alloc (.cells #[.int .i64 N.kind, .int .i64 N.mode, .int .i64 N.uid, .int .i64 N.gid, .slice A7 N.data.length k7, .slice A8 N.ents.length k8, .string (bA N.target)] 65) = W := ⟨_, rfl⟩
  obtain ⟨x, hx⟩ : ∃ z, w4.heap.size = z := ⟨_, rfl⟩
  rw [hW5] at hbx hkx hdx hex
  rw [hx] at hkx
  have J5 := Lib.hid (bt hbx J3.out)
  obtain ⟨r0, r1, r2, r3, r4, r5, r6⟩ := hkx.c7
  clear b0 b1 b2 p0 p1 p2 p3 p4 p5 p6
  obtain ⟨b0, b1, b2⟩ := (H1.out.below J5.out).c3
  have HP5 := Lib.hid (HPT.out _ _ W5 J5.out hdx hex)
  clear hd he hb hbx hkx hdx hex HW3 HPT
  go_wp2_with fail
  clear hW5 hx
  refine HP5.out.mono ?_
  rintro e w6 ⟨xx, rfl, ht, hg⟩
  have HE := Lib.hid (And.intro ht (grown_trans (grown_below (bt J5.out HB1.out) _) hg))
  clear ht hg
  go_wp2
  go_end0
  exact ⟨rfl, by rw [HC.out]; exact HE.out.1, HE.out.2⟩
set_option maxHeartbeats 8000000 in
theorem qtake_no (g : Nat) (t : List Nd) (P : Nat → Prop) (F : Fo) (w : World) (h : TabR w g t P) (hne : outE (tget t F.dir) F.name ≠ 0) :
    Calls Tryz.prog 143 #[.pointer (some ⟨g, 0, none⟩), .agg #[.int .i64 F.dir, .string (bA F.name), .int .i64 F.node]] w fun e w' => e = .returned (.tuple #[]) ∧ TabR w' g t P ∧ w.grownBy w' (some g) := by
  have ho := h.ptr.ok.1
  have hb1 := ba w (.cells #[.int .i64 F.dir, .string (bA F.name), .int .i64 F.node] 197)
  have h11 := Blk.new w 197 #[.int .i64 F.dir, .string (bA F.name), .int .i64 F.node]
  obtain ⟨W1, hW1⟩ : ∃ W, w.alloc (.cells #[.int .i64 F.dir, .string (bA F.name), .int .i64 F.node] 197) = W := ⟨_, rfl⟩
  rw [hW1] at hb1 h11
  have hf := ok_few ho F.dir
  have HG := Lib.hid (get_any (.pointer (some ⟨g, 0, none⟩)) t F.dir W1 (h.below hb1).ptr)
  have HW := Lib.hid (fun (vd ve : Value) (W : World) (hd : BytesR W vd (tget t F.dir).data) (he : EntsR W ve (tget t F.dir).ents) => nwo_any (tget t F.dir) vd ve F.name W hd he hf.1 hf.2)
  obtain ⟨X, hX⟩ : ∃ X, outE (tget t F.dir) F.name = X := ⟨_, rfl⟩
  obtain ⟨N, hN⟩ : ∃ N, outM (tget t F.dir) F.name = N := ⟨_, rfl⟩
  rw [hX] at hne
  have y1 : (X == 0) = false := by simpa using hne
  rw [hX, hN] at HW
  have HT := Lib.hid (h.below hb1)
  have HB1 := Lib.hid hb1
  have H1 := Lib.hid h11
  obtain ⟨b0, b1, b2⟩ := h11.c3
  generalize tget t F.dir = d at HG HW
  generalize tis t F.dir = q1 at HG
  unfold nodeV at HG HW
  clear h ho hX hN hne hf hb1 h11
  go_enter Tryz.func143, Tryz.ntmps143
  go_wp2_with fail
  clear hW1
  refine HG.out.mono ?_
  rintro e w2 ⟨vd, ve, rfl, hd, he, -, -, hb⟩
  obtain ⟨A5, k5, rfl⟩ := bytesT_form hd
  obtain ⟨A6, k6, rfl⟩ := entsT_form he
  have hbx := al hb (.cells #[.int .i64 d.kind, .int .i64 d.mode, .int .i64 d.uid, .int .i64 d.gid, .slice A5 d.data.length k5, .slice A6 d.ents.length k6, .string (bA d.target)] 65)
  have hkx := Blk.new w2 65 #[.int .i64 d.kind, .int .i64 d.mode, .int .i64 d.uid, .int .i64 d.gid, .slice A5 d.data.length k5, .slice A6 d.ents.length k6, .string (bA d.target)]
  have hdx := hd.below (ba w2 (.cells #[.int .i64 d.kind, .int .i64 d.mode, .int .i64 d.uid, .int .i64 d.gid, .slice A5 d.data.length k5, .slice A6 d.ents.length k6, .string (bA d.target)] 65))
  have hex := he.below (ba w2 (.cells #[.int .i64 d.kind, .int .i64 d.mode, .int .i64 d.uid, .int .i64 d.gid, .slice A5 d.data.length k5, .slice A6 d.ents.length k6, .string (bA d.target)] 65))
  obtain ⟨W3, hW3⟩ : ∃ W, w2.alloc (.cells #[.int .i64 d.kind, .int .i64 d.mode, .int .i64 d.uid, .int .i64 d.gid, .slice A5 d.data.length k5, .slice A6 d.ents.length k6, .string (bA d.target)] 65) = W := ⟨_, rfl⟩
  obtain ⟨y, hy⟩ : ∃ z, w2.heap.size = z := ⟨_, rfl⟩
  rw [hW3] at hbx hkx hdx hex
  rw [hy] at hkx
  have HW3 := Lib.hid (HW.out _ _ W3 hdx.1 hex.1)
  have J3 := Lib.hid hbx
  obtain ⟨p0, p1, p2, p3, p4, p5, p6⟩ := hkx.c7
  clear b0 b1 b2
  obtain ⟨b0, b1, b2⟩ := (H1.out.below J3.out).c3
  clear hd he hb hbx hkx hdx hex HG HW
  go_wp2_with fail
  clear hW3 hy
  refine HW3.out.mono ?_
  rintro e w4 ⟨v, rfl, ⟨vd, ve, rfl, hd, he⟩, hb⟩
  obtain ⟨A7, k7, rfl⟩ := bytes_form hd rfl
  obtain ⟨A8, k8, rfl⟩ := ents_form he rfl
  unfold nodeV
  have hbx := al hb (.cells #[.int .i64 N.kind, .int .i64 N.mode, .int .i64 N.uid, .int .i64 N.gid, .slice A7 N.data.length k7, .slice A8 N.ents.length k8, .string (bA N.target)] 65)
  have hkx := Blk.new w4 65 #[.int .i64 N.kind, .int .i64 N.mode, .int .i64 N.uid, .int .i64 N.gid, .slice A7 N.data.length k7, .slice A8 N.ents.length k8, .string (bA N.target)]
  have hdx := hd.below (ba w4 (.cells #[.int .i64 N.kind, .int .i64 N.mode, .int .i64 N.uid, .int .i64 N.gid, .slice A7 N.data.length k7, .slice A8 N.ents.length k8, .string (bA N.target)] 65))
  have hex := he.below (ba w4 (.cells #[.int .i64 N.kind, .int .i64 N.mode, .int .i64 N.uid, .int .i64 N.gid, .slice A7 N.data.length k7, .slice A8 N.ents.length k8, .string (bA N.target)] 65))
  obtain ⟨W5, hW5⟩ : ∃ W, w4.alloc (.cells #[.int .i64 N.kind, .int .i64 N.mode, .int .i64 N.uid, .int .i64 N.gid, .slice A7 N.data.length k7, .slice A8 N.ents.length k8, .string (bA N.target)] 65) = W := ⟨_, rfl⟩
  obtain ⟨x, hx⟩ : ∃ z, w4.heap.size = z := ⟨_, rfl⟩
  rw [hW5] at hbx hkx hdx hex
  rw [hx] at hkx
  have J5 := Lib.hid (bt hbx J3.out)
  obtain ⟨r0, r1, r2, r3, r4, r5, r6⟩ := hkx.c7
  clear b0 b1 b2 p0 p1 p2 p3 p4 p5 p6
  obtain ⟨b0, b1, b2⟩ := (H1.out.below J5.out).c3
  clear hd he hb hbx hkx hdx hex HW3
  go_wp2
  clear hW5 hx
  go_end0
  exact ⟨rfl, HT.out.below J5.out, grown_below (bt J5.out HB1.out) _⟩
set_option maxHeartbeats 8000000 in
theorem qgive_any (g : Nat) (t : List Nd) (P : Nat → Prop) (F : Fo) (id : Int) (w : World) (h : TabR w g t P) (hX : withE (tget t F.dir) F.name id = 0) (hn : F.name.length ≤ 1000) (hP : ∀ b, w.heap.size ≤ b → P b) :
    Calls Tryz.prog 147 #[.pointer (some ⟨g, 0, none⟩), .agg #[.int .i64 F.dir, .string (bA F.name), .int .i64 F.node], .int .i64 id] w fun e w' => e = .returned (.tuple #[]) ∧ TabR w' g (addT t F.dir F.name id) P ∧ w.grownBy w' (some g) := by
  have ho := h.ptr.ok.1
  have hti := kind_tis (withE_zero.1 hX).1
  have hr := (right_with (tis_right ho hti) hX).1
  have hfN := right_few hr
  have hb1 := ba w (.cells #[.int .i64 F.dir, .string (bA F.name), .int .i64 F.node] 197)
  have h11 := Blk.new w 197 #[.int .i64 F.dir, .string (bA F.name), .int .i64 F.node]
  obtain ⟨W1, hW1⟩ : ∃ W, w.alloc (.cells #[.int .i64 F.dir, .string (bA F.name), .int .i64 F.node] 197) = W := ⟨_, rfl⟩
  rw [hW1] at hb1 h11
  have hf := ok_few ho F.dir
  have HG := Lib.hid (get_any (.pointer (some ⟨g, 0, none⟩)) t F.dir W1 (h.below hb1).ptr)
  have HW := Lib.hid (fun (vd ve : Value) (W : World) (hd : BytesR W vd (tget t F.dir).data) (he : EntsR W ve (tget t F.dir).ents) => with_any (tget t F.dir) vd ve F.name id W hd he hf.1 hf.2 hn)
  obtain ⟨N, hN⟩ : ∃ N, withM (tget t F.dir) F.name id = N := ⟨_, rfl⟩
  have HC := Lib.hid (show addT t F.dir F.name id = setT t F.dir N from by rw [← hN]; rfl)
  rw [hN] at hr hfN
  have HPT := Lib.hid (fun (vd ve : Value) (W : World) (hb : Below W1.heap.size W1 W) (hd : BytesR W vd N.data) (he : EntsR W ve N.ents) => show Calls Tryz.prog 22 #[.pointer (some ⟨g, 0, none⟩), .int .i64 F.dir, nodeV N vd ve] W fun e w' => ∃ x, e = .returned (.int .i64 x) ∧ TabR w' g (setT t F.dir N) P ∧ W.grownBy w' (some g) from by
    have h1 := put_any g t P F.dir N vd ve W ((h.below hb1).below hb) hd he hfN (fun b q => hP b (Nat.le_trans hb1.size (Nat.le_trans hb.size q)))
    rw [actT, if_pos rfl, if_pos ⟨hti, toB_true hr⟩] at h1
    exact h1.mono fun _ _ ⟨a1, a2, a3⟩ => ⟨_, a1, a2, a3⟩)
  rw [hX, hN] at HW
  have HB1 := Lib.hid hb1
  have H1 := Lib.hid h11
  obtain ⟨b0, b1, b2⟩ := h11.c3
  generalize tget t F.dir = d at HG HW
  generalize tis t F.dir = q1 at HG
  unfold nodeV at HG HW HPT
  clear h ho hX hN hti hr hfN hP hn hf hb1 h11
  go_enter Tryz.func147, Tryz.ntmps147
  go_wp2_with fail
  clear hW1
  refine HG.out.mono ?_
  rintro e w2 ⟨vd, ve, rfl, hd, he, -, -, hb⟩
  obtain ⟨A5, k5, rfl⟩ := bytesT_form hd
  obtain ⟨A6, k6, rfl⟩ := entsT_form he
  have hbx := al hb (.cells #[.int .i64 d.kind, .int .i64 d.mode, .int .i64 d.uid, .int .i64 d.gid, .slice A5 d.data.length k5, .slice A6 d.ents.length k6, .string (bA d.target)] 65)
  have hkx := Blk.new w2 65 #[.int .i64 d.kind, .int .i64 d.mode, .int .i64 d.uid, .int .i64 d.gid, .slice A5 d.data.length k5, .slice A6 d.ents.length k6, .string (bA d.target)]
  have hdx := hd.below (ba w2 (.cells #[.int .i64 d.kind, .int .i64 d.mode, .int .i64 d.uid, .int .i64 d.gid, .slice A5 d.data.length k5, .slice A6 d.ents.length k6, .string (bA d.target)] 65))
  have hex := he.below (ba w2 (.cells #[.int .i64 d.kind, .int .i64 d.mode, .int .i64 d.uid, .int .i64 d.gid, .slice A5 d.data.length k5, .slice A6 d.ents.length k6, .string (bA d.target)] 65))
  obtain ⟨W3, hW3⟩ : ∃ W, w2.alloc (.cells #[.int .i64 d.kind, .int .i64 d.mode, .int .i64 d.uid, .int .i64 d.gid, .slice A5 d.data.length k5, .slice A6 d.ents.length k6, .string (bA d.target)] 65) = W := ⟨_, rfl⟩
  obtain ⟨y, hy⟩ : ∃ z, w2.heap.size = z := ⟨_, rfl⟩
  rw [hW3] at hbx hkx hdx hex
  rw [hy] at hkx
  have HW3 := Lib.hid (HW.out _ _ W3 hdx.1 hex.1)
  have J3 := Lib.hid hbx
  obtain ⟨p0, p1, p2, p3, p4, p5, p6⟩ := hkx.c7
  clear b0 b1 b2
  obtain ⟨b0, b1, b2⟩ := (H1.out.below J3.out).c3
  clear hd he hb hbx hkx hdx hex HG HW
  go_wp2_with fail
  clear hW3 hy
  refine HW3.out.mono ?_
  rintro e w4 ⟨v, rfl, ⟨vd, ve, rfl, hd, he⟩, hb⟩
  obtain ⟨A7, k7, rfl⟩ := bytes_form hd rfl
  obtain ⟨A8, k8, rfl⟩ := ents_form he rfl
  unfold nodeV
  have hbx := al hb (.cells #[.int .i64 N.kind, .int .i64 N.mode, .int .i64 N.uid, .int .i64 N.gid, .slice A7 N.data.length k7, .slice A8 N.ents.length k8, .string (bA N.target)] 65)
  have hkx := Blk.new w4 65 #[.int .i64 N.kind, .int .i64 N.mode, .int .i64 N.uid, .int .i64 N.gid, .slice A7 N.data.length k7, .slice A8 N.ents.length k8, .string (bA N.target)]
  have hdx := hd.below (ba w4 (.cells #[.int .i64 N.kind, .int .i64 N.mode, .int .i64 N.uid, .int .i64 N.gid, .slice A7 N.data.length k7, .slice A8 N.ents.length k8, .string (bA N.target)] 65))
  have hex := he.below (ba w4 (.cells #[.int .i64 N.kind, .int .i64 N.mode, .int .i64 N.uid, .int .i64 N.gid, .slice A7 N.data.length k7, .slice A8 N.ents.length k8, .string (bA N.target)] 65))
  obtain ⟨W5, hW5⟩ : ∃ W, w4.alloc (.cells #[.int .i64 N.kind, .int .i64 N.mode, .int .i64 N.uid, .int .i64 N.gid, .slice A7 N.data.length k7, .slice A8 N.ents.length k8, .string (bA N.target)] 65) = W := ⟨_, rfl⟩
  obtain ⟨x, hx⟩ : ∃ z, w4.heap.size = z := ⟨_, rfl⟩
  rw [hW5] at hbx hkx hdx hex
  rw [hx] at hkx
  have J5 := Lib.hid (bt hbx J3.out)
  obtain ⟨r0, r1, r2, r3, r4, r5, r6⟩ := hkx.c7
  clear b0 b1 b2 p0 p1 p2 p3 p4 p5 p6
  obtain ⟨b0, b1, b2⟩ := (H1.out.below J5.out).c3
  have HP5 := Lib.hid (HPT.out _ _ W5 J5.out hdx hex)
  clear hd he hb hbx hkx hdx hex HW3 HPT
  go_wp2_with fail
  clear hW5 hx
  refine HP5.out.mono ?_
  rintro e w6 ⟨xx, rfl, ht, hg⟩
  have HE := Lib.hid (And.intro ht (grown_trans (grown_below (bt J5.out HB1.out) _) hg))
  clear ht hg
  go_wp2
  go_end0
  exact ⟨rfl, by rw [HC.out]; exact HE.out.1, HE.out.2⟩
end Go.Proofs.YtnkjaocmfhjnoaaGreat
