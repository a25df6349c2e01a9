/-
  A node with one entry less, or why there is none: Without. The conditions: a name has a thousand bytes at most, and no list is longer than a thousand.
-/
import Derived.Test.YtiimdmbalnhmmaaGreatWB
namespace Go.Proofs.YtiimdmbalnhmmaaGreat
open Go Go.RowKit
set_option maxRecDepth 100000

theorem EntsR.of_cells {w : World} {g : Nat} {l : List En} {n : Nat} (c : Nat) (hn : l.length = n) (h : ∀ (j : Nat) (u : Value), (eCells l)[j]? = some u → w.cell? ⟨g, j, none⟩ = some u) : EntsR w (.slice (some ⟨g, 0, none⟩) n c) l := by
  subst hn
  refine ⟨_, c, rfl, fun k e hk => ⟨_, rfl, ?_⟩⟩
  obtain ⟨h0, h1⟩ := eCells_at l k e hk
  rw [add_lit]
  exact ⟨h _ _ h0, h _ _ h1⟩
theorem grown_setCells (b : Nat) : ∀ (vs : List Value) (o : Nat) (w : World), w.grownBy (w.setCells b o vs) (some b)
  | [], _, w => ⟨rfl, rfl, rfl, Nat.le_refl _, fun _ _ _ => rfl⟩
  | v :: r, o, w => by
    rw [World.setCells]
    exact grown_trans (grown_setCell w ⟨b, o, none⟩ v) (grown_setCells b r (o + 1) _)
theorem blk_setCells {g : Nat} {t : TypeId} : ∀ (vs : List Value) (o : Nat) (w : World) (cs : Array Value), Blk w g t cs → ∃ cs', Blk (w.setCells g o vs) g t cs'
  | [], _, _, cs, h => ⟨cs, h⟩
  | v :: r, o, w, cs, h => by
    rw [World.setCells]
    exact blk_setCells r (o + 1) _ _ (h.set_ o v)
theorem grown_drew (w : World) (r : Option Nat) : w.grownBy w.drew r := ⟨rfl, rfl, rfl, Nat.le_refl _, fun _ _ _ => rfl⟩
/-- clear of one entry. -/
theorem run_clear_ent (w : World) (ty : TypeId) (b o c : Nat) (hc : ∀ j, j < 2 → (w.cell? ⟨b, o + j, none⟩).isSome = true) (hf : ∀ j, j < 2 → w.frozen? ⟨b, o + j, none⟩ = false) :
    (Builtin.clear_ #[57] ty #[.slice (some ⟨b, o, none⟩) 1 c]).run Tryz.prog w = .ok (.tuple #[]) (w.setCells b o [.string ⟨#[]⟩, .int .i64 0]) := by
  have hv : (zeroValue 72).run Tryz.prog w = .ok (.agg #[.string ⟨#[]⟩, .int .i64 0]) w := by kernel_rfl
  have hzc : (Builtin.zeroCells (Value.agg #[.string ⟨#[]⟩, .int .i64 0]).cells 1).toList = [.string ⟨#[]⟩, .int .i64 0] := by kernel_rfl
  have hst := run_storeCells_cells (P := Tryz.prog) b o [.string ⟨#[]⟩, .int .i64 0] 0 w (by simpa using hc) (by simpa using hf) (by intro v hv'; simp at hv'; rcases hv' with rfl | rfl <;> rfl)
  simp only [Nat.add_zero] at hst
  simp [Builtin.clear_, run_underlying Tryz.underlying57, hv, hzc, hst]
set_option maxHeartbeats 4000000 in
set_option maxRecDepth 100000 in
theorem delete_any (g : Nat) (l : List En) (k : Nat) (w : World) (hk : Blk w g 72 (eCells l).toArray) (hkl : k < l.length) (hn : l.length ≤ 1000) :
    Calls Tryz.prog 103 #[.slice (some ⟨g, 0, none⟩) l.length l.length, .int .i64 (k : Int), .int .i64 ((k : Int) + 1)] w fun e' w' => ∃ v', e' = .returned v' ∧ EntsT w' v' (l.take k ++ l.drop (k + 1)) ∧ w.grownBy w' (some g) := by
  obtain ⟨i0, hi0, hz0, hzs, hzb⟩ := info_parts info_ent
  have hcell : ∀ (j : Nat) (u : Value), (eCells l)[j]? = some u → w.cell? ⟨g, j, none⟩ = some u := by
    intro j u hj
    rw [hk.cell j, List.getElem?_toArray]
    exact hj
  have hsome : ∀ j, j < l.length * 2 → (w.cell? ⟨g, j, none⟩).isSome = true := by
    intro j hj
    rw [hk.cell j, List.getElem?_toArray, List.getElem?_eq_getElem (by rw [eCells_len]; exact hj)]
    rfl
  have hfro : ∀ j, w.frozen? ⟨g, j, none⟩ = false := hk.frozen
  have hld : (eCells (l.drop (k + 1))).length = (l.length - (k + 1)) * 2 := by rw [eCells_len, List.length_drop]
  have hlt : (eCells (l.take k)).length = k * 2 := by rw [eCells_len, List.length_take, Nat.min_eq_left (by omega)]
  obtain ⟨news, hnews⟩ : ∃ news, news = eCells (l.drop (k + 1)) := ⟨_, rfl⟩
  obtain ⟨A, hA, hsrc⟩ : ∃ A : Addr, (if l.length = k + 1 then some (⟨g, 0, none⟩ : Addr) else some ⟨g, (k + 1) * 2, none⟩) = some A ∧ Hid (∀ t u, news[t]? = some u → w.drew.cell? (A.add t) = some u) := by
    by_cases h : l.length = k + 1
    · refine ⟨⟨g, 0, none⟩, by simp [h], fun t u hu => ?_⟩
      rw [hnews, List.drop_eq_nil_of_le (by omega)] at hu
      simp [eCells] at hu
    · refine ⟨⟨g, (k + 1) * 2, none⟩, by simp [h], fun t u hu => ?_⟩
      rw [Addr.add_lit]
      refine hcell _ u ?_
      rw [hnews, ← eCells_drop, List.getElem?_drop] at hu
      exact hu
  have s1 : Hid (news.length = (l.length - (k + 1)) * 2) := by rw [hnews]; exact hld
  have s2 : Hid (∀ u ∈ news, u.oneCell' = true) := by rw [hnews]; exact eCells_one _
  have s3 : Hid (∀ t, t < news.length → (w.drew.cell? ⟨g, 0 + k * 2 + t, none⟩).isSome = true ∧ w.drew.frozen? ⟨g, 0 + k * 2 + t, none⟩ = false) := by
    intro t ht
    rw [s1.out] at ht
    exact ⟨hsome _ (by omega), hfro _⟩
  obtain ⟨W1, hW1⟩ : ∃ W1, W1 = w.drew.setCells g (0 + k * 2) news := ⟨_, rfl⟩
  have hW : Hid (W1 = w.drew.setCells g (0 + k * 2) news) := hW1
  have hW1o : ∀ j, j < k * 2 → W1.cell? ⟨g, j, none⟩ = w.cell? ⟨g, j, none⟩ := by
    intro j hj
    rw [hW1, World.cell?_setCells_out _ _ _ _ _ (fun _ _ => .inl (by show j < 0 + k * 2; omega))]
    rfl
  have hW1i : ∀ j, j < (l.length - (k + 1)) * 2 → W1.cell? ⟨g, k * 2 + j, none⟩ = news[j]? := by
    intro j hj
    have hj' : j < news.length := by rw [s1.out]; exact hj
    have := World.cell?_setCells_in g news (0 + k * 2) w.drew (fun t ht => (s3.out t ht).1) j hj'
    rw [Nat.zero_add] at this hW1
    rw [hW1, this, List.getElem?_eq_getElem hj']
  have hW1l : ∀ j, j < 2 → W1.cell? ⟨g, (l.length - 1) * 2 + j, none⟩ = w.cell? ⟨g, (l.length - 1) * 2 + j, none⟩ := by
    intro j hj
    rw [hW1, World.cell?_setCells_out _ _ _ _ _ (fun _ _ => .inr (by show 0 + k * 2 + news.length ≤ (l.length - 1) * 2 + j; rw [s1.out]; omega))]
    rfl
  have hW1f : ∀ j, W1.frozen? ⟨g, j, none⟩ = false := by
    intro j
    rw [hW1, World.frozen?_setCells]
    exact hfro j
  have hcl := fun ty c => run_clear_ent W1 ty g ((l.length - 1) * 2) c (fun j hj => by rw [hW1l j hj]; exact hsome _ (by omega)) (fun j hj => hW1f _)
  obtain ⟨W2, hW2⟩ : ∃ W2, W2 = W1.setCells g ((l.length - 1) * 2) [.string ⟨#[]⟩, .int .i64 0] := ⟨_, rfl⟩
  rw [← hW2] at hcl
  have HG := Lib.hid (show w.grownBy W2 (some g) by
    rw [hW2, hW1]
    exact grown_trans (grown_trans (grown_drew w _) (grown_setCells g _ _ _)) (grown_setCells g _ _ _))
  have hkW2 : ∃ cs', Blk W2 g 72 cs' := by
    rw [hW2, hW1]
    obtain ⟨cs1, hcs1⟩ := blk_setCells news (0 + k * 2) w.drew _ hk
    exact blk_setCells _ _ _ cs1 hcs1
  have HE0 : EntsR W2 (.slice (some ⟨g, 0, none⟩) (l.length - 1) l.length) (l.take k ++ l.drop (k + 1)) :=
    EntsR.of_cells _ (by simp; omega) (by
      intro j u hj
      have hjl : j < (l.length - 1) * 2 := by
        have := (List.getElem?_eq_some_iff.1 hj).1
        rw [eCells_len] at this
        simp at this
        omega
      rw [hW2, World.cell?_setCells_out _ _ _ _ _ (fun _ _ => .inl hjl)]
      rw [eCells_app] at hj
      by_cases h : j < k * 2
      · rw [List.getElem?_append_left (by rw [hlt]; exact h)] at hj
        rw [hW1o j h]
        refine hcell j u ?_
        rw [← eCells_take, List.getElem?_take, if_pos h] at hj
        exact hj
      · rw [List.getElem?_append_right (by rw [hlt]; omega), hlt, ← hnews] at hj
        have := hW1i (j - k * 2) (by omega)
        rw [show k * 2 + (j - k * 2) = j by omega] at this
        rw [this]
        exact hj)
  have HE := Lib.hid (show EntsT W2 (.slice (some ⟨g, 0, none⟩) (l.length - 1) l.length) (l.take k ++ l.drop (k + 1)) from
    ⟨HE0, fun ad n' c' hv => by injection hv with hA; injection hA with hA; subst hA; exact hkW2⟩)
  clear HE0 hkW2
  obtain ⟨m, hm0⟩ : ∃ m, m = l.length - 1 := ⟨_, rfl⟩
  rw [← hm0] at hcl HE
  have hm : k + (l.length - (k + 1)) = m := by omega
  have hm1 : l.length - m = 1 := by omega
  have hm2 : (m : Int) ≤ (l.length : Int) := by omega
  have hm3 : ¬ l.length = m := by omega
  clear hm0
  clear hW1 hW2 hW1o hW1i hW1l hW1f hnews hcell hsome hfro hld hlt hk
  have n1 : ((k : Int) == (k : Int) + 1) = false := by rw [beq_eq_false_iff_ne]; omega
  have n3 : (k : Int) ≤ (l.length : Int) := by omega
  have n5 : (k : Int) + 1 ≤ (l.length : Int) := by omega
  have n6 : (k : Int) ≤ (k : Int) + 1 := by omega
  have mixed : Tryz.prog.follows Departure.mixedOrders = true := by kernel_rfl
  have hb1 : (0 : Int) ≤ (k : Int) + 1 := by omega
  have htn : ((k : Int) + 1).toNat = k + 1 := by omega
  have hic : k ≤ l.length := by omega
  have hjc : k + 1 ≤ l.length := by omega
  go_enter Tryz.func103, Tryz.ntmps103
  go_wp2_with fail
  go_region_law_o (refine step_append_room rfl (.tmp 22) (.tmp 25) 57 rfl 72 i0 2 Tryz.underlying57 hi0 hzs g 0 k l.length (by simp [Act.eval, Act.put]) A (l.length - (k + 1)) (l.length - (k + 1)) news (by simp [Act.eval, Act.put]) s1.out hsrc.out s2.out (by omega) s3.out ?_; rw [← hW.out, hm])
  go_wp2
  go_ret
  exact ⟨_, rfl, HE.out, HG.out⟩
attribute [local go_sem] cell_off4 cell_blk4
theorem outM_bad {n : Nd} {name : Nm} (h : ¬ outE n name = 0) : outM n name = Nd.zero := if_neg h
theorem outM_good {n : Nd} {name : Nm} (h : outE n name = 0) (hm : name ∈ nmE n.ents) : outM n name = { n with ents := n.ents.take (n.ents.findIdx (isN name)) ++ n.ents.drop (n.ents.findIdx (isN name) + 1) } := by
  rw [outM, if_pos h, plc_del _ _ hm]
theorem out_at (v : Value) (l : List En) (B k : Nat) (W : World) (hX : EntsX W B v l) (hk : k < l.length) (hn : l.length ≤ 1000) :
    Calls Tryz.prog 103 #[v, .int .i64 (k : Int), .int .i64 ((k : Int) + 1)] W fun e' w' => ∃ v', e' = .returned v' ∧ EntsT w' v' (l.take k ++ l.drop (k + 1)) ∧ W.grownBy w' v.ownBlock := by
  rcases hX with ⟨-, rfl⟩ | ⟨g, -, rfl, -, hb⟩
  · simp at hk
  · exact delete_any g l k W hb hk hn
set_option maxRecDepth 100000 in
theorem out_kind (n : Nd) (vd ve : Value) (name : Nm) (w : World) (hd : BytesR w vd n.data) (he : EntsR w ve n.ents) (h1 : ¬ n.kind = 2) :
    Calls Tryz.prog 77 #[nodeV n vd ve, .string (bA name)] w fun e w' => ∃ v, e = .returned (.tuple #[v, .int .i64 20]) ∧ NdT w' v Nd.zero ∧ Below w.heap.size w w' := by
  obtain ⟨A1, c1, rfl⟩ := bytes_form hd rfl
  obtain ⟨A2, c2, rfl⟩ := ents_form he rfl
  have k1 : (n.kind != 2) = true := by simpa using h1
  have HB1 := Lib.hid (al (ba w (.cells (ndC n (.slice A1 n.data.length c1) (.slice A2 n.ents.length c2)) 59)) (.cells ndZ 59))
  clear hd he h1
  unfold nodeV
  go_enter Tryz.func77, Tryz.ntmps77
  go_wp2
  exact bodyPost_ret (v := .tuple #[.agg ndZ, .int .i64 20]) (by simp [results, Tryz.results77, go_sem]) rfl ⟨_, rfl, zero_nd _, HB1.out⟩
set_option maxRecDepth 100000 in
set_option maxHeartbeats 4000000 in
theorem without_anyT (n : Nd) (vd ve : Value) (name : Nm) (w : World) (hd : BytesR w vd n.data) (he : EntsR w ve n.ents) (hnd : n.data.length ≤ 1000) (hn : n.ents.length ≤ 1000) :
    Calls Tryz.prog 77 #[nodeV n vd ve, .string (bA name)] w fun e w' => ∃ v, e = .returned (.tuple #[v, .int .i64 (outE n name)]) ∧ NdT w' v (outM n name) ∧ Below w.heap.size w w' := by
  obtain ⟨W1, hW1⟩ : ∃ W1, W1 = (w.alloc (.cells (ndC n vd ve) 59)).alloc (.cells ndZ 59) := ⟨_, rfl⟩
  have hb1 : Below w.heap.size w W1 := by rw [hW1]; exact al (ba _ _) _
  have hz1 : W1.heap.size = w.heap.size + 2 := by rw [hW1]; simp
  have hkb : Blk W1 w.heap.size 59 (ndC n vd ve) := by rw [hW1]; exact (Blk.new _ _ _).alloc _
  have hkr : Blk W1 (w.heap.size + 1) 59 ndZ := by rw [hW1]; have := Blk.new (w.alloc (.cells (ndC n vd ve) 59)) 59 ndZ; simpa using this
  have HP := Lib.hid (placeOf_any ve n.ents name W1 (he.below hb1) (by omega))
  have HC := Lib.hid (fun W (hb : Below W1.heap.size W1 W) => ncopied_any n vd ve W ((hd.below hb1).below hb) ((he.below hb1).below hb) (by omega) (by omega))
  have HB1 := Lib.hid hb1
  have HKB := Lib.hid hkb
  have HKR := Lib.hid hkr
  have HZ1 := Lib.hid hz1
  obtain ⟨A1, c1, rfl⟩ := bytes_form hd rfl
  obtain ⟨A2, c2, rfl⟩ := ents_form he rfl
  have HD := Lib.hid hd
  have HE0 := Lib.hid he
  clear hd he hb1 hkb hkr hz1
  subst hW1
  have hmem := plc_mem name n.ents
  unfold nodeV at HC ⊢
  by_cases h1 : n.kind = 2
  · have k1 : (n.kind != 2) = false := by simpa using h1
    unfold plcI at HP
    by_cases h2 : n.ents.findIdx (isN name) < n.ents.length
    · have h3 := hmem.1 h2
      have hX : outE n name = 0 := by rw [outE, if_neg (fun h => h h1), if_pos h3]
      have HM := Lib.hid (outM_good hX h3)
      rw [if_pos h2] at HP
      rw [hX]
      clear hX h1 hmem h3
      generalize outM n name = M at HM ⊢
      generalize n.ents.findIdx (isN name) = k at HM HP h2
      go_enter Tryz.func77, Tryz.ntmps77
      go_wp2_with fail
      refine HP.out.mono ?_
      rintro e w2 ⟨rfl, hb2⟩
      have HB2 := Lib.hid hb2
      obtain ⟨p0, p1, p2, p3, p4, p5, p6⟩ := (HKB.out.below hb2).c7
      clear hb2 HP
      go_wp2_with fail
      refine (HC.out w2 HB2.out).mono ?_
      rintro e w3 ⟨vd', ve', rfl, hx3, hy3, hb3⟩
      have HKB3 := Lib.hid ((HKB.out.below HB2.out).below hb3)
      have HKR3 := Lib.hid ((HKR.out.below HB2.out).below hb3)
      obtain ⟨A3, c3, hv3⟩ := bytesX_form hx3
      obtain ⟨A4, c4, hv4⟩ := entsX_form hy3
      subst hv3 hv4
      have HX3 := Lib.hid hx3
      have HY3 := Lib.hid hy3
      have HB3 := Lib.hid hb3
      clear p0 p1 p2 p3 p4 p5 p6 hb3 hx3 hy3 HC
      obtain ⟨p0, p1, p2, p3, p4, p5, p6⟩ := HKB3.out.c7
      obtain ⟨f0, f1, f2, f3, f4, f5, f6⟩ := HKB3.out.f7
      obtain ⟨s0, s1, s2, s3, s4, s5, s6⟩ := HKB3.out.s7
      have hS := WS.put (n := n) (vd := .slice A3 n.data.length c3) (ve := .slice A4 n.ents.length c4) (bt HB3.out (bt HB2.out HB1.out)) (show w.heap.size ≤ w2.heap.size by have := HB2.out.size; rw [HZ1.out] at this; omega) HB3.out.size HKB3.out HKR3.out (by omega) (Nat.le_refl _) HX3.out HY3.out
      have HS := Lib.hid hS
      clear hS
      go_wp2_with fail
      refine (out_at (.slice A4 n.ents.length c4) n.ents w2.heap.size k (put7 w3 w.heap.size (.int .i64 n.kind) (.int .i64 n.mode) (.int .i64 n.uid) (.int .i64 n.gid) (.slice A3 n.data.length c3) (.slice A4 n.ents.length c4) (.string (bA n.target))) HS.out.ents h2 hn).mono ?_
      rintro e w6 ⟨v6, rfl, he6, hg6⟩
      obtain ⟨hb6, hk6, hr6, hd6⟩ := HS.out.turned hg6
      clear hg6 p0 p1 p2 p3 p4 p5 p6 f0 f1 f2 f3 f4 f5 f6 s0 s1 s2 s3 s4 s5 s6 HS
      obtain ⟨A6, c6, hv6⟩ := ents_form (n := n.ents.length - 1) he6.1 (by simp; omega)
      subst hv6
      have HE6 := Lib.hid he6
      have HB6 := Lib.hid hb6
      have HK6 := Lib.hid hk6
      have HR6 := Lib.hid hr6
      have HD6 := Lib.hid hd6
      obtain ⟨p0, p1, p2, p3, p4, p5, p6⟩ := hk6.c7
      obtain ⟨f0, f1, f2, f3, f4, f5, f6⟩ := hk6.f7
      clear he6 hb6 hk6 hr6 hd6
      have t5 : ∀ u, (w6.setCell ⟨w.heap.size, 5, none⟩ u).cell? ⟨w.heap.size, 5, none⟩ = some u := fun u => (HK6.out.set7_5 u).cell 5
      have HG7 := Lib.hid (grown_setCell w6 ⟨w.heap.size, 5, none⟩ (.slice A6 (n.ents.length - 1) c6))
      have HR7 := Lib.hid (HR6.out.kept HG7.out (by simp))
      obtain ⟨r0, r1, r2, r3, r4, r5, r6⟩ := HR7.out.c7
      obtain ⟨g0, g1, g2, g3, g4, g5, g6⟩ := HR7.out.f7
      obtain ⟨s0, s1, s2, s3, s4, s5, s6⟩ := HR7.out.s7
      go_wp2
      have HG8 := grown7 (w6.setCell ⟨w.heap.size, 5, none⟩ (.slice A6 (n.ents.length - 1) c6)) (w.heap.size + 1) (.int .i64 n.kind) (.int .i64 n.mode) (.int .i64 n.uid) (.int .i64 n.gid) (.slice A3 n.data.length c3) (.slice A6 (n.ents.length - 1) c6) (.string (bA n.target))
      rw [HM.out]
      exact bodyPost_ret (v := .tuple #[nodeV n (.slice A3 n.data.length c3) (.slice A6 (n.ents.length - 1) c6), .int .i64 0]) (by simp [results, Tryz.results77, go_sem, nodeV, s0, s1, s2, s3, s4, s5, s6]) rfl (nwith_end HK6.out HR7.out HD6.out HE6.out HB6.out HG7.out HG8 (Nat.le_refl _) (Nat.le_succ _) 0)
    · have h3 : ¬ name ∈ nmE n.ents := fun h => h2 (hmem.2 h)
      have hX : outE n name = 2 := by rw [outE, if_neg (fun h => h h1), if_neg h3]
      have hM := outM_bad (n := n) (name := name) (by rw [hX]; decide)
      rw [if_neg h2] at HP
      rw [hX, hM]
      clear hX hM h1 h2 hmem h3 HC
      go_enter Tryz.func77, Tryz.ntmps77
      go_wp2_with fail
      refine HP.out.mono ?_
      rintro e w2 ⟨rfl, hb2⟩
      have HB2 := Lib.hid (bt hb2 HB1.out)
      have HR2 := Lib.hid (HKR.out.below hb2)
      obtain ⟨r0, r1, r2, r3, r4, r5, r6⟩ := HR2.out.c7
      obtain ⟨g0, g1, g2, g3, g4, g5, g6⟩ := HR2.out.f7
      obtain ⟨s0, s1, s2, s3, s4, s5, s6⟩ := HR2.out.s7
      clear hb2
      go_wp2
      have HG8 := grown7 w2 (w.heap.size + 1) (.int .i64 0) (.int .i64 0) (.int .i64 0) (.int .i64 0) (.slice none 0 0) (.slice none 0 0) (.string ⟨#[]⟩)
      exact bodyPost_ret (v := .tuple #[.agg ndZ, .int .i64 2]) (by simp [results, Tryz.results77, go_sem, s0, s1, s2, s3, s4, s5, s6]) rfl (bad_end HB2.out HG8 (Nat.le_succ _) 2)
  · have k1 : (n.kind != 2) = true := by simpa using h1
    have hX : outE n name = 20 := by rw [outE, if_pos h1]
    have hM := outM_bad (n := n) (name := name) (by rw [hX]; decide)
    rw [hX, hM]
    exact out_kind n _ _ name w HD.out HE0.out h1
theorem nwo_any (n : Nd) (vd ve : Value) (name : Nm) (w : World) (hd : BytesR w vd n.data) (he : EntsR w ve n.ents) (hnd : n.data.length ≤ 1000) (hn : n.ents.length ≤ 1000) :
    Calls Tryz.prog 77 #[nodeV n vd ve, .string (bA name)] w fun e w' => ∃ v, e = .returned (.tuple #[v, .int .i64 (outE n name)]) ∧ NdR w' v (outM n name) ∧ Below w.heap.size w w' :=
  (without_anyT n vd ve name w hd he hnd hn).mono fun _ _ ⟨v, h1, h2, h3⟩ => ⟨v, h1, h2.nd, h3⟩
end Go.Proofs.YtiimdmbalnhmmaaGreat
