/-
  A node with one entry more: With. The conditions: a name has a thousand bytes at most, and no list is longer than a thousand.
-/
import Derived.Test.YtibmnafnandodaaWithF
namespace Go.Proofs.Ytibmnafnandodaa
open Go Go.RowKit

attribute [local go_sem] cell_off4 cell_blk4
theorem zero_nd (w : World) : NdT w (.agg ndZ) Nd.zero := ⟨_, _, rfl, .inl ⟨rfl, rfl⟩, EntsT.nil w⟩
theorem withM_bad {n : Nd} {name : Nm} {id : Int} (h : ¬ withE n name id = 0) : withM n name id = Nd.zero := if_neg h
theorem withM_good {n : Nd} {name : Nm} {id : Int} (h : withE n name id = 0) : withM n name id = { n with ents := n.ents.take (n.ents.findIdx (gtN name)) ++ (name, id) :: n.ents.drop (n.ents.findIdx (gtN name)) } := by
  rw [withM, if_pos h, plc_ins]
/-- What a node with copied lists is, between its calls. -/
structure WS (w0 W : World) (g r B : Nat) (n : Nd) (vd ve : Value) : Prop where
  below : Below w0.heap.size w0 W
  base : w0.heap.size ≤ B
  size : B ≤ W.heap.size
  box : Blk W g 25 (ndC n vd ve)
  res : Blk W r 25 ndZ
  data : BytesX W B vd n.data
  ents : EntsX W B ve n.ents
section
variable {w0 W W' : World} {g r B : Nat} {n : Nd} {vd ve : Value}
theorem WS.later (h : WS w0 W g r B n vd ve) (hb : Below W.heap.size W W') : WS w0 W' g r B n vd ve :=
  ⟨bt hb h.below, h.base, Nat.le_trans h.size hb.size, h.box.below hb, h.res.below hb, h.data.below hb, h.ents.below hb⟩
theorem WS.drew (h : WS w0 W g r B n vd ve) : WS w0 W.drew g r B n vd ve := h.later (Below.refl _ _).drew
theorem WS.made (h : WS w0 W g r B n vd ve) (o : Obj) : WS w0 (W.alloc o) g r B n vd ve := h.later (ba _ _)
/-- Behind a call that may have changed the entries' own row. -/
theorem WS.turned (h : WS w0 W g r B n vd ve) (hg : W.grownBy W' ve.ownBlock) : Below w0.heap.size w0 W' ∧ Blk W' g 25 (ndC n vd ve) ∧ Blk W' r 25 ndZ ∧ BytesX W' B vd n.data :=
  ⟨h.ents.low h.below h.base hg, h.ents.blk h.box (by decide) hg, h.ents.blk h.res (by decide) hg, EntsX.bytes h.ents h.data hg⟩
theorem WS.put (hb : Below w0.heap.size w0 W) (hB : w0.heap.size ≤ B) (hz : B ≤ W.heap.size) {a0 a1 a2 a3 a4 a5 a6 : Value} (hk : Blk W g 25 #[a0, a1, a2, a3, a4, a5, a6]) (hr : Blk W r 25 ndZ) (hgr : g ≠ r) (hg : w0.heap.size ≤ g) (hx : BytesX W B vd n.data) (hy : EntsX W B ve n.ents) :
    WS w0 (put7 W g (.int .i64 n.kind) (.int .i64 n.mode) (.int .i64 n.uid) (.int .i64 n.gid) vd ve (.string (bA n.target))) g r B n vd ve := by
  have hG := grown7 W g (.int .i64 n.kind) (.int .i64 n.mode) (.int .i64 n.uid) (.int .i64 n.gid) vd ve (.string (bA n.target))
  exact ⟨below_grown hb hG hg, hB, Nat.le_trans hz hG.size, hk.put7 _ _ _ _ _ _ _, hr.kept hG (fun e => by injection e with e; exact hgr e.symm), hx.kept hk (by decide) hG, hy.kept hk (by decide) hG⟩
end
theorem ins_at (v : Value) (l : List En) (B k : Nat) (name : Nm) (id : Int) (vb : Nat) (W : World) (hX : EntsX W B v l) (hk : k ≤ l.length) (hn : l.length ≤ 1000) (hB : B ≤ W.heap.size) (h0 : W.cell? ⟨vb, 0, none⟩ = some (.string (bA name))) (h1 : W.cell? ⟨vb, 1, none⟩ = some (.int .i64 id)) :
    Calls Try.prog 23 #[v, .int .i64 (k : Int), .slice (some ⟨vb, 0, none⟩) 1 1] W fun e' w' => ∃ v', e' = .returned v' ∧ EntsT w' v' (l.take k ++ (name, id) :: l.drop k) ∧ W.grownBy w' v.ownBlock :=
  insert_any v l B k (name, id) vb W hX hk hn hB h0 h1
theorem with_end {w0 w6 w7 w8 : World} {B g r : Nat} {n : Nd} {vd v6 : Value} {l : List En} {cs cr : Array Value} (hk : Blk w6 g 25 cs) (hr : Blk w7 r 25 cr) (hd : BytesX w6 B vd n.data) (he : EntsT w6 v6 l) (hb : Below w0.heap.size w0 w6) (hg7 : w6.grownBy w7 (some g)) (hg8 : w7.grownBy w8 (some r)) (h0 : w0.heap.size ≤ g) (h1 : w0.heap.size ≤ r) (X : Int) :
    ∃ v, Ending.returned (.tuple #[nodeV n vd v6, .int .i64 X]) = .returned (.tuple #[v, .int .i64 X]) ∧ NdT w8 v { n with ents := l } ∧ Below w0.heap.size w0 w8 :=
  ⟨_, rfl, ⟨vd, v6, rfl, ((hd.kept hk (by decide) hg7).kept hr (by decide) hg8).lower (Nat.zero_le _), (he.kept hk (by decide) hg7).kept hr (by decide) hg8⟩, below_grown (below_grown hb hg7 h0) hg8 h1⟩
set_option maxRecDepth 100000 in
set_option maxHeartbeats 8000000 in
theorem with_good (n : Nd) (vd ve : Value) (name : Nm) (id : Int) (w : World) (hd : BytesR w vd n.data) (he : EntsR w ve n.ents) (hnd : n.data.length ≤ 1000) (hn : n.ents.length ≤ 1000) (hs : name.length ≤ 1000) (hX : withE n name id = 0) :
    Calls Try.prog 10 #[nodeV n vd ve, .string (bA name), .int .i64 id] w fun e w' => ∃ v, e = .returned (.tuple #[v, .int .i64 (withE n name id)]) ∧ NdT w' v (withM n name id) ∧ Below w.heap.size w w' := by
  obtain ⟨W1, hW1⟩ : ∃ W1, W1 = (w.alloc (.cells (ndC n vd ve) 25)).alloc (.cells ndZ 25) := ⟨_, rfl⟩
  have hb1 : Below w.heap.size w W1 := by rw [hW1]; exact al (ba _ _) _
  have hz1 : W1.heap.size = w.heap.size + 2 := by rw [hW1]; simp
  have hkb : Blk W1 w.heap.size 25 (ndC n vd ve) := by rw [hW1]; exact (Blk.new _ _ _).alloc _
  have hkr : Blk W1 (w.heap.size + 1) 25 ndZ := by rw [hW1]; have := Blk.new (w.alloc (.cells (ndC n vd ve) 25)) 25 ndZ; simpa using this
  have HF := Lib.hid (withFault_any n vd ve name id W1 (hd.below hb1) (he.below hb1) hn hs)
  have HC := Lib.hid (fun W (hb : Below W1.heap.size W1 W) => copied_any n vd ve W ((hd.below hb1).below hb) ((he.below hb1).below hb) (by omega) (by omega))
  have HB1 := Lib.hid hb1
  have HKB := Lib.hid hkb
  have HKR := Lib.hid hkr
  have HZ1 := Lib.hid hz1
  obtain ⟨A1, c1, rfl⟩ := bytes_form hd rfl
  obtain ⟨A2, c2, rfl⟩ := ents_form he rfl
  clear hd he hb1 hkb hkr hz1
  subst hW1
  unfold nodeV at HF HC ⊢
  have HM := Lib.hid (withM_good hX)
  rw [hX] at HF ⊢
  clear hX
  generalize withM n name id = M at HM ⊢
  have hk5 : n.ents.findIdx (gtN name) ≤ n.ents.length := List.findIdx_le_length
  have HP := Lib.hid (fun v W (h : EntsR W v n.ents) => placeFor_any v n.ents name W h (by omega))
  generalize n.ents.findIdx (gtN name) = k at HM HP hk5
  go_enter Try.func10, Try.ntmps10
  go_wp2_with fail
  refine HF.out.mono ?_
  rintro e w2 ⟨rfl, hb2⟩
  have HB2 := Lib.hid hb2
  obtain ⟨p0, p1, p2, p3, p4, p5, p6⟩ := (HKB.out.below hb2).c7
  clear hb2 HF
  go_wp2_with fail
  refine (HC.out w2 HB2.out).mono ?_
  rintro e w3 ⟨vd', ve', rfl, hx3, hy3, hb3⟩
  have HKB3 := Lib.hid ((HKB.out.below HB2.out).below hb3)
  have HKR3 := Lib.hid ((HKR.out.below HB2.out).below hb3)
  obtain ⟨A3, c3, hv3⟩ := bytesX_form hx3
  obtain ⟨A4, c4, hv4⟩ := entsX_form hy3
  subst hv3 hv4
  have HX3 := Lib.hid hx3
  have HY3 := Lib.hid hy3
  have HB3 := Lib.hid hb3
  clear p0 p1 p2 p3 p4 p5 p6 hb3 hx3 hy3 HC
  obtain ⟨p0, p1, p2, p3, p4, p5, p6⟩ := HKB3.out.c7
  obtain ⟨f0, f1, f2, f3, f4, f5, f6⟩ := HKB3.out.f7
  obtain ⟨s0, s1, s2, s3, s4, s5, s6⟩ := HKB3.out.s7
  go_wp2_with fail
  have hS := WS.put (n := n) (vd := .slice A3 n.data.length c3) (ve := .slice A4 n.ents.length c4) (bt HB3.out (bt HB2.out HB1.out)) (show w.heap.size ≤ w2.heap.size by have := HB2.out.size; rw [HZ1.out] at this; omega) HB3.out.size HKB3.out HKR3.out (by omega) (Nat.le_refl _) HX3.out HY3.out
  obtain ⟨W4, hW4⟩ : ∃ W4, W4 = put7 w3 w.heap.size (.int .i64 n.kind) (.int .i64 n.mode) (.int .i64 n.uid) (.int .i64 n.gid) (.slice A3 n.data.length c3) (.slice A4 n.ents.length c4) (.string (bA n.target)) := ⟨_, rfl⟩
  change Code.wp _ _ _ _ (put7 w3 w.heap.size (.int .i64 n.kind) (.int .i64 n.mode) (.int .i64 n.uid) (.int .i64 n.gid) (.slice A3 n.data.length c3) (.slice A4 n.ents.length c4) (.string (bA n.target)))
  rw [← hW4] at hS ⊢
  have HS := Lib.hid hS.drew
  have q5 : W4.drew.cell? ⟨w.heap.size, 5, none⟩ = some (.slice A4 n.ents.length c4) := hS.drew.box.cell 5
  clear p0 p1 p2 p3 p4 p5 p6 f0 f1 f2 f3 f4 f5 f6 s0 s1 s2 s3 s4 s5 s6 hW4 hS
  have q6 := bc (ba W4.drew (.cells #[.string (bA name), .int .i64 id] 49)) q5
  have hlt : w.heap.size < W4.heap.size := HS.out.box.lt
  have q50 : W4.cell? ⟨w.heap.size, 5, none⟩ = some (.slice A4 n.ents.length c4) := q5
  have q60 : (W4.alloc (.cells #[.string (bA name), .int .i64 id] 49)).cell? ⟨w.heap.size, 5, none⟩ = some (.slice A4 n.ents.length c4) := q6
  have z0 : (W4.drew.alloc (.cells #[.string (bA name), .int .i64 id] 49)).cell? ⟨W4.heap.size, 0, none⟩ = some (.string (bA name)) := (Blk.new W4.drew 49 #[.string (bA name), .int .i64 id]).cell 0
  have z1 : (W4.drew.alloc (.cells #[.string (bA name), .int .i64 id] 49)).cell? ⟨W4.heap.size, 1, none⟩ = some (.int .i64 id) := (Blk.new W4.drew 49 #[.string (bA name), .int .i64 id]).cell 1
  go_region_with (first
    | (go_at_call 24; (first | (refine (HP.out _ W4.drew HS.out.ents.ents).mono ?_) | (refine (HP.out _ (W4.drew.alloc (.cells #[.string (bA name), .int .i64 id] 49)) (HS.out.made _).ents.ents).mono ?_)); rintro e w5 ⟨rfl, hb5⟩; have q7 := bc hb5 (by first | exact q5 | exact q6); have hlt5 : w.heap.size < w5.heap.size := World.block_lt_of_cell? _ _ q7; have q70 := bc (ba w5 (.cells #[.string (bA name), .int .i64 id] 49)) q7; have HB5 := Lib.hid hb5; clear hb5)
    | (go_at_call 23; (first
        | (have hS6 := (HS.out.later HB5.out).made (.cells #[.string (bA name), .int .i64 id] 49); refine (ins_at _ n.ents w2.heap.size k name id w5.heap.size _ hS6.ents hk5 hn hS6.size (by simp) (by simp)).mono ?_; rintro e w6 ⟨v6, rfl, he6, hg6⟩; obtain ⟨hb6, hk6, hr6, hd6⟩ := hS6.turned hg6)
        | (have hS6 := (HS.out.made (.cells #[.string (bA name), .int .i64 id] 49)).later HB5.out; refine (ins_at _ n.ents w2.heap.size k name id W4.heap.size _ hS6.ents hk5 hn hS6.size (bc HB5.out z0) (bc HB5.out z1)).mono ?_; rintro e w6 ⟨v6, rfl, he6, hg6⟩; obtain ⟨hb6, hk6, hr6, hd6⟩ := hS6.turned hg6)); clear hS6 hg6; obtain ⟨A6, c6, hv6⟩ := ents_form (n := n.ents.length + 1) he6.1 (by simp; omega); subst hv6; have HE6 := Lib.hid he6; have HB6 := Lib.hid hb6; have HK6 := Lib.hid hk6; have HR6 := Lib.hid hr6; have HD6 := Lib.hid hd6; obtain ⟨p0, p1, p2, p3, p4, p5, p6⟩ := hk6.c7; obtain ⟨f0, f1, f2, f3, f4, f5, f6⟩ := hk6.f7; clear he6 hb6 hk6 hr6 hd6)
    | fail)
  all_goals (
    have t5 : ∀ u, (w6.setCell ⟨w.heap.size, 5, none⟩ u).cell? ⟨w.heap.size, 5, none⟩ = some u := fun u => (HK6.out.set7_5 u).cell 5
    have HG7 := Lib.hid (grown_setCell w6 ⟨w.heap.size, 5, none⟩ (.slice A6 (n.ents.length + 1) c6))
    have HR7 := Lib.hid (HR6.out.kept HG7.out (by simp))
    obtain ⟨r0, r1, r2, r3, r4, r5, r6⟩ := HR7.out.c7
    obtain ⟨g0, g1, g2, g3, g4, g5, g6⟩ := HR7.out.f7
    obtain ⟨s0, s1, s2, s3, s4, s5, s6⟩ := HR7.out.s7
    clear HS HP q5 q6 q50 q60 z0 z1 hlt
    go_wp2
    have HG8 := grown7 (w6.setCell ⟨w.heap.size, 5, none⟩ (.slice A6 (n.ents.length + 1) c6)) (w.heap.size + 1) (.int .i64 n.kind) (.int .i64 n.mode) (.int .i64 n.uid) (.int .i64 n.gid) (.slice A3 n.data.length c3) (.slice A6 (n.ents.length + 1) c6) (.string (bA n.target))
    rw [HM.out]
    exact bodyPost_ret (v := .tuple #[nodeV n (.slice A3 n.data.length c3) (.slice A6 (n.ents.length + 1) c6), .int .i64 0]) (by simp [results, Try.results10, go_sem, nodeV, s0, s1, s2, s3, s4, s5, s6]) rfl (with_end HK6.out HR7.out HD6.out HE6.out HB6.out HG7.out HG8 (Nat.le_refl _) (Nat.le_succ _) 0))
end Go.Proofs.Ytibmnafnandodaa
