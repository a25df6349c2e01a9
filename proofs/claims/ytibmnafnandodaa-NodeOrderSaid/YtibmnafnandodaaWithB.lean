/-
  A node with one entry more, or why there is none: With. The conditions: a name has a thousand bytes at most, and no list is longer than a thousand.
-/
import Derived.Test.YtibmnafnandodaaWith
namespace Go.Proofs.Ytibmnafnandodaa
open Go Go.RowKit

attribute [local go_sem] cell_off4 cell_blk4
theorem bad_end {w0 w2 w3 : World} {r : Nat} (hb : Below w0.heap.size w0 w2) (hg : w2.grownBy w3 (some r)) (h1 : w0.heap.size ≤ r) (X : Int) :
    ∃ v, Ending.returned (.tuple #[.agg ndZ, .int .i64 X]) = .returned (.tuple #[v, .int .i64 X]) ∧ NdT w3 v Nd.zero ∧ Below w0.heap.size w0 w3 :=
  ⟨_, rfl, zero_nd _, below_grown hb hg h1⟩
set_option maxRecDepth 100000 in
set_option maxHeartbeats 8000000 in
theorem with_bad (n : Nd) (vd ve : Value) (name : Nm) (id : Int) (w : World) (hd : BytesR w vd n.data) (he : EntsR w ve n.ents) (hn : n.ents.length ≤ 1000) (hs : name.length ≤ 1000) (hX : ¬ withE n name id = 0) :
    Calls Try.prog 10 #[nodeV n vd ve, .string (bA name), .int .i64 id] w fun e w' => ∃ v, e = .returned (.tuple #[v, .int .i64 (withE n name id)]) ∧ NdT w' v (withM n name id) ∧ Below w.heap.size w w' := by
  obtain ⟨W1, hW1⟩ : ∃ W1, W1 = (w.alloc (.cells (ndC n vd ve) 25)).alloc (.cells ndZ 25) := ⟨_, rfl⟩
  have hb1 : Below w.heap.size w W1 := by rw [hW1]; exact al (ba _ _) _
  have hkr : Blk W1 (w.heap.size + 1) 25 ndZ := by rw [hW1]; have := Blk.new (w.alloc (.cells (ndC n vd ve) 25)) 25 ndZ; simpa using this
  have HF := Lib.hid (withFault_any n vd ve name id W1 (hd.below hb1) (he.below hb1) hn hs)
  have HB1 := Lib.hid hb1
  have HKR := Lib.hid hkr
  obtain ⟨A1, c1, rfl⟩ := bytes_form hd rfl
  obtain ⟨A2, c2, rfl⟩ := ents_form he rfl
  clear hd he hb1 hkr
  subst hW1
  have hM := withM_bad hX
  rw [hM]
  clear hM
  have kX : (withE n name id != 0) = true := by simpa using hX
  clear hX
  unfold nodeV at HF ⊢
  generalize withE n name id = X at HF kX ⊢
  go_enter Try.func10, Try.ntmps10
  go_wp2_with fail
  refine HF.out.mono ?_
  rintro e w2 ⟨rfl, hb2⟩
  have HB2 := Lib.hid (bt hb2 HB1.out)
  have HR2 := Lib.hid (HKR.out.below hb2)
  obtain ⟨r0, r1, r2, r3, r4, r5, r6⟩ := HR2.out.c7
  obtain ⟨g0, g1, g2, g3, g4, g5, g6⟩ := HR2.out.f7
  obtain ⟨s0, s1, s2, s3, s4, s5, s6⟩ := HR2.out.s7
  clear hb2 HF
  go_wp2
  have HG8 := grown7 w2 (w.heap.size + 1) (.int .i64 0) (.int .i64 0) (.int .i64 0) (.int .i64 0) (.slice none 0 0) (.slice none 0 0) (.string ⟨#[]⟩)
  exact bodyPost_ret (v := .tuple #[.agg ndZ, .int .i64 X]) (by simp [results, Try.results10, go_sem, s0, s1, s2, s3, s4, s5, s6]) rfl (bad_end HB2.out HG8 (Nat.le_succ _) X)
theorem with_anyT (n : Nd) (vd ve : Value) (name : Nm) (id : Int) (w : World) (hd : BytesR w vd n.data) (he : EntsR w ve n.ents) (hnd : n.data.length ≤ 1000) (hn : n.ents.length ≤ 1000) (hs : name.length ≤ 1000) :
    Calls Try.prog 10 #[nodeV n vd ve, .string (bA name), .int .i64 id] w fun e w' => ∃ v, e = .returned (.tuple #[v, .int .i64 (withE n name id)]) ∧ NdT w' v (withM n name id) ∧ Below w.heap.size w w' := by
  by_cases hX : withE n name id = 0
  · exact with_good n vd ve name id w hd he hnd hn hs hX
  · exact with_bad n vd ve name id w hd he hn hs hX
theorem with_any (n : Nd) (vd ve : Value) (name : Nm) (id : Int) (w : World) (hd : BytesR w vd n.data) (he : EntsR w ve n.ents) (hnd : n.data.length ≤ 1000) (hn : n.ents.length ≤ 1000) (hs : name.length ≤ 1000) :
    Calls Try.prog 10 #[nodeV n vd ve, .string (bA name), .int .i64 id] w fun e w' => ∃ v, e = .returned (.tuple #[v, .int .i64 (withE n name id)]) ∧ NdR w' v (withM n name id) ∧ Below w.heap.size w w' :=
  (with_anyT n vd ve name id w hd he hnd hn hs).mono fun _ _ ⟨v, h1, h2, h3⟩ => ⟨v, h1, h2.nd, h3⟩
end Go.Proofs.Ytibmnafnandodaa
