/-
  A node that shares no memory with another one: copied. The condition: no list is longer than a million.
-/
import Derived.Test.YtmapkmjhpebcbaaTabA
namespace Go.Proofs.Ytmapkmjhpebcbaa
open Go Go.RowKit

theorem BytesT.of_own {w : World} {B : Nat} {v : Value} {l : List UInt8} (h : w.ownsRow B 5 1 v l.length (bCells l)) : BytesT w v l ∧ LP (fun b => B ≤ b) v := by
  rcases h.2 with ⟨rfl, hn⟩ | ⟨g, cap, cur, rfl, hB, hh, _⟩
  · have : l = [] := List.eq_nil_of_length_eq_zero hn
    subst this
    exact ⟨BytesT.nil w, LP.nil _⟩
  · refine ⟨⟨⟨some ⟨g, 0, none⟩, cap, rfl, fun k a hk => ⟨_, rfl, ?_⟩⟩, fun ad n c hv => ?_⟩, fun ad n c hv => ?_⟩
    · rw [add_lit]
      exact row_at h _ _ (bCells_at l k a hk)
    · injection hv with hA
      injection hA with hA
      subst hA
      exact ⟨cur, hh⟩
    · injection hv with hA
      injection hA with hA
      subst hA
      exact hB
theorem LP.of_own {w : World} {B : Nat} {e : TypeId} {size n : Nat} {v : Value} {xs : List Value} (h : w.ownsRow B e size v n xs) : LP (fun b => B ≤ b) v := by
  rcases h.2 with ⟨rfl, hn⟩ | ⟨g, cap, cur, rfl, hB, hh, _⟩
  · exact LP.nil _
  · intro ad n c hv
    injection hv with hA
    injection hA with hA
    subst hA
    exact hB
/-- 'append([]T(nil), x...)' of a slice without a row, whatever its capacity is said to be. -/
theorem wpList_append_void {P : Program} {w : World} {ops : Array Oper} {rest : List Oper} {o : Oper} {a : Act} {Q : Exit → Act → World → Prop} (hgd : o.guard = none) (x : Operand) (t e : TypeId)
    (ho : o.op = .call { callee := .builtin .append, args := #[.const (.slice none 0 0), x], argTypes := #[t, t] }) (i : TypeInfo) (ht : P.underlying t = some (.slice e)) (hi : P.info? e = some i) (c : Nat) (hx : a.eval x = .slice none 0 c)
    (h : wpList P ops Q rest (a.put o.dst (.slice none 0 0)) w) : wpList P ops Q (o :: rest) a w := by
  refine wpList_plain hgd fun K hK => ?_
  have hrun : (Builtin.append_ #[t, t] o.type #[.slice none 0 0, .slice none 0 c]).run P w = .ok (.slice none 0 0) w := by
    simp [Builtin.append_, run_underlying ht, sizeOf, typeInfo, hi, Builtin.lenOf, Builtin.firstCells]
  have hs : a.eval (.const (.slice none 0 0)) = .slice none 0 0 := rfl
  unfold Oper.wp
  simp [execOp, ho, resolve, invoke, builtin, hs, hx, hrun, Result.andThen]
  exact hK _ _ h
/-- 'append([]byte(nil), x...)'. -/
theorem wpList_copy_bytes {ops : Array Oper} {rest : List Oper} {o : Oper} {a : Act} {Q : Exit → Act → World → Prop} {w0 : World} (hgd : o.guard = none) (x : Operand)
    (ho : o.op = .call { callee := .builtin .append, args := #[.const (.slice none 0 0), x], argTypes := #[36, 36] })
    (vx : Value) (m : List UInt8) (hx : a.eval x = vx) (hm : BytesR w0 vx m) (hn : m.length ≤ 1000000)
    (h : ∀ v' w', BytesT w' v' m → LP (fun b => w0.heap.size ≤ b) v' → Below w0.heap.size w0 w' → wpList Try.prog ops Q rest (a.put o.dst v') w') : wpList Try.prog ops Q (o :: rest) a w0 := by
  obtain ⟨i, hi0, hz0, hz1, hz2⟩ := info_parts info_u8
  obtain ⟨A, c, rfl⟩ := bytes_form hm rfl
  cases A with
  | none =>
    have hm0 : m = [] := by
      cases m with
      | nil => rfl
      | cons y m' =>
        obtain ⟨ad, e, _⟩ := bytes_get hm (show (y :: m')[0]? = some y from rfl)
        cases e
    subst hm0
    exact wpList_append_void hgd x _ 5 ho i Try.underlying36 hi0 c hx (h _ w0 (BytesT.nil _) (LP.nil _) (Below.refl _ _))
  | some ad =>
    refine wpList_append_own _ hgd _ x _ ho w0.heap.size 5 i _ 1 1 Try.underlying36 hi0 hz0 hz1 hz2 rfl (by decide) (.slice none 0 0) 0 [] rfl (World.ownsRow_nil _ _ _ _) ad m.length c (bCells m) hx (by simp [bCells]) (bytes_src hm) (bCells_one m) (by unfold maxLen; omega) (by omega) (Nat.le_refl _) ?_
    intro v' w' ho' hg _
    rw [Nat.zero_add, List.nil_append] at ho'
    obtain ⟨h1, h2⟩ := BytesT.of_own ho'
    exact h v' w' h1 h2 ((Below.refl _ _).grown hg (Nat.le_refl _) (fun q hq => by cases hq))
/-- 'append([]node.Ent(nil), x...)'. -/
theorem wpList_copy_ents {ops : Array Oper} {rest : List Oper} {o : Oper} {a : Act} {Q : Exit → Act → World → Prop} {w0 : World} (hgd : o.guard = none) (x : Operand)
    (ho : o.op = .call { callee := .builtin .append, args := #[.const (.slice none 0 0), x], argTypes := #[37, 37] })
    (vx : Value) (m : List En) (hx : a.eval x = vx) (hm : EntsR w0 vx m) (hn : m.length ≤ 1000000)
    (h : ∀ v' w', EntsT w' v' m → LP (fun b => w0.heap.size ≤ b) v' → Below w0.heap.size w0 w' → wpList Try.prog ops Q rest (a.put o.dst v') w') : wpList Try.prog ops Q (o :: rest) a w0 := by
  obtain ⟨i, hi0, hz0, hz1, hz2⟩ := info_parts info_ent
  obtain ⟨A, c, rfl⟩ := ents_form hm rfl
  cases A with
  | none =>
    have hm0 : m = [] := by
      cases m with
      | nil => rfl
      | cons y m' =>
        obtain ⟨ad, e, _⟩ := ents_get hm (show (y :: m')[0]? = some y from rfl)
        cases e
    subst hm0
    exact wpList_append_void hgd x _ 72 ho i Try.underlying37 hi0 c hx (h _ w0 (EntsT.nil _) (LP.nil _) (Below.refl _ _))
  | some ad =>
    refine wpList_append_own _ hgd _ x _ ho w0.heap.size 72 i _ 2 24 Try.underlying37 hi0 hz0 hz1 hz2 rfl (by decide) (.slice none 0 0) 0 [] rfl (World.ownsRow_nil _ _ _ _) ad m.length c (eCells m) hx (eCells_len m) (ents_src hm) (eCells_one m) (by unfold maxLen; omega) (by omega) (Nat.le_refl _) ?_
    intro v' w' ho' hg _
    rw [Nat.zero_add, List.nil_append] at ho'
    exact h v' w' (EntsT.of_own ho') (LP.of_own ho') ((Below.refl _ _).grown hg (Nat.le_refl _) (fun q hq => by cases hq))
theorem copied_end {w w1 w3 w4 w5 w6 : World} {n : Nd} {va vb : Value} {cs ds : Array Value} (hd : BytesT w4 va n.data) (he : EntsT w4 vb n.ents) (hk : Blk w4 w.heap.size 39 cs) (hr : Blk w5 (w.heap.size + 1) 39 ds) (hg5 : w4.grownBy w5 (some w.heap.size)) (hg6 : w5.grownBy w6 (some (w.heap.size + 1)))
    (h2 : LP (fun b => w1.heap.size ≤ b) va) (h4 : LP (fun b => w3.heap.size ≤ b) vb) (h1 : w.heap.size ≤ w1.heap.size) (h3 : w.heap.size ≤ w3.heap.size) (hb : Below w.heap.size w w4) :
    ∃ vd' ve', Ending.returned (nodeV n va vb) = .returned (nodeV n vd' ve') ∧ BytesT w6 vd' n.data ∧ EntsT w6 ve' n.ents ∧ LP (fun b => w.heap.size ≤ b) vd' ∧ LP (fun b => w.heap.size ≤ b) ve' ∧ Below w.heap.size w w6 := by
  have hd5 := hd.other hg5 (fun ad n c hv => by obtain ⟨cs, h⟩ := hd.2 ad n c hv; exact blk_ne h hk (by decide))
  have he5 := he.other hg5 (fun ad n c hv => by obtain ⟨cs, h⟩ := he.2 ad n c hv; exact blk_ne h hk (by decide))
  have hd6 := hd5.other hg6 (fun ad n c hv => by obtain ⟨cs, h⟩ := hd5.2 ad n c hv; exact blk_ne h hr (by decide))
  have he6 := he5.other hg6 (fun ad n c hv => by obtain ⟨cs, h⟩ := he5.2 ad n c hv; exact blk_ne h hr (by decide))
  exact ⟨va, vb, rfl, hd6, he6, h2.mono (fun b hb => Nat.le_trans h1 hb), h4.mono (fun b hb => Nat.le_trans h3 hb), below_grown (below_grown hb hg5 (Nat.le_refl _)) hg6 (Nat.le_succ _)⟩
attribute [local go_sem] cell_off4 cell_blk4
set_option maxRecDepth 100000 in
set_option maxHeartbeats 4000000 in
theorem copied_any (n : Nd) (vd ve : Value) (w : World) (hd : BytesR w vd n.data) (he : EntsR w ve n.ents) (hf : Few n) :
    Calls Try.prog 41 #[nodeV n vd ve] w fun e w' => ∃ vd' ve', e = .returned (nodeV n vd' ve') ∧ BytesT w' vd' n.data ∧ EntsT w' ve' n.ents ∧ LP (fun b => w.heap.size ≤ b) vd' ∧ LP (fun b => w.heap.size ≤ b) ve' ∧ Below w.heap.size w w' := by
  have hnd := hf.data
  have hne := hf.ents
  obtain ⟨W1, hW1⟩ : ∃ W1, W1 = (w.alloc (.cells (ndC n vd ve) 39)).alloc (.cells ndZ 39) := ⟨_, rfl⟩
  have hb1 : Below w.heap.size w W1 := by rw [hW1]; exact al (ba _ _) _
  have hz1 : W1.heap.size = w.heap.size + 2 := by rw [hW1]; simp
  have hkb : Blk W1 w.heap.size 39 (ndC n vd ve) := by rw [hW1]; exact (Blk.new _ _ _).alloc _
  have hkr : Blk W1 (w.heap.size + 1) 39 ndZ := by rw [hW1]; have := Blk.new (w.alloc (.cells (ndC n vd ve) 39)) 39 ndZ; simpa using this
  have HD := Lib.hid (hd.below hb1)
  have HE := Lib.hid he
  have HB1 := Lib.hid hb1
  have HKB := Lib.hid hkb
  have HKR := Lib.hid hkr
  have HZ1 := Lib.hid hz1
  obtain ⟨A1, c1, rfl⟩ := bytes_form hd rfl
  obtain ⟨A2, c2, rfl⟩ := ents_form he rfl
  clear hd he hb1 hkb hkr hz1 hf
  subst hW1
  unfold nodeV
  go_enter Try.func41, Try.ntmps41
  go_wp2_with (first | (at_builtin; refine wpList_copy_bytes rfl (.tmp 4) rfl (.slice A1 n.data.length c1) n.data rfl HD.out (by omega) ?_; intro v2 w2 hT2 hL2 hb2; obtain ⟨A3, c3, hv3⟩ := bytesT_form hT2; subst hv3; have HT2 := Lib.hid hT2; have HL2 := Lib.hid hL2; have HB2 := Lib.hid hb2; have hk2 := HKB.out.below hb2; have HK2 := Lib.hid hk2; obtain ⟨p0, p1, p2, p3, p4, p5, p6⟩ := hk2.c7; obtain ⟨f0, f1, f2, f3, f4, f5, f6⟩ := hk2.f7; clear hT2 hL2 hb2 hk2) | (at_builtin; (have HG3 := Lib.hid (grown_setCell w2 ⟨w.heap.size, 4, none⟩ (.slice A3 n.data.length c3))); (have HK3 := Lib.hid (HK2.out.set7_4 (.slice A3 n.data.length c3))); (have HB3 := Lib.hid (below_grown (bt HB2.out HB1.out) HG3.out (Nat.le_refl _))); (have HX3 := Lib.hid (HT2.out.other HG3.out (fun ad n c hv => by obtain ⟨cs, hb⟩ := HT2.out.2 ad n c hv; exact blk_ne hb HK2.out (by decide)))); (have HR3 := Lib.hid ((HKR.out.below HB2.out).kept HG3.out (by simp))); refine wpList_copy_ents rfl (.tmp 8) rfl (.slice A2 n.ents.length c2) n.ents rfl (HE.out.below HB3.out) (by omega) ?_; intro v4 w4 hT4 hL4 hb4; obtain ⟨A4, c4, hv4⟩ := entsT_form hT4; subst hv4; have HT4 := Lib.hid hT4; have HL4 := Lib.hid hL4; have HY4 := Lib.hid (HX3.out.below hb4); have HB4 := Lib.hid (bt hb4 HB3.out); have hk4 := HK3.out.below hb4; have HK4 := Lib.hid hk4; have hr4 := HR3.out.below hb4; have HR4 := Lib.hid hr4; have HLE := Lib.hid HB3.out.size; have HG5 := Lib.hid (grown_setCell w4 ⟨w.heap.size, 5, none⟩ (.slice A4 n.ents.length c4)); have hr5 := hr4.kept HG5.out (by simp); have HR5 := Lib.hid hr5; clear p0 p1 p2 p3 p4 p5 p6 f0 f1 f2 f3 f4 f5 f6; obtain ⟨p0, p1, p2, p3, p4, p5, p6⟩ := hk4.c7; obtain ⟨f0, f1, f2, f3, f4, f5, f6⟩ := hk4.f7; have t5 : ∀ u, (w4.setCell ⟨w.heap.size, 5, none⟩ u).cell? ⟨w.heap.size, 5, none⟩ = some u := fun u => (hk4.set7_5 u).cell 5; obtain ⟨r0, r1, r2, r3, r4, r5, r6⟩ := hr5.c7; obtain ⟨q0, q1, q2, q3, q4, q5, q6⟩ := hr5.f7; obtain ⟨s0, s1, s2, s3, s4, s5, s6⟩ := hr5.s7; clear hT4 hL4 hb4 hk4 hr4 hr5))
  have HG6 := Lib.hid (grown7 (w4.setCell ⟨w.heap.size, 5, none⟩ (.slice A4 n.ents.length c4)) (w.heap.size + 1) (.int .i64 n.kind) (.int .i64 n.mode) (.int .i64 n.uid) (.int .i64 n.gid) (.slice A3 n.data.length c3) (.slice A4 n.ents.length c4) (.string (bA n.target)))
  exact bodyPost_ret (v := nodeV n (.slice A3 n.data.length c3) (.slice A4 n.ents.length c4)) (by simp [results, Try.results41, go_sem, nodeV, s0, s1, s2, s3, s4, s5, s6]) rfl (copied_end HY4.out HT4.out HK4.out HR5.out HG5.out HG6.out HL2.out HL4.out HB1.out.size HLE.out HB4.out)
end Go.Proofs.Ytmapkmjhpebcbaa
