/-
  Get, of which is told too that its lists' room is no less than their lengths. The conditions are said at each.
-/
import Derived.Test.YtfopnfgfoicidaaGreatBT
namespace Go.Proofs.YtfopnfgfoicidaaGreat
open Go Go.RowKit
set_option maxRecDepth 100000

/-- Where a list's row lies, if it has one, and that its room is no less than its length. -/
def LQ (P : Nat → Prop) (v : Value) : Prop := ∀ (ad : Addr) (n c : Nat), v = .slice (some ad) n c → P ad.block ∧ n ≤ c
theorem LQ.nil (P : Nat → Prop) : LQ P (.slice none 0 0) := fun ad n c h => by injection h with h; cases h
theorem LQ.mono {P Q : Nat → Prop} {v : Value} (h : LQ P v) (hq : ∀ b, P b → Q b) : LQ Q v := fun ad n c hv => ⟨hq _ (h ad n c hv).1, (h ad n c hv).2⟩
theorem BytesT_of_ownC {w : World} {B : Nat} {v : Value} {l : List UInt8} (h : w.ownsRow B 5 1 v l.length (bCells l)) : BytesT w v l ∧ LQ (fun b => B ≤ b) v := by
  rcases h.2 with ⟨rfl, hn⟩ | ⟨g, cap, cur, rfl, hB, hh, hcap, _⟩
  · have : l = [] := List.eq_nil_of_length_eq_zero hn
    subst this
    exact ⟨BytesT.nil w, LQ.nil _⟩
  · refine ⟨⟨⟨some ⟨g, 0, none⟩, cap, rfl, fun k a hk => ⟨_, rfl, ?_⟩⟩, fun ad n c hv => ?_⟩, fun ad n c hv => ?_⟩
    · rw [add_lit]
      exact row_at h _ _ (bCells_at l k a hk)
    · injection hv with hA
      injection hA with hA
      subst hA
      exact ⟨cur, hh⟩
    · injection hv with hA hn hc
      injection hA with hA
      subst hA hn hc
      exact ⟨hB, hcap⟩
theorem LQ.of_own {w : World} {B : Nat} {e : TypeId} {size n : Nat} {v : Value} {xs : List Value} (h : w.ownsRow B e size v n xs) : LQ (fun b => B ≤ b) v := by
  rcases h.2 with ⟨rfl, hn⟩ | ⟨g, cap, cur, rfl, hB, hh, hcap, _⟩
  · exact LQ.nil _
  · intro ad n c hv
    injection hv with hA hn hc
    injection hA with hA
    subst hA hn hc
    exact ⟨hB, hcap⟩
/-- 'append([]byte(nil), x...)'. -/
theorem wpList_copy_bytesC {ops : Array Oper} {rest : List Oper} {o : Oper} {a : Act} {Q : Exit → Act → World → Prop} {w0 : World} (hgd : o.guard = none) (x : Operand)
    (ho : o.op = .call { callee := .builtin .append, args := #[.const (.slice none 0 0), x], argTypes := #[43, 43] })
    (vx : Value) (m : List UInt8) (hx : a.eval x = vx) (hm : BytesR w0 vx m) (hn : m.length ≤ 1000000)
    (h : ∀ v' w', BytesT w' v' m → LQ (fun b => w0.heap.size ≤ b) v' → Below w0.heap.size w0 w' → wpList Tryz.prog ops Q rest (a.put o.dst v') w') : wpList Tryz.prog ops Q (o :: rest) a w0 := by
  obtain ⟨i, hi0, hz0, hz1, hz2⟩ := info_parts info_u8
  obtain ⟨A, c, rfl⟩ := bytes_form hm rfl
  cases A with
  | none =>
    have hm0 : m = [] := by
      cases m with
      | nil => rfl
      | cons y m' =>
        obtain ⟨ad, e, _⟩ := bytes_get hm (show (y :: m')[0]? = some y from rfl)
        cases e
    subst hm0
    exact wpList_append_void hgd x _ 5 ho i Tryz.underlying43 hi0 c hx (h _ w0 (BytesT.nil _) (LQ.nil _) (Below.refl _ _))
  | some ad =>
    refine wpList_append_own _ hgd _ x _ ho w0.heap.size 5 i _ 1 1 Tryz.underlying43 hi0 hz0 hz1 hz2 rfl (by decide) (.slice none 0 0) 0 [] rfl (World.ownsRow_nil _ _ _ _) ad m.length c (bCells m) hx (by simp [bCells]) (bytes_src hm) (bCells_one m) (by unfold maxLen; omega) (by omega) (Nat.le_refl _) ?_
    intro v' w' ho' hg _
    rw [Nat.zero_add, List.nil_append] at ho'
    obtain ⟨h1, h2⟩ := BytesT_of_ownC ho'
    exact h v' w' h1 h2 ((Below.refl _ _).grown hg (Nat.le_refl _) (fun q hq => by cases hq))
/-- 'append([]node.Ent(nil), x...)'. -/
theorem wpList_copy_entsC {ops : Array Oper} {rest : List Oper} {o : Oper} {a : Act} {Q : Exit → Act → World → Prop} {w0 : World} (hgd : o.guard = none) (x : Operand)
    (ho : o.op = .call { callee := .builtin .append, args := #[.const (.slice none 0 0), x], argTypes := #[54, 54] })
    (vx : Value) (m : List En) (hx : a.eval x = vx) (hm : EntsR w0 vx m) (hn : m.length ≤ 1000000)
    (h : ∀ v' w', EntsT w' v' m → LQ (fun b => w0.heap.size ≤ b) v' → Below w0.heap.size w0 w' → wpList Tryz.prog ops Q rest (a.put o.dst v') w') : wpList Tryz.prog ops Q (o :: rest) a w0 := by
  obtain ⟨i, hi0, hz0, hz1, hz2⟩ := info_parts info_ent
  obtain ⟨A, c, rfl⟩ := ents_form hm rfl
  cases A with
  | none =>
    have hm0 : m = [] := by
      cases m with
      | nil => rfl
      | cons y m' =>
        obtain ⟨ad, e, _⟩ := ents_get hm (show (y :: m')[0]? = some y from rfl)
        cases e
    subst hm0
    exact wpList_append_void hgd x _ 109 ho i Tryz.underlying54 hi0 c hx (h _ w0 (EntsT.nil _) (LQ.nil _) (Below.refl _ _))
  | some ad =>
    refine wpList_append_own _ hgd _ x _ ho w0.heap.size 109 i _ 2 24 Tryz.underlying54 hi0 hz0 hz1 hz2 rfl (by decide) (.slice none 0 0) 0 [] rfl (World.ownsRow_nil _ _ _ _) ad m.length c (eCells m) hx (eCells_len m) (ents_src hm) (eCells_one m) (by unfold maxLen; omega) (by omega) (Nat.le_refl _) ?_
    intro v' w' ho' hg _
    rw [Nat.zero_add, List.nil_append] at ho'
    exact h v' w' (EntsT.of_own ho') (LQ.of_own ho') ((Below.refl _ _).grown hg (Nat.le_refl _) (fun q hq => by cases hq))
attribute [local go_sem] cell_off4 cell_blk4
theorem copied_endC {w w1 w3 w4 w5 w6 : World} {n : Nd} {va vb : Value} {cs ds : Array Value} (hd : BytesT w4 va n.data) (he : EntsT w4 vb n.ents) (hk : Blk w4 w.heap.size 56 cs) (hr : Blk w5 (w.heap.size + 1) 56 ds) (hg5 : w4.grownBy w5 (some w.heap.size)) (hg6 : w5.grownBy w6 (some (w.heap.size + 1)))
    (h2 : LQ (fun b => w1.heap.size ≤ b) va) (h4 : LQ (fun b => w3.heap.size ≤ b) vb) (h1 : w.heap.size ≤ w1.heap.size) (h3 : w.heap.size ≤ w3.heap.size) (hb : Below w.heap.size w w4) :
    ∃ vd' ve', Ending.returned (nodeV n va vb) = .returned (nodeV n vd' ve') ∧ BytesT w6 vd' n.data ∧ EntsT w6 ve' n.ents ∧ LQ (fun b => w.heap.size ≤ b) vd' ∧ LQ (fun b => w.heap.size ≤ b) ve' ∧ Below w.heap.size w w6 := by
  have hd5 := hd.other hg5 (fun ad n c hv => by obtain ⟨cs, h⟩ := hd.2 ad n c hv; exact blk_ne h hk (by decide))
  have he5 := he.other hg5 (fun ad n c hv => by obtain ⟨cs, h⟩ := he.2 ad n c hv; exact blk_ne h hk (by decide))
  have hd6 := hd5.other hg6 (fun ad n c hv => by obtain ⟨cs, h⟩ := hd5.2 ad n c hv; exact blk_ne h hr (by decide))
  have he6 := he5.other hg6 (fun ad n c hv => by obtain ⟨cs, h⟩ := he5.2 ad n c hv; exact blk_ne h hr (by decide))
  exact ⟨va, vb, rfl, hd6, he6, h2.mono (fun b hb => Nat.le_trans h1 hb), h4.mono (fun b hb => Nat.le_trans h3 hb), below_grown (below_grown hb hg5 (Nat.le_refl _)) hg6 (Nat.le_succ _)⟩
set_option maxRecDepth 100000 in
set_option maxHeartbeats 4000000 in
theorem copied_anyC (n : Nd) (vd ve : Value) (w : World) (hd : BytesR w vd n.data) (he : EntsR w ve n.ents) (hf : Few n) :
    Calls Tryz.prog 46 #[nodeV n vd ve] w fun e w' => ∃ vd' ve', e = .returned (nodeV n vd' ve') ∧ BytesT w' vd' n.data ∧ EntsT w' ve' n.ents ∧ LQ (fun b => w.heap.size ≤ b) vd' ∧ LQ (fun b => w.heap.size ≤ b) ve' ∧ Below w.heap.size w w' := by
  have hnd := hf.data
  have hne := hf.ents
  obtain ⟨W1, hW1⟩ : ∃ W1, W1 = (w.alloc (.cells (ndC n vd ve) 56)).alloc (.cells ndZ 56) := ⟨_, rfl⟩
  have hb1 : Below w.heap.size w W1 := by rw [hW1]; exact al (ba _ _) _
  have hz1 : W1.heap.size = w.heap.size + 2 := by rw [hW1]; simp
  have hkb : Blk W1 w.heap.size 56 (ndC n vd ve) := by rw [hW1]; exact (Blk.new _ _ _).alloc _
  have hkr : Blk W1 (w.heap.size + 1) 56 ndZ := by rw [hW1]; have := Blk.new (w.alloc (.cells (ndC n vd ve) 56)) 56 ndZ; simpa using this
  have HD := Lib.hid (hd.below hb1)
  have HE := Lib.hid he
  have HB1 := Lib.hid hb1
  have HKB := Lib.hid hkb
  have HKR := Lib.hid hkr
  have HZ1 := Lib.hid hz1
  obtain ⟨A1, c1, rfl⟩ := bytes_form hd rfl
  obtain ⟨A2, c2, rfl⟩ := ents_form he rfl
  clear hd he hb1 hkb hkr hz1 hf
  subst hW1
  unfold nodeV
  go_enter Tryz.func46, Tryz.ntmps46
  go_wp2_with (first | (at_builtin; refine wpList_copy_bytesC rfl (.tmp 4) rfl (.slice A1 n.data.length c1) n.data rfl HD.out (by omega) ?_; intro v2 w2 hT2 hL2 hb2; obtain ⟨A3, c3, hv3⟩ := bytesT_form hT2; subst hv3; have HT2 := Lib.hid hT2; have HL2 := Lib.hid hL2; have HB2 := Lib.hid hb2; have hk2 := HKB.out.below hb2; have HK2 := Lib.hid hk2; obtain ⟨p0, p1, p2, p3, p4, p5, p6⟩ := hk2.c7; obtain ⟨f0, f1, f2, f3, f4, f5, f6⟩ := hk2.f7; clear hT2 hL2 hb2 hk2) | (at_builtin; (have HG3 := Lib.hid (grown_setCell w2 ⟨w.heap.size, 4, none⟩ (.slice A3 n.data.length c3))); (have HK3 := Lib.hid (HK2.out.set7_4 (.slice A3 n.data.length c3))); (have HB3 := Lib.hid (below_grown (bt HB2.out HB1.out) HG3.out (Nat.le_refl _))); (have HX3 := Lib.hid (HT2.out.other HG3.out (fun ad n c hv => by obtain ⟨cs, hb⟩ := HT2.out.2 ad n c hv; exact blk_ne hb HK2.out (by decide)))); (have HR3 := Lib.hid ((HKR.out.below HB2.out).kept HG3.out (by simp))); refine wpList_copy_entsC rfl (.tmp 8) rfl (.slice A2 n.ents.length c2) n.ents rfl (HE.out.below HB3.out) (by omega) ?_; intro v4 w4 hT4 hL4 hb4; obtain ⟨A4, c4, hv4⟩ := entsT_form hT4; subst hv4; have HT4 := Lib.hid hT4; have HL4 := Lib.hid hL4; have HY4 := Lib.hid (HX3.out.below hb4); have HB4 := Lib.hid (bt hb4 HB3.out); have hk4 := HK3.out.below hb4; have HK4 := Lib.hid hk4; have hr4 := HR3.out.below hb4; have HR4 := Lib.hid hr4; have HLE := Lib.hid HB3.out.size; have HG5 := Lib.hid (grown_setCell w4 ⟨w.heap.size, 5, none⟩ (.slice A4 n.ents.length c4)); have hr5 := hr4.kept HG5.out (by simp); have HR5 := Lib.hid hr5; clear p0 p1 p2 p3 p4 p5 p6 f0 f1 f2 f3 f4 f5 f6; obtain ⟨p0, p1, p2, p3, p4, p5, p6⟩ := hk4.c7; obtain ⟨f0, f1, f2, f3, f4, f5, f6⟩ := hk4.f7; have t5 : ∀ u, (w4.setCell ⟨w.heap.size, 5, none⟩ u).cell? ⟨w.heap.size, 5, none⟩ = some u := fun u => (hk4.set7_5 u).cell 5; obtain ⟨r0, r1, r2, r3, r4, r5, r6⟩ := hr5.c7; obtain ⟨q0, q1, q2, q3, q4, q5, q6⟩ := hr5.f7; obtain ⟨s0, s1, s2, s3, s4, s5, s6⟩ := hr5.s7; clear hT4 hL4 hb4 hk4 hr4 hr5))
  have HG6 := Lib.hid (grown7 (w4.setCell ⟨w.heap.size, 5, none⟩ (.slice A4 n.ents.length c4)) (w.heap.size + 1) (.int .i64 n.kind) (.int .i64 n.mode) (.int .i64 n.uid) (.int .i64 n.gid) (.slice A3 n.data.length c3) (.slice A4 n.ents.length c4) (.string (bA n.target)))
  exact bodyPost_ret (v := nodeV n (.slice A3 n.data.length c3) (.slice A4 n.ents.length c4)) (by simp [results, Tryz.results46, go_sem, nodeV, s0, s1, s2, s3, s4, s5, s6]) rfl (copied_endC HY4.out HT4.out HK4.out HR5.out HG5.out HG6.out HL2.out HL4.out HB1.out.size HLE.out HB4.out)
theorem get_endC {w w3 w4 : World} {n : Nd} {va vb : Value} {b : Bool} {cs : Array Value} {s : Nat} (hd : BytesT w3 va n.data) (he : EntsT w3 vb n.ents) (hk : Blk w3 w.heap.size 56 cs) (hg : w3.grownBy w4 (some w.heap.size))
    (h2 : LQ (fun b => s ≤ b) va) (h4 : LQ (fun b => s ≤ b) vb) (h1 : w.heap.size ≤ s) (hb : Below w.heap.size w w3) :
    ∃ vd ve, Ending.returned (.tuple #[nodeV n va vb, .bool b]) = .returned (.tuple #[nodeV n vd ve, .bool b]) ∧ BytesT w4 vd n.data ∧ EntsT w4 ve n.ents ∧ LQ (fun b => w.heap.size ≤ b) vd ∧ LQ (fun b => w.heap.size ≤ b) ve ∧ Below w.heap.size w w4 := by
  have hd5 := hd.other hg (fun ad n c hv => by obtain ⟨cs, h⟩ := hd.2 ad n c hv; exact blk_ne h hk (by decide))
  have he5 := he.other hg (fun ad n c hv => by obtain ⟨cs, h⟩ := he.2 ad n c hv; exact blk_ne h hk (by decide))
  exact ⟨va, vb, rfl, hd5, he5, h2.mono (fun b hb => Nat.le_trans h1 hb), h4.mono (fun b hb => Nat.le_trans h1 hb), below_grown hb hg (Nat.le_refl _)⟩
set_option maxRecDepth 100000 in
set_option maxHeartbeats 4000000 in
theorem get_anyC (v : Value) (t : List Nd) (i : Int) (w : World) (h : TabP w v t) :
    Calls Tryz.prog 21 #[v, .int .i64 i] w fun e w' => ∃ vd ve, e = .returned (.tuple #[nodeV (tget t i) vd ve, .bool (tis t i)]) ∧ BytesT w' vd (tget t i).data ∧ EntsT w' ve (tget t i).ents ∧ LQ (fun b => w.heap.size ≤ b) vd ∧ LQ (fun b => w.heap.size ≤ b) ve ∧ Below w.heap.size w w' := by
  have HA := Lib.hid (fun W (hb : Below w.heap.size w W) => at_any v t i W (h.below hb))
  have HH := Lib.hid (fun W (hb : Below w.heap.size w W) => thas_any v t i W (h.below hb))
  have HF := Lib.hid (ok_few h.ok.1 i)
  have HBN := Lib.hid (Blk.new w 56 ndZ)
  have HB0 := Lib.hid (ba w (.cells ndZ 56))
  clear h
  generalize tis t i = X at HH ⊢
  generalize tget t i = n at HA HF ⊢
  go_enter Tryz.func21, Tryz.ntmps21
  go_wp2_with fail
  refine (HA.out _ HB0.out).mono ?_
  rintro e w1 ⟨vd1, ve1, rfl, hd1, he1, hb1⟩
  have HD1 := Lib.hid hd1
  have HE1 := Lib.hid he1
  have HB1 := Lib.hid (bt hb1 HB0.out)
  have HK1 := Lib.hid (HBN.out.below hb1)
  clear hd1 he1 hb1
  go_wp2_with fail
  refine (copied_anyC n vd1 ve1 w1 HD1.out.1 HE1.out.1 HF.out).mono ?_
  rintro e w2 ⟨vd2, ve2, rfl, hd2, he2, hl2, hm2, hb2⟩
  have HD2 := Lib.hid hd2
  have HE2 := Lib.hid he2
  have HL2 := Lib.hid hl2
  have HM2 := Lib.hid hm2
  have HB2 := Lib.hid (bt hb2 HB1.out)
  have HK2 := Lib.hid (HK1.out.below hb2)
  have HS1 := Lib.hid HB1.out.size
  clear hd2 he2 hl2 hm2 hb2
  go_wp2_with fail
  refine (HH.out w2 HB2.out).mono ?_
  rintro e w3 ⟨rfl, hb3⟩
  have HB3 := Lib.hid (bt hb3 HB2.out)
  have HD3 := Lib.hid (HD2.out.below hb3)
  have HE3 := Lib.hid (HE2.out.below hb3)
  have hk3 := HK2.out.below hb3
  have HK3 := Lib.hid hk3
  obtain ⟨p0, p1, p2, p3, p4, p5, p6⟩ := hk3.c7
  obtain ⟨q0, q1, q2, q3, q4, q5, q6⟩ := hk3.f7
  obtain ⟨s0, s1, s2, s3, s4, s5, s6⟩ := hk3.s7
  clear hb3 hk3
  obtain ⟨A1, c1, hv1⟩ := bytesT_form HD3.out
  obtain ⟨A2, c2, hv2⟩ := entsT_form HE3.out
  subst hv1 hv2
  unfold nodeV
  go_wp2
  have HG := Lib.hid (grown7 w3 w.heap.size (.int .i64 n.kind) (.int .i64 n.mode) (.int .i64 n.uid) (.int .i64 n.gid) (.slice A1 n.data.length c1) (.slice A2 n.ents.length c2) (.string (bA n.target)))
  exact bodyPost_ret (v := .tuple #[nodeV n (.slice A1 n.data.length c1) (.slice A2 n.ents.length c2), .bool X]) (by simp [results, Tryz.results21, go_sem, nodeV, s0, s1, s2, s3, s4, s5, s6]) rfl (get_endC HD3.out HE3.out HK3.out HG.out HL2.out HM2.out HS1.out HB3.out)
end Go.Proofs.YtfopnfgfoicidaaGreat
