/-
  Get, of which is told too that its lists' room is no less than their lengths. The conditions are said at each. Package sys: the table, the umask and the places of processes as they are told; a copy of groups. The conditions are said at each. Package sys: New. The conditions are said at each. What became of a table, as one change: plain mathematics. No condition. What a table's changes are called, where a node, or an entry, is touched: plain mathematics. The conditions are said at each. A table's change, and the change back: plain mathematics. The conditions are said at each.
-/
import Derived.Test.YtnkjaocmfhjnoaaGreatE1
import Derived.Test.YtnkjaocmfhjnoaaGreatE3
import Derived.Test.YtnkjaocmfhjnoaaGreatE5
import Derived.Test.YtnkjaocmfhjnoaaGreatE6
import Derived.Test.YtnkjaocmfhjnoaaGreatE8
import Derived.Test.YtnkjaocmfhjnoaaGreatE9
import Derived.Test.YtnkjaocmfhjnoaaGreatE11
import Derived.Test.YtnkjaocmfhjnoaaGreatE12
import Derived.Laws.IdiomCopy
import Derived.Laws.OwnMore
import Derived.Deep.RegionWith
import Derived.Deep.RegionHeld3
import Derived.Deep.DeepCutAuto
import Derived.Deep.CutBlock
import Derived.Deep.AppendLies
namespace Go.Proofs.YtnkjaocmfhjnoaaGreat
open Go Go.RowKit
set_option maxRecDepth 100000

def LQ (P : Nat → Prop) (v : Value) : Prop := ∀ (ad : Addr) (n c : Nat), v = .slice (some ad) n c → P ad.block ∧ n ≤ c ∧ ad = ⟨ad.block, 0, none⟩
theorem LQ.nil (P : Nat → Prop) : LQ P (.slice none 0 0) := fun ad n c h => by injection h with h; cases h
theorem LQ.mono {P Q : Nat → Prop} {v : Value} (h : LQ P v) (hq : ∀ b, P b → Q b) : LQ Q v := fun ad n c hv => ⟨hq _ (h ad n c hv).1, (h ad n c hv).2⟩
theorem BytesT_of_ownC {w : World} {B : Nat} {v : Value} {l : List UInt8} (h : w.ownsRow B 5 1 v l.length (bCells l)) : BytesT w v l ∧ LQ (fun b => B ≤ b) v := by
  rcases h.2 with ⟨rfl, hn⟩ | ⟨g, cap, cur, rfl, hB, hh, hcap, _⟩
  · have : l = [] := List.eq_nil_of_length_eq_zero hn
    subst this
    exact ⟨BytesT.nil w, LQ.nil _⟩
  · refine ⟨⟨⟨some ⟨g, 0, none⟩, cap, rfl, fun k a hk => ⟨_, rfl, ?_⟩⟩, fun ad n c hv => ?_⟩, fun ad n c hv => ?_⟩
    · rw [add_lit]
      exact row_at h _ _ (bCells_at l k a hk)
    · injection hv with hA
      injection hA with hA
      subst hA
      exact ⟨cur, hh⟩
    · injection hv with hA hn hc
      injection hA with hA
      subst hA hn hc
      exact ⟨hB, hcap, rfl⟩
theorem LQ.of_own {w : World} {B : Nat} {e : TypeId} {size n : Nat} {v : Value} {xs : List Value} (h : w.ownsRow B e size v n xs) : LQ (fun b => B ≤ b) v := by
  rcases h.2 with ⟨rfl, hn⟩ | ⟨g, cap, cur, rfl, hB, hh, hcap, _⟩
  · exact LQ.nil _
  · intro ad n c hv
    injection hv with hA hn hc
    injection hA with hA
    subst hA hn hc
    exact ⟨hB, hcap, rfl⟩
theorem wpList_copy_bytesC {ops : Array Oper} {rest : List Oper} {o : Oper} {a : Act} {Q : Exit → Act → World → Prop} {w0 : World} (hgd : o.guard = none) (x : Operand)
    (ho : o.op = .call { callee := .builtin .append, args := #[.const (.slice none 0 0), x], argTypes := #[46, 46] })
    (vx : Value) (m : List UInt8) (hx : a.eval x = vx) (hm : BytesR w0 vx m) (hn : m.length ≤ 1000000)
    (h : ∀ v' w', BytesT w' v' m → LQ (fun b => w0.heap.size ≤ b) v' → Below w0.heap.size w0 w' → wpList Tryz.prog ops Q rest (a.put o.dst v') w') : wpList Tryz.prog ops Q (o :: rest) a w0 := by
  obtain ⟨i, hi0, hz0, hz1, hz2⟩ := info_parts info_u8
  obtain ⟨A, c, rfl⟩ := bytes_form hm rfl
  cases A with
  | none =>
    have hm0 : m = [] := by
      cases m with
      | nil => rfl
      | cons y m' =>
        obtain ⟨ad, e, _⟩ := bytes_get hm (show (y :: m')[0]? = some y from rfl)
        cases e
    subst hm0
    exact wpList_append_void hgd x _ 5 ho i Tryz.underlying46 hi0 c hx (h _ w0 (BytesT.nil _) (LQ.nil _) (Below.refl _ _))
  | some ad =>
    refine wpList_append_own _ hgd _ x _ ho w0.heap.size 5 i _ 1 1 Tryz.underlying46 hi0 hz0 hz1 hz2 rfl (by decide) (.slice none 0 0) 0 [] rfl (World.ownsRow_nil _ _ _ _) ad m.length c (bCells m) hx (by simp [bCells]) (bytes_src hm) (bCells_one m) (by unfold maxLen; omega) (by omega) (Nat.le_refl _) ?_
    intro v' w' ho' hg _
    rw [Nat.zero_add, List.nil_append] at ho'
    obtain ⟨h1, h2⟩ := BytesT_of_ownC ho'
    exact h v' w' h1 h2 ((Below.refl _ _).grown hg (Nat.le_refl _) (fun q hq => by cases hq))
theorem wpList_copy_entsC {ops : Array Oper} {rest : List Oper} {o : Oper} {a : Act} {Q : Exit → Act → World → Prop} {w0 : World} (hgd : o.guard = none) (x : Operand)
    (ho : o.op = .call { callee := .builtin .append, args := #[.const (.slice none 0 0), x], argTypes := #[63, 63] })
    (vx : Value) (m : List En) (hx : a.eval x = vx) (hm : EntsR w0 vx m) (hn : m.length ≤ 1000000)
    (h : ∀ v' w', EntsT w' v' m → LQ (fun b => w0.heap.size ≤ b) v' → Below w0.heap.size w0 w' → wpList Tryz.prog ops Q rest (a.put o.dst v') w') : wpList Tryz.prog ops Q (o :: rest) a w0 := by
  obtain ⟨i, hi0, hz0, hz1, hz2⟩ := info_parts info_ent
  obtain ⟨A, c, rfl⟩ := ents_form hm rfl
  cases A with
  | none =>
    have hm0 : m = [] := by
      cases m with
      | nil => rfl
      | cons y m' =>
        obtain ⟨ad, e, _⟩ := ents_get hm (show (y :: m')[0]? = some y from rfl)
        cases e
    subst hm0
    exact wpList_append_void hgd x _ 126 ho i Tryz.underlying63 hi0 c hx (h _ w0 (EntsT.nil _) (LQ.nil _) (Below.refl _ _))
  | some ad =>
    refine wpList_append_own _ hgd _ x _ ho w0.heap.size 126 i _ 2 24 Tryz.underlying63 hi0 hz0 hz1 hz2 rfl (by decide) (.slice none 0 0) 0 [] rfl (World.ownsRow_nil _ _ _ _) ad m.length c (eCells m) hx (eCells_len m) (ents_src hm) (eCells_one m) (by unfold maxLen; omega) (by omega) (Nat.le_refl _) ?_
    intro v' w' ho' hg _
    rw [Nat.zero_add, List.nil_append] at ho'
    exact h v' w' (EntsT.of_own ho') (LQ.of_own ho') ((Below.refl _ _).grown hg (Nat.le_refl _) (fun q hq => by cases hq))
attribute [local go_sem] cell_off4 cell_blk4
theorem copied_endC {w w1 w3 w4 w5 w6 : World} {n : Nd} {va vb : Value} {cs ds : Array Value} (hd : BytesT w4 va n.data) (he : EntsT w4 vb n.ents) (hk : Blk w4 w.heap.size 65 cs) (hr : Blk w5 (w.heap.size + 1) 65 ds) (hg5 : w4.grownBy w5 (some w.heap.size)) (hg6 : w5.grownBy w6 (some (w.heap.size + 1)))
    (h2 : LQ (fun b => w1.heap.size ≤ b) va) (h4 : LQ (fun b => w3.heap.size ≤ b) vb) (h1 : w.heap.size ≤ w1.heap.size) (h3 : w.heap.size ≤ w3.heap.size) (hb : Below w.heap.size w w4) :
    ∃ vd' ve', Ending.returned (nodeV n va vb) = .returned (nodeV n vd' ve') ∧ BytesT w6 vd' n.data ∧ EntsT w6 ve' n.ents ∧ LQ (fun b => w.heap.size ≤ b) vd' ∧ LQ (fun b => w.heap.size ≤ b) ve' ∧ Below w.heap.size w w6 := by
  have hd5 := hd.other hg5 (fun ad n c hv => by obtain ⟨cs, h⟩ := hd.2 ad n c hv; exact blk_ne h hk (by decide))
  have he5 := he.other hg5 (fun ad n c hv => by obtain ⟨cs, h⟩ := he.2 ad n c hv; exact blk_ne h hk (by decide))
  have hd6 := hd5.other hg6 (fun ad n c hv => by obtain ⟨cs, h⟩ := hd5.2 ad n c hv; exact blk_ne h hr (by decide))
  have he6 := he5.other hg6 (fun ad n c hv => by obtain ⟨cs, h⟩ := he5.2 ad n c hv; exact blk_ne h hr (by decide))
  exact ⟨va, vb, rfl, hd6, he6, h2.mono (fun b hb => Nat.le_trans h1 hb), h4.mono (fun b hb => Nat.le_trans h3 hb), below_grown (below_grown hb hg5 (Nat.le_refl _)) hg6 (Nat.le_succ _)⟩
set_option maxRecDepth 100000 in
set_option maxHeartbeats 4000000 in
theorem copied_anyC (n : Nd) (vd ve : Value) (w : World) (hd : BytesR w vd n.data) (he : EntsR w ve n.ents) (hf : Few n) :
    Calls Tryz.prog 26 #[nodeV n vd ve] w fun e w' => ∃ vd' ve', e = .returned (nodeV n vd' ve') ∧ BytesT w' vd' n.data ∧ EntsT w' ve' n.ents ∧ LQ (fun b => w.heap.size ≤ b) vd' ∧ LQ (fun b => w.heap.size ≤ b) ve' ∧ Below w.heap.size w w' := by
  have hnd := hf.data
  have hne := hf.ents
  obtain ⟨W1, hW1⟩ : ∃ W1, W1 = (w.alloc (.cells (ndC n vd ve) 65)).alloc (.cells ndZ 65) := ⟨_, rfl⟩
  have hb1 : Below w.heap.size w W1 := by rw [hW1]; exact al (ba _ _) _
  have hz1 : W1.heap.size = w.heap.size + 2 := by rw [hW1]; simp
  have hkb : Blk W1 w.heap.size 65 (ndC n vd ve) := by rw [hW1]; exact (Blk.new _ _ _).alloc _
  have hkr : Blk W1 (w.heap.size + 1) 65 ndZ := by rw [hW1]; have := Blk.new (w.alloc (.cells (ndC n vd ve) 65)) 65 ndZ; simpa using this
  have HD := Lib.hid (hd.below hb1)
  have HE := Lib.hid he
  have HB1 := Lib.hid hb1
  have HKB := Lib.hid hkb
  have HKR := Lib.hid hkr
  have HZ1 := Lib.hid hz1
  obtain ⟨A1, c1, rfl⟩ := bytes_form hd rfl
  obtain ⟨A2, c2, rfl⟩ := ents_form he rfl
  clear hd he hb1 hkb hkr hz1 hf
  subst hW1
  unfold nodeV
  go_enter Tryz.func26, Tryz.ntmps26
  go_wp2_with (first | (at_builtin; refine wpList_copy_bytesC rfl (.tmp 4) rfl (.slice A1 n.data.length c1) n.data rfl HD.out (by omega) ?_; intro v2 w2 hT2 hL2 hb2; obtain ⟨A3, c3, hv3⟩ := bytesT_form hT2; subst hv3; have HT2 := Lib.hid hT2; have HL2 := Lib.hid hL2; have HB2 := Lib.hid hb2; have hk2 := HKB.out.below hb2; have HK2 := Lib.hid hk2; obtain ⟨p0, p1, p2, p3, p4, p5, p6⟩ := hk2.c7; obtain ⟨f0, f1, f2, f3, f4, f5, f6⟩ := hk2.f7; clear hT2 hL2 hb2 hk2) | (at_builtin; (have HG3 := Lib.hid (grown_setCell w2 ⟨w.heap.size, 4, none⟩ (.slice A3 n.data.length c3))); (have HK3 := Lib.hid (HK2.out.set7_4 (.slice A3 n.data.length c3))); (have HB3 := Lib.hid (below_grown (bt HB2.out HB1.out) HG3.out (Nat.le_refl _))); (have HX3 := Lib.hid (HT2.out.other HG3.out (fun ad n c hv => by obtain ⟨cs, hb⟩ := HT2.out.2 ad n c hv; exact blk_ne hb HK2.out (by decide)))); (have HR3 := Lib.hid ((HKR.out.below HB2.out).kept HG3.out (by simp))); refine wpList_copy_entsC rfl (.tmp 8) rfl (.slice A2 n.ents.length c2) n.ents rfl (HE.out.below HB3.out) (by omega) ?_; intro v4 w4 hT4 hL4 hb4; obtain ⟨A4, c4, hv4⟩ := entsT_form hT4; subst hv4; have HT4 := Lib.hid hT4; have HL4 := Lib.hid hL4; have HY4 := Lib.hid (HX3.out.below hb4); have HB4 := Lib.hid (bt hb4 HB3.out); have hk4 := HK3.out.below hb4; have HK4 := Lib.hid hk4; have hr4 := HR3.out.below hb4; have HR4 := Lib.hid hr4; have HLE := Lib.hid HB3.out.size; have HG5 := Lib.hid (grown_setCell w4 ⟨w.heap.size, 5, none⟩ (.slice A4 n.ents.length c4)); have hr5 := hr4.kept HG5.out (by simp); have HR5 := Lib.hid hr5; clear p0 p1 p2 p3 p4 p5 p6 f0 f1 f2 f3 f4 f5 f6; obtain ⟨p0, p1, p2, p3, p4, p5, p6⟩ := hk4.c7; obtain ⟨f0, f1, f2, f3, f4, f5, f6⟩ := hk4.f7; have t5 : ∀ u, (w4.setCell ⟨w.heap.size, 5, none⟩ u).cell? ⟨w.heap.size, 5, none⟩ = some u := fun u => (hk4.set7_5 u).cell 5; obtain ⟨r0, r1, r2, r3, r4, r5, r6⟩ := hr5.c7; obtain ⟨q0, q1, q2, q3, q4, q5, q6⟩ := hr5.f7; obtain ⟨s0, s1, s2, s3, s4, s5, s6⟩ := hr5.s7; clear hT4 hL4 hb4 hk4 hr4 hr5))
  have HG6 := Lib.hid (grown7 (w4.setCell ⟨w.heap.size, 5, none⟩ (.slice A4 n.ents.length c4)) (w.heap.size + 1) (.int .i64 n.kind) (.int .i64 n.mode) (.int .i64 n.uid) (.int .i64 n.gid) (.slice A3 n.data.length c3) (.slice A4 n.ents.length c4) (.string (bA n.target)))
  exact bodyPost_ret (v := nodeV n (.slice A3 n.data.length c3) (.slice A4 n.ents.length c4)) (by simp [results, Tryz.results26, go_sem, nodeV, s0, s1, s2, s3, s4, s5, s6]) rfl (copied_endC HY4.out HT4.out HK4.out HR5.out HG5.out HG6.out HL2.out HL4.out HB1.out.size HLE.out HB4.out)
theorem get_endC {w w3 w4 : World} {n : Nd} {va vb : Value} {b : Bool} {cs : Array Value} {s : Nat} (hd : BytesT w3 va n.data) (he : EntsT w3 vb n.ents) (hk : Blk w3 w.heap.size 65 cs) (hg : w3.grownBy w4 (some w.heap.size))
    (h2 : LQ (fun b => s ≤ b) va) (h4 : LQ (fun b => s ≤ b) vb) (h1 : w.heap.size ≤ s) (hb : Below w.heap.size w w3) :
    ∃ vd ve, Ending.returned (.tuple #[nodeV n va vb, .bool b]) = .returned (.tuple #[nodeV n vd ve, .bool b]) ∧ BytesT w4 vd n.data ∧ EntsT w4 ve n.ents ∧ LQ (fun b => w.heap.size ≤ b) vd ∧ LQ (fun b => w.heap.size ≤ b) ve ∧ Below w.heap.size w w4 := by
  have hd5 := hd.other hg (fun ad n c hv => by obtain ⟨cs, h⟩ := hd.2 ad n c hv; exact blk_ne h hk (by decide))
  have he5 := he.other hg (fun ad n c hv => by obtain ⟨cs, h⟩ := he.2 ad n c hv; exact blk_ne h hk (by decide))
  exact ⟨va, vb, rfl, hd5, he5, h2.mono (fun b hb => Nat.le_trans h1 hb), h4.mono (fun b hb => Nat.le_trans h1 hb), below_grown hb hg (Nat.le_refl _)⟩
set_option maxRecDepth 100000 in
set_option maxHeartbeats 4000000 in
theorem get_anyC (v : Value) (t : List Nd) (i : Int) (w : World) (h : TabP w v t) :
    Calls Tryz.prog 21 #[v, .int .i64 i] w fun e w' => ∃ vd ve, e = .returned (.tuple #[nodeV (tget t i) vd ve, .bool (tis t i)]) ∧ BytesT w' vd (tget t i).data ∧ EntsT w' ve (tget t i).ents ∧ LQ (fun b => w.heap.size ≤ b) vd ∧ LQ (fun b => w.heap.size ≤ b) ve ∧ Below w.heap.size w w' := by
  have HA := Lib.hid (fun W (hb : Below w.heap.size w W) => at_any v t i W (h.below hb))
  have HH := Lib.hid (fun W (hb : Below w.heap.size w W) => thas_any v t i W (h.below hb))
  have HF := Lib.hid (ok_few h.ok.1 i)
  have HBN := Lib.hid (Blk.new w 65 ndZ)
  have HB0 := Lib.hid (ba w (.cells ndZ 65))
  clear h
  generalize tis t i = X at HH ⊢
  generalize tget t i = n at HA HF ⊢
  go_enter Tryz.func21, Tryz.ntmps21
  go_wp2_with fail
  refine (HA.out _ HB0.out).mono ?_
  rintro e w1 ⟨vd1, ve1, rfl, hd1, he1, hb1⟩
  have HD1 := Lib.hid hd1
  have HE1 := Lib.hid he1
  have HB1 := Lib.hid (bt hb1 HB0.out)
  have HK1 := Lib.hid (HBN.out.below hb1)
  clear hd1 he1 hb1
  go_wp2_with fail
  refine (copied_anyC n vd1 ve1 w1 HD1.out.1 HE1.out.1 HF.out).mono ?_
  rintro e w2 ⟨vd2, ve2, rfl, hd2, he2, hl2, hm2, hb2⟩
  have HD2 := Lib.hid hd2
  have HE2 := Lib.hid he2
  have HL2 := Lib.hid hl2
  have HM2 := Lib.hid hm2
  have HB2 := Lib.hid (bt hb2 HB1.out)
  have HK2 := Lib.hid (HK1.out.below hb2)
  have HS1 := Lib.hid HB1.out.size
  clear hd2 he2 hl2 hm2 hb2
  go_wp2_with fail
  refine (HH.out w2 HB2.out).mono ?_
  rintro e w3 ⟨rfl, hb3⟩
  have HB3 := Lib.hid (bt hb3 HB2.out)
  have HD3 := Lib.hid (HD2.out.below hb3)
  have HE3 := Lib.hid (HE2.out.below hb3)
  have hk3 := HK2.out.below hb3
  have HK3 := Lib.hid hk3
  obtain ⟨p0, p1, p2, p3, p4, p5, p6⟩ := hk3.c7
  obtain ⟨q0, q1, q2, q3, q4, q5, q6⟩ := hk3.f7
  obtain ⟨s0, s1, s2, s3, s4, s5, s6⟩ := hk3.s7
  clear hb3 hk3
  obtain ⟨A1, c1, hv1⟩ := bytesT_form HD3.out
  obtain ⟨A2, c2, hv2⟩ := entsT_form HE3.out
  subst hv1 hv2
  unfold nodeV
  go_wp2
  have HG := Lib.hid (grown7 w3 w.heap.size (.int .i64 n.kind) (.int .i64 n.mode) (.int .i64 n.uid) (.int .i64 n.gid) (.slice A1 n.data.length c1) (.slice A2 n.ents.length c2) (.string (bA n.target)))
  exact bodyPost_ret (v := .tuple #[nodeV n (.slice A1 n.data.length c1) (.slice A2 n.ents.length c2), .bool X]) (by simp [results, Tryz.results21, go_sem, nodeV, s0, s1, s2, s3, s4, s5, s6]) rfl (get_endC HD3.out HE3.out HK3.out HG.out HL2.out HM2.out HS1.out HB3.out)
end Go.Proofs.YtnkjaocmfhjnoaaGreat
namespace Go.Proofs.YtnkjaocmfhjnoaaGreat
open Go Go.RowKit
set_option maxRecDepth 100000

attribute [local go_sem] cell_off4 cell_blk4
theorem stab_any (s g : Nat) (A : Option Addr) (n c : Nat) (t : List Nd) (w : World) (hk : Blk w s 109 #[.pointer (some ⟨g, 0, none⟩), .slice A n c]) (ht : TabR w g t (fun _ => True)) :
    Calls Tryz.prog 17 #[.pointer (some ⟨s, 0, none⟩)] w fun e w' => ∃ g, e = .returned (.pointer (some ⟨g, 0, none⟩)) ∧ w.heap.size ≤ g ∧ TabR w' g t (fun b => w.heap.size ≤ b) ∧ Below w.heap.size w w' := by
  have p0 := hk.cell 0
  simp at p0
  have HC := Lib.hid (clone_any g t (fun _ => True) (fun b => w.heap.size ≤ b) w ht (fun _ h => h))
  clear ht hk
  go_enter Tryz.func17, Tryz.ntmps17
  go_wp2_with fail
  refine HC.out.mono ?_
  rintro e w2 ⟨rfl, h1, h2⟩
  have H1 := Lib.hid (And.intro h1 h2)
  clear h1 h2 p0
  go_wp2
  go_ret
  exact ⟨_, rfl, Nat.le_refl _, H1.out.1, H1.out.2⟩
section
variable {w : World} {g : Nat} {t : TypeId} {a0 a1 a2 a3 : Value}
end
theorem GrR.of_own {w : World} {B : Nat} {v : Value} {l : List Int} (h : w.ownsRow B 3 1 v l.length (iCells l)) : ∃ A c, v = .slice A l.length c ∧ GrR w A l.length c l := by
  have h0 := IntsR.of_own h
  obtain ⟨A, c, rfl⟩ := own_slice h
  refine ⟨A, c, rfl, h0, fun _ ad hA => ?_⟩
  rcases h.2 with ⟨q, -⟩ | ⟨g, cap, cur, q, -, hh, -⟩
  · injection q with q
    rw [q] at hA
    cases hA
  · injection q with q
    rw [q] at hA
    injection hA with hA
    rw [← hA]
    exact ⟨cur, hh⟩
theorem cln_src {w : World} {ad : Addr} {c : Nat} {l : List Int} (h : IntsR w (.slice (some ad) l.length c) l) : ∀ (j : Nat) (u : Value), (iCells l)[j]? = some u → w.cell? (ad.add j) = some u := fun j u hj => by
  have hlt : j < l.length := by
    have := (List.getElem?_eq_some_iff.1 hj).1
    simpa [iCells] using this
  obtain ⟨ad', hA, h0⟩ := ints_get h (List.getElem?_eq_getElem hlt)
  injection hA with hA
  subst hA
  rw [iCells_at l j _ (List.getElem?_eq_getElem hlt)] at hj
  injection hj with hj
  rw [← hj]
  exact h0
theorem eqS_n (n k : Nat) (W : World) : (Go.binOp .eql 28 (.slice none n k) (.slice none 0 0)).run Tryz.prog W = .ok (.bool true) W := by
  first | rfl | kernel_rfl
theorem eqS_s (ad : Addr) (n k : Nat) (W : World) : (Go.binOp .eql 28 (.slice (some ad) n k) (.slice none 0 0)).run Tryz.prog W = .ok (.bool false) W := by
  first | rfl | kernel_rfl
set_option maxHeartbeats 4000000 in
theorem clnI_any (A : Option Addr) (k : Nat) (l : List Int) (w : World) (h : IntsR w (.slice A l.length k) l) (hl : l.length ≤ 1048576) :
    Calls Tryz.prog 45 #[.slice A l.length k] w fun e w' => ∃ A' k', e = .returned (.slice A' l.length k') ∧ GrR w' A' l.length k' l ∧ Below w.heap.size w w' := by
  cases A with
  | none =>
    have hl0 : l = [] := by
      cases l with
      | nil => rfl
      | cons y m' =>
        obtain ⟨ad, e, _⟩ := ints_get h (show (y :: m')[0]? = some y from rfl)
        cases e
    subst hl0
    have hq := eqS_n
    clear h hl
    go_enter Tryz.func45, Tryz.ntmps45
    go_wp2
    go_ret
    exact ⟨_, _, rfl, ⟨IntsR.nil _, fun q => absurd rfl q⟩, Below.refl _ _⟩
  | some ad =>
    obtain ⟨i, hi0, hz0, hz1, hz2⟩ := info_parts info_int
    have hown : (w.alloc (.cells #[] 3)).ownsRow w.heap.size 3 1 (.slice (some ⟨w.heap.size, 0, none⟩) 0 0) 0 [] := ⟨rfl, .inr ⟨w.heap.size, 0, #[], rfl, Nat.le_refl _, (MapKept.heap_alloc w _).1, Nat.le_refl _, Nat.zero_le _, rfl, rfl⟩⟩
    have HO := Lib.hid hown
    have HS := Lib.hid (cln_src (h.below (ba w (.cells #[] 3))))
    have HB := Lib.hid (ba w (.cells #[] 3))
    have hq := eqS_s
    clear h hown
    go_enter Tryz.func45, Tryz.ntmps45
    go_wp2_with (at_builtin; refine wpList_append_own _ rfl (.tmp 5) (.tmp 6) _ rfl w.heap.size 3 i _ 1 8 Tryz.underlying28 hi0 hz0 hz1 hz2 rfl (by decide) (.slice (some ⟨w.heap.size, 0, none⟩) 0 0) 0 [] rfl HO.out ad l.length k (iCells l) rfl (by simp [iCells]) HS.out (iCells_one l) (by unfold maxLen; omega) (by omega) HB.out.size ?_; intro v5 w5 ho5 hg5 _; rw [Nat.zero_add, List.nil_append] at ho5; obtain ⟨A5, k5, hv5, hg6⟩ := GrR.of_own ho5; have HB5 := Lib.hid (HB.out.grown hg5 HB.out.size (fun q hq => (HO.out.lt q hq).1)); have HG5 := Lib.hid hg6; subst hv5; clear ho5 hg5 hg6)
    go_ret
    exact ⟨_, _, rfl, HG5.out, HB5.out⟩
end Go.Proofs.YtnkjaocmfhjnoaaGreat
namespace Go.Proofs.YtnkjaocmfhjnoaaGreat
open Go Go.RowKit
set_option maxRecDepth 100000

attribute [local go_sem] cell_off4 cell_blk4
def prL (um : Int) (q : Wh × Option Addr × Nat) : List Value := [.int .i64 q.1.u, .int .i64 q.1.g, .slice q.2.1 q.1.gs.length q.2.2, .int .i64 (um % 512), .int .i64 0, .int .i64 0, .bool false, .bool false, .int .i64 0, .int .i64 0, .bool false, .bool false, .int .i64 0, .int .i64 0, .bool false, .bool false]
def prs (um : Int) (ps : List (Wh × Option Addr × Nat)) : List Value := ps.flatMap (prL um)
theorem prs_at (um : Int) : ∀ {ps : List (Wh × Option Addr × Nat)} {k : Nat} {q : Wh × Option Addr × Nat}, ps[k]? = some q → ∀ j, j < 16 → (prs um ps)[k * 16 + j]? = (prL um q)[j]?
  | [], k, q, h, j, _ => by simp at h
  | x :: l, 0, q, h, j, hj => by
    have e : x = q := by simpa using h
    subst e
    show (prL um x ++ prs um l)[0 * 16 + j]? = _
    rw [Nat.zero_mul, Nat.zero_add, List.getElem?_append_left (by show j < 16; exact hj)]
  | x :: l, k + 1, q, h, j, hj => by
    have ih := prs_at um (ps := l) (k := k) (q := q) (by simpa using h) j hj
    show (prL um x ++ prs um l)[(k + 1) * 16 + j]? = _
    rw [List.getElem?_append_right (by show 16 ≤ _; omega), ← ih]
    congr 1
    show (k + 1) * 16 + j - 16 = _
    omega
theorem prs_snoc (um : Int) (ps : List (Wh × Option Addr × Nat)) (q : Wh × Option Addr × Nat) : prs um ps ++ prL um q = prs um (ps ++ [q]) := by unfold prs; rw [List.flatMap_append]; simp
theorem prL_one (um : Int) (q : Wh × Option Addr × Nat) : ∀ u ∈ prL um q, u.oneCell' = true := by
  intro u hu
  simp only [prL, List.mem_cons, List.not_mem_nil, or_false] at hu
  rcases hu with rfl | rfl | rfl | rfl | rfl | rfl | rfl | rfl | rfl | rfl | rfl | rfl | rfl | rfl | rfl | rfl <;> rfl
theorem info_prc : (Tryz.prog.info? 115).map (fun i => (i.zero, i.size, i.bytes)) = some (some (.agg #[.int .i64 0, .int .i64 0, .slice none 0 0, .int .i64 0, .int .i64 0, .int .i64 0, .bool false, .bool false, .int .i64 0, .int .i64 0, .bool false, .bool false, .int .i64 0, .int .i64 0, .bool false, .bool false]), 16, 120) := by kernel_rfl
theorem grown_nil {w w' : World} (h : w.grownBy w' none) : Below w.heap.size w w' := ⟨h.os, h.tape, h.output, h.size, fun i hi => h.block i hi (fun e => by cases e)⟩
structure Nw (w0 w : World) (s g : Nat) (t : List Nd) (um : Int) (cs : List Wh) (k : Nat) (A : Option Addr) (c : Nat) (ps : List (Wh × Option Addr × Nat)) : Prop where
  fst : ps.map (·.1) = cs.take k
  grs : ∀ q ∈ ps, GrR w q.2.1 q.1.gs.length q.2.2 q.1.gs
  blk : Blk w s 109 #[.pointer (some ⟨g, 0, none⟩), .slice A k c]
  own : w.ownsRow w0.heap.size 115 16 (.slice A k c) k (prs um ps)
  tab : TabR w g t (fun _ => True)
  blo : Below w0.heap.size w0 w
  ls : w0.heap.size ≤ s
  lg : w0.heap.size ≤ g
section
variable {w0 w w' : World} {s g : Nat} {t : List Nd} {um : Int} {cs : List Wh} {k : Nat} {A : Option Addr} {c : Nat} {ps : List (Wh × Option Addr × Nat)}
theorem Nw.below (h : Nw w0 w s g t um cs k A c ps) (hb : Below w.heap.size w w') : Nw w0 w' s g t um cs k A c ps :=
  ⟨h.fst, fun q hq => (h.grs q hq).below hb, h.blk.below hb, own_below h.own hb, h.tab.below hb, bt hb h.blo, h.ls, h.lg⟩
theorem Nw.grow (h : Nw w0 w s g t um cs k A c ps) (hg : w.grownBy w' (Value.slice A k c).ownBlock) : (∀ (G : Option Addr) (n m : Nat) (l : List Int), GrR w G n m l → GrR w' G n m l) ∧ Blk w' s 109 #[.pointer (some ⟨g, 0, none⟩), .slice A k c] ∧ TabR w' g t (fun _ => True) ∧ Below w0.heap.size w0 w' := by
  have hb := h.blo.grown hg h.blo.size (fun q hq => (h.own.lt q hq).1)
  cases A with
  | none =>
    have h1 := grown_nil hg
    exact ⟨fun _ _ _ _ hx => hx.below h1, h.blk.below h1, h.tab.below h1, hb⟩
  | some ad =>
    obtain ⟨cur, hcur⟩ : ∃ cur, Blk w ad.block 115 cur := by
      rcases h.own.2 with ⟨q, -⟩ | ⟨g', cap, cur, q, -, hh, -⟩
      · injection q with q
        cases q
      · injection q with q
        injection q with q
        rw [q]
        exact ⟨cur, hh⟩
    obtain ⟨ct, hct, -⟩ := h.tab.blk
    have hg' : w.grownBy w' (some ad.block) := hg
    exact ⟨fun _ _ _ _ hx => hx.kind hcur (by decide) hg', h.blk.kept hg' (some_ne (blk_ne h.blk hcur (by decide))), h.tab.kind hg' (blk_ne hct hcur (by decide)) hcur (by decide) (by decide), hb⟩
theorem Nw.app (h : Nw w0 w s g t um cs k A c ps) {x : Wh} {G : Option Addr} {m : Nat} {v' : Value} (hx : cs[k]? = some x) (hG : GrR w G x.gs.length m x.gs) (ho : w'.ownsRow w0.heap.size 115 16 v' (k + 1) (prs um ps ++ prL um (x, G, m))) (hg : w.grownBy w' (Value.slice A k c).ownBlock) :
    ∃ A' c', v' = .slice A' (k + 1) c' ∧ Nw w0 (w'.setCell ⟨s, 1, none⟩ v') s g t um cs (k + 1) A' c' (ps ++ [(x, G, m)]) := by
  obtain ⟨h1, h2, h3, h4⟩ := h.grow hg
  obtain ⟨A', c', rfl⟩ := own_slice ho
  have hs := grown_setCell w' ⟨s, 1, none⟩ (.slice A' (k + 1) c')
  obtain ⟨ct, hct, -⟩ := h3.blk
  refine ⟨A', c', rfl, ?_, fun q hq => ?_, by simpa using h2.set_ 1 (.slice A' (k + 1) c'), ?_, h3.kind hs (blk_ne hct h2 (by decide)) h2 (by decide) (by decide), below_grown h4 hs h.ls, h.ls, h.lg⟩
  · rw [List.map_append, h.fst, List.take_add_one, hx]
    rfl
  · rcases List.mem_append.1 hq with z | z
    · exact (h1 _ _ _ _ (h.grs q z)).kind h2 (by decide) hs
    · rw [List.mem_singleton.1 z]
      exact (h1 _ _ _ _ hG).kind h2 (by decide) hs
  · rw [prs_snoc] at ho
    exact ho.kept hs (.inr (own_blk_ne ho h2 (by decide)))
theorem Nw.sys (h : Nw w0 w s g t um cs cs.length A c ps) (hn : cs.length ≤ 1048576) : ∃ l, SysR w (.pointer (some ⟨s, 0, none⟩)) (newS t um cs) l ∧ (∀ b ∈ l, w0.heap.size ≤ b) ∧ Below w0.heap.size w0 w := by
  have hf := h.fst
  rw [List.take_length] at hf
  by_cases q : cs = []
  · subst q
    exact ⟨[g], ⟨s, g, rfl, .inl ⟨rfl, rfl, h.tab, A, c, h.blk⟩⟩, fun b hb => by rw [List.mem_singleton.1 hb]; exact h.lg, h.blo⟩
  · have hpos : 0 < cs.length := List.length_pos_iff.2 q
    obtain ⟨b, cap, cur, hv, hB, hblk, hsz, hrow⟩ := own_some h.own hpos
    injection hv with hA _ hcap
    subst hA
    subst hcap
    refine ⟨[g, b], ⟨s, g, rfl, .inr ⟨b, c, ⟨?_, h.tab, ⟨cur, hblk, by rw [newS_len]; exact hsz⟩, fun k p hk => ?_, by rw [newS_len]; exact hn⟩, rfl⟩⟩, fun x hx => ?_, h.blo⟩
    · rw [newS_len]
      exact h.blk
    · have hk2 : (cs.map (whoS um))[k]? = some p := hk
      rw [List.getElem?_map] at hk2
      obtain ⟨x, hx, rfl⟩ := Option.map_eq_some_iff.1 hk2
      have hps : (ps.map (·.1))[k]? = some x := by rw [hf]; exact hx
      rw [List.getElem?_map] at hps
      obtain ⟨y, hy, rfl⟩ := Option.map_eq_some_iff.1 hps
      have key : ∀ (j : Nat) (u : Value), j < 16 → (prL um y)[j]? = some u → w.cell? ⟨b, k * 16 + j, none⟩ = some u := fun j u hj hu => hrow _ _ ((prs_at um hy j hj).trans hu)
      refine ⟨y.2.1, y.2.2, key 0 _ (by decide) rfl, key 1 _ (by decide) rfl, key 2 _ (by decide) rfl, key 3 _ (by decide) rfl, rfl, fun i f hf => ?_, h.grs y (List.mem_of_getElem? hy)⟩
      match i, hf with
      | 0, hf =>
        have e : Fdm.zero = f := by simpa [whoS] using hf
        subst e
        exact ⟨⟨key 4 _ (by decide) rfl, key 5 _ (by decide) rfl, key 6 _ (by decide) rfl, key 7 _ (by decide) rfl⟩, fun _ => rfl⟩
      | 1, hf =>
        have e : Fdm.zero = f := by simpa [whoS] using hf
        subst e
        exact ⟨⟨key 8 _ (by decide) rfl, key 9 _ (by decide) rfl, key 10 _ (by decide) rfl, key 11 _ (by decide) rfl⟩, fun _ => rfl⟩
      | 2, hf =>
        have e : Fdm.zero = f := by simpa [whoS] using hf
        subst e
        exact ⟨⟨key 12 _ (by decide) rfl, key 13 _ (by decide) rfl, key 14 _ (by decide) rfl, key 15 _ (by decide) rfl⟩, fun _ => rfl⟩
      | i + 3, hf => simp [whoS] at hf
    · rcases List.mem_cons.1 hx with rfl | hx
      · exact h.lg
      · rw [List.mem_singleton.1 hx]
        exact hB
end
def NewQ (w : World) (t : List Nd) (um : Int) (cs : List Wh) (e : Ending) (w' : World) : Prop := ∃ v l, e = .returned v ∧ SysR w' v (newS t um cs) l ∧ (∀ b ∈ l, w.heap.size ≤ b) ∧ Below w.heap.size w w'
set_option maxHeartbeats 8000000 in
theorem snew_any (g : Nat) (t : List Nd) (P : Nat → Prop) (um : Int) (vc : Value) (cs : List Wh) (w : World) (ht : TabR w g t P) (hc : CdsR w vc cs) (hgs : ∀ c ∈ cs, c.gs.length ≤ 1048576) (hn : cs.length ≤ 1048576) :
    Calls Tryz.prog 16 #[.pointer (some ⟨g, 0, none⟩), .int .i64 um, vc] w (NewQ w t um cs) := by
  obtain ⟨A0, c0, rfl⟩ := cds_form hc
  have HT := Lib.hid ht
  have HC := Lib.hid hc
  have HG := Lib.hid hgs
  have HNW := Lib.hid (new_any 1 w)
  have hA := and511 um
  clear ht hc hgs
  go_enter Tryz.func16, Tryz.ntmps16
  go_wp2_with fail
  refine HNW.out.mono ?_
  rintro e w1 ⟨rfl, -, hb1, hz1⟩
  have hb2 := al hb1 (.cells #[.pointer (some ⟨w.heap.size, 0, none⟩), .slice none 0 0] 109)
  have hk2 := Blk.new w1 109 #[.pointer (some ⟨w.heap.size, 0, none⟩), .slice none 0 0]
  obtain ⟨W2, hW2⟩ : ∃ W, w1.alloc (.cells #[.pointer (some ⟨w.heap.size, 0, none⟩), .slice none 0 0] 109) = W := ⟨_, rfl⟩
  obtain ⟨s, hs⟩ : ∃ s, w1.heap.size = s := ⟨_, rfl⟩
  rw [hW2] at hb2 hk2
  rw [hs] at hk2
  have hls : w.heap.size ≤ s := by rw [← hs]; exact hb1.size
  have HB2 := Lib.hid hb2
  have HK2 := Lib.hid hk2
  have HLS := Lib.hid hls
  have HCL := Lib.hid (clone_any g t P (fun _ => True) W2 (HT.out.below hb2) (fun _ _ => trivial))
  clear hb1 hz1 hb2 hk2 hls HNW
  go_wp2_with fail
  clear hW2 hs
  refine HCL.out.mono ?_
  rintro e w3 ⟨rfl, ht3, hb3⟩
  obtain ⟨g3, hg3⟩ : ∃ g3, W2.heap.size = g3 := ⟨_, rfl⟩
  rw [hg3] at ht3
  have hk3 := HK2.out.below hb3
  have y0 := hk3.cell 0
  simp at y0
  have y1 := hk3.frozen 0
  obtain ⟨ct, hct, -⟩ := ht3.blk
  have hgs4 := grown_setCell w3 ⟨s, 0, none⟩ (.pointer (some ⟨g3, 0, none⟩))
  have hNW : Nw w (w3.setCell ⟨s, 0, none⟩ (.pointer (some ⟨g3, 0, none⟩))) s g3 t um cs 0 none 0 [] := by
    refine ⟨by rw [List.take_zero]; rfl, fun q hq => (by cases hq), by simpa using hk3.set_ 0 (.pointer (some ⟨g3, 0, none⟩)), World.ownsRow_nil _ _ _ _, ht3.kind hgs4 (blk_ne hct hk3 (by decide)) hk3 (by decide) (by decide), below_grown (bt hb3 HB2.out) hgs4 HLS.out, HLS.out, by rw [← hg3]; exact HB2.out.size⟩
  have HN0 := Lib.hid hNW
  clear ht3 hb3 hk3 hct hgs4 hNW HK2 HCL HT
  go_upto_block 0 with fail
  clear y0 y1
  obtain ⟨W4, hW4⟩ : ∃ W, w3.setCell ⟨s, 0, none⟩ (.pointer (some ⟨g3, 0, none⟩)) = W := ⟨_, rfl⟩
  rw [hW4] at HN0 ⊢
  clear hW4 hg3 HB2 HLS
  go_wp2
  go_loopg [22] cs.length (fun gh s22 wr => ∃ (k : Nat) (A : Option Addr) (c : Nat) (ps : List (Wh × Option Addr × Nat)), s22 = .int .i64 k ∧ k ≤ cs.length ∧ gh = cs.length - k ∧ Nw w wr s g3 t um cs k A c ps)
  case atStart => exact ⟨0, none, 0, [], rfl, Nat.zero_le _, rfl, HN0.out⟩
  case round =>
    obtain ⟨k, A, c, ps, rfl, hk, rfl, hN⟩ := hrel
    have HN := Lib.hid hN
    by_cases hlt : k < cs.length
    · have hlt' : (k : Int) < (cs.length : Int) := by omega
      obtain ⟨x, hx⟩ : ∃ x, cs[k]? = some x := ⟨_, List.getElem?_eq_getElem hlt⟩
      obtain ⟨ad, B, n, m, hA0, d0, d1, d2, hi⟩ := cds_get (HC.out.below hN.blo) hx
      subst hA0
      obtain ⟨B', m2, hv⟩ := ints_form hi rfl
      injection hv with e1 e2 e3
      subst e1
      subst e2
      subst e3
      have HX := Lib.hid hx
      have hxl := HG.out x (List.mem_of_getElem? hx)
      have HCN := Lib.hid (fun (V : World) (hv : Below wr.heap.size wr V) => clnI_any B m x.gs V (hi.below hv) hxl)
      have HB1 := Lib.hid (ba wr (.cells #[.int .i64 x.u, .int .i64 x.g, .slice B x.gs.length m] 30))
      have HK1 := Lib.hid (Blk.new wr 30 #[.int .i64 x.u, .int .i64 x.g, .slice B x.gs.length m])
      clear hx hxl hi hN
      go_wp2_with fail
      refine (HCN.out _ HB1.out).mono ?_
      rintro e w5 ⟨G, m5, rfl, hg5, hb5⟩
      obtain ⟨z, hz⟩ : ∃ z, wr.heap.size = z := ⟨_, rfl⟩
      have hzl : wr.heap.size ≤ z := by omega
      have hk5 := HK1.out.below hb5
      have hb6 := bt hb5 HB1.out
      rw [hz] at hk5 ⊢
      have hgs := grown_setCell w5 ⟨z, 2, none⟩ (.slice G x.gs.length m5)
      have HK6 := Lib.hid (show Blk (w5.setCell ⟨z, 2, none⟩ (.slice G x.gs.length m5)) z 30 #[.int .i64 x.u, .int .i64 x.g, .slice G x.gs.length m5] from by simpa using hk5.set_ 2 (.slice G x.gs.length m5))
      have HG6 := Lib.hid (hg5.kind hk5 (by decide) hgs)
      have HN6 := Lib.hid (HN.out.below (below_grown hb6 hgs hzl))
      have y2 := hk5.cell 2
      simp at y2
      have y3 := hk5.frozen 2
      clear HCN HB1 HK1 hg5 hb5 hk5 hb6 hgs d0 d1 d2
      go_upto_region 8 with fail
      clear y2 y3
      obtain ⟨W6, hW6⟩ : ∃ W, w5.setCell ⟨z, 2, none⟩ (.slice G x.gs.length m5) = W := ⟨_, rfl⟩
      rw [hW6] at HK6 HG6 HN6 ⊢
      clear hW6 hz hzl
      have hnv := HN6.out.below (Below.refl _ _).drew
      have HNV := Lib.hid (hnv.below (ba W6.drew (.cells (List.toArray [.int .i64 x.u, .int .i64 x.g, .slice G x.gs.length m5, .int .i64 (um % 512), .int .i64 0, .int .i64 0, .bool false, .bool false, .int .i64 0, .int .i64 0, .bool false, .bool false, .int .i64 0, .int .i64 0, .bool false, .bool false]) 115)))
      have HGV := Lib.hid ((HG6.out.below (Below.refl _ _).drew).below (ba W6.drew (.cells (List.toArray [.int .i64 x.u, .int .i64 x.g, .slice G x.gs.length m5, .int .i64 (um % 512), .int .i64 0, .int .i64 0, .bool false, .bool false, .int .i64 0, .int .i64 0, .bool false, .bool false, .int .i64 0, .int .i64 0, .bool false, .bool false]) 115)))
      obtain ⟨c0', c1', c2'⟩ := HK6.out.c3
      obtain ⟨c3', c4', c5'⟩ := (HK6.out.below (Below.refl _ _).drew).c3
      have s1 : W6.drew.cell? ⟨s, 1, none⟩ = some (.slice A k c) := hnv.blk.cell 1
      have s2 : (W6.alloc (.cells (List.toArray [.int .i64 x.u, .int .i64 x.g, .slice G x.gs.length m5, .int .i64 (um % 512), .int .i64 0, .int .i64 0, .bool false, .bool false, .int .i64 0, .int .i64 0, .bool false, .bool false, .int .i64 0, .int .i64 0, .bool false, .bool false]) 115)).cell? ⟨s, 1, none⟩ = some (.slice A k c) := (HN6.out.below (ba W6 (.cells (List.toArray [.int .i64 x.u, .int .i64 x.g, .slice G x.gs.length m5, .int .i64 (um % 512), .int .i64 0, .int .i64 0, .bool false, .bool false, .int .i64 0, .int .i64 0, .bool false, .bool false, .int .i64 0, .int .i64 0, .bool false, .bool false]) 115))).blk.cell 1
      have s1' : W6.cell? ⟨s, 1, none⟩ = some (.slice A k c) := s1
      have s0 : s < W6.drew.heap.size := hnv.blk.lt
      have HNEW := Lib.hid (fun j u (hj : ([.int .i64 x.u, .int .i64 x.g, .slice G x.gs.length m5, .int .i64 (um % 512), .int .i64 0, .int .i64 0, .bool false, .bool false, .int .i64 0, .int .i64 0, .bool false, .bool false, .int .i64 0, .int .i64 0, .bool false, .bool false] : List Value)[j]? = some u) => World.news_of_block (heap_alloc_new W6.drew (.cells (List.toArray [.int .i64 x.u, .int .i64 x.g, .slice G x.gs.length m5, .int .i64 (um % 512), .int .i64 0, .int .i64 0, .bool false, .bool false, .int .i64 0, .int .i64 0, .bool false, .bool false, .int .i64 0, .int .i64 0, .bool false, .bool false]) 115)) j u (by simpa using hj))
      have HBS := Lib.hid HNV.out.blo.size
      have HOWN := Lib.hid HNV.out.own
      have hkn : k < 1048576 := by omega
      obtain ⟨i0, hi0, hz0, hz1, hz2⟩ := info_parts info_prc
      clear hnv
      go_region_law (first
        | (refine step_append_lies _ rfl (.tmp 34) (.tmp 39) 107 rfl w.heap.size 115 i0 _ 16 120 Tryz.underlying107 hi0 hz0 hz1 hz2 rfl (by decide) (.slice A k c) k (prs um ps) (by simp [Act.eval]) HOWN.out ⟨W6.drew.heap.size, 0, none⟩ 1 1 [.int .i64 x.u, .int .i64 x.g, .slice G x.gs.length m5, .int .i64 (um % 512), .int .i64 0, .int .i64 0, .bool false, .bool false, .int .i64 0, .int .i64 0, .bool false, .bool false, .int .i64 0, .int .i64 0, .bool false, .bool false] (by simp [Act.eval]) rfl HNEW.out (prL_one um (x, G, m5)) (by decide) (by unfold maxLen; omega) (by omega) HBS.out _ rfl ?_; intro g1 cap1 w8 ho1 hg1 hat1 hlt1; obtain ⟨-, hk8, -, -⟩ := HNV.out.grow hg1; have s8 : w8.cell? ⟨s, 1, none⟩ = some (.slice A k c) := hk8.cell 1; have s9 := hk8.frozen 1; obtain ⟨A9, c9, hv9, hn9⟩ := HNV.out.app HX.out HGV.out ho1 hg1; have HN9 := Lib.hid hn9; clear ho1 hg1 hat1 hlt1 hk8 hn9))
      all_goals (
        go_wp2
        go_roundg (cs.length - (k + 1))
        case measure => omega
        case rel => exact ⟨k + 1, _, _, _, by go_num, by omega, rfl, HN9.out⟩)
    · have hlt' : ¬ (k : Int) < (cs.length : Int) := by omega
      have e : k = cs.length := by omega
      have HE := Lib.hid (show Nw w wr s g3 t um cs cs.length A c ps from by rw [← e]; exact hN)
      clear hN HN e
      go_wp2
      go_ret
      obtain ⟨l, h1, h2, h3⟩ := HE.out.sys hn
      exact ⟨.pointer (some ⟨s, 0, none⟩), l, rfl, h1, h2, h3⟩
end Go.Proofs.YtnkjaocmfhjnoaaGreat
namespace Go.Proofs.YtnkjaocmfhjnoaaGreat
open Go Go.RowKit
set_option maxRecDepth 100000

structure Chg where
  kind : Int
  node : Int
  dir : Int
  name : Nm
  «to» : Int
  other : Nm
  over : Int
  deriving DecidableEq
def Chg.zero : Chg := ⟨0, 0, 0, [], 0, [], 0⟩
def Chg.k (x : Int) : Chg := ⟨x, 0, 0, [], 0, [], 0⟩
def Chg.n (x i : Int) : Chg := ⟨x, i, 0, [], 0, [], 0⟩
structure Ech where
  dir : Int
  name : Nm
  node : Int
  deriving DecidableEq
def Ech.zero : Ech := ⟨0, [], 0⟩
def idx24 : List Int := (List.range 24).map (fun (k : Nat) => (k : Int) + 1)
theorem mem_idx24 {i : Int} : i ∈ idx24 ↔ 1 ≤ i ∧ i ≤ 24 := by
  unfold idx24
  rw [List.mem_map]
  constructor
  · rintro ⟨k, hk, rfl⟩
    rw [List.mem_range] at hk
    omega
  · rintro ⟨h1, h2⟩
    exact ⟨(i - 1).toNat, by rw [List.mem_range]; omega, by omega⟩
theorem idx24_sorted : idx24.Pairwise (· < ·) := by unfold idx24; decide
def bareN (n : Nd) : Nd := ⟨n.kind, n.mode, n.uid, n.gid, n.data, [], n.target⟩
noncomputable def isNew (a b : Nd) : Bool := toB (a ≠ b) && (a.kind == 0)
noncomputable def isGone (a b : Nd) : Bool := toB (a ≠ b) && (a.kind != 0 && b.kind == 0)
noncomputable def isEnt (a b : Nd) : Bool := toB (a ≠ b) && (a.kind == 2 && (b.kind != 0 && toB (bareN a = bareN b)))
noncomputable def isEls (a b : Nd) : Bool := toB (a ≠ b) && (a.kind != 0 && (b.kind != 0 && !(a.kind == 2 && toB (bareN a = bareN b))))
noncomputable def lessE (d : Int) (a b : Nd) : List Ech := (a.ents.filter (fun e => !toB (e ∈ b.ents))).map (fun e => ⟨d, e.1, e.2⟩)
structure Dif where
  new : List Int
  gone : List Int
  els : List Int
  ents : Nat
  lost : List Ech
  won : List Ech
noncomputable def difL (t u : List Nd) (l : List Int) : Dif :=
  ⟨l.filter (fun i => isNew (tget t i) (tget u i)), l.filter (fun i => isGone (tget t i) (tget u i)), l.filter (fun i => isEls (tget t i) (tget u i)), (l.filter (fun i => isEnt (tget t i) (tget u i))).length,
   (l.filter (fun i => isEnt (tget t i) (tget u i))).flatMap (fun i => lessE i (tget t i) (tget u i)), (l.filter (fun i => isEnt (tget t i) (tget u i))).flatMap (fun i => lessE i (tget u i) (tget t i))⟩
noncomputable def difT (t u : List Nd) : Dif := difL t u idx24
noncomputable def aloneC (i : Int) (m n : Nd) : Chg :=
  if toB ((⟨m.kind, n.mode, n.uid, n.gid, m.data, m.ents, m.target⟩ : Nd) = n) = true then Chg.n 1 i
  else if m.kind = 1 ∧ toB ((⟨m.kind, n.mode, m.uid, m.gid, n.data, m.ents, m.target⟩ : Nd) = n) = true then Chg.n 2 i
  else Chg.k 7
noncomputable def onlyG (gone : List Int) (i : Int) : Bool := gone.isEmpty || (toB (gone = [i]) && decide (0 < i))
noncomputable def moveC (g : List Int) (w a b : Ech) : Chg :=
  if a.node ≠ w.node ∨ (0 < b.node ∧ (b.dir ≠ w.dir ∨ b.name ≠ w.name ∨ b.node = w.node)) ∨ onlyG g b.node = false then Chg.k 7
  else ⟨5, w.node, a.dir, a.name, w.dir, w.name, b.node⟩
noncomputable def entsC (d : Dif) : Chg := match d.lost, d.won with
  | [a], [] => if onlyG d.gone a.node = true then ⟨4, a.node, a.dir, a.name, 0, [], 0⟩ else Chg.k 7
  | [a], [w] => moveC d.gone w a Ech.zero
  | [a, b], [w] => if (moveC d.gone w a b).kind = 5 then moveC d.gone w a b else moveC d.gone w b a
  | _, _ => Chg.k 7
noncomputable def ofD (t u : List Nd) (d : Dif) : Chg :=
  if d.els.length = 1 ∧ d.new.length + d.gone.length + d.ents = 0 then aloneC (d.els.headD 0) (tget t (d.els.headD 0)) (tget u (d.els.headD 0))
  else if d.els ≠ [] then Chg.k 7
  else if d.new.length + d.gone.length + d.ents = 0 then Chg.zero
  else if d.new ≠ [] then
    (if d.new.length = 1 ∧ d.gone = [] ∧ d.lost = [] ∧ d.won.length = 1 ∧ (d.won.headD Ech.zero).node = d.new.headD 0 then ⟨3, d.new.headD 0, (d.won.headD Ech.zero).dir, (d.won.headD Ech.zero).name, 0, [], 0⟩ else Chg.k 7)
  else if d.gone.length = 1 ∧ d.ents = 0 then Chg.n 6 (d.gone.headD 0)
  else entsC d
noncomputable def ofC (t u : List Nd) : Chg := ofD t u (difT t u)

/-! Where few numbers are touched. -/
theorem filter_none {l : List Int} {p : Int → Bool} (h : ∀ i ∈ l, p i = false) : l.filter p = [] := List.filter_eq_nil_iff.2 (fun i hi => by rw [h i hi]; decide)
theorem filter_one {l : List Int} (hs : l.Pairwise (· < ·)) {p : Int → Bool} {i : Int} (hi : i ∈ l) (hp : p i = true) (h : ∀ j ∈ l, j ≠ i → p j = false) : l.filter p = [i] := by
  induction l with
  | nil => cases hi
  | cons x l ih =>
    obtain ⟨hx, hl⟩ := List.pairwise_cons.1 hs
    by_cases e : x = i
    · subst e
      rw [List.filter_cons_of_pos hp, filter_none (fun j hj => h j (List.mem_cons_of_mem _ hj) (fun q => by have := hx j hj; omega))]
    · rw [List.filter_cons_of_neg (by rw [h x (List.mem_cons_self ..) e]; decide)]
      exact ih hl ((List.mem_cons.1 hi).resolve_left (fun q => e q.symm)) (fun j hj => h j (List.mem_cons_of_mem _ hj))
theorem filter_two {l : List Int} (hs : l.Pairwise (· < ·)) {p : Int → Bool} {i k : Int} (hik : i < k) (hi : i ∈ l) (hk : k ∈ l) (hp : p i = true) (hq : p k = true) (h : ∀ j ∈ l, j ≠ i → j ≠ k → p j = false) : l.filter p = [i, k] := by
  induction l with
  | nil => cases hi
  | cons x l ih =>
    obtain ⟨hx, hl⟩ := List.pairwise_cons.1 hs
    by_cases e : x = i
    · subst e
      have hk2 : k ∈ l := (List.mem_cons.1 hk).resolve_left (fun q => by omega)
      rw [List.filter_cons_of_pos hp, filter_one hl hk2 hq (fun j hj hjk => h j (List.mem_cons_of_mem _ hj) (fun q => by have := hx j hj; omega) hjk)]
    · have hi2 : i ∈ l := (List.mem_cons.1 hi).resolve_left (fun q => e q.symm)
      have hxk : x ≠ k := fun q => by have := hx i hi2; omega
      rw [List.filter_cons_of_neg (by rw [h x (List.mem_cons_self ..) e hxk]; decide)]
      exact ih hl hi2 ((List.mem_cons.1 hk).resolve_left (fun q => hxk q.symm)) (fun j hj => h j (List.mem_cons_of_mem _ hj))
theorem cls_same {a b : Nd} (h : a = b) : isNew a b = false ∧ isGone a b = false ∧ isEnt a b = false ∧ isEls a b = false := by
  have e : toB (a ≠ b) = false := toB_false (fun q => q h)
  unfold isNew isGone isEnt isEls
  rw [e]
  exact ⟨rfl, rfl, rfl, rfl⟩
theorem ofC_same {t u : List Nd} (h : ∀ i : Int, tget t i = tget u i) : ofC t u = Chg.zero := by
  have e : difT t u = ⟨[], [], [], 0, [], []⟩ := by
    unfold difT difL
    rw [filter_none (fun i _ => (cls_same (h i)).1), filter_none (fun i _ => (cls_same (h i)).2.1), filter_none (fun i _ => (cls_same (h i)).2.2.2), filter_none (fun i _ => (cls_same (h i)).2.2.1)]
    rfl
  unfold ofC
  rw [e]
  rfl
theorem ofC_refl (t : List Nd) : ofC t t = Chg.zero := ofC_same (fun _ => rfl)
end Go.Proofs.YtnkjaocmfhjnoaaGreat
namespace Go.Proofs.YtnkjaocmfhjnoaaGreat
open Go Go.RowKit
set_option maxRecDepth 100000

theorem filter_ins {x : En} {p : En → Bool} (hx : p x = true) : ∀ {l : List En}, (∀ e ∈ l, p e = false) → (ins x l).filter p = [x]
  | [], _ => by
    show [x].filter p = [x]
    rw [List.filter_cons_of_pos hx]
    rfl
  | y :: l, h => by
    have hy := h y (List.mem_cons_self ..)
    have hl : ∀ e ∈ l, p e = false := fun e he => h e (List.mem_cons_of_mem _ he)
    have hn : l.filter p = [] := List.filter_eq_nil_iff.2 (fun e he => by rw [hl e he]; decide)
    unfold ins
    split
    · rw [List.filter_cons_of_pos hx, List.filter_cons_of_neg (by rw [hy]; decide), hn]
    · rw [List.filter_cons_of_neg (by rw [hy]; decide)]
      exact filter_ins hx hl
theorem en_name {l : List En} {e : En} (h : e ∈ l) : e.1 ∈ nmE l := List.mem_map.2 ⟨e, h, rfl⟩
theorem less_ins (d : Int) {a b : Nd} {n : Nm} {i : Int} (hb : b.ents = ins (n, i) a.ents) (hn : ¬ n ∈ nmE a.ents) : lessE d b a = [⟨d, n, i⟩] ∧ lessE d a b = [] := by
  unfold lessE
  rw [hb]
  constructor
  · rw [filter_ins (by rw [toB_false (fun q => hn (en_name q))]; rfl) (fun e he => by rw [toB_true he]; rfl)]
    rfl
  · rw [List.filter_eq_nil_iff.2 (fun e he => by rw [toB_true ((mem_ins _ _ _).2 (.inr he))]; decide)]
    rfl
theorem cls_ent {a b : Nd} (hk : a.kind = 2) (hb : bareN a = bareN b) (hne : a ≠ b) : isNew a b = false ∧ isGone a b = false ∧ isEnt a b = true ∧ isEls a b = false := by
  have hk2 : b.kind = 2 := by
    have : (bareN a).kind = (bareN b).kind := by rw [hb]
    exact this.symm.trans hk
  unfold isNew isGone isEnt isEls
  rw [toB_true hne, toB_true hb, hk, hk2]
  exact ⟨rfl, rfl, rfl, rfl⟩
theorem cls_new {a b : Nd} (hk : a.kind = 0) (hb : b.kind ≠ 0) : isNew a b = true ∧ isGone a b = false ∧ isEnt a b = false ∧ isEls a b = false := by
  have hne : a ≠ b := fun q => hb (by rw [← q]; exact hk)
  unfold isNew isGone isEnt isEls
  rw [toB_true hne, hk]
  exact ⟨rfl, rfl, rfl, rfl⟩
theorem cls_gone {a b : Nd} (hk : a.kind ≠ 0) (hb : b.kind = 0) : isNew a b = false ∧ isGone a b = true ∧ isEnt a b = false ∧ isEls a b = false := by
  have hne : a ≠ b := fun q => hk (by rw [q]; exact hb)
  have e1 : (a.kind == 0) = false := by simpa using hk
  have e2 : (a.kind != 0) = true := by simpa using hk
  unfold isNew isGone isEnt isEls
  rw [toB_true hne, e1, e2, hb]
  refine ⟨rfl, rfl, ?_, rfl⟩
  cases (a.kind == 2) <;> rfl
theorem cls_els {a b : Nd} (hne : a ≠ b) (hk : a.kind ≠ 0) (hb : b.kind ≠ 0) (h : ¬ (a.kind = 2 ∧ bareN a = bareN b)) : isNew a b = false ∧ isGone a b = false ∧ isEnt a b = false ∧ isEls a b = true := by
  have e1 : (a.kind == 0) = false := by simpa using hk
  have e2 : (a.kind != 0) = true := by simpa using hk
  have e3 : (b.kind == 0) = false := by simpa using hb
  have e4 : (b.kind != 0) = true := by simpa using hb
  have e5 : (a.kind == 2 && toB (bareN a = bareN b)) = false := by
    rw [Bool.and_eq_false_iff]
    by_cases q : a.kind = 2
    · exact .inr (toB_false (fun z => h ⟨q, z⟩))
    · exact .inl (by simpa using q)
  unfold isNew isGone isEnt isEls
  rw [toB_true hne, e1, e2, e3, e4, e5]
  refine ⟨rfl, rfl, ?_, rfl⟩
  cases q : (a.kind == 2)
  · rfl
  · rw [q] at e5
    simpa using e5
theorem of_make {t u : List Nd} {d i : Int} {n : Nm} (hi : 1 ≤ i ∧ i ≤ 24) (hd : 1 ≤ d ∧ d ≤ 24) (h : ∀ j, j ≠ i → j ≠ d → tget t j = tget u j) (ht : (tget t i).kind = 0) (hu : (tget u i).kind ≠ 0) (hk : (tget t d).kind = 2) (he : tget u d = { tget t d with ents := ins (n, i) (tget t d).ents }) (hn : ¬ n ∈ nmE (tget t d).ents) : ofC t u = ⟨3, i, d, n, 0, [], 0⟩ := by
  have hb : bareN (tget t d) = bareN (tget u d) := by rw [he]; rfl
  have hee : (tget u d).ents = ins (n, i) (tget t d).ents := by rw [he]
  have hne : tget t d ≠ tget u d := fun q => hn (by
    have h1 : (n, i) ∈ (tget t d).ents := by rw [q, hee]; exact (mem_ins _ _ _).2 (.inl rfl)
    exact en_name h1)
  have c1 := cls_new ht hu
  have c2 := cls_ent hk hb hne
  obtain ⟨l1, l2⟩ := less_ins d hee hn
  have e : difT t u = ⟨[i], [], [], 1, [], [⟨d, n, i⟩]⟩ := by
    unfold difT difL
    rw [filter_one idx24_sorted (mem_idx24.2 hi) c1.1 (fun j _ hj => ?_), filter_none (fun j _ => ?_), filter_none (fun j _ => ?_), filter_one idx24_sorted (mem_idx24.2 hd) c2.2.2.1 (fun j _ hj => ?_)]
    · simp [l1, l2]
    · by_cases q : j = i
      · rw [q]; exact c1.2.2.1
      · exact (cls_same (h j q hj)).2.2.1
    · by_cases q : j = i
      · rw [q]; exact c1.2.2.2
      · by_cases z : j = d
        · rw [z]; exact c2.2.2.2
        · exact (cls_same (h j q z)).2.2.2
    · by_cases q : j = i
      · rw [q]; exact c1.2.1
      · by_cases z : j = d
        · rw [z]; exact c2.2.1
        · exact (cls_same (h j q z)).2.1
    · by_cases z : j = d
      · rw [z]; exact c2.1
      · exact (cls_same (h j hj z)).1
  unfold ofC
  rw [e]
  unfold ofD
  simp
end Go.Proofs.YtnkjaocmfhjnoaaGreat
namespace Go.Proofs.YtnkjaocmfhjnoaaGreat
open Go Go.RowKit
set_option maxRecDepth 100000

def Nz (t : List Nd) : Prop := ∀ i : Int, (tget t i).kind = 0 → tget t i = Nd.zero
def Dif.back (d : Dif) : Dif := ⟨d.gone, d.new, d.els, d.ents, d.won, d.lost⟩
theorem new_back {a b : Nd} (hb : b.kind = 0 → b = Nd.zero) (ha : a.kind = 0 → a = Nd.zero) : isNew b a = isGone a b := by
  by_cases q : a = b
  · rw [(cls_same q.symm).1, (cls_same q).2.1]
  · by_cases h1 : a.kind = 0
    · by_cases h2 : b.kind = 0
      · exact absurd ((ha h1).trans (hb h2).symm) q
      · rw [(cls_new h1 h2).2.1]
        unfold isNew
        rw [show (b.kind == 0) = false by simpa using h2, Bool.and_false]
    · by_cases h2 : b.kind = 0
      · rw [(cls_new h2 h1).1, (cls_gone h1 h2).2.1]
      · unfold isNew isGone
        rw [show (b.kind == 0) = false by simpa using h2, Bool.and_false, Bool.and_false, Bool.and_false]
theorem ent_back (a b : Nd) : isEnt b a = isEnt a b := by
  by_cases q : a = b
  · rw [(cls_same q.symm).2.2.1, (cls_same q).2.2.1]
  · by_cases h : a.kind = 2 ∧ bareN a = bareN b
    · have hk : b.kind = 2 := by
        have : (bareN a).kind = (bareN b).kind := by rw [h.2]
        exact this.symm.trans h.1
      rw [(cls_ent h.1 h.2 q).2.2.1, (cls_ent hk h.2.symm (fun z => q z.symm)).2.2.1]
    · have e1 : isEnt a b = false := by
        unfold isEnt
        by_cases h1 : a.kind = 2
        · rw [toB_false (fun z => h ⟨h1, z⟩), Bool.and_false, Bool.and_false, Bool.and_false]
        · rw [show (a.kind == 2) = false by simpa using h1, Bool.false_and, Bool.and_false]
      have e2 : isEnt b a = false := by
        unfold isEnt
        by_cases h1 : b.kind = 2
        · rw [toB_false (fun (z : bareN b = bareN a) => h ⟨by
            have : (bareN b).kind = (bareN a).kind := by rw [z]
            exact this.symm.trans h1, z.symm⟩), Bool.and_false, Bool.and_false, Bool.and_false]
        · rw [show (b.kind == 2) = false by simpa using h1, Bool.false_and, Bool.and_false]
      rw [e1, e2]
theorem els_back (a b : Nd) : isEls b a = isEls a b := by
  by_cases q : a = b
  · rw [(cls_same q.symm).2.2.2, (cls_same q).2.2.2]
  · by_cases h1 : a.kind = 0
    · unfold isEls
      rw [show (a.kind != 0) = false by simpa using h1]
      simp
    · by_cases h2 : b.kind = 0
      · unfold isEls
        rw [show (b.kind != 0) = false by simpa using h2]
        simp
      · by_cases h : a.kind = 2 ∧ bareN a = bareN b
        · have hk : b.kind = 2 := by
            have : (bareN a).kind = (bareN b).kind := by rw [h.2]
            exact this.symm.trans h.1
          rw [(cls_ent h.1 h.2 q).2.2.2, (cls_ent hk h.2.symm (fun z => q z.symm)).2.2.2]
        · rw [(cls_els q h1 h2 h).2.2.2, (cls_els (fun z => q z.symm) h2 h1 (fun z => h ⟨by
            have : (bareN b).kind = (bareN a).kind := by rw [z.2]
            exact this.symm.trans z.1, z.2.symm⟩)).2.2.2]
theorem dif_back {t u : List Nd} (ht : Nz t) (hu : Nz u) : difT u t = (difT t u).back := by
  have e1 : (fun i => isNew (tget u i) (tget t i)) = (fun i => isGone (tget t i) (tget u i)) := funext fun i => new_back (hu i) (ht i)
  have e2 : (fun i => isGone (tget u i) (tget t i)) = (fun i => isNew (tget t i) (tget u i)) := funext fun i => (new_back (ht i) (hu i)).symm
  have e3 : (fun i => isEls (tget u i) (tget t i)) = (fun i => isEls (tget t i) (tget u i)) := funext fun i => els_back _ _
  have e4 : (fun i => isEnt (tget u i) (tget t i)) = (fun i => isEnt (tget t i) (tget u i)) := funext fun i => ent_back _ _
  unfold difT difL Dif.back
  rw [e1, e2, e3, e4]
theorem alone_kind (i : Int) (m n : Nd) : aloneC i m n = Chg.n 1 i ∨ aloneC i m n = Chg.n 2 i ∨ aloneC i m n = Chg.k 7 := by
  unfold aloneC
  split
  · exact .inl rfl
  · split
    · exact .inr (.inl rfl)
    · exact .inr (.inr rfl)
theorem alone_back (i : Int) (m n : Nd) : aloneC i n m = aloneC i m n := by
  have e1 : ((⟨n.kind, m.mode, m.uid, m.gid, n.data, n.ents, n.target⟩ : Nd) = m) ↔ ((⟨m.kind, n.mode, n.uid, n.gid, m.data, m.ents, m.target⟩ : Nd) = n) := by
    obtain ⟨a1, a2, a3, a4, a5, a6, a7⟩ := m
    obtain ⟨b1, b2, b3, b4, b5, b6, b7⟩ := n
    simp only [Nd.mk.injEq]
    constructor
    · rintro ⟨h1, -, -, -, h5, h6, h7⟩
      exact ⟨h1.symm, trivial, trivial, trivial, h5.symm, h6.symm, h7.symm⟩
    · rintro ⟨h1, -, -, -, h5, h6, h7⟩
      exact ⟨h1.symm, trivial, trivial, trivial, h5.symm, h6.symm, h7.symm⟩
  have e2 : (n.kind = 1 ∧ (⟨n.kind, m.mode, n.uid, n.gid, m.data, n.ents, n.target⟩ : Nd) = m) ↔ (m.kind = 1 ∧ (⟨m.kind, n.mode, m.uid, m.gid, n.data, m.ents, m.target⟩ : Nd) = n) := by
    obtain ⟨a1, a2, a3, a4, a5, a6, a7⟩ := m
    obtain ⟨b1, b2, b3, b4, b5, b6, b7⟩ := n
    simp only [Nd.mk.injEq]
    constructor
    · rintro ⟨h0, h1, -, h3, h4, -, h6, h7⟩
      exact ⟨h1.symm.trans h0, h1.symm, trivial, h3.symm, h4.symm, trivial, h6.symm, h7.symm⟩
    · rintro ⟨h0, h1, -, h3, h4, -, h6, h7⟩
      exact ⟨h1.symm.trans h0, h1.symm, trivial, h3.symm, h4.symm, trivial, h6.symm, h7.symm⟩
  unfold aloneC
  by_cases q1 : (⟨m.kind, n.mode, n.uid, n.gid, m.data, m.ents, m.target⟩ : Nd) = n
  · rw [if_pos (toB_true q1), if_pos (toB_true (e1.2 q1))]
  · rw [if_neg (fun z => q1 (toB_iff.1 z)), if_neg (fun z => q1 (e1.1 (toB_iff.1 z)))]
    by_cases q2 : m.kind = 1 ∧ (⟨m.kind, n.mode, m.uid, m.gid, n.data, m.ents, m.target⟩ : Nd) = n
    · rw [if_pos ⟨(e2.2 q2).1, toB_true (e2.2 q2).2⟩, if_pos ⟨q2.1, toB_true q2.2⟩]
    · rw [if_neg (fun z => q2 (e2.1 ⟨z.1, toB_iff.1 z.2⟩)), if_neg (fun z => q2 ⟨z.1, toB_iff.1 z.2⟩)]
theorem move_kind (g : List Int) (w a b : Ech) : moveC g w a b = Chg.k 7 ∨ moveC g w a b = ⟨5, w.node, a.dir, a.name, w.dir, w.name, b.node⟩ := by
  unfold moveC
  split
  · exact .inl rfl
  · exact .inr rfl
theorem ents_kind (d : Dif) : (entsC d).kind = 4 ∨ (entsC d).kind = 5 ∨ (entsC d).kind = 7 := by
  have hm : ∀ g w a b, (moveC g w a b).kind = 4 ∨ (moveC g w a b).kind = 5 ∨ (moveC g w a b).kind = 7 := fun g w a b => by
    rcases move_kind g w a b with q | q <;> rw [q]
    · exact .inr (.inr rfl)
    · exact .inr (.inl rfl)
  unfold entsC
  split
  · split
    · exact .inl rfl
    · exact .inr (.inr rfl)
  · exact hm _ _ _ _
  · split
    · exact hm _ _ _ _
    · exact hm _ _ _ _
  · exact .inr (.inr rfl)
theorem kk {P : Prop} (x : Int) (h : 1 ≤ x ∧ x ≤ 7) : (0 ≤ x ∧ x ≤ 7) ∧ (x = 0 → P) := ⟨by omega, fun z => by omega⟩
theorem of_kinds (t u : List Nd) : (0 ≤ (ofC t u).kind ∧ (ofC t u).kind ≤ 7) ∧ ((ofC t u).kind = 0 → (difT t u).els = [] ∧ (difT t u).new = [] ∧ (difT t u).gone = [] ∧ (difT t u).ents = 0) := by
  unfold ofC
  generalize difT t u = d
  unfold ofD
  split
  · rename_i h
    rcases alone_kind (d.els.headD 0) (tget t (d.els.headD 0)) (tget u (d.els.headD 0)) with q | q | q <;> rw [q]
    · exact kk 1 (by decide)
    · exact kk 2 (by decide)
    · exact kk 7 (by decide)
  · split
    · exact kk 7 (by decide)
    · rename_i h2
      have hE : d.els = [] := Classical.byContradiction h2
      split
      · rename_i h3
        refine ⟨by decide, fun _ => ⟨hE, List.eq_nil_of_length_eq_zero (by omega), List.eq_nil_of_length_eq_zero (by omega), by omega⟩⟩
      · split
        · split
          · exact kk 3 (by decide)
          · exact kk 7 (by decide)
        · split
          · exact kk 6 (by decide)
          · rcases ents_kind d with q | q | q <;> rw [q]
            · exact kk 4 (by decide)
            · exact kk 5 (by decide)
            · exact kk 7 (by decide)
theorem of_none {t u : List Nd} (ht : t.length ≤ 24) (hu : u.length ≤ 24) : ofC t u = Chg.zero ↔ ∀ i : Int, tget t i = tget u i := by
  constructor
  · intro h i
    obtain ⟨h1, h2, h3, h4⟩ := (of_kinds t u).2 (by rw [h]; rfl)
    by_cases hi : 1 ≤ i ∧ i ≤ 24
    · have hm := mem_idx24.2 hi
      refine Classical.byContradiction (fun q => ?_)
      have g1 : isEls (tget t i) (tget u i) = false := by
        have := List.filter_eq_nil_iff.1 h1 i hm
        simpa using this
      have g2 : isNew (tget t i) (tget u i) = false := by
        have := List.filter_eq_nil_iff.1 h2 i hm
        simpa using this
      have g3 : isGone (tget t i) (tget u i) = false := by
        have := List.filter_eq_nil_iff.1 h3 i hm
        simpa using this
      have g4 : isEnt (tget t i) (tget u i) = false := by
        have := List.filter_eq_nil_iff.1 (List.eq_nil_of_length_eq_zero h4) i hm
        simpa using this
      by_cases k1 : (tget t i).kind = 0
      · unfold isNew at g2
        rw [toB_true q, k1] at g2
        exact absurd g2 (by decide)
      · by_cases k2 : (tget u i).kind = 0
        · rw [(cls_gone k1 k2).2.1] at g3
          cases g3
        · by_cases k3 : (tget t i).kind = 2 ∧ bareN (tget t i) = bareN (tget u i)
          · rw [(cls_ent k3.1 k3.2 q).2.2.1] at g4
            cases g4
          · rw [(cls_els q k1 k2 k3).2.2.2] at g1
            cases g1
    · rw [tget_out (by omega), tget_out (by omega)]
  · exact ofC_same
end Go.Proofs.YtnkjaocmfhjnoaaGreat
