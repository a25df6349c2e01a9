/-
  Get, of which is told too that its lists' room is no less than their lengths. The conditions are said at each. What package files' calls answer, as statements: their proofs come from the code. No condition. Bytes that are made and copied; the program's ReadAt. The conditions are said at each. The program's file and ReadAt: a node, if it is a file; what its bytes are, from a place on. The conditions are said at each. The program's changed, overlaid and WriteAt. The conditions are said at each.
-/
import Derived.Test.YtkmkfolpjlkfoaaGreatM3
import Derived.Test.YtkmkfolpjlkfoaaGreatM7
import Derived.Test.YtkmkfolpjlkfoaaGreatM9
import Derived.Test.YtkmkfolpjlkfoaaGreatM10
import Derived.Test.YtkmkfolpjlkfoaaGreatM11
import Derived.Test.YtkmkfolpjlkfoaaGreatM14
import Derived.Laws.IdiomCopy
import Derived.Laws.OwnMore
import Derived.Deep.RegionWith
import Derived.Deep.RegionHeld3
import Derived.Deep.DeepCutAuto
import Derived.Deep.CutBlock
namespace Go.Proofs.YtkmkfolpjlkfoaaGreat
open Go Go.RowKit
set_option maxRecDepth 100000

def LQ (P : Nat → Prop) (v : Value) : Prop := ∀ (ad : Addr) (n c : Nat), v = .slice (some ad) n c → P ad.block ∧ n ≤ c
theorem LQ.nil (P : Nat → Prop) : LQ P (.slice none 0 0) := fun ad n c h => by injection h with h; cases h
theorem LQ.mono {P Q : Nat → Prop} {v : Value} (h : LQ P v) (hq : ∀ b, P b → Q b) : LQ Q v := fun ad n c hv => ⟨hq _ (h ad n c hv).1, (h ad n c hv).2⟩
theorem BytesT_of_ownC {w : World} {B : Nat} {v : Value} {l : List UInt8} (h : w.ownsRow B 5 1 v l.length (bCells l)) : BytesT w v l ∧ LQ (fun b => B ≤ b) v := by
  rcases h.2 with ⟨rfl, hn⟩ | ⟨g, cap, cur, rfl, hB, hh, hcap, _⟩
  · have : l = [] := List.eq_nil_of_length_eq_zero hn
    subst this
    exact ⟨BytesT.nil w, LQ.nil _⟩
  · refine ⟨⟨⟨some ⟨g, 0, none⟩, cap, rfl, fun k a hk => ⟨_, rfl, ?_⟩⟩, fun ad n c hv => ?_⟩, fun ad n c hv => ?_⟩
    · rw [add_lit]
      exact row_at h _ _ (bCells_at l k a hk)
    · injection hv with hA
      injection hA with hA
      subst hA
      exact ⟨cur, hh⟩
    · injection hv with hA hn hc
      injection hA with hA
      subst hA hn hc
      exact ⟨hB, hcap⟩
theorem LQ.of_own {w : World} {B : Nat} {e : TypeId} {size n : Nat} {v : Value} {xs : List Value} (h : w.ownsRow B e size v n xs) : LQ (fun b => B ≤ b) v := by
  rcases h.2 with ⟨rfl, hn⟩ | ⟨g, cap, cur, rfl, hB, hh, hcap, _⟩
  · exact LQ.nil _
  · intro ad n c hv
    injection hv with hA hn hc
    injection hA with hA
    subst hA hn hc
    exact ⟨hB, hcap⟩
theorem wpList_copy_bytesC {ops : Array Oper} {rest : List Oper} {o : Oper} {a : Act} {Q : Exit → Act → World → Prop} {w0 : World} (hgd : o.guard = none) (x : Operand)
    (ho : o.op = .call { callee := .builtin .append, args := #[.const (.slice none 0 0), x], argTypes := #[46, 46] })
    (vx : Value) (m : List UInt8) (hx : a.eval x = vx) (hm : BytesR w0 vx m) (hn : m.length ≤ 1000000)
    (h : ∀ v' w', BytesT w' v' m → LQ (fun b => w0.heap.size ≤ b) v' → Below w0.heap.size w0 w' → wpList Tryz.prog ops Q rest (a.put o.dst v') w') : wpList Tryz.prog ops Q (o :: rest) a w0 := by
  obtain ⟨i, hi0, hz0, hz1, hz2⟩ := info_parts info_u8
  obtain ⟨A, c, rfl⟩ := bytes_form hm rfl
  cases A with
  | none =>
    have hm0 : m = [] := by
      cases m with
      | nil => rfl
      | cons y m' =>
        obtain ⟨ad, e, _⟩ := bytes_get hm (show (y :: m')[0]? = some y from rfl)
        cases e
    subst hm0
    exact wpList_append_void hgd x _ 5 ho i Tryz.underlying46 hi0 c hx (h _ w0 (BytesT.nil _) (LQ.nil _) (Below.refl _ _))
  | some ad =>
    refine wpList_append_own _ hgd _ x _ ho w0.heap.size 5 i _ 1 1 Tryz.underlying46 hi0 hz0 hz1 hz2 rfl (by decide) (.slice none 0 0) 0 [] rfl (World.ownsRow_nil _ _ _ _) ad m.length c (bCells m) hx (by simp [bCells]) (bytes_src hm) (bCells_one m) (by unfold maxLen; omega) (by omega) (Nat.le_refl _) ?_
    intro v' w' ho' hg _
    rw [Nat.zero_add, List.nil_append] at ho'
    obtain ⟨h1, h2⟩ := BytesT_of_ownC ho'
    exact h v' w' h1 h2 ((Below.refl _ _).grown hg (Nat.le_refl _) (fun q hq => by cases hq))
theorem wpList_copy_entsC {ops : Array Oper} {rest : List Oper} {o : Oper} {a : Act} {Q : Exit → Act → World → Prop} {w0 : World} (hgd : o.guard = none) (x : Operand)
    (ho : o.op = .call { callee := .builtin .append, args := #[.const (.slice none 0 0), x], argTypes := #[80, 80] })
    (vx : Value) (m : List En) (hx : a.eval x = vx) (hm : EntsR w0 vx m) (hn : m.length ≤ 1000000)
    (h : ∀ v' w', EntsT w' v' m → LQ (fun b => w0.heap.size ≤ b) v' → Below w0.heap.size w0 w' → wpList Tryz.prog ops Q rest (a.put o.dst v') w') : wpList Tryz.prog ops Q (o :: rest) a w0 := by
  obtain ⟨i, hi0, hz0, hz1, hz2⟩ := info_parts info_ent
  obtain ⟨A, c, rfl⟩ := ents_form hm rfl
  cases A with
  | none =>
    have hm0 : m = [] := by
      cases m with
      | nil => rfl
      | cons y m' =>
        obtain ⟨ad, e, _⟩ := ents_get hm (show (y :: m')[0]? = some y from rfl)
        cases e
    subst hm0
    exact wpList_append_void hgd x _ 134 ho i Tryz.underlying80 hi0 c hx (h _ w0 (EntsT.nil _) (LQ.nil _) (Below.refl _ _))
  | some ad =>
    refine wpList_append_own _ hgd _ x _ ho w0.heap.size 134 i _ 2 24 Tryz.underlying80 hi0 hz0 hz1 hz2 rfl (by decide) (.slice none 0 0) 0 [] rfl (World.ownsRow_nil _ _ _ _) ad m.length c (eCells m) hx (eCells_len m) (ents_src hm) (eCells_one m) (by unfold maxLen; omega) (by omega) (Nat.le_refl _) ?_
    intro v' w' ho' hg _
    rw [Nat.zero_add, List.nil_append] at ho'
    exact h v' w' (EntsT.of_own ho') (LQ.of_own ho') ((Below.refl _ _).grown hg (Nat.le_refl _) (fun q hq => by cases hq))
attribute [local go_sem] cell_off4 cell_blk4
theorem copied_endC {w w1 w3 w4 w5 w6 : World} {n : Nd} {va vb : Value} {cs ds : Array Value} (hd : BytesT w4 va n.data) (he : EntsT w4 vb n.ents) (hk : Blk w4 w.heap.size 82 cs) (hr : Blk w5 (w.heap.size + 1) 82 ds) (hg5 : w4.grownBy w5 (some w.heap.size)) (hg6 : w5.grownBy w6 (some (w.heap.size + 1)))
    (h2 : LQ (fun b => w1.heap.size ≤ b) va) (h4 : LQ (fun b => w3.heap.size ≤ b) vb) (h1 : w.heap.size ≤ w1.heap.size) (h3 : w.heap.size ≤ w3.heap.size) (hb : Below w.heap.size w w4) :
    ∃ vd' ve', Ending.returned (nodeV n va vb) = .returned (nodeV n vd' ve') ∧ BytesT w6 vd' n.data ∧ EntsT w6 ve' n.ents ∧ LQ (fun b => w.heap.size ≤ b) vd' ∧ LQ (fun b => w.heap.size ≤ b) ve' ∧ Below w.heap.size w w6 := by
  have hd5 := hd.other hg5 (fun ad n c hv => by obtain ⟨cs, h⟩ := hd.2 ad n c hv; exact blk_ne h hk (by decide))
  have he5 := he.other hg5 (fun ad n c hv => by obtain ⟨cs, h⟩ := he.2 ad n c hv; exact blk_ne h hk (by decide))
  have hd6 := hd5.other hg6 (fun ad n c hv => by obtain ⟨cs, h⟩ := hd5.2 ad n c hv; exact blk_ne h hr (by decide))
  have he6 := he5.other hg6 (fun ad n c hv => by obtain ⟨cs, h⟩ := he5.2 ad n c hv; exact blk_ne h hr (by decide))
  exact ⟨va, vb, rfl, hd6, he6, h2.mono (fun b hb => Nat.le_trans h1 hb), h4.mono (fun b hb => Nat.le_trans h3 hb), below_grown (below_grown hb hg5 (Nat.le_refl _)) hg6 (Nat.le_succ _)⟩
set_option maxRecDepth 100000 in
set_option maxHeartbeats 4000000 in
theorem copied_anyC (n : Nd) (vd ve : Value) (w : World) (hd : BytesR w vd n.data) (he : EntsR w ve n.ents) (hf : Few n) :
    Calls Tryz.prog 52 #[nodeV n vd ve] w fun e w' => ∃ vd' ve', e = .returned (nodeV n vd' ve') ∧ BytesT w' vd' n.data ∧ EntsT w' ve' n.ents ∧ LQ (fun b => w.heap.size ≤ b) vd' ∧ LQ (fun b => w.heap.size ≤ b) ve' ∧ Below w.heap.size w w' := by
  have hnd := hf.data
  have hne := hf.ents
  obtain ⟨W1, hW1⟩ : ∃ W1, W1 = (w.alloc (.cells (ndC n vd ve) 82)).alloc (.cells ndZ 82) := ⟨_, rfl⟩
  have hb1 : Below w.heap.size w W1 := by rw [hW1]; exact al (ba _ _) _
  have hz1 : W1.heap.size = w.heap.size + 2 := by rw [hW1]; simp
  have hkb : Blk W1 w.heap.size 82 (ndC n vd ve) := by rw [hW1]; exact (Blk.new _ _ _).alloc _
  have hkr : Blk W1 (w.heap.size + 1) 82 ndZ := by rw [hW1]; have := Blk.new (w.alloc (.cells (ndC n vd ve) 82)) 82 ndZ; simpa using this
  have HD := Lib.hid (hd.below hb1)
  have HE := Lib.hid he
  have HB1 := Lib.hid hb1
  have HKB := Lib.hid hkb
  have HKR := Lib.hid hkr
  have HZ1 := Lib.hid hz1
  obtain ⟨A1, c1, rfl⟩ := bytes_form hd rfl
  obtain ⟨A2, c2, rfl⟩ := ents_form he rfl
  clear hd he hb1 hkb hkr hz1 hf
  subst hW1
  unfold nodeV
  go_enter Tryz.func52, Tryz.ntmps52
  go_wp2_with (first | (at_builtin; refine wpList_copy_bytesC rfl (.tmp 4) rfl (.slice A1 n.data.length c1) n.data rfl HD.out (by omega) ?_; intro v2 w2 hT2 hL2 hb2; obtain ⟨A3, c3, hv3⟩ := bytesT_form hT2; subst hv3; have HT2 := Lib.hid hT2; have HL2 := Lib.hid hL2; have HB2 := Lib.hid hb2; have hk2 := HKB.out.below hb2; have HK2 := Lib.hid hk2; obtain ⟨p0, p1, p2, p3, p4, p5, p6⟩ := hk2.c7; obtain ⟨f0, f1, f2, f3, f4, f5, f6⟩ := hk2.f7; clear hT2 hL2 hb2 hk2) | (at_builtin; (have HG3 := Lib.hid (grown_setCell w2 ⟨w.heap.size, 4, none⟩ (.slice A3 n.data.length c3))); (have HK3 := Lib.hid (HK2.out.set7_4 (.slice A3 n.data.length c3))); (have HB3 := Lib.hid (below_grown (bt HB2.out HB1.out) HG3.out (Nat.le_refl _))); (have HX3 := Lib.hid (HT2.out.other HG3.out (fun ad n c hv => by obtain ⟨cs, hb⟩ := HT2.out.2 ad n c hv; exact blk_ne hb HK2.out (by decide)))); (have HR3 := Lib.hid ((HKR.out.below HB2.out).kept HG3.out (by simp))); refine wpList_copy_entsC rfl (.tmp 8) rfl (.slice A2 n.ents.length c2) n.ents rfl (HE.out.below HB3.out) (by omega) ?_; intro v4 w4 hT4 hL4 hb4; obtain ⟨A4, c4, hv4⟩ := entsT_form hT4; subst hv4; have HT4 := Lib.hid hT4; have HL4 := Lib.hid hL4; have HY4 := Lib.hid (HX3.out.below hb4); have HB4 := Lib.hid (bt hb4 HB3.out); have hk4 := HK3.out.below hb4; have HK4 := Lib.hid hk4; have hr4 := HR3.out.below hb4; have HR4 := Lib.hid hr4; have HLE := Lib.hid HB3.out.size; have HG5 := Lib.hid (grown_setCell w4 ⟨w.heap.size, 5, none⟩ (.slice A4 n.ents.length c4)); have hr5 := hr4.kept HG5.out (by simp); have HR5 := Lib.hid hr5; clear p0 p1 p2 p3 p4 p5 p6 f0 f1 f2 f3 f4 f5 f6; obtain ⟨p0, p1, p2, p3, p4, p5, p6⟩ := hk4.c7; obtain ⟨f0, f1, f2, f3, f4, f5, f6⟩ := hk4.f7; have t5 : ∀ u, (w4.setCell ⟨w.heap.size, 5, none⟩ u).cell? ⟨w.heap.size, 5, none⟩ = some u := fun u => (hk4.set7_5 u).cell 5; obtain ⟨r0, r1, r2, r3, r4, r5, r6⟩ := hr5.c7; obtain ⟨q0, q1, q2, q3, q4, q5, q6⟩ := hr5.f7; obtain ⟨s0, s1, s2, s3, s4, s5, s6⟩ := hr5.s7; clear hT4 hL4 hb4 hk4 hr4 hr5))
  have HG6 := Lib.hid (grown7 (w4.setCell ⟨w.heap.size, 5, none⟩ (.slice A4 n.ents.length c4)) (w.heap.size + 1) (.int .i64 n.kind) (.int .i64 n.mode) (.int .i64 n.uid) (.int .i64 n.gid) (.slice A3 n.data.length c3) (.slice A4 n.ents.length c4) (.string (bA n.target)))
  exact bodyPost_ret (v := nodeV n (.slice A3 n.data.length c3) (.slice A4 n.ents.length c4)) (by simp [results, Tryz.results52, go_sem, nodeV, s0, s1, s2, s3, s4, s5, s6]) rfl (copied_endC HY4.out HT4.out HK4.out HR5.out HG5.out HG6.out HL2.out HL4.out HB1.out.size HLE.out HB4.out)
theorem get_endC {w w3 w4 : World} {n : Nd} {va vb : Value} {b : Bool} {cs : Array Value} {s : Nat} (hd : BytesT w3 va n.data) (he : EntsT w3 vb n.ents) (hk : Blk w3 w.heap.size 82 cs) (hg : w3.grownBy w4 (some w.heap.size))
    (h2 : LQ (fun b => s ≤ b) va) (h4 : LQ (fun b => s ≤ b) vb) (h1 : w.heap.size ≤ s) (hb : Below w.heap.size w w3) :
    ∃ vd ve, Ending.returned (.tuple #[nodeV n va vb, .bool b]) = .returned (.tuple #[nodeV n vd ve, .bool b]) ∧ BytesT w4 vd n.data ∧ EntsT w4 ve n.ents ∧ LQ (fun b => w.heap.size ≤ b) vd ∧ LQ (fun b => w.heap.size ≤ b) ve ∧ Below w.heap.size w w4 := by
  have hd5 := hd.other hg (fun ad n c hv => by obtain ⟨cs, h⟩ := hd.2 ad n c hv; exact blk_ne h hk (by decide))
  have he5 := he.other hg (fun ad n c hv => by obtain ⟨cs, h⟩ := he.2 ad n c hv; exact blk_ne h hk (by decide))
  exact ⟨va, vb, rfl, hd5, he5, h2.mono (fun b hb => Nat.le_trans h1 hb), h4.mono (fun b hb => Nat.le_trans h1 hb), below_grown hb hg (Nat.le_refl _)⟩
set_option maxRecDepth 100000 in
set_option maxHeartbeats 4000000 in
theorem get_anyC (v : Value) (t : List Nd) (i : Int) (w : World) (h : TabP w v t) :
    Calls Tryz.prog 26 #[v, .int .i64 i] w fun e w' => ∃ vd ve, e = .returned (.tuple #[nodeV (tget t i) vd ve, .bool (tis t i)]) ∧ BytesT w' vd (tget t i).data ∧ EntsT w' ve (tget t i).ents ∧ LQ (fun b => w.heap.size ≤ b) vd ∧ LQ (fun b => w.heap.size ≤ b) ve ∧ Below w.heap.size w w' := by
  have HA := Lib.hid (fun W (hb : Below w.heap.size w W) => at_any v t i W (h.below hb))
  have HH := Lib.hid (fun W (hb : Below w.heap.size w W) => thas_any v t i W (h.below hb))
  have HF := Lib.hid (ok_few h.ok.1 i)
  have HBN := Lib.hid (Blk.new w 82 ndZ)
  have HB0 := Lib.hid (ba w (.cells ndZ 82))
  clear h
  generalize tis t i = X at HH ⊢
  generalize tget t i = n at HA HF ⊢
  go_enter Tryz.func26, Tryz.ntmps26
  go_wp2_with fail
  refine (HA.out _ HB0.out).mono ?_
  rintro e w1 ⟨vd1, ve1, rfl, hd1, he1, hb1⟩
  have HD1 := Lib.hid hd1
  have HE1 := Lib.hid he1
  have HB1 := Lib.hid (bt hb1 HB0.out)
  have HK1 := Lib.hid (HBN.out.below hb1)
  clear hd1 he1 hb1
  go_wp2_with fail
  refine (copied_anyC n vd1 ve1 w1 HD1.out.1 HE1.out.1 HF.out).mono ?_
  rintro e w2 ⟨vd2, ve2, rfl, hd2, he2, hl2, hm2, hb2⟩
  have HD2 := Lib.hid hd2
  have HE2 := Lib.hid he2
  have HL2 := Lib.hid hl2
  have HM2 := Lib.hid hm2
  have HB2 := Lib.hid (bt hb2 HB1.out)
  have HK2 := Lib.hid (HK1.out.below hb2)
  have HS1 := Lib.hid HB1.out.size
  clear hd2 he2 hl2 hm2 hb2
  go_wp2_with fail
  refine (HH.out w2 HB2.out).mono ?_
  rintro e w3 ⟨rfl, hb3⟩
  have HB3 := Lib.hid (bt hb3 HB2.out)
  have HD3 := Lib.hid (HD2.out.below hb3)
  have HE3 := Lib.hid (HE2.out.below hb3)
  have hk3 := HK2.out.below hb3
  have HK3 := Lib.hid hk3
  obtain ⟨p0, p1, p2, p3, p4, p5, p6⟩ := hk3.c7
  obtain ⟨q0, q1, q2, q3, q4, q5, q6⟩ := hk3.f7
  obtain ⟨s0, s1, s2, s3, s4, s5, s6⟩ := hk3.s7
  clear hb3 hk3
  obtain ⟨A1, c1, hv1⟩ := bytesT_form HD3.out
  obtain ⟨A2, c2, hv2⟩ := entsT_form HE3.out
  subst hv1 hv2
  unfold nodeV
  go_wp2
  have HG := Lib.hid (grown7 w3 w.heap.size (.int .i64 n.kind) (.int .i64 n.mode) (.int .i64 n.uid) (.int .i64 n.gid) (.slice A1 n.data.length c1) (.slice A2 n.ents.length c2) (.string (bA n.target)))
  exact bodyPost_ret (v := .tuple #[nodeV n (.slice A1 n.data.length c1) (.slice A2 n.ents.length c2), .bool X]) (by simp [results, Tryz.results26, go_sem, nodeV, s0, s1, s2, s3, s4, s5, s6]) rfl (get_endC HD3.out HE3.out HK3.out HG.out HL2.out HM2.out HS1.out HB3.out)
end Go.Proofs.YtkmkfolpjlkfoaaGreat
namespace Go.Proofs.YtkmkfolpjlkfoaaGreat
open Go Go.RowKit
set_option maxRecDepth 100000

def OpenC : Prop := ∀ (g : Nat) (t : List Nd) (P : Nat → Prop) (c : Wh) (A0 : Option Addr) (m k : Nat) (um : Int) (p : Nm) (fl md : Int) (w : World), TabR w g t P → okT t → CrR w c A0 m k → (∀ b, w.heap.size ≤ b → P b) →
    Calls Tryz.prog 118 #[.pointer (some ⟨g, 0, none⟩), .agg #[.int .i64 c.u, .int .i64 c.g, .slice A0 m k], .int .i64 um, .string (bA p), .int .i64 fl, .int .i64 md] w fun e w' => e = .returned (.tuple #[.int .i64 (foI t c um p fl md), .int .i64 (foE t c um p fl md)]) ∧ TabR w' g (foT t c um p fl md) P ∧ w.grownBy w' (some g)
def ReadC : Prop := ∀ (v : Value) (t : List Nd) (i off n : Int) (w : World), TabP w v t → okT t →
    Calls Tryz.prog 119 #[v, .int .i64 i, .int .i64 off, .int .i64 n] w fun e w' => ∃ vb, e = .returned (.tuple #[vb, .int .i64 (faE t i off n)]) ∧ BytesT w' vb (faB t i off n) ∧ Below w.heap.size w w'
def WriteC : Prop := ∀ (g : Nat) (t : List Nd) (P : Nat → Prop) (c : Wh) (A0 : Option Addr) (m k : Nat) (i off : Int) (b : List UInt8) (vb : Value) (w : World), TabR w g t P → okT t → CrR w c A0 m k → BytesR w vb b → b.length ≤ 1000 → (∀ b, w.heap.size ≤ b → P b) →
    Calls Tryz.prog 120 #[.pointer (some ⟨g, 0, none⟩), .agg #[.int .i64 c.u, .int .i64 c.g, .slice A0 m k], .int .i64 i, .int .i64 off, vb] w fun e w' => e = .returned (.int .i64 (fwE t i off b)) ∧ TabR w' g (fwT t c i off b) P ∧ w.grownBy w' (some g)
def OpenN : Prop := ∀ (c : Wh) (A0 : Option Addr) (m k : Nat) (um : Int) (p : Nm) (fl md : Int) (w : World), CrR w c A0 m k →
    Calls Tryz.prog 118 #[.pointer none, .agg #[.int .i64 c.u, .int .i64 c.g, .slice A0 m k], .int .i64 um, .string (bA p), .int .i64 fl, .int .i64 md] w fun e w' => ∃ i x, e = .returned (.tuple #[.int .i64 i, .int .i64 x]) ∧ x ≠ 0 ∧ Below w.heap.size w w'
def WriteN : Prop := ∀ (c : Wh) (A0 : Option Addr) (m k : Nat) (i off : Int) (b : List UInt8) (vb : Value) (w : World), CrR w c A0 m k → BytesR w vb b →
    Calls Tryz.prog 120 #[.pointer none, .agg #[.int .i64 c.u, .int .i64 c.g, .slice A0 m k], .int .i64 i, .int .i64 off, vb] w fun e w' => e = .returned (.int .i64 9) ∧ Below w.heap.size w w'
structure FilesC : Prop where
  op : OpenC
  rd : ReadC
  wr : WriteC
  opn : OpenN
  wrn : WriteN
end Go.Proofs.YtkmkfolpjlkfoaaGreat
namespace Go.Proofs.YtkmkfolpjlkfoaaGreat
open Go Go.RowKit
set_option maxRecDepth 100000

theorem make_zero (n : Nat) (hn : n ≤ 1000000) (w : World) : (Instr.makeSlice 46 (.int .i64 (n : Int)) (.int .i64 (n : Int))).run Tryz.prog w = .ok (.slice (some ⟨w.heap.size, 0, none⟩) n n) (w.alloc (.cells (bCells (List.replicate n 0)).toArray 5)) := by
  obtain ⟨i, hi0, hz0, hz1, hz2⟩ := info_parts info_u8
  have h := run_make (P := Tryz.prog) w 46 5 i _ Tryz.underlying46 hi0 hz0 .i64 .i64 n n (by omega) (Int.le_refl _) (by rw [hz2]; omega) (by omega)
  simp only [Int.toNat_natCast, hz1, Nat.mul_one] at h
  have e : madeCells (Value.int .u8 0).cells n = (bCells (List.replicate n 0)).toArray := by
    have h1 := toList_madeCells_one (.int .u8 0) n
    have h2 : bCells (List.replicate n 0) = List.replicate n (.int .u8 0) := by unfold bCells; rw [List.map_replicate]; rfl
    rw [h2, ← h1]
    simp [Value.cells]
  rw [e] at h
  exact h
def RowB (W : World) (g : Nat) (L : List UInt8) : Prop := Blk W g 5 (bCells L).toArray
theorem RowB.bytesT {W : World} {g : Nat} {L : List UInt8} (h : RowB W g L) {n c : Nat} (hn : L.length = n) : BytesT W (.slice (some ⟨g, 0, none⟩) n c) L := by
  subst hn
  refine ⟨⟨_, _, rfl, fun k x hk => ⟨_, rfl, ?_⟩⟩, fun ad n c hv => ?_⟩
  · have h1 := Blk.cell h k
    have e : (bCells L).toArray[k]? = some (.int .u8 (co x)) := by simpa using bCells_at L k x hk
    rw [e] at h1
    have e2 : (⟨g, 0, none⟩ : Addr).add k = ⟨g, k, none⟩ := by unfold Addr.add; by_cases hk : k = 0 <;> simp [hk]
    rw [e2]
    exact h1
  · injection hv with hA
    injection hA with hA
    subst hA
    exact ⟨_, h⟩
theorem copy_bytes {W : World} {g o dl dc m c : Nat} {A : Option Addr} {S L : List UInt8} (hk : RowB W g L) (hS : BytesR W (.slice A m c) S) {k : Nat} (hkk : Nat.min m dl = k) (hfit : o + k ≤ L.length) :
    ∃ W', (Builtin.copy_ #[46, 46] 3 #[.slice (some ⟨g, o, none⟩) dl dc, .slice A m c]).run Tryz.prog W = .ok (goInt k) W' ∧ RowB W' g (L.take o ++ S.take k ++ L.drop (o + k)) ∧ W.grownBy W' (some g) := by
  have hm := bytes_len hS
  have hkm : k ≤ m := by rw [← hkk]; exact Nat.min_le_left _ _
  by_cases h0 : k = 0
  · subst h0
    refine ⟨W, run_copy_none W _ _ _ 5 _ _ _ _ _ _ Tryz.underlying46 size_u8 hkk, ?_, ⟨rfl, rfl, rfl, Nat.le_refl _, fun _ _ _ => rfl⟩⟩
    rw [List.take_zero, List.append_nil, Nat.add_zero, List.take_append_drop]
    exact hk
  · have hlt : 0 < S.length := by omega
    obtain ⟨ad, rfl, -⟩ := bytes_get hS (List.getElem?_eq_getElem hlt)
    have hln : (bCells (S.take k)).length = k := by rw [bCells_len, List.length_take]; omega
    have hcp := run_copy_rowK (P := Tryz.prog) W 46 46 3 5 g o dl dc ad m c _ _ (bCells (S.take k)) 1 Tryz.underlying46 size_u8 hk (by rw [hln, hkk, Nat.mul_one]) (fun j v hj => bytes_src hS j v (by
      have hj2 : j < k := by have := (List.getElem?_eq_some_iff.1 hj).1; omega
      rw [← hj]
      unfold bCells
      rw [List.getElem?_map, List.getElem?_map, List.getElem?_take_of_lt hj2])) (by rw [hln, List.size_toArray, bCells_len]; exact hfit) (bCells_one _)
    rw [hkk] at hcp
    refine ⟨_, hcp, ?_, grown_setRow _ _ _⟩
    have e : (bCells L).toArray.toList.take o ++ bCells (S.take k) ++ (bCells L).toArray.toList.drop (o + (bCells (S.take k)).length) = bCells (L.take o ++ S.take k ++ L.drop (o + k)) := by
      rw [hln]
      simp [bCells, List.map_take, List.map_drop]
    rw [e]
    exact blk_setRow hk
theorem size_bt (w : World) : (sizeOf (Tryz.prog.elem 46)).run Tryz.prog w = .ok 1 w := by kernel_rfl
theorem at_twoA (ad : Addr) (n k : Nat) : (ad.add (n * 1)).add k = ad.add (n + k) := by rw [Nat.mul_one]; exact add_two ad n k
theorem tail_bytes {W : World} {A : Option Addr} {k : Nat} {b : List UInt8} (h : BytesR W (.slice A b.length k) b) {n : Nat} (hn : n ≤ b.length) (hk : b.length ≤ k) : ∃ A' k', (∀ w : World, (Instr.slice 46 (.slice A b.length k) (some (.int .i64 (n : Int))) none none).run Tryz.prog w = .ok (.slice A' (b.length - n) k') w) ∧ BytesR W (.slice A' (b.length - n) k') (b.drop n) := by
  refine ⟨if k = n then A else A.map (·.add (n * 1)), k - n, fun w => ?_, ?_⟩
  · rw [run_slice_l w _ _ _ _ (by kernel_rfl) .i64 (n : Int) (by omega) (by omega), size_bt]
    simp [Result.andThen, sliced]
  · have hl : (b.drop n).length = b.length - n := List.length_drop ..
    refine ⟨if k = n then A else A.map (·.add (n * 1)), k - n, by rw [hl], fun j x hj => ?_⟩
    have hlt : j < b.length - n := by have := (List.getElem?_eq_some_iff.1 hj).1; omega
    rw [List.getElem?_drop] at hj
    obtain ⟨ad, rfl, h0⟩ := bytes_get h hj
    rw [if_neg (by omega)]
    refine ⟨_, rfl, ?_⟩
    rw [at_twoA]
    exact h0
theorem get_formsC {v : Value} {t : List Nd} {W : World} (h : TabP W v t) (i : Int) (n : Nd) (q : Bool) (hn : tget t i = n) (hq : tis t i = q) : Calls Tryz.prog 26 #[v, .int .i64 i] W fun e w' => ∃ A1 c1 A2 c2, e = .returned (.tuple #[.agg #[.int .i64 n.kind, .int .i64 n.mode, .int .i64 n.uid, .int .i64 n.gid, .slice A1 n.data.length c1, .slice A2 n.ents.length c2, .string (bA n.target)], .bool q]) ∧ (BytesT w' (.slice A1 n.data.length c1) n.data ∧ EntsT w' (.slice A2 n.ents.length c2) n.ents ∧ (0 < n.data.length → n.data.length ≤ c1)) ∧ Below W.heap.size W w' := by
  refine (get_anyC v t i W h).mono ?_
  rintro e w' ⟨vd, ve, rfl, hd, he, hl, -, hb⟩
  rw [hn] at hd he ⊢
  rw [hq]
  obtain ⟨A1, c1, rfl⟩ := bytesT_form hd
  obtain ⟨A2, c2, rfl⟩ := entsT_form he
  refine ⟨_, _, _, _, rfl, ⟨hd, he, fun h0 => ?_⟩, hb⟩
  obtain ⟨ad, rfl, -⟩ := bytes_get hd.1 (List.getElem?_eq_getElem h0)
  exact (hl ad _ _ rfl).2
end Go.Proofs.YtkmkfolpjlkfoaaGreat
namespace Go.Proofs.YtkmkfolpjlkfoaaGreat
open Go Go.RowKit
set_option maxRecDepth 100000

attribute [local go_sem] cell_off4 cell_blk4
set_option maxHeartbeats 8000000 in
theorem file_any {v : Value} {t : List Nd} {W : World} (h : TabP W v t) (i : Int) (n : Nd) (hn : tget t i = n) :
    Calls Tryz.prog 177 #[v, .int .i64 i] W fun e w' => ∃ A1 c1 A2 c2, e = .returned (.tuple #[.agg #[.int .i64 n.kind, .int .i64 n.mode, .int .i64 n.uid, .int .i64 n.gid, .slice A1 n.data.length c1, .slice A2 n.ents.length c2, .string (bA n.target)], .bool (n.kind == 1)]) ∧ (BytesT w' (.slice A1 n.data.length c1) n.data ∧ EntsT w' (.slice A2 n.ents.length c2) n.ents ∧ (0 < n.data.length → n.data.length ≤ c1)) ∧ Below W.heap.size W w' := by
  obtain ⟨q, hq⟩ : ∃ q, tis t i = q := ⟨_, rfl⟩
  have hb0 := ba W (.cells ndZ 82)
  have hk0 := Blk.new W 82 ndZ
  obtain ⟨W0, hW0⟩ : ∃ V, W.alloc (.cells ndZ 82) = V := ⟨_, rfl⟩
  rw [hW0] at hb0 hk0
  have HG := Lib.hid (get_formsC (h.below hb0) i n q hn hq)
  have HB0 := Lib.hid hb0
  have HK0 := Lib.hid hk0
  clear h hn hq hb0 hk0
  go_enter Tryz.func177, Tryz.ntmps177
  go_wp2_with fail
  clear hW0
  refine HG.out.mono ?_
  rintro e w1 ⟨A1, c1, A2, c2, rfl, ⟨hd, he, hc⟩, hb⟩
  have hbx := al hb (.cells #[.int .i64 n.kind, .int .i64 n.mode, .int .i64 n.uid, .int .i64 n.gid, .slice A1 n.data.length c1, .slice A2 n.ents.length c2, .string (bA n.target)] 82)
  have hkx := Blk.new w1 82 #[.int .i64 n.kind, .int .i64 n.mode, .int .i64 n.uid, .int .i64 n.gid, .slice A1 n.data.length c1, .slice A2 n.ents.length c2, .string (bA n.target)]
  have hdx : BytesT (w1.alloc (.cells #[.int .i64 n.kind, .int .i64 n.mode, .int .i64 n.uid, .int .i64 n.gid, .slice A1 n.data.length c1, .slice A2 n.ents.length c2, .string (bA n.target)] 82)) (.slice A1 n.data.length c1) n.data := hd.below (ba _ _)
  have hex : EntsT (w1.alloc (.cells #[.int .i64 n.kind, .int .i64 n.mode, .int .i64 n.uid, .int .i64 n.gid, .slice A1 n.data.length c1, .slice A2 n.ents.length c2, .string (bA n.target)] 82)) (.slice A2 n.ents.length c2) n.ents := he.below (ba _ _)
  have hlt : W.heap.size < w1.heap.size := Nat.lt_of_lt_of_le HK0.out.lt hb.size
  obtain ⟨W1, hW1⟩ : ∃ V, w1.alloc (.cells #[.int .i64 n.kind, .int .i64 n.mode, .int .i64 n.uid, .int .i64 n.gid, .slice A1 n.data.length c1, .slice A2 n.ents.length c2, .string (bA n.target)] 82) = V := ⟨_, rfl⟩
  obtain ⟨z, hz⟩ : ∃ z, w1.heap.size = z := ⟨_, rfl⟩
  rw [hW1] at hbx hkx hdx hex
  rw [hz] at hkx hlt
  have hrx := HK0.out.below hbx
  have HKX := Lib.hid hkx
  have HRX := Lib.hid hrx
  have hzn : z ≠ W.heap.size := Nat.ne_of_gt hlt
  have ht : Blk (((((((W1.setCell ⟨W.heap.size, 0, none⟩ (.int .i64 n.kind)).setCell ⟨W.heap.size, 1, none⟩ (.int .i64 n.mode)).setCell ⟨W.heap.size, 2, none⟩ (.int .i64 n.uid)).setCell ⟨W.heap.size, 3, none⟩ (.int .i64 n.gid)).setCell ⟨W.heap.size, 4, none⟩ (.slice A1 n.data.length c1)).setCell ⟨W.heap.size, 5, none⟩ (.slice A2 n.ents.length c2)).setCell ⟨W.heap.size, 6, none⟩ (.string (bA n.target))) z 82 #[.int .i64 n.kind, .int .i64 n.mode, .int .i64 n.uid, .int .i64 n.gid, .slice A1 n.data.length c1, .slice A2 n.ents.length c2, .string (bA n.target)] := HKX.out.kept (grown7 W1 W.heap.size (.int .i64 n.kind) (.int .i64 n.mode) (.int .i64 n.uid) (.int .i64 n.gid) (.slice A1 n.data.length c1) (.slice A2 n.ents.length c2) (.string (bA n.target))) (some_ne hzn)
  have HT := Lib.hid ht
  have hgr := (grown7 W1 W.heap.size (.int .i64 n.kind) (.int .i64 n.mode) (.int .i64 n.uid) (.int .i64 n.gid) (.slice A1 n.data.length c1) (.slice A2 n.ents.length c2) (.string (bA n.target)))
  have HD8 := Lib.hid (hdx.other hgr (fun ad n c hv => by obtain ⟨cs2, hc2⟩ := hdx.2 ad n c hv; exact blk_ne hc2 hrx (by decide)))
  have HE8 := Lib.hid (hex.other hgr (fun ad n c hv => by obtain ⟨cs2, hc2⟩ := hex.2 ad n c hv; exact blk_ne hc2 hrx (by decide)))
  have HB8 := Lib.hid (below_grown (bt hbx HB0.out) hgr (Nat.le_refl _))
  have HC8 := Lib.hid hc
  clear hb hd he hc hbx hkx hdx hex hlt hrx ht hzn hgr HG HK0 HB0
  go_upto_region 2 with fail
  clear hW1 hz
  have HPR := Lib.hid (fun (V : World) (hb : Below W1.heap.size W1 V) => show V.cell? ⟨z, 0, none⟩ = some (.int .i64 n.kind) ∧ V.cell? ⟨z, 1, none⟩ = some (.int .i64 n.mode) ∧ V.cell? ⟨z, 2, none⟩ = some (.int .i64 n.uid) ∧ V.cell? ⟨z, 3, none⟩ = some (.int .i64 n.gid) ∧ V.cell? ⟨z, 4, none⟩ = some (.slice A1 n.data.length c1) ∧ V.cell? ⟨z, 5, none⟩ = some (.slice A2 n.ents.length c2) ∧ V.cell? ⟨z, 6, none⟩ = some (.string (bA n.target)) from (HKX.out.below hb).c7)
  have j0 := Lib.hid (show Below W1.heap.size W1 W1.drew from (Below.refl _ _).drew)
  obtain ⟨t0, t1, t2, t3, t4, t5, t6⟩ := (HT.out.below (Below.refl _ _).drew).c7
  obtain ⟨x0, x1, x2, x3, x4, x5, x6⟩ := HRX.out.c7
  obtain ⟨f0, f1, f2, f3, f4, f5, f6⟩ := HRX.out.f7
  obtain ⟨s0, s1, s2, s3, s4, s5, s6⟩ := HRX.out.s7
  go_region_held3 (fun V => V.cell? ⟨z, 0, none⟩ = some (.int .i64 n.kind) ∧ V.cell? ⟨z, 1, none⟩ = some (.int .i64 n.mode) ∧ V.cell? ⟨z, 2, none⟩ = some (.int .i64 n.uid) ∧ V.cell? ⟨z, 3, none⟩ = some (.int .i64 n.gid) ∧ V.cell? ⟨z, 4, none⟩ = some (.slice A1 n.data.length c1) ∧ V.cell? ⟨z, 5, none⟩ = some (.slice A2 n.ents.length c2) ∧ V.cell? ⟨z, 6, none⟩ = some (.string (bA n.target)))
    (first | (with_reducible exact HPR.out _ j0.out) | (with_reducible exact ⟨t0, t1, t2, t3, t4, t5, t6⟩))
    (fail)
  all_goals (
    go_wp2
    exact bodyPost_ret (v := .tuple #[.agg #[.int .i64 n.kind, .int .i64 n.mode, .int .i64 n.uid, .int .i64 n.gid, .slice A1 n.data.length c1, .slice A2 n.ents.length c2, .string (bA n.target)], .bool (n.kind == 1)]) (by simp [results, Tryz.results177, go_sem, s0, s1, s2, s3, s4, s5, s6]) rfl ⟨_, _, _, _, rfl, ⟨HD8.out.below (Below.refl _ _).drew, HE8.out.below (Below.refl _ _).drew, HC8.out⟩, HB8.out.drew⟩)
def FrA (w : World) (E : Int) (B : List UInt8) (e : Ending) (w' : World) : Prop := ∃ vb, e = .returned (.tuple #[vb, .int .i64 E]) ∧ BytesT w' vb B ∧ Below w.heap.size w w'
theorem fra_nil {w w' : World} {E x : Int} {B : List UInt8} (h : x = E) (hB : B = []) (hb : Below w.heap.size w w') : FrA w E B (.returned (.tuple #[.slice none 0 0, .int .i64 x])) w' := ⟨_, by rw [h], by rw [hB]; exact BytesT.nil w', hb⟩
set_option maxHeartbeats 8000000 in
theorem fread_any (v : Value) (t : List Nd) (i off n : Int) (w : World) (h : TabP w v t) (ho : okT t) :
    Calls Tryz.prog 119 #[v, .int .i64 i, .int .i64 off, .int .i64 n] w (FrA w (faE t i off n) (faB t i off n)) := by
  obtain ⟨N, hN⟩ : ∃ N, tget t i = N := ⟨_, rfl⟩
  have HL := Lib.hid (show N.kind = 1 → N.data.length ≤ 48 from fun hk => by rw [← hN] at hk ⊢; exact (file_parts (tis_right ho (kind_is hk)) hk).2.2.2)
  have HG := Lib.hid (file_any h i N hN)
  obtain ⟨E, hE⟩ : ∃ E, faE t i off n = E := ⟨_, rfl⟩
  obtain ⟨B, hB⟩ : ∃ B, faB t i off n = B := ⟨_, rfl⟩
  have hB2 := hB
  unfold faB at hB2
  rw [hE] at hB2
  have hE2 := hE
  unfold faE at hE2
  rw [hN] at hE2 hB2
  rw [hE, hB]
  have HE := Lib.hid hE2
  have HB := Lib.hid hB2
  clear h ho hN hE hB hB2 hE2
  go_enter Tryz.func119, Tryz.ntmps119
  go_wp2_with fail
  refine HG.out.mono ?_
  rintro e w1 ⟨A1, c1, A2, c2, rfl, ⟨hd, he, hc⟩, hb⟩
  have hbx := al hb (.cells #[.int .i64 N.kind, .int .i64 N.mode, .int .i64 N.uid, .int .i64 N.gid, .slice A1 N.data.length c1, .slice A2 N.ents.length c2, .string (bA N.target)] 82)
  have hkx := Blk.new w1 82 #[.int .i64 N.kind, .int .i64 N.mode, .int .i64 N.uid, .int .i64 N.gid, .slice A1 N.data.length c1, .slice A2 N.ents.length c2, .string (bA N.target)]
  have hdx : BytesT (w1.alloc (.cells #[.int .i64 N.kind, .int .i64 N.mode, .int .i64 N.uid, .int .i64 N.gid, .slice A1 N.data.length c1, .slice A2 N.ents.length c2, .string (bA N.target)] 82)) (.slice A1 N.data.length c1) N.data := hd.below (ba _ _)
  obtain ⟨W1, hW1⟩ : ∃ W, w1.alloc (.cells #[.int .i64 N.kind, .int .i64 N.mode, .int .i64 N.uid, .int .i64 N.gid, .slice A1 N.data.length c1, .slice A2 N.ents.length c2, .string (bA N.target)] 82) = W := ⟨_, rfl⟩
  obtain ⟨z, hz⟩ : ∃ z, w1.heap.size = z := ⟨_, rfl⟩
  rw [hW1] at hbx hkx hdx
  rw [hz] at hkx
  have HKX := Lib.hid hkx
  have HDX := Lib.hid hdx
  have HBX := Lib.hid hbx
  have HC := Lib.hid hc
  clear hb hd he hc hbx hkx hdx HG
  go_upto_region 2 with fail
  clear hW1 hz
  obtain ⟨a0, -, -, -, a4, -, -⟩ := HKX.out.c7
  by_cases qk : N.kind = 1
  case neg =>
    have yk : (N.kind == 1) = false := by simpa using qk
    have e1 : (9 : Int) = E := by rw [← HE.out, if_pos qk]
    have e2 : B = [] := by rw [← HB.out, if_neg (by rw [← e1]; decide)]
    have H1 := Lib.hid (And.intro e1 e2)
    clear qk e1 e2
    go_wp2
    go_ret2
    exact fra_nil H1.out.1 H1.out.2 HBX.out
  have yk : (N.kind == 1) = true := by simpa using qk
  have HQK := Lib.hid qk
  clear qk
  by_cases qo : off < 0 ∨ n < 0
  · have e1 : (22 : Int) = E := by rw [← HE.out, if_neg (fun q => q HQK.out), if_pos qo]
    have e2 : B = [] := by rw [← HB.out, if_neg (by rw [← e1]; decide)]
    have H1 := Lib.hid (And.intro e1 e2)
    clear e1 e2
    by_cases q1 : off < 0
    · clear qo
      go_wp2
      go_ret2
      exact fra_nil H1.out.1 H1.out.2 HBX.out
    · have q2 : n < 0 := qo.resolve_left q1
      clear qo
      go_wp2
      go_ret2
      exact fra_nil H1.out.1 H1.out.2 HBX.out
  have e1 : (0 : Int) = E := by rw [← HE.out, if_neg (fun q => q HQK.out), if_neg qo]
  have HE0 := Lib.hid e1
  have hB0 := HB.out
  rw [if_pos e1.symm] at hB0
  have HB0 := Lib.hid hB0
  clear e1 hB0 HE HB
  obtain ⟨o9, rfl⟩ : ∃ o : Nat, off = (o : Int) := ⟨off.toNat, by omega⟩
  obtain ⟨n9, rfl⟩ : ∃ o : Nat, n = (o : Int) := ⟨n.toNat, by omega⟩
  have q1 : ¬ (o9 : Int) < 0 := by omega
  have q2 : ¬ (n9 : Int) < 0 := by omega
  have hl48 := HL.out HQK.out
  clear qo
  obtain ⟨m9, hm9⟩ : ∃ m, min o9 N.data.length = m := ⟨_, rfl⟩
  have hmo : min (o9 : Int) (N.data.length : Int) = (m9 : Int) := by omega
  have hcap : N.data.length ≤ c1 := by
    by_cases h0 : 0 < N.data.length
    · exact HC.out h0
    · omega
  obtain ⟨AT, kt, htl, htd0⟩ := tail_bytes HDX.out.1 (show m9 ≤ N.data.length by omega) hcap
  have hdr : N.data.drop m9 = N.data.drop o9 := by
    by_cases h0 : o9 ≤ N.data.length
    · rw [show m9 = o9 by omega]
    · rw [List.drop_eq_nil_of_le (by omega), List.drop_eq_nil_of_le (by omega)]
  rw [hdr] at htd0
  obtain ⟨l9, hl9⟩ : ∃ l, N.data.length - m9 = l := ⟨_, rfl⟩
  rw [hl9] at htl htd0
  have hdl : (N.data.drop o9).length = l9 := by rw [← hdr, List.length_drop]; exact hl9
  obtain ⟨k9, hk9⟩ : ∃ k, min n9 l9 = k := ⟨_, rfl⟩
  have hk1 : k9 ≤ 48 := by omega
  have hmin : min (n9 : Int) (l9 : Int) = (k9 : Int) := by omega
  have hmk := make_zero k9 (by omega) W1
  have hbm := al HBX.out (.cells (bCells (List.replicate k9 0)).toArray 5)
  have hkm : RowB (W1.alloc (.cells (bCells (List.replicate k9 0)).toArray 5)) W1.heap.size (List.replicate k9 0) := Blk.new W1 5 _
  have htd := htd0.below (ba W1 (.cells (bCells (List.replicate k9 0)).toArray 5))
  have hxm := HKX.out.below (ba W1 (.cells (bCells (List.replicate k9 0)).toArray 5))
  obtain ⟨W2, hW2⟩ : ∃ W, W1.alloc (.cells (bCells (List.replicate k9 0)).toArray 5) = W := ⟨_, rfl⟩
  have hgw := HBX.out.size
  obtain ⟨g, hg⟩ : ∃ g, W1.heap.size = g := ⟨_, rfl⟩
  rw [hW2] at hbm hkm htd hxm hmk
  rw [hg] at hkm hmk hgw
  obtain ⟨W3, hcp, hrow, hgr⟩ := copy_bytes (o := 0) (dl := k9) (dc := k9) hkm htd (k := k9) (Nat.min_eq_right (by omega)) (by rw [List.length_replicate]; omega)
  have HR := Lib.hid (show FrA w E B (.returned (.tuple #[.slice (some ⟨g, 0, none⟩) k9 k9, .int .i64 0])) W3 from ⟨_, by rw [HE0.out], by
    have e : B = (List.replicate k9 (0 : UInt8)).take 0 ++ (N.data.drop o9).take k9 ++ (List.replicate k9 (0 : UInt8)).drop (0 + k9) := by
      have e0 : (N.data.drop o9).take n9 = (N.data.drop o9).take k9 := by rw [List.take_eq_take_min, hdl, hk9]
      rw [← HB0.out]
      simp [e0]
    rw [e]
    exact hrow.bytesT (by rw [List.take_zero, List.nil_append, List.length_append, List.length_take, hdl, List.length_drop, List.length_replicate]; omega), below_grown hbm hgr hgw⟩)
  have htl1 := htl W1
  clear htd0 htd hdr hdl hrow hgr hbm hkm hxm hW2 hg hgw htl hk9 hl9 hm9 hcap
  go_upto_region 9 with fail
  go_wp2
  go_ret2
  exact HR.out
theorem freadC : ReadC := fun v t i off n w h ho => fread_any v t i off n w h ho
end Go.Proofs.YtkmkfolpjlkfoaaGreat
namespace Go.Proofs.YtkmkfolpjlkfoaaGreat
open Go Go.RowKit
set_option maxRecDepth 100000

attribute [local go_sem] cell_off4 cell_blk4
set_option maxHeartbeats 8000000 in
theorem changed_any (n : Nd) (c : Wh) (A0 : Option Addr) (m k : Nat) (A1 A2 A9 : Option Addr) (n1 c1 n2 c2 n9 k9 : Nat) (w : World) :
    Calls Tryz.prog 178 #[.agg #[.int .i64 n.kind, .int .i64 n.mode, .int .i64 n.uid, .int .i64 n.gid, .slice A1 n1 c1, .slice A2 n2 c2, .string (bA n.target)], .agg #[.int .i64 c.u, .int .i64 c.g, .slice A0 m k], .slice A9 n9 k9] w fun e w' => e = .returned (.agg #[.int .i64 n.kind, .int .i64 (writM c.u n.kind n.mode), .int .i64 n.uid, .int .i64 n.gid, .slice A9 n9 k9, .slice A2 n2 c2, .string (bA n.target)]) ∧ Below w.heap.size w w' := by
  have hb3 : Below w.heap.size w (((w.alloc (.cells #[.int .i64 n.kind, .int .i64 n.mode, .int .i64 n.uid, .int .i64 n.gid, .slice A1 n1 c1, .slice A2 n2 c2, .string (bA n.target)] 82)).alloc (.cells #[.int .i64 c.u, .int .i64 c.g, .slice A0 m k] 35)).alloc (.cells ndZ 82)) := al (al (ba _ _) _) _
  have hkN : Blk (((w.alloc (.cells #[.int .i64 n.kind, .int .i64 n.mode, .int .i64 n.uid, .int .i64 n.gid, .slice A1 n1 c1, .slice A2 n2 c2, .string (bA n.target)] 82)).alloc (.cells #[.int .i64 c.u, .int .i64 c.g, .slice A0 m k] 35)).alloc (.cells ndZ 82)) w.heap.size 82 #[.int .i64 n.kind, .int .i64 n.mode, .int .i64 n.uid, .int .i64 n.gid, .slice A1 n1 c1, .slice A2 n2 c2, .string (bA n.target)] := ((Blk.new w 82 #[.int .i64 n.kind, .int .i64 n.mode, .int .i64 n.uid, .int .i64 n.gid, .slice A1 n1 c1, .slice A2 n2 c2, .string (bA n.target)]).alloc _).alloc _
  have hkC : Blk (((w.alloc (.cells #[.int .i64 n.kind, .int .i64 n.mode, .int .i64 n.uid, .int .i64 n.gid, .slice A1 n1 c1, .slice A2 n2 c2, .string (bA n.target)] 82)).alloc (.cells #[.int .i64 c.u, .int .i64 c.g, .slice A0 m k] 35)).alloc (.cells ndZ 82)) (w.heap.size + 1) 35 #[.int .i64 c.u, .int .i64 c.g, .slice A0 m k] := by have h1 := (Blk.new (w.alloc (.cells #[.int .i64 n.kind, .int .i64 n.mode, .int .i64 n.uid, .int .i64 n.gid, .slice A1 n1 c1, .slice A2 n2 c2, .string (bA n.target)] 82)) 35 #[.int .i64 c.u, .int .i64 c.g, .slice A0 m k]).alloc (.cells ndZ 82); simpa using h1
  have hkR : Blk (((w.alloc (.cells #[.int .i64 n.kind, .int .i64 n.mode, .int .i64 n.uid, .int .i64 n.gid, .slice A1 n1 c1, .slice A2 n2 c2, .string (bA n.target)] 82)).alloc (.cells #[.int .i64 c.u, .int .i64 c.g, .slice A0 m k] 35)).alloc (.cells ndZ 82)) (w.heap.size + 1 + 1) 82 ndZ := by have h1 := Blk.new ((w.alloc (.cells #[.int .i64 n.kind, .int .i64 n.mode, .int .i64 n.uid, .int .i64 n.gid, .slice A1 n1 c1, .slice A2 n2 c2, .string (bA n.target)] 82)).alloc (.cells #[.int .i64 c.u, .int .i64 c.g, .slice A0 m k] 35)) 82 ndZ; simpa using h1
  obtain ⟨W1, hW1⟩ : ∃ W, (((w.alloc (.cells #[.int .i64 n.kind, .int .i64 n.mode, .int .i64 n.uid, .int .i64 n.gid, .slice A1 n1 c1, .slice A2 n2 c2, .string (bA n.target)] 82)).alloc (.cells #[.int .i64 c.u, .int .i64 c.g, .slice A0 m k] 35)).alloc (.cells ndZ 82)) = W := ⟨_, rfl⟩
  rw [hW1] at hb3 hkN hkC hkR
  obtain ⟨zc, hzc⟩ : ∃ z, w.heap.size + 1 = z := ⟨_, rfl⟩
  rw [hzc] at hkC hkR
  obtain ⟨zr, hzr⟩ : ∃ z, zc + 1 = z := ⟨_, rfl⟩
  rw [hzr] at hkR
  have hnz : zr ≠ w.heap.size := by omega
  have hcz : zc ≠ w.heap.size := by omega
  have hlz : w.heap.size ≤ zr := by omega
  obtain ⟨M, hM⟩ : ∃ M, writM c.u n.kind n.mode = M := ⟨_, rfl⟩
  have hWT := fun (W : World) => written_any c.u c.g A0 m k n.kind n.mode W
  rw [hM] at hWT
  rw [hM]
  have HWT := Lib.hid hWT
  have HB3 := Lib.hid hb3
  have HKN := Lib.hid hkN
  have HKC := Lib.hid hkC
  have HKR := Lib.hid hkR
  have HNZ := Lib.hid hnz
  have HCZ := Lib.hid hcz
  have HLZ := Lib.hid hlz
  obtain ⟨p0, p1, p2, p3, p4, p5, p6⟩ := hkN.c7
  obtain ⟨f0, f1, f2, f3, f4, f5, f6⟩ := hkN.f7
  clear hb3 hkN hkC hkR hnz hcz hlz hM hWT
  go_enter Tryz.func178, Tryz.ntmps178
  go_upto_region 2 with fail
  clear hW1 hzc hzr p0 p1 p2 p3 p4 p5 p6 f0 f1 f2 f3 f4 f5 f6
  have hg := grown_setCell W1 ⟨w.heap.size, 4, none⟩ (.slice A9 n9 k9)
  have hkN2 := HKN.out.set7_4 (.slice A9 n9 k9)
  have hkC2 := HKC.out.kept hg (some_ne HCZ.out)
  have hkR2 := HKR.out.kept hg (some_ne HNZ.out)
  have hb4 := below_grown HB3.out hg (Nat.le_refl _)
  obtain ⟨W2, hW2⟩ : ∃ W, W1.setCell ⟨w.heap.size, 4, none⟩ (.slice A9 n9 k9) = W := ⟨_, rfl⟩
  rw [hW2] at hkN2 hkC2 hkR2 hb4 ⊢
  have HB4 := Lib.hid hb4
  have HKN2 := Lib.hid hkN2
  have HKC2 := Lib.hid hkC2
  have HKR2 := Lib.hid hkR2
  clear hg hkN2 hkC2 hkR2 hb4 hW2 HB3 HKN HKC HKR
  obtain ⟨p0, p1, p2, p3, p4, p5, p6⟩ := HKN2.out.c7
  obtain ⟨k0, k1, k2⟩ := HKC2.out.c3
  go_wp2_with fail
  refine (HWT.out _).mono ?_
  rintro e w3 ⟨rfl, hb⟩
  have hkN3 := HKN2.out.below hb
  have HKR3 := Lib.hid (HKR2.out.below hb)
  have HB5 := Lib.hid (bt hb HB4.out)
  have HKN3 := Lib.hid hkN3
  clear hb hkN3 k0 k1 k2 p0 p1 p2 p3 p4 p5 p6 HWT
  obtain ⟨p0, p1, p2, p3, p4, p5, p6⟩ := HKN3.out.c7
  obtain ⟨f0, f1, f2, f3, f4, f5, f6⟩ := HKN3.out.f7
  go_upto_region 3 with fail
  clear p0 p1 p2 p3 p4 p5 p6 f0 f1 f2 f3 f4 f5 f6
  have hg := grown_setCell w3 ⟨w.heap.size, 1, none⟩ (.int .i64 M)
  have hkN4 : Blk (w3.setCell ⟨w.heap.size, 1, none⟩ (.int .i64 M)) w.heap.size 82 #[.int .i64 n.kind, .int .i64 M, .int .i64 n.uid, .int .i64 n.gid, .slice A9 n9 k9, .slice A2 n2 c2, .string (bA n.target)] := HKN3.out.set_ 1 _
  have hkR4 := HKR3.out.kept hg (some_ne HNZ.out)
  have hb6 := below_grown HB5.out hg (Nat.le_refl _)
  obtain ⟨W4, hW4⟩ : ∃ W, w3.setCell ⟨w.heap.size, 1, none⟩ (.int .i64 M) = W := ⟨_, rfl⟩
  rw [hW4] at hkN4 hkR4 hb6 ⊢
  have HB6 := Lib.hid hb6
  clear hb6 hg hW4
  obtain ⟨p0, p1, p2, p3, p4, p5, p6⟩ := hkN4.c7
  obtain ⟨x0, x1, x2, x3, x4, x5, x6⟩ := hkR4.c7
  obtain ⟨f0, f1, f2, f3, f4, f5, f6⟩ := hkR4.f7
  obtain ⟨s0, s1, s2, s3, s4, s5, s6⟩ := hkR4.s7
  have HE := Lib.hid (below_grown HB6.out (grown7 W4 zr (.int .i64 n.kind) (.int .i64 M) (.int .i64 n.uid) (.int .i64 n.gid) (.slice A9 n9 k9) (.slice A2 n2 c2) (.string (bA n.target))) HLZ.out)
  clear hkN4 hkR4
  go_wp2
  exact bodyPost_ret (v := .agg #[.int .i64 n.kind, .int .i64 M, .int .i64 n.uid, .int .i64 n.gid, .slice A9 n9 k9, .slice A2 n2 c2, .string (bA n.target)]) (by simp [results, Tryz.results178, go_sem, s0, s1, s2, s3, s4, s5, s6]) rfl ⟨rfl, HE.out⟩
theorem row_ovr (d b : List UInt8) (o n : Nat) (hn : max d.length (o + b.length) = n) :
    (((List.replicate n (0 : UInt8)).take 0 ++ d.take d.length ++ (List.replicate n (0 : UInt8)).drop (0 + d.length)).take o ++ b.take b.length ++ ((List.replicate n (0 : UInt8)).take 0 ++ d.take d.length ++ (List.replicate n (0 : UInt8)).drop (0 + d.length)).drop (o + b.length)) = ovr d o b := by
  unfold ovr
  rw [List.take_zero, List.nil_append, List.take_length, List.take_length, Nat.zero_add, List.drop_replicate, List.append_assoc]
  congr 1
  · rw [List.take_append, List.take_append, List.take_replicate, List.take_replicate]
    congr 2
    omega
  · congr 1
    rw [List.drop_append, List.drop_replicate, show n - d.length - (o + b.length - d.length) = 0 by omega, List.replicate_zero, List.append_nil]
theorem tail_row (g n o : Nat) (h : o < n) (w : World) : (Instr.slice 46 (.slice (some ⟨g, 0, none⟩) n n) (some (.int .i64 (o : Int))) none none).run Tryz.prog w = .ok (.slice (some ⟨g, o, none⟩) (n - o) (n - o)) w := by
  rw [run_slice_l w _ _ _ _ (by kernel_rfl) .i64 (o : Int) (by omega) (by omega), size_bt]
  have e : (⟨g, 0, none⟩ : Addr).add (o * 1) = ⟨g, o, none⟩ := by unfold Addr.add; by_cases hk : o = 0 <;> simp [hk]
  simp [Result.andThen, sliced]
  rw [if_neg (by omega)]
  simpa using e
set_option maxHeartbeats 8000000 in
theorem overlaid_any (d b : List UInt8) (A1 A9 : Option Addr) (c1 k9 o9 : Nat) (w : World) (hd : BytesR w (.slice A1 d.length c1) d) (hb : BytesR w (.slice A9 b.length k9) b) (hb0 : 0 < b.length) (hdl : d.length ≤ 48) (hbl : o9 + b.length ≤ 48) (n9 : Nat) (hn9 : max d.length (o9 + b.length) = n9) :
    Calls Tryz.prog 179 #[.slice A1 d.length c1, .int .i64 (o9 : Int), .slice A9 b.length k9] w fun e w' => ∃ y, e = .returned (.slice (some ⟨y, 0, none⟩) n9 n9) ∧ BytesT w' (.slice (some ⟨y, 0, none⟩) n9 n9) (ovr d o9 b) ∧ Below w.heap.size w w' := by
  have hn48 : n9 ≤ 48 := by omega
  have hmax : max (d.length : Int) ((o9 : Int) + (b.length : Int)) = (n9 : Int) := by omega
  have hsum : IntKind.i64.wrap ((o9 : Int) + (b.length : Int)) = (o9 : Int) + (b.length : Int) := by rw [IntKind.wrap_i64] <;> omega
  have hmk := make_zero n9 (by omega) w
  have hbm := ba w (.cells (bCells (List.replicate n9 0)).toArray 5)
  have hkm : RowB (w.alloc (.cells (bCells (List.replicate n9 0)).toArray 5)) w.heap.size (List.replicate n9 0) := Blk.new w 5 _
  have hdm := hd.below (ba w (.cells (bCells (List.replicate n9 0)).toArray 5))
  obtain ⟨W2, hW2⟩ : ∃ W, w.alloc (.cells (bCells (List.replicate n9 0)).toArray 5) = W := ⟨_, rfl⟩
  obtain ⟨y, hy⟩ : ∃ y, w.heap.size = y := ⟨_, rfl⟩
  rw [hW2] at hbm hkm hdm hmk
  rw [hy] at hkm hmk
  have hgw : w.heap.size ≤ y := by omega
  obtain ⟨W3, hcp1, hrow1, hgr1⟩ := copy_bytes (o := 0) (dl := n9) (dc := n9) hkm hdm (k := d.length) (Nat.min_eq_left (by omega)) (by rw [List.length_replicate]; omega)
  have hb3 := below_grown hbm hgr1 hgw
  have hrl : ((List.replicate n9 (0 : UInt8)).take 0 ++ d.take d.length ++ (List.replicate n9 (0 : UInt8)).drop (0 + d.length)).length = n9 := by simp; omega
  obtain ⟨W4, hcp2, hrow2, hgr2⟩ := copy_bytes (o := o9) (dl := n9 - o9) (dc := n9 - o9) hrow1 (hb.below hb3) (k := b.length) (Nat.min_eq_left (by omega)) (by rw [hrl]; omega)
  have hb4 := below_grown hb3 hgr2 hgw
  rw [row_ovr d b o9 n9 hn9] at hrow2
  have hrt := tail_row y n9 o9 (by omega) W3
  have hdt := hrow2.bytesT (n := n9) (c := n9) (by rw [ovr_len]; exact hn9)
  have HE := Lib.hid (And.intro hdt hb4)
  clear hd hb hb0 hdl hbm hkm hdm hgw hrow1 hrow2 hgr1 hgr2 hb3 hb4 hrl hdt hW2 hy hn9
  go_enter Tryz.func179, Tryz.ntmps179
  go_upto_region 4 with fail
  go_wp2
  go_ret
  exact ⟨y, rfl, HE.out.1, HE.out.2⟩
def FwA (w : World) (g : Nat) (P : Nat → Prop) (E : Int) (T : List Nd) (e : Ending) (w' : World) : Prop := e = .returned (.int .i64 E) ∧ TabR w' g T P ∧ w.grownBy w' (some g)
set_option maxHeartbeats 8000000 in
theorem fwrite_slice (g : Nat) (t : List Nd) (P : Nat → Prop) (c : Wh) (A0 : Option Addr) (m k : Nat) (i off : Int) (b : List UInt8) (A9 : Option Addr) (k9 : Nat) (w : World) (h : TabR w g t P) (ho : okT t) (hb : BytesR w (.slice A9 b.length k9) b) (hbl : b.length ≤ 1000) (hP : ∀ b, w.heap.size ≤ b → P b) :
    Calls Tryz.prog 120 #[.pointer (some ⟨g, 0, none⟩), .agg #[.int .i64 c.u, .int .i64 c.g, .slice A0 m k], .int .i64 i, .int .i64 off, .slice A9 b.length k9] w (FwA w g P (fwE t i off b) (fwT t c i off b)) := by
  obtain ⟨N, hN⟩ : ∃ N, tget t i = N := ⟨_, rfl⟩
  have HL := Lib.hid (show N.kind = 1 → N.data.length ≤ 48 from fun hk => by rw [← hN] at hk ⊢; exact (file_parts (tis_right ho (kind_is hk)) hk).2.2.2)
  have HRT := Lib.hid (show ∀ o : Nat, fwE t i (o : Int) b = 0 → b ≠ [] → rightP (wrN c N (ovr N.data o b)) from fun o hf hne => by have h1 := fw_right ho c hf hne; rw [hN] at h1; exact h1)
  have HTI := Lib.hid (show N.kind = 1 → tis t i = true from fun hk => kind_is (by rw [hN]; exact hk))
  have HT2 := Lib.hid (show fwE t i off b = 0 → b ≠ [] → fwT t c i off b = setT t i (wrN c N (ovr N.data off.toNat b)) from fun hf hne => by unfold fwT; rw [if_pos ⟨hf, hne⟩, hN])
  have HT0 := Lib.hid (show ¬ (fwE t i off b = 0 ∧ b ≠ []) → fwT t c i off b = t from fun hf => by unfold fwT; rw [if_neg hf])
  have hb0 := ba w (.cells #[.int .i64 c.u, .int .i64 c.g, .slice A0 m k] 35)
  have hk0 := Blk.new w 35 #[.int .i64 c.u, .int .i64 c.g, .slice A0 m k]
  obtain ⟨W0, hW0⟩ : ∃ W, w.alloc (.cells #[.int .i64 c.u, .int .i64 c.g, .slice A0 m k] 35) = W := ⟨_, rfl⟩
  rw [hW0] at hb0 hk0
  have HG := Lib.hid (file_any (h.below hb0).ptr i N hN)
  obtain ⟨E, hE⟩ : ∃ E, fwE t i off b = E := ⟨_, rfl⟩
  have hE2 := hE
  unfold fwE at hE2
  rw [hN] at hE2
  have HE := Lib.hid hE2
  have HK0 := Lib.hid hk0
  have HB0 := Lib.hid hb0
  have HT := Lib.hid h
  have HY := Lib.hid hb
  have HP := Lib.hid hP
  have HBL := Lib.hid hbl
  have HZ := Lib.hid (show w.heap.size ≠ g from Nat.ne_of_gt h.lt)
  have HEE := Lib.hid hE
  rw [hE]
  clear h ho hN hE hE2 hb hbl hP hb0
  go_enter Tryz.func120, Tryz.ntmps120
  go_wp2_with fail
  clear hW0
  refine HG.out.mono ?_
  rintro e w1 ⟨A1, c1, A2, c2, rfl, ⟨hd, he, hc⟩, hb⟩
  have hbx := al (bt hb HB0.out) (.cells #[.int .i64 N.kind, .int .i64 N.mode, .int .i64 N.uid, .int .i64 N.gid, .slice A1 N.data.length c1, .slice A2 N.ents.length c2, .string (bA N.target)] 82)
  have hkx := Blk.new w1 82 #[.int .i64 N.kind, .int .i64 N.mode, .int .i64 N.uid, .int .i64 N.gid, .slice A1 N.data.length c1, .slice A2 N.ents.length c2, .string (bA N.target)]
  have hdx : BytesT (w1.alloc (.cells #[.int .i64 N.kind, .int .i64 N.mode, .int .i64 N.uid, .int .i64 N.gid, .slice A1 N.data.length c1, .slice A2 N.ents.length c2, .string (bA N.target)] 82)) (.slice A1 N.data.length c1) N.data := hd.below (ba _ _)
  have hex : EntsT (w1.alloc (.cells #[.int .i64 N.kind, .int .i64 N.mode, .int .i64 N.uid, .int .i64 N.gid, .slice A1 N.data.length c1, .slice A2 N.ents.length c2, .string (bA N.target)] 82)) (.slice A2 N.ents.length c2) N.ents := he.below (ba _ _)
  have hcx := (HK0.out.below hb).below (ba w1 (.cells #[.int .i64 N.kind, .int .i64 N.mode, .int .i64 N.uid, .int .i64 N.gid, .slice A1 N.data.length c1, .slice A2 N.ents.length c2, .string (bA N.target)] 82))
  obtain ⟨W1, hW1⟩ : ∃ W, w1.alloc (.cells #[.int .i64 N.kind, .int .i64 N.mode, .int .i64 N.uid, .int .i64 N.gid, .slice A1 N.data.length c1, .slice A2 N.ents.length c2, .string (bA N.target)] 82) = W := ⟨_, rfl⟩
  obtain ⟨z, hz⟩ : ∃ z, w1.heap.size = z := ⟨_, rfl⟩
  rw [hW1] at hbx hkx hdx hex hcx
  rw [hz] at hkx
  have HKX := Lib.hid hkx
  have HDX := Lib.hid hdx
  have HEX := Lib.hid hex
  have HCX := Lib.hid hcx
  have HBX := Lib.hid hbx
  clear hb hd he hc hbx hkx hdx hex hcx hk0 HG HK0 HB0
  go_upto_block 0 with fail
  clear hW1 hz
  obtain ⟨a0, -, -, -, a4, -, -⟩ := HKX.out.c7
  by_cases qk : N.kind = 1
  case neg =>
    have yk : (N.kind == 1) = false := by simpa using qk
    have e1 : E = 9 := by rw [← HE.out, if_pos qk]
    have H1 := Lib.hid (And.intro e1 (HT0.out (fun q => by rw [HEE.out, e1] at q; exact absurd q.1 (by decide))))
    clear qk e1
    go_wp2
    go_ret
    exact ⟨ret_int H1.out.1.symm, by rw [H1.out.2]; exact HT.out.below HBX.out, grown_below HBX.out _⟩
  have yk : (N.kind == 1) = true := by simpa using qk
  have HQK := Lib.hid qk
  clear qk
  by_cases qo : off < 0
  · have e1 : E = 22 := by rw [← HE.out, if_neg (fun q => q HQK.out), if_pos qo]
    have H1 := Lib.hid (And.intro e1 (HT0.out (fun q => by rw [HEE.out, e1] at q; exact absurd q.1 (by decide))))
    clear e1
    go_wp2
    go_ret
    exact ⟨ret_int H1.out.1.symm, by rw [H1.out.2]; exact HT.out.below HBX.out, grown_below HBX.out _⟩
  obtain ⟨o9, rfl⟩ : ∃ o : Nat, off = (o : Int) := ⟨off.toNat, by omega⟩
  by_cases qb : b = []
  · have e1 : E = 0 := by rw [← HE.out, if_neg (fun q => q HQK.out), if_neg qo, if_pos qb]
    have H1 := Lib.hid (And.intro e1 (HT0.out (fun q => q.2 qb)))
    have yb : ((b.length : Int) == 0) = true := by rw [qb]; rfl
    clear e1 qb
    go_wp2
    go_ret
    exact ⟨ret_int H1.out.1.symm, by rw [H1.out.2]; exact HT.out.below HBX.out, grown_below HBX.out _⟩
  have yb : ((b.length : Int) == 0) = false := by simp; exact qb
  have HQB := Lib.hid qb
  have hb1 := List.length_pos_iff.mpr qb
  clear qb
  by_cases qf : 48 < (o9 : Int) + (b.length : Int)
  · have e1 : E = 27 := by rw [← HE.out, if_neg (fun q => q HQK.out), if_neg qo, if_neg HQB.out, if_pos qf]
    have H1 := Lib.hid (And.intro e1 (HT0.out (fun q => by rw [HEE.out, e1] at q; exact absurd q.1 (by decide))))
    have hbl := HBL.out
    have hw : IntKind.i64.wrap (48 - (b.length : Int)) = 48 - (b.length : Int) := by rw [IntKind.wrap_i64] <;> omega
    have q9 : 48 - (b.length : Int) < (o9 : Int) := by omega
    clear e1 qf
    go_wp2
    go_ret
    exact ⟨ret_int H1.out.1.symm, by rw [H1.out.2]; exact HT.out.below HBX.out, grown_below HBX.out _⟩
  have e1 : E = 0 := by rw [← HE.out, if_neg (fun q => q HQK.out), if_neg qo, if_neg HQB.out, if_neg qf]
  have hTT : fwT t c i (o9 : Int) b = setT t i (wrN c N (ovr N.data o9 b)) := HT2.out (by rw [HEE.out, e1]) HQB.out
  have hRT := HRT.out o9 (by rw [HEE.out, e1]) HQB.out
  have hl48 := HL.out HQK.out
  have hbl := HBL.out
  have hw : IntKind.i64.wrap (48 - (b.length : Int)) = 48 - (b.length : Int) := by rw [IntKind.wrap_i64] <;> omega
  have hq9 : ¬ 48 - (b.length : Int) < (o9 : Int) := by omega
  go_upto_region 10 with fail
  obtain ⟨n9, hn9⟩ : ∃ n, max N.data.length (o9 + b.length) = n := ⟨_, rfl⟩
  have HOV := Lib.hid (fun (V : World) (hv : Below W1.heap.size W1 V) => overlaid_any N.data b A1 A9 c1 k9 o9 V (HDX.out.below hv).1 (HY.out.below (bt hv HBX.out)) hb1 hl48 (by omega) n9 hn9)
  have HCH := Lib.hid (fun (V : World) (y : Nat) => changed_any N c A0 m k A1 A2 (some ⟨y, 0, none⟩) N.data.length c1 N.ents.length c2 n9 n9 V)
  have HPT := Lib.hid (fun (V : World) (y : Nat) (hv : Below W1.heap.size W1 V) (hbv : BytesT V (.slice (some ⟨y, 0, none⟩) n9 n9) (ovr N.data o9 b)) => show Calls Tryz.prog 102 #[.pointer (some ⟨g, 0, none⟩), .int .i64 i, .agg #[.int .i64 N.kind, .int .i64 (writM c.u N.kind N.mode), .int .i64 N.uid, .int .i64 N.gid, .slice (some ⟨y, 0, none⟩) n9 n9, .slice A2 N.ents.length c2, .string (bA N.target)]] V fun e w' => e = .returned (.int .i64 0) ∧ TabR w' g (setT t i (wrN c N (ovr N.data o9 b))) P ∧ V.grownBy w' (some g) from by
    have h1 := put_any g t P i (wrN c N (ovr N.data o9 b)) (.slice (some ⟨y, 0, none⟩) n9 n9) (.slice A2 N.ents.length c2) V (HT.out.below (bt hv HBX.out)) hbv.1 (HEX.out.below hv).1 (right_few hRT) (fun b q => HP.out b (Nat.le_trans (bt hv HBX.out).size q))
    rw [actT, if_pos rfl, if_pos ⟨HTI.out HQK.out, toB_true hRT⟩, putE, if_neg (by rw [HTI.out HQK.out]; decide), if_neg (by rw [toB_true hRT]; decide)] at h1
    exact h1)
  have HPR := Lib.hid (fun (V : World) (hv : Below W1.heap.size W1 V) => show V.cell? ⟨z, 0, none⟩ = some (.int .i64 N.kind) ∧ V.cell? ⟨z, 1, none⟩ = some (.int .i64 N.mode) ∧ V.cell? ⟨z, 2, none⟩ = some (.int .i64 N.uid) ∧ V.cell? ⟨z, 3, none⟩ = some (.int .i64 N.gid) ∧ V.cell? ⟨z, 4, none⟩ = some (.slice A1 N.data.length c1) ∧ V.cell? ⟨z, 5, none⟩ = some (.slice A2 N.ents.length c2) ∧ V.cell? ⟨z, 6, none⟩ = some (.string (bA N.target)) ∧ V.cell? ⟨w.heap.size, 0, none⟩ = some (.int .i64 c.u) ∧ V.cell? ⟨w.heap.size, 1, none⟩ = some (.int .i64 c.g) ∧ V.cell? ⟨w.heap.size, 2, none⟩ = some (.slice A0 m k) from by
    obtain ⟨a0, a1, a2, a3, a4, a5, a6⟩ := (HKX.out.below hv).c7
    obtain ⟨b0, b1, b2⟩ := (HCX.out.below hv).c3
    exact ⟨a0, a1, a2, a3, a4, a5, a6, b0, b1, b2⟩)
  have HPG := Lib.hid (fun (V V' : World) (hv : Below W1.heap.size W1 V) (hg : V.grownBy V' (some g)) => show V'.cell? ⟨z, 0, none⟩ = some (.int .i64 N.kind) ∧ V'.cell? ⟨z, 1, none⟩ = some (.int .i64 N.mode) ∧ V'.cell? ⟨z, 2, none⟩ = some (.int .i64 N.uid) ∧ V'.cell? ⟨z, 3, none⟩ = some (.int .i64 N.gid) ∧ V'.cell? ⟨z, 4, none⟩ = some (.slice A1 N.data.length c1) ∧ V'.cell? ⟨z, 5, none⟩ = some (.slice A2 N.ents.length c2) ∧ V'.cell? ⟨z, 6, none⟩ = some (.string (bA N.target)) ∧ V'.cell? ⟨w.heap.size, 0, none⟩ = some (.int .i64 c.u) ∧ V'.cell? ⟨w.heap.size, 1, none⟩ = some (.int .i64 c.g) ∧ V'.cell? ⟨w.heap.size, 2, none⟩ = some (.slice A0 m k) from by
    obtain ⟨cs2, hgx, -⟩ := (HT.out.below (bt hv HBX.out)).blk
    obtain ⟨a0, a1, a2, a3, a4, a5, a6⟩ := ((HKX.out.below hv).kept hg (some_ne (blk_ne (HKX.out.below hv) hgx (by decide)))).c7
    obtain ⟨b0, b1, b2⟩ := ((HCX.out.below hv).kept hg (some_ne HZ.out)).c3
    exact ⟨a0, a1, a2, a3, a4, a5, a6, b0, b1, b2⟩)
  have j0 := Lib.hid (show Below W1.heap.size W1 W1.drew from (Below.refl _ _).drew)
  have HEND := Lib.hid (And.intro e1 hTT)
  clear e1 hTT hRT hl48 hbl hn9 hb1 a0 a4 HL HTI HT2 HT0 HE HEE
  go_region_held3 (fun V => V.cell? ⟨z, 0, none⟩ = some (.int .i64 N.kind) ∧ V.cell? ⟨z, 1, none⟩ = some (.int .i64 N.mode) ∧ V.cell? ⟨z, 2, none⟩ = some (.int .i64 N.uid) ∧ V.cell? ⟨z, 3, none⟩ = some (.int .i64 N.gid) ∧ V.cell? ⟨z, 4, none⟩ = some (.slice A1 N.data.length c1) ∧ V.cell? ⟨z, 5, none⟩ = some (.slice A2 N.ents.length c2) ∧ V.cell? ⟨z, 6, none⟩ = some (.string (bA N.target)) ∧ V.cell? ⟨w.heap.size, 0, none⟩ = some (.int .i64 c.u) ∧ V.cell? ⟨w.heap.size, 1, none⟩ = some (.int .i64 c.g) ∧ V.cell? ⟨w.heap.size, 2, none⟩ = some (.slice A0 m k))
    (first | (with_reducible exact HPR.out _ j0.out) | (with_reducible exact HPR.out _ j1.out) | (with_reducible exact HPR.out _ j2.out) | (with_reducible exact HPG.out _ _ j2.out h5.out.2))
    (first
    | (go_at_call 179; (with_reducible refine (HOV.out _ j0.out).mono ?_); rintro e1 w3 ⟨y, rfl, hdt, hb3⟩; have j1 := Lib.hid (bt hb3 j0.out); have d1 := Lib.hid hdt; clear hb3 hdt)
    | (go_at_call 178; (with_reducible refine (HCH.out _ _).mono ?_); rintro e2 w4 ⟨rfl, hb4⟩; have j2 := Lib.hid (bt hb4 j1.out); have d2 := Lib.hid (d1.out.below hb4); clear hb4)
    | (go_at_call 102; (with_reducible refine (HPT.out _ _ j2.out d2.out).mono ?_); rintro e3 w5 ⟨rfl, ht, hg⟩; have h5 := Lib.hid (And.intro ht hg); clear ht hg))
  all_goals (
    go_wp2
    go_ret
    exact ⟨ret_int HEND.out.1.symm, by rw [HEND.out.2]; exact h5.out.1, grown_trans (grown_below (bt j2.out HBX.out) _) h5.out.2⟩)
theorem fwriteC : WriteC := fun g t P c A0 m k i off b vb w h ho _ hb hbl hP => by
  obtain ⟨A9, k9, rfl⟩ := bytes_form hb rfl
  exact fwrite_slice g t P c A0 m k i off b A9 k9 w h ho hb hbl hP
end Go.Proofs.YtkmkfolpjlkfoaaGreat
