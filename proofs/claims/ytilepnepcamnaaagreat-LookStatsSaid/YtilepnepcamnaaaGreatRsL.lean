/-
  The names that are left, where one is, and how many links were followed, as package resolve's loop has them in boxes; what its closure makes of them. The conditions are said at it.
-/
import Derived.Test.YtilepnepcamnaaaGreatRsM
namespace Go.Proofs.YtilepnepcamnaaaGreat
open Go Go.RowKit
set_option maxRecDepth 100000

attribute [local go_sem] cell_off4 cell_blk4
/-- Texts, in a block of texts. -/
def StrsT (w : World) (v : Value) (l : List ByteArray) : Prop := StrsR w v l ∧ ∀ (ad : Addr) (n c : Nat), v = .slice (some ad) n c → ∃ cs, Blk w ad.block 9 cs
theorem StrsT.below {w w' : World} {v : Value} {l : List ByteArray} (h : StrsT w v l) (hb : Below w.heap.size w w') : StrsT w' v l :=
  ⟨h.1.below hb, fun ad n c hv => by obtain ⟨cs, hk⟩ := h.2 ad n c hv; exact ⟨cs, hk.below hb⟩⟩
theorem StrsT.other {w w' : World} {g : Nat} {t : TypeId} {cs : Array Value} {v : Value} {l : List ByteArray} (h : StrsT w v l) (hg : w.grownBy w' (some g)) (hk : Blk w g t cs) (hne : t ≠ 9) : StrsT w' v l := by
  obtain ⟨⟨A, c, rfl, hl, hc⟩, hb⟩ := h
  have key : ∀ ad : Addr, A = some ad → w'.heap[ad.block]? = w.heap[ad.block]? := fun ad e => by
    subst e
    obtain ⟨cs', hk'⟩ := hb ad _ _ rfl
    exact hg.block _ hk'.lt (fun q => by injection q with q; exact blk_ne hk hk' hne q.symm)
  refine ⟨⟨A, c, rfl, hl, fun k s hs => ?_⟩, fun ad n c' hv => ?_⟩
  · obtain ⟨ad, rfl, h1⟩ := hc k s hs
    have e1 : (ad.add k).block = ad.block := by unfold Addr.add; split <;> rfl
    exact ⟨ad, rfl, (World.cell?_of_block (a := ad.add k) (by rw [e1]; exact key ad rfl)).trans h1⟩
  · obtain ⟨cs', hk'⟩ := hb ad n c' hv
    injection hv with e
    exact ⟨cs', (key ad e).trans hk'⟩
theorem StrsT.of_own {w : World} {B : Nat} {v : Value} {l : List ByteArray} (h : w.ownsRow B 9 1 v l.length (sCells l)) : StrsT w v l := by
  refine ⟨StrsR.of_own h, fun ad n c hv => ?_⟩
  rcases h.2 with ⟨rfl, _⟩ | ⟨g', cap, cur, rfl, _, hh, _⟩
  · injection hv with e
    cases e
  · injection hv with e
    injection e with e
    subst e
    exact ⟨cur, hh⟩
theorem size_str (w : World) : (sizeOf (Tryz.prog.elem 51)).run Tryz.prog w = .ok 1 w := by kernel_rfl
/-- Texts without the first one. -/
theorem tail_run {w0 : World} {v : Value} {x : ByteArray} {r : List ByteArray} (h : StrsT w0 v (x :: r)) :
    ∃ (ad : Addr) (c c' : Nat) (A' : Option Addr), v = .slice (some ad) (r.length + 1) c ∧ w0.cell? ad = some (.string x) ∧ StrsT w0 (.slice A' r.length c') r ∧
      ∀ w : World, (Instr.slice 51 (.slice (some ad) (r.length + 1) c) (some (.int .i64 1)) none none).run Tryz.prog w = .ok (.slice A' r.length c') w := by
  obtain ⟨⟨A, c, rfl, ⟨hle, _⟩, hc⟩, hb⟩ := h
  obtain ⟨ad, rfl, h0⟩ := hc 0 x rfl
  rw [add_none] at h0
  simp only [List.length_cons] at hle
  obtain ⟨cs, hk⟩ := hb ad _ _ rfl
  refine ⟨ad, c, c - 1, if c = 1 then some ad else some (ad.add 1), rfl, h0, ⟨⟨_, _, rfl, ⟨by omega, fun e => by split at e <;> cases e⟩, fun k s hk => ?_⟩, fun ad' n c' hv => ?_⟩, fun w => ?_⟩
  · have hlt : k < r.length := (List.getElem?_eq_some_iff.1 hk).1
    rw [if_neg (by omega)]
    obtain ⟨ad', e, h1⟩ := hc (k + 1) s (by simpa using hk)
    injection e with e
    refine ⟨_, rfl, ?_⟩
    rw [add_two, Nat.add_comm 1 k, e]
    exact h1
  · injection hv with e
    refine ⟨cs, ?_⟩
    split at e
    · injection e with e
      rw [← e]; exact hk
    · injection e with e
      rw [← e]; exact hk
  · rw [run_slice_l w _ _ _ _ (by kernel_rfl) .i64 1 (by decide) (by omega), size_str]
    simp only [Result.andThen, sliced]
    by_cases hc1 : c = 1 <;> simp [hc1]
/-- The three boxes. -/
structure LdK (w : World) (L A B : Nat) (vl : Value) (l : List Nm) (i : Int) (f : Nat) : Prop where
  kl : Blk w L 51 #[vl]
  ka : Blk w A 3 #[.int .i64 i]
  kb : Blk w B 3 #[.int .i64 (f : Int)]
  ab : A ≠ B
  names : StrsT w vl (bAs l)
section
variable {w w' : World} {L A B : Nat} {vl : Value} {l : List Nm} {i : Int} {f : Nat}
theorem LdK.later (h : LdK w L A B vl l i f) (hb : Below w.heap.size w w') : LdK w' L A B vl l i f := ⟨h.kl.below hb, h.ka.below hb, h.kb.below hb, h.ab, h.names.below hb⟩
theorem LdK.la (h : LdK w L A B vl l i f) : L ≠ A := blk_ne h.kl h.ka (by decide)
theorem LdK.lb (h : LdK w L A B vl l i f) : L ≠ B := blk_ne h.kl h.kb (by decide)
theorem some_ne {a b : Nat} (h : a ≠ b) : (some a : Option Nat) ≠ some b := fun e => h (by injection e)
theorem LdK.setL (h : LdK w L A B vl l i f) {v' : Value} {l' : List Nm} (hn : StrsT w v' (bAs l')) : LdK (w.setCell ⟨L, 0, none⟩ v') L A B v' l' i f :=
  have hg := grown_setCell w ⟨L, 0, none⟩ v'
  ⟨by simpa using h.kl.set_ 0 v', h.ka.kept hg (some_ne h.la.symm), h.kb.kept hg (some_ne h.lb.symm), h.ab, hn.other hg h.kl (by decide)⟩
theorem LdK.setA (h : LdK w L A B vl l i f) (j : Int) : LdK (w.setCell ⟨A, 0, none⟩ (.int .i64 j)) L A B vl l j f :=
  have hg := grown_setCell w ⟨A, 0, none⟩ (.int .i64 j)
  ⟨h.kl.kept hg (some_ne h.la), by simpa using h.ka.set_ 0 (.int .i64 j), h.kb.kept hg (some_ne h.ab.symm), h.ab, h.names.other hg h.ka (by decide)⟩
theorem LdK.setB (h : LdK w L A B vl l i f) (j : Nat) : LdK (w.setCell ⟨B, 0, none⟩ (.int .i64 (j : Int))) L A B vl l i j :=
  have hg := grown_setCell w ⟨B, 0, none⟩ (.int .i64 (j : Int))
  ⟨h.kl.kept hg (some_ne h.lb), h.ka.kept hg (some_ne h.ab), by simpa using h.kb.set_ 0 (.int .i64 (j : Int)), h.ab, h.names.other hg h.kb (by decide)⟩
theorem LdK.app {w1 w5 : World} {B0 n : Nat} {v v5 : Value} {xs : List Value} {l' : List Nm} (h : LdK w1 L A B vl l i f) (ho : w1.ownsRow B0 9 1 v n xs) (hg : w1.grownBy w5 v.ownBlock) (hn : StrsT w5 v5 (bAs l')) :
    LdK (w5.setCell ⟨L, 0, none⟩ v5) L A B v5 l' i f ∧ w5.cell? ⟨L, 0, none⟩ = some vl ∧ w5.frozen? ⟨L, 0, none⟩ = false := by
  have kl := h.kl.kept hg (own_blk_ne ho h.kl (by decide)).symm
  have ka := h.ka.kept hg (own_blk_ne ho h.ka (by decide)).symm
  have kb := h.kb.kept hg (own_blk_ne ho h.kb (by decide)).symm
  have hs := grown_setCell w5 ⟨L, 0, none⟩ v5
  exact ⟨⟨by simpa using kl.set_ 0 v5, ka.kept hs (some_ne h.la.symm), kb.kept hs (some_ne h.lb.symm), h.ab, hn.other hs kl (by decide)⟩, by rw [kl.cell]; rfl, kl.frozen 0⟩
theorem LdK.facts (h : LdK w L A B vl l i f) : (w.cell? ⟨L, 0, none⟩ = some vl ∧ w.frozen? ⟨L, 0, none⟩ = false) ∧ (w.cell? ⟨A, 0, none⟩ = some (.int .i64 i) ∧ w.frozen? ⟨A, 0, none⟩ = false) ∧ (w.cell? ⟨B, 0, none⟩ = some (.int .i64 (f : Int)) ∧ w.frozen? ⟨B, 0, none⟩ = false) :=
  ⟨⟨by rw [h.kl.cell]; rfl, h.kl.frozen 0⟩, ⟨by rw [h.ka.cell]; rfl, h.ka.frozen 0⟩, ⟨by rw [h.kb.cell]; rfl, h.kb.frozen 0⟩⟩
end
/-- Only what is new, and the three boxes, are changed. -/
def Ch3 (w w' : World) (L A B : Nat) : Prop := ∃ w1 w2 w3, Below w.heap.size w w1 ∧ w1.grownBy w2 (some L) ∧ w2.grownBy w3 (some A) ∧ w3.grownBy w' (some B)
theorem Ch3.blk {w w' : World} {L A B g : Nat} {t : TypeId} {cs : Array Value} (h : Ch3 w w' L A B) (hk : Blk w g t cs) (h1 : g ≠ L) (h2 : g ≠ A) (h3 : g ≠ B) : Blk w' g t cs := by
  obtain ⟨w1, w2, w3, a, b, c, d⟩ := h
  exact (((hk.below a).kept b (some_ne h1)).kept c (some_ne h2)).kept d (some_ne h3)
theorem Ch3.below {w0 w w' : World} {L A B : Nat} (h : Ch3 w w' L A B) (hb : Below w0.heap.size w0 w) (h1 : w0.heap.size ≤ L) (h2 : w0.heap.size ≤ A) (h3 : w0.heap.size ≤ B) : Below w0.heap.size w0 w' := by
  obtain ⟨w1, w2, w3, a, b, c, d⟩ := h
  exact below_grown (below_grown (below_grown (bt a hb) b h1) c h2) d h3
theorem grown_none (w : World) (r : Option Nat) : w.grownBy w r := grown_of_below (Below.refl _ _) r
set_option maxHeartbeats 8000000 in
theorem goAlong_any (tg : Nm) (l : List Nm) (L A B : Nat) (vl : Value) (i : Int) (f : Nat) (w : World) (h : LdK w L A B vl l i f) (ht : tg.length ≤ 1000000) (hl : l.length ≤ 1000000) (hf : f ≤ 1000000) :
    Calls Tryz.prog 95 #[.string (bA tg), .pointer (some ⟨L, 0, none⟩), .pointer (some ⟨A, 0, none⟩), .pointer (some ⟨B, 0, none⟩)] w fun e w' => e = .returned (.tuple #[]) ∧ (∃ vl', LdK w' L A B vl' (splitP tg ++ l) (if absP tg = true then 1 else i) (f + 1)) ∧ Ch3 w w' L A B := by
  have HS := Lib.hid (split_own (bA tg) w (by rw [size_bA]; exact ht))
  rw [tl_bA] at HS
  have hsl := spl_len tg
  have hbl := bAs_len (splitP tg)
  have HK := Lib.hid h
  have hb2 : (bAs l).length = l.length := bAs_len l
  obtain ⟨S, hS⟩ : ∃ S, splitP tg = S := ⟨_, rfl⟩
  rw [hS] at HS hsl hbl ⊢
  have HAP := Lib.hid (show bAs (S ++ l) = bAs S ++ bAs l by simp [bAs])
  have HLN := Lib.hid (show (bAs S).length + (bAs l).length ≤ 100000000 by omega)
  have hfw : IntKind.i64.wrap ((f : Int) + 1) = ((f + 1 : Nat) : Int) := by rw [IntKind.wrap_i64] <;> omega
  generalize absP tg = ab at HS ⊢
  clear h hS hsl hbl hb2
  cases ab with
  | false =>
    go_enter Tryz.func95, Tryz.ntmps95
    go_wp2_with fail
    refine HS.out.mono ?_
    rintro e w1 ⟨v, rfl, ho, hb⟩
    have hk1 := HK.out.later hb
    obtain ⟨⟨l0, l1⟩, -, -⟩ := hk1.facts
    have HO := Lib.hid ho
    have HK1 := Lib.hid hk1
    have HB1 := Lib.hid hb
    clear hk1 ho hb HS
    go_wp2_with (first | (at_builtin; refine wpList_append_strs rfl (.tmp 12) (.tmp 13) rfl w.heap.size v (bAs S) rfl HO.out vl (bAs l) rfl HK1.out.names.1 HLN.out HB1.out.size ?_; intro v5 w5 ho hg; obtain ⟨A9, c9, hv9⟩ := own_slice ho; subst hv9; have hn5 : StrsT w5 (.slice A9 (bAs S ++ bAs l).length c9) (bAs (S ++ l)) := (by rw [HAP.out]; exact StrsT.of_own ho); obtain ⟨hk5, q1, q2⟩ := HK1.out.app HO.out hg hn5; have HB5 := Lib.hid (HB1.out.grown hg HB1.out.size (fun q hq => (HO.out.lt q hq).1)); clear ho hg hn5; generalize (bAs S ++ bAs l).length = N9 at hk5 ⊢; have HK5 := Lib.hid hk5; obtain ⟨-, -, ⟨b0, b1⟩⟩ := hk5.facts; clear hk5) | fail)
    go_end0
    have hk7 := HK5.out.setB (f + 1)
    exact ⟨rfl, ⟨_, hk7⟩, _, _, _, HB5.out, grown_setCell _ _ _, grown_none _ _, grown_setCell _ _ _⟩
  | true =>
    go_enter Tryz.func95, Tryz.ntmps95
    go_wp2_with fail
    refine HS.out.mono ?_
    rintro e w1 ⟨v, rfl, ho, hb⟩
    have hk1 := HK.out.later hb
    obtain ⟨⟨l0, l1⟩, -, -⟩ := hk1.facts
    have HO := Lib.hid ho
    have HK1 := Lib.hid hk1
    have HB1 := Lib.hid hb
    clear hk1 ho hb HS
    go_wp2_with (first | (at_builtin; refine wpList_append_strs rfl (.tmp 12) (.tmp 13) rfl w.heap.size v (bAs S) rfl HO.out vl (bAs l) rfl HK1.out.names.1 HLN.out HB1.out.size ?_; intro v5 w5 ho hg; obtain ⟨A9, c9, hv9⟩ := own_slice ho; subst hv9; have hn5 : StrsT w5 (.slice A9 (bAs S ++ bAs l).length c9) (bAs (S ++ l)) := (by rw [HAP.out]; exact StrsT.of_own ho); obtain ⟨hk5, q1, q2⟩ := HK1.out.app HO.out hg hn5; have HB5 := Lib.hid (HB1.out.grown hg HB1.out.size (fun q hq => (HO.out.lt q hq).1)); clear ho hg hn5; generalize (bAs S ++ bAs l).length = N9 at hk5 ⊢; have HK5 := Lib.hid hk5; obtain ⟨-, ⟨a0, a1⟩, -⟩ := hk5.facts; have hk6 := hk5.setA 1; have HK6 := Lib.hid hk6; obtain ⟨-, -, ⟨b0, b1⟩⟩ := hk6.facts; clear hk5 hk6) | fail)
    go_end0
    have hk7 := HK6.out.setB (f + 1)
    exact ⟨rfl, ⟨_, hk7⟩, _, _, _, HB5.out, grown_setCell _ _ _, grown_setCell _ _ _, grown_setCell _ _ _⟩
end Go.Proofs.YtilepnepcamnaaaGreat
