/-
  Two tables, and the reference's in boxes, as TableRight keeps them. No condition.
-/
import Derived.Test.YtehaohaphlmndaaNM
import Derived.Test.YtehaohaphlmndaaNZ
namespace Go.Proofs.Ytehaohaphlmndaa
open Go Go.RowKit
set_option maxRecDepth 100000

/-- Blocks that are none of four. -/
def Ne4 (g u b c : Nat) (x : Nat) : Prop := x ≠ g ∧ x ≠ u ∧ x ≠ b ∧ x ≠ c
/-- Two tables, and the reference's in a box; c: a block that comes later. -/
structure S0 (w W : World) (g u b c : Nat) (T U : List Nd) (v : Value) (C : List Nd) : Prop where
  tt : TabR W g T (fun _ => True)
  uu : TabR W u U (fun _ => True)
  ns : NsR (Ne4 g u b c) W v C
  box : Blk W b 29 #[v]
  below : Below w.heap.size w W
  hg : w.heap.size ≤ g
  hu : w.heap.size ≤ u
  hb : w.heap.size ≤ b
  ne : g ≠ u
section
variable {w W W' : World} {g u b c b' : Nat} {T U C C' T' U' : List Nd} {v v' : Value}
theorem S0.later (h : S0 w W g u b c T U v C) (hb : Below W.heap.size W W') : S0 w W' g u b c T U v C :=
  ⟨h.tt.below hb, h.uu.below hb, h.ns.below hb, h.box.below hb, bt hb h.below, h.hg, h.hu, h.hb, h.ne⟩
theorem S0.nb (h : S0 w W g u b c T U v C) : g ≠ b ∧ u ≠ b := by
  obtain ⟨cs, hk, -⟩ := h.tt.blk
  obtain ⟨ds, hk2, -⟩ := h.uu.blk
  exact ⟨blk_ne hk h.box (by decide), blk_ne hk2 h.box (by decide)⟩
theorem S0.playT (h : S0 w W g u b c T U v C) (ht : TabR W' g T' (fun _ => True)) (hg : W.grownBy W' (some g)) : S0 w W' g u b c T' U v C := by
  obtain ⟨cs, hk, -⟩ := h.tt.blk
  exact ⟨ht, h.uu.kind hg (fun e => h.ne e.symm) hk (by decide) (by decide), h.ns.other hg (fun x hx => hx.1), h.box.kept hg (by intro e; injection e with e; exact h.nb.1 e.symm), below_grown h.below hg h.hg, h.hg, h.hu, h.hb, h.ne⟩
theorem S0.playU (h : S0 w W g u b c T U v C) (hu : TabR W' u U' (fun _ => True)) (hg : W.grownBy W' (some u)) : S0 w W' g u b c T U' v C := by
  obtain ⟨cs, hk, -⟩ := h.uu.blk
  exact ⟨h.tt.kind hg h.ne hk (by decide) (by decide), hu, h.ns.other hg (fun x hx => hx.2.1), h.box.kept hg (by intro e; injection e with e; exact h.nb.2 e.symm), below_grown h.below hg h.hu, h.hg, h.hu, h.hb, h.ne⟩
theorem S0.above (h : S0 w W g u b b T U v C) : ∀ x, W.heap.size ≤ x → Ne4 g u b b x := fun x hx => by
  have h1 := h.tt.lt
  have h2 := h.uu.lt
  have h3 := h.box.lt
  exact ⟨by omega, by omega, by omega, by omega⟩
/-- The box has another table. -/
theorem S0.boxed (h : S0 w W g u b c T U v C) (hn : NsR (Ne4 g u b c) W v' C') : S0 w (W.setCell ⟨b, 0, none⟩ v') g u b c T U v' C' :=
  ⟨h.tt.kind (grown_setCell W ⟨b, 0, none⟩ v') h.nb.1 h.box (by decide) (by decide), h.uu.kind (grown_setCell W ⟨b, 0, none⟩ v') h.nb.2 h.box (by decide) (by decide), hn.other (grown_setCell W ⟨b, 0, none⟩ v') (fun x hx => hx.2.2.1), h.box.set_ 0 v', below_grown h.below (grown_setCell W ⟨b, 0, none⟩ v') h.hb, h.hg, h.hu, h.hb, h.ne⟩
/-- A block that comes later may be any that isn't there yet. -/
theorem S0.turn {c' : Nat} (h : S0 w W g u b c T U v C) (hc : W.heap.size ≤ c') : S0 w W g u b c' T U v C :=
  ⟨h.tt, h.uu, h.ns.mono (fun x hx hl => ⟨hx.1, hx.2.1, hx.2.2.1, by omega⟩), h.box, h.below, h.hg, h.hu, h.hb, h.ne⟩
/-- With the other box. -/
structure S1 (w W : World) (g u b c : Nat) (T U : List Nd) (v : Value) (C : List Nd) (v' : Value) (C' : List Nd) : Prop where
  s : S0 w W g u b c T U v C
  ns : NsR (Ne4 g u b c) W v' C'
  box : Blk W c 29 #[v']
  hc : w.heap.size ≤ c
  ne : b ≠ c
theorem S1.later (h : S1 w W g u b c T U v C v' C') (hb : Below W.heap.size W W') : S1 w W' g u b c T U v C v' C' :=
  ⟨h.s.later hb, h.ns.below hb, h.box.below hb, h.hc, h.ne⟩
theorem S1.nb (h : S1 w W g u b c T U v C v' C') : g ≠ c ∧ u ≠ c := by
  obtain ⟨cs, hk, -⟩ := h.s.tt.blk
  obtain ⟨ds, hk2, -⟩ := h.s.uu.blk
  exact ⟨blk_ne hk h.box (by decide), blk_ne hk2 h.box (by decide)⟩
theorem S1.playU (h : S1 w W g u b c T U v C v' C') (hu : TabR W' u U' (fun _ => True)) (hg : W.grownBy W' (some u)) : S1 w W' g u b c T U' v C v' C' :=
  ⟨h.s.playU hu hg, h.ns.other hg (fun x hx => hx.2.1), h.box.kept hg (by intro e; injection e with e; exact h.nb.2 e.symm), h.hc, h.ne⟩
theorem S1.boxed {v2 : Value} {C2 : List Nd} (h : S1 w W g u b c T U v C v' C') (hn : NsR (Ne4 g u b c) W v2 C2) : S1 w (W.setCell ⟨c, 0, none⟩ v2) g u b c T U v C v2 C2 :=
  ⟨⟨h.s.tt.kind (grown_setCell W ⟨c, 0, none⟩ v2) h.nb.1 h.box (by decide) (by decide), h.s.uu.kind (grown_setCell W ⟨c, 0, none⟩ v2) h.nb.2 h.box (by decide) (by decide), h.s.ns.other (grown_setCell W ⟨c, 0, none⟩ v2) (fun x hx => hx.2.2.2), h.s.box.kept (grown_setCell W ⟨c, 0, none⟩ v2) (by intro e; injection e with e; exact h.ne e), below_grown h.s.below (grown_setCell W ⟨c, 0, none⟩ v2) h.hc, h.s.hg, h.s.hu, h.s.hb, h.s.ne⟩,
   hn.other (grown_setCell W ⟨c, 0, none⟩ v2) (fun x hx => hx.2.2.2), h.box.set_ 0 v2, h.hc, h.ne⟩
theorem S1.above (h : S1 w W g u b c T U v C v' C') : ∀ x, W.heap.size ≤ x → Ne4 g u b c x := fun x hx => by
  have h1 := h.s.tt.lt
  have h2 := h.s.uu.lt
  have h3 := h.s.box.lt
  have h4 := h.box.lt
  exact ⟨by omega, by omega, by omega, by omega⟩
/-- The contracts. -/
theorem get_at {P : Nat → Prop} (h : TabR W g T P) (i : Int) : Calls Try.prog 24 #[.pointer (some ⟨g, 0, none⟩), .int .i64 i] W fun e w' => ∃ vd ve, e = .returned (.tuple #[nodeV (tget T i) vd ve, .bool (tis T i)]) ∧ BytesT w' vd (tget T i).data ∧ EntsT w' ve (tget T i).ents ∧ Below W.heap.size W w' := by
  refine (get_any _ T i W h.ptr).mono ?_
  rintro e w' ⟨vd, ve, rfl, h1, h2, -, -, hb⟩
  exact ⟨vd, ve, rfl, h1, h2, hb⟩
/-- The next node is laid, in a world behind the model's; B: where new blocks begin. -/
theorem with_next {P : Nat → Prop} {W1 : World} {B k : Nat} {n : Nd} {vn vk : Value} (h : NsR P W1 v C) (hP : ∀ x, B ≤ x → P x) (hB : B ≤ W1.heap.size) (hl : C.length = 24) (hk : k < 24) (hN : StrsR W1 vn (nmA (nmE n.ents))) (hK : IntsR W1 vk (idE n.ents)) (hp : LP (fun x => B ≤ x ∧ x < W1.heap.size) vn) (hq : LP (fun x => B ≤ x ∧ x < W1.heap.size) vk) :
    Calls Try.prog 38 #[.agg #[v], .int .i64 ((k : Int) + 1), .agg (rfC n vn vk)] W1 fun e w' => ∃ g' c', e = .returned (.agg #[.slice (some ⟨g', 0, none⟩) 24 c']) ∧ NsR P w' (.slice (some ⟨g', 0, none⟩) 24 c') (setT C ((k : Int) + 1) n) ∧ Below W1.heap.size W1 w' := by
  refine (rwith_any v C k n vn vk W1 W1 h (Below.refl _ _) (by omega) (by omega) hN hK (hp.mono (fun x hx => ⟨hP x hx.1, hx.2⟩)) (hq.mono (fun x hx => ⟨hP x hx.1, hx.2⟩))).mono ?_
  rintro e w' ⟨v', rfl, hn, hb⟩
  have hns := hn.ns hb (fun x hx => hP x (Nat.le_trans hB hx))
  obtain ⟨g', c', rfl⟩ := ns_form hns
  rw [len_setT, hl] at hns ⊢
  exact ⟨g', c', rfl, hns, hb⟩
end
end Go.Proofs.Ytehaohaphlmndaa
