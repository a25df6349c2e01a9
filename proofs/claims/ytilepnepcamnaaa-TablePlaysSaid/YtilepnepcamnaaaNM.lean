/-
  The program's table beside the reference's, as TablePlays keeps them. No condition.
-/
import Derived.Test.YtilepnepcamnaaaMP
import Derived.Test.YtilepnepcamnaaaMS
import Derived.Test.YtilepnepcamnaaaMT
import Derived.Test.YtilepnepcamnaaaMR
import Derived.Deep.DeepCutAuto
namespace Go.Proofs.Ytilepnepcamnaaa
open Go Go.RowKit
set_option maxRecDepth 100000

/-- Blocks that are neither of two. -/
def Ne2 (g b8 : Nat) (b : Nat) : Prop := b ≠ g ∧ b ≠ b8
/-- A table, and the reference's, which lies in a box. -/
structure PL (w W : World) (g b8 : Nat) (v8 : Value) (T : List Nd) : Prop where
  tab : TabR W g T (fun _ => True)
  ns : NsR (Ne2 g b8) W v8 T
  box : Blk W b8 29 #[v8]
  below : Below w.heap.size w W
  hg : w.heap.size ≤ g
  hb : w.heap.size ≤ b8
section
variable {w W W' : World} {g b8 : Nat} {v8 v' : Value} {T T' : List Nd}
theorem PL.later (h : PL w W g b8 v8 T) (hb : Below W.heap.size W W') : PL w W' g b8 v8 T := ⟨h.tab.below hb, h.ns.below hb, h.box.below hb, bt hb h.below, h.hg, h.hb⟩
theorem PL.ne (h : PL w W g b8 v8 T) : g ≠ b8 := by
  obtain ⟨cs, hk, -⟩ := h.tab.blk
  exact blk_ne hk h.box (by decide)
theorem PL.above (h : PL w W g b8 v8 T) : ∀ b, W.heap.size ≤ b → Ne2 g b8 b := fun b hb => by
  have h1 := h.tab.lt
  have h2 := h.box.lt
  exact ⟨by omega, by omega⟩
/-- The table is changed. -/
theorem PL.acted (h : PL w W g b8 v8 T) (ht : TabR W' g T' (fun _ => True)) (hg : W.grownBy W' (some g)) : TabR W' g T' (fun _ => True) ∧ NsR (Ne2 g b8) W' v8 T ∧ Blk W' b8 29 #[v8] ∧ Below w.heap.size w W' :=
  ⟨ht, h.ns.other hg (fun b hb => hb.1), h.box.kept hg (by intro e; injection e with e; exact h.ne e.symm), below_grown h.below hg h.hg⟩
/-- The box has another table. -/
theorem PL.boxed (hne : g ≠ b8) (ht : TabR W g T' (fun _ => True)) (hn : NsR (Ne2 g b8) W v' T') (hbx : Blk W b8 29 #[v8]) (hbl : Below w.heap.size w W) (hg : w.heap.size ≤ g) (hb : w.heap.size ≤ b8) : PL w (W.setCell ⟨b8, 0, none⟩ v') g b8 v' T' :=
  ⟨ht.kind (grown_setCell W ⟨b8, 0, none⟩ v') hne hbx (by decide) (by decide), hn.other (grown_setCell W ⟨b8, 0, none⟩ v') (fun b hb => hb.2), hbx.set_ 0 v', below_grown hbl (grown_setCell W ⟨b8, 0, none⟩ v') hb, hg, hb⟩
/-- The contracts, over it. -/
theorem PL.get (h : PL w W g b8 v8 T) (i : Int) : Calls Try.prog 15 #[.pointer (some ⟨g, 0, none⟩), .int .i64 i] W fun e w' => ∃ vd ve, e = .returned (.tuple #[nodeV (tget T i) vd ve, .bool (tis T i)]) ∧ BytesT w' vd (tget T i).data ∧ EntsT w' ve (tget T i).ents ∧ Below W.heap.size W w' := by
  refine (get_any _ T i W h.tab.ptr).mono ?_
  rintro e w' ⟨vd, ve, rfl, h1, h2, -, -, hb⟩
  exact ⟨vd, ve, rfl, h1, h2, hb⟩
theorem PL.ris (h : PL w W g b8 v8 T) (i : Int) : Calls Try.prog 16 #[.agg #[v8], .int .i64 i] W fun e w' => e = .returned (.bool (tis T i)) ∧ Below W.heap.size W w' := ris_any v8 T i W h.ns h.tab.hi
theorem PL.rget (h : PL w W g b8 v8 T) (i : Int) : Calls Try.prog 18 #[.agg #[v8], .int .i64 i] W fun e w' => ∃ A c A' c', e = .returned (.agg (rfC (tget T i) (.slice A (tget T i).ents.length c) (.slice A' (tget T i).ents.length c'))) ∧ StrsR w' (.slice A (tget T i).ents.length c) (nmA (nmE (tget T i).ents)) ∧ IntsR w' (.slice A' (tget T i).ents.length c') (idE (tget T i).ents) ∧ Below W.heap.size W w' := by
  refine (rget_any v8 T i W h.ns h.tab.hi).mono ?_
  rintro e w' ⟨u, rfl, ⟨vn, vk, rfl, hn, hk⟩, hb⟩
  obtain ⟨A, c, rfl⟩ := strs_form hn (nm_len _)
  obtain ⟨A', c', rfl⟩ := ints_form hk (idE_len _)
  exact ⟨A, c, A', c', rfl, hn, hk, hb⟩
theorem model_at (n : Nd) (vd ve : Value) (hd : BytesR W vd n.data) (he : EntsR W ve n.ents) (hf : Few n) : Calls Try.prog 8 #[.agg (ndC n vd ve)] W fun e w' => ∃ A c A' c', e = .returned (.agg (rfC n (.slice A n.ents.length c) (.slice A' n.ents.length c'))) ∧ StrsR w' (.slice A n.ents.length c) (nmA (nmE n.ents)) ∧ IntsR w' (.slice A' n.ents.length c') (idE n.ents) ∧ LP (fun b => W.heap.size ≤ b ∧ b < w'.heap.size) (.slice A n.ents.length c) ∧ LP (fun b => W.heap.size ≤ b ∧ b < w'.heap.size) (.slice A' n.ents.length c') ∧ Below W.heap.size W w' := by
  refine (modelp_any n vd ve W hd he hf.ents).mono ?_
  rintro e w' ⟨v, rfl, ⟨vn, vk, rfl, hn, hk, hp, hq⟩, hb⟩
  obtain ⟨A, c, rfl⟩ := strs_form hn (nm_len _)
  obtain ⟨A', c', rfl⟩ := ints_form hk (idE_len _)
  exact ⟨A, c, A', c', rfl, hn, hk, hp, hq, hb⟩
theorem rsame_at (n : Nd) {vn vk vn' vk' : Value} (hf : Few n) (h1 : StrsR W vn (nmA (nmE n.ents))) (h2 : IntsR W vk (idE n.ents)) (h3 : StrsR W vn' (nmA (nmE n.ents))) (h4 : IntsR W vk' (idE n.ents)) : Calls Try.prog 17 #[.agg (rfC n vn vk), .agg (rfC n vn' vk')] W fun e w' => e = .returned (.bool true) ∧ Below W.heap.size W w' := by
  refine (rsame_any n n vn vk vn' vk' W h1 h2 h3 h4 hf.ents hf.ents).mono ?_
  rintro e w' ⟨rfl, hb⟩
  exact ⟨by rw [toB_true rfl], hb⟩
theorem PL.links (h : PL w W g b8 v8 T) (i : Int) : Calls Try.prog 19 #[.pointer (some ⟨g, 0, none⟩), .int .i64 i] W fun e w' => e = .returned (.int .i64 (linkT T i : Int)) ∧ Below W.heap.size W w' := links_any _ T i W h.tab.ptr
theorem PL.parent (h : PL w W g b8 v8 T) (i : Int) : Calls Try.prog 21 #[.pointer (some ⟨g, 0, none⟩), .int .i64 i] W fun e w' => e = .returned (.int .i64 (parT T 0 i : Int)) ∧ Below W.heap.size W w' := parent_any _ T i W h.tab.ptr
theorem PL.rlinks (h : PL w W g b8 v8 T) (i : Int) : Calls Try.prog 20 #[.agg #[v8], .int .i64 i] W fun e w' => e = .returned (.int .i64 (linkT T i : Int)) ∧ Below W.heap.size W w' := rlinks_any v8 T i W h.ns h.tab.hi h.tab.ok
theorem PL.rparent (h : PL w W g b8 v8 T) (i : Int) : Calls Try.prog 22 #[.agg #[v8], .int .i64 i] W fun e w' => e = .returned (.int .i64 (parT T 0 i : Int)) ∧ Below W.heap.size W w' := rparent_any v8 T i W h.ns h.tab.hi h.tab.ok
theorem PL.used (h : PL w W g b8 v8 T) : Calls Try.prog 23 #[.pointer (some ⟨g, 0, none⟩)] W fun e w' => e = .returned (.int .i64 (usedT T : Int)) ∧ Below W.heap.size W w' := used_any _ T W h.tab.ptr
theorem PL.rused (h : PL w W g b8 v8 T) : Calls Try.prog 24 #[.agg #[v8]] W fun e w' => e = .returned (.int .i64 (usedT T : Int)) ∧ Below W.heap.size W w' := rused_any v8 T W h.ns h.tab.hi
theorem PL.room (h : PL w W g b8 v8 T) : Calls Try.prog 25 #[.pointer (some ⟨g, 0, none⟩)] W fun e w' => e = .returned (.int .i64 (T.length : Int)) ∧ Below W.heap.size W w' := by
  refine (room_any _ T W h.tab.ptr).mono ?_
  rintro e w' ⟨rfl, rfl⟩
  exact ⟨rfl, Below.refl _ _⟩
end
/-- Behind an answer of the reference, in a box of its own. -/
structure CT (W W' : World) (g b8 b : Nat) (v' : Value) (T' : List Nd) : Prop where
  box : Blk W' b 29 #[v']
  ns : NsR (Ne2 g b8) W' v' T'
  below : Below W.heap.size W W'
  hb : b ≠ b8
  hg : b ≠ g
section
variable {W W' : World} {g b8 : Nat} {v' : Value} {T' : List Nd}
theorem CT.fresh (hW : g < W.heap.size) (hW8 : b8 < W.heap.size) (hn : NsR (Ne2 g b8) W' v' T') (hb : Below W.drew.heap.size W.drew W') : CT W (W'.alloc (.cells #[v'] 29)) g b8 W'.heap.size v' T' := by
  have hb2 := bt hb (Below.refl W.heap.size W).drew
  have := hb2.size
  exact ⟨Blk.new _ _ _, hn.below (ba _ _), bt (ba _ _) hb2, by omega, by omega⟩
theorem CT.ahead (hW : g < W.heap.size) (hW8 : b8 < W.heap.size) (hn : NsR (fun b => Ne2 g b8 b ∧ b ≠ W.heap.size) W' v' T') (hb : Below (W.alloc (.cells #[.slice none 0 0] 29)).drew.heap.size (W.alloc (.cells #[.slice none 0 0] 29)).drew W') : CT W (W'.setCell ⟨W.heap.size, 0, none⟩ v') g b8 W.heap.size v' T' := by
  have hk : Blk W' W.heap.size 29 #[.slice none 0 0] := Blk.below (w := (W.alloc (.cells #[.slice none 0 0] 29)).drew) (Blk.new W 29 _) hb
  have hb2 : Below W.heap.size W W' := bt hb (ba W (.cells #[.slice none 0 0] 29)).drew
  exact ⟨hk.set_ 0 v', (hn.other (grown_setCell W' ⟨W.heap.size, 0, none⟩ v') (fun b hb => hb.2)).mono (fun b hb _ => hb.1), below_grown hb2 (grown_setCell W' ⟨W.heap.size, 0, none⟩ v') (Nat.le_refl _), by omega, by omega⟩
end
/-- Of nil. -/
theorem nil_room (W : World) : Calls Try.prog 25 #[.pointer none] W fun e w' => e = .returned (.int .i64 0) ∧ Below W.heap.size W w' := by
  refine (room_any _ [] W (TabP.none W)).mono ?_
  rintro e w' ⟨rfl, rfl⟩
  exact ⟨rfl, Below.refl _ _⟩
theorem nil_used (W : World) : Calls Try.prog 23 #[.pointer none] W fun e w' => e = .returned (.int .i64 0) ∧ Below W.heap.size W w' := used_any _ [] W (TabP.none W)
theorem nil_links (W : World) : Calls Try.prog 19 #[.pointer none, .int .i64 1] W fun e w' => e = .returned (.int .i64 0) ∧ Below W.heap.size W w' := links_nil 1 W
theorem nil_parent (W : World) : Calls Try.prog 21 #[.pointer none, .int .i64 1] W fun e w' => e = .returned (.int .i64 0) ∧ Below W.heap.size W w' := parent_nil 1 W
theorem nil_clone (W : World) : Calls Try.prog 26 #[.pointer none] W fun e w' => e = .returned (.pointer none) ∧ Below W.heap.size W w' := clone_nil W
theorem nil_right (W : World) : Calls Try.prog 27 #[.pointer none, .slice none 0 0] W fun e w' => e = .returned (.bool false) ∧ Below W.heap.size W w' := tright_no _ [] _ W (TabP.none W) (by decide)
theorem nil_get (W : World) : Calls Try.prog 15 #[.pointer none, .int .i64 1] W fun e w' => ∃ vd ve, e = .returned (.tuple #[nodeV Nd.zero vd ve, .bool false]) ∧ BytesT w' vd Nd.zero.data ∧ EntsT w' ve Nd.zero.ents ∧ Below W.heap.size W w' := by
  refine (get_any _ [] 1 W (TabP.none W)).mono ?_
  rintro e w' ⟨vd, ve, rfl, h1, h2, -, -, hb⟩
  exact ⟨vd, ve, rfl, h1, h2, hb⟩
end Go.Proofs.Ytilepnepcamnaaa
