/-
  A node that is stored in a table. No condition.
-/
import Derived.Test.YtmapkmjhpebcbaaTabC
namespace Go.Proofs.Ytmapkmjhpebcbaa
open Go Go.RowKit

/-- Seven cells that are stored, one behind the other, from a place on. -/
def putA (w : World) (g o : Nat) (u0 u1 u2 u3 u4 u5 u6 : Value) : World :=
  ((((((w.setCell ⟨g, o, none⟩ u0).setCell ⟨g, o + 1, none⟩ u1).setCell ⟨g, o + 2, none⟩ u2).setCell ⟨g, o + 3, none⟩ u3).setCell ⟨g, o + 4, none⟩ u4).setCell ⟨g, o + 5, none⟩ u5).setCell ⟨g, o + 6, none⟩ u6
theorem grownA (w : World) (g o : Nat) (u0 u1 u2 u3 u4 u5 u6 : Value) : w.grownBy (putA w g o u0 u1 u2 u3 u4 u5 u6) (some g) := by
  have h := fun (W : World) (i : Nat) (u : Value) => grown_setCell W ⟨g, i, none⟩ u
  exact grown_trans (grown_trans (grown_trans (grown_trans (grown_trans (grown_trans (h _ _ _) (h _ _ _)) (h _ _ _)) (h _ _ _)) (h _ _ _)) (h _ _ _)) (h _ _ _)
section
variable {w : World} {g o : Nat} {t : TypeId} {cs : Array Value} {u0 u1 u2 u3 u4 u5 u6 : Value}
theorem Blk.putA (h : Blk w g t cs) : Blk (putA w g o u0 u1 u2 u3 u4 u5 u6) g t (((((((cs.setIfInBounds o u0).setIfInBounds (o + 1) u1).setIfInBounds (o + 2) u2).setIfInBounds (o + 3) u3).setIfInBounds (o + 4) u4).setIfInBounds (o + 5) u5).setIfInBounds (o + 6) u6) :=
  (((((((h.set_ o u0).set_ (o + 1) u1).set_ (o + 2) u2).set_ (o + 3) u3).set_ (o + 4) u4).set_ (o + 5) u5).set_ (o + 6) u6)
theorem putA_out (h : Blk w g t cs) (i : Nat) (hi : i < o ∨ o + 7 ≤ i) : (putA w g o u0 u1 u2 u3 u4 u5 u6).cell? ⟨g, i, none⟩ = w.cell? ⟨g, i, none⟩ := by
  rw [h.putA.cell i, h.cell i]
  rw [Array.getElem?_setIfInBounds_ne (by omega), Array.getElem?_setIfInBounds_ne (by omega), Array.getElem?_setIfInBounds_ne (by omega), Array.getElem?_setIfInBounds_ne (by omega), Array.getElem?_setIfInBounds_ne (by omega), Array.getElem?_setIfInBounds_ne (by omega), Array.getElem?_setIfInBounds_ne (by omega)]
theorem set_self {cs : Array Value} {i : Nat} {u : Value} (h : i < cs.size) : (cs.setIfInBounds i u)[i]? = some u := by
  rw [Array.getElem?_setIfInBounds_self, if_pos h]
theorem putA_in (h : Blk w g t cs) (hs : o + 7 ≤ cs.size) :
    (putA w g o u0 u1 u2 u3 u4 u5 u6).cell? ⟨g, o, none⟩ = some u0 ∧ (putA w g o u0 u1 u2 u3 u4 u5 u6).cell? ⟨g, o + 1, none⟩ = some u1 ∧ (putA w g o u0 u1 u2 u3 u4 u5 u6).cell? ⟨g, o + 2, none⟩ = some u2 ∧ (putA w g o u0 u1 u2 u3 u4 u5 u6).cell? ⟨g, o + 3, none⟩ = some u3 ∧ (putA w g o u0 u1 u2 u3 u4 u5 u6).cell? ⟨g, o + 4, none⟩ = some u4 ∧ (putA w g o u0 u1 u2 u3 u4 u5 u6).cell? ⟨g, o + 5, none⟩ = some u5 ∧ (putA w g o u0 u1 u2 u3 u4 u5 u6).cell? ⟨g, o + 6, none⟩ = some u6 := by
  refine ⟨?_, ?_, ?_, ?_, ?_, ?_, ?_⟩
  · rw [h.putA.cell]
    rw [Array.getElem?_setIfInBounds_ne (by omega), Array.getElem?_setIfInBounds_ne (by omega), Array.getElem?_setIfInBounds_ne (by omega), Array.getElem?_setIfInBounds_ne (by omega), Array.getElem?_setIfInBounds_ne (by omega), Array.getElem?_setIfInBounds_ne (by omega)]
    exact set_self (by omega)
  · rw [h.putA.cell]
    rw [Array.getElem?_setIfInBounds_ne (by omega), Array.getElem?_setIfInBounds_ne (by omega), Array.getElem?_setIfInBounds_ne (by omega), Array.getElem?_setIfInBounds_ne (by omega), Array.getElem?_setIfInBounds_ne (by omega)]
    exact set_self (by simp only [Array.size_setIfInBounds]; omega)
  · rw [h.putA.cell]
    rw [Array.getElem?_setIfInBounds_ne (by omega), Array.getElem?_setIfInBounds_ne (by omega), Array.getElem?_setIfInBounds_ne (by omega), Array.getElem?_setIfInBounds_ne (by omega)]
    exact set_self (by simp only [Array.size_setIfInBounds]; omega)
  · rw [h.putA.cell]
    rw [Array.getElem?_setIfInBounds_ne (by omega), Array.getElem?_setIfInBounds_ne (by omega), Array.getElem?_setIfInBounds_ne (by omega)]
    exact set_self (by simp only [Array.size_setIfInBounds]; omega)
  · rw [h.putA.cell]
    rw [Array.getElem?_setIfInBounds_ne (by omega), Array.getElem?_setIfInBounds_ne (by omega)]
    exact set_self (by simp only [Array.size_setIfInBounds]; omega)
  · rw [h.putA.cell]
    rw [Array.getElem?_setIfInBounds_ne (by omega)]
    exact set_self (by simp only [Array.size_setIfInBounds]; omega)
  · rw [h.putA.cell]
    exact set_self (by simp only [Array.size_setIfInBounds]; omega)
/-- Each of the seven cells is there while those ahead of it are stored. -/
theorem putA_there (h : Blk w g t cs) (hs : o + 7 ≤ cs.size) :
    (∃ x, w.cell? ⟨g, o, none⟩ = some x) ∧ (∃ x, w.cell? ⟨g, o + 1, none⟩ = some x) ∧ (∃ x, w.cell? ⟨g, o + 2, none⟩ = some x) ∧ (∃ x, w.cell? ⟨g, o + 3, none⟩ = some x) ∧ (∃ x, w.cell? ⟨g, o + 4, none⟩ = some x) ∧ (∃ x, w.cell? ⟨g, o + 5, none⟩ = some x) ∧ (∃ x, w.cell? ⟨g, o + 6, none⟩ = some x) := by
  have key : ∀ j, j < 7 → ∃ x, w.cell? ⟨g, o + j, none⟩ = some x := fun j hj => ⟨_, by rw [h.cell, Array.getElem?_eq_getElem (show o + j < cs.size by omega)]⟩
  exact ⟨key 0 (by decide), key 1 (by decide), key 2 (by decide), key 3 (by decide), key 4 (by decide), key 5 (by decide), key 6 (by decide)⟩
end
/-- A table with another node at a number. -/
theorem TabR.put {w : World} {g : Nat} {t : List Nd} {P : Nat → Prop} {k : Nat} {n : Nd} {vd ve : Value} (h : TabR w g t P) (hk : k < t.length) (hn : n = Nd.zero ∨ rightP n) (hd : BytesT w vd n.data) (he : EntsT w ve n.ents) (hpd : LP P vd) (hpe : LP P ve) :
    TabR (putA w g (1 + k * 7) (.int .i64 n.kind) (.int .i64 n.mode) (.int .i64 n.uid) (.int .i64 n.gid) vd ve (.string (bA n.target))) g (t.set k n) P := by
  obtain ⟨cs, hb, hs⟩ := h.blk
  have hhi := h.hi
  have hg := grownA w g (1 + k * 7) (.int .i64 n.kind) (.int .i64 n.mode) (.int .i64 n.uid) (.int .i64 n.gid) vd ve (.string (bA n.target))
  have hoD : ∀ {v : Value} {l : List UInt8}, BytesT w v l → BytesT (putA w g (1 + k * 7) (.int .i64 n.kind) (.int .i64 n.mode) (.int .i64 n.uid) (.int .i64 n.gid) vd ve (.string (bA n.target))) v l :=
    fun hx => hx.other hg (fun ad n c hv => by obtain ⟨ds, h2⟩ := hx.2 ad n c hv; exact blk_ne h2 hb (by decide))
  have hoE : ∀ {v : Value} {l : List En}, EntsT w v l → EntsT (putA w g (1 + k * 7) (.int .i64 n.kind) (.int .i64 n.mode) (.int .i64 n.uid) (.int .i64 n.gid) vd ve (.string (bA n.target))) v l :=
    fun hx => hx.other hg (fun ad n c hv => by obtain ⟨ds, h2⟩ := hx.2 ad n c hv; exact blk_ne h2 hb (by decide))
  refine ⟨⟨_, hb.putA, by simp only [Array.size_setIfInBounds]; exact hs⟩, ?_, by rw [List.length_set]; exact h.lo, by rw [List.length_set]; exact h.hi, ok_set h.ok k hn, fun j m hj => ?_⟩
  · rw [putA_out hb 0 (by omega), List.length_set]; exact h.room
  · by_cases q : k = j
    · subst q
      rw [List.getElem?_set_self hk] at hj
      injection hj with hj
      subst hj
      obtain ⟨a0, a1, a2, a3, a4, a5, a6⟩ := putA_in (u0 := .int .i64 n.kind) (u1 := .int .i64 n.mode) (u2 := .int .i64 n.uid) (u3 := .int .i64 n.gid) (u4 := vd) (u5 := ve) (u6 := .string (bA n.target)) (o := 1 + k * 7) hb (by omega)
      exact ⟨vd, ve, ⟨a0, a1, a2, a3, a4, a5, a6⟩, hoD hd, hoE he, hpd, hpe⟩
    · rw [List.getElem?_set_ne q] at hj
      obtain ⟨vd', ve', ha, hd', he', hp1, hp2⟩ := h.node j m hj
      exact ⟨vd', ve', ha.other (fun i hi => putA_out hb _ (by omega)), hoD hd', hoE he', hp1, hp2⟩
end Go.Proofs.Ytmapkmjhpebcbaa
