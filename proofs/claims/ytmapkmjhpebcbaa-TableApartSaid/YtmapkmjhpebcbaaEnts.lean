/-
  Entries, bytes and numbers as they lie in memory; rows that are known whole, with no place to spare; a node by value. No condition.
-/
import Derived.Test.YtmapkmjhpebcbaaRName
import Derived.Laws.CopyOwn
import Derived.Laws.MakeOwn
import Derived.Lib.AppendZerosOnto
import Derived.Lib.SliceRun
import Derived.Laws.NewBlocks
namespace Go.Proofs.Ytmapkmjhpebcbaa
open Go Go.RowKit

theorem ba (w : World) (o : Obj) : Below w.heap.size w (w.alloc o) := (Below.refl _ _).alloc (Nat.le_refl _) _
/-- The cells of entries. -/
def eCells (l : List En) : List Value := l.flatMap fun e => [.string (bA e.1), .int .i64 e.2]
def bCells (l : List UInt8) : List Value := l.map fun b => .int .u8 (co b)
def iCells (l : List Int) : List Value := l.map fun n => .int .i64 n
theorem eCells_len : ∀ l : List En, (eCells l).length = l.length * 2
  | [] => rfl
  | e :: l => by
    have h := eCells_len l
    have e2 : eCells (e :: l) = .string (bA e.1) :: .int .i64 e.2 :: eCells l := rfl
    rw [e2, List.length_cons, List.length_cons, h, List.length_cons]
    omega
theorem eCells_app (a b : List En) : eCells (a ++ b) = eCells a ++ eCells b := by simp [eCells]
theorem eCells_take (l : List En) (k : Nat) : (eCells l).take (k * 2) = eCells (l.take k) := by
  by_cases h : k ≤ l.length
  · have e : eCells l = eCells (l.take k) ++ eCells (l.drop k) := by rw [← eCells_app, List.take_append_drop]
    have hl : (eCells (l.take k)).length = k * 2 := by rw [eCells_len, List.length_take, Nat.min_eq_left h]
    rw [e, ← hl, List.take_left]
  · rw [List.take_of_length_le (by rw [eCells_len]; omega), List.take_of_length_le (by omega)]
theorem eCells_drop (l : List En) (k : Nat) : (eCells l).drop (k * 2) = eCells (l.drop k) := by
  by_cases h : k ≤ l.length
  · have e : eCells l = eCells (l.take k) ++ eCells (l.drop k) := by rw [← eCells_app, List.take_append_drop]
    have hl : (eCells (l.take k)).length = k * 2 := by rw [eCells_len, List.length_take, Nat.min_eq_left h]
    rw [e, ← hl, List.drop_left]
  · rw [List.drop_eq_nil_of_le (by rw [eCells_len]; omega), List.drop_eq_nil_of_le (by omega)]
    rfl
theorem eCells_at : ∀ (l : List En) (k : Nat) (e : En), l[k]? = some e → (eCells l)[k * 2]? = some (.string (bA e.1)) ∧ (eCells l)[k * 2 + 1]? = some (.int .i64 e.2)
  | [], k, f, h => by simp at h
  | x :: l, 0, f, h => by
    simp at h
    subst h
    exact ⟨rfl, rfl⟩
  | x :: l, k + 1, f, h => by
    have := eCells_at l k f (by simpa using h)
    rw [show (k + 1) * 2 = k * 2 + 2 by omega]
    exact this
theorem eCells_one (l : List En) : ∀ u ∈ eCells l, u.oneCell' = true := by
  intro u hu
  rw [eCells, List.mem_flatMap] at hu
  obtain ⟨e, -, hu⟩ := hu
  simp only [List.mem_cons, List.mem_nil_iff, or_false] at hu
  rcases hu with rfl | rfl <;> rfl
theorem bCells_one (l : List UInt8) : ∀ u ∈ bCells l, u.oneCell' = true := by
  intro u hu
  rw [bCells, List.mem_map] at hu
  obtain ⟨s, _, rfl⟩ := hu
  rfl
theorem bCells_len (l : List UInt8) : (bCells l).length = l.length := by simp [bCells]
theorem bCells_at (l : List UInt8) (k : Nat) (b : UInt8) (h : l[k]? = some b) : (bCells l)[k]? = some (.int .u8 (co b)) := by simp [bCells, h]
theorem iCells_at (l : List Int) (k : Nat) (n : Int) (h : l[k]? = some n) : (iCells l)[k]? = some (.int .i64 n) := by simp [iCells, h]
theorem iCells_one (l : List Int) : ∀ u ∈ iCells l, u.oneCell' = true := by
  intro u hu
  rw [iCells, List.mem_map] at hu
  obtain ⟨s, _, rfl⟩ := hu
  rfl
theorem iCells_snoc (l : List Int) (n : Int) : iCells l ++ [.int .i64 n] = iCells (l ++ [n]) := by simp [iCells]

/-- A slice that reads as entries. -/
def EntsR (w : World) (v : Value) (l : List En) : Prop := ∃ A c, v = .slice A l.length c ∧ ∀ (k : Nat) (e : En), l[k]? = some e → ∃ ad : Addr, A = some ad ∧
  w.cell? (ad.add (k * 2)) = some (.string (bA e.1)) ∧ w.cell? ⟨(ad.add (k * 2)).block, (ad.add (k * 2)).off + 1, none⟩ = some (.int .i64 e.2)
/-- A slice that reads as numbers. -/
def IntsR (w : World) (v : Value) (l : List Int) : Prop := ∃ A c, v = .slice A l.length c ∧ ∀ (k : Nat) (n : Int), l[k]? = some n → ∃ ad : Addr, A = some ad ∧ w.cell? (ad.add k) = some (.int .i64 n)
theorem EntsR.below {w w' : World} {v : Value} {l : List En} (h : EntsR w v l) (hb : Below w.heap.size w w') : EntsR w' v l := by
  obtain ⟨A, c, hv, hc⟩ := h
  refine ⟨A, c, hv, fun k a hk => ?_⟩
  obtain ⟨ad, hA, h0, h1⟩ := hc k a hk
  exact ⟨ad, hA, bc hb h0, bc hb h1⟩
theorem IntsR.below {w w' : World} {v : Value} {l : List Int} (h : IntsR w v l) (hb : Below w.heap.size w w') : IntsR w' v l := by
  obtain ⟨A, c, hv, hc⟩ := h
  refine ⟨A, c, hv, fun k a hk => ?_⟩
  obtain ⟨ad, hA, h0⟩ := hc k a hk
  exact ⟨ad, hA, bc hb h0⟩
theorem EntsR.nil (w : World) : EntsR w (.slice none 0 0) [] := ⟨none, 0, rfl, fun k s h => by simp at h⟩
theorem IntsR.nil (w : World) : IntsR w (.slice none 0 0) [] := ⟨none, 0, rfl, fun k s h => by simp at h⟩
theorem BytesR.nil (w : World) : BytesR w (.slice none 0 0) [] := ⟨none, 0, rfl, fun k s h => by simp at h⟩
theorem IntsR.of_own {w : World} {B : Nat} {e : TypeId} {v : Value} {l : List Int} (h : w.ownsRow B e 1 v l.length (iCells l)) : IntsR w v l := by
  rcases h.2 with ⟨rfl, hn⟩ | ⟨g, cap, cur, rfl, _⟩
  · have : l = [] := List.eq_nil_of_length_eq_zero hn
    subst this
    exact IntsR.nil w
  · refine ⟨some ⟨g, 0, none⟩, cap, rfl, fun k a hk => ⟨_, rfl, ?_⟩⟩
    rw [add_lit]
    exact row_at h _ _ (iCells_at l k a hk)
/-- A row whose first cells are the entries'. -/
theorem EntsR.of_blk {w : World} {g : Nat} {t : TypeId} {cs : Array Value} {l : List En} {n : Nat} (c : Nat) (hn : l.length = n) (h : Blk w g t cs) (hc : cs.toList.take (n * 2) = eCells l) : EntsR w (.slice (some ⟨g, 0, none⟩) n c) l := by
  subst hn
  refine ⟨_, c, rfl, fun k e hk => ⟨_, rfl, ?_⟩⟩
  have hlt : k < l.length := (List.getElem?_eq_some_iff.1 hk).1
  obtain ⟨h0, h1⟩ := eCells_at l k e hk
  have key : ∀ j u, j < l.length * 2 → (eCells l)[j]? = some u → w.cell? ⟨g, j, none⟩ = some u := by
    intro j u hj hu
    rw [h.cell j, ← Array.getElem?_toList, ← hu, ← hc, List.getElem?_take, if_pos hj]
  rw [add_lit]
  exact ⟨key (k * 2) _ (by omega) h0, key (k * 2 + 1) _ (by omega) h1⟩
theorem BytesR.of_blk {w : World} {g : Nat} {t : TypeId} {l : List UInt8} {n : Nat} (c : Nat) (hn : l.length = n) (h : Blk w g t (bCells l).toArray) : BytesR w (.slice (some ⟨g, 0, none⟩) n c) l := by
  subst hn
  refine ⟨_, c, rfl, fun k b hk => ⟨_, rfl, ?_⟩⟩
  rw [add_lit, h.cell k, List.getElem?_toArray]
  exact bCells_at l k b hk
/-- Entries in a row of their own, with no place to spare. -/
def EntsX (w : World) (B : Nat) (v : Value) (l : List En) : Prop := (v = .slice none 0 0 ∧ l = []) ∨ ∃ g, B ≤ g ∧ v = .slice (some ⟨g, 0, none⟩) l.length l.length ∧ 0 < l.length ∧ Blk w g 72 (eCells l).toArray
def BytesX (w : World) (B : Nat) (v : Value) (l : List UInt8) : Prop := (v = .slice none 0 0 ∧ l = []) ∨ ∃ g, B ≤ g ∧ v = .slice (some ⟨g, 0, none⟩) l.length l.length ∧ Blk w g 5 (bCells l).toArray
theorem EntsX.ents {w : World} {B : Nat} {v : Value} {l : List En} (h : EntsX w B v l) : EntsR w v l := by
  rcases h with ⟨rfl, rfl⟩ | ⟨g, -, rfl, -, h⟩
  · exact EntsR.nil w
  · exact EntsR.of_blk _ rfl h (List.take_of_length_le (by rw [eCells_len]; exact Nat.le_refl _))
theorem BytesX.bytes {w : World} {B : Nat} {v : Value} {l : List UInt8} (h : BytesX w B v l) : BytesR w v l := by
  rcases h with ⟨rfl, rfl⟩ | ⟨g, -, rfl, h⟩
  · exact BytesR.nil w
  · exact BytesR.of_blk _ rfl h
theorem EntsX.below {w w' : World} {B : Nat} {v : Value} {l : List En} (h : EntsX w B v l) (hb : Below w.heap.size w w') : EntsX w' B v l := by
  rcases h with h | ⟨g, h1, h2, h3, h4⟩
  · exact .inl h
  · exact .inr ⟨g, h1, h2, h3, h4.below hb⟩
theorem BytesX.below {w w' : World} {B : Nat} {v : Value} {l : List UInt8} (h : BytesX w B v l) (hb : Below w.heap.size w w') : BytesX w' B v l := by
  rcases h with h | ⟨g, h1, h2, h3⟩
  · exact .inl h
  · exact .inr ⟨g, h1, h2, h3.below hb⟩
/-- Bytes in a row of their own stand where a row of another kind is changed. -/
theorem BytesX.kept {w w' : World} {B g : Nat} {v : Value} {l : List UInt8} {cs : Array Value} {t : TypeId} (h : BytesX w B v l) (hk : Blk w g t cs) (ht : t ≠ 5) (hg : w.grownBy w' (some g)) : BytesX w' B v l := by
  rcases h with h | ⟨g', h1, h2, h3⟩
  · exact .inl h
  · refine .inr ⟨g', h1, h2, h3.kept hg ?_⟩
    intro e
    injection e with e
    subst e
    unfold Blk at hk h3
    rw [hk] at h3
    injection h3 with h3
    injection h3 with _ h3
    exact ht h3
/-- Entries, and their row is one of entries. -/
def EntsT (w : World) (v : Value) (l : List En) : Prop := EntsR w v l ∧ ∀ (ad : Addr) (n c : Nat), v = .slice (some ad) n c → ∃ cs, Blk w ad.block 72 cs
theorem EntsT.kept {w w' : World} {g : Nat} {v : Value} {l : List En} {cs : Array Value} {t : TypeId} (h : EntsT w v l) (hk : Blk w g t cs) (ht : t ≠ 72) (hg : w.grownBy w' (some g)) : EntsT w' v l := by
  obtain ⟨⟨A, c, rfl, hc⟩, h2⟩ := h
  have hne : ∀ ad : Addr, A = some ad → ad.block ≠ g := by
    intro ad hA e
    subst hA
    obtain ⟨cs', hb⟩ := h2 ad _ _ rfl
    rw [e] at hb
    unfold Blk at hk hb
    rw [hk] at hb
    injection hb with hb
    injection hb with _ hb
    exact ht hb
  refine ⟨⟨A, c, rfl, fun k e hk' => ?_⟩, fun ad n' c' hv => ?_⟩
  · obtain ⟨ad, rfl, h0, h1⟩ := hc k e hk'
    have e1 : (ad.add (k * 2)).block = ad.block := by unfold Addr.add; split <;> rfl
    have key : ∀ (p : Addr) (u : Value), p.block = ad.block → w.cell? p = some u → w'.cell? p = some u := by
      intro p u hp hu
      rw [← hu]
      exact World.cell?_of_block (hg.block p.block (World.block_lt_of_cell? _ _ hu) (by rw [hp]; intro q; injection q with q; exact hne ad rfl q))
    exact ⟨ad, rfl, key _ _ e1 h0, key _ _ e1 h1⟩
  · obtain ⟨cs', hb⟩ := h2 ad n' c' hv
    injection hv with hA
    exact ⟨cs', hb.kept hg (fun e => hne ad hA (by injection e))⟩
theorem EntsT.below {w w' : World} {v : Value} {l : List En} (h : EntsT w v l) (hb : Below w.heap.size w w') : EntsT w' v l :=
  ⟨h.1.below hb, fun ad n c hv => by obtain ⟨cs, hc⟩ := h.2 ad n c hv; exact ⟨cs, hc.below hb⟩⟩
theorem EntsT.nil (w : World) : EntsT w (.slice none 0 0) [] := ⟨EntsR.nil w, fun ad n c h => by injection h with h; cases h⟩
theorem ents_form {w : World} {v : Value} {l : List En} {n : Nat} (h : EntsR w v l) (hn : l.length = n) : ∃ A c, v = .slice A n c := by
  obtain ⟨A, c, rfl, -⟩ := h
  subst hn
  exact ⟨A, c, rfl⟩
theorem bytes_form {w : World} {v : Value} {l : List UInt8} {n : Nat} (h : BytesR w v l) (hn : l.length = n) : ∃ A c, v = .slice A n c := by
  obtain ⟨A, c, rfl, -⟩ := h
  subst hn
  exact ⟨A, c, rfl⟩
theorem ints_form {w : World} {v : Value} {l : List Int} {n : Nat} (h : IntsR w v l) (hn : l.length = n) : ∃ A c, v = .slice A n c := by
  obtain ⟨A, c, rfl, -⟩ := h
  subst hn
  exact ⟨A, c, rfl⟩
theorem ents_get {w : World} {A : Option Addr} {n c : Nat} {l : List En} (h : EntsR w (.slice A n c) l) {k : Nat} {e : En} (hk : l[k]? = some e) : ∃ ad : Addr, A = some ad ∧ w.cell? (ad.add (k * 2)) = some (.string (bA e.1)) ∧ w.cell? ⟨(ad.add (k * 2)).block, (ad.add (k * 2)).off + 1, none⟩ = some (.int .i64 e.2) := by
  obtain ⟨A', c', hv, hc⟩ := h
  injection hv with hA
  subst hA
  exact hc k e hk
theorem ents_len {w : World} {A : Option Addr} {n c : Nat} {l : List En} (h : EntsR w (.slice A n c) l) : l.length = n := by
  obtain ⟨A', c', hv, -⟩ := h
  injection hv with _ h2
  exact h2.symm
theorem bytes_get {w : World} {A : Option Addr} {n c : Nat} {l : List UInt8} (h : BytesR w (.slice A n c) l) {k : Nat} {b : UInt8} (hk : l[k]? = some b) : ∃ ad : Addr, A = some ad ∧ w.cell? (ad.add k) = some (.int .u8 (co b)) := by
  obtain ⟨A', c', hv, hc⟩ := h
  injection hv with hA
  subst hA
  exact hc k b hk
theorem bytes_len {w : World} {A : Option Addr} {n c : Nat} {l : List UInt8} (h : BytesR w (.slice A n c) l) : l.length = n := by
  obtain ⟨A', c', hv, -⟩ := h
  injection hv with _ h2
  exact h2.symm
theorem ints_get {w : World} {A : Option Addr} {n c : Nat} {l : List Int} (h : IntsR w (.slice A n c) l) {k : Nat} {b : Int} (hk : l[k]? = some b) : ∃ ad : Addr, A = some ad ∧ w.cell? (ad.add k) = some (.int .i64 b) := by
  obtain ⟨A', c', hv, hc⟩ := h
  injection hv with hA
  subst hA
  exact hc k b hk
theorem ints_len {w : World} {A : Option Addr} {n c : Nat} {l : List Int} (h : IntsR w (.slice A n c) l) : l.length = n := by
  obtain ⟨A', c', hv, -⟩ := h
  injection hv with _ h2
  exact h2.symm
theorem strs_len {w : World} {A : Option Addr} {n c : Nat} {l : List ByteArray} (h : StrsR w (.slice A n c) l) : l.length = n := by
  obtain ⟨A', c', hv, -⟩ := h
  injection hv with _ h2
  exact h2.symm
/-- All of entries' cells, one by one, from the row's head on. -/
theorem ents_src {w : World} {ad : Addr} {n c : Nat} {l : List En} (h : EntsR w (.slice (some ad) n c) l) : ∀ (j : Nat) (u : Value), (eCells l)[j]? = some u → w.cell? (ad.add j) = some u := by
  intro j u hj
  have hlt : j < l.length * 2 := by rw [← eCells_len]; exact (List.getElem?_eq_some_iff.1 hj).1
  obtain ⟨e, he⟩ : ∃ e, l[j / 2]? = some e := ⟨_, List.getElem?_eq_getElem (show j / 2 < l.length by omega)⟩
  obtain ⟨ad', hA, h0, h1⟩ := ents_get h he
  injection hA with hA
  subst hA
  obtain ⟨e0, e1⟩ := eCells_at l _ e he
  rcases Nat.mod_two_eq_zero_or_one j with hm | hm
  · rw [show j / 2 * 2 = j by omega] at h0 e0
    rw [e0] at hj
    injection hj with hj
    rw [← hj]
    exact h0
  · rw [show j / 2 * 2 + 1 = j by omega] at e1
    rw [e1] at hj
    injection hj with hj
    rw [← hj, ← h1]
    congr 1
    unfold Addr.add
    by_cases h0 : j / 2 * 2 = 0
    · rw [if_neg (show ¬ j = 0 by omega), if_pos h0]
      have : j = 1 := by omega
      subst this
      rfl
    · rw [if_neg (show ¬ j = 0 by omega), if_neg h0]
      show (⟨ad.block, ad.off + j, none⟩ : Addr) = ⟨ad.block, ad.off + j / 2 * 2 + 1, none⟩
      rw [show ad.off + j / 2 * 2 + 1 = ad.off + j by omega]
theorem bytes_src {w : World} {ad : Addr} {n c : Nat} {l : List UInt8} (h : BytesR w (.slice (some ad) n c) l) : ∀ (j : Nat) (u : Value), (bCells l)[j]? = some u → w.cell? (ad.add j) = some u := by
  intro j u hj
  have hlt : j < l.length := by rw [← bCells_len]; exact (List.getElem?_eq_some_iff.1 hj).1
  obtain ⟨b, hb⟩ : ∃ b, l[j]? = some b := ⟨_, List.getElem?_eq_getElem hlt⟩
  obtain ⟨ad', hA, h0⟩ := bytes_get h hb
  injection hA with hA
  subst hA
  rw [bCells_at l j b hb] at hj
  injection hj with hj
  rw [← hj]
  exact h0

/-- The texts of names. -/
def nmA (l : List Nm) : List ByteArray := l.map bA
theorem nmA_len (l : List Nm) : (nmA l).length = l.length := List.length_map ..
theorem nmA_at {l : List Nm} {k : Nat} {n : Nm} (h : l[k]? = some n) : (nmA l)[k]? = some (bA n) := by simp [nmA, h]
theorem nmA_snoc (l : List Nm) (n : Nm) : nmA (l ++ [n]) = nmA l ++ [bA n] := by simp [nmA]
def idE (l : List En) : List Int := l.map Prod.snd
theorem idE_len (l : List En) : (idE l).length = l.length := List.length_map ..
theorem nmE_at {l : List En} {k : Nat} {e : En} (h : l[k]? = some e) : (nmE l)[k]? = some e.1 := by simp [nmE, h]
theorem idE_at {l : List En} {k : Nat} {e : En} (h : l[k]? = some e) : (idE l)[k]? = some e.2 := by simp [idE, h]
/-- A node by value, of what lies in memory. -/
def nodeV (n : Nd) (vd ve : Value) : Value := .agg #[.int .i64 n.kind, .int .i64 n.mode, .int .i64 n.uid, .int .i64 n.gid, vd, ve, .string (bA n.target)]
def NdR (w : World) (v : Value) (n : Nd) : Prop := ∃ vd ve, v = nodeV n vd ve ∧ BytesR w vd n.data ∧ EntsR w ve n.ents
theorem NdR.below {w w' : World} {v : Value} {n : Nd} (h : NdR w v n) (hb : Below w.heap.size w w') : NdR w' v n := by
  obtain ⟨vd, ve, h1, h2, h3⟩ := h
  exact ⟨vd, ve, h1, h2.below hb, h3.below hb⟩
/-- The same, with lists in rows of their own kinds. -/
def NdT (w : World) (v : Value) (n : Nd) : Prop := ∃ vd ve, v = nodeV n vd ve ∧ BytesX w 0 vd n.data ∧ EntsT w ve n.ents
theorem NdT.nd {w : World} {v : Value} {n : Nd} (h : NdT w v n) : NdR w v n := by
  obtain ⟨vd, ve, h1, h2, h3⟩ := h
  exact ⟨vd, ve, h1, h2.bytes, h3.1⟩
/-- The reference's node by value. -/
def refV (n : Nd) (vn vk : Value) : Value := .agg #[.int .i64 n.kind, .int .i64 n.mode, .int .i64 n.uid, .int .i64 n.gid, .string (bA n.data), vn, vk, .string (bA n.target)]
def NrR (w : World) (v : Value) (n : Nd) : Prop := ∃ vn vk, v = refV n vn vk ∧ StrsR w vn (nmA (nmE n.ents)) ∧ IntsR w vk (idE n.ents)
theorem NrR.below {w w' : World} {v : Value} {n : Nd} (h : NrR w v n) (hb : Below w.heap.size w w') : NrR w' v n := by
  obtain ⟨vd, ve, h1, h2, h3⟩ := h
  exact ⟨vd, ve, h1, h2.below hb, h3.below hb⟩
/-- As texts are compared. -/
theorem bA_list (l : List UInt8) : (bA l).toList = l := by rw [ByteArray.toList_eq]; rfl
end Go.Proofs.Ytmapkmjhpebcbaa
