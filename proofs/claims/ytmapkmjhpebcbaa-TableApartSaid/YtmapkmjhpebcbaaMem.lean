/-
  Words for memory: a change of one block alone; a block that is known whole; rows of texts as they lie in memory.
-/
import Derived.Test.YtmapkmjhpebcbaaMod
import Derived.Lib.OthersKept
import Derived.Laws.OwnMore
import Derived.Deep.AppendLies
import Derived.Deep.LoopGhost
import Derived.OwnWalk
import Derived.Laws.AppendOwnNone
namespace Go.Proofs.Ytmapkmjhpebcbaa
open Go Go.RowKit

theorem grown_of_below {a w : World} (h : Below a.heap.size a w) (row : Option Nat) : a.grownBy w row := ⟨h.os, h.tape, h.output, h.size, fun i hi _ => h.block i hi⟩
theorem grown_setCell (w : World) (p : Addr) (u : Value) : w.grownBy (w.setCell p u) (some p.block) :=
  ⟨rfl, rfl, rfl, by simp [World.setCell], fun i _ hne => Below.heap_setCell w p u i (fun e => hne (by rw [e]))⟩
theorem grown_trans {a b c : World} {row : Option Nat} (h : a.grownBy b row) (k : b.grownBy c row) : a.grownBy c row :=
  ⟨k.os.trans h.os, k.tape.trans h.tape, k.output.trans h.output, Nat.le_trans h.size k.size, fun i hi hne => (k.block i (Nat.lt_of_lt_of_le hi h.size) hne).trans (h.block i hi hne)⟩

/-- A block that is known whole. -/
def Blk (w : World) (g : Nat) (t : TypeId) (cs : Array Value) : Prop := w.heap[g]? = some (.cells cs t (0, 0))
section
variable {w w' : World} {g : Nat} {t : TypeId} {cs : Array Value}
theorem Blk.lt (h : Blk w g t cs) : g < w.heap.size := (Array.getElem?_eq_some_iff.1 h).1
theorem Blk.cell (h : Blk w g t cs) (i : Nat) : w.cell? ⟨g, i, none⟩ = cs[i]? := cell_of_row w g i cs t (0, 0) h
theorem Blk.frozen (h : Blk w g t cs) (i : Nat) : w.frozen? ⟨g, i, none⟩ = false := by
  unfold Blk at h
  simp [World.frozen?, h]
theorem Blk.new (w : World) (t : TypeId) (cs : Array Value) : Blk (w.alloc (.cells cs t)) w.heap.size t cs := heap_alloc_new w _
theorem Blk.kept {row : Option Nat} (h : Blk w g t cs) (hg : w.grownBy w' row) (hne : some g ≠ row) : Blk w' g t cs := (hg.block g h.lt hne).trans h
theorem Blk.set_ (h : Blk w g t cs) (i : Nat) (u : Value) : Blk (w.setCell ⟨g, i, none⟩ u) g t (cs.setIfInBounds i u) := by
  unfold Blk at h ⊢
  simp [World.setCell, Array.getElem?_modify, h]
theorem Blk.alloc (h : Blk w g t cs) (o : Obj) : Blk (w.alloc o) g t cs := (Below.heap_alloc w o g h.lt).trans h
theorem Blk.below (h : Blk w g t cs) (hb : Below w.heap.size w w') : Blk w' g t cs := (hb.block g h.lt).trans h
end
theorem own_blk_ne {w : World} {B g : Nat} {e t : TypeId} {size n : Nat} {v : Value} {xs : List Value} {cs : Array Value} (h : w.ownsRow B e size v n xs) (hk : Blk w g t cs) (hne : e ≠ t) : v.ownBlock ≠ some g := by
  rcases h.2 with ⟨rfl, _⟩ | ⟨g', cap, cur, rfl, _, hh, _⟩
  · simp [Value.ownBlock]
  · intro he
    have : g' = g := by simpa [Value.ownBlock] using he
    subst this
    unfold Blk at hk
    rw [hk] at hh
    injection hh with hh
    injection hh with _ ht
    exact hne ht.symm
theorem own_below {w w' : World} {B : Nat} {e : TypeId} {size n : Nat} {v : Value} {xs : List Value} (h : w.ownsRow B e size v n xs) (hb : Below w.heap.size w w') : w'.ownsRow B e size v n xs :=
  h.kept (grown_of_below hb none) (by cases hv : v.ownBlock <;> simp)
theorem own_one {w : World} {B : Nat} {e : TypeId} {size n : Nat} {v : Value} {xs : List Value} (h : w.ownsRow B e size v n xs) : v.oneCell' = true := by
  rcases h.2 with ⟨rfl, _⟩ | ⟨g', cap, cur, rfl, _⟩ <;> rfl
theorem own_slice {w : World} {B : Nat} {e : TypeId} {size n : Nat} {v : Value} {xs : List Value} (h : w.ownsRow B e size v n xs) : ∃ (A : Option Addr) (c : Nat), v = .slice A n c := by
  rcases h.2 with ⟨rfl, rfl⟩ | ⟨g', cap, cur, rfl, _⟩
  · exact ⟨none, 0, rfl⟩
  · exact ⟨some ⟨g', 0, none⟩, cap, rfl⟩

theorem add_lit (g k : Nat) : (⟨g, 0, none⟩ : Addr).add k = ⟨g, k, none⟩ := by rw [Addr.add_lit, Nat.zero_add]
theorem add_two (a : Addr) (i j : Nat) : (a.add i).add j = a.add (i + j) := by
  unfold Addr.add
  by_cases hi : i = 0 <;> by_cases hj : j = 0 <;> simp [hi, hj, Nat.add_assoc]
theorem add_pos (a : Addr) (j : Nat) (hj : j ≠ 0) : a.add j = ⟨a.block, a.off + j, none⟩ := by unfold Addr.add; rw [if_neg hj]
theorem add_none (a : Addr) : a.add 0 = a := by unfold Addr.add; rw [if_pos rfl]
theorem take_snoc' {α : Type} {l : List α} {k : Nat} {x : α} (h : l[k]? = some x) : l.take (k + 1) = l.take k ++ [x] := by rw [List.take_add_one, h]; rfl

/-- A slice that reads as texts. -/
def StrsR (w : World) (v : Value) (l : List ByteArray) : Prop := ∃ A c, v = .slice A l.length c ∧ (l.length ≤ c ∧ (A = none → c = 0)) ∧ ∀ (k : Nat) (s : ByteArray), l[k]? = some s → ∃ ad : Addr, A = some ad ∧ w.cell? (ad.add k) = some (.string s)
/-- A slice that reads as bytes. -/
def BytesR (w : World) (v : Value) (l : List UInt8) : Prop := ∃ A c, v = .slice A l.length c ∧ ∀ (k : Nat) (b : UInt8), l[k]? = some b → ∃ ad : Addr, A = some ad ∧ w.cell? (ad.add k) = some (.int .u8 (co b))
theorem StrsR.below {w w' : World} {v : Value} {l : List ByteArray} (h : StrsR w v l) (hb : Below w.heap.size w w') : StrsR w' v l := by
  obtain ⟨A, c, hv, hle, hc⟩ := h
  refine ⟨A, c, hv, hle, fun k a hk => ?_⟩
  obtain ⟨ad, hA, h0⟩ := hc k a hk
  exact ⟨ad, hA, bc hb h0⟩
theorem BytesR.below {w w' : World} {v : Value} {l : List UInt8} (h : BytesR w v l) (hb : Below w.heap.size w w') : BytesR w' v l := by
  obtain ⟨A, c, hv, hc⟩ := h
  refine ⟨A, c, hv, fun k a hk => ?_⟩
  obtain ⟨ad, hA, h0⟩ := hc k a hk
  exact ⟨ad, hA, bc hb h0⟩
theorem StrsR.nil (w : World) : StrsR w (.slice none 0 0) [] := ⟨none, 0, rfl, ⟨Nat.le_refl _, fun _ => rfl⟩, fun k s h => by simp at h⟩
def sCells (l : List ByteArray) : List Value := l.map .string
theorem sCells_at (l : List ByteArray) (k : Nat) (s : ByteArray) (h : l[k]? = some s) : (sCells l)[k]? = some (.string s) := by simp [sCells, h]
theorem row_at {w : World} {B : Nat} {e : TypeId} {size n g cap : Nat} {xs : List Value} (h : w.ownsRow B e size (.slice (some ⟨g, 0, none⟩) n cap) n xs) (j : Nat) (u : Value) (hj : xs[j]? = some u) : w.cell? ⟨g, j, none⟩ = some u := by
  have := World.ownsRow.cells h (g := g) rfl j u hj
  rwa [add_lit] at this
theorem StrsR.of_own {w : World} {B : Nat} {e : TypeId} {v : Value} {l : List ByteArray} (h : w.ownsRow B e 1 v l.length (sCells l)) : StrsR w v l := by
  rcases h.2 with ⟨rfl, hn⟩ | ⟨g, cap, cur, rfl, _, _, hc, _⟩
  · have : l = [] := List.eq_nil_of_length_eq_zero hn
    subst this
    exact StrsR.nil w
  · refine ⟨some ⟨g, 0, none⟩, cap, rfl, ⟨hc, fun e => by cases e⟩, fun k a hk => ⟨_, rfl, ?_⟩⟩
    rw [add_lit]
    exact row_at h _ _ (sCells_at l k a hk)
theorem info_str : (Try.prog.info? 9).map (fun i => (i.zero, i.size, i.bytes)) = some (some (.string ⟨#[]⟩), 1, 16) := by kernel_rfl
/-- 's = append(s, x)' of one element whose cells are told. -/
theorem wpList_append_one {P : Program} {ops : Array Oper} {rest : List Oper} {o : Oper} {a : Act} {Q : Exit → Act → World → Prop} (hgd : o.guard = none) (s x : Operand) (t : TypeId)
    (ho : o.op = .call { callee := .builtin .append, args := #[s, x], argTypes := #[t, t] }) (B : Nat) (e : TypeId) (z : Value) (size bytes : Nat) (ht : P.underlying t = some (.slice e))
    (hi : (P.info? e).map (fun i => (i.zero, i.size, i.bytes)) = some (some z, size, bytes)) (hzs : z.cells.size = size) (hsz : 0 < size)
    (v : Value) (n : Nat) (xs : List Value) (hs : a.eval s = v) (w0 : World) (cs : List Value) (hcs : cs.length = size) (h1 : ∀ u ∈ cs, u.oneCell' = true) (hown : w0.ownsRow B e size v n xs)
    (hx : a.eval x = .slice (some ⟨w0.heap.size, 0, none⟩) 1 1) (hlen : (n + 1) * bytes ≤ 140737488355328) (hn : n + 1 ≤ 1000000000) (hB : B ≤ w0.heap.size)
    (h : ∀ v' w', w'.ownsRow B e size v' (n + 1) (xs ++ cs) → w0.grownBy w' v.ownBlock → wpList P ops Q rest (a.put o.dst v') w') : wpList P ops Q (o :: rest) a (w0.alloc (.cells cs.toArray e)) := by
  obtain ⟨i, hi0, hz0, hz1, hz2⟩ := info_parts hi
  refine wpList_append_own _ hgd s x t ho B e i z size bytes ht hi0 hz0 hz1 hz2 hzs hsz v n xs hs (hown.alloc _) ⟨w0.heap.size, 0, none⟩ 1 1 cs hx (by rw [hcs, Nat.one_mul]) ?_ h1 (by unfold maxLen; omega) hlen (by simp; omega) ?_
  · exact fun j u hj => World.news_of_block (heap_alloc_new w0 (.cells cs.toArray e)) j u (by simpa using hj)
  · intro v' w' ho' hg _
    exact h v' w' ho' (grown_trans (World.grownBy_alloc w0 _ _) hg)
theorem src_strs {w : World} {ad : Addr} {c : Nat} {l : List ByteArray} (h : StrsR w (.slice (some ad) l.length c) l) : ∀ (j : Nat) (u : Value), (sCells l)[j]? = some u → w.cell? (ad.add j) = some u := by
  obtain ⟨A, c', hv, _, hc⟩ := h
  injection hv with hA
  intro j u hj
  have hlt : j < l.length := by
    rcases Nat.lt_or_ge j l.length with h | h
    · exact h
    · rw [sCells, List.getElem?_eq_none (by simpa using h)] at hj
      cases hj
  have hs := List.getElem?_eq_getElem hlt
  obtain ⟨ad', hA', h0⟩ := hc j _ hs
  rw [sCells_at l j _ hs] at hj
  injection hj with hj
  rw [← hj]
  rw [← hA] at hA'
  injection hA' with hA'
  rw [hA']
  exact h0
theorem sCells_one (l : List ByteArray) : ∀ u ∈ sCells l, u.oneCell' = true := by
  intro u hu
  rw [sCells, List.mem_map] at hu
  obtain ⟨s, _, rfl⟩ := hu
  rfl
/-- 's = append(s, x...)' of texts. -/
theorem wpList_append_strs {ops : Array Oper} {rest : List Oper} {o : Oper} {a : Act} {Q : Exit → Act → World → Prop} {w0 : World} (hgd : o.guard = none) (s x : Operand)
    (ho : o.op = .call { callee := .builtin .append, args := #[s, x], argTypes := #[31, 31] }) (B : Nat) (v : Value) (l : List ByteArray) (hs : a.eval s = v) (hown : w0.ownsRow B 9 1 v l.length (sCells l))
    (vx : Value) (m : List ByteArray) (hx : a.eval x = vx) (hm : StrsR w0 vx m) (hn : l.length + m.length ≤ 100000000) (hB : B ≤ w0.heap.size)
    (h : ∀ v' w', w'.ownsRow B 9 1 v' (l ++ m).length (sCells (l ++ m)) → w0.grownBy w' v.ownBlock → wpList Try.prog ops Q rest (a.put o.dst v') w') : wpList Try.prog ops Q (o :: rest) a w0 := by
  obtain ⟨i, hi0, hz0, hz1, hz2⟩ := info_parts info_str
  obtain ⟨A, c, rfl, hle, hc⟩ := id hm
  cases A with
  | none =>
    have hm0 : m = [] := by
      cases m with
      | nil => rfl
      | cons y m' =>
        obtain ⟨ad, e, _⟩ := hc 0 y rfl
        cases e
    subst hm0
    have hc0 : c = 0 := hle.2 rfl
    subst hc0
    refine wpList_append_own_none hgd s x _ ho B 9 i 1 Try.underlying31 hi0 v l.length (sCells l) hs hown hx (h v w0 ?_ ⟨rfl, rfl, rfl, Nat.le_refl _, fun _ _ _ => rfl⟩)
    rw [List.append_nil]
    exact hown
  | some ad =>
    refine wpList_append_own _ hgd s x _ ho B 9 i _ 1 16 Try.underlying31 hi0 hz0 hz1 hz2 rfl (by decide) v l.length (sCells l) hs hown ad m.length c (sCells m) hx (by simp [sCells]) (src_strs hm) (sCells_one m) (by unfold maxLen; omega) (by omega) hB ?_
    intro v' w' ho' hg _
    refine h v' w' ?_ hg
    rw [List.length_append]
    simpa [sCells] using ho'

theorem own_nil_str (w : World) : w.ownsRow w.heap.size 9 1 (.slice none 0 0) ([] : List ByteArray).length (sCells []) := World.ownsRow_nil _ _ _ _
theorem sCells_snoc (l : List ByteArray) (s : ByteArray) : sCells l ++ [.string s] = sCells (l ++ [s]) := by simp [sCells]
theorem str_one (s : ByteArray) : ∀ u ∈ [Value.string s], u.oneCell' = true := by
  intro u hu
  rw [List.mem_singleton] at hu
  subst hu
  rfl
theorem al {w w1 : World} (h : Below w.heap.size w w1) (o : Obj) : Below w.heap.size w (w1.alloc o) := h.alloc h.size o
/-- Behind one more text: the row is owned, and what stood below it stands. -/
theorem app_one {W w4 w5 : World} {B : Nat} {v v5 : Value} {l : List ByteArray} {s : ByteArray} (hb : Below B W w4) (hB : B ≤ w4.heap.size) (ho4 : w4.ownsRow B 9 1 v l.length (sCells l)) (ho : w5.ownsRow B 9 1 v5 (l.length + 1) (sCells l ++ [.string s])) (hg : w4.grownBy w5 v.ownBlock) :
    ∃ A c, v5 = .slice A (l.length + 1) c ∧ w5.ownsRow B 9 1 (.slice A (l.length + 1) c) (l ++ [s]).length (sCells (l ++ [s])) ∧ Below B W w5 := by
  obtain ⟨A, c, rfl⟩ := own_slice ho
  rw [sCells_snoc] at ho
  exact ⟨A, c, rfl, by rw [List.length_append]; exact ho, hb.grown hg hB (fun q hq => (ho4.lt q hq).1)⟩
/-- The last of texts that are read. -/
theorem strs_get {w : World} {A : Option Addr} {n c : Nat} {l : List ByteArray} (h : StrsR w (.slice A n c) l) {k : Nat} {s : ByteArray} (hk : l[k]? = some s) : ∃ ad : Addr, A = some ad ∧ w.cell? (ad.add k) = some (.string s) := by
  obtain ⟨A', c', hv, -, hc⟩ := h
  injection hv with hA
  subst hA
  exact hc k s hk
theorem strs2 (W : World) (a b : ByteArray) (g : Nat) (hg : g = W.heap.size) : StrsR (W.alloc (.cells #[.string a, .string b] 9)) (.slice (some ⟨g, 0, none⟩) 2 2) [a, b] := by
  subst hg
  refine ⟨_, _, rfl, ⟨Nat.le_refl _, fun e => by cases e⟩, fun k b hk => ⟨_, rfl, ?_⟩⟩
  match k, hk with
  | 0, hk => simp at hk; subst hk; simp [Addr.add]
  | 1, hk => simp at hk; subst hk; simp [Addr.add]
theorem strs3 (W : World) (a b c : ByteArray) (g : Nat) (hg : g = W.heap.size) : StrsR (W.alloc (.cells #[.string a, .string b, .string c] 9)) (.slice (some ⟨g, 0, none⟩) 3 3) [a, b, c] := by
  subst hg
  refine ⟨_, _, rfl, ⟨Nat.le_refl _, fun e => by cases e⟩, fun k b hk => ⟨_, rfl, ?_⟩⟩
  match k, hk with
  | 0, hk => simp at hk; subst hk; simp [Addr.add]
  | 1, hk => simp at hk; subst hk; simp [Addr.add]
  | 2, hk => simp at hk; subst hk; simp [Addr.add]
theorem strs_form {w : World} {v : Value} {l : List ByteArray} {n : Nat} (h : StrsR w v l) (hn : l.length = n) : ∃ A c, v = .slice A n c := by
  obtain ⟨A, c, rfl, -⟩ := h
  subst hn
  exact ⟨A, c, rfl⟩
theorem ret_str {a b : ByteArray} (h : a = b) : Ending.returned (.string a) = .returned (.string b) := by rw [h]
end Go.Proofs.Ytmapkmjhpebcbaa
