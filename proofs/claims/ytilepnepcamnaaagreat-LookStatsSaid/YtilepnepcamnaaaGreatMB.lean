/-
  How bytes, texts, entries and nodes lie in memory; what has, Fits and Name answer, and the reference's. The conditions are said at each.
-/
import Derived.Test.YtilepnepcamnaaaGreatMA
import Derived.Lib.Bytealg
import Derived.Lib.IndexBytes
import Derived.Lib.OthersKept
import Derived.Laws.OwnMore
import Derived.Deep.AppendLies
import Derived.Deep.LoopGhost
import Derived.OwnWalk
import Derived.Laws.AppendOwnNone
import Derived.Deep.Draws
import Derived.Deep.QuietTactic
import Derived.BigQuiet
import Derived.Laws.CopyOwn
import Derived.Laws.MakeOwn
import Derived.Lib.AppendZerosOnto
import Derived.Lib.SliceRun
import Derived.Laws.NewBlocks
namespace Go.Proofs.YtilepnepcamnaaaGreat
open Go Go.RowKit
set_option maxRecDepth 100000

def co (c : UInt8) : Int := (c.toNat : Int)
theorem co_bd (c : UInt8) : 0 ≤ co c ∧ co c ≤ 255 := by
  have := c.toNat_lt
  unfold co
  omega
theorem co_inj {a b : UInt8} (h : co a = co b) : a = b := UInt8.toNat_inj.1 (by unfold co at h; omega)
theorem co_ne {a b : UInt8} (h : ¬ a = b) : (co a == co b) = false := by
  rw [beq_eq_false_iff_ne]
  exact fun e => h (co_inj e)
theorem size_len (s : ByteArray) : s.data.toList.length = s.size := by simp
theorem empty_iff (s : ByteArray) : s.toList = [] ↔ s.size = 0 := by
  rw [ByteArray.toList_eq, ← List.length_eq_zero_iff, Array.length_toList]
  rfl
theorem empty_false {s : ByteArray} (h : ¬ s.size = 0) : s.toList.isEmpty = false := by
  rw [Bool.eq_false_iff]
  intro h2
  exact h ((empty_iff s).1 (List.isEmpty_iff.1 h2))
theorem ba_ext {s t : ByteArray} (h : s.data.toList = t.data.toList) : s = t := by
  obtain ⟨⟨a⟩⟩ := s
  obtain ⟨⟨b⟩⟩ := t
  simp only at h
  rw [h]
/-- Bytes as a text. -/
def bA (l : List UInt8) : ByteArray := ⟨⟨l⟩⟩
/-- A text's bytes. -/
def tl (s : ByteArray) : List UInt8 := s.data.toList
theorem tl_bA (l : List UInt8) : tl (bA l) = l := rfl
theorem bA_tl (s : ByteArray) : bA (tl s) = s := ba_ext rfl
theorem bA_eq {s : ByteArray} {l : List UInt8} (h : tl s = l) : s = bA l := ba_ext h
theorem bA_inj {a b : List UInt8} (h : bA a = bA b) : a = b := by have := congrArg tl h; exact this
theorem tl_len (s : ByteArray) : (tl s).length = s.size := size_len s
theorem size_bA (l : List UInt8) : (bA l).size = l.length := by rw [← tl_len, tl_bA]
theorem tl_ext (s : ByteArray) (a b : Nat) : tl (s.extract a b) = ((tl s).take b).drop a := by
  unfold tl
  rw [ByteArray.data_extract, Array.toList_extract, List.extract_eq_take_drop, List.drop_take]
theorem ext_bA (s : ByteArray) (a b : Nat) : s.extract a b = bA (((tl s).take b).drop a) := bA_eq (tl_ext s a b)
theorem pre_bA (s : ByteArray) (b : Nat) : s.extract 0 b = bA ((tl s).take b) := by rw [ext_bA, List.drop_zero]
theorem tl_app (s t : ByteArray) : tl (s ++ t) = tl s ++ tl t := by
  unfold tl
  rw [ByteArray.data_append, Array.toList_append]
theorem tl_at {s : ByteArray} {k : Nat} (h : k < s.size) : (tl s)[k]? = some s[k] := Lib.data_getElem? s k h

end Go.Proofs.YtilepnepcamnaaaGreat
namespace Go.Proofs.YtilepnepcamnaaaGreat
open Go Go.RowKit
set_option maxRecDepth 100000

theorem grown_of_below {a w : World} (h : Below a.heap.size a w) (row : Option Nat) : a.grownBy w row := ⟨h.os, h.tape, h.output, h.size, fun i hi _ => h.block i hi⟩
theorem grown_setCell (w : World) (p : Addr) (u : Value) : w.grownBy (w.setCell p u) (some p.block) :=
  ⟨rfl, rfl, rfl, by simp [World.setCell], fun i _ hne => Below.heap_setCell w p u i (fun e => hne (by rw [e]))⟩
theorem grown_trans {a b c : World} {row : Option Nat} (h : a.grownBy b row) (k : b.grownBy c row) : a.grownBy c row :=
  ⟨k.os.trans h.os, k.tape.trans h.tape, k.output.trans h.output, Nat.le_trans h.size k.size, fun i hi hne => (k.block i (Nat.lt_of_lt_of_le hi h.size) hne).trans (h.block i hi hne)⟩

/-- A block that is known whole. -/
def Blk (w : World) (g : Nat) (t : TypeId) (cs : Array Value) : Prop := w.heap[g]? = some (.cells cs t (0, 0))
section
variable {w w' : World} {g : Nat} {t : TypeId} {cs : Array Value}
theorem Blk.lt (h : Blk w g t cs) : g < w.heap.size := (Array.getElem?_eq_some_iff.1 h).1
theorem Blk.cell (h : Blk w g t cs) (i : Nat) : w.cell? ⟨g, i, none⟩ = cs[i]? := cell_of_row w g i cs t (0, 0) h
theorem Blk.frozen (h : Blk w g t cs) (i : Nat) : w.frozen? ⟨g, i, none⟩ = false := by
  unfold Blk at h
  simp [World.frozen?, h]
theorem Blk.new (w : World) (t : TypeId) (cs : Array Value) : Blk (w.alloc (.cells cs t)) w.heap.size t cs := heap_alloc_new w _
theorem Blk.kept {row : Option Nat} (h : Blk w g t cs) (hg : w.grownBy w' row) (hne : some g ≠ row) : Blk w' g t cs := (hg.block g h.lt hne).trans h
theorem Blk.set_ (h : Blk w g t cs) (i : Nat) (u : Value) : Blk (w.setCell ⟨g, i, none⟩ u) g t (cs.setIfInBounds i u) := by
  unfold Blk at h ⊢
  simp [World.setCell, Array.getElem?_modify, h]
theorem Blk.alloc (h : Blk w g t cs) (o : Obj) : Blk (w.alloc o) g t cs := (Below.heap_alloc w o g h.lt).trans h
theorem Blk.below (h : Blk w g t cs) (hb : Below w.heap.size w w') : Blk w' g t cs := (hb.block g h.lt).trans h
end
theorem own_blk_ne {w : World} {B g : Nat} {e t : TypeId} {size n : Nat} {v : Value} {xs : List Value} {cs : Array Value} (h : w.ownsRow B e size v n xs) (hk : Blk w g t cs) (hne : e ≠ t) : v.ownBlock ≠ some g := by
  rcases h.2 with ⟨rfl, _⟩ | ⟨g', cap, cur, rfl, _, hh, _⟩
  · simp [Value.ownBlock]
  · intro he
    have : g' = g := by simpa [Value.ownBlock] using he
    subst this
    unfold Blk at hk
    rw [hk] at hh
    injection hh with hh
    injection hh with _ ht
    exact hne ht.symm
theorem own_below {w w' : World} {B : Nat} {e : TypeId} {size n : Nat} {v : Value} {xs : List Value} (h : w.ownsRow B e size v n xs) (hb : Below w.heap.size w w') : w'.ownsRow B e size v n xs :=
  h.kept (grown_of_below hb none) (by cases hv : v.ownBlock <;> simp)
theorem own_one {w : World} {B : Nat} {e : TypeId} {size n : Nat} {v : Value} {xs : List Value} (h : w.ownsRow B e size v n xs) : v.oneCell' = true := by
  rcases h.2 with ⟨rfl, _⟩ | ⟨g', cap, cur, rfl, _⟩ <;> rfl
theorem own_slice {w : World} {B : Nat} {e : TypeId} {size n : Nat} {v : Value} {xs : List Value} (h : w.ownsRow B e size v n xs) : ∃ (A : Option Addr) (c : Nat), v = .slice A n c := by
  rcases h.2 with ⟨rfl, rfl⟩ | ⟨g', cap, cur, rfl, _⟩
  · exact ⟨none, 0, rfl⟩
  · exact ⟨some ⟨g', 0, none⟩, cap, rfl⟩

theorem add_lit (g k : Nat) : (⟨g, 0, none⟩ : Addr).add k = ⟨g, k, none⟩ := by rw [Addr.add_lit, Nat.zero_add]
theorem add_two (a : Addr) (i j : Nat) : (a.add i).add j = a.add (i + j) := by
  unfold Addr.add
  by_cases hi : i = 0 <;> by_cases hj : j = 0 <;> simp [hi, hj, Nat.add_assoc]
theorem add_pos (a : Addr) (j : Nat) (hj : j ≠ 0) : a.add j = ⟨a.block, a.off + j, none⟩ := by unfold Addr.add; rw [if_neg hj]
theorem add_none (a : Addr) : a.add 0 = a := by unfold Addr.add; rw [if_pos rfl]
theorem take_snoc' {α : Type} {l : List α} {k : Nat} {x : α} (h : l[k]? = some x) : l.take (k + 1) = l.take k ++ [x] := by rw [List.take_add_one, h]; rfl

/-- A slice that reads as texts. -/
def StrsR (w : World) (v : Value) (l : List ByteArray) : Prop := ∃ A c, v = .slice A l.length c ∧ (l.length ≤ c ∧ (A = none → c = 0)) ∧ ∀ (k : Nat) (s : ByteArray), l[k]? = some s → ∃ ad : Addr, A = some ad ∧ w.cell? (ad.add k) = some (.string s)
/-- A slice that reads as bytes. -/
def BytesR (w : World) (v : Value) (l : List UInt8) : Prop := ∃ A c, v = .slice A l.length c ∧ ∀ (k : Nat) (b : UInt8), l[k]? = some b → ∃ ad : Addr, A = some ad ∧ w.cell? (ad.add k) = some (.int .u8 (co b))
theorem StrsR.below {w w' : World} {v : Value} {l : List ByteArray} (h : StrsR w v l) (hb : Below w.heap.size w w') : StrsR w' v l := by
  obtain ⟨A, c, hv, hle, hc⟩ := h
  refine ⟨A, c, hv, hle, fun k a hk => ?_⟩
  obtain ⟨ad, hA, h0⟩ := hc k a hk
  exact ⟨ad, hA, bc hb h0⟩
theorem BytesR.below {w w' : World} {v : Value} {l : List UInt8} (h : BytesR w v l) (hb : Below w.heap.size w w') : BytesR w' v l := by
  obtain ⟨A, c, hv, hc⟩ := h
  refine ⟨A, c, hv, fun k a hk => ?_⟩
  obtain ⟨ad, hA, h0⟩ := hc k a hk
  exact ⟨ad, hA, bc hb h0⟩
theorem StrsR.nil (w : World) : StrsR w (.slice none 0 0) [] := ⟨none, 0, rfl, ⟨Nat.le_refl _, fun _ => rfl⟩, fun k s h => by simp at h⟩
def sCells (l : List ByteArray) : List Value := l.map .string
theorem sCells_at (l : List ByteArray) (k : Nat) (s : ByteArray) (h : l[k]? = some s) : (sCells l)[k]? = some (.string s) := by simp [sCells, h]
theorem row_at {w : World} {B : Nat} {e : TypeId} {size n g cap : Nat} {xs : List Value} (h : w.ownsRow B e size (.slice (some ⟨g, 0, none⟩) n cap) n xs) (j : Nat) (u : Value) (hj : xs[j]? = some u) : w.cell? ⟨g, j, none⟩ = some u := by
  have := World.ownsRow.cells h (g := g) rfl j u hj
  rwa [add_lit] at this
theorem StrsR.of_own {w : World} {B : Nat} {e : TypeId} {v : Value} {l : List ByteArray} (h : w.ownsRow B e 1 v l.length (sCells l)) : StrsR w v l := by
  rcases h.2 with ⟨rfl, hn⟩ | ⟨g, cap, cur, rfl, _, _, hc, _⟩
  · have : l = [] := List.eq_nil_of_length_eq_zero hn
    subst this
    exact StrsR.nil w
  · refine ⟨some ⟨g, 0, none⟩, cap, rfl, ⟨hc, fun e => by cases e⟩, fun k a hk => ⟨_, rfl, ?_⟩⟩
    rw [add_lit]
    exact row_at h _ _ (sCells_at l k a hk)
theorem info_str : (Tryz.prog.info? 9).map (fun i => (i.zero, i.size, i.bytes)) = some (some (.string ⟨#[]⟩), 1, 16) := by kernel_rfl
/-- 's = append(s, x)' of one element whose cells are told. -/
theorem wpList_append_one {P : Program} {ops : Array Oper} {rest : List Oper} {o : Oper} {a : Act} {Q : Exit → Act → World → Prop} (hgd : o.guard = none) (s x : Operand) (t : TypeId)
    (ho : o.op = .call { callee := .builtin .append, args := #[s, x], argTypes := #[t, t] }) (B : Nat) (e : TypeId) (z : Value) (size bytes : Nat) (ht : P.underlying t = some (.slice e))
    (hi : (P.info? e).map (fun i => (i.zero, i.size, i.bytes)) = some (some z, size, bytes)) (hzs : z.cells.size = size) (hsz : 0 < size)
    (v : Value) (n : Nat) (xs : List Value) (hs : a.eval s = v) (w0 : World) (cs : List Value) (hcs : cs.length = size) (h1 : ∀ u ∈ cs, u.oneCell' = true) (hown : w0.ownsRow B e size v n xs)
    (hx : a.eval x = .slice (some ⟨w0.heap.size, 0, none⟩) 1 1) (hlen : (n + 1) * bytes ≤ 140737488355328) (hn : n + 1 ≤ 1000000000) (hB : B ≤ w0.heap.size)
    (h : ∀ v' w', w'.ownsRow B e size v' (n + 1) (xs ++ cs) → w0.grownBy w' v.ownBlock → wpList P ops Q rest (a.put o.dst v') w') : wpList P ops Q (o :: rest) a (w0.alloc (.cells cs.toArray e)) := by
  obtain ⟨i, hi0, hz0, hz1, hz2⟩ := info_parts hi
  refine wpList_append_own _ hgd s x t ho B e i z size bytes ht hi0 hz0 hz1 hz2 hzs hsz v n xs hs (hown.alloc _) ⟨w0.heap.size, 0, none⟩ 1 1 cs hx (by rw [hcs, Nat.one_mul]) ?_ h1 (by unfold maxLen; omega) hlen (by simp; omega) ?_
  · exact fun j u hj => World.news_of_block (heap_alloc_new w0 (.cells cs.toArray e)) j u (by simpa using hj)
  · intro v' w' ho' hg _
    exact h v' w' ho' (grown_trans (World.grownBy_alloc w0 _ _) hg)
theorem src_strs {w : World} {ad : Addr} {c : Nat} {l : List ByteArray} (h : StrsR w (.slice (some ad) l.length c) l) : ∀ (j : Nat) (u : Value), (sCells l)[j]? = some u → w.cell? (ad.add j) = some u := by
  obtain ⟨A, c', hv, _, hc⟩ := h
  injection hv with hA
  intro j u hj
  have hlt : j < l.length := by
    rcases Nat.lt_or_ge j l.length with h | h
    · exact h
    · rw [sCells, List.getElem?_eq_none (by simpa using h)] at hj
      cases hj
  have hs := List.getElem?_eq_getElem hlt
  obtain ⟨ad', hA', h0⟩ := hc j _ hs
  rw [sCells_at l j _ hs] at hj
  injection hj with hj
  rw [← hj]
  rw [← hA] at hA'
  injection hA' with hA'
  rw [hA']
  exact h0
theorem sCells_one (l : List ByteArray) : ∀ u ∈ sCells l, u.oneCell' = true := by
  intro u hu
  rw [sCells, List.mem_map] at hu
  obtain ⟨s, _, rfl⟩ := hu
  rfl
/-- 's = append(s, x...)' of texts. -/
theorem wpList_append_strs {ops : Array Oper} {rest : List Oper} {o : Oper} {a : Act} {Q : Exit → Act → World → Prop} {w0 : World} (hgd : o.guard = none) (s x : Operand)
    (ho : o.op = .call { callee := .builtin .append, args := #[s, x], argTypes := #[51, 51] }) (B : Nat) (v : Value) (l : List ByteArray) (hs : a.eval s = v) (hown : w0.ownsRow B 9 1 v l.length (sCells l))
    (vx : Value) (m : List ByteArray) (hx : a.eval x = vx) (hm : StrsR w0 vx m) (hn : l.length + m.length ≤ 100000000) (hB : B ≤ w0.heap.size)
    (h : ∀ v' w', w'.ownsRow B 9 1 v' (l ++ m).length (sCells (l ++ m)) → w0.grownBy w' v.ownBlock → wpList Tryz.prog ops Q rest (a.put o.dst v') w') : wpList Tryz.prog ops Q (o :: rest) a w0 := by
  obtain ⟨i, hi0, hz0, hz1, hz2⟩ := info_parts info_str
  obtain ⟨A, c, rfl, hle, hc⟩ := id hm
  cases A with
  | none =>
    have hm0 : m = [] := by
      cases m with
      | nil => rfl
      | cons y m' =>
        obtain ⟨ad, e, _⟩ := hc 0 y rfl
        cases e
    subst hm0
    have hc0 : c = 0 := hle.2 rfl
    subst hc0
    refine wpList_append_own_none hgd s x _ ho B 9 i 1 Tryz.underlying51 hi0 v l.length (sCells l) hs hown hx (h v w0 ?_ ⟨rfl, rfl, rfl, Nat.le_refl _, fun _ _ _ => rfl⟩)
    rw [List.append_nil]
    exact hown
  | some ad =>
    refine wpList_append_own _ hgd s x _ ho B 9 i _ 1 16 Tryz.underlying51 hi0 hz0 hz1 hz2 rfl (by decide) v l.length (sCells l) hs hown ad m.length c (sCells m) hx (by simp [sCells]) (src_strs hm) (sCells_one m) (by unfold maxLen; omega) (by omega) hB ?_
    intro v' w' ho' hg _
    refine h v' w' ?_ hg
    rw [List.length_append]
    simpa [sCells] using ho'

theorem own_nil_str (w : World) : w.ownsRow w.heap.size 9 1 (.slice none 0 0) ([] : List ByteArray).length (sCells []) := World.ownsRow_nil _ _ _ _
theorem sCells_snoc (l : List ByteArray) (s : ByteArray) : sCells l ++ [.string s] = sCells (l ++ [s]) := by simp [sCells]
theorem str_one (s : ByteArray) : ∀ u ∈ [Value.string s], u.oneCell' = true := by
  intro u hu
  rw [List.mem_singleton] at hu
  subst hu
  rfl
theorem al {w w1 : World} (h : Below w.heap.size w w1) (o : Obj) : Below w.heap.size w (w1.alloc o) := h.alloc h.size o
/-- Behind one more text: the row is owned, and what stood below it stands. -/
theorem app_one {W w4 w5 : World} {B : Nat} {v v5 : Value} {l : List ByteArray} {s : ByteArray} (hb : Below B W w4) (hB : B ≤ w4.heap.size) (ho4 : w4.ownsRow B 9 1 v l.length (sCells l)) (ho : w5.ownsRow B 9 1 v5 (l.length + 1) (sCells l ++ [.string s])) (hg : w4.grownBy w5 v.ownBlock) :
    ∃ A c, v5 = .slice A (l.length + 1) c ∧ w5.ownsRow B 9 1 (.slice A (l.length + 1) c) (l ++ [s]).length (sCells (l ++ [s])) ∧ Below B W w5 := by
  obtain ⟨A, c, rfl⟩ := own_slice ho
  rw [sCells_snoc] at ho
  exact ⟨A, c, rfl, by rw [List.length_append]; exact ho, hb.grown hg hB (fun q hq => (ho4.lt q hq).1)⟩
/-- The last of texts that are read. -/
theorem strs_get {w : World} {A : Option Addr} {n c : Nat} {l : List ByteArray} (h : StrsR w (.slice A n c) l) {k : Nat} {s : ByteArray} (hk : l[k]? = some s) : ∃ ad : Addr, A = some ad ∧ w.cell? (ad.add k) = some (.string s) := by
  obtain ⟨A', c', hv, -, hc⟩ := h
  injection hv with hA
  subst hA
  exact hc k s hk
theorem strs2 (W : World) (a b : ByteArray) (g : Nat) (hg : g = W.heap.size) : StrsR (W.alloc (.cells #[.string a, .string b] 9)) (.slice (some ⟨g, 0, none⟩) 2 2) [a, b] := by
  subst hg
  refine ⟨_, _, rfl, ⟨Nat.le_refl _, fun e => by cases e⟩, fun k b hk => ⟨_, rfl, ?_⟩⟩
  match k, hk with
  | 0, hk => simp at hk; subst hk; simp [Addr.add]
  | 1, hk => simp at hk; subst hk; simp [Addr.add]
theorem strs3 (W : World) (a b c : ByteArray) (g : Nat) (hg : g = W.heap.size) : StrsR (W.alloc (.cells #[.string a, .string b, .string c] 9)) (.slice (some ⟨g, 0, none⟩) 3 3) [a, b, c] := by
  subst hg
  refine ⟨_, _, rfl, ⟨Nat.le_refl _, fun e => by cases e⟩, fun k b hk => ⟨_, rfl, ?_⟩⟩
  match k, hk with
  | 0, hk => simp at hk; subst hk; simp [Addr.add]
  | 1, hk => simp at hk; subst hk; simp [Addr.add]
  | 2, hk => simp at hk; subst hk; simp [Addr.add]
theorem strs_form {w : World} {v : Value} {l : List ByteArray} {n : Nat} (h : StrsR w v l) (hn : l.length = n) : ∃ A c, v = .slice A n c := by
  obtain ⟨A, c, rfl, -⟩ := h
  subst hn
  exact ⟨A, c, rfl⟩
theorem ret_str {a b : ByteArray} (h : a = b) : Ending.returned (.string a) = .returned (.string b) := by rw [h]
end Go.Proofs.YtilepnepcamnaaaGreat
namespace Go.Proofs.YtilepnepcamnaaaGreat
open Go Go.RowKit
set_option maxRecDepth 100000

theorem back_co (c : UInt8) : (co c).toNat.toUInt8 = c := Lib.byte_back c
theorem lindex_any (s : ByteArray) (c : UInt8) (w : World) :
    Calls Tryz.prog 88 #[.string s, .int .u8 (co c)] w fun e w' => e = .returned (.int .i64 (Lib.indexByte s.data.toList c)) ∧ w = w' := by
  have hb := Lib.hid (back_co c)
  generalize co c = n at hb ⊢
  go_enter Tryz.func88, Tryz.ntmps88
  go_wp2
  rw [run_callFunc_extern Tryz.func117 (by kernel_rfl) (by kernel_rfl) (by kernel_rfl) (e := Extern.BytealgIndexByte.indexByte) (by kernel_rfl), Lib.run_indexByteString]
  simp only [Result.andThen]
  rw [Oper.upon_value]
  go_wp2
  go_ret
  exact ⟨ret_int (by rw [show UInt8.ofNat n.toNat = c from hb.out]), rfl⟩
theorem index_any (s : ByteArray) (c : UInt8) (w : World) :
    Calls Tryz.prog 64 #[.string s, .int .u8 (co c)] w fun e w' => e = .returned (.int .i64 (Lib.indexByte s.data.toList c)) ∧ w = w' := by
  have H := Lib.hid (lindex_any s c w)
  generalize Lib.indexByte s.data.toList c = X at H ⊢
  go_enter Tryz.func64, Tryz.ntmps64
  go_wp2_with fail
  refine H.out.mono ?_
  rintro e w' ⟨rfl, rfl⟩
  go_wp2
  go_ret
  exact ⟨rfl, rfl⟩
theorem index_has (c : UInt8) : ∀ l : List UInt8, decide (Lib.indexByte l c ≥ 0) = l.contains c
  | [] => rfl
  | b :: l => by
    have ih := index_has c l
    rw [Lib.indexByte, List.contains_cons]
    by_cases h : b = c
    · subst h
      simp
    · have hb : (b == c) = false := by rw [beq_eq_false_iff_ne]; exact h
      have hc : (c == b) = false := by rw [beq_eq_false_iff_ne]; exact fun e => h e.symm
      rw [hb, hc, Bool.false_or, ← ih]
      rw [if_neg (by decide)]
      split
      · rename_i h2
        have h3 : Lib.indexByte l c = -1 := by simpa using h2
        rw [h3]
      · rename_i h2
        have h3 : ¬ Lib.indexByte l c = -1 := by simpa using h2
        congr 1
        apply propext
        constructor <;> intro h4 <;> omega
theorem has_any (s : ByteArray) (c : UInt8) (w : World) :
    Calls Tryz.prog 47 #[.string s, .int .u8 (co c)] w fun e w' => e = .returned (.bool ((tl s).contains c)) ∧ w = w' := by
  have H := Lib.hid (index_any s c w)
  have HX := Lib.hid (index_has c s.data.toList)
  obtain ⟨R, hR⟩ : ∃ R, (tl s).contains c = R := ⟨_, rfl⟩
  rw [hR]
  have HX := Lib.hid (show decide (Lib.indexByte s.data.toList c ≥ 0) = R from (index_has c _).trans hR)
  clear hR
  generalize Lib.indexByte s.data.toList c = X at H HX
  go_enter Tryz.func47, Tryz.ntmps47
  go_wp2_with fail
  refine H.out.mono ?_
  rintro e w' ⟨rfl, rfl⟩
  go_wp2
  go_ret
  exact ⟨ret_bool (by rw [← HX.out]), rfl⟩
/-- Has a text a byte, m of them at most, and none that is 0? -/
def fitB (s : ByteArray) (m : Nat) : Bool := decide (0 < s.size ∧ s.size ≤ m) && !(tl s).contains 0
theorem neq_empty (s : ByteArray) : (s.toList != []) = decide (0 < s.size) := by
  by_cases h : 0 < s.size
  · rw [decide_eq_true h]
    simp only [bne_iff_ne, ne_eq]
    intro e
    have := (empty_iff s).1 e
    omega
  · rw [decide_eq_false h]
    have := (empty_iff s).2 (by omega)
    rw [this]
    rfl
theorem fits_any (s : ByteArray) (m : Nat) (w : World) (hs : s.size ≤ maxLen) :
    Calls Tryz.prog 46 #[.string s, .int .i64 (m : Int)] w fun e w' => e = .returned (.bool (fitB s m)) ∧ w = w' := by
  have hs' : s.size ≤ 9223372036854775807 := by unfold maxLen at hs; omega
  have HH := Lib.hid (has_any s 0 w)
  rw [show co 0 = 0 from rfl] at HH
  have HF := Lib.hid (show fitB s m = (decide (0 < s.size ∧ s.size ≤ m) && !(tl s).contains 0) from rfl)
  generalize (tl s).contains 0 = R at HH HF
  generalize fitB s m = F at HF ⊢
  have n0 := neq_empty s
  clear hs
  by_cases h0 : 0 < s.size
  · rw [decide_eq_true h0] at n0
    have i0 := empty_false (s := s) (by omega)
    by_cases h1 : s.size ≤ m
    · have h2 : (s.size : Int) ≤ (m : Int) := by omega
      rw [decide_eq_true ⟨h0, h1⟩, Bool.true_and] at HF
      go_enter Tryz.func46, Tryz.ntmps46
      go_wp2_with fail
      refine HH.out.mono ?_
      rintro e w' ⟨rfl, rfl⟩
      go_wp2
      go_ret
      exact ⟨ret_bool (by rw [HF.out]), rfl⟩
    · have h2 : ¬ (s.size : Int) ≤ (m : Int) := by omega
      rw [decide_eq_false (fun e => h1 e.2), Bool.false_and] at HF
      go_enter Tryz.func46, Tryz.ntmps46
      go_wp2
      go_ret
      exact ⟨ret_bool HF.out.symm, rfl⟩
  · rw [decide_eq_false h0] at n0
    rw [decide_eq_false (fun e => h0 e.1), Bool.false_and] at HF
    have i0 : s.toList = [] := (empty_iff s).2 (by omega)
    go_enter Tryz.func46, Tryz.ntmps46
    go_wp2
    go_ret
    exact ⟨ret_bool HF.out.symm, rfl⟩
theorem Fits_any (s : ByteArray) (w : World) (hs : s.size ≤ maxLen) :
    Calls Tryz.prog 128 #[.string s] w fun e w' => e = .returned (.bool (fitB s 64)) ∧ w = w' := by
  have HH := Lib.hid (fits_any s 64 w hs)
  go_enter Tryz.func128, Tryz.ntmps128
  go_wp2_with fail
  refine HH.out.mono ?_
  rintro e w' ⟨rfl, rfl⟩
  go_wp2
  go_ret
  exact ⟨rfl, rfl⟩
/-- May a text be an entry's name? -/
def namB (s : ByteArray) : Bool := fitB s 12 && (!(tl s).contains 47 && (!(s.toList == [46]) && !(s.toList == [46, 46])))
theorem Name_any (s : ByteArray) (w : World) (hs : s.size ≤ maxLen) :
    Calls Tryz.prog 25 #[.string s] w fun e w' => e = .returned (.bool (namB s)) ∧ w = w' := by
  have H1 := Lib.hid (fits_any s 12 w hs)
  have H2 := Lib.hid (has_any s 47 w)
  rw [show co 47 = 47 from rfl] at H2
  have HF := Lib.hid (show namB s = (fitB s 12 && (!(tl s).contains 47 && (!(s.toList == [46]) && !(s.toList == [46, 46])))) from rfl)
  generalize namB s = F at HF ⊢
  generalize fitB s 12 = X at H1 HF
  generalize (tl s).contains 47 = Y at H2 HF
  clear hs
  cases X with
  | false =>
    go_enter Tryz.func25, Tryz.ntmps25
    go_wp2_with fail
    refine H1.out.mono ?_
    rintro e w' ⟨rfl, rfl⟩
    go_wp2
    go_ret
    exact ⟨ret_bool (by rw [HF.out]; rfl), rfl⟩
  | true =>
    cases Y with
    | true =>
      go_enter Tryz.func25, Tryz.ntmps25
      go_wp2_with fail
      refine H1.out.mono ?_
      rintro e w' ⟨rfl, rfl⟩
      go_wp2_with fail
      refine H2.out.mono ?_
      rintro e w' ⟨rfl, rfl⟩
      go_wp2
      go_ret
      exact ⟨ret_bool (by rw [HF.out]; rfl), rfl⟩
    | false =>
      by_cases ha : s.toList = [46]
      · have ha1 : (s.toList == [46]) = true := by rw [ha]; rfl
        have HF1 := Lib.hid (show F = false by rw [HF.out, ha1]; rfl)
        go_enter Tryz.func25, Tryz.ntmps25
        go_wp2_with fail
        refine H1.out.mono ?_
        rintro e w' ⟨rfl, rfl⟩
        go_wp2_with fail
        refine H2.out.mono ?_
        rintro e w' ⟨rfl, rfl⟩
        go_wp2
        go_ret
        exact ⟨ret_bool HF1.out.symm, rfl⟩
      · have ha1 : (s.toList == [46]) = false := by rw [beq_eq_false_iff_ne]; exact ha
        have HF1 := Lib.hid (show F = !(s.toList == [46, 46]) by rw [HF.out, ha1]; rfl)
        go_enter Tryz.func25, Tryz.ntmps25
        go_wp2_with fail
        refine H1.out.mono ?_
        rintro e w' ⟨rfl, rfl⟩
        go_wp2_with fail
        refine H2.out.mono ?_
        rintro e w' ⟨rfl, rfl⟩
        go_wp2
        go_ret
        exact ⟨ret_bool (by rw [HF1.out]), rfl⟩

/-- The same, of bytes. -/
theorem nam_nok (s : ByteArray) : namB s = nok (tl s) := by
  unfold namB fitB nok badN
  rw [ByteArray.toList_eq, ← tl_len]
  show _ = (!(tl s == [] || tl s == [46] || tl s == [46, 46] || (tl s).contains 47 || (tl s).contains 0) && decide ((tl s).length ≤ 12))
  show (decide (0 < (tl s).length ∧ (tl s).length ≤ 12) && !(tl s).contains 0 && (!(tl s).contains 47 && (!(tl s == [46]) && !(tl s == [46, 46])))) = _
  generalize tl s = l
  cases l with
  | nil => rfl
  | cons c l =>
    have h0 : (c :: l == ([] : List UInt8)) = false := rfl
    have h1 : 0 < (c :: l).length := by simp
    rw [h0]
    generalize ((c :: l) == [46]) = A
    generalize ((c :: l) == [46, 46]) = B
    generalize (c :: l).contains 47 = C
    generalize (c :: l).contains 0 = D
    by_cases h : (c :: l).length ≤ 12
    · rw [decide_eq_true h, decide_eq_true (show 0 < (c :: l).length ∧ (c :: l).length ≤ 12 from ⟨h1, h⟩)]
      cases A <;> cases B <;> cases C <;> cases D <;> rfl
    · rw [decide_eq_false h, decide_eq_false (show ¬ (0 < (c :: l).length ∧ (c :: l).length ≤ 12) from fun e => h e.2)]
      cases A <;> cases B <;> cases C <;> cases D <;> rfl
theorem fit_fok (s : ByteArray) : fitB s 64 = fok (tl s) := by
  unfold fitB fok
  rw [tl_len]
end Go.Proofs.YtilepnepcamnaaaGreat
namespace Go.Proofs.YtilepnepcamnaaaGreat
open Go Go.RowKit
set_option maxRecDepth 100000

theorem has_next {l : List UInt8} {k : Nat} {c y : UInt8} (hy : l[k]? = some y) (h : (l.take k).contains c = false) (hne : ¬ y = c) : (l.take (k + 1)).contains c = false := by
  rw [take_snoc' hy, List.contains_eq_any_beq, List.any_append, ← List.contains_eq_any_beq, h]
  have : (c == y) = false := by rw [beq_eq_false_iff_ne]; exact fun e => hne e.symm
  simp [this]
theorem ref_has (s : ByteArray) (c : UInt8) (w : World) (hs : s.size ≤ 1000000) :
    Calls Tryz.prog 73 #[.string s, .int .u8 (co c)] w fun e w' => e = .returned (.bool ((tl s).contains c)) ∧ w = w' := by
  obtain ⟨X, hX⟩ : ∃ X, (tl s).contains c = X := ⟨_, rfl⟩
  rw [hX]
  have HX := Lib.hid hX
  clear hX
  go_enter Tryz.func73, Tryz.ntmps73
  go_wp2
  go_loopg [5] s.size (fun g s5 wr => ∃ k : Nat, s5 = .int .i64 k ∧ k ≤ s.size ∧ g = s.size - k ∧ ((tl s).take k).contains c = false ∧ w = wr)
  case atStart => exact ⟨0, rfl, Nat.zero_le _, rfl, rfl, rfl⟩
  case round =>
    obtain ⟨k, rfl, hk, rfl, hno, rfl⟩ := hrel
    have HNO := Lib.hid hno
    clear hno
    by_cases hlt : k < s.size
    · obtain ⟨y, hy⟩ : ∃ y, s[k] = y := ⟨_, rfl⟩
      have HY := Lib.hid (show (tl s)[k]? = some y by rw [tl_at hlt, hy])
      by_cases hxy : y = c
      · subst hxy
        have hq : ((y.toNat : Int) == co y) = true := by unfold co; simp
        have HR := Lib.hid (show true = X by rw [← HX.out]; exact (List.contains_iff_mem.2 (List.mem_of_getElem? HY.out)).symm)
        go_wp2
        go_ret
        exact ⟨ret_bool HR.out, rfl⟩
      · have hne : ((y.toNat : Int) == co c) = false := co_ne hxy
        have HN := Lib.hid hxy
        clear hxy
        go_wp2
        go_roundg (s.size - (k + 1))
        case measure => omega
        case rel => exact ⟨k + 1, by go_num, by omega, rfl, has_next HY.out HNO.out HN.out, rfl⟩
    · have HF := Lib.hid (show false = X by
        rw [← HX.out]
        have := HNO.out
        rw [List.take_of_length_le (by rw [tl_len]; omega)] at this
        exact this.symm)
      go_wp2
      go_ret
      exact ⟨ret_bool HF.out, rfl⟩
end Go.Proofs.YtilepnepcamnaaaGreat
namespace Go.Proofs.YtilepnepcamnaaaGreat
open Go Go.RowKit
set_option maxRecDepth 100000

theorem dot_size {s : ByteArray} {l : List UInt8} (h : s.toList = l) : s.size = l.length := by
  rw [← h, ByteArray.toList_eq, Array.length_toList]
  rfl
end Go.Proofs.YtilepnepcamnaaaGreat
namespace Go.Proofs.YtilepnepcamnaaaGreat
open Go Go.RowKit
set_option maxRecDepth 100000

theorem ba (w : World) (o : Obj) : Below w.heap.size w (w.alloc o) := (Below.refl _ _).alloc (Nat.le_refl _) _
/-- The cells of entries. -/
def eCells (l : List En) : List Value := l.flatMap fun e => [.string (bA e.1), .int .i64 e.2]
def bCells (l : List UInt8) : List Value := l.map fun b => .int .u8 (co b)
def iCells (l : List Int) : List Value := l.map fun n => .int .i64 n
theorem eCells_len : ∀ l : List En, (eCells l).length = l.length * 2
  | [] => rfl
  | e :: l => by
    have h := eCells_len l
    have e2 : eCells (e :: l) = .string (bA e.1) :: .int .i64 e.2 :: eCells l := rfl
    rw [e2, List.length_cons, List.length_cons, h, List.length_cons]
    omega
theorem eCells_app (a b : List En) : eCells (a ++ b) = eCells a ++ eCells b := by simp [eCells]
theorem eCells_take (l : List En) (k : Nat) : (eCells l).take (k * 2) = eCells (l.take k) := by
  by_cases h : k ≤ l.length
  · have e : eCells l = eCells (l.take k) ++ eCells (l.drop k) := by rw [← eCells_app, List.take_append_drop]
    have hl : (eCells (l.take k)).length = k * 2 := by rw [eCells_len, List.length_take, Nat.min_eq_left h]
    rw [e, ← hl, List.take_left]
  · rw [List.take_of_length_le (by rw [eCells_len]; omega), List.take_of_length_le (by omega)]
theorem eCells_drop (l : List En) (k : Nat) : (eCells l).drop (k * 2) = eCells (l.drop k) := by
  by_cases h : k ≤ l.length
  · have e : eCells l = eCells (l.take k) ++ eCells (l.drop k) := by rw [← eCells_app, List.take_append_drop]
    have hl : (eCells (l.take k)).length = k * 2 := by rw [eCells_len, List.length_take, Nat.min_eq_left h]
    rw [e, ← hl, List.drop_left]
  · rw [List.drop_eq_nil_of_le (by rw [eCells_len]; omega), List.drop_eq_nil_of_le (by omega)]
    rfl
theorem eCells_at : ∀ (l : List En) (k : Nat) (e : En), l[k]? = some e → (eCells l)[k * 2]? = some (.string (bA e.1)) ∧ (eCells l)[k * 2 + 1]? = some (.int .i64 e.2)
  | [], k, f, h => by simp at h
  | x :: l, 0, f, h => by
    simp at h
    subst h
    exact ⟨rfl, rfl⟩
  | x :: l, k + 1, f, h => by
    have := eCells_at l k f (by simpa using h)
    rw [show (k + 1) * 2 = k * 2 + 2 by omega]
    exact this
theorem eCells_one (l : List En) : ∀ u ∈ eCells l, u.oneCell' = true := by
  intro u hu
  rw [eCells, List.mem_flatMap] at hu
  obtain ⟨e, -, hu⟩ := hu
  simp only [List.mem_cons, List.mem_nil_iff, or_false] at hu
  rcases hu with rfl | rfl <;> rfl
theorem bCells_one (l : List UInt8) : ∀ u ∈ bCells l, u.oneCell' = true := by
  intro u hu
  rw [bCells, List.mem_map] at hu
  obtain ⟨s, _, rfl⟩ := hu
  rfl
theorem bCells_len (l : List UInt8) : (bCells l).length = l.length := by simp [bCells]
theorem bCells_at (l : List UInt8) (k : Nat) (b : UInt8) (h : l[k]? = some b) : (bCells l)[k]? = some (.int .u8 (co b)) := by simp [bCells, h]
theorem iCells_at (l : List Int) (k : Nat) (n : Int) (h : l[k]? = some n) : (iCells l)[k]? = some (.int .i64 n) := by simp [iCells, h]
theorem iCells_one (l : List Int) : ∀ u ∈ iCells l, u.oneCell' = true := by
  intro u hu
  rw [iCells, List.mem_map] at hu
  obtain ⟨s, _, rfl⟩ := hu
  rfl
theorem iCells_snoc (l : List Int) (n : Int) : iCells l ++ [.int .i64 n] = iCells (l ++ [n]) := by simp [iCells]

/-- A slice that reads as entries. -/
def EntsR (w : World) (v : Value) (l : List En) : Prop := ∃ A c, v = .slice A l.length c ∧ ∀ (k : Nat) (e : En), l[k]? = some e → ∃ ad : Addr, A = some ad ∧
  w.cell? (ad.add (k * 2)) = some (.string (bA e.1)) ∧ w.cell? ⟨(ad.add (k * 2)).block, (ad.add (k * 2)).off + 1, none⟩ = some (.int .i64 e.2)
/-- A slice that reads as numbers. -/
def IntsR (w : World) (v : Value) (l : List Int) : Prop := ∃ A c, v = .slice A l.length c ∧ ∀ (k : Nat) (n : Int), l[k]? = some n → ∃ ad : Addr, A = some ad ∧ w.cell? (ad.add k) = some (.int .i64 n)
theorem EntsR.below {w w' : World} {v : Value} {l : List En} (h : EntsR w v l) (hb : Below w.heap.size w w') : EntsR w' v l := by
  obtain ⟨A, c, hv, hc⟩ := h
  refine ⟨A, c, hv, fun k a hk => ?_⟩
  obtain ⟨ad, hA, h0, h1⟩ := hc k a hk
  exact ⟨ad, hA, bc hb h0, bc hb h1⟩
theorem IntsR.below {w w' : World} {v : Value} {l : List Int} (h : IntsR w v l) (hb : Below w.heap.size w w') : IntsR w' v l := by
  obtain ⟨A, c, hv, hc⟩ := h
  refine ⟨A, c, hv, fun k a hk => ?_⟩
  obtain ⟨ad, hA, h0⟩ := hc k a hk
  exact ⟨ad, hA, bc hb h0⟩
theorem EntsR.nil (w : World) : EntsR w (.slice none 0 0) [] := ⟨none, 0, rfl, fun k s h => by simp at h⟩
theorem IntsR.nil (w : World) : IntsR w (.slice none 0 0) [] := ⟨none, 0, rfl, fun k s h => by simp at h⟩
theorem BytesR.nil (w : World) : BytesR w (.slice none 0 0) [] := ⟨none, 0, rfl, fun k s h => by simp at h⟩
theorem IntsR.of_own {w : World} {B : Nat} {e : TypeId} {v : Value} {l : List Int} (h : w.ownsRow B e 1 v l.length (iCells l)) : IntsR w v l := by
  rcases h.2 with ⟨rfl, hn⟩ | ⟨g, cap, cur, rfl, _⟩
  · have : l = [] := List.eq_nil_of_length_eq_zero hn
    subst this
    exact IntsR.nil w
  · refine ⟨some ⟨g, 0, none⟩, cap, rfl, fun k a hk => ⟨_, rfl, ?_⟩⟩
    rw [add_lit]
    exact row_at h _ _ (iCells_at l k a hk)
/-- A row whose first cells are the entries'. -/
theorem EntsR.of_blk {w : World} {g : Nat} {t : TypeId} {cs : Array Value} {l : List En} {n : Nat} (c : Nat) (hn : l.length = n) (h : Blk w g t cs) (hc : cs.toList.take (n * 2) = eCells l) : EntsR w (.slice (some ⟨g, 0, none⟩) n c) l := by
  subst hn
  refine ⟨_, c, rfl, fun k e hk => ⟨_, rfl, ?_⟩⟩
  have hlt : k < l.length := (List.getElem?_eq_some_iff.1 hk).1
  obtain ⟨h0, h1⟩ := eCells_at l k e hk
  have key : ∀ j u, j < l.length * 2 → (eCells l)[j]? = some u → w.cell? ⟨g, j, none⟩ = some u := by
    intro j u hj hu
    rw [h.cell j, ← Array.getElem?_toList, ← hu, ← hc, List.getElem?_take, if_pos hj]
  rw [add_lit]
  exact ⟨key (k * 2) _ (by omega) h0, key (k * 2 + 1) _ (by omega) h1⟩
theorem BytesR.of_blk {w : World} {g : Nat} {t : TypeId} {l : List UInt8} {n : Nat} (c : Nat) (hn : l.length = n) (h : Blk w g t (bCells l).toArray) : BytesR w (.slice (some ⟨g, 0, none⟩) n c) l := by
  subst hn
  refine ⟨_, c, rfl, fun k b hk => ⟨_, rfl, ?_⟩⟩
  rw [add_lit, h.cell k, List.getElem?_toArray]
  exact bCells_at l k b hk
/-- Entries in a row of their own, with no place to spare. -/
def EntsX (w : World) (B : Nat) (v : Value) (l : List En) : Prop := (v = .slice none 0 0 ∧ l = []) ∨ ∃ g, B ≤ g ∧ v = .slice (some ⟨g, 0, none⟩) l.length l.length ∧ 0 < l.length ∧ Blk w g 103 (eCells l).toArray
def BytesX (w : World) (B : Nat) (v : Value) (l : List UInt8) : Prop := (v = .slice none 0 0 ∧ l = []) ∨ ∃ g, B ≤ g ∧ v = .slice (some ⟨g, 0, none⟩) l.length l.length ∧ Blk w g 5 (bCells l).toArray
theorem EntsX.ents {w : World} {B : Nat} {v : Value} {l : List En} (h : EntsX w B v l) : EntsR w v l := by
  rcases h with ⟨rfl, rfl⟩ | ⟨g, -, rfl, -, h⟩
  · exact EntsR.nil w
  · exact EntsR.of_blk _ rfl h (List.take_of_length_le (by rw [eCells_len]; exact Nat.le_refl _))
theorem BytesX.bytes {w : World} {B : Nat} {v : Value} {l : List UInt8} (h : BytesX w B v l) : BytesR w v l := by
  rcases h with ⟨rfl, rfl⟩ | ⟨g, -, rfl, h⟩
  · exact BytesR.nil w
  · exact BytesR.of_blk _ rfl h
theorem EntsX.below {w w' : World} {B : Nat} {v : Value} {l : List En} (h : EntsX w B v l) (hb : Below w.heap.size w w') : EntsX w' B v l := by
  rcases h with h | ⟨g, h1, h2, h3, h4⟩
  · exact .inl h
  · exact .inr ⟨g, h1, h2, h3, h4.below hb⟩
theorem BytesX.below {w w' : World} {B : Nat} {v : Value} {l : List UInt8} (h : BytesX w B v l) (hb : Below w.heap.size w w') : BytesX w' B v l := by
  rcases h with h | ⟨g, h1, h2, h3⟩
  · exact .inl h
  · exact .inr ⟨g, h1, h2, h3.below hb⟩
/-- Bytes in a row of their own stand where a row of another kind is changed. -/
theorem BytesX.kept {w w' : World} {B g : Nat} {v : Value} {l : List UInt8} {cs : Array Value} {t : TypeId} (h : BytesX w B v l) (hk : Blk w g t cs) (ht : t ≠ 5) (hg : w.grownBy w' (some g)) : BytesX w' B v l := by
  rcases h with h | ⟨g', h1, h2, h3⟩
  · exact .inl h
  · refine .inr ⟨g', h1, h2, h3.kept hg ?_⟩
    intro e
    injection e with e
    subst e
    unfold Blk at hk h3
    rw [hk] at h3
    injection h3 with h3
    injection h3 with _ h3
    exact ht h3
/-- Entries, and their row is one of entries. -/
def EntsT (w : World) (v : Value) (l : List En) : Prop := EntsR w v l ∧ ∀ (ad : Addr) (n c : Nat), v = .slice (some ad) n c → ∃ cs, Blk w ad.block 103 cs
theorem EntsT.kept {w w' : World} {g : Nat} {v : Value} {l : List En} {cs : Array Value} {t : TypeId} (h : EntsT w v l) (hk : Blk w g t cs) (ht : t ≠ 103) (hg : w.grownBy w' (some g)) : EntsT w' v l := by
  obtain ⟨⟨A, c, rfl, hc⟩, h2⟩ := h
  have hne : ∀ ad : Addr, A = some ad → ad.block ≠ g := by
    intro ad hA e
    subst hA
    obtain ⟨cs', hb⟩ := h2 ad _ _ rfl
    rw [e] at hb
    unfold Blk at hk hb
    rw [hk] at hb
    injection hb with hb
    injection hb with _ hb
    exact ht hb
  refine ⟨⟨A, c, rfl, fun k e hk' => ?_⟩, fun ad n' c' hv => ?_⟩
  · obtain ⟨ad, rfl, h0, h1⟩ := hc k e hk'
    have e1 : (ad.add (k * 2)).block = ad.block := by unfold Addr.add; split <;> rfl
    have key : ∀ (p : Addr) (u : Value), p.block = ad.block → w.cell? p = some u → w'.cell? p = some u := by
      intro p u hp hu
      rw [← hu]
      exact World.cell?_of_block (hg.block p.block (World.block_lt_of_cell? _ _ hu) (by rw [hp]; intro q; injection q with q; exact hne ad rfl q))
    exact ⟨ad, rfl, key _ _ e1 h0, key _ _ e1 h1⟩
  · obtain ⟨cs', hb⟩ := h2 ad n' c' hv
    injection hv with hA
    exact ⟨cs', hb.kept hg (fun e => hne ad hA (by injection e))⟩
theorem EntsT.below {w w' : World} {v : Value} {l : List En} (h : EntsT w v l) (hb : Below w.heap.size w w') : EntsT w' v l :=
  ⟨h.1.below hb, fun ad n c hv => by obtain ⟨cs, hc⟩ := h.2 ad n c hv; exact ⟨cs, hc.below hb⟩⟩
theorem EntsT.nil (w : World) : EntsT w (.slice none 0 0) [] := ⟨EntsR.nil w, fun ad n c h => by injection h with h; cases h⟩
theorem ents_form {w : World} {v : Value} {l : List En} {n : Nat} (h : EntsR w v l) (hn : l.length = n) : ∃ A c, v = .slice A n c := by
  obtain ⟨A, c, rfl, -⟩ := h
  subst hn
  exact ⟨A, c, rfl⟩
theorem bytes_form {w : World} {v : Value} {l : List UInt8} {n : Nat} (h : BytesR w v l) (hn : l.length = n) : ∃ A c, v = .slice A n c := by
  obtain ⟨A, c, rfl, -⟩ := h
  subst hn
  exact ⟨A, c, rfl⟩
theorem ints_form {w : World} {v : Value} {l : List Int} {n : Nat} (h : IntsR w v l) (hn : l.length = n) : ∃ A c, v = .slice A n c := by
  obtain ⟨A, c, rfl, -⟩ := h
  subst hn
  exact ⟨A, c, rfl⟩
theorem ents_get {w : World} {A : Option Addr} {n c : Nat} {l : List En} (h : EntsR w (.slice A n c) l) {k : Nat} {e : En} (hk : l[k]? = some e) : ∃ ad : Addr, A = some ad ∧ w.cell? (ad.add (k * 2)) = some (.string (bA e.1)) ∧ w.cell? ⟨(ad.add (k * 2)).block, (ad.add (k * 2)).off + 1, none⟩ = some (.int .i64 e.2) := by
  obtain ⟨A', c', hv, hc⟩ := h
  injection hv with hA
  subst hA
  exact hc k e hk
theorem ents_len {w : World} {A : Option Addr} {n c : Nat} {l : List En} (h : EntsR w (.slice A n c) l) : l.length = n := by
  obtain ⟨A', c', hv, -⟩ := h
  injection hv with _ h2
  exact h2.symm
theorem bytes_get {w : World} {A : Option Addr} {n c : Nat} {l : List UInt8} (h : BytesR w (.slice A n c) l) {k : Nat} {b : UInt8} (hk : l[k]? = some b) : ∃ ad : Addr, A = some ad ∧ w.cell? (ad.add k) = some (.int .u8 (co b)) := by
  obtain ⟨A', c', hv, hc⟩ := h
  injection hv with hA
  subst hA
  exact hc k b hk
theorem bytes_len {w : World} {A : Option Addr} {n c : Nat} {l : List UInt8} (h : BytesR w (.slice A n c) l) : l.length = n := by
  obtain ⟨A', c', hv, -⟩ := h
  injection hv with _ h2
  exact h2.symm
theorem ints_get {w : World} {A : Option Addr} {n c : Nat} {l : List Int} (h : IntsR w (.slice A n c) l) {k : Nat} {b : Int} (hk : l[k]? = some b) : ∃ ad : Addr, A = some ad ∧ w.cell? (ad.add k) = some (.int .i64 b) := by
  obtain ⟨A', c', hv, hc⟩ := h
  injection hv with hA
  subst hA
  exact hc k b hk
theorem ints_len {w : World} {A : Option Addr} {n c : Nat} {l : List Int} (h : IntsR w (.slice A n c) l) : l.length = n := by
  obtain ⟨A', c', hv, -⟩ := h
  injection hv with _ h2
  exact h2.symm
theorem strs_len {w : World} {A : Option Addr} {n c : Nat} {l : List ByteArray} (h : StrsR w (.slice A n c) l) : l.length = n := by
  obtain ⟨A', c', hv, -⟩ := h
  injection hv with _ h2
  exact h2.symm
/-- All of entries' cells, one by one, from the row's head on. -/
theorem ents_src {w : World} {ad : Addr} {n c : Nat} {l : List En} (h : EntsR w (.slice (some ad) n c) l) : ∀ (j : Nat) (u : Value), (eCells l)[j]? = some u → w.cell? (ad.add j) = some u := by
  intro j u hj
  have hlt : j < l.length * 2 := by rw [← eCells_len]; exact (List.getElem?_eq_some_iff.1 hj).1
  obtain ⟨e, he⟩ : ∃ e, l[j / 2]? = some e := ⟨_, List.getElem?_eq_getElem (show j / 2 < l.length by omega)⟩
  obtain ⟨ad', hA, h0, h1⟩ := ents_get h he
  injection hA with hA
  subst hA
  obtain ⟨e0, e1⟩ := eCells_at l _ e he
  rcases Nat.mod_two_eq_zero_or_one j with hm | hm
  · rw [show j / 2 * 2 = j by omega] at h0 e0
    rw [e0] at hj
    injection hj with hj
    rw [← hj]
    exact h0
  · rw [show j / 2 * 2 + 1 = j by omega] at e1
    rw [e1] at hj
    injection hj with hj
    rw [← hj, ← h1]
    congr 1
    unfold Addr.add
    by_cases h0 : j / 2 * 2 = 0
    · rw [if_neg (show ¬ j = 0 by omega), if_pos h0]
      have : j = 1 := by omega
      subst this
      rfl
    · rw [if_neg (show ¬ j = 0 by omega), if_neg h0]
      show (⟨ad.block, ad.off + j, none⟩ : Addr) = ⟨ad.block, ad.off + j / 2 * 2 + 1, none⟩
      rw [show ad.off + j / 2 * 2 + 1 = ad.off + j by omega]
theorem bytes_src {w : World} {ad : Addr} {n c : Nat} {l : List UInt8} (h : BytesR w (.slice (some ad) n c) l) : ∀ (j : Nat) (u : Value), (bCells l)[j]? = some u → w.cell? (ad.add j) = some u := by
  intro j u hj
  have hlt : j < l.length := by rw [← bCells_len]; exact (List.getElem?_eq_some_iff.1 hj).1
  obtain ⟨b, hb⟩ : ∃ b, l[j]? = some b := ⟨_, List.getElem?_eq_getElem hlt⟩
  obtain ⟨ad', hA, h0⟩ := bytes_get h hb
  injection hA with hA
  subst hA
  rw [bCells_at l j b hb] at hj
  injection hj with hj
  rw [← hj]
  exact h0

/-- The texts of names. -/
def nmA (l : List Nm) : List ByteArray := l.map bA
theorem nmA_len (l : List Nm) : (nmA l).length = l.length := List.length_map ..
theorem nmA_at {l : List Nm} {k : Nat} {n : Nm} (h : l[k]? = some n) : (nmA l)[k]? = some (bA n) := by simp [nmA, h]
theorem nmA_snoc (l : List Nm) (n : Nm) : nmA (l ++ [n]) = nmA l ++ [bA n] := by simp [nmA]
def idE (l : List En) : List Int := l.map Prod.snd
theorem idE_len (l : List En) : (idE l).length = l.length := List.length_map ..
theorem nmE_at {l : List En} {k : Nat} {e : En} (h : l[k]? = some e) : (nmE l)[k]? = some e.1 := by simp [nmE, h]
theorem idE_at {l : List En} {k : Nat} {e : En} (h : l[k]? = some e) : (idE l)[k]? = some e.2 := by simp [idE, h]
/-- A node by value, of what lies in memory. -/
def nodeV (n : Nd) (vd ve : Value) : Value := .agg #[.int .i64 n.kind, .int .i64 n.mode, .int .i64 n.uid, .int .i64 n.gid, vd, ve, .string (bA n.target)]
def NdR (w : World) (v : Value) (n : Nd) : Prop := ∃ vd ve, v = nodeV n vd ve ∧ BytesR w vd n.data ∧ EntsR w ve n.ents
theorem NdR.below {w w' : World} {v : Value} {n : Nd} (h : NdR w v n) (hb : Below w.heap.size w w') : NdR w' v n := by
  obtain ⟨vd, ve, h1, h2, h3⟩ := h
  exact ⟨vd, ve, h1, h2.below hb, h3.below hb⟩
/-- The same, with lists in rows of their own kinds. -/
def NdT (w : World) (v : Value) (n : Nd) : Prop := ∃ vd ve, v = nodeV n vd ve ∧ BytesX w 0 vd n.data ∧ EntsT w ve n.ents
theorem NdT.nd {w : World} {v : Value} {n : Nd} (h : NdT w v n) : NdR w v n := by
  obtain ⟨vd, ve, h1, h2, h3⟩ := h
  exact ⟨vd, ve, h1, h2.bytes, h3.1⟩
/-- The reference's node by value. -/
def refV (n : Nd) (vn vk : Value) : Value := .agg #[.int .i64 n.kind, .int .i64 n.mode, .int .i64 n.uid, .int .i64 n.gid, .string (bA n.data), vn, vk, .string (bA n.target)]
def NrR (w : World) (v : Value) (n : Nd) : Prop := ∃ vn vk, v = refV n vn vk ∧ StrsR w vn (nmA (nmE n.ents)) ∧ IntsR w vk (idE n.ents)
theorem NrR.below {w w' : World} {v : Value} {n : Nd} (h : NrR w v n) (hb : Below w.heap.size w w') : NrR w' v n := by
  obtain ⟨vd, ve, h1, h2, h3⟩ := h
  exact ⟨vd, ve, h1, h2.below hb, h3.below hb⟩
/-- As texts are compared. -/
theorem bA_list (l : List UInt8) : (bA l).toList = l := by rw [ByteArray.toList_eq]; rfl
end Go.Proofs.YtilepnepcamnaaaGreat
