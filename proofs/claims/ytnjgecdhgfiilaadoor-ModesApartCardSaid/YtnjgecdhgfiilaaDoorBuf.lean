/-
  Bytes that a call owns: three of them appended at once, and the text that they are. No condition but that they are few.
-/
import Derived.Test.YtnjgecdhgfiilaaDoorChars
import Derived.Lib.BufSteps
import Derived.Laws.IdiomStrings
namespace Go.Proofs.YtnjgecdhgfiilaaDoor
open Go Go.RowKit

/-- A text of numbers. -/
def str (ns : List Int) : ByteArray := ⟨(ns.map fun n => UInt8.ofNat n.toNat).toArray⟩
theorem foldl_push : ∀ (ns : List Int) (r : ByteArray), ns.foldl (fun r n => r.push (UInt8.ofNat n.toNat)) r = ⟨r.data ++ (ns.map fun n => UInt8.ofNat n.toNat).toArray⟩
  | [], r => by simp
  | n :: ns, r => by
    simp only [List.foldl_cons]
    rw [foldl_push ns]
    simp [ByteArray.push]

theorem info_u8 : (Tryd.prog.info? 5).map (fun i => (i.zero, i.size, i.bytes)) = some (some (.int .u8 0), 1, 1) := by kernel_rfl

/-- 'string(s)' of bytes that a call owns. -/
theorem conv_own {w : World} {B : Nat} {v : Value} {ns : List Int} (h : w.ownsRowF B 5 1 v ns.length (ns.map (Value.int .u8))) :
    (convert 40 9 v).run Tryd.prog w = .ok (.string (str ns)) w := by
  rcases h.2 with ⟨rfl, h0⟩ | ⟨g, cap, cur, fz, rfl, -⟩
  · have : ns = [] := List.eq_nil_of_length_eq_zero h0
    subst this
    rw [run_convert_bytes_string w 40 9 5 none 0 0 Tryd.underlying40 Tryd.underlying5 Tryd.underlying9]
    rfl
  · rw [run_convert_bytes_string w 40 9 5 _ _ _ Tryd.underlying40 Tryd.underlying5 Tryd.underlying9]
    have hc := h.cells (g := g) rfl
    have hl := run_loadCells_list (P := Tryd.prog) w ⟨g, 0, none⟩ (ns.map (Value.int .u8)) (fun j u hj => hc j u hj)
    simp only [List.length_map] at hl
    rw [run_bytesToString w _ ns.length cap _ hl, foldl_push]
    have he0 : ByteArray.empty.data = #[] := rfl
    rw [he0]
    simp [str]

/-- 's = append(s, a, b, c)'. -/
theorem wpList_append_three {ops : Array Oper} {rest : List Oper} {o : Oper} {a : Act} {Q : Exit → Act → World → Prop} (hgd : o.guard = none) (s x : Operand) (t : TypeId)
    (ho : o.op = .call { callee := .builtin .append, args := #[s, x], argTypes := #[t, t] })
    (B : Nat) (e : TypeId) (i : TypeInfo) {P : Program} (ht : P.underlying t = some (.slice e)) (hi : P.info? e = some i) (hz : i.zero = some (.int .u8 0)) (hsize : i.size = 1) (hby : i.bytes = 1)
    (v : Value) (n : Nat) (xs : List Value) (hs : a.eval s = v) (W0 w0 : World) (c d f : Int) (hb : Lib.OwnBuf B e v n xs W0 w0)
    (hx : a.eval x = .slice (some ⟨w0.heap.size, 0, none⟩) 3 3) (hlen : n + 3 ≤ 140737488355328)
    (h : ∀ v' w', Lib.OwnBuf B e v' (n + 3) (xs ++ [.int .u8 c, .int .u8 d, .int .u8 f]) W0 w' → wpList P ops Q rest (a.put o.dst v') w') : wpList P ops Q (o :: rest) a (w0.alloc (.cells #[.int .u8 c, .int .u8 d, .int .u8 f] e)) := by
  have hb' := hb.alloc (.cells #[.int .u8 c, .int .u8 d, .int .u8 f] e)
  refine wpList_append_ownF _ hgd s x t ho B e i (.int .u8 0) 1 1 ht hi hz hsize hby rfl (by decide) v n xs hs hb'.1 ⟨w0.heap.size, 0, none⟩ 3 3 [.int .u8 c, .int .u8 d, .int .u8 f] hx rfl ?_ ?_ (by unfold maxLen; omega) (by omega) hb'.2.2 ?_
  · intro j u hj
    match j, hj with
    | 0, hj => simp at hj; subst hj; simp [Addr.add]
    | 1, hj => simp at hj; subst hj; simp [Addr.add]
    | 2, hj => simp at hj; subst hj; simp [Addr.add]
    | (j + 3), hj => simp at hj
  · intro u hu; simp at hu; rcases hu with rfl | rfl | rfl <;> rfl
  · intro v' w' ho' hg _
    exact h v' w' (hb'.grown ho' hg)

theorem SignsAt.below {w w' : World} {B : Nat} (h : SignsAt w) (hb : Below B w w') (hB : 0 < B) : SignsAt w' :=
  ⟨Nat.lt_of_lt_of_le h.1 hb.size, (hb.cell hB).trans h.2.1, (hb.cell hB).trans h.2.2.1, (hb.cell hB).trans h.2.2.2⟩
theorem SignsAt.drewN {w : World} (h : SignsAt w) (n : Nat) : SignsAt (w.drewN n) := h

theorem lastSign_any (m k : Int) (w : World) (h0 : 0 ≤ k) (h1 : k < 3) (h : SignsAt w) : Calls Tryd.prog 23 #[.int .i64 m, .int .i64 k] w fun e w' => e = .returned (.int .u8 (lst m k)) ∧ w = w' := by
  obtain rfl | rfl | rfl : k = 0 ∨ k = 1 ∨ k = 2 := by omega
  · exact lastSign0 m w h
  · exact lastSign1 m w h
  · exact lastSign2 m w h

/-- The three signs of a class. -/
def tri (m k : Int) : List Int := [if cls m k / 4 % 2 = 1 then 114 else 45, if cls m k / 2 % 2 = 1 then 119 else 45, lst m k]
/-- The kind's sign and those of the first classes. -/
def pre (kind m : Int) : Nat → List Int
  | 0 => [ksg kind]
  | k + 1 => pre kind m k ++ tri m k
def sh (kind m : Int) : ByteArray := str (pre kind m 3)
theorem pre_len (kind m : Int) (k : Nat) : (pre kind m k).length = 1 + 3 * k := by
  induction k with
  | zero => rfl
  | succ k ih => simp only [pre, List.length_append, ih, tri, List.length_cons, List.length_nil]; omega

theorem tri_of (m k : Int) : [Value.int .u8 (bif (bits .and .i64 (cls m k) 4 != 0) then 114 else 45), .int .u8 (bif (bits .and .i64 (cls m k) 2 != 0) then 119 else 45), .int .u8 (lst m k)] = (tri m k).map (Value.int .u8) := by
  have hb := cls_bd m k
  rw [and4, and2]
  rcases (by omega : cls m k / 4 % 2 = 0 ∨ cls m k / 4 % 2 = 1) with h | h <;> rcases (by omega : cls m k / 2 % 2 = 0 ∨ cls m k / 2 % 2 = 1) with h' | h' <;> simp [tri, h, h']
end Go.Proofs.YtnjgecdhgfiilaaDoor
