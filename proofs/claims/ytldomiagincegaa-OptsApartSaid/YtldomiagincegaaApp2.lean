/-
  Two options compared; texts appended to a row of texts, and where the new row lies; a literal's row.
-/
import Derived.Test.YtldomiagincegaaRestW
import Derived.Laws.StructEq
import Derived.Maps.AppendAt
namespace Go.Proofs.Ytldomiagincegaa
open Go Go.RowKit

theorem eq_flag (a b : Int) (s t : ByteArray) (w : World) : (Op.equalIn 10000 38 (.agg #[.int .u8 a, .string s]) (.agg #[.int .u8 b, .string t])).run Try.prog w = .ok (a == b && s.toList == t.toList) w := by
  have hS : Try.prog.underlying 38 = some (.struct (Try.prog.fieldsOf 38)) := by kernel_rfl
  rw [show (10000 : Nat) = 9999 + 1 from rfl, run_equalIn_agg w 9999 38 _ _ hS (by kernel_rfl)]
  have u5 := Try.underlying5
  have u9 := Try.underlying9
  simp only [Program.fieldsOf, Try.underlying38]
  go_simp
  by_cases h1 : a = b <;> by_cases h2 : s.toList = t.toList <;> simp [h1, h2]
/-- 's = append(s, x...)' of texts, and where the new row lies. -/
theorem wpList_append_strs2 {ops : Array Oper} {rest : List Oper} {o : Oper} {a : Act} {Q : Exit → Act → World → Prop} {w0 : World} (hgd : o.guard = none) (s x : Operand)
    (ho : o.op = .call { callee := .builtin .append, args := #[s, x], argTypes := #[22, 22] }) (B : Nat) (v : Value) (l : List ByteArray) (hs : a.eval s = v) (hown : w0.ownsRow B 9 1 v l.length (sCells l))
    (vx : Value) (m : List ByteArray) (hx : a.eval x = vx) (hm : StrsR w0 vx m) (hn : l.length + m.length ≤ 100000000) (hB : B ≤ w0.heap.size)
    (h : ∀ v' w', w'.ownsRow B 9 1 v' (l ++ m).length (sCells (l ++ m)) → w0.grownBy w' v.ownBlock → (v'.ownBlock = v.ownBlock ∨ v'.ownBlock = some w0.heap.size) → wpList Try.prog ops Q rest (a.put o.dst v') w') : wpList Try.prog ops Q (o :: rest) a w0 := by
  obtain ⟨i, hi0, hz0, hz1, hz2⟩ := info_parts info_str
  obtain ⟨A, c, rfl, hle, hc⟩ := id hm
  cases A with
  | none =>
    have hm0 : m = [] := by
      cases m with
      | nil => rfl
      | cons y m' =>
        obtain ⟨ad, e, _⟩ := hc 0 y rfl
        cases e
    subst hm0
    have hc0 : c = 0 := hle.2 rfl
    subst hc0
    refine wpList_append_own_none hgd s x _ ho B 9 i 1 Try.underlying22 hi0 v l.length (sCells l) hs hown hx (h v w0 ?_ ⟨rfl, rfl, rfl, Nat.le_refl _, fun _ _ _ => rfl⟩ (.inl rfl))
    rw [List.append_nil]
    exact hown
  | some ad =>
    refine wpList_append_own_at _ hgd s x _ ho B 9 i _ 1 16 Try.underlying22 hi0 hz0 hz1 hz2 rfl (by decide) v l.length (sCells l) hs hown ad m.length c (sCells m) hx (by simp [sCells]) (src_strs hm) (sCells_one m) (by unfold maxLen; omega) (by omega) hB ?_
    intro v' w' ho' hg _ hat
    refine h v' w' ?_ hg hat
    rw [List.length_append]
    simpa [sCells] using ho'
theorem own_lit {W : World} {B g n : Nat} {l : List ByteArray} {cs : Array Value} (h : Blk W g 9 cs) (hc : cs.toList = sCells l) (hn : l.length = n) (hB : B ≤ g) (hz : n ≤ 100) : W.ownsRow B 9 1 (.slice (some ⟨g, 0, none⟩) n n) l.length (sCells l) := by
  subst hn
  refine ⟨by simp [sCells], .inr ⟨g, l.length, cs, rfl, hB, h, Nat.le_refl _, by unfold maxLen; omega, ?_, ?_⟩⟩
  · rw [← Array.length_toList, hc]; simp [sCells]
  · rw [hc, List.take_of_length_le (by simp [sCells])]
/-- Behind an append to the first of two rows that lie side by side. -/
theorem apart1 {w1 Wb w3 : World} {v1 : Value} {l1 l2 rs : List ByteArray} {n k : Nat} (hz : Wb.heap.size = w1.heap.size + 2) (hb : Below w1.heap.size w1 Wb) (hO2 : Wb.ownsRow w1.heap.size 9 1 (.slice (some ⟨w1.heap.size + 1, 0, none⟩) k k) l2.length (sCells l2)) (hn : (l1 ++ rs).length = n)
    (ho : w3.ownsRow w1.heap.size 9 1 v1 (l1 ++ rs).length (sCells (l1 ++ rs))) (hg : Wb.grownBy w3 (some w1.heap.size)) (hat : v1.ownBlock = some w1.heap.size ∨ v1.ownBlock = some Wb.heap.size) :
    ∃ A c, v1 = .slice A n c ∧ w3.ownsRow w1.heap.size 9 1 (.slice A n c) (l1 ++ rs).length (sCells (l1 ++ rs)) ∧ (Value.slice A n c).ownBlock ≠ some (w1.heap.size + 1) ∧ w3.ownsRow w1.heap.size 9 1 (.slice (some ⟨w1.heap.size + 1, 0, none⟩) k k) l2.length (sCells l2) ∧ Below w1.heap.size w1 w3 := by
  subst hn
  obtain ⟨A, c, rfl⟩ := own_slice ho
  refine ⟨A, c, rfl, ho, ?_, hO2.kept hg (.inr (by simp [Value.ownBlock])), hb.grown hg (by omega) (fun q hq => by injection hq with hq; omega)⟩
  rcases hat with h | h
  · rw [h]; simp
  · rw [h, hz]; simp
/-- Behind an append to the second one. -/
theorem apart2 {w1 w3 w4 : World} {v1 v2 : Value} {l1 l2 rs : List ByteArray} {n : Nat} (hb : Below w1.heap.size w1 w3) (hO1 : w3.ownsRow w1.heap.size 9 1 v1 l1.length (sCells l1)) (hne : v1.ownBlock ≠ some (w1.heap.size + 1)) (hn : (l2 ++ rs).length = n)
    (ho : w4.ownsRow w1.heap.size 9 1 v2 (l2 ++ rs).length (sCells (l2 ++ rs))) (hg : w3.grownBy w4 (some (w1.heap.size + 1))) :
    ∃ A c, v2 = .slice A n c ∧ StrsR w4 (.slice A n c) (l2 ++ rs) ∧ StrsR w4 v1 l1 ∧ Below w1.heap.size w1 w4 := by
  subst hn
  obtain ⟨A, c, rfl⟩ := own_slice ho
  exact ⟨A, c, rfl, StrsR.of_own ho, StrsR.of_own (hO1.kept hg (.inr hne)), hb.grown hg hb.size (fun q hq => by injection hq with hq; omega)⟩
end Go.Proofs.Ytldomiagincegaa
