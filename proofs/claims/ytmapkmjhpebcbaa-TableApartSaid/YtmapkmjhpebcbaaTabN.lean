/-
  A new table: New. No condition.
-/
import Derived.Test.YtmapkmjhpebcbaaTabP
namespace Go.Proofs.Ytmapkmjhpebcbaa
open Go Go.RowKit

theorem zero_size : Try.zeroCells79.size = 169 := by kernel_rfl
set_option maxRecDepth 100000 in
theorem zero_node : ∀ (k : Nat), k < 24 → Try.zeroCells79[1 + k * 7]? = some (.int .i64 0) ∧ Try.zeroCells79[1 + k * 7 + 1]? = some (.int .i64 0) ∧ Try.zeroCells79[1 + k * 7 + 2]? = some (.int .i64 0) ∧ Try.zeroCells79[1 + k * 7 + 3]? = some (.int .i64 0) ∧ Try.zeroCells79[1 + k * 7 + 4]? = some (.slice none 0 0) ∧ Try.zeroCells79[1 + k * 7 + 5]? = some (.slice none 0 0) ∧ Try.zeroCells79[1 + k * 7 + 6]? = some (.string ⟨#[]⟩)
  | 0, _ => by refine ⟨?_, ?_, ?_, ?_, ?_, ?_, ?_⟩ <;> kernel_rfl
  | 1, _ => by refine ⟨?_, ?_, ?_, ?_, ?_, ?_, ?_⟩ <;> kernel_rfl
  | 2, _ => by refine ⟨?_, ?_, ?_, ?_, ?_, ?_, ?_⟩ <;> kernel_rfl
  | 3, _ => by refine ⟨?_, ?_, ?_, ?_, ?_, ?_, ?_⟩ <;> kernel_rfl
  | 4, _ => by refine ⟨?_, ?_, ?_, ?_, ?_, ?_, ?_⟩ <;> kernel_rfl
  | 5, _ => by refine ⟨?_, ?_, ?_, ?_, ?_, ?_, ?_⟩ <;> kernel_rfl
  | 6, _ => by refine ⟨?_, ?_, ?_, ?_, ?_, ?_, ?_⟩ <;> kernel_rfl
  | 7, _ => by refine ⟨?_, ?_, ?_, ?_, ?_, ?_, ?_⟩ <;> kernel_rfl
  | 8, _ => by refine ⟨?_, ?_, ?_, ?_, ?_, ?_, ?_⟩ <;> kernel_rfl
  | 9, _ => by refine ⟨?_, ?_, ?_, ?_, ?_, ?_, ?_⟩ <;> kernel_rfl
  | 10, _ => by refine ⟨?_, ?_, ?_, ?_, ?_, ?_, ?_⟩ <;> kernel_rfl
  | 11, _ => by refine ⟨?_, ?_, ?_, ?_, ?_, ?_, ?_⟩ <;> kernel_rfl
  | 12, _ => by refine ⟨?_, ?_, ?_, ?_, ?_, ?_, ?_⟩ <;> kernel_rfl
  | 13, _ => by refine ⟨?_, ?_, ?_, ?_, ?_, ?_, ?_⟩ <;> kernel_rfl
  | 14, _ => by refine ⟨?_, ?_, ?_, ?_, ?_, ?_, ?_⟩ <;> kernel_rfl
  | 15, _ => by refine ⟨?_, ?_, ?_, ?_, ?_, ?_, ?_⟩ <;> kernel_rfl
  | 16, _ => by refine ⟨?_, ?_, ?_, ?_, ?_, ?_, ?_⟩ <;> kernel_rfl
  | 17, _ => by refine ⟨?_, ?_, ?_, ?_, ?_, ?_, ?_⟩ <;> kernel_rfl
  | 18, _ => by refine ⟨?_, ?_, ?_, ?_, ?_, ?_, ?_⟩ <;> kernel_rfl
  | 19, _ => by refine ⟨?_, ?_, ?_, ?_, ?_, ?_, ?_⟩ <;> kernel_rfl
  | 20, _ => by refine ⟨?_, ?_, ?_, ?_, ?_, ?_, ?_⟩ <;> kernel_rfl
  | 21, _ => by refine ⟨?_, ?_, ?_, ?_, ?_, ?_, ?_⟩ <;> kernel_rfl
  | 22, _ => by refine ⟨?_, ?_, ?_, ?_, ?_, ?_, ?_⟩ <;> kernel_rfl
  | 23, _ => by refine ⟨?_, ?_, ?_, ?_, ?_, ?_, ?_⟩ <;> kernel_rfl
  | k + 24, h => absurd h (by omega)
/-- How much room a table is made for. -/
def newL (r : Int) : Nat := if r < 1 then 1 else if 24 < r then 24 else r.toNat
theorem newL_bd (r : Int) : 1 ≤ newL r ∧ newL r ≤ 24 := by
  unfold newL
  repeat' split
  all_goals omega
theorem tab_new (w : World) (l : Nat) (h1 : 1 ≤ l) (h2 : l ≤ 24) (P : Nat → Prop) : TabR (w.alloc (.cells (Try.zeroCells79.setIfInBounds 0 (.int .i64 (l : Int))) 79)) w.heap.size (List.replicate l Nd.zero) P := by
  have hb := Blk.new w 79 (Try.zeroCells79.setIfInBounds 0 (.int .i64 (l : Int)))
  have hz := zero_size
  refine ⟨⟨_, hb, by rw [Array.size_setIfInBounds]; exact hz⟩, ?_, by rw [List.length_replicate]; exact h1, by rw [List.length_replicate]; exact h2, ok_new l, fun k n hk => ?_⟩
  · rw [hb.cell 0, List.length_replicate]
    exact set_self (by omega)
  · obtain ⟨hlt, he⟩ := List.getElem?_eq_some_iff.1 hk
    rw [List.length_replicate] at hlt
    rw [List.getElem_replicate] at he
    subst he
    obtain ⟨a0, a1, a2, a3, a4, a5, a6⟩ := zero_node k (by omega)
    have key : ∀ (i : Nat) (u : Value), 0 < i → Try.zeroCells79[i]? = some u → (w.alloc (.cells (Try.zeroCells79.setIfInBounds 0 (.int .i64 (l : Int))) 79)).cell? ⟨w.heap.size, i, none⟩ = some u := by
      intro i u hi hu
      rw [hb.cell i, Array.getElem?_setIfInBounds_ne (by omega)]
      exact hu
    exact ⟨.slice none 0 0, .slice none 0 0, ⟨key _ _ (by omega) a0, key _ _ (by omega) a1, key _ _ (by omega) a2, key _ _ (by omega) a3, key _ _ (by omega) a4, key _ _ (by omega) a5, key _ _ (by omega) a6⟩, BytesT.nil _, EntsT.nil _, LP.nil _, LP.nil _⟩
/-- What New makes. -/
def NewPost (w : World) (r : Int) (e : Ending) (w' : World) : Prop :=
  e = .returned (.pointer (some ⟨w.heap.size, 0, none⟩)) ∧ (∀ P, TabR w' w.heap.size (List.replicate (newL r) Nd.zero) P) ∧ Below w.heap.size w w' ∧ w'.heap.size = w.heap.size + 1
theorem NewPost.mk' (w : World) (r x : Int) (hx : x = (newL r : Int)) : NewPost w r (.returned (.pointer (some ⟨w.heap.size, 0, none⟩))) (w.alloc (.cells (Try.zeroCells79.setIfInBounds 0 (.int .i64 x)) 79)) := by
  subst hx
  have := newL_bd r
  exact ⟨rfl, fun P => tab_new w _ this.1 this.2 P, ba _ _, by simp⟩
set_option maxRecDepth 100000 in
set_option maxHeartbeats 4000000 in
theorem new_any (r : Int) (w : World) : Calls Try.prog 10 #[.int .i64 r] w (NewPost w r) := by
  by_cases h1 : r < 1
  · have HX := Lib.hid (show (1 : Int) = (newL r : Int) by unfold newL; rw [if_pos h1]; rfl)
    go_enter Try.func10, Try.ntmps10
    go_wp2
    go_ret
    exact NewPost.mk' w r _ HX.out
  · by_cases h2 : 24 < r
    · have HX := Lib.hid (show (24 : Int) = (newL r : Int) by unfold newL; rw [if_neg h1, if_pos h2]; rfl)
      go_enter Try.func10, Try.ntmps10
      go_wp2
      go_ret
      exact NewPost.mk' w r _ HX.out
    · have HX := Lib.hid (show r = (newL r : Int) by unfold newL; rw [if_neg h1, if_neg h2]; omega)
      have h3 : 1 ≤ r := by omega
      have h4 : r ≤ 24 := by omega
      go_enter Try.func10, Try.ntmps10
      go_wp2
      go_ret
      exact NewPost.mk' w r _ HX.out
end Go.Proofs.Ytmapkmjhpebcbaa
