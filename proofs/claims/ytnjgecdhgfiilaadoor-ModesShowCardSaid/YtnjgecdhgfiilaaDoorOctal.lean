/-
  What modes.Octal answers of any number: four digits; nothing that was there is changed. No condition.
-/
import Derived.Test.YtnjgecdhgfiilaaDoorRead
namespace Go.Proofs.YtnjgecdhgfiilaaDoor
open Go Go.RowKit

/-- The four digits. -/
def oct (m : Int) : List Int := [48 + m / 512 % 8, 48 + m / 64 % 8, 48 + m / 8 % 8, 48 + m % 8]
theorem conv4 (w : World) (a b c d : Int) (T : TypeId) : (convert 40 9 (.slice (some ⟨w.heap.size, 0, none⟩) 4 4)).run Tryd.prog (w.alloc (.cells #[.int .u8 a, .int .u8 b, .int .u8 c, .int .u8 d] T)) = .ok (.string (str [a, b, c, d])) (w.alloc (.cells #[.int .u8 a, .int .u8 b, .int .u8 c, .int .u8 d] T)) := by
  rw [run_convert_bytes_string _ 40 9 5 _ _ _ Tryd.underlying40 Tryd.underlying5 Tryd.underlying9]
  have hl := run_loadCells_list (P := Tryd.prog) (w.alloc (.cells #[.int .u8 a, .int .u8 b, .int .u8 c, .int .u8 d] T)) ⟨w.heap.size, 0, none⟩ ([a, b, c, d].map (Value.int .u8)) (fun j u hj => by
    rw [Addr.add_lit, Nat.zero_add, World.cell?_alloc_mark]
    simpa using hj)
  rw [show (4 : Nat) = ([a, b, c, d].map (Value.int .u8)).length from rfl, run_bytesToString _ _ _ _ [a, b, c, d] hl, foldl_push]
  have he0 : ByteArray.empty.data = #[] := rfl
  rw [he0]
  simp [str]
theorem oct_of (m : Int) : [(48 + bits .and .i64 (m / 512) 7) % 256, (48 + bits .and .i64 (m / 64) 7) % 256, (48 + bits .and .i64 (m / 8) 7) % 256, (48 + bits .and .i64 m 7) % 256] = oct m := by
  rw [and7, and7, and7, and7]
  simp only [oct, List.cons.injEq, and_true]
  omega
set_option maxHeartbeats 2000000 in
theorem octal_any (m : Int) (w : World) : Calls Tryd.prog 15 #[.int .i64 m] w fun e w' => e = .returned (.string (str (oct m))) ∧ Below w.heap.size w w' := by
  go_enter Tryd.func15, Tryd.ntmps15
  go_wp2
  refine wp_loop_rounds 5 ?_
  rw [rounds_succ]
  go_wp2_with fail
  rw [rounds_succ]
  go_wp2_with fail
  rw [rounds_succ]
  go_wp2_with fail
  rw [rounds_succ]
  go_wp2_with fail
  rw [rounds_succ]
  go_wp2_with fail
  rw [conv4]
  simp only [Result.andThen]
  rw [Oper.upon_value]
  go_wp2
  go_ret
  refine ⟨?_, (Below.refl _ _).alloc (Nat.le_refl _) _⟩
  rw [← oct_of]
  rfl
end Go.Proofs.YtnjgecdhgfiilaaDoor
