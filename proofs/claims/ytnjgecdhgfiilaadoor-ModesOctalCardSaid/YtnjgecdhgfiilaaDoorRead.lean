/-
  What modes.Read answers of a text of ten bytes, whatever they are, and of any other text, under the condition that the package's table of signs holds what its initialiser lays; nothing that was there is changed.
-/
import Derived.Test.YtnjgecdhgfiilaaDoorReadClass
import Derived.LoopTactic
import Derived.LoopN
namespace Go.Proofs.YtnjgecdhgfiilaaDoor
open Go Go.RowKit

theorem read_short (s : ByteArray) (w : World) (hs : ¬ s.size = 10) : Calls Tryd.prog 12 #[.string s] w fun e w' => e = .returned (.tuple #[.int .i64 0, .int .i64 0, .bool false]) ∧ w = w' := by
  have h1 : ((s.size : Int) != 10) = true := by simp; omega
  go_enter Tryd.func12, Tryd.ntmps12
  go_wp2
  go_ret3
  exact ⟨rfl, rfl⟩

/-- The kind of a sign; -1: it is none. -/
def rdk (c : UInt8) : Int := Lib.indexByte [63, 45, 100, 108] c
/-- The mode of nine signs. -/
def rdm (c1 c2 c3 c4 c5 c6 c7 c8 c9 : UInt8) : Int := bits .or .i64 (bits .or .i64 (bits .or .i64 0 (rcl 0 c1 c2 c3)) (rcl 1 c4 c5 c6)) (rcl 2 c7 c8 c9)

theorem index_kind (c : UInt8) (K : Int) (w : World) (hK : rdk c = K) : Calls Tryd.prog 26 #[.string ⟨#[63, 45, 100, 108]⟩, .int .u8 c.toNat] w fun e w' => e = .returned (.int .i64 K) ∧ w = w' := by
  refine (index_byte _ _ _).mono fun e w' h => ⟨h.1.trans (ret_int ?_), h.2⟩
  rw [← hK]
  simp [rdk]
/-- readClass of three bytes that are told. -/
theorem rc_at (k : Int) (a b c : UInt8) (s : ByteArray) (w : World) (h0 : 0 ≤ k) (h1 : k < 3) (hs : s = ⟨#[a, b, c]⟩) (hS : SignsAt w) : Calls Tryd.prog 27 #[.string s, .int .i64 k] w fun e w' => e = .returned (.int .i64 (rcl k a b c)) ∧ ∃ n, w' = w.drewN n := by
  subst hs
  exact readClass_any k ⟨#[a, b, c]⟩ w h0 h1 (Nat.le_refl 3) hS
theorem below_drewN {B : Nat} {a w : World} (h : Below B a w) (n : Nat) : Below B a (w.drewN n) := ⟨h.os, h.tape, h.output, h.size, h.block⟩
theorem below_left {w w' : World} {n : Nat} (h : Below (w.drewN n).heap.size (w.drewN n) w') : Below w.heap.size w w' := ⟨h.os, h.tape, h.output, h.size, h.block⟩
theorem toList_eq {a : ByteArray} {l : List UInt8} (h : a = ⟨l.toArray⟩) : (a.toList == l) = true := by rw [h]; simp
theorem toList_ne {a : ByteArray} {l : List UInt8} (h : ¬ a = ⟨l.toArray⟩) : (a.toList == l) = false := by
  rw [beq_eq_false_iff_ne]
  intro e
  apply h
  rw [ByteArray.toList_eq] at e
  obtain ⟨⟨a⟩⟩ := a
  simp at e
  rw [e]
set_option maxHeartbeats 2000000 in
theorem read_none (c0 c1 c2 c3 c4 c5 c6 c7 c8 c9 : UInt8) (K : Int) (w : World) (hS : SignsAt w) (hk : rdk c0 = K) (hn : K < 0) : Calls Tryd.prog 12 #[.string ⟨#[c0, c1, c2, c3, c4, c5, c6, c7, c8, c9]⟩] w fun e w' => e = .returned (.tuple #[.int .i64 0, .int .i64 0, .bool false]) ∧ Below w.heap.size w w' := by
  have HK := Lib.hid hk
  have HS := Lib.hid hS
  clear hk hS
  go_enter Tryd.func12, Tryd.ntmps12
  go_wp2_with (go_at_call 26; refine (index_kind _ K _ HK.out).mono ?_; rintro e w' ⟨rfl, rfl⟩)
  refine wp_loop_rounds 4 ?_
  rw [rounds_succ]
  go_wp2_with fail
  refine (rc_at 0 c1 c2 c3 _ _ (by decide) (by decide) (by exact rfl) (by exact HS.out)).mono ?_
  rintro e w' ⟨rfl, n0, rfl⟩
  go_wp2_with fail
  rw [rounds_succ]
  go_wp2_with fail
  refine (rc_at 1 c4 c5 c6 _ _ (by decide) (by decide) (by exact rfl) (by exact HS.out)).mono ?_
  rintro e w' ⟨rfl, n1, rfl⟩
  go_wp2_with fail
  rw [rounds_succ]
  go_wp2_with fail
  refine (rc_at 2 c7 c8 c9 _ _ (by decide) (by decide) (by exact rfl) (by exact HS.out)).mono ?_
  rintro e w' ⟨rfl, n2, rfl⟩
  go_wp2_with fail
  rw [rounds_succ]
  go_wp2
  go_ret3
  exact ⟨rfl, below_drewN (Below.refl _ _) _⟩
set_option maxHeartbeats 2000000 in
theorem read_no (c0 c1 c2 c3 c4 c5 c6 c7 c8 c9 : UInt8) (K : Int) (w : World) (hS : SignsAt w) (hk : rdk c0 = K) (hn : 0 ≤ K) (hb : ¬ sh K (rdm c1 c2 c3 c4 c5 c6 c7 c8 c9) = ⟨#[c0, c1, c2, c3, c4, c5, c6, c7, c8, c9]⟩) : Calls Tryd.prog 12 #[.string ⟨#[c0, c1, c2, c3, c4, c5, c6, c7, c8, c9]⟩] w fun e w' => e = .returned (.tuple #[.int .i64 0, .int .i64 0, .bool false]) ∧ Below w.heap.size w w' := by
  have HK := Lib.hid hk
  have HS := Lib.hid hS
  have HB := Lib.hid (toList_ne (l := [c0, c1, c2, c3, c4, c5, c6, c7, c8, c9]) hb)
  clear hk hS hb
  go_enter Tryd.func12, Tryd.ntmps12
  go_wp2_with (go_at_call 26; refine (index_kind _ K _ HK.out).mono ?_; rintro e w' ⟨rfl, rfl⟩)
  refine wp_loop_rounds 4 ?_
  rw [rounds_succ]
  go_wp2_with fail
  refine (rc_at 0 c1 c2 c3 _ _ (by decide) (by decide) (by exact rfl) (by exact HS.out)).mono ?_
  rintro e w' ⟨rfl, n0, rfl⟩
  go_wp2_with fail
  rw [rounds_succ]
  go_wp2_with fail
  refine (rc_at 1 c4 c5 c6 _ _ (by decide) (by decide) (by exact rfl) (by exact HS.out)).mono ?_
  rintro e w' ⟨rfl, n1, rfl⟩
  go_wp2_with fail
  rw [rounds_succ]
  go_wp2_with fail
  refine (rc_at 2 c7 c8 c9 _ _ (by decide) (by decide) (by exact rfl) (by exact HS.out)).mono ?_
  rintro e w' ⟨rfl, n2, rfl⟩
  go_wp2_with fail
  rw [rounds_succ]
  go_wp2_with fail
  refine (show_any K (rdm c1 c2 c3 c4 c5 c6 c7 c8 c9) _ (by exact HS.out)).mono ?_
  rintro e w' ⟨rfl, hbelow⟩
  have hb := HB.out
  have hn' : decide (K < 0) = false := by simpa using hn
  go_wp2
  go_ret3
  exact ⟨rfl, below_left hbelow⟩
set_option maxHeartbeats 2000000 in
theorem read_yes (c0 c1 c2 c3 c4 c5 c6 c7 c8 c9 : UInt8) (K : Int) (w : World) (hS : SignsAt w) (hk : rdk c0 = K) (hn : 0 ≤ K) (hb : sh K (rdm c1 c2 c3 c4 c5 c6 c7 c8 c9) = ⟨#[c0, c1, c2, c3, c4, c5, c6, c7, c8, c9]⟩) : Calls Tryd.prog 12 #[.string ⟨#[c0, c1, c2, c3, c4, c5, c6, c7, c8, c9]⟩] w fun e w' => e = .returned (.tuple #[.int .i64 K, .int .i64 (rdm c1 c2 c3 c4 c5 c6 c7 c8 c9), .bool true]) ∧ Below w.heap.size w w' := by
  have HK := Lib.hid hk
  have HS := Lib.hid hS
  have HB := Lib.hid (toList_eq (l := [c0, c1, c2, c3, c4, c5, c6, c7, c8, c9]) hb)
  clear hk hS hb
  go_enter Tryd.func12, Tryd.ntmps12
  go_wp2_with (go_at_call 26; refine (index_kind _ K _ HK.out).mono ?_; rintro e w' ⟨rfl, rfl⟩)
  refine wp_loop_rounds 4 ?_
  rw [rounds_succ]
  go_wp2_with fail
  refine (rc_at 0 c1 c2 c3 _ _ (by decide) (by decide) (by exact rfl) (by exact HS.out)).mono ?_
  rintro e w' ⟨rfl, n0, rfl⟩
  go_wp2_with fail
  rw [rounds_succ]
  go_wp2_with fail
  refine (rc_at 1 c4 c5 c6 _ _ (by decide) (by decide) (by exact rfl) (by exact HS.out)).mono ?_
  rintro e w' ⟨rfl, n1, rfl⟩
  go_wp2_with fail
  rw [rounds_succ]
  go_wp2_with fail
  refine (rc_at 2 c7 c8 c9 _ _ (by decide) (by decide) (by exact rfl) (by exact HS.out)).mono ?_
  rintro e w' ⟨rfl, n2, rfl⟩
  go_wp2_with fail
  rw [rounds_succ]
  go_wp2_with fail
  refine (show_any K (rdm c1 c2 c3 c4 c5 c6 c7 c8 c9) _ (by exact HS.out)).mono ?_
  rintro e w' ⟨rfl, hbelow⟩
  have hb := HB.out
  have hn' : decide (K < 0) = false := by simpa using hn
  go_wp2
  go_ret3
  exact ⟨rfl, below_left hbelow⟩
end Go.Proofs.YtnjgecdhgfiilaaDoor
