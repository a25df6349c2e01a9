/-
  What strings.IndexByte and the functions of package modes that make one sign (kindSign, sign, lastSign) answer; lastSign under the condition that the package's table of signs holds what its initialiser lays.
-/
import Derived.Test.YtnjgecdhgfiilaaDoorInts
import Derived.Lib.Strings
import Derived.Lib.Slices
import Derived.Lib.Walk
import Derived.Lib.Bytealg
namespace Go.Proofs.YtnjgecdhgfiilaaDoor
open Go Go.RowKit

set_option maxRecDepth 100000 in
theorem index_lite (s : ByteArray) (c : Int) (w : World) :
    Calls Tryd.prog 34 #[.string s, .int .u8 c] w fun e w' => e = .returned (.int .i64 (Lib.indexByte s.data.toList c.toNat.toUInt8)) ∧ w = w' := by
  go_enter Tryd.func34, Tryd.ntmps34
  go_wp2
  rw [run_callFunc_extern Tryd.func35 (by kernel_rfl) (by kernel_rfl) (by kernel_rfl) (e := Extern.BytealgIndexByte.indexByte) (by kernel_rfl), Lib.run_indexByteString]
  simp only [Result.andThen]
  rw [Oper.upon_value]
  go_wp2
  go_ret
  exact ⟨rfl, rfl⟩
theorem index_byte (s : ByteArray) (c : Int) (w : World) :
    Calls Tryd.prog 26 #[.string s, .int .u8 c] w fun e w' => e = .returned (.int .i64 (Lib.indexByte s.data.toList c.toNat.toUInt8)) ∧ w = w' := by
  go_enter Tryd.func26, Tryd.ntmps26
  go_wp2_with (go_at_call 34; refine (index_lite _ _ _).mono ?_; rintro e w' ⟨rfl, rfl⟩)
  go_ret
  exact ⟨rfl, rfl⟩

/-- The sign of a kind. -/
def ksg (k : Int) : Int := if k = 1 then 45 else if k = 2 then 100 else if k = 3 then 108 else 63
theorem kindSign_any (k : Int) (w : World) : Calls Tryd.prog 21 #[.int .i64 k] w fun e w' => e = .returned (.int .u8 (ksg k)) ∧ w = w' := by
  by_cases h0 : k < 0
  · have e : Hid (ksg k = 63) := Lib.hid (by unfold ksg; rw [if_neg (by omega), if_neg (by omega), if_neg (by omega)])
    go_enter Tryd.func21, Tryd.ntmps21
    go_wp2
    go_ret
    exact ⟨ret_int e.out.symm, rfl⟩
  by_cases h1 : 4 ≤ k
  · have e : Hid (ksg k = 63) := Lib.hid (by unfold ksg; rw [if_neg (by omega), if_neg (by omega), if_neg (by omega)])
    go_enter Tryd.func21, Tryd.ntmps21
    go_wp2
    go_ret
    exact ⟨ret_int e.out.symm, rfl⟩
  obtain rfl | rfl | rfl | rfl : k = 0 ∨ k = 1 ∨ k = 2 ∨ k = 3 := by omega
  all_goals
    go_enter Tryd.func21, Tryd.ntmps21
    go_wp2
    go_ret
    exact ⟨rfl, rfl⟩
theorem sign_any (b : Bool) (l : Int) (w : World) : Calls Tryd.prog 22 #[.bool b, .int .u8 l] w fun e w' => e = .returned (.int .u8 (bif b then l else 45)) ∧ w = w' := by
  cases b
  all_goals
    go_enter Tryd.func22, Tryd.ntmps22
    go_wp2
    go_ret
    exact ⟨rfl, rfl⟩

def S0 : ByteArray := ⟨#[45, 120, 83, 115]⟩
def S2 : ByteArray := ⟨#[45, 120, 84, 116]⟩
/-- The table of signs holds what its initialiser lays. -/
def SignsAt (w : World) : Prop := 0 < w.heap.size ∧ w.cell? ⟨0, 0, none⟩ = some (.string ⟨#[45, 120, 83, 115]⟩) ∧ w.cell? ⟨0, 1, none⟩ = some (.string ⟨#[45, 120, 83, 115]⟩) ∧ w.cell? ⟨0, 2, none⟩ = some (.string ⟨#[45, 120, 84, 116]⟩)
/-- The bit beyond R, W and X that is shown in a class. -/
def own (m k : Int) : Int := if k = 0 then m / 2048 % 2 else if k = 1 then m / 1024 % 2 else m / 512 % 2
/-- What stands in the third place of a class. -/
def lst (m k : Int) : Int := if own m k = 1 then (if k = 2 then (if m % 2 = 1 then 116 else 84) else (if cls m k % 2 = 1 then 115 else 83)) else (if cls m k % 2 = 1 then 120 else 45)

theorem own_bd (m k : Int) : own m k = 0 ∨ own m k = 1 := by unfold own; repeat' split
                                                             all_goals omega
theorem bit_true (x : Int) (c : Int) (hc : 0 < c) (h : x = 1) : (x * c != 0) = true := by subst h; simp; omega
theorem bit_false (x : Int) (c : Int) (h : x = 0) : (x * c != 0) = false := by subst h; simp
theorem lastSign0 (m : Int) (w : World) (h : SignsAt w) : Calls Tryd.prog 23 #[.int .i64 m, .int .i64 0] w fun e w' => e = .returned (.int .u8 (lst m 0)) ∧ w = w' := by
  have hl := h.2.1
  clear h
  have X1 : bits .and .i64 (cls m 0) 1 = cls m 0 % 2 := and1 _
  have X2 : (bits .and .i64 m 2048 != 0) = (own m 0 * 2048 != 0) := by rw [and2048]; simp [own]
  rcases own_bd m 0 with ho | ho <;> rcases (by omega : cls m 0 % 2 = 0 ∨ cls m 0 % 2 = 1) with hx | hx
  all_goals
    rw [hx] at X1
    first | rw [bit_true _ 2048 (by omega) ho] at X2 | rw [bit_false _ 2048 ho] at X2
    have O := Lib.hid ho
    have C := Lib.hid hx
    clear ho hx
    go_enter Tryd.func23, Tryd.ntmps23
    go_wp2_with (first | (go_at_call 17; refine (class_any _ _ _).mono ?_; rintro e w' ⟨rfl, rfl⟩) | (go_at_call 32; refine (ownBit0 _).mono ?_; rintro e w' ⟨rfl, rfl⟩))
    go_ret
    exact ⟨ret_int (by have := O.out; have := C.out; simp_all [lst, cls]; rfl), rfl⟩
theorem lastSign1 (m : Int) (w : World) (h : SignsAt w) : Calls Tryd.prog 23 #[.int .i64 m, .int .i64 1] w fun e w' => e = .returned (.int .u8 (lst m 1)) ∧ w = w' := by
  have hl := h.2.2.1
  clear h
  have X1 : bits .and .i64 (cls m 1) 1 = cls m 1 % 2 := and1 _
  have X2 : (bits .and .i64 m 1024 != 0) = (own m 1 * 1024 != 0) := by rw [and1024]; simp [own]
  rcases own_bd m 1 with ho | ho <;> rcases (by omega : cls m 1 % 2 = 0 ∨ cls m 1 % 2 = 1) with hx | hx
  all_goals
    rw [hx] at X1
    first | rw [bit_true _ 1024 (by omega) ho] at X2 | rw [bit_false _ 1024 ho] at X2
    have O := Lib.hid ho
    have C := Lib.hid hx
    clear ho hx
    go_enter Tryd.func23, Tryd.ntmps23
    go_wp2_with (first | (go_at_call 17; refine (class_any _ _ _).mono ?_; rintro e w' ⟨rfl, rfl⟩) | (go_at_call 32; refine (ownBit1 _).mono ?_; rintro e w' ⟨rfl, rfl⟩))
    go_ret
    exact ⟨ret_int (by have := O.out; have := C.out; simp_all [lst, cls]; rfl), rfl⟩
theorem lastSign2 (m : Int) (w : World) (h : SignsAt w) : Calls Tryd.prog 23 #[.int .i64 m, .int .i64 2] w fun e w' => e = .returned (.int .u8 (lst m 2)) ∧ w = w' := by
  have hl := h.2.2.2
  clear h
  have X1 : bits .and .i64 (cls m 2) 1 = cls m 2 % 2 := and1 _
  have X2 : (bits .and .i64 m 512 != 0) = (own m 2 * 512 != 0) := by rw [and512]; simp [own]
  rcases own_bd m 2 with ho | ho <;> rcases (by omega : cls m 2 % 2 = 0 ∨ cls m 2 % 2 = 1) with hx | hx
  all_goals
    rw [hx] at X1
    first | rw [bit_true _ 512 (by omega) ho] at X2 | rw [bit_false _ 512 ho] at X2
    have O := Lib.hid ho
    have C := Lib.hid hx
    clear ho hx
    go_enter Tryd.func23, Tryd.ntmps23
    go_wp2_with (first | (go_at_call 17; refine (class_any _ _ _).mono ?_; rintro e w' ⟨rfl, rfl⟩) | (go_at_call 32; refine (ownBit2 _).mono ?_; rintro e w' ⟨rfl, rfl⟩))
    go_ret
    exact ⟨ret_int (by have := O.out; have := C.out; simp_all [lst, cls]; rfl), rfl⟩
end Go.Proofs.YtnjgecdhgfiilaaDoor
