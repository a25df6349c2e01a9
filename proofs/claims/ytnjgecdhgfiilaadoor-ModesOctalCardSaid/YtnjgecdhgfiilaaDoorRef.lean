/-
  What the reference's Show, Octal and their helpers answer, for every kind and mode. No condition.
-/
import Derived.Test.YtnjgecdhgfiilaaDoorReadOctal
namespace Go.Proofs.YtnjgecdhgfiilaaDoor
open Go Go.RowKit

theorem conv1 (w : World) (a : Int) (T : TypeId) (c : Nat) : (convert 40 9 (.slice (some ⟨w.heap.size, 0, none⟩) 1 c)).run Tryd.prog (w.alloc (.cells #[.int .u8 a] T)) = .ok (.string (str [a])) (w.alloc (.cells #[.int .u8 a] T)) := by
  rw [run_convert_bytes_string _ 40 9 5 _ _ _ Tryd.underlying40 Tryd.underlying5 Tryd.underlying9]
  have hl := run_loadCells_list (P := Tryd.prog) (w.alloc (.cells #[.int .u8 a] T)) ⟨w.heap.size, 0, none⟩ ([a].map (Value.int .u8)) (fun j u hj => by
    rw [Addr.add_lit, Nat.zero_add, World.cell?_alloc_mark]
    simpa using hj)
  rw [show (1 : Nat) = ([a].map (Value.int .u8)).length from rfl, run_bytesToString _ _ _ _ [a] hl, foldl_push]
  have he0 : ByteArray.empty.data = #[] := rfl
  rw [he0]
  simp [str]
theorem ret_str {a b : ByteArray} (h : a = b) : Ending.returned (.string a) = .returned (.string b) := by rw [h]
theorem digit_any (n : Int) (w : World) (h0 : 0 ≤ n) (h1 : n < 8) : Calls Tryd.prog 28 #[.int .i64 n] w fun e w' => e = .returned (.string ⟨#[UInt8.ofNat (48 + n).toNat]⟩) ∧ Below w.heap.size w w' := by
  have hw : (48 + n) % 256 = 48 + n := by omega
  go_enter Tryd.func28, Tryd.ntmps28
  go_wp2
  rw [conv1]
  simp only [Result.andThen]
  rw [Oper.upon_value]
  go_wp2
  go_ret
  exact ⟨rfl, (Below.refl _ _).alloc (Nat.le_refl _) _⟩

theorem rsign_any (b : Bool) (y n : ByteArray) (w : World) : Calls Tryd.prog 33 #[.bool b, .string y, .string n] w fun e w' => e = .returned (.string (bif b then y else n)) ∧ w = w' := by
  cases b
  all_goals
    go_enter Tryd.func33, Tryd.ntmps33
    go_wp2
    go_ret
    exact ⟨rfl, rfl⟩
/-- A class's three signs, as bytes. -/
def rB (b : Int) : UInt8 := if b / 4 % 2 = 1 then 114 else 45
def wB (b : Int) : UInt8 := if b / 2 % 2 = 1 then 119 else 45
def xB (b : Int) (is : Bool) (y n : UInt8) : UInt8 := if is = true then (if b % 2 = 1 then y else n) else (if b % 2 = 1 then 120 else 45)
set_option maxHeartbeats 2000000 in
theorem three_any (b : Int) (is : Bool) (y n : UInt8) (w : World) (h0 : 0 ≤ b) (h1 : b < 8) : Calls Tryd.prog 25 #[.int .i64 b, .bool is, .string ⟨#[y]⟩, .string ⟨#[n]⟩] w fun e w' => e = .returned (.string ⟨#[rB b, wB b, xB b is y n]⟩) ∧ w = w' := by
  obtain rfl | rfl | rfl | rfl | rfl | rfl | rfl | rfl : b = 0 ∨ b = 1 ∨ b = 2 ∨ b = 3 ∨ b = 4 ∨ b = 5 ∨ b = 6 ∨ b = 7 := by omega
  all_goals cases is
  all_goals
    go_enter Tryd.func25, Tryd.ntmps25
    go_wp2_with (go_at_call 33; refine (rsign_any _ _ _ _).mono ?_; rintro e w' ⟨rfl, rfl⟩)
    go_ret
    exact ⟨ret_str (by apply ByteArray.ext; simp [ByteArray.data_append, rB, wB, xB]), rfl⟩

def kB (k : Int) : UInt8 := if k = 1 then 45 else if k = 2 then 100 else if k = 3 then 108 else 63
theorem of_if (p : Prop) [Decidable p] (a b : Int) : UInt8.ofNat (if p then a else b).toNat = if p then UInt8.ofNat a.toNat else UInt8.ofNat b.toNat := by split <;> rfl
theorem sh_bytes (kind m : Int) : sh kind m = ⟨#[kB kind, rB (cls m 0), wB (cls m 0), xB (cls m 0) (own m 0 == 1) 115 83, rB (cls m 1), wB (cls m 1), xB (cls m 1) (own m 1 == 1) 115 83, rB (cls m 2), wB (cls m 2), xB (cls m 2) (own m 2 == 1) 116 84]⟩ := by
  have h2 : cls m 2 % 2 = m % 2 := by simp [cls]
  simp only [sh, str, pre, tri, List.cons_append, List.nil_append, List.map_cons, List.map_nil, ksg, lst, of_if]
  simp [kB, rB, wB, xB, h2]
theorem show_of (kind m : Int) (c : UInt8) (hc : kB kind = c) : (⟨#[c]⟩ : ByteArray) ++ ⟨#[rB (cls m 0), wB (cls m 0), xB (cls m 0) (m % 4096 / 512 / 4 == 1) 115 83]⟩ ++ ⟨#[rB (cls m 1), wB (cls m 1), xB (cls m 1) (m % 4096 / 512 / 2 % 2 == 1) 115 83]⟩ ++ ⟨#[rB (cls m 2), wB (cls m 2), xB (cls m 2) (m % 4096 / 512 % 2 == 1) 116 84]⟩ = sh kind m := by
  have e0 : m % 4096 / 512 / 4 = own m 0 := by simp [own]; omega
  have e1 : m % 4096 / 512 / 2 % 2 = own m 1 := by simp [own]; omega
  have e2 : m % 4096 / 512 % 2 = own m 2 := by simp [own]; omega
  rw [sh_bytes, hc, e0, e1, e2]
  apply ByteArray.ext
  simp [ByteArray.data_append]
set_option maxHeartbeats 2000000 in
theorem rshow_any (kind m : Int) (w : World) : Calls Tryd.prog 11 #[.int .i64 kind, .int .i64 m] w fun e w' => e = .returned (.string (sh kind m)) ∧ w = w' := by
  have hb0 : 0 ≤ m % 4096 := by omega
  have hb1 : m % 4096 ≤ 4095 := by omega
  have d0 := cls_bd m 0
  have d1 := cls_bd m 1
  have d2 := cls_bd m 2
  obtain ⟨V, hV⟩ : ∃ V, sh kind m = V := ⟨_, rfl⟩
  have HV := Lib.hid hV
  rw [hV]
  clear hV
  by_cases k1 : kind = 1
  · subst k1
    have KB := Lib.hid (show kB 1 = 45 from rfl)
    go_enter Tryd.func11, Tryd.ntmps11
    go_wp2_with (first | (go_at_call 24; refine (low_any _ _).mono ?_; rintro e w' ⟨rfl, rfl⟩) | (go_at_call 18; refine (rclass_any _ _ _).mono ?_; rintro e w' ⟨rfl, rfl⟩) | (go_at_call 25; refine (three_any _ _ _ _ _ (by omega) (by omega)).mono ?_; rintro e w' ⟨rfl, rfl⟩))
    go_ret
    exact ⟨ret_str ((show_of _ m 45 KB.out).trans HV.out), rfl⟩
  by_cases k2 : kind = 2
  · subst k2
    have KB := Lib.hid (show kB 2 = 100 from rfl)
    go_enter Tryd.func11, Tryd.ntmps11
    go_wp2_with (first | (go_at_call 24; refine (low_any _ _).mono ?_; rintro e w' ⟨rfl, rfl⟩) | (go_at_call 18; refine (rclass_any _ _ _).mono ?_; rintro e w' ⟨rfl, rfl⟩) | (go_at_call 25; refine (three_any _ _ _ _ _ (by omega) (by omega)).mono ?_; rintro e w' ⟨rfl, rfl⟩))
    go_ret
    exact ⟨ret_str ((show_of _ m 100 KB.out).trans HV.out), rfl⟩
  by_cases k3 : kind = 3
  · subst k3
    have KB := Lib.hid (show kB 3 = 108 from rfl)
    go_enter Tryd.func11, Tryd.ntmps11
    go_wp2_with (first | (go_at_call 24; refine (low_any _ _).mono ?_; rintro e w' ⟨rfl, rfl⟩) | (go_at_call 18; refine (rclass_any _ _ _).mono ?_; rintro e w' ⟨rfl, rfl⟩) | (go_at_call 25; refine (three_any _ _ _ _ _ (by omega) (by omega)).mono ?_; rintro e w' ⟨rfl, rfl⟩))
    go_ret
    exact ⟨ret_str ((show_of _ m 108 KB.out).trans HV.out), rfl⟩
  have KB := Lib.hid (show kB kind = 63 by unfold kB; rw [if_neg k1, if_neg k2, if_neg k3])
  have f1 : ((kind : Int) == 1) = false := by rw [beq_eq_false_iff_ne]; exact k1
  have f2 : ((kind : Int) == 2) = false := by rw [beq_eq_false_iff_ne]; exact k2
  have f3 : ((kind : Int) == 3) = false := by rw [beq_eq_false_iff_ne]; exact k3
  go_enter Tryd.func11, Tryd.ntmps11
  go_wp2_with (first | (go_at_call 24; refine (low_any _ _).mono ?_; rintro e w' ⟨rfl, rfl⟩) | (go_at_call 18; refine (rclass_any _ _ _).mono ?_; rintro e w' ⟨rfl, rfl⟩) | (go_at_call 25; refine (three_any _ _ _ _ _ (by omega) (by omega)).mono ?_; rintro e w' ⟨rfl, rfl⟩))
  go_ret
  exact ⟨ret_str ((show_of _ m 63 KB.out).trans HV.out), rfl⟩
theorem oct_bytes (m : Int) : str (oct m) = ⟨#[UInt8.ofNat (48 + m % 4096 / 512).toNat]⟩ ++ ⟨#[UInt8.ofNat (48 + cls m 0).toNat]⟩ ++ ⟨#[UInt8.ofNat (48 + cls m 1).toNat]⟩ ++ ⟨#[UInt8.ofNat (48 + cls m 2).toNat]⟩ := by
  have e0 : m % 4096 / 512 = m / 512 % 8 := by omega
  apply ByteArray.ext
  simp [ByteArray.data_append, str, oct, cls, e0]
set_option maxHeartbeats 2000000 in
theorem roctal_any (m : Int) (w : World) : Calls Tryd.prog 16 #[.int .i64 m] w fun e w' => e = .returned (.string (str (oct m))) ∧ Below w.heap.size w w' := by
  have hb0 : 0 ≤ m % 4096 := by omega
  have hb1 : m % 4096 ≤ 4095 := by omega
  have d0 := cls_bd m 0
  have d1 := cls_bd m 1
  have d2 := cls_bd m 2
  rw [oct_bytes]
  go_enter Tryd.func16, Tryd.ntmps16
  go_wp2_with (first | (go_at_call 24; refine (low_any _ _).mono ?_; rintro e w' ⟨rfl, rfl⟩) | (go_at_call 18; refine (rclass_any _ _ _).mono ?_; rintro e w' ⟨rfl, rfl⟩))
  refine (digit_any _ _ (by omega) (by omega)).mono ?_
  rintro e w1 ⟨rfl, hb1'⟩
  have HB1 := Lib.hid hb1'
  clear hb1'
  go_wp2_with (first | (go_at_call 18; refine (rclass_any _ _ _).mono ?_; rintro e w' ⟨rfl, rfl⟩))
  refine (digit_any _ _ (by omega) (by omega)).mono ?_
  rintro e w2 ⟨rfl, hb2'⟩
  have HB2 := Lib.hid (HB1.out.trans (hb2'.mono HB1.out.size))
  clear hb2'
  go_wp2_with (first | (go_at_call 18; refine (rclass_any _ _ _).mono ?_; rintro e w' ⟨rfl, rfl⟩))
  refine (digit_any _ _ (by omega) (by omega)).mono ?_
  rintro e w3 ⟨rfl, hb3'⟩
  have HB3 := Lib.hid (HB2.out.trans (hb3'.mono HB2.out.size))
  clear hb3'
  go_wp2_with (first | (go_at_call 18; refine (rclass_any _ _ _).mono ?_; rintro e w' ⟨rfl, rfl⟩))
  refine (digit_any _ _ (by omega) (by omega)).mono ?_
  rintro e w4 ⟨rfl, hb4'⟩
  have HB4 := Lib.hid (HB3.out.trans (hb4'.mono HB3.out.size))
  clear hb4'
  go_wp2
  go_ret
  exact ⟨rfl, HB4.out⟩
end Go.Proofs.YtnjgecdhgfiilaaDoor
