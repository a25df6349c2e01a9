/-
  The reference's Can. The condition: no more groups than a million.
-/
import Derived.Test.YtilepnepcamnaaaGreatCR
import Derived.WalkKit
import Derived.Lib.Hide
import Derived.Deep.QuietTactic
import Derived.BigQuiet
namespace Go.Proofs.YtilepnepcamnaaaGreat
open Go Go.RowKit
set_option maxRecDepth 100000

/-- The mode whose class k has other bits. -/
def wit (m k b : Int) : Int := if k = 0 then m % 4096 - m / 64 % 8 * 64 + b % 8 * 64 else if k = 1 then m % 4096 - m / 8 % 8 * 8 + b % 8 * 8 else if k = 2 then m % 4096 - m % 8 + b % 8 else m % 4096

theorem wit0 (m b : Int) : bits .or .i64 (bits .andNot .i64 (bits .and .i64 m 4095) 448) (wrap64 (bits .and .i64 b 7 * 64)) = wit m 0 b := by
  rw [and4095, and7, (clear_own _ (by omega) (by omega)).1, wrap_in _ (by omega) (by omega), put_high _ _ (by omega) (by omega) (by omega) (by omega) (by omega)]
  simp [wit]
  omega
theorem wit1 (m b : Int) : bits .or .i64 (bits .andNot .i64 (bits .and .i64 m 4095) 56) (wrap64 (bits .and .i64 b 7 * 8)) = wit m 1 b := by
  rw [and4095, and7, (clear_own _ (by omega) (by omega)).2.1, wrap_in _ (by omega) (by omega), put_own _ _ (by omega) (by omega) (by omega) (by omega) (by omega)]
  simp [wit]
  omega
theorem wit2 (m b : Int) : bits .or .i64 (bits .andNot .i64 (bits .and .i64 m 4095) 7) (wrap64 (bits .and .i64 b 7)) = wit m 2 b := by
  rw [and4095, and7, (clear_own _ (by omega) (by omega)).2.2, wrap_in _ (by omega) (by omega), put_low _ _ (by omega) (by omega) (by omega) (by omega) (by omega)]
  simp [wit]
theorem rest_any (n b : Int) (w : World) (h0 : b = 8 ∨ b = 4096) : Calls Tryz.prog 139 #[.int .i64 n, .int .i64 b] w fun e w' => e = .returned (.int .i64 (n % b)) ∧ w = w' := by
  by_cases hn : n.tmod b < 0
  · rcases h0 with rfl | rfl
    all_goals
      go_enter Tryz.func139, Tryz.ntmps139
      go_wp2
      go_ret
      exact ⟨ret_int (rest_neg n _ (by omega) hn), rfl⟩
  · rcases h0 with rfl | rfl
    all_goals
      go_enter Tryz.func139, Tryz.ntmps139
      go_wp2
      go_ret
      exact ⟨ret_int (rest_pos n _ (by omega) hn), rfl⟩
theorem low_any (n : Int) (w : World) : Calls Tryz.prog 115 #[.int .i64 n] w fun e w' => e = .returned (.int .i64 (n % 4096)) ∧ w = w' := by
  go_enter Tryz.func115, Tryz.ntmps115
  go_wp2_with (go_at_call 139; refine (rest_any _ _ _ (by omega)).mono ?_; rintro e w' ⟨rfl, rfl⟩)
  go_ret
  exact ⟨rfl, rfl⟩
theorem rclass_any (m k : Int) (w : World) : Calls Tryz.prog 86 #[.int .i64 m, .int .i64 k] w fun e w' => e = .returned (.int .i64 (cls m k)) ∧ w = w' := by
  have hb0 : 0 ≤ m % 4096 := by omega
  have hb1 : m % 4096 ≤ 4095 := by omega
  by_cases k0 : k = 0
  · subst k0
    go_enter Tryz.func86, Tryz.ntmps86
    go_wp2_with (go_at_call 115; refine (low_any _ _).mono ?_; rintro e w' ⟨rfl, rfl⟩)
    go_ret
    exact ⟨ret_int (by simp [cls]; omega), rfl⟩
  by_cases k1 : k = 1
  · subst k1
    go_enter Tryz.func86, Tryz.ntmps86
    go_wp2_with (go_at_call 115; refine (low_any _ _).mono ?_; rintro e w' ⟨rfl, rfl⟩)
    go_ret
    exact ⟨ret_int (by simp [cls]; omega), rfl⟩
  by_cases k2 : k = 2
  · subst k2
    go_enter Tryz.func86, Tryz.ntmps86
    go_wp2_with (go_at_call 115; refine (low_any _ _).mono ?_; rintro e w' ⟨rfl, rfl⟩)
    go_ret
    exact ⟨ret_int (by simp [cls]), rfl⟩
  · have e : Hid (cls m k = 0) := Lib.hid (by unfold cls; rw [if_neg k0, if_neg k1, if_neg k2])
    go_enter Tryz.func86, Tryz.ntmps86
    go_wp2_with (go_at_call 115; refine (low_any _ _).mono ?_; rintro e w' ⟨rfl, rfl⟩)
    go_ret
    exact ⟨ret_int e.out.symm, rfl⟩
end Go.Proofs.YtilepnepcamnaaaGreat
namespace Go.Proofs.YtilepnepcamnaaaGreat
open Go Go.RowKit
set_option maxRecDepth 100000

theorem bcomm (x y : Int) : (x == y) = (y == x) := by rw [Bool.eq_iff_iff, beq_iff_eq, beq_iff_eq]; exact eq_comm
theorem has_snoc {l : List Int} {k : Nat} {x y : Int} (h : l[k]? = some y) : (l.take (k + 1)).contains x = ((l.take k).contains x || y == x) := by
  rw [take_snoc' h, List.contains_append, bcomm y x]
  simp only [List.contains_cons, List.contains_nil, Bool.or_false]
/-- What a slice of numbers is at its places. -/
theorem IntsR.at {w : World} {A : Option Addr} {n c : Nat} {gs : List Int} (h : IntsR w (.slice A n c) gs) : n = gs.length ∧ ∀ (k : Nat) (g : Int), gs[k]? = some g → ∃ ad, A = some ad ∧ w.cell? (ad.add k) = some (.int .i64 g) := by
  obtain ⟨A', c', hv, hc⟩ := h
  injection hv with hA hn hc'
  subst hA
  exact ⟨hn, hc⟩
set_option maxHeartbeats 1000000 in
theorem rmember_any (u g : Int) (A : Option Addr) (n c : Nat) (gs : List Int) (x : Int) (w : World) (h : IntsR w (.slice A n c) gs) (hn : gs.length ≤ 1000000) :
    Calls Tryz.prog 116 #[.agg #[.int .i64 u, .int .i64 g, .slice A n c], .int .i64 x] w fun e w' => e = .returned (.bool (x == g || gs.contains x)) ∧ Below w.heap.size w w' := by
  have hb : Below w.heap.size w (w.alloc (.cells #[.int .i64 u, .int .i64 g, .slice A n c] 42)) := ba _ _
  have HG := Lib.hid (h.below hb)
  have HB := Lib.hid hb
  clear hb
  obtain ⟨rfl, -⟩ := h.at
  clear h
  obtain ⟨R, hR⟩ : ∃ R, (x == g || gs.contains x) = R := ⟨_, rfl⟩
  rw [hR]
  have HR := Lib.hid hR
  clear hR
  go_enter Tryz.func116, Tryz.ntmps116
  go_wp2
  have k2 : (w.alloc (.cells #[.int .i64 u, .int .i64 g, .slice A gs.length c] 42)).cell? ⟨w.heap.size, 2, none⟩ = some (.slice A gs.length c) := by simp
  generalize w.alloc (.cells #[.int .i64 u, .int .i64 g, .slice A gs.length c] 42) = W at k2 HG HB ⊢
  go_loopg [5, 6] gs.length (fun gh s5 s6 wr => ∃ (k : Nat) (b : Bool), s6 = .int .i64 k ∧ s5 = .bool b ∧ k ≤ gs.length ∧ gh = gs.length - k ∧ b = (x == g || (gs.take k).contains x) ∧ W = wr)
  case atStart => exact ⟨0, g == x, rfl, rfl, Nat.zero_le _, rfl, by rw [bcomm]; simp, rfl⟩
  case round =>
    obtain ⟨k, b, rfl, rfl, hk, rfl, hno, rfl⟩ := hrel
    have HNO := Lib.hid hno
    clear hno
    by_cases hlt : k < gs.length
    · obtain ⟨y, hy⟩ : ∃ y, gs[k]? = some y := ⟨_, List.getElem?_eq_getElem hlt⟩
      obtain ⟨ad, rfl, c0⟩ := HG.out.at.2 k y hy
      have HY := Lib.hid hy
      clear hy
      cases b with
      | true =>
        go_wp2
        go_roundg (gs.length - (k + 1))
        case measure => omega
        case rel => exact ⟨k + 1, true, by go_num, rfl, by omega, rfl, by rw [has_snoc HY.out, ← Bool.or_assoc, ← HNO.out]; rfl, rfl⟩
      | false =>
        go_wp2
        go_roundg (gs.length - (k + 1))
        case measure => omega
        case rel => exact ⟨k + 1, y == x, by go_num, rfl, by omega, rfl, by rw [has_snoc HY.out, ← Bool.or_assoc, ← HNO.out]; rfl, rfl⟩
    · have hke : k = gs.length := by omega
      subst hke
      have HF := Lib.hid (show b = R by rw [HNO.out, ← HR.out, List.take_length])
      go_wp2
      go_ret
      exact ⟨ret_bool HF.out, HB.out⟩
theorem rclassOf_any (u g : Int) (A : Option Addr) (n c : Nat) (gs : List Int) (x y : Int) (w : World) (h : IntsR w (.slice A n c) gs) (hn : gs.length ≤ 1000000) :
    Calls Tryz.prog 87 #[.agg #[.int .i64 u, .int .i64 g, .slice A n c], .int .i64 x, .int .i64 y] w fun e w' => e = .returned (.int .i64 (clsOf u g gs x y)) ∧ Below w.heap.size w w' := by
  have hb : Below w.heap.size w (w.alloc (.cells #[.int .i64 u, .int .i64 g, .slice A n c] 42)) := ba _ _
  have HM := Lib.hid (rmember_any u g A n c gs y _ (h.below hb) hn)
  have HB := Lib.hid hb
  clear h hb
  unfold clsOf
  obtain ⟨R, hR⟩ : ∃ R, (y == g || gs.contains y) = R := ⟨_, rfl⟩
  rw [hR] at HM ⊢
  clear hR
  by_cases hx : x = u
  · subst hx
    rw [if_pos rfl]
    go_enter Tryz.func87, Tryz.ntmps87
    go_wp2
    go_ret
    exact ⟨rfl, HB.out⟩
  · rw [if_neg hx]
    have hx' : (u == x) = false := by rw [bcomm]; simpa using hx
    clear hx
    cases R with
    | true =>
      go_enter Tryz.func87, Tryz.ntmps87
      go_wp2_with fail
      refine HM.out.mono ?_
      rintro e w2 ⟨rfl, hb2⟩
      have HB2 := Lib.hid hb2
      clear hb2
      go_wp2
      go_ret
      exact ⟨rfl, bt HB2.out HB.out⟩
    | false =>
      go_enter Tryz.func87, Tryz.ntmps87
      go_wp2_with fail
      refine HM.out.mono ?_
      rintro e w2 ⟨rfl, hb2⟩
      have HB2 := Lib.hid hb2
      clear hb2
      go_wp2
      go_ret
      exact ⟨rfl, bt HB2.out HB.out⟩
/-- What is let, told by three bits. -/
def letsN (v b : Int) : Bool := (decide (v < 4) || decide (4 ≤ b)) && (v / 2 % 2 == 0 || b / 2 % 2 == 1) && (v % 2 == 0 || b % 2 == 1)
theorem lets_fin : ∀ v b : Fin 8, (bits .andNot .i64 ((v.val : Nat) : Int) ((b.val : Nat) : Int) == 0) = letsN ((v.val : Nat) : Int) ((b.val : Nat) : Int) := by decide +kernel
theorem lets_eq (want b : Int) (h0 : 0 ≤ b) (h1 : b ≤ 7) : lets want b = letsN (want % 8) b := by
  have h := lets_fin ⟨(want % 8).toNat, by omega⟩ ⟨b.toNat, by omega⟩
  simp only [show (((want % 8).toNat : Nat) : Int) = want % 8 by omega, show ((b.toNat : Nat) : Int) = b by omega] at h
  unfold lets
  rw [and7, h]
set_option maxHeartbeats 4000000 in
theorem rcan_any (u g : Int) (A : Option Addr) (n c : Nat) (gs : List Int) (x y m want : Int) (w : World) (h : IntsR w (.slice A n c) gs) (hn : gs.length ≤ 1000000) :
    Calls Tryz.prog 61 #[.agg #[.int .i64 u, .int .i64 g, .slice A n c], .int .i64 x, .int .i64 y, .int .i64 m, .int .i64 want] w fun e w' => e = .returned (.bool (u == 0 || lets want (cls m (clsOf u g gs x y)))) ∧ Below w.heap.size w w' := by
  have hb : Below w.heap.size w (w.alloc (.cells #[.int .i64 u, .int .i64 g, .slice A n c] 42)) := ba _ _
  have HM := Lib.hid (rclassOf_any u g A n c gs x y _ (h.below hb) hn)
  have HB := Lib.hid hb
  clear h hb
  obtain ⟨K, hK⟩ : ∃ K, clsOf u g gs x y = K := ⟨_, rfl⟩
  rw [hK] at HM ⊢
  clear hK
  have hc0 := (cls_bd m K).1
  have hc1 := (cls_bd m K).2
  rw [lets_eq want _ hc0 hc1]
  have HC := Lib.hid (fun w => rclass_any m K w)
  have HW := Lib.hid (fun w => rclass_any want 2 w)
  rw [show cls want 2 = want % 8 by simp [cls]] at HW
  have hv0 : 0 ≤ want % 8 := by omega
  have hv1 : want % 8 ≤ 7 := by omega
  generalize cls m K = b at HC hc0 hc1 ⊢
  generalize want % 8 = v at HW hv0 hv1 ⊢
  by_cases hu : u = 0
  · subst hu
    go_enter Tryz.func61, Tryz.ntmps61
    go_wp2
    go_ret
    exact ⟨rfl, HB.out⟩
  · have hu' : (u == 0) = false := by simpa using hu
    rw [hu', Bool.false_or]
    clear hu
    go_enter Tryz.func61, Tryz.ntmps61
    go_wp2_with fail
    refine HM.out.mono ?_
    rintro e w2 ⟨rfl, hb2⟩
    have HB2 := Lib.hid (bt hb2 HB.out)
    clear hb2
    go_wp2_with fail
    refine (HC.out _).mono ?_
    rintro e w3 ⟨rfl, rfl⟩
    go_wp2_with fail
    refine (HW.out _).mono ?_
    rintro e w3 ⟨rfl, rfl⟩
    clear HC HW HM
    obtain rfl | rfl | rfl | rfl | rfl | rfl | rfl | rfl : v = 0 ∨ v = 1 ∨ v = 2 ∨ v = 3 ∨ v = 4 ∨ v = 5 ∨ v = 6 ∨ v = 7 := by omega
    all_goals clear hv0 hv1
    all_goals obtain rfl | rfl | rfl | rfl | rfl | rfl | rfl | rfl : b = 0 ∨ b = 1 ∨ b = 2 ∨ b = 3 ∨ b = 4 ∨ b = 5 ∨ b = 6 ∨ b = 7 := by omega
    all_goals
      go_wp2
      go_ret
      exact ⟨rfl, HB2.out⟩
end Go.Proofs.YtilepnepcamnaaaGreat
