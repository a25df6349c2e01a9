/-
  What the document's own answers for cred are (package gaolerref04): Member, Class, Can, MayOwn, without, Mode, Written, Sticky. The condition: no more groups than a million.
-/
import Derived.Test.YtnbpglaklhfgmaaCan
namespace Go.Proofs.Ytnbpglaklhfgmaa
open Go Go.RowKit

set_option maxHeartbeats 1000000 in
theorem rbit_any (n i : Nat) (w : World) (hn : n ≤ 1000000) (hi : i ≤ 100) : Calls Try.prog 32 #[.int .i64 (n : Int), .int .i64 (i : Int)] w fun e w' => e = .returned (.bool (n.testBit i)) ∧ w = w' := by
  obtain ⟨R, hR⟩ : ∃ R, n.testBit i = R := ⟨_, rfl⟩
  have HR := Lib.hid hR
  rw [hR]
  clear hR
  go_enter Try.func32, Try.ntmps32
  go_wp2
  go_loop [0, 5] (fun x k => ∃ (j y : Nat), j ≤ i ∧ k = .int .i64 j ∧ x = .int .i64 (y : Int) ∧ y = n / 2 ^ j) (fun _ k => i - (intOf k).toNat)
  case atStart => exact ⟨0, n, Nat.zero_le _, rfl, rfl, by simp⟩
  case round =>
    obtain ⟨j, y, hj, rfl, rfl, hy⟩ := hrel
    have HY := Lib.hid hy
    have y1 : y ≤ 1000000 := by rw [hy]; exact Nat.le_trans (Nat.div_le_self _ _) hn
    clear hy
    by_cases hlt : j < i
    · have HN := Lib.hid (show y / 2 = n / 2 ^ (j + 1) by rw [HY.out, Nat.div_div_eq_div_mul, Nat.pow_succ])
      go_wp2
      go_round
      case rel => exact ⟨j + 1, y / 2, by omega, by go_num, by go_num, HN.out⟩
      case measure => simp [intOf]; omega
    · have HF := Lib.hid (show R = decide ((y : Int) % 2 = 1) by
        rw [← HR.out, Nat.testBit_eq_decide_div_mod_eq, HY.out, show j = i by omega]
        congr 1
        rw [eq_iff_iff]
        omega)
      go_wp2
      go_ret
      exact ⟨ret_bool (by rw [HF.out]; rfl), rfl⟩
/-- A mode without a bit. -/
def clr (m b : Int) : Int := m - m / b % 2 * b
theorem without_any (m : Int) (i : Nat) (b : Int) (w : World) (h0 : 0 ≤ m) (h1 : m < 4096) (hib : i = 10 ∧ b = 1024 ∨ i = 11 ∧ b = 2048) : Calls Try.prog 35 #[.int .i64 m, .int .i64 (i : Int), .int .i64 b] w fun e w' => e = .returned (.int .i64 (clr m b)) ∧ w = w' := by
  obtain ⟨m, rfl⟩ := Int.eq_ofNat_of_zero_le h0
  have hm : m < 4096 := by omega
  have HT := Lib.hid (rbit_any m i w (by omega) (by omega))
  obtain ⟨T, hT⟩ : ∃ T, m.testBit i = T := ⟨_, rfl⟩
  rw [hT] at HT
  rw [Nat.testBit_eq_decide_div_mod_eq] at hT
  have hb : b ≤ 2048 ∧ 0 ≤ b := by omega
  have HV := Lib.hid (show (if T = true then (m : Int) - b else m) = clr m b by
    subst hT
    unfold clr
    rcases hib with ⟨rfl, rfl⟩ | ⟨rfl, rfl⟩
    · by_cases hq : m / 2 ^ 10 % 2 = 1
      · rw [if_pos (by simpa using hq)]; omega
      · rw [if_neg (by simpa using hq)]; omega
    · by_cases hq : m / 2 ^ 11 % 2 = 1
      · rw [if_pos (by simpa using hq)]; omega
      · rw [if_neg (by simpa using hq)]; omega)
  clear hT
  obtain ⟨R, hR⟩ : ∃ R, clr (m : Int) b = R := ⟨_, rfl⟩
  rw [hR] at HV ⊢
  clear hR hib
  cases T with
  | true =>
    go_enter Try.func35, Try.ntmps35
    go_wp2_with fail
    refine HT.out.mono ?_
    rintro e w' ⟨rfl, rfl⟩
    go_wp2
    go_ret
    exact ⟨ret_int HV.out, rfl⟩
  | false =>
    go_enter Try.func35, Try.ntmps35
    go_wp2_with fail
    refine HT.out.mono ?_
    rintro e w' ⟨rfl, rfl⟩
    go_wp2
    go_ret
    exact ⟨ret_int HV.out, rfl⟩

theorem bcomm (x y : Int) : (x == y) = (y == x) := by rw [Bool.eq_iff_iff, beq_iff_eq, beq_iff_eq]; exact eq_comm
theorem has_snoc {l : List Int} {k : Nat} {x y : Int} (h : l[k]? = some y) : (l.take (k + 1)).contains x = ((l.take k).contains x || y == x) := by
  rw [take_snoc' h, List.contains_append, bcomm y x]
  simp only [List.contains_cons, List.contains_nil, Bool.or_false]
/-- What a slice of numbers is at its places. -/
theorem IntsR.at {w : World} {A : Option Addr} {n c : Nat} {gs : List Int} (h : IntsR w (.slice A n c) gs) : n = gs.length ∧ ∀ (k : Nat) (g : Int), gs[k]? = some g → ∃ ad, A = some ad ∧ w.cell? (ad.add k) = some (.int .i64 g) := by
  obtain ⟨A', c', hv, hc⟩ := h
  injection hv with hA hn hc'
  subst hA
  exact ⟨hn, hc⟩
set_option maxHeartbeats 1000000 in
theorem rmember_any (u g : Int) (A : Option Addr) (n c : Nat) (gs : List Int) (x : Int) (w : World) (h : IntsR w (.slice A n c) gs) (hn : gs.length ≤ 1000000) :
    Calls Try.prog 12 #[.agg #[.int .i64 u, .int .i64 g, .slice A n c], .int .i64 x] w fun e w' => e = .returned (.bool (x == g || gs.contains x)) ∧ Below w.heap.size w w' := by
  have hb : Below w.heap.size w (w.alloc (.cells #[.int .i64 u, .int .i64 g, .slice A n c] 26)) := ba _ _
  have HG := Lib.hid (h.below hb)
  have HB := Lib.hid hb
  clear hb
  obtain ⟨rfl, -⟩ := h.at
  clear h
  obtain ⟨R, hR⟩ : ∃ R, (x == g || gs.contains x) = R := ⟨_, rfl⟩
  rw [hR]
  have HR := Lib.hid hR
  clear hR
  go_enter Try.func12, Try.ntmps12
  go_wp2
  have k2 : (w.alloc (.cells #[.int .i64 u, .int .i64 g, .slice A gs.length c] 26)).cell? ⟨w.heap.size, 2, none⟩ = some (.slice A gs.length c) := by simp
  generalize w.alloc (.cells #[.int .i64 u, .int .i64 g, .slice A gs.length c] 26) = W at k2 HG HB ⊢
  go_loopg [5, 6] gs.length (fun gh s5 s6 wr => ∃ (k : Nat) (b : Bool), s6 = .int .i64 k ∧ s5 = .bool b ∧ k ≤ gs.length ∧ gh = gs.length - k ∧ b = (x == g || (gs.take k).contains x) ∧ W = wr)
  case atStart => exact ⟨0, g == x, rfl, rfl, Nat.zero_le _, rfl, by rw [bcomm]; simp, rfl⟩
  case round =>
    obtain ⟨k, b, rfl, rfl, hk, rfl, hno, rfl⟩ := hrel
    have HNO := Lib.hid hno
    clear hno
    by_cases hlt : k < gs.length
    · obtain ⟨y, hy⟩ : ∃ y, gs[k]? = some y := ⟨_, List.getElem?_eq_getElem hlt⟩
      obtain ⟨ad, rfl, c0⟩ := HG.out.at.2 k y hy
      have HY := Lib.hid hy
      clear hy
      cases b with
      | true =>
        go_wp2
        go_roundg (gs.length - (k + 1))
        case measure => omega
        case rel => exact ⟨k + 1, true, by go_num, rfl, by omega, rfl, by rw [has_snoc HY.out, ← Bool.or_assoc, ← HNO.out]; rfl, rfl⟩
      | false =>
        go_wp2
        go_roundg (gs.length - (k + 1))
        case measure => omega
        case rel => exact ⟨k + 1, y == x, by go_num, rfl, by omega, rfl, by rw [has_snoc HY.out, ← Bool.or_assoc, ← HNO.out]; rfl, rfl⟩
    · have hke : k = gs.length := by omega
      subst hke
      have HF := Lib.hid (show b = R by rw [HNO.out, ← HR.out, List.take_length])
      go_wp2
      go_ret
      exact ⟨ret_bool HF.out, HB.out⟩
theorem rclassOf_any (u g : Int) (A : Option Addr) (n c : Nat) (gs : List Int) (x y : Int) (w : World) (h : IntsR w (.slice A n c) gs) (hn : gs.length ≤ 1000000) :
    Calls Try.prog 14 #[.agg #[.int .i64 u, .int .i64 g, .slice A n c], .int .i64 x, .int .i64 y] w fun e w' => e = .returned (.int .i64 (clsOf u g gs x y)) ∧ Below w.heap.size w w' := by
  have hb : Below w.heap.size w (w.alloc (.cells #[.int .i64 u, .int .i64 g, .slice A n c] 26)) := ba _ _
  have HM := Lib.hid (rmember_any u g A n c gs y _ (h.below hb) hn)
  have HB := Lib.hid hb
  clear h hb
  unfold clsOf
  obtain ⟨R, hR⟩ : ∃ R, (y == g || gs.contains y) = R := ⟨_, rfl⟩
  rw [hR] at HM ⊢
  clear hR
  by_cases hx : x = u
  · subst hx
    rw [if_pos rfl]
    go_enter Try.func14, Try.ntmps14
    go_wp2
    go_ret
    exact ⟨rfl, HB.out⟩
  · rw [if_neg hx]
    have hx' : (u == x) = false := by rw [bcomm]; simpa using hx
    clear hx
    cases R with
    | true =>
      go_enter Try.func14, Try.ntmps14
      go_wp2_with fail
      refine HM.out.mono ?_
      rintro e w2 ⟨rfl, hb2⟩
      have HB2 := Lib.hid hb2
      clear hb2
      go_wp2
      go_ret
      exact ⟨rfl, bt HB2.out HB.out⟩
    | false =>
      go_enter Try.func14, Try.ntmps14
      go_wp2_with fail
      refine HM.out.mono ?_
      rintro e w2 ⟨rfl, hb2⟩
      have HB2 := Lib.hid hb2
      clear hb2
      go_wp2
      go_ret
      exact ⟨rfl, bt HB2.out HB.out⟩
/-- What is let, told by three bits. -/
def letsN (v b : Int) : Bool := (decide (v < 4) || decide (4 ≤ b)) && (v / 2 % 2 == 0 || b / 2 % 2 == 1) && (v % 2 == 0 || b % 2 == 1)
theorem lets_fin : ∀ v b : Fin 8, (bits .andNot .i64 ((v.val : Nat) : Int) ((b.val : Nat) : Int) == 0) = letsN ((v.val : Nat) : Int) ((b.val : Nat) : Int) := by decide +kernel
theorem lets_eq (want b : Int) (h0 : 0 ≤ b) (h1 : b ≤ 7) : lets want b = letsN (want % 8) b := by
  have h := lets_fin ⟨(want % 8).toNat, by omega⟩ ⟨b.toNat, by omega⟩
  simp only [show (((want % 8).toNat : Nat) : Int) = want % 8 by omega, show ((b.toNat : Nat) : Int) = b by omega] at h
  unfold lets
  rw [and7, h]
set_option maxHeartbeats 4000000 in
theorem rcan_any (u g : Int) (A : Option Addr) (n c : Nat) (gs : List Int) (x y m want : Int) (w : World) (h : IntsR w (.slice A n c) gs) (hn : gs.length ≤ 1000000) :
    Calls Try.prog 16 #[.agg #[.int .i64 u, .int .i64 g, .slice A n c], .int .i64 x, .int .i64 y, .int .i64 m, .int .i64 want] w fun e w' => e = .returned (.bool (u == 0 || lets want (cls m (clsOf u g gs x y)))) ∧ Below w.heap.size w w' := by
  have hb : Below w.heap.size w (w.alloc (.cells #[.int .i64 u, .int .i64 g, .slice A n c] 26)) := ba _ _
  have HM := Lib.hid (rclassOf_any u g A n c gs x y _ (h.below hb) hn)
  have HB := Lib.hid hb
  clear h hb
  obtain ⟨K, hK⟩ : ∃ K, clsOf u g gs x y = K := ⟨_, rfl⟩
  rw [hK] at HM ⊢
  clear hK
  have hc0 := (cls_bd m K).1
  have hc1 := (cls_bd m K).2
  rw [lets_eq want _ hc0 hc1]
  have HC := Lib.hid (fun w => rclass_any m K w)
  have HW := Lib.hid (fun w => rclass_any want 2 w)
  rw [show cls want 2 = want % 8 by simp [cls]] at HW
  have hv0 : 0 ≤ want % 8 := by omega
  have hv1 : want % 8 ≤ 7 := by omega
  generalize cls m K = b at HC hc0 hc1 ⊢
  generalize want % 8 = v at HW hv0 hv1 ⊢
  by_cases hu : u = 0
  · subst hu
    go_enter Try.func16, Try.ntmps16
    go_wp2
    go_ret
    exact ⟨rfl, HB.out⟩
  · have hu' : (u == 0) = false := by simpa using hu
    rw [hu', Bool.false_or]
    clear hu
    go_enter Try.func16, Try.ntmps16
    go_wp2_with fail
    refine HM.out.mono ?_
    rintro e w2 ⟨rfl, hb2⟩
    have HB2 := Lib.hid (bt hb2 HB.out)
    clear hb2
    go_wp2_with fail
    refine (HC.out _).mono ?_
    rintro e w3 ⟨rfl, rfl⟩
    go_wp2_with fail
    refine (HW.out _).mono ?_
    rintro e w3 ⟨rfl, rfl⟩
    clear HC HW HM
    obtain rfl | rfl | rfl | rfl | rfl | rfl | rfl | rfl : v = 0 ∨ v = 1 ∨ v = 2 ∨ v = 3 ∨ v = 4 ∨ v = 5 ∨ v = 6 ∨ v = 7 := by omega
    all_goals clear hv0 hv1
    all_goals obtain rfl | rfl | rfl | rfl | rfl | rfl | rfl | rfl : b = 0 ∨ b = 1 ∨ b = 2 ∨ b = 3 ∨ b = 4 ∨ b = 5 ∨ b = 6 ∨ b = 7 := by omega
    all_goals
      go_wp2
      go_ret
      exact ⟨rfl, HB2.out⟩
end Go.Proofs.Ytnbpglaklhfgmaa
