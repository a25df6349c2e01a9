/-
  Package prune's Free, Below, find, findPlace, replaceFault and moveFault: what they answer. The conditions are said at each.
-/
import Derived.Test.YtnkjaocmfhjnoaaGreatE13
import Derived.Deep.RegionHeld3
import Derived.Deep.RegionWith
namespace Go.Proofs.YtnkjaocmfhjnoaaGreat
open Go Go.RowKit
set_option maxRecDepth 100000

attribute [local go_sem] cell_off4 cell_blk4
theorem qinL_con (l : List Int) (n : Int) : inL l n = l.contains n := by
  unfold inL
  rw [Bool.eq_iff_iff]
  simp
theorem par_nought {t : List Nd} (ho : okT t) : parF t 0 = 0 := par_none (link_zero.2 (fun j => Classical.byContradiction (fun q => by
  obtain ⟨e, he, h0⟩ := cnt_pos.1 q
  have := ok_pos ho he
  omega)))
theorem blw_step {t : List Nd} (ho : okT t) (d : Int) : ∀ (k : Nat) (i : Int), blw t d (k + 1) i = if i = d then true else blw t d k (parF t i)
  | 0, i => by
    show (if i = d then true else if i = 0 then false else blw t d 0 (parF t i)) = _
    by_cases h1 : i = d
    · rw [if_pos h1, if_pos h1]
    · rw [if_neg h1, if_neg h1]
      by_cases h2 : i = 0
      · rw [if_pos h2, h2, par_nought ho]
        show false = ((0 : Int) == d)
        rw [h2] at h1
        exact (beq_false_of_ne h1).symm
      · rw [if_neg h2]
  | k + 1, i => by
    show (if i = d then true else if i = 0 then false else blw t d (k + 1) (parF t i)) = _
    by_cases h1 : i = d
    · rw [if_pos h1, if_pos h1]
    · rw [if_neg h1, if_neg h1]
      by_cases h2 : i = 0
      · rw [if_pos h2, h2, par_nought ho, blw_step ho d k 0, par_nought ho]
        rw [h2] at h1
        rw [if_neg h1]
        have h3 : ∀ m, blw t d m 0 = false := fun m => by
          cases m with
          | zero => exact beq_false_of_ne h1
          | succ m => show (if (0 : Int) = d then true else if (0 : Int) = 0 then false else blw t d m (parF t 0)) = false; rw [if_neg h1, if_pos rfl]
        exact (h3 k).symm
      · rw [if_neg h2]
set_option maxHeartbeats 8000000 in
theorem qfree_no (v : Value) (t : List Nd) (i : Int) (op : List Int) (A1 : Option Addr) (n1 k1 : Nat) (w : World) (h : TabP w v t) (hop : IntsR w (.slice A1 n1 k1) op) (hol : op.length ≤ 1000) (hB : frB t i op = false) :
    Calls Tryz.prog 114 #[v, .int .i64 i, .slice A1 n1 k1] w fun e w' => e = .returned (.bool false) ∧ Below w.heap.size w w' := by
  have HLK := Lib.hid (show Calls Tryz.prog 156 #[v, .int .i64 i] w fun e w' => e = .returned (.int .i64 (linkT t i : Int)) ∧ Below w.heap.size w w' from links_any v t i w h)
  have HIN := Lib.hid (fun (W : World) (hb : Below w.heap.size w W) => show Calls Tryz.prog 157 #[.slice A1 n1 k1, .int .i64 i] W fun e w' => e = .returned (.bool (op.contains i)) ∧ W = w' from by have h1 := scontains_any (.slice A1 n1 k1) op i W (hop.below hb) hol; rw [qinL_con] at h1; exact h1)
  by_cases q1 : i = 1
  · have y1 : (i == 1) = true := by simpa using q1
    clear h hop hol hB q1
    go_enter Tryz.func114, Tryz.ntmps114
    go_wp2
    go_ret
    exact ⟨rfl, Below.refl _ _⟩
  have y1 : (i == 1) = false := by simpa using q1
  unfold frB at hB
  rw [decide_eq_true q1, Bool.true_and] at hB
  have HDN := Lib.hid (fun (W : World) (hb : Below w.heap.size w W) (hi : tis t i = false) => drop_none v t i W (h.below hb) hi)
  obtain ⟨L, hL⟩ : ∃ L, linkT t i = L := ⟨_, rfl⟩
  rw [hL] at HLK hB
  clear hL h hop hol q1
  by_cases q2 : L = 0
  · have y2 : ¬ (L : Int) > 0 := by omega
    rw [decide_eq_true q2, Bool.true_and] at hB
    clear q2
    obtain ⟨C, hC⟩ : ∃ C, op.contains i = C := ⟨_, rfl⟩
    rw [hC] at HIN hB
    clear hC
    have HB := Lib.hid hB
    clear hB
    go_enter Tryz.func114, Tryz.ntmps114
    go_wp2_with fail
    refine HLK.out.mono ?_
    rintro e w1 ⟨rfl, hb1⟩
    have J1 := Lib.hid hb1
    clear hb1
    go_wp2_with fail
    refine (HIN.out w1 J1.out).mono ?_
    rintro e w2 ⟨rfl, rfl⟩
    cases C with
    | true =>
      go_wp2
      go_ret
      exact ⟨rfl, J1.out⟩
    | false =>
      have hi : tis t i = false := by have h1 := HB.out; simpa using h1
      have HD := Lib.hid (HDN.out w1 J1.out hi)
      clear hi
      go_wp2_with fail
      refine HD.out.mono ?_
      rintro e w3 ⟨rfl, hb3⟩
      have J3 := Lib.hid (bt hb3 J1.out)
      clear hb3
      go_wp2
      go_ret
      exact ⟨rfl, J3.out⟩
  · have y2 : (L : Int) > 0 := by omega
    clear q2 hB
    go_enter Tryz.func114, Tryz.ntmps114
    go_wp2_with fail
    refine HLK.out.mono ?_
    rintro e w1 ⟨rfl, hb1⟩
    go_wp2
    go_ret
    exact ⟨rfl, hb1⟩
set_option maxHeartbeats 8000000 in
theorem qfree_yes (g : Nat) (t : List Nd) (P : Nat → Prop) (i : Int) (op : List Int) (A1 : Option Addr) (n1 k1 : Nat) (w : World) (h : TabR w g t P) (hop : IntsR w (.slice A1 n1 k1) op) (hol : op.length ≤ 1000) (hB : frB t i op = true) :
    Calls Tryz.prog 114 #[.pointer (some ⟨g, 0, none⟩), .int .i64 i, .slice A1 n1 k1] w fun e w' => e = .returned (.bool true) ∧ TabR w' g (setT t i Nd.zero) P ∧ w.grownBy w' (some g) := by
  have HLK := Lib.hid (show Calls Tryz.prog 156 #[.pointer (some ⟨g, 0, none⟩), .int .i64 i] w fun e w' => e = .returned (.int .i64 (linkT t i : Int)) ∧ Below w.heap.size w w' from links_any _ t i w h.ptr)
  have HIN := Lib.hid (fun (W : World) (hb : Below w.heap.size w W) => show Calls Tryz.prog 157 #[.slice A1 n1 k1, .int .i64 i] W fun e w' => e = .returned (.bool (op.contains i)) ∧ W = w' from by have h1 := scontains_any (.slice A1 n1 k1) op i W (hop.below hb) hol; rw [qinL_con] at h1; exact h1)
  unfold frB at hB
  simp only [Bool.and_eq_true, decide_eq_true_eq, Bool.not_eq_true'] at hB
  obtain ⟨q1, q2, q3, q4⟩ := hB
  have y1 : (i == 1) = false := by simpa using q1
  rw [q2] at HLK
  rw [q3] at HIN
  have HD := Lib.hid (fun (W : World) (hb : Below w.heap.size w W) => show Calls Tryz.prog 27 #[.pointer (some ⟨g, 0, none⟩), .int .i64 i] W fun e w' => e = .returned (.bool true) ∧ TabR w' g (setT t i Nd.zero) P ∧ W.grownBy w' (some g) from by
    have h1 := drop_any g t P i W (h.below hb) 2 (by decide) (by decide) Nd.zero true
    rw [q4, actT, if_neg (by decide), if_neg (by decide), if_pos q4] at h1
    exact h1)
  clear h hop hol q1 q2 q3 q4
  go_enter Tryz.func114, Tryz.ntmps114
  go_wp2_with fail
  refine HLK.out.mono ?_
  rintro e w1 ⟨rfl, hb1⟩
  have J1 := Lib.hid hb1
  clear hb1
  go_wp2_with fail
  refine (HIN.out w1 J1.out).mono ?_
  rintro e w2 ⟨rfl, rfl⟩
  go_wp2_with fail
  refine (HD.out w1 J1.out).mono ?_
  rintro e w3 ⟨rfl, ht, hg⟩
  have HE := Lib.hid (And.intro ht (grown_trans (grown_below J1.out _) hg))
  clear ht hg
  go_wp2
  go_ret
  exact ⟨rfl, HE.out⟩
theorem qfree_any (g : Nat) (t : List Nd) (P : Nat → Prop) (i : Int) (op : List Int) (A1 : Option Addr) (n1 k1 : Nat) (w : World) (h : TabR w g t P) (hop : IntsR w (.slice A1 n1 k1) op) (hol : op.length ≤ 1000) :
    Calls Tryz.prog 114 #[.pointer (some ⟨g, 0, none⟩), .int .i64 i, .slice A1 n1 k1] w fun e w' => e = .returned (.bool (frB t i op)) ∧ TabR w' g (frT t i op) P ∧ w.grownBy w' (some g) := by
  unfold frT
  cases hB : frB t i op with
  | false =>
    refine (qfree_no _ t i op A1 n1 k1 w h.ptr hop hol hB).mono ?_
    rintro e w' ⟨rfl, hb⟩
    exact ⟨rfl, by rw [if_neg (by decide)]; exact h.below hb, grown_below hb _⟩
  | true =>
    refine (qfree_yes g t P i op A1 n1 k1 w h hop hol hB).mono ?_
    rintro e w' ⟨rfl, h1, h2⟩
    exact ⟨rfl, by rw [if_pos rfl]; exact h1, h2⟩
set_option maxHeartbeats 8000000 in
theorem qblw_any (v : Value) (t : List Nd) (i dir : Int) (w : World) (h : TabP w v t) :
    Calls Tryz.prog 178 #[v, .int .i64 i, .int .i64 dir] w fun e w' => e = .returned (.bool (blwB t i dir)) ∧ Below w.heap.size w w' := by
  have HP := Lib.hid (fun (W : World) (hb : Below w.heap.size w W) (j : Int) => show Calls Tryz.prog 201 #[v, .int .i64 j] W fun e w' => e = .returned (.int .i64 (parF t j)) ∧ Below W.heap.size W w' from parent_any v t j W (h.below hb))
  have HO := Lib.hid h.ok.1
  obtain ⟨X, hX⟩ : ∃ X, blwB t i dir = X := ⟨_, rfl⟩
  have HX := Lib.hid (show blw t dir (24 - 0) i = X from hX)
  rw [hX]
  clear h hX
  go_enter Tryz.func178, Tryz.ntmps178
  go_wp2
  go_loopg [1, 7] 24 (fun gh s1 s7 wr => ∃ (k : Nat) (j : Int), s7 = .int .i64 (k : Int) ∧ s1 = .int .i64 j ∧ k ≤ 24 ∧ gh = 24 - k ∧ blw t dir (24 - k) j = X ∧ Below w.heap.size w wr)
  case atStart => exact ⟨0, i, rfl, rfl, by decide, rfl, HX.out, Below.refl _ _⟩
  case round =>
    obtain ⟨k, j, rfl, rfl, hk, rfl, hx, hbr⟩ := hrel
    have HJ := Lib.hid hx
    have HBR := Lib.hid hbr
    clear hx hbr
    by_cases hlt : k < 24
    · have hlt' : (k : Int) < 24 := by omega
      have hj := HJ.out
      rw [show 24 - k = (24 - (k + 1)) + 1 by omega, blw_step HO.out] at hj
      by_cases q1 : j = dir
      · have y1 : (j == dir) = true := by simpa using q1
        rw [if_pos q1] at hj
        have HZ := Lib.hid hj
        clear hj q1
        go_wp2
        go_ret
        exact ⟨ret_bool HZ.out, HBR.out⟩
      have y1 : (j == dir) = false := by simpa using q1
      rw [if_neg q1] at hj
      have HZ := Lib.hid hj
      have HC := Lib.hid (HP.out wr HBR.out j)
      generalize parF t j = pj at HZ HC
      clear hj q1
      go_wp2_with fail
      refine HC.out.mono ?_
      rintro e w3 ⟨rfl, hb3⟩
      have HB3 := Lib.hid (bt hb3 HBR.out)
      clear hb3
      go_wp2
      go_roundg (24 - (k + 1))
      case measure => omega
      case rel => exact ⟨k + 1, pj, by go_num, rfl, by omega, rfl, HZ.out, HB3.out⟩
    · have hlt' : ¬ (k : Int) < 24 := by omega
      have hj := HJ.out
      rw [show 24 - k = 0 by omega, blw] at hj
      have HZ := Lib.hid hj
      clear hj
      go_wp2
      go_ret
      exact ⟨ret_bool HZ.out, HBR.out⟩
def fnF (t : List Nd) (c : Wh) (R : Fo × Int) : Fo := if fnE t c R = 0 then R.1 else Fo.zero
def fpE (t : List Nd) (c : Wh) (R : Fo × Int) : Int := if R.2 ≠ 0 then R.2 else if R.1.name = [] then 22 else if canT t c R.1.dir 3 = false then 13 else 0
def fpF (t : List Nd) (c : Wh) (R : Fo × Int) : Fo := if fpE t c R = 0 then R.1 else Fo.zero
set_option maxHeartbeats 8000000 in
theorem qfind_any (v : Value) (t : List Nd) (c : Wh) (A0 : Option Addr) (m k : Nat) (p : Nm) (w : World) (h : TabP w v t) (hc : CrR w c A0 m k) (F : Fo) (E : Int) (hX : resM t c p false = (F, E)) :
    Calls Tryz.prog 141 #[v, .agg #[.int .i64 c.u, .int .i64 c.g, .slice A0 m k], .string (bA p)] w fun e w' => e = .returned (.tuple #[.agg #[.int .i64 (fnF t c (F, E)).dir, .string (bA (fnF t c (F, E)).name), .int .i64 (fnF t c (F, E)).node], .int .i64 (fnE t c (F, E))]) ∧ Below w.heap.size w w' := by
  obtain ⟨X, hXX⟩ : ∃ X, fnE t c (F, E) = X := ⟨_, rfl⟩
  obtain ⟨Y, hYY⟩ : ∃ Y, fnF t c (F, E) = Y := ⟨_, rfl⟩
  have hy : Y = if X = 0 then F else Fo.zero := by rw [← hYY, ← hXX]; rfl
  rw [hXX, hYY]
  have hx : X = if E ≠ 0 then E else if F.node = 0 then 2 else if F.name = [] then 22 else if canT t c F.dir 2 = false then 13 else if stkB t c F = false then 1 else 0 := hXX.symm
  have hb1 := ba w (.cells #[.int .i64 c.u, .int .i64 c.g, .slice A0 m k] 30)
  have h11 := Blk.new w 30 #[.int .i64 c.u, .int .i64 c.g, .slice A0 m k]
  obtain ⟨W1, hW1⟩ : ∃ W, w.alloc (.cells #[.int .i64 c.u, .int .i64 c.g, .slice A0 m k] 30) = W := ⟨_, rfl⟩
  rw [hW1] at hb1 h11
  have hb2 := al hb1 (.cells #[.int .i64 0, .string ⟨#[]⟩, .int .i64 0] 197)
  have h12 := h11.alloc (.cells #[.int .i64 0, .string ⟨#[]⟩, .int .i64 0] 197)
  have h22 := Blk.new W1 197 #[.int .i64 0, .string ⟨#[]⟩, .int .i64 0]
  obtain ⟨W2, hW2⟩ : ∃ W, W1.alloc (.cells #[.int .i64 0, .string ⟨#[]⟩, .int .i64 0] 197) = W := ⟨_, rfl⟩
  rw [hW2] at hb2 h12 h22
  obtain ⟨R, hzR⟩ : ∃ z, W1.heap.size = z := ⟨_, rfl⟩
  rw [hzR] at h22
  have hlR : w.heap.size ≤ R := by rw [← hzR]; exact hb1.size
  have HB2 := Lib.hid hb2
  have HLR := Lib.hid hlR
  have H1 := Lib.hid h12
  have H2 := Lib.hid h22
  have HT := Lib.hid (h.below hb2)
  have HC := Lib.hid (hc.below hb2)
  have HRS := Lib.hid (resolve_any v t c A0 m k p false W2 HT.out HC.out (F, E) hX)
  obtain ⟨k0, k1, k2⟩ := h12.c3
  clear h hc hlR hXX hYY hX hb1 hb2 h11 h12 h22
  go_enter Tryz.func141, Tryz.ntmps141
  go_wp2_with fail
  clear hW1 hW2 hzR
  refine HRS.out.mono ?_
  rintro e w4 ⟨rfl, hb4⟩
  have hbx := al hb4 (.cells #[.int .i64 F.dir, .string (bA F.name), .int .i64 F.node] 197)
  have hf4 := Blk.new w4 197 #[.int .i64 F.dir, .string (bA F.name), .int .i64 F.node]
  obtain ⟨W4, hW4⟩ : ∃ W, w4.alloc (.cells #[.int .i64 F.dir, .string (bA F.name), .int .i64 F.node] 197) = W := ⟨_, rfl⟩
  obtain ⟨y, hy4⟩ : ∃ y, w4.heap.size = y := ⟨_, rfl⟩
  rw [hW4] at hbx hf4
  rw [hy4] at hf4
  have HB4 := Lib.hid hbx
  have H4 := Lib.hid hf4
  have HCN := Lib.hid (fun (W : World) (hb : Below W4.heap.size W4 W) => rescan_any v t c A0 m k F.dir 2 W (HT.out.below (bt hb HB4.out)) (HC.out.below (bt hb HB4.out)))
  have HSK := Lib.hid (fun (W : World) (hb : Below W4.heap.size W4 W) => qmay_any v t c A0 m k F W (HT.out.below (bt hb HB4.out)))
  have hJ := Below.refl W4.heap.size W4
  clear hb4 hbx hf4 HRS k0 k1 k2
  obtain ⟨k0, k1, k2⟩ := (H1.out.below HB4.out).c3
  by_cases q0 : E = 0
  · have y0 : (E != 0) = false := by simpa using q0
    rw [if_neg (fun z => z q0)] at hx
    by_cases q1 : F.node = 0
    · have y1 : (F.node == 0) = true := by simpa using q1
      rw [if_pos q1] at hx
      have HX := Lib.hid (show X = 2 ∧ Y = Fo.zero from ⟨hx, by rw [hy, hx]; rfl⟩)
      clear hx hy q0 q1
      have hr := H2.out.below HB4.out
      have HE := Lib.hid (below_grown (bt HB4.out HB2.out) (grown3 W4 R (.int .i64 0) (.string ⟨#[]⟩) (.int .i64 0)) HLR.out)
      obtain ⟨r0, r1, r2⟩ := hr.c3
      obtain ⟨f0, f1, f2⟩ := hr.f3
      obtain ⟨s0, s1, s2⟩ := hr.s3
      obtain ⟨b0, b1, b2⟩ := (H4.out.below hJ).c3
      clear hr
      go_wp2
      exact bodyPost_ret (v := .tuple #[.agg #[.int .i64 0, .string ⟨#[]⟩, .int .i64 0], .int .i64 2]) (by simp [results, Tryz.results141, go_sem, s0, s1, s2]) rfl ⟨by rw [HX.out.1, HX.out.2]; rfl, HE.out⟩
    have y1 : (F.node == 0) = false := by simpa using q1
    rw [if_neg q1] at hx
    by_cases q2 : F.name = []
    · have y2 : ((bA F.name).toList == ([] : List UInt8)) = true := (len0_iff F.name).2 q2
      rw [if_pos q2] at hx
      have HX := Lib.hid (show X = 22 ∧ Y = Fo.zero from ⟨hx, by rw [hy, hx]; rfl⟩)
      clear hx hy q0 q1 q2
      have hr := H2.out.below HB4.out
      have HE := Lib.hid (below_grown (bt HB4.out HB2.out) (grown3 W4 R (.int .i64 0) (.string ⟨#[]⟩) (.int .i64 0)) HLR.out)
      obtain ⟨r0, r1, r2⟩ := hr.c3
      obtain ⟨f0, f1, f2⟩ := hr.f3
      obtain ⟨s0, s1, s2⟩ := hr.s3
      obtain ⟨b0, b1, b2⟩ := (H4.out.below hJ).c3
      clear hr
      go_wp2
      exact bodyPost_ret (v := .tuple #[.agg #[.int .i64 0, .string ⟨#[]⟩, .int .i64 0], .int .i64 22]) (by simp [results, Tryz.results141, go_sem, s0, s1, s2]) rfl ⟨by rw [HX.out.1, HX.out.2]; rfl, HE.out⟩
    have y2 : ((bA F.name).toList == ([] : List UInt8)) = false := ne_nil_of F.name q2
    rw [if_neg q2] at hx
    obtain ⟨b0, b1, b2⟩ := H4.out.c3
    have HX0 := Lib.hid (And.intro hx hy)
    clear hx hy q0 q1 q2
    obtain ⟨C, hC⟩ : ∃ C, canT t c F.dir 2 = C := ⟨_, rfl⟩
    rw [hC] at HCN HX0
    clear hC
    obtain ⟨K, hK⟩ : ∃ K, stkB t c F = K := ⟨_, rfl⟩
    rw [hK] at HSK HX0
    clear hK
    go_wp2_with fail
    clear hW4 hy4
    refine (HCN.out W4 hJ).mono ?_
    rintro e w5 ⟨rfl, hb5⟩
    have J5 := Lib.hid hb5
    have HB5 := Lib.hid (bt hb5 HB4.out)
    clear hb5 k0 k1 k2 b0 b1 b2
    obtain ⟨k0, k1, k2⟩ := (H1.out.below HB5.out).c3
    cases C with
    | false =>
      have HX := Lib.hid (show X = 13 ∧ Y = Fo.zero from by have h1 := HX0.out.1; rw [if_pos rfl] at h1; exact ⟨h1, by rw [HX0.out.2, h1]; rfl⟩)
      have hr := H2.out.below HB5.out
      have HE := Lib.hid (below_grown (bt HB5.out HB2.out) (grown3 w5 R (.int .i64 0) (.string ⟨#[]⟩) (.int .i64 0)) HLR.out)
      obtain ⟨r0, r1, r2⟩ := hr.c3
      obtain ⟨f0, f1, f2⟩ := hr.f3
      obtain ⟨s0, s1, s2⟩ := hr.s3
      obtain ⟨b0, b1, b2⟩ := (H4.out.below J5.out).c3
      clear hr
      go_wp2
      exact bodyPost_ret (v := .tuple #[.agg #[.int .i64 0, .string ⟨#[]⟩, .int .i64 0], .int .i64 13]) (by simp [results, Tryz.results141, go_sem, s0, s1, s2]) rfl ⟨by rw [HX.out.1, HX.out.2]; rfl, HE.out⟩
    | true =>
    obtain ⟨b0, b1, b2⟩ := (H4.out.below J5.out).c3
    go_wp2_with fail
    refine (HSK.out w5 J5.out).mono ?_
    rintro e w6 ⟨rfl, hb6⟩
    have J6 := Lib.hid (bt hb6 J5.out)
    have HB6 := Lib.hid (bt hb6 HB5.out)
    clear hb6 k0 k1 k2 b0 b1 b2
    cases K with
    | false =>
      have HX := Lib.hid (show X = 1 ∧ Y = Fo.zero from by have h1 := HX0.out.1; rw [if_neg (by decide), if_pos rfl] at h1; exact ⟨h1, by rw [HX0.out.2, h1]; rfl⟩)
      have hr := H2.out.below HB6.out
      have HE := Lib.hid (below_grown (bt HB6.out HB2.out) (grown3 w6 R (.int .i64 0) (.string ⟨#[]⟩) (.int .i64 0)) HLR.out)
      obtain ⟨r0, r1, r2⟩ := hr.c3
      obtain ⟨f0, f1, f2⟩ := hr.f3
      obtain ⟨s0, s1, s2⟩ := hr.s3
      obtain ⟨b0, b1, b2⟩ := (H4.out.below J6.out).c3
      clear hr
      go_wp2
      exact bodyPost_ret (v := .tuple #[.agg #[.int .i64 0, .string ⟨#[]⟩, .int .i64 0], .int .i64 1]) (by simp [results, Tryz.results141, go_sem, s0, s1, s2]) rfl ⟨by rw [HX.out.1, HX.out.2]; rfl, HE.out⟩
    | true =>
      have HX := Lib.hid (show X = 0 ∧ Y = F from by have h1 := HX0.out.1; rw [if_neg (by decide), if_neg (by decide)] at h1; exact ⟨h1, by rw [HX0.out.2, if_pos h1]⟩)
      have hr := H2.out.below HB6.out
      have HE := Lib.hid (below_grown (bt HB6.out HB2.out) (grown3 w6 R (.int .i64 F.dir) (.string (bA F.name)) (.int .i64 F.node)) HLR.out)
      obtain ⟨r0, r1, r2⟩ := hr.c3
      obtain ⟨f0, f1, f2⟩ := hr.f3
      obtain ⟨s0, s1, s2⟩ := hr.s3
      obtain ⟨b0, b1, b2⟩ := (H4.out.below J6.out).c3
      clear hr
      go_wp2
      exact bodyPost_ret (v := .tuple #[.agg #[.int .i64 F.dir, .string (bA F.name), .int .i64 F.node], .int .i64 0]) (by simp [results, Tryz.results141, go_sem, s0, s1, s2]) rfl ⟨by rw [HX.out.1, HX.out.2], HE.out⟩
  · have y0 : (E != 0) = true := by simpa using q0
    rw [if_pos q0] at hx
    have HX := Lib.hid (show X = E ∧ Y = Fo.zero from ⟨hx, by rw [hy, hx, if_neg q0]⟩)
    clear hx hy q0
    have hr := H2.out.below HB4.out
    have HE := Lib.hid (below_grown (bt HB4.out HB2.out) (grown3 W4 R (.int .i64 0) (.string ⟨#[]⟩) (.int .i64 0)) HLR.out)
    obtain ⟨r0, r1, r2⟩ := hr.c3
    obtain ⟨f0, f1, f2⟩ := hr.f3
    obtain ⟨s0, s1, s2⟩ := hr.s3
    obtain ⟨b0, b1, b2⟩ := (H4.out.below hJ).c3
    clear hr
    go_wp2
    exact bodyPost_ret (v := .tuple #[.agg #[.int .i64 0, .string ⟨#[]⟩, .int .i64 0], .int .i64 E]) (by simp [results, Tryz.results141, go_sem, s0, s1, s2]) rfl ⟨by rw [HX.out.1, HX.out.2]; rfl, HE.out⟩
set_option maxHeartbeats 8000000 in
theorem qplace_any (v : Value) (t : List Nd) (c : Wh) (A0 : Option Addr) (m k : Nat) (p : Nm) (w : World) (h : TabP w v t) (hc : CrR w c A0 m k) (F : Fo) (E : Int) (hX : resM t c p false = (F, E)) :
    Calls Tryz.prog 145 #[v, .agg #[.int .i64 c.u, .int .i64 c.g, .slice A0 m k], .string (bA p)] w fun e w' => e = .returned (.tuple #[.agg #[.int .i64 (fpF t c (F, E)).dir, .string (bA (fpF t c (F, E)).name), .int .i64 (fpF t c (F, E)).node], .int .i64 (fpE t c (F, E))]) ∧ Below w.heap.size w w' := by
  obtain ⟨X, hXX⟩ : ∃ X, fpE t c (F, E) = X := ⟨_, rfl⟩
  obtain ⟨Y, hYY⟩ : ∃ Y, fpF t c (F, E) = Y := ⟨_, rfl⟩
  have hy : Y = if X = 0 then F else Fo.zero := by rw [← hYY, ← hXX]; rfl
  rw [hXX, hYY]
  have hx : X = if E ≠ 0 then E else if F.name = [] then 22 else if canT t c F.dir 3 = false then 13 else 0 := hXX.symm
  have hb1 := ba w (.cells #[.int .i64 c.u, .int .i64 c.g, .slice A0 m k] 30)
  have h11 := Blk.new w 30 #[.int .i64 c.u, .int .i64 c.g, .slice A0 m k]
  obtain ⟨W1, hW1⟩ : ∃ W, w.alloc (.cells #[.int .i64 c.u, .int .i64 c.g, .slice A0 m k] 30) = W := ⟨_, rfl⟩
  rw [hW1] at hb1 h11
  have hb2 := al hb1 (.cells #[.int .i64 0, .string ⟨#[]⟩, .int .i64 0] 197)
  have h12 := h11.alloc (.cells #[.int .i64 0, .string ⟨#[]⟩, .int .i64 0] 197)
  have h22 := Blk.new W1 197 #[.int .i64 0, .string ⟨#[]⟩, .int .i64 0]
  obtain ⟨W2, hW2⟩ : ∃ W, W1.alloc (.cells #[.int .i64 0, .string ⟨#[]⟩, .int .i64 0] 197) = W := ⟨_, rfl⟩
  rw [hW2] at hb2 h12 h22
  obtain ⟨R, hzR⟩ : ∃ z, W1.heap.size = z := ⟨_, rfl⟩
  rw [hzR] at h22
  have hlR : w.heap.size ≤ R := by rw [← hzR]; exact hb1.size
  have HB2 := Lib.hid hb2
  have HLR := Lib.hid hlR
  have H1 := Lib.hid h12
  have H2 := Lib.hid h22
  have HT := Lib.hid (h.below hb2)
  have HC := Lib.hid (hc.below hb2)
  have HRS := Lib.hid (resolve_any v t c A0 m k p false W2 HT.out HC.out (F, E) hX)
  obtain ⟨k0, k1, k2⟩ := h12.c3
  clear h hc hlR hXX hYY hX hb1 hb2 h11 h12 h22
  go_enter Tryz.func145, Tryz.ntmps145
  go_wp2_with fail
  clear hW1 hW2 hzR
  refine HRS.out.mono ?_
  rintro e w4 ⟨rfl, hb4⟩
  have hbx := al hb4 (.cells #[.int .i64 F.dir, .string (bA F.name), .int .i64 F.node] 197)
  have hf4 := Blk.new w4 197 #[.int .i64 F.dir, .string (bA F.name), .int .i64 F.node]
  obtain ⟨W4, hW4⟩ : ∃ W, w4.alloc (.cells #[.int .i64 F.dir, .string (bA F.name), .int .i64 F.node] 197) = W := ⟨_, rfl⟩
  obtain ⟨y, hy4⟩ : ∃ y, w4.heap.size = y := ⟨_, rfl⟩
  rw [hW4] at hbx hf4
  rw [hy4] at hf4
  have HB4 := Lib.hid hbx
  have H4 := Lib.hid hf4
  have HCN := Lib.hid (fun (W : World) (hb : Below W4.heap.size W4 W) => rescan_any v t c A0 m k F.dir 3 W (HT.out.below (bt hb HB4.out)) (HC.out.below (bt hb HB4.out)))
  have hJ := Below.refl W4.heap.size W4
  clear hb4 hbx hf4 HRS k0 k1 k2
  obtain ⟨k0, k1, k2⟩ := (H1.out.below HB4.out).c3
  by_cases q0 : E = 0
  · have y0 : (E != 0) = false := by simpa using q0
    rw [if_neg (fun z => z q0)] at hx
    by_cases q2 : F.name = []
    · have y2 : ((bA F.name).toList == ([] : List UInt8)) = true := (len0_iff F.name).2 q2
      rw [if_pos q2] at hx
      have HX := Lib.hid (show X = 22 ∧ Y = Fo.zero from ⟨hx, by rw [hy, hx]; rfl⟩)
      clear hx hy q0 q2
      have hr := H2.out.below HB4.out
      have HE := Lib.hid (below_grown (bt HB4.out HB2.out) (grown3 W4 R (.int .i64 0) (.string ⟨#[]⟩) (.int .i64 0)) HLR.out)
      obtain ⟨r0, r1, r2⟩ := hr.c3
      obtain ⟨f0, f1, f2⟩ := hr.f3
      obtain ⟨s0, s1, s2⟩ := hr.s3
      obtain ⟨b0, b1, b2⟩ := (H4.out.below hJ).c3
      clear hr
      go_wp2
      exact bodyPost_ret (v := .tuple #[.agg #[.int .i64 0, .string ⟨#[]⟩, .int .i64 0], .int .i64 22]) (by simp [results, Tryz.results145, go_sem, s0, s1, s2]) rfl ⟨by rw [HX.out.1, HX.out.2]; rfl, HE.out⟩
    have y2 : ((bA F.name).toList == ([] : List UInt8)) = false := ne_nil_of F.name q2
    rw [if_neg q2] at hx
    obtain ⟨b0, b1, b2⟩ := H4.out.c3
    have HX0 := Lib.hid (And.intro hx hy)
    clear hx hy q0 q2
    obtain ⟨C, hC⟩ : ∃ C, canT t c F.dir 3 = C := ⟨_, rfl⟩
    rw [hC] at HCN HX0
    clear hC
    go_wp2_with fail
    clear hW4 hy4
    refine (HCN.out W4 hJ).mono ?_
    rintro e w5 ⟨rfl, hb5⟩
    have J5 := Lib.hid hb5
    have HB5 := Lib.hid (bt hb5 HB4.out)
    clear hb5 k0 k1 k2 b0 b1 b2
    obtain ⟨k0, k1, k2⟩ := (H1.out.below HB5.out).c3
    cases C with
    | false =>
      have HX := Lib.hid (show X = 13 ∧ Y = Fo.zero from by have h1 := HX0.out.1; rw [if_pos rfl] at h1; exact ⟨h1, by rw [HX0.out.2, h1]; rfl⟩)
      have hr := H2.out.below HB5.out
      have HE := Lib.hid (below_grown (bt HB5.out HB2.out) (grown3 w5 R (.int .i64 0) (.string ⟨#[]⟩) (.int .i64 0)) HLR.out)
      obtain ⟨r0, r1, r2⟩ := hr.c3
      obtain ⟨f0, f1, f2⟩ := hr.f3
      obtain ⟨s0, s1, s2⟩ := hr.s3
      obtain ⟨b0, b1, b2⟩ := (H4.out.below J5.out).c3
      clear hr
      go_wp2
      exact bodyPost_ret (v := .tuple #[.agg #[.int .i64 0, .string ⟨#[]⟩, .int .i64 0], .int .i64 13]) (by simp [results, Tryz.results145, go_sem, s0, s1, s2]) rfl ⟨by rw [HX.out.1, HX.out.2]; rfl, HE.out⟩
    | true =>
      have HX := Lib.hid (show X = 0 ∧ Y = F from by have h1 := HX0.out.1; rw [if_neg (by decide)] at h1; exact ⟨h1, by rw [HX0.out.2, if_pos h1]⟩)
      have hr := H2.out.below HB5.out
      have HE := Lib.hid (below_grown (bt HB5.out HB2.out) (grown3 w5 R (.int .i64 F.dir) (.string (bA F.name)) (.int .i64 F.node)) HLR.out)
      obtain ⟨r0, r1, r2⟩ := hr.c3
      obtain ⟨f0, f1, f2⟩ := hr.f3
      obtain ⟨s0, s1, s2⟩ := hr.s3
      obtain ⟨b0, b1, b2⟩ := (H4.out.below J5.out).c3
      clear hr
      go_wp2
      exact bodyPost_ret (v := .tuple #[.agg #[.int .i64 F.dir, .string (bA F.name), .int .i64 F.node], .int .i64 0]) (by simp [results, Tryz.results145, go_sem, s0, s1, s2]) rfl ⟨by rw [HX.out.1, HX.out.2], HE.out⟩
  · have y0 : (E != 0) = true := by simpa using q0
    rw [if_pos q0] at hx
    have HX := Lib.hid (show X = E ∧ Y = Fo.zero from ⟨hx, by rw [hy, hx, if_neg q0]⟩)
    clear hx hy q0
    have hr := H2.out.below HB4.out
    have HE := Lib.hid (below_grown (bt HB4.out HB2.out) (grown3 W4 R (.int .i64 0) (.string ⟨#[]⟩) (.int .i64 0)) HLR.out)
    obtain ⟨r0, r1, r2⟩ := hr.c3
    obtain ⟨f0, f1, f2⟩ := hr.f3
    obtain ⟨s0, s1, s2⟩ := hr.s3
    obtain ⟨b0, b1, b2⟩ := (H4.out.below hJ).c3
    clear hr
    go_wp2
    exact bodyPost_ret (v := .tuple #[.agg #[.int .i64 0, .string ⟨#[]⟩, .int .i64 0], .int .i64 E]) (by simp [results, Tryz.results145, go_sem, s0, s1, s2]) rfl ⟨by rw [HX.out.1, HX.out.2]; rfl, HE.out⟩
def rpX (t : List Nd) (c : Wh) (i : Int) (G : Fo) : Int := if stkB t c G = false then 1 else if (tget t i).kind = 2 ∧ (tget t G.node).kind ≠ 2 then 20 else if (tget t i).kind ≠ 2 ∧ (tget t G.node).kind = 2 then 21
  else if (tget t G.node).ents ≠ [] then 39 else 0
def mvX (t : List Nd) (c : Wh) (F G : Fo) : Int := if (tget t F.node).kind = 2 ∧ blwB t G.dir F.node = true then 22
  else if G.node = 0 then (if G.dir ≠ F.dir ∧ 8 ≤ (tget t G.dir).ents.length then 28 else 0) else rpX t c F.node G
structure RpW (t : List Nd) (c : Wh) (i : Int) (G : Fo) (K B1 B2 : Bool) (n : Nat) (X : Int) : Prop where
  a : K = false → X = 1
  b : K = true → B1 = true → B2 = false → X = 20
  c : K = true → B1 = false → B2 = true → X = 21
  d : K = true → B1 = true → B2 = true → X = if n = 0 then 0 else 39
  e : K = true → B1 = false → B2 = false → X = 0
theorem rp_why {t : List Nd} (ho : okT t) (c : Wh) (i : Int) (G : Fo) : RpW t c i G (stkB t c G) ((tget t i).kind == 2) ((tget t G.node).kind == 2) (tget t G.node).ents.length (rpX t c i G) := by
  unfold rpX
  refine ⟨fun h => if_pos h, fun h h1 h2 => ?_, fun h h1 h2 => ?_, fun h h1 h2 => ?_, fun h h1 h2 => ?_⟩
  all_goals simp only [beq_iff_eq, beq_eq_false_iff_ne] at h1 h2
  all_goals rw [if_neg (by rw [h]; decide)]
  · rw [if_pos ⟨h1, h2⟩]
  · rw [if_neg (fun q => h1 q.1), if_pos ⟨h1, h2⟩]
  · rw [if_neg (fun q => q.2 h2), if_neg (fun q => q.1 h1)]
    cases hl : (tget t G.node).ents with
    | nil => rfl
    | cons x xs => rw [if_pos (by simp), if_neg (by simp)]
  · rw [if_neg (fun q => h1 q.1), if_neg (fun q => h2 q.2), ok_leaf ho h2]
    rfl
set_option maxHeartbeats 16000000 in
theorem qrep_any (v : Value) (t : List Nd) (c : Wh) (A0 : Option Addr) (m k : Nat) (F G : Fo) (w : World) (h : TabP w v t) :
    Calls Tryz.prog 179 #[v, .agg #[.int .i64 c.u, .int .i64 c.g, .slice A0 m k], .agg #[.int .i64 F.dir, .string (bA F.name), .int .i64 F.node], .agg #[.int .i64 G.dir, .string (bA G.name), .int .i64 G.node]] w fun e w' => e = .returned (.int .i64 (rpX t c F.node G)) ∧ Below w.heap.size w w' := by
  have hb1 := ba w (.cells #[.int .i64 c.u, .int .i64 c.g, .slice A0 m k] 30)
  have h11 := Blk.new w 30 #[.int .i64 c.u, .int .i64 c.g, .slice A0 m k]
  obtain ⟨W1, hW1⟩ : ∃ W, w.alloc (.cells #[.int .i64 c.u, .int .i64 c.g, .slice A0 m k] 30) = W := ⟨_, rfl⟩
  rw [hW1] at hb1 h11
  have hb2 := al hb1 (.cells #[.int .i64 F.dir, .string (bA F.name), .int .i64 F.node] 197)
  have h12 := h11.alloc (.cells #[.int .i64 F.dir, .string (bA F.name), .int .i64 F.node] 197)
  have h22 := Blk.new W1 197 #[.int .i64 F.dir, .string (bA F.name), .int .i64 F.node]
  obtain ⟨W2, hW2⟩ : ∃ W, W1.alloc (.cells #[.int .i64 F.dir, .string (bA F.name), .int .i64 F.node] 197) = W := ⟨_, rfl⟩
  rw [hW2] at hb2 h12 h22
  have hb3 := al hb2 (.cells #[.int .i64 G.dir, .string (bA G.name), .int .i64 G.node] 197)
  have h13 := h12.alloc (.cells #[.int .i64 G.dir, .string (bA G.name), .int .i64 G.node] 197)
  have h23 := h22.alloc (.cells #[.int .i64 G.dir, .string (bA G.name), .int .i64 G.node] 197)
  have h33 := Blk.new W2 197 #[.int .i64 G.dir, .string (bA G.name), .int .i64 G.node]
  obtain ⟨W3, hW3⟩ : ∃ W, W2.alloc (.cells #[.int .i64 G.dir, .string (bA G.name), .int .i64 G.node] 197) = W := ⟨_, rfl⟩
  rw [hW3] at hb3 h13 h23 h33
  obtain ⟨z2, hz2⟩ : ∃ z, W1.heap.size = z := ⟨_, rfl⟩
  rw [hz2] at h23
  obtain ⟨z3, hz3⟩ : ∃ z, W2.heap.size = z := ⟨_, rfl⟩
  rw [hz3] at h33
  have HW := Lib.hid (rp_why h.ok.1 c F.node G)
  have HKA := Lib.hid (fun (W : World) (hb : Below W3.heap.size W3 W) => qkind_any v t F.node W ((h.below hb3).below hb))
  have HKB := Lib.hid (fun (W : World) (hb : Below W3.heap.size W3 W) => qkind_any v t G.node W ((h.below hb3).below hb))
  have HEN := Lib.hid (fun (W : World) (hb : Below W3.heap.size W3 W) => qentries_any v t G.node W ((h.below hb3).below hb))
  have HSK := Lib.hid (fun (W : World) (hb : Below W3.heap.size W3 W) => qmay_any v t c A0 m k G W ((h.below hb3).below hb))
  have HB3 := Lib.hid hb3
  have H1 := Lib.hid h13
  have H2 := Lib.hid h23
  have H3 := Lib.hid h33
  generalize rpX t c F.node G = X at HW ⊢
  generalize (tget t F.node).kind = KF at HW HKA
  generalize (tget t G.node).kind = KG at HW HKB
  obtain ⟨B1, y1⟩ : ∃ B, (KF == 2) = B := ⟨_, rfl⟩
  obtain ⟨B2, y2⟩ : ∃ B, (KG == 2) = B := ⟨_, rfl⟩
  rw [y1, y2] at HW
  generalize (tget t G.node).ents.length = n at HW HEN
  generalize stkB t c G = K at HW HSK
  have HPR := Lib.hid (fun (W : World) (hb : Below W3.heap.size W3 W) => show W.cell? ⟨z2, 2, none⟩ = some (.int .i64 F.node) ∧ W.cell? ⟨z3, 2, none⟩ = some (.int .i64 G.node) ∧ Below W3.heap.size W3 W from ⟨(H2.out.below hb).c3.2.2, (H3.out.below hb).c3.2.2, hb⟩)
  have j0 : Below W3.heap.size W3 W3.drew := (Below.refl _ _).drew
  clear h hb1 hb2 hb3 h11 h12 h22 h13 h23 h33
  go_enter Tryz.func179, Tryz.ntmps179
  go_upto_region 1 with fail
  clear hW1 hW2 hz2 hW3 hz3
  go_region_held3 (fun w' => w'.cell? ⟨z2, 2, none⟩ = some (.int .i64 F.node) ∧ w'.cell? ⟨z3, 2, none⟩ = some (.int .i64 G.node) ∧ Below W3.heap.size W3 w')
    (first | (with_reducible exact HPR.out _ j0) | (with_reducible exact HPR.out _ j1) | (with_reducible exact HPR.out _ j2))
    (first
      | (go_at_call 142; (with_reducible refine (HKA.out _ j0).mono ?_); rintro e1 w4 ⟨rfl, h1⟩; have j1 := bt h1 j0; clear h1)
      | (go_at_call 142; (with_reducible refine (HKB.out _ j1).mono ?_); rintro e2 w5 ⟨rfl, h2⟩; have j2 := bt h2 j1; clear h2))
  have J5 := Lib.hid j2
  obtain ⟨k0, k1, k2⟩ := (H1.out.below j2).c3
  obtain ⟨b0, b1, b2⟩ := (H3.out.below j2).c3
  clear j0 j1 j2 HPR
  go_wp2_with fail
  refine (HSK.out _ J5.out).mono ?_
  rintro e w6 ⟨rfl, hb6⟩
  have J6 := Lib.hid (bt hb6 J5.out)
  clear hb6 k0 k1 k2 b0 b1 b2
  cases K with
  | false =>
    have HX := Lib.hid (HW.out.a rfl)
    go_wp2
    go_ret
    exact ⟨by rw [HX.out]; rfl, bt J6.out HB3.out⟩
  | true =>
    cases B1 with
    | true =>
      cases B2 with
      | true =>
        have HX := Lib.hid (HW.out.d rfl rfl rfl)
        obtain ⟨b0, b1, b2⟩ := (H3.out.below J6.out).c3
        go_wp2_with fail
        refine (HEN.out _ J6.out).mono ?_
        rintro e w7 ⟨rfl, hb7⟩
        have HB7 := Lib.hid (bt (bt hb7 J6.out) HB3.out)
        clear hb7
        by_cases hn : n = 0
        · have yn : ¬ (n : Int) > 0 := by omega
          have HX2 := Lib.hid (show X = 0 from by rw [HX.out, if_pos hn])
          clear hn
          go_wp2
          go_ret
          exact ⟨by rw [HX2.out]; rfl, HB7.out⟩
        · have yn : (n : Int) > 0 := by omega
          have HX2 := Lib.hid (show X = 39 from by rw [HX.out, if_neg hn])
          clear hn
          go_wp2
          go_ret
          exact ⟨by rw [HX2.out]; rfl, HB7.out⟩
      | false =>
        have HX := Lib.hid (HW.out.b rfl rfl rfl)
        go_wp2
        go_ret
        exact ⟨by rw [HX.out]; rfl, bt J6.out HB3.out⟩
    | false =>
      cases B2 with
      | true =>
        have HX := Lib.hid (HW.out.c rfl rfl rfl)
        go_wp2
        go_ret
        exact ⟨by rw [HX.out]; rfl, bt J6.out HB3.out⟩
      | false =>
        have HX := Lib.hid (HW.out.e rfl rfl rfl)
        go_wp2
        go_ret
        exact ⟨by rw [HX.out]; rfl, bt J6.out HB3.out⟩
structure MvW (t : List Nd) (c : Wh) (F G : Fo) (B1 L N D : Bool) (n : Nat) (Y X : Int) : Prop where
  a : B1 = true → L = true → X = 22
  b : (B1 = false ∨ L = false) → N = true → X = Y
  c : (B1 = false ∨ L = false) → N = false → D = false → X = 0
  d : (B1 = false ∨ L = false) → N = false → D = true → X = if n < 8 then 0 else 28
theorem mvx_why (t : List Nd) (c : Wh) (F G : Fo) : MvW t c F G ((tget t F.node).kind == 2) (blwB t G.dir F.node) (G.node != 0) (G.dir != F.dir) (tget t G.dir).ents.length (rpX t c F.node G) (mvX t c F G) := by
  unfold mvX
  have hb : ((tget t F.node).kind == 2) = false ∨ blwB t G.dir F.node = false → ¬ ((tget t F.node).kind = 2 ∧ blwB t G.dir F.node = true) := fun h q => by
    rcases h with h | h
    · rw [beq_eq_false_iff_ne] at h
      exact h q.1
    · rw [h] at q
      exact absurd q.2 (by decide)
  refine ⟨fun h h1 => ?_, fun h h1 => ?_, fun h h1 h2 => ?_, fun h h1 h2 => ?_⟩
  · rw [beq_iff_eq] at h
    rw [if_pos ⟨h, h1⟩]
  · have h1' : G.node ≠ 0 := by simpa using h1
    rw [if_neg (hb h), if_neg h1']
  · have h1' : G.node = 0 := by simpa using h1
    have h2' : G.dir = F.dir := by simpa using h2
    rw [if_neg (hb h), if_pos h1', if_neg (fun q => q.1 h2')]
  · have h1' : G.node = 0 := by simpa using h1
    have h2' : G.dir ≠ F.dir := by simpa using h2
    rw [if_neg (hb h), if_pos h1']
    by_cases q : (tget t G.dir).ents.length < 8
    · rw [if_neg (fun z => by have := z.2; omega), if_pos q]
    · rw [if_pos ⟨h2', by omega⟩, if_neg q]
set_option maxHeartbeats 16000000 in
theorem qmove_any (v : Value) (t : List Nd) (c : Wh) (A0 : Option Addr) (m k : Nat) (F G : Fo) (w : World) (h : TabP w v t) :
    Calls Tryz.prog 146 #[v, .agg #[.int .i64 c.u, .int .i64 c.g, .slice A0 m k], .agg #[.int .i64 F.dir, .string (bA F.name), .int .i64 F.node], .agg #[.int .i64 G.dir, .string (bA G.name), .int .i64 G.node]] w fun e w' => e = .returned (.int .i64 (mvX t c F G)) ∧ Below w.heap.size w w' := by
  have hb1 := ba w (.cells #[.int .i64 c.u, .int .i64 c.g, .slice A0 m k] 30)
  have h11 := Blk.new w 30 #[.int .i64 c.u, .int .i64 c.g, .slice A0 m k]
  obtain ⟨W1, hW1⟩ : ∃ W, w.alloc (.cells #[.int .i64 c.u, .int .i64 c.g, .slice A0 m k] 30) = W := ⟨_, rfl⟩
  rw [hW1] at hb1 h11
  have hb2 := al hb1 (.cells #[.int .i64 F.dir, .string (bA F.name), .int .i64 F.node] 197)
  have h12 := h11.alloc (.cells #[.int .i64 F.dir, .string (bA F.name), .int .i64 F.node] 197)
  have h22 := Blk.new W1 197 #[.int .i64 F.dir, .string (bA F.name), .int .i64 F.node]
  obtain ⟨W2, hW2⟩ : ∃ W, W1.alloc (.cells #[.int .i64 F.dir, .string (bA F.name), .int .i64 F.node] 197) = W := ⟨_, rfl⟩
  rw [hW2] at hb2 h12 h22
  have hb3 := al hb2 (.cells #[.int .i64 G.dir, .string (bA G.name), .int .i64 G.node] 197)
  have h13 := h12.alloc (.cells #[.int .i64 G.dir, .string (bA G.name), .int .i64 G.node] 197)
  have h23 := h22.alloc (.cells #[.int .i64 G.dir, .string (bA G.name), .int .i64 G.node] 197)
  have h33 := Blk.new W2 197 #[.int .i64 G.dir, .string (bA G.name), .int .i64 G.node]
  obtain ⟨W3, hW3⟩ : ∃ W, W2.alloc (.cells #[.int .i64 G.dir, .string (bA G.name), .int .i64 G.node] 197) = W := ⟨_, rfl⟩
  rw [hW3] at hb3 h13 h23 h33
  obtain ⟨z2, hz2⟩ : ∃ z, W1.heap.size = z := ⟨_, rfl⟩
  rw [hz2] at h23
  obtain ⟨z3, hz3⟩ : ∃ z, W2.heap.size = z := ⟨_, rfl⟩
  rw [hz3] at h33
  have HW := Lib.hid (mvx_why t c F G)
  have HKA := Lib.hid (qkind_any v t F.node W3 (h.below hb3))
  have HBL := Lib.hid (fun (W : World) (hb : Below W3.heap.size W3 W) => qblw_any v t G.dir F.node W ((h.below hb3).below hb))
  have HEN := Lib.hid (fun (W : World) (hb : Below W3.heap.size W3 W) => qentries_any v t G.dir W ((h.below hb3).below hb))
  have HRP := Lib.hid (fun (W : World) (hb : Below W3.heap.size W3 W) => qrep_any v t c A0 m k F G W ((h.below hb3).below hb))
  have HB3 := Lib.hid hb3
  have H1 := Lib.hid h13
  have H2 := Lib.hid h23
  have H3 := Lib.hid h33
  generalize mvX t c F G = X at HW ⊢
  generalize rpX t c F.node G = Y at HW HRP
  generalize (tget t F.node).kind = KF at HW HKA
  obtain ⟨B1, y1⟩ : ∃ B, (KF == 2) = B := ⟨_, rfl⟩
  obtain ⟨N, y2⟩ : ∃ B, (G.node != 0) = B := ⟨_, rfl⟩
  obtain ⟨D, y3⟩ : ∃ B, (G.dir != F.dir) = B := ⟨_, rfl⟩
  rw [y1, y2, y3] at HW
  generalize (tget t G.dir).ents.length = n at HW HEN
  generalize blwB t G.dir F.node = L at HW HBL
  obtain ⟨a0, a1, a2⟩ := h23.c3
  clear h hb1 hb2 hb3 h11 h12 h22 h13 h23 h33
  go_enter Tryz.func146, Tryz.ntmps146
  go_wp2_with fail
  clear hW1 hW2 hz2 hW3 hz3
  refine HKA.out.mono ?_
  rintro e w4 ⟨rfl, hb4⟩
  have J4 := Lib.hid hb4
  clear hb4 a0 a1 a2
  cases B1 with
  | true =>
    obtain ⟨a0, a1, a2⟩ := (H2.out.below J4.out).c3
    obtain ⟨b0, b1, b2⟩ := (H3.out.below J4.out).c3
    go_wp2_with fail
    refine (HBL.out _ J4.out).mono ?_
    rintro e w5 ⟨rfl, hb5⟩
    have J5 := Lib.hid (bt hb5 J4.out)
    clear hb5 a0 a1 a2 b0 b1 b2
    cases L with
    | true =>
      have HX := Lib.hid (HW.out.a rfl rfl)
      go_wp2
      go_ret
      exact ⟨by rw [HX.out]; rfl, bt J5.out HB3.out⟩
    | false =>
      cases N with
      | true =>
        have HX := Lib.hid (HW.out.b (by first | exact .inl rfl | exact .inr rfl) rfl)
        obtain ⟨k0, k1, k2⟩ := (H1.out.below J5.out).c3
        obtain ⟨a0, a1, a2⟩ := (H2.out.below J5.out).c3
        obtain ⟨b0, b1, b2⟩ := (H3.out.below J5.out).c3
        go_wp2_with fail
        refine (HRP.out _ J5.out).mono ?_
        rintro e w6 ⟨rfl, hb6⟩
        have HB6 := Lib.hid (bt (bt hb6 J5.out) HB3.out)
        clear hb6
        go_wp2
        go_ret
        exact ⟨by rw [HX.out]; rfl, HB6.out⟩
      | false =>
        cases D with
        | false =>
          have HX := Lib.hid (HW.out.c (by first | exact .inl rfl | exact .inr rfl) rfl rfl)
          obtain ⟨a0, a1, a2⟩ := (H2.out.below J5.out).c3
          obtain ⟨b0, b1, b2⟩ := (H3.out.below J5.out).c3
          go_wp2
          go_ret
          exact ⟨by rw [HX.out]; rfl, bt J5.out HB3.out⟩
        | true =>
          have HX := Lib.hid (HW.out.d (by first | exact .inl rfl | exact .inr rfl) rfl rfl)
          obtain ⟨a0, a1, a2⟩ := (H2.out.below J5.out).c3
          obtain ⟨b0, b1, b2⟩ := (H3.out.below J5.out).c3
          go_wp2_with fail
          refine (HEN.out _ J5.out).mono ?_
          rintro e w6 ⟨rfl, hb6⟩
          have HB6 := Lib.hid (bt (bt hb6 J5.out) HB3.out)
          clear hb6
          by_cases hn : n < 8
          · have yn : ¬ (n : Int) ≥ 8 := by omega
            have HX2 := Lib.hid (show X = 0 from by rw [HX.out, if_pos hn])
            clear hn
            go_wp2
            go_ret
            exact ⟨by rw [HX2.out]; rfl, HB6.out⟩
          · have yn : (n : Int) ≥ 8 := by omega
            have HX2 := Lib.hid (show X = 28 from by rw [HX.out, if_neg hn])
            clear hn
            go_wp2
            go_ret
            exact ⟨by rw [HX2.out]; rfl, HB6.out⟩
  | false =>
    have J5 := J4
    clear J4
    cases N with
    | true =>
      have HX := Lib.hid (HW.out.b (by first | exact .inl rfl | exact .inr rfl) rfl)
      obtain ⟨k0, k1, k2⟩ := (H1.out.below J5.out).c3
      obtain ⟨a0, a1, a2⟩ := (H2.out.below J5.out).c3
      obtain ⟨b0, b1, b2⟩ := (H3.out.below J5.out).c3
      go_wp2_with fail
      refine (HRP.out _ J5.out).mono ?_
      rintro e w6 ⟨rfl, hb6⟩
      have HB6 := Lib.hid (bt (bt hb6 J5.out) HB3.out)
      clear hb6
      go_wp2
      go_ret
      exact ⟨by rw [HX.out]; rfl, HB6.out⟩
    | false =>
      cases D with
      | false =>
        have HX := Lib.hid (HW.out.c (by first | exact .inl rfl | exact .inr rfl) rfl rfl)
        obtain ⟨a0, a1, a2⟩ := (H2.out.below J5.out).c3
        obtain ⟨b0, b1, b2⟩ := (H3.out.below J5.out).c3
        go_wp2
        go_ret
        exact ⟨by rw [HX.out]; rfl, bt J5.out HB3.out⟩
      | true =>
        have HX := Lib.hid (HW.out.d (by first | exact .inl rfl | exact .inr rfl) rfl rfl)
        obtain ⟨a0, a1, a2⟩ := (H2.out.below J5.out).c3
        obtain ⟨b0, b1, b2⟩ := (H3.out.below J5.out).c3
        go_wp2_with fail
        refine (HEN.out _ J5.out).mono ?_
        rintro e w6 ⟨rfl, hb6⟩
        have HB6 := Lib.hid (bt (bt hb6 J5.out) HB3.out)
        clear hb6
        by_cases hn : n < 8
        · have yn : ¬ (n : Int) ≥ 8 := by omega
          have HX2 := Lib.hid (show X = 0 from by rw [HX.out, if_pos hn])
          clear hn
          go_wp2
          go_ret
          exact ⟨by rw [HX2.out]; rfl, HB6.out⟩
        · have yn : (n : Int) ≥ 8 := by omega
          have HX2 := Lib.hid (show X = 28 from by rw [HX.out, if_neg hn])
          clear hn
          go_wp2
          go_ret
          exact ⟨by rw [HX2.out]; rfl, HB6.out⟩
theorem mv_split (t : List Nd) (c : Wh) (R S : Fo × Int) : mvE t c R S = if fnE t c R ≠ 0 then fnE t c R else if fpE t c S ≠ 0 then fpE t c S else if S.1.node = R.1.node then 0 else mvX t c R.1 S.1 := by
  unfold mvE fpE mvY
  by_cases h0 : fnE t c R ≠ 0
  · rw [if_pos h0, if_pos h0]
  rw [if_neg h0, if_neg h0]
  by_cases h1 : S.2 ≠ 0
  · rw [if_pos h1, if_pos h1, if_pos h1]
  rw [if_neg h1, if_neg h1]
  by_cases h2 : S.1.name = []
  · rw [if_pos h2, if_pos h2, if_pos (by decide)]
  rw [if_neg h2, if_neg h2]
  by_cases h3 : canT t c S.1.dir 3 = false
  · rw [if_pos h3, if_pos h3, if_pos (by decide)]
  rw [if_neg h3, if_neg h3, if_neg (fun z : (0 : Int) ≠ 0 => z rfl)]
  rfl
end Go.Proofs.YtnkjaocmfhjnoaaGreat
