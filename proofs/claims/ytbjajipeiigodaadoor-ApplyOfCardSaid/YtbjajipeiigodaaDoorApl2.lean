/-
  What one act that may be makes of a mode, as package apply has it: for every Who, Perms, Copy and sign that may be, every mode and every umask.
-/
import Derived.Test.YtbjajipeiigodaaDoorApl
namespace Go.Proofs.YtbjajipeiigodaaDoor
open Go Go.RowKit

theorem umask_low (u : Int) : bits .and .i64 u 511 = ((((u % 4096).toNat % 512 : Nat)) : Int) := by
  rw [and_mask u 9 511 (by decide) (by decide)]
  show u % 512 = _
  omega
theorem has_zero (um : Nat) : bits .andNot .i64 4095 ((um % 512 : Nat) : Int) = (hasN 0 um : Nat) := by
  rw [show (4095 : Int) = ((4095 : Nat) : Int) from rfl, andNot_nat 4095 (um % 512) (by decide)]
  congr 1
  symm
  apply eq_ofB _ 12
  · exact hasN_lt 0 um (by decide)
  · intro i hi
    rw [hasN_bit 0 um i (by decide) hi, hasB, if_pos rfl, ones_bit, show (512 : Nat) = 2 ^ 9 from rfl, low_bit]
    by_cases h : i < 9
    · simp [hi, h, show ¬ 8 < i by omega]
    · simp [hi, h, show 8 < i by omega]
theorem whoHas_any (who : Nat) (u : Int) (w : World) (hw : who < 8) : Calls Tryd.prog 64 #[.int .i64 (who : Int), .int .i64 u] w fun e w' => e = .returned (.int .i64 (hasN who (u % 4096).toNat : Nat)) ∧ ∃ n, w' = w.drewN n := by
  by_cases h0 : who = 0
  · subst h0
    have HU := Lib.hid (show bits .andNot .i64 4095 (bits .and .i64 u 511) = (hasN 0 (u % 4096).toNat : Nat) by rw [umask_low, has_zero])
    go_enter Tryd.func64, Tryd.ntmps64
    go_wp2
    go_ret
    exact ⟨ret_int HU.out, 0, rfl⟩
  · have h1 : ((who : Int) == 0) = false := by rw [beq_eq_false_iff_ne]; omega
    have HH := Lib.hid (show whoN who = hasN who (u % 4096).toNat by rw [hasN, if_neg h0])
    have HC := Lib.hid (fun w => whoClears_any who w hw)
    clear h0
    go_enter Tryd.func64, Tryd.ntmps64
    go_wp2_with fail
    refine (HC.out _).mono ?_
    rintro e w1 ⟨rfl, n1, rfl⟩
    go_wp2
    go_ret
    exact ⟨ret_int (by rw [HH.out]), _, rfl⟩

/-- What the closure works on: the act's cells, and the number that it gathers. -/
def Gat (w0 : World) (b3 b7 : Nat) (p y : Nat) (w : World) : Prop := Below w0.heap.size w0 w ∧ w0.heap.size ≤ b7 ∧ b3 ≠ b7 ∧ w.cell? ⟨b3, 1, none⟩ = some (.int .i64 (p : Int)) ∧ w.cell? ⟨b7, 0, none⟩ = some (.int .i64 (y : Int)) ∧ w.frozen? ⟨b7, 0, none⟩ = false ∧ b7 < w.heap.size
theorem Gat.drewN {w0 : World} {b3 b7 p y : Nat} {w : World} (h : Gat w0 b3 b7 p y w) (n : Nat) : Gat w0 b3 b7 p y (w.drewN n) := by
  obtain ⟨h1, h2, h3, h4, h5, h6, h7⟩ := h
  exact ⟨⟨h1.os, h1.tape, h1.output, h1.size, h1.block⟩, h2, h3, h4, h5, h6, h7⟩
theorem Gat.store {w0 : World} {b3 b7 p y : Nat} {w : World} (h : Gat w0 b3 b7 p y w) (y' : Nat) : Gat w0 b3 b7 p y' (w.setCell ⟨b7, 0, none⟩ (.int .i64 (y' : Int))) := by
  obtain ⟨h1, h2, h3, h4, h5, h6, h7⟩ := h
  refine ⟨h1.setCell h2 _, h2, h3, ?_, World.cell?_setCell_same _ _ _ h5, by rw [World.frozen?_setCell]; exact h6, by simpa [World.setCell] using h7⟩
  rw [World.cell?_setCell_other _ _ _ _ (by intro e; injection e with e1 _ _; exact h3 e1.symm)]
  exact h4
theorem gather_any (perm I : Int) (its p y : Nat) (t : Bool) (w0 : World) (b3 b7 : Nat) (w : World) (hI : I = (its : Int)) (ht : (bits .and .i64 (p : Int) perm == 0) = !t) (hi : its < 4096) (hy : y < 4096) (hG : Gat w0 b3 b7 p y w) :
    Calls Tryd.prog 74 #[.int .i64 perm, .int .i64 I, .pointer (some ⟨b3, 0, none⟩), .pointer (some ⟨b7, 0, none⟩)] w fun e w' => e = .returned (.tuple #[]) ∧ Gat w0 b3 b7 p (y ||| if t = true then its else 0) w' := by
  subst hI
  have HG := Lib.hid hG
  obtain ⟨-, -, -, h4, h5, h6, -⟩ := hG
  have HO := Lib.hid (or_nat y its hy hi)
  cases t with
  | false =>
    have ht' : (bits .and .i64 (p : Int) perm == 0) = true := ht
    clear ht
    go_enter Tryd.func74, Tryd.ntmps74
    go_wp2
    go_end0
    exact ⟨rfl, by simpa using HG.out⟩
  | true =>
    have ht' : (bits .and .i64 (p : Int) perm == 0) = false := ht
    clear ht
    go_enter Tryd.func74, Tryd.ntmps74
    go_wp2
    go_end0
    refine ⟨rfl, ?_⟩
    have h := HG.out.store (y ||| its)
    rw [← HO.out] at h
    simpa using h

theorem perm_at : ∀ p : Fin 64, (bits .and .i64 (p.val : Int) 4 == 0) = !p.val.testBit 2 ∧ (bits .and .i64 (p.val : Int) 2 == 0) = !p.val.testBit 1 ∧ (bits .and .i64 (p.val : Int) 1 == 0) = !p.val.testBit 0 ∧ (bits .and .i64 (p.val : Int) 8 == 0) = !p.val.testBit 3 ∧ (bits .and .i64 (p.val : Int) 16 == 0) = !p.val.testBit 4 ∧ (bits .and .i64 (p.val : Int) 32 == 0) = !p.val.testBit 5 := by decide +kernel
theorem cls_nat (m k : Nat) (hk : k < 3) : cls (m : Int) (k : Int) = (clN m k : Nat) := by
  obtain rfl | rfl | rfl : k = 0 ∨ k = 1 ∨ k = 2 := by omega
  · simp [cls, clN]
  · simp [cls, clN]
  · simp [cls, clN]
theorem pick_lt (t : Bool) (n : Nat) (h : n < 4096) : (if t = true then n else 0) < 4096 := by split <;> omega
theorem or_lt (a b : Nat) (ha : a < 4096) (hb : b < 4096) : a ||| b < 4096 := Nat.or_lt_two_pow (n := 12) ha hb

set_option maxHeartbeats 4000000 in
theorem actBits_copy (op : Int) (p c m : Nat) (dir : Bool) (w : World) (hc : 0 < c) (hc3 : c ≤ 3) : Calls Tryd.prog 63 #[.agg #[.int .u8 op, .int .i64 (p : Int), .int .i64 (c : Int)], .int .i64 (m : Int), .bool dir] w fun e w' => e = .returned (.int .i64 (bitN p c m dir : Nat)) ∧ Below w.heap.size w w' := by
  have h1 : ((c : Int) == 0) = false := by rw [beq_eq_false_iff_ne]; omega
  have h2 : ((c : Int) != 0) = true := by rw [bne_iff_ne]; omega
  have HC := Lib.hid (fun w => class_any (m : Int) ((c : Int) - 1) w)
  have hcl : cls (m : Int) ((c : Int) - 1) = (clN m (c - 1) : Nat) := by
    rw [← cls_nat m (c - 1) (by omega)]
    congr 1
    omega
  rw [hcl] at HC
  have HI := Lib.hid (fun w => inAll_any ((clN m (c - 1) : Nat) : Int) w)
  have h3 : ((clN m (c - 1) : Nat) : Int) % 8 * 73 = (bitN p c m dir : Nat) := by
    have := clN_lt m (c - 1)
    rw [bitN, if_pos hc, all3]
    omega
  rw [h3] at HI
  clear hcl h3
  go_enter Tryd.func63, Tryd.ntmps63
  go_wp2_with fail
  refine (HC.out _).mono ?_
  rintro e w1 ⟨rfl, rfl⟩
  go_wp2_with fail
  refine (HI.out _).mono ?_
  rintro e w1 ⟨rfl, n1, rfl⟩
  go_wp2
  go_ret
  have hb := (Below.refl w.heap.size w).alloc (Nat.le_refl _) (.cells #[.int .u8 op, .int .i64 (p : Int), .int .i64 (c : Int)] 60)
  exact ⟨rfl, ⟨hb.os, hb.tape, hb.output, hb.size, hb.block⟩⟩

theorem Gat.start (w : World) (op : Int) (p : Nat) (c : Value) : Gat w w.heap.size (w.heap.size + 1) p 0 ((w.alloc (.cells #[.int .u8 op, .int .i64 (p : Int), c] 60)).alloc (.cells #[.int .i64 0] 3)) := by
  have e : (w.alloc (.cells #[.int .u8 op, .int .i64 (p : Int), c] 60)).heap.size = w.heap.size + 1 := by simp
  refine ⟨((Below.refl _ _).alloc (Nat.le_refl _) _).alloc (by simp) _, by omega, by omega, ?_, ?_, ?_, by simp⟩
  · rw [World.cell?_alloc_old _ _ _ (by rw [e]; simp)]
    simp
  · rw [← e]
    simp
  · rw [← e]
    simp
set_option maxHeartbeats 4000000 in
theorem actBits_dir (op : Int) (p m : Nat) (w : World) (hp : p < 64) : Calls Tryd.prog 63 #[.agg #[.int .u8 op, .int .i64 (p : Int), .int .i64 0], .int .i64 (m : Int), .bool true] w fun e w' => e = .returned (.int .i64 (bitN p 0 m true : Nat)) ∧ Below w.heap.size w w' := by
  have hmf : ∀ (fn : Fn) (first cap : Array Value) (w : World), (Instr.makeFunc fn first cap).run Tryd.prog w = .ok (.func fn first cap) w := fun _ _ _ _ => rfl
  have hpm := perm_at ⟨p, hp⟩
  simp only at hpm
  have HP := Lib.hid hpm
  clear hpm
  have HI4 := Lib.hid (fun w => inAll_any 4 w)
  have HI2 := Lib.hid (fun w => inAll_any 2 w)
  have HI1 := Lib.hid (fun w => inAll_any 1 w)
  rw [show ((4 : Int) % 8 * 73) = 292 from rfl] at HI4
  rw [show ((2 : Int) % 8 * 73) = 146 from rfl] at HI2
  rw [show ((1 : Int) % 8 * 73) = 73 from rfl] at HI1
  have HV := Lib.hid (show bitN p 0 m true = perN p true by rw [bitN, if_neg (by decide)]; rfl)
  have G0 := Lib.hid (Gat.start w op p (.int .i64 0))
  have y0h : 0 < 4096 := by decide
  go_enter Tryd.func63, Tryd.ntmps63
  go_wp2_with fail
  refine (HI4.out _).mono ?_
  rintro e w1a ⟨rfl, n1, rfl⟩
  go_wp2_with fail
  refine (gather_any 4 _ 292 p _ (p.testBit 2) w _ _ _ rfl HP.out.1 (by decide) y0h (G0.out.drewN n1)).mono ?_
  rintro e w1 ⟨rfl, hg1⟩
  have y1h := or_lt _ _ y0h (pick_lt (p.testBit 2) 292 (by decide))
  have G1 := Lib.hid hg1
  clear hg1
  go_wp2_with fail
  refine (HI2.out _).mono ?_
  rintro e w2a ⟨rfl, n2, rfl⟩
  go_wp2_with fail
  refine (gather_any 2 _ 146 p _ (p.testBit 1) w _ _ _ rfl HP.out.2.1 (by decide) y1h (G1.out.drewN n2)).mono ?_
  rintro e w2 ⟨rfl, hg2⟩
  have y2h := or_lt _ _ y1h (pick_lt (p.testBit 1) 146 (by decide))
  have G2 := Lib.hid hg2
  clear hg2
  go_wp2_with fail
  refine (HI1.out _).mono ?_
  rintro e w3a ⟨rfl, n3, rfl⟩
  go_wp2_with fail
  refine (gather_any 1 _ 73 p _ (p.testBit 0) w _ _ _ rfl HP.out.2.2.1 (by decide) y2h (G2.out.drewN n3)).mono ?_
  rintro e w3 ⟨rfl, hg3⟩
  have y3h := or_lt _ _ y2h (pick_lt (p.testBit 0) 73 (by decide))
  have G3 := Lib.hid hg3
  clear hg3
  go_wp2_with fail
  refine (HI1.out _).mono ?_
  rintro e w4a ⟨rfl, n4, rfl⟩
  go_wp2_with fail
  refine (gather_any 8 _ 73 p _ (p.testBit 3) w _ _ _ rfl HP.out.2.2.2.1 (by decide) y3h (G3.out.drewN n4)).mono ?_
  rintro e w4 ⟨rfl, hg4⟩
  have y4h := or_lt _ _ y3h (pick_lt (p.testBit 3) 73 (by decide))
  have G4 := Lib.hid hg4
  clear hg4
  go_wp2_with fail
  refine (gather_any 16 _ 3072 p _ (p.testBit 4) w _ _ _ rfl HP.out.2.2.2.2.1 (by decide) y4h G4.out).mono ?_
  rintro e w5 ⟨rfl, hg5⟩
  have y5h := or_lt _ _ y4h (pick_lt (p.testBit 4) 3072 (by decide))
  have G5 := Lib.hid hg5
  clear hg5
  go_wp2_with fail
  refine (gather_any 32 _ 512 p _ (p.testBit 5) w _ _ _ rfl HP.out.2.2.2.2.2 (by decide) y5h G5.out).mono ?_
  rintro e w6 ⟨rfl, hg6⟩
  have y6h := or_lt _ _ y5h (pick_lt (p.testBit 5) 512 (by decide))
  have G6 := Lib.hid hg6
  clear hg6
  have c7 : w6.cell? ⟨w.heap.size + 1, 0, none⟩ = some (.int .i64 (bitN p 0 m true : Nat)) := by
    have h := G6.out.2.2.2.2.1
    rw [HV.out]
    simpa [perN] using h
  have HB := Lib.hid G6.out.1
  obtain ⟨Y, hY⟩ : ∃ Y, bitN p 0 m true = Y := ⟨_, rfl⟩
  rw [hY] at c7
  have HY := Lib.hid hY
  clear hY
  go_wp2
  go_ret
  exact ⟨ret_int (by rw [HY.out]), HB.out⟩
set_option maxHeartbeats 4000000 in
theorem actBits_x (op : Int) (p m : Nat) (w : World) (hp : p < 64) (hm : m < 4096) (hx : anyX m = true) : Calls Tryd.prog 63 #[.agg #[.int .u8 op, .int .i64 (p : Int), .int .i64 0], .int .i64 (m : Int), .bool false] w fun e w' => e = .returned (.int .i64 (bitN p 0 m false : Nat)) ∧ Below w.heap.size w w' := by
  have hmf : ∀ (fn : Fn) (first cap : Array Value) (w : World), (Instr.makeFunc fn first cap).run Tryd.prog w = .ok (.func fn first cap) w := fun _ _ _ _ => rfl
  have hpm := perm_at ⟨p, hp⟩
  simp only at hpm
  have HP := Lib.hid hpm
  clear hpm
  have HI4 := Lib.hid (fun w => inAll_any 4 w)
  have HI2 := Lib.hid (fun w => inAll_any 2 w)
  have HI1 := Lib.hid (fun w => inAll_any 1 w)
  rw [show ((4 : Int) % 8 * 73) = 292 from rfl] at HI4
  rw [show ((2 : Int) % 8 * 73) = 146 from rfl] at HI2
  rw [show ((1 : Int) % 8 * 73) = 73 from rfl] at HI1
  have HX := Lib.hid (fun w => anyHasX_any m w hm)
  rw [hx] at HX
  have HV := Lib.hid (show bitN p 0 m false = perN p true by rw [bitN, if_neg (by decide), hx]; rfl)
  clear hx
  have G0 := Lib.hid (Gat.start w op p (.int .i64 0))
  have y0h : 0 < 4096 := by decide
  go_enter Tryd.func63, Tryd.ntmps63
  go_wp2_with fail
  refine (HI4.out _).mono ?_
  rintro e w1a ⟨rfl, n1, rfl⟩
  go_wp2_with fail
  refine (gather_any 4 _ 292 p _ (p.testBit 2) w _ _ _ rfl HP.out.1 (by decide) y0h (G0.out.drewN n1)).mono ?_
  rintro e w1 ⟨rfl, hg1⟩
  have y1h := or_lt _ _ y0h (pick_lt (p.testBit 2) 292 (by decide))
  have G1 := Lib.hid hg1
  clear hg1
  go_wp2_with fail
  refine (HI2.out _).mono ?_
  rintro e w2a ⟨rfl, n2, rfl⟩
  go_wp2_with fail
  refine (gather_any 2 _ 146 p _ (p.testBit 1) w _ _ _ rfl HP.out.2.1 (by decide) y1h (G1.out.drewN n2)).mono ?_
  rintro e w2 ⟨rfl, hg2⟩
  have y2h := or_lt _ _ y1h (pick_lt (p.testBit 1) 146 (by decide))
  have G2 := Lib.hid hg2
  clear hg2
  go_wp2_with fail
  refine (HI1.out _).mono ?_
  rintro e w3a ⟨rfl, n3, rfl⟩
  go_wp2_with fail
  refine (gather_any 1 _ 73 p _ (p.testBit 0) w _ _ _ rfl HP.out.2.2.1 (by decide) y2h (G2.out.drewN n3)).mono ?_
  rintro e w3 ⟨rfl, hg3⟩
  have y3h := or_lt _ _ y2h (pick_lt (p.testBit 0) 73 (by decide))
  have G3 := Lib.hid hg3
  clear hg3
  go_wp2_with fail
  refine (HX.out _).mono ?_
  rintro e w3x ⟨rfl, nx, hw3⟩
  have g3x := G3.out.drewN nx
  rw [← hw3] at g3x
  have G3x := Lib.hid g3x
  clear hw3 g3x
  go_wp2_with fail
  refine (HI1.out _).mono ?_
  rintro e w4a ⟨rfl, n4, rfl⟩
  go_wp2_with fail
  refine (gather_any 8 _ 73 p _ (p.testBit 3) w _ _ _ rfl HP.out.2.2.2.1 (by decide) y3h (G3x.out.drewN n4)).mono ?_
  rintro e w4 ⟨rfl, hg4⟩
  have y4h := or_lt _ _ y3h (pick_lt (p.testBit 3) 73 (by decide))
  have G4 := Lib.hid hg4
  clear hg4
  go_wp2_with fail
  refine (gather_any 16 _ 3072 p _ (p.testBit 4) w _ _ _ rfl HP.out.2.2.2.2.1 (by decide) y4h G4.out).mono ?_
  rintro e w5 ⟨rfl, hg5⟩
  have y5h := or_lt _ _ y4h (pick_lt (p.testBit 4) 3072 (by decide))
  have G5 := Lib.hid hg5
  clear hg5
  go_wp2_with fail
  refine (gather_any 32 _ 512 p _ (p.testBit 5) w _ _ _ rfl HP.out.2.2.2.2.2 (by decide) y5h G5.out).mono ?_
  rintro e w6 ⟨rfl, hg6⟩
  have y6h := or_lt _ _ y5h (pick_lt (p.testBit 5) 512 (by decide))
  have G6 := Lib.hid hg6
  clear hg6
  have c7 : w6.cell? ⟨w.heap.size + 1, 0, none⟩ = some (.int .i64 (bitN p 0 m false : Nat)) := by
    have h := G6.out.2.2.2.2.1
    rw [HV.out]
    simpa [perN] using h
  have HB := Lib.hid G6.out.1
  obtain ⟨Y, hY⟩ : ∃ Y, bitN p 0 m false = Y := ⟨_, rfl⟩
  rw [hY] at c7
  have HY := Lib.hid hY
  clear hY
  go_wp2
  go_ret
  exact ⟨ret_int (by rw [HY.out]), HB.out⟩
set_option maxHeartbeats 4000000 in
theorem actBits_none (op : Int) (p m : Nat) (w : World) (hp : p < 64) (hm : m < 4096) (hx : anyX m = false) : Calls Tryd.prog 63 #[.agg #[.int .u8 op, .int .i64 (p : Int), .int .i64 0], .int .i64 (m : Int), .bool false] w fun e w' => e = .returned (.int .i64 (bitN p 0 m false : Nat)) ∧ Below w.heap.size w w' := by
  have hmf : ∀ (fn : Fn) (first cap : Array Value) (w : World), (Instr.makeFunc fn first cap).run Tryd.prog w = .ok (.func fn first cap) w := fun _ _ _ _ => rfl
  have hpm := perm_at ⟨p, hp⟩
  simp only at hpm
  have HP := Lib.hid hpm
  clear hpm
  have HI4 := Lib.hid (fun w => inAll_any 4 w)
  have HI2 := Lib.hid (fun w => inAll_any 2 w)
  have HI1 := Lib.hid (fun w => inAll_any 1 w)
  rw [show ((4 : Int) % 8 * 73) = 292 from rfl] at HI4
  rw [show ((2 : Int) % 8 * 73) = 146 from rfl] at HI2
  rw [show ((1 : Int) % 8 * 73) = 73 from rfl] at HI1
  have HX := Lib.hid (fun w => anyHasX_any m w hm)
  rw [hx] at HX
  have HV := Lib.hid (show bitN p 0 m false = perN p false by rw [bitN, if_neg (by decide), hx]; rfl)
  clear hx
  have G0 := Lib.hid (Gat.start w op p (.int .i64 0))
  have y0h : 0 < 4096 := by decide
  go_enter Tryd.func63, Tryd.ntmps63
  go_wp2_with fail
  refine (HI4.out _).mono ?_
  rintro e w1a ⟨rfl, n1, rfl⟩
  go_wp2_with fail
  refine (gather_any 4 _ 292 p _ (p.testBit 2) w _ _ _ rfl HP.out.1 (by decide) y0h (G0.out.drewN n1)).mono ?_
  rintro e w1 ⟨rfl, hg1⟩
  have y1h := or_lt _ _ y0h (pick_lt (p.testBit 2) 292 (by decide))
  have G1 := Lib.hid hg1
  clear hg1
  go_wp2_with fail
  refine (HI2.out _).mono ?_
  rintro e w2a ⟨rfl, n2, rfl⟩
  go_wp2_with fail
  refine (gather_any 2 _ 146 p _ (p.testBit 1) w _ _ _ rfl HP.out.2.1 (by decide) y1h (G1.out.drewN n2)).mono ?_
  rintro e w2 ⟨rfl, hg2⟩
  have y2h := or_lt _ _ y1h (pick_lt (p.testBit 1) 146 (by decide))
  have G2 := Lib.hid hg2
  clear hg2
  go_wp2_with fail
  refine (HI1.out _).mono ?_
  rintro e w3a ⟨rfl, n3, rfl⟩
  go_wp2_with fail
  refine (gather_any 1 _ 73 p _ (p.testBit 0) w _ _ _ rfl HP.out.2.2.1 (by decide) y2h (G2.out.drewN n3)).mono ?_
  rintro e w3 ⟨rfl, hg3⟩
  have y3h := or_lt _ _ y2h (pick_lt (p.testBit 0) 73 (by decide))
  have G3 := Lib.hid hg3
  clear hg3
  go_wp2_with fail
  refine (HX.out _).mono ?_
  rintro e w3x ⟨rfl, nx, hw3⟩
  have g3x := G3.out.drewN nx
  rw [← hw3] at g3x
  have G3x := Lib.hid g3x
  clear hw3 g3x
  go_wp2_with fail
  refine (gather_any 16 _ 3072 p _ (p.testBit 4) w _ _ _ rfl HP.out.2.2.2.2.1 (by decide) y3h G3x.out).mono ?_
  rintro e w4 ⟨rfl, hg4⟩
  have y4h := or_lt _ _ y3h (pick_lt (p.testBit 4) 3072 (by decide))
  have G4 := Lib.hid hg4
  clear hg4
  go_wp2_with fail
  refine (gather_any 32 _ 512 p _ (p.testBit 5) w _ _ _ rfl HP.out.2.2.2.2.2 (by decide) y4h G4.out).mono ?_
  rintro e w5 ⟨rfl, hg5⟩
  have y5h := or_lt _ _ y4h (pick_lt (p.testBit 5) 512 (by decide))
  have G5 := Lib.hid hg5
  clear hg5
  have c7 : w5.cell? ⟨w.heap.size + 1, 0, none⟩ = some (.int .i64 (bitN p 0 m false : Nat)) := by
    have h := G5.out.2.2.2.2.1
    rw [HV.out]
    simpa [perN] using h
  have HB := Lib.hid G5.out.1
  obtain ⟨Y, hY⟩ : ∃ Y, bitN p 0 m false = Y := ⟨_, rfl⟩
  rw [hY] at c7
  have HY := Lib.hid hY
  clear hY
  go_wp2
  go_ret
  exact ⟨ret_int (by rw [HY.out]), HB.out⟩
theorem actBits_any (op : Int) (p c m : Nat) (dir : Bool) (w : World) (hp : p < 64) (hc : c ≤ 3) (hm : m < 4096) : Calls Tryd.prog 63 #[.agg #[.int .u8 op, .int .i64 (p : Int), .int .i64 (c : Int)], .int .i64 (m : Int), .bool dir] w fun e w' => e = .returned (.int .i64 (bitN p c m dir : Nat)) ∧ Below w.heap.size w w' := by
  by_cases h : 0 < c
  · exact actBits_copy op p c m dir w h hc
  · obtain rfl : c = 0 := by omega
    cases dir with
    | true => exact actBits_dir op p m w hp
    | false =>
      cases hx : anyX m with
      | true => exact actBits_x op p m w hp hm hx
      | false => exact actBits_none op p m w hp hm hx
end Go.Proofs.YtbjajipeiigodaaDoor
