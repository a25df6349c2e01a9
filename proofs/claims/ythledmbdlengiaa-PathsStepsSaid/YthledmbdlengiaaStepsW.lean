/-
  The walk of the law PathsSteps: of any path it answers true.
-/
import Derived.Test.YthledmbdlengiaaStepM
import Derived.Deep.RegionHeld3
namespace Go.Proofs.Ythledmbdlengiaa
open Go Go.RowKit

theorem below_drewN {B : Nat} {a w : World} (h : Below B a w) (n : Nat) : Below B a (w.drewN n) := ⟨h.os, h.tape, h.output, h.size, h.block⟩
set_option maxRecDepth 100000 in
set_option maxHeartbeats 16000000 in
theorem stepsLaw_in (p : ByteArray) (w : World) (hp : p.size ≤ 200) :
    Calls Try.prog 7 #[.string p] w fun e w' => e = .returned (.bool true) ∧ Below w.heap.size w w' := by
  have HA := Lib.hid (awake_any w)
  have HST := Lib.hid (fun w1 => steps_any p w1 (by omega))
  have HSP := Lib.hid (fun w1 => split_any p w1 (by omega))
  have HEND := Lib.hid (steps_end p)
  have hbl := bAs_len (stp (tl p))
  have HAT := Lib.hid (fun k (h : k < (bAs (stp (tl p))).length) => step_at (p := p) (k := k) (by rw [← hbl]; exact h))
  have hll : (bAs (stp (tl p))).length ≤ 201 := by
    have h2 := sps_len (tl p)
    rw [len_sps', tl_len] at h2
    rw [bAs_len]
    omega
  have g1 : ¬ (200 : Int) < (p.size : Int) := by omega
  have HL0 := Lib.hid (show lst p 0 = 0 from rfl)
  clear hbl
  generalize bAs (stp (tl p)) = L at HST HEND HAT hll
  generalize lst p = ls at HAT HL0
  go_enter Try.func7, Try.ntmps7
  go_wp2_with fail
  refine HA.out.mono ?_
  rintro e w1 ⟨rfl, hb1⟩
  have HB1 := Lib.hid hb1
  clear hb1
  go_wp2_with fail
  refine (HST.out _).mono ?_
  rintro e W ⟨v, rfl, hr, hb⟩
  obtain ⟨A, c, rfl⟩ := strs_form hr rfl
  have HBW := Lib.hid (bt hb HB1.out)
  have HR := Lib.hid hr
  clear hb hr
  go_wp2
  go_loopg [5, 6] L.length (fun gh s5 s6 wr => ∃ (k : Nat), s6 = .int .i64 k ∧ s5 = .int .i64 (ls k : Int) ∧ k ≤ L.length ∧ gh = L.length - k ∧ Below W.heap.size W wr)
  case atStart => exact ⟨0, rfl, by rw [HL0.out]; rfl, Nat.zero_le _, rfl, Below.refl _ _⟩
  case round =>
    obtain ⟨k, rfl, rfl, hk, rfl, hbr⟩ := hrel
    have HBR := Lib.hid hbr
    clear hbr
    by_cases hlt : k < L.length
    · obtain ⟨s, hs, hls, hsz, hex, hln, hsl, hsk, hj⟩ := HAT.out k hlt
      have HSS := Lib.hid (fun w1 => split_any s w1 (by omega))
      have HBS := Lib.hid (fun w1 => base_any s w1 (by omega))
      have HUS := Lib.hid (fun w1 => up_any s w1 (by omega))
      have HR1 := Lib.hid (HR.out.below HBR.out)
      obtain ⟨ad, rfl, e0⟩ := strs_get HR1.out hs
      have d1 : decide ((s.size : Int) ≤ (ls k : Int)) = false := by rw [decide_eq_false]; omega
      have d2 : (s.toList != s.toList) = false := by simp
      have HLN := Lib.hid hln
      have HSK := Lib.hid hsk
      have HSL := Lib.hid hsl
      have HJ := Lib.hid hj
      clear hs hln hsl hsk hj
      go_wp2
      go_quiet (fail)
      go_wp2_with fail
      refine (HSS.out _).mono ?_
      rintro e w3 ⟨v3, rfl, hr3, hb3⟩
      obtain ⟨A3, c3, rfl⟩ := strs_form hr3 HSL.out
      obtain ⟨ad3, rfl, f0⟩ := strs_get hr3 HSK.out
      have HB3 := Lib.hid (show Below W.heap.size W w3 from bt hb3 (below_drewN HBR.out _))
      have k0 : w3.cell? (ad.add k) = some (.string s) := bc hb3 e0
      generalize bA (baseP (tl s)) = B at HBS f0
      generalize bA (upP (tl s)) = U at HUS HJ
      have n1 : ((k : Int) + 1 != (k : Int) + 1) = false := by simp
      have hw1 : IntKind.i64.wrap ((k : Int) + 1) = (k : Int) + 1 := by rw [IntKind.wrap_i64]; omega
      have b1 : (B.toList != B.toList) = false := by simp
      clear hb3 hr3 HSK HSL e0
      by_cases hk0 : 0 < k
      · obtain ⟨j, hjk⟩ : ∃ j, k = j + 1 := ⟨k - 1, by omega⟩
        obtain ⟨q, hq, huq, hqz⟩ := HJ.out j hjk
        obtain ⟨ad', had, q0⟩ := strs_get (HR.out.below HB3.out) hq
        injection had with had
        subst had
        have hi : ((k : Int) - 1) = (j : Int) := by omega
        have hw2 : IntKind.i64.wrap ((k : Int) - 1) = (j : Int) := by rw [IntKind.wrap_i64]; omega
        have hw3 : IntKind.i64.wrap (j : Int) = (j : Int) := by rw [IntKind.wrap_i64]; omega
        have hk0' : (0 : Int) < (k : Int) := by omega
        have a1 : (0 : Int) ≤ (k : Int) := by omega
        have a2 : (k : Int) < (k : Int) + 1 := by omega
        have a3 : (k : Int) < (L.length : Int) := by omega
        have a4 : (0 : Int) ≤ (j : Int) := by omega
        have a5 : (j : Int) < (L.length : Int) := by omega
        have hjl : j < L.length := by omega
        have hu1 : ¬ (q.size : Int) < (U.size : Int) := by omega
        have hu2 : decide ((q.size : Int) < (U.size : Int)) = false := by rw [decide_eq_false]; exact hu1
        have huz : U.size ≤ 300 := by omega
        clear hq hjk
        go_wp2_with fail
        have hs0 : w3.drew.cell? (ad.add k) = some (.string s) := k0
        have hs1 : w3.drew.cell? (ad3.add k) = some (.string B) := f0
        have hs2 : w3.drew.cell? (ad.add j) = some (.string q) := q0
        have hs3 : Below W.heap.size W w3.drew := HB3.out.drew
        clear k0 f0 q0
        go_region_held3 (fun w' => w'.cell? (ad.add k) = some (.string s) ∧ w'.cell? (ad3.add k) = some (.string B) ∧ w'.cell? (ad.add j) = some (.string q) ∧ Below W.heap.size W w')
          (first | exact ⟨hs0, hs1, hs2, hs3⟩ | exact ⟨bc hb4 hs0, bc hb4 hs1, bc hb4 hs2, bt hb4 hs3⟩ | exact ⟨bc hb5 (bc hb4 hs0), bc hb5 (bc hb4 hs1), bc hb5 (bc hb4 hs2), bt hb5 (bt hb4 hs3)⟩)
          (first | (go_at_call 18; (with_reducible refine (HBS.out _).mono ?_); rintro e w4 ⟨rfl, hb4⟩) | (go_at_call 20; (with_reducible refine (HUS.out _).mono ?_); rintro e w5 ⟨rfl, hb5⟩))
        all_goals
          go_wp2
          go_roundg (L.length - (k + 1))
          case measure => omega
          case rel => exact ⟨k + 1, by go_num, by rw [HLN.out], by omega, rfl, bt hb5 (bt hb4 hs3)⟩
      · have hk0' : ¬ (0 : Int) < (k : Int) := by omega
        have hk1 : decide ((0 : Int) < (k : Int)) = false := by rw [decide_eq_false]; exact hk0'
        have hk2 : decide (0 < k) = false := by rw [decide_eq_false]; exact hk0
        have a1 : (0 : Int) ≤ (k : Int) := by omega
        have a2 : (k : Int) < (k : Int) + 1 := by omega
        have a3 : (k : Int) < (L.length : Int) := by omega
        clear hk0
        go_wp2_with fail
        have hs0 : w3.drew.cell? (ad.add k) = some (.string s) := k0
        have hs1 : w3.drew.cell? (ad3.add k) = some (.string B) := f0
        have hs3 : Below W.heap.size W w3.drew := HB3.out.drew
        clear k0 f0
        refine wp_region_held_drew (S := fun w' => w'.cell? (ad.add k) = some (.string s) ∧ w'.cell? (ad3.add k) = some (.string B) ∧ Below W.heap.size W w') (by kernel_rfl) ⟨hs0, hs1, hs3⟩ (fun hHeld => ?_)
        refine wpAnyH_take (i := 0) (oi := { dst := some 59, op := Op.move (Operand.tmp 8), type := 23, pos := "law.go:110", after := #[], guard := none }) (v := ?_) rfl (by kernel_rfl) (by kernel_rfl) (by kernel_rfl) (fun _ _ _ h => h) (Or.inl ⟨by rfl, ?_⟩) (by assumption) ?_
        rotate_left
        · (intro wq hSw; (try dsimp only at hSw); go_simp; try with_reducible rfl)
        try simp only [Act.put, List.setIfInBounds_toArray, List.set_cons_zero, List.set_cons_succ]
        refine wpAnyH_take (i := 1) (oi := { dst := some 60, op := Op.call { callee := Callee.builtin Builtin.len, args := #[Operand.tmp 59], argTypes := #[23] }, type := 3, pos := "law.go:110", after := #[{ on := 0, ground := Ground.data }], guard := none }) (v := ?_) rfl (by kernel_rfl) (by kernel_rfl) (by kernel_rfl) (fun _ _ _ h => h) (Or.inl ⟨by rfl, ?_⟩) (by assumption) ?_
        rotate_left
        · (intro wq hSw; (try dsimp only at hSw); go_simp; try with_reducible rfl)
        try simp only [Act.put, List.setIfInBounds_toArray, List.set_cons_zero, List.set_cons_succ]
        refine wpAnyH_take (i := 2) (oi := { dst := some 61, op := Op.move (Operand.tmp 6), type := 3, pos := "law.go:110", after := #[], guard := none }) (v := ?_) rfl (by kernel_rfl) (by kernel_rfl) (by kernel_rfl) (fun _ _ _ h => h) (Or.inl ⟨by rfl, ?_⟩) (by assumption) ?_
        rotate_left
        · (intro wq hSw; (try dsimp only at hSw); go_simp; try with_reducible rfl)
        try simp only [Act.put, List.setIfInBounds_toArray, List.set_cons_zero, List.set_cons_succ]
        refine wpAnyH_take (i := 3) (oi := { dst := some 62, op := Op.binOp BinOp.add 3 (Operand.tmp 61) (Operand.const (Value.int IntKind.i64 1)) 3, type := 3, pos := "law.go:110", after := #[{ on := 2, ground := Ground.data }], guard := none }) (v := ?_) rfl (by kernel_rfl) (by kernel_rfl) (by kernel_rfl) (fun _ _ _ h => h) (Or.inl ⟨by rfl, ?_⟩) (by assumption) ?_
        rotate_left
        · (intro wq hSw; (try dsimp only at hSw); go_simp; try with_reducible rfl)
        try simp only [Act.put, List.setIfInBounds_toArray, List.set_cons_zero, List.set_cons_succ]
        refine wpAnyH_take (i := 4) (oi := { dst := some 63, op := Op.binOp BinOp.neq 3 (Operand.tmp 60) (Operand.tmp 62) 3, type := 4, pos := "law.go:110", after := #[{ on := 1, ground := Ground.data }, { on := 3, ground := Ground.data }], guard := none }) (v := ?_) rfl (by kernel_rfl) (by kernel_rfl) (by kernel_rfl) (fun _ _ _ h => h) (Or.inl ⟨by rfl, ?_⟩) (by assumption) ?_
        rotate_left
        · (intro wq hSw; (try dsimp only at hSw); go_simp; try with_reducible rfl)
        try simp only [Act.put, List.setIfInBounds_toArray, List.set_cons_zero, List.set_cons_succ]
        refine wpAnyH_take (i := 5) (oi := { dst := some 64, op := Op.move (Operand.tmp 63), type := 4, pos := "law.go:110", after := #[{ on := 4, ground := Ground.data }], guard := none }) (v := ?_) rfl (by kernel_rfl) (by kernel_rfl) (by kernel_rfl) (fun _ _ _ h => h) (Or.inl ⟨by rfl, ?_⟩) (by assumption) ?_
        rotate_left
        · (intro wq hSw; (try dsimp only at hSw); go_simp; try with_reducible rfl)
        try simp only [Act.put, List.setIfInBounds_toArray, List.set_cons_zero, List.set_cons_succ]
        refine wpAnyH_take (i := 6) (oi := { dst := some 65, op := Op.move (Operand.tmp 8), type := 23, pos := "law.go:110", after := #[{ on := 5, ground := Ground.guard }], guard := some (5, false) }) (v := ?_) rfl (by kernel_rfl) (by kernel_rfl) (by kernel_rfl) (fun _ _ _ h => h) (Or.inl ⟨by rfl, ?_⟩) (by assumption) ?_
        rotate_left
        · (intro wq hSw; (try dsimp only at hSw); go_simp; try with_reducible rfl)
        try simp only [Act.put, List.setIfInBounds_toArray, List.set_cons_zero, List.set_cons_succ]
        refine wpAnyH_take (i := 7) (oi := { dst := some 66, op := Op.move (Operand.tmp 6), type := 3, pos := "law.go:110", after := #[{ on := 5, ground := Ground.guard }], guard := some (5, false) }) (v := ?_) rfl (by kernel_rfl) (by kernel_rfl) (by kernel_rfl) (fun _ _ _ h => h) (Or.inl ⟨by rfl, ?_⟩) (by assumption) ?_
        rotate_left
        · (intro wq hSw; (try dsimp only at hSw); go_simp; try with_reducible rfl)
        try simp only [Act.put, List.setIfInBounds_toArray, List.set_cons_zero, List.set_cons_succ]
        refine wpAnyH_take (i := 8) (oi := { dst := some 67, op := Op.indexAddr 23 (Operand.tmp 65) (Operand.tmp 66), type := 0, pos := "law.go:110", after := #[{ on := 6, ground := Ground.data }, { on := 7, ground := Ground.data }, { on := 5, ground := Ground.guard }], guard := some (5, false) }) (v := ?_) rfl (by kernel_rfl) (by kernel_rfl) (by kernel_rfl) (fun _ _ _ h => h) (Or.inl ⟨by rfl, ?_⟩) (by assumption) ?_
        rotate_left
        · (intro wq hSw; (try dsimp only at hSw); go_simp; try with_reducible rfl)
        try simp only [Act.put, List.setIfInBounds_toArray, List.set_cons_zero, List.set_cons_succ]
        refine wpAnyH_take (i := 9) (oi := { dst := some 68, op := Op.load 9 (Operand.tmp 67), type := 9, pos := "law.go:110", after := #[{ on := 8, ground := Ground.data }, { on := 5, ground := Ground.guard }], guard := some (5, false) }) (v := ?_) rfl (by kernel_rfl) (by kernel_rfl) (by kernel_rfl) (fun _ _ _ h => h) (Or.inl ⟨by rfl, ?_⟩) (by assumption) ?_
        rotate_left
        · (intro wq hSw; (try dsimp only at hSw); go_simp; try with_reducible rfl)
        try simp only [Act.put, List.setIfInBounds_toArray, List.set_cons_zero, List.set_cons_succ]
        refine wpAnyH_take (i := 10) (oi := { dst := some 69, op := Op.move (Operand.tmp 4), type := 23, pos := "law.go:110", after := #[{ on := 5, ground := Ground.guard }], guard := some (5, false) }) (v := ?_) rfl (by kernel_rfl) (by kernel_rfl) (by kernel_rfl) (fun _ _ _ h => h) (Or.inl ⟨by rfl, ?_⟩) (by assumption) ?_
        rotate_left
        · (intro wq hSw; (try dsimp only at hSw); go_simp; try with_reducible rfl)
        try simp only [Act.put, List.setIfInBounds_toArray, List.set_cons_zero, List.set_cons_succ]
        refine wpAnyH_take (i := 11) (oi := { dst := some 70, op := Op.move (Operand.tmp 6), type := 3, pos := "law.go:110", after := #[{ on := 5, ground := Ground.guard }], guard := some (5, false) }) (v := ?_) rfl (by kernel_rfl) (by kernel_rfl) (by kernel_rfl) (fun _ _ _ h => h) (Or.inl ⟨by rfl, ?_⟩) (by assumption) ?_
        rotate_left
        · (intro wq hSw; (try dsimp only at hSw); go_simp; try with_reducible rfl)
        try simp only [Act.put, List.setIfInBounds_toArray, List.set_cons_zero, List.set_cons_succ]
        refine wpAnyH_take (i := 12) (oi := { dst := some 71, op := Op.indexAddr 23 (Operand.tmp 69) (Operand.tmp 70), type := 0, pos := "law.go:110", after := #[{ on := 10, ground := Ground.data }, { on := 11, ground := Ground.data }, { on := 5, ground := Ground.guard }], guard := some (5, false) }) (v := ?_) rfl (by kernel_rfl) (by kernel_rfl) (by kernel_rfl) (fun _ _ _ h => h) (Or.inl ⟨by rfl, ?_⟩) (by assumption) ?_
        rotate_left
        · (intro wq hSw; (try dsimp only at hSw); go_simp; try with_reducible rfl)
        try simp only [Act.put, List.setIfInBounds_toArray, List.set_cons_zero, List.set_cons_succ]
        refine wpAnyH_take (i := 13) (oi := { dst := some 72, op := Op.load 9 (Operand.tmp 71), type := 9, pos := "law.go:110", after := #[{ on := 12, ground := Ground.data }, { on := 5, ground := Ground.guard }], guard := some (5, false) }) (v := ?_) rfl (by kernel_rfl) (by kernel_rfl) (by kernel_rfl) (fun _ _ _ h => h) (Or.inl ⟨by rfl, ?_⟩) (by assumption) ?_
        rotate_left
        · (intro wq hSw; (try dsimp only at hSw); go_simp; try with_reducible rfl)
        try simp only [Act.put, List.setIfInBounds_toArray, List.set_cons_zero, List.set_cons_succ]
        refine wpAnyH_ready (rs := [14]) (by kernel_rfl) (by simp) ?_
        refine AllReadyH.cons (o := { dst := some 73, op := Op.call { callee := Callee.value (Operand.func 18), args := #[Operand.tmp 72], argTypes := #[9] }, type := 9, pos := "law.go:110", after := #[{ on := 13, ground := Ground.data }, { on := 5, ground := Ground.chain }, { on := 5, ground := Ground.guard }], guard := some (5, false) }) rfl (fun K hK => ?_) AllReadyH.nil
        go_simp
        refine (HBS.out _).mono ?_
        rintro e w4 ⟨rfl, hb4⟩
        refine hK.out _ _ ⟨bc hb4 hs0, bc hb4 hs1, bt hb4 hs3⟩ (fun hHeld => ?_)
        clear hK K
        try simp only [Act.put, List.setIfInBounds_toArray, List.set_cons_zero, List.set_cons_succ]
        refine wpAnyH_take (i := 15) (oi := { dst := some 74, op := Op.binOp BinOp.neq 9 (Operand.tmp 68) (Operand.tmp 73) 9, type := 4, pos := "law.go:110", after := #[{ on := 9, ground := Ground.data }, { on := 14, ground := Ground.data }, { on := 5, ground := Ground.guard }], guard := some (5, false) }) (v := ?_) rfl (by kernel_rfl) (by kernel_rfl) (by kernel_rfl) (fun _ _ _ h => h) (Or.inl ⟨by rfl, ?_⟩) (by assumption) ?_
        rotate_left
        · (intro wq hSw; (try dsimp only at hSw); go_simp; try with_reducible rfl)
        try simp only [Act.put, List.setIfInBounds_toArray, List.set_cons_zero, List.set_cons_succ]
        refine wpAnyH_take (i := 16) (oi := { dst := some 75, op := Op.pick (Operand.tmp 64) (Operand.const (Value.bool true)) (Operand.tmp 74), type := 4, pos := "law.go:110", after := #[{ on := 5, ground := Ground.data }, { on := 15, ground := Ground.data }], guard := none }) (v := ?_) rfl (by kernel_rfl) (by kernel_rfl) (by kernel_rfl) (fun _ _ _ h => h) (Or.inl ⟨by rfl, ?_⟩) (by assumption) ?_
        rotate_left
        · (intro wq hSw; (try dsimp only at hSw); go_simp; try with_reducible rfl)
        try simp only [Act.put, List.setIfInBounds_toArray, List.set_cons_zero, List.set_cons_succ]
        refine wpAnyH_take (i := 17) (oi := { dst := some 76, op := Op.move (Operand.tmp 75), type := 4, pos := "law.go:110", after := #[{ on := 16, ground := Ground.data }, { on := 14, ground := Ground.chain }], guard := none }) (v := ?_) rfl (by kernel_rfl) (by kernel_rfl) (by kernel_rfl) (fun _ _ _ h => h) (Or.inl ⟨by rfl, ?_⟩) (by assumption) ?_
        rotate_left
        · (intro wq hSw; (try dsimp only at hSw); go_simp; try with_reducible rfl)
        try simp only [Act.put, List.setIfInBounds_toArray, List.set_cons_zero, List.set_cons_succ]
        refine wpAnyH_take (i := 18) (oi := { dst := some 77, op := Op.move (Operand.tmp 6), type := 3, pos := "law.go:110", after := #[{ on := 17, ground := Ground.guard }], guard := some (17, false) }) (v := ?_) rfl (by kernel_rfl) (by kernel_rfl) (by kernel_rfl) (fun _ _ _ h => h) (Or.inl ⟨by rfl, ?_⟩) (by assumption) ?_
        rotate_left
        · (intro wq hSw; (try dsimp only at hSw); go_simp; try with_reducible rfl)
        try simp only [Act.put, List.setIfInBounds_toArray, List.set_cons_zero, List.set_cons_succ]
        refine wpAnyH_take (i := 19) (oi := { dst := some 78, op := Op.binOp BinOp.gtr 3 (Operand.tmp 77) (Operand.const (Value.int IntKind.i64 0)) 3, type := 4, pos := "law.go:110", after := #[{ on := 18, ground := Ground.data }, { on := 17, ground := Ground.guard }], guard := some (17, false) }) (v := ?_) rfl (by kernel_rfl) (by kernel_rfl) (by kernel_rfl) (fun _ _ _ h => h) (Or.inl ⟨by rfl, ?_⟩) (by assumption) ?_
        rotate_left
        · (intro wq hSw; (try dsimp only at hSw); go_simp; try with_reducible rfl)
        try simp only [Act.put, List.setIfInBounds_toArray, List.set_cons_zero, List.set_cons_succ]
        refine wpAnyH_take (i := 20) (oi := { dst := some 79, op := Op.move (Operand.tmp 78), type := 4, pos := "law.go:110", after := #[{ on := 19, ground := Ground.data }, { on := 17, ground := Ground.chain }, { on := 17, ground := Ground.guard }], guard := some (17, false) }) (v := ?_) rfl (by kernel_rfl) (by kernel_rfl) (by kernel_rfl) (fun _ _ _ h => h) (Or.inl ⟨by rfl, ?_⟩) (by assumption) ?_
        rotate_left
        · (intro wq hSw; (try dsimp only at hSw); go_simp; try with_reducible rfl)
        try simp only [Act.put, List.setIfInBounds_toArray, List.set_cons_zero, List.set_cons_succ]
        refine wpAnyH_take (i := 21) (oi := { dst := some 80, op := Op.move (Operand.tmp 4), type := 23, pos := "law.go:110", after := #[{ on := 20, ground := Ground.guard }], guard := some (20, true) }) (v := undef) rfl (by kernel_rfl) (by kernel_rfl) (by kernel_rfl) (fun _ _ _ h => h) (Or.inr ⟨by rfl, rfl⟩) (by assumption) ?_
        try simp only [Act.put, List.setIfInBounds_toArray, List.set_cons_zero, List.set_cons_succ]
        refine wpAnyH_take (i := 22) (oi := { dst := some 81, op := Op.move (Operand.tmp 6), type := 3, pos := "law.go:110", after := #[{ on := 20, ground := Ground.guard }], guard := some (20, true) }) (v := undef) rfl (by kernel_rfl) (by kernel_rfl) (by kernel_rfl) (fun _ _ _ h => h) (Or.inr ⟨by rfl, rfl⟩) (by assumption) ?_
        try simp only [Act.put, List.setIfInBounds_toArray, List.set_cons_zero, List.set_cons_succ]
        refine wpAnyH_take (i := 23) (oi := { dst := some 82, op := Op.indexAddr 23 (Operand.tmp 80) (Operand.tmp 81), type := 0, pos := "law.go:110", after := #[{ on := 21, ground := Ground.data }, { on := 22, ground := Ground.data }, { on := 20, ground := Ground.guard }], guard := some (20, true) }) (v := undef) rfl (by kernel_rfl) (by kernel_rfl) (by kernel_rfl) (fun _ _ _ h => h) (Or.inr ⟨by rfl, rfl⟩) (by assumption) ?_
        try simp only [Act.put, List.setIfInBounds_toArray, List.set_cons_zero, List.set_cons_succ]
        refine wpAnyH_take (i := 24) (oi := { dst := some 83, op := Op.load 9 (Operand.tmp 82), type := 9, pos := "law.go:110", after := #[{ on := 23, ground := Ground.data }, { on := 20, ground := Ground.guard }], guard := some (20, true) }) (v := undef) rfl (by kernel_rfl) (by kernel_rfl) (by kernel_rfl) (fun _ _ _ h => h) (Or.inr ⟨by rfl, rfl⟩) (by assumption) ?_
        try simp only [Act.put, List.setIfInBounds_toArray, List.set_cons_zero, List.set_cons_succ]
        refine wpAnyH_take (i := 25) (oi := { dst := some 84, op := Op.call { callee := Callee.value (Operand.func 20), args := #[Operand.tmp 83], argTypes := #[9] }, type := 9, pos := "law.go:110", after := #[{ on := 24, ground := Ground.data }, { on := 20, ground := Ground.chain }, { on := 20, ground := Ground.guard }], guard := some (20, true) }) (v := undef) rfl (by kernel_rfl) (by kernel_rfl) (by kernel_rfl) (fun _ _ _ h => h) (Or.inr ⟨by rfl, rfl⟩) (by assumption) ?_
        try simp only [Act.put, List.setIfInBounds_toArray, List.set_cons_zero, List.set_cons_succ]
        refine wpAnyH_take (i := 26) (oi := { dst := some 85, op := Op.call { callee := Callee.builtin Builtin.len, args := #[Operand.tmp 84], argTypes := #[9] }, type := 3, pos := "law.go:110", after := #[{ on := 25, ground := Ground.data }, { on := 20, ground := Ground.guard }], guard := some (20, true) }) (v := undef) rfl (by kernel_rfl) (by kernel_rfl) (by kernel_rfl) (fun _ _ _ h => h) (Or.inr ⟨by rfl, rfl⟩) (by assumption) ?_
        try simp only [Act.put, List.setIfInBounds_toArray, List.set_cons_zero, List.set_cons_succ]
        refine wpAnyH_take (i := 27) (oi := { dst := some 86, op := Op.move (Operand.tmp 4), type := 23, pos := "law.go:110", after := #[{ on := 20, ground := Ground.guard }], guard := some (20, true) }) (v := undef) rfl (by kernel_rfl) (by kernel_rfl) (by kernel_rfl) (fun _ _ _ h => h) (Or.inr ⟨by rfl, rfl⟩) (by assumption) ?_
        try simp only [Act.put, List.setIfInBounds_toArray, List.set_cons_zero, List.set_cons_succ]
        refine wpAnyH_take (i := 28) (oi := { dst := some 87, op := Op.move (Operand.tmp 6), type := 3, pos := "law.go:110", after := #[{ on := 20, ground := Ground.guard }], guard := some (20, true) }) (v := undef) rfl (by kernel_rfl) (by kernel_rfl) (by kernel_rfl) (fun _ _ _ h => h) (Or.inr ⟨by rfl, rfl⟩) (by assumption) ?_
        try simp only [Act.put, List.setIfInBounds_toArray, List.set_cons_zero, List.set_cons_succ]
        refine wpAnyH_take (i := 29) (oi := { dst := some 88, op := Op.binOp BinOp.sub 3 (Operand.tmp 87) (Operand.const (Value.int IntKind.i64 1)) 3, type := 3, pos := "law.go:110", after := #[{ on := 28, ground := Ground.data }, { on := 20, ground := Ground.guard }], guard := some (20, true) }) (v := undef) rfl (by kernel_rfl) (by kernel_rfl) (by kernel_rfl) (fun _ _ _ h => h) (Or.inr ⟨by rfl, rfl⟩) (by assumption) ?_
        try simp only [Act.put, List.setIfInBounds_toArray, List.set_cons_zero, List.set_cons_succ]
        refine wpAnyH_take (i := 30) (oi := { dst := some 89, op := Op.indexAddr 23 (Operand.tmp 86) (Operand.tmp 88), type := 0, pos := "law.go:110", after := #[{ on := 27, ground := Ground.data }, { on := 29, ground := Ground.data }, { on := 20, ground := Ground.guard }], guard := some (20, true) }) (v := undef) rfl (by kernel_rfl) (by kernel_rfl) (by kernel_rfl) (fun _ _ _ h => h) (Or.inr ⟨by rfl, rfl⟩) (by assumption) ?_
        try simp only [Act.put, List.setIfInBounds_toArray, List.set_cons_zero, List.set_cons_succ]
        refine wpAnyH_take (i := 31) (oi := { dst := some 90, op := Op.load 9 (Operand.tmp 89), type := 9, pos := "law.go:110", after := #[{ on := 30, ground := Ground.data }, { on := 20, ground := Ground.guard }], guard := some (20, true) }) (v := undef) rfl (by kernel_rfl) (by kernel_rfl) (by kernel_rfl) (fun _ _ _ h => h) (Or.inr ⟨by rfl, rfl⟩) (by assumption) ?_
        try simp only [Act.put, List.setIfInBounds_toArray, List.set_cons_zero, List.set_cons_succ]
        refine wpAnyH_take (i := 32) (oi := { dst := some 91, op := Op.call { callee := Callee.builtin Builtin.len, args := #[Operand.tmp 90], argTypes := #[9] }, type := 3, pos := "law.go:110", after := #[{ on := 31, ground := Ground.data }, { on := 20, ground := Ground.guard }], guard := some (20, true) }) (v := undef) rfl (by kernel_rfl) (by kernel_rfl) (by kernel_rfl) (fun _ _ _ h => h) (Or.inr ⟨by rfl, rfl⟩) (by assumption) ?_
        try simp only [Act.put, List.setIfInBounds_toArray, List.set_cons_zero, List.set_cons_succ]
        refine wpAnyH_take (i := 33) (oi := { dst := some 92, op := Op.binOp BinOp.gtr 3 (Operand.tmp 85) (Operand.tmp 91) 3, type := 4, pos := "law.go:110", after := #[{ on := 26, ground := Ground.data }, { on := 32, ground := Ground.data }, { on := 20, ground := Ground.guard }], guard := some (20, true) }) (v := undef) rfl (by kernel_rfl) (by kernel_rfl) (by kernel_rfl) (fun _ _ _ h => h) (Or.inr ⟨by rfl, rfl⟩) (by assumption) ?_
        try simp only [Act.put, List.setIfInBounds_toArray, List.set_cons_zero, List.set_cons_succ]
        refine wpAnyH_take (i := 34) (oi := { dst := some 93, op := Op.pick (Operand.tmp 79) (Operand.tmp 92) (Operand.const (Value.bool false)), type := 4, pos := "law.go:110", after := #[{ on := 20, ground := Ground.data }, { on := 33, ground := Ground.data }, { on := 17, ground := Ground.guard }], guard := some (17, false) }) (v := ?_) rfl (by kernel_rfl) (by kernel_rfl) (by kernel_rfl) (fun _ _ _ h => h) (Or.inl ⟨by rfl, ?_⟩) (by assumption) ?_
        rotate_left
        · (intro wq hSw; (try dsimp only at hSw); go_simp; try with_reducible rfl)
        try simp only [Act.put, List.setIfInBounds_toArray, List.set_cons_zero, List.set_cons_succ]
        refine wpAnyH_take (i := 35) (oi := { dst := some 94, op := Op.pick (Operand.tmp 76) (Operand.const (Value.bool true)) (Operand.tmp 93), type := 4, pos := "law.go:110", after := #[{ on := 17, ground := Ground.data }, { on := 34, ground := Ground.data }], guard := none }) (v := ?_) rfl (by kernel_rfl) (by kernel_rfl) (by kernel_rfl) (fun _ _ _ h => h) (Or.inl ⟨by rfl, ?_⟩) (by assumption) ?_
        rotate_left
        · (intro wq hSw; (try dsimp only at hSw); go_simp; try with_reducible rfl)
        try simp only [Act.put, List.setIfInBounds_toArray, List.set_cons_zero, List.set_cons_succ]
        refine wpAnyH_done (by kernel_rfl) ?_ _
        go_wp2
        go_roundg (L.length - (k + 1))
        case measure => omega
        case rel => exact ⟨k + 1, by go_num, by rw [HLN.out], by omega, rfl, bt hb4 hs3⟩
    · have HN := Lib.hid (fun w2 => split_any p w2 (by omega))
      generalize bAs (splitP (tl p)) = M at HN HEND
      generalize absP (tl p) = ap at HN
      rcases HEND.out with hm | ⟨hm, hd⟩
      · have m1 : ((L.length : Int) == (L.length : Int)) = true := by simp
        go_wp2_with fail
        refine (HN.out _).mono ?_
        rintro e w3 ⟨v3, rfl, hr3, hb3⟩
        obtain ⟨A3, c3, rfl⟩ := strs_form hr3 hm
        have HB3 := Lib.hid (bt hb3 HBR.out)
        clear hb3 hr3
        go_wp2
        go_ret
        exact ⟨rfl, bt HB3.out HBW.out⟩
      · have m1 : ((L.length : Int) + 1 == (L.length : Int)) = false := by rw [beq_eq_false_iff_ne]; omega
        have m2 : ((L.length : Int) + 1 == (L.length : Int) + 1) = true := by simp
        have HD := Lib.hid hd
        clear hd
        go_wp2_with fail
        refine (HN.out _).mono ?_
        rintro e w3 ⟨v3, rfl, hr3, hb3⟩
        obtain ⟨A3, c3, rfl⟩ := strs_form hr3 hm
        obtain ⟨ad3, rfl, f0⟩ := strs_get hr3 HD.out
        have HB3 := Lib.hid (bt hb3 HBR.out)
        clear hb3 hr3
        go_wp2
        go_ret
        exact ⟨rfl, bt HB3.out HBW.out⟩
set_option maxRecDepth 100000 in
set_option maxHeartbeats 8000000 in
theorem stepsWalk (p : ByteArray) (w : World) (hp : p.size ≤ maxLen) :
    Calls Try.prog 7 #[.string p] w fun e w' => e = .returned (.bool true) ∧ Below w.heap.size w w' := by
  by_cases h : 200 < p.size
  · have HA := Lib.hid (awake_any w)
    have hp' : p.size ≤ 9223372036854775807 := by unfold maxLen at hp; omega
    have h' : (200 : Int) < (p.size : Int) := by omega
    go_enter Try.func7, Try.ntmps7
    go_wp2_with fail
    refine HA.out.mono ?_
    rintro e w1 ⟨rfl, hb⟩
    have HB1 := Lib.hid hb
    clear hb
    go_wp2
    go_ret
    exact ⟨rfl, HB1.out⟩
  · exact stepsLaw_in p w (by omega)
end Go.Proofs.Ythledmbdlengiaa
