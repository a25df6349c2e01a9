/-
  What the reference's in answers.
-/
import Derived.Test.YtbjajipeiigodaaDoorRBits
namespace Go.Proofs.YtbjajipeiigodaaDoor
open Go Go.RowKit

theorem rin_copy_hi (op : Int) (p c m i : Nat) (dir : Bool) (w : World) (hc : 0 < c) (hi : ¬ i < 9) : Calls Tryd.prog 68 #[.agg #[.int .u8 op, .int .i64 (p : Int), .int .i64 (c : Int)], .int .i64 (m : Int), .bool dir, .int .i64 (i : Int)] w fun e w' => e = .returned (.bool (inB p c m dir i)) ∧ Below w.heap.size w w' := by
  have HE := Lib.hid (show inB p c m dir i = false by rw [inB, if_pos hc]; simp [hi])
  have h1 : (0 : Int) < c := by omega
  have h2 : ¬ (i : Int) < 9 := by omega
  go_enter Tryd.func68, Tryd.ntmps68
  go_wp2
  go_ret
  exact ⟨ret_bool HE.out.symm, (Below.refl _ _).alloc (Nat.le_refl _) _⟩
theorem rin_copy_lo (op : Int) (p c m i : Nat) (dir : Bool) (w : World) (hc : 0 < c) (hc3 : c ≤ 3) (hi : i < 9) : Calls Tryd.prog 68 #[.agg #[.int .u8 op, .int .i64 (p : Int), .int .i64 (c : Int)], .int .i64 (m : Int), .bool dir, .int .i64 (i : Int)] w fun e w' => e = .returned (.bool (inB p c m dir i)) ∧ Below w.heap.size w w' := by
  have HE := Lib.hid (show inB p c m dir i = (clN m (c - 1)).testBit (i % 3) by rw [inB, if_pos hc]; simp [hi])
  have h1 : (0 : Int) < c := by omega
  have h2 : (i : Int) < 9 := by omega
  have HC := Lib.hid (fun w => rclass_any (m : Int) ((c : Int) - 1) w)
  have hcl : cls (m : Int) ((c : Int) - 1) = (clN m (c - 1) : Nat) := by
    rw [← cls_nat m (c - 1) (by omega)]
    congr 1
    omega
  rw [hcl] at HC
  clear hcl
  have hlt := clN_lt m (c - 1)
  generalize clN m (c - 1) = k at HC HE hlt
  have HBT := Lib.hid (fun w => rbit_any k (i % 3) w (by omega) (by omega))
  rw [show ((i % 3 : Nat) : Int) = (i : Int) % 3 by omega] at HBT
  go_enter Tryd.func68, Tryd.ntmps68
  go_wp2_with fail
  refine (HC.out _).mono ?_
  rintro e w1 ⟨rfl, rfl⟩
  go_wp2_with fail
  refine (HBT.out _).mono ?_
  rintro e w1 ⟨rfl, rfl⟩
  go_wp2
  go_ret
  exact ⟨ret_bool HE.out.symm, (Below.refl _ _).alloc (Nat.le_refl _) _⟩
theorem rin_high (op : Int) (p m i : Nat) (dir : Bool) (w : World) (hp : p < 64) (hi : 9 ≤ i) : Calls Tryd.prog 68 #[.agg #[.int .u8 op, .int .i64 (p : Int), .int .i64 0], .int .i64 (m : Int), .bool dir, .int .i64 (i : Int)] w fun e w' => e = .returned (.bool (inB p 0 m dir i)) ∧ Below w.heap.size w w' := by
  by_cases h9 : i = 9
  · subst h9
    have HE := Lib.hid (show inB p 0 m dir 9 = p.testBit 5 by rw [inB, if_neg (by decide), if_pos rfl])
    have HBT := Lib.hid (fun w => rbit_any p 5 w (by omega) (by omega))
    go_enter Tryd.func68, Tryd.ntmps68
    go_wp2_with fail
    refine (HBT.out _).mono ?_
    rintro e w1 ⟨rfl, rfl⟩
    go_wp2
    go_ret
    exact ⟨ret_bool HE.out.symm, (Below.refl _ _).alloc (Nat.le_refl _) _⟩
  · have h9' : ((i : Int) == 9) = false := by rw [beq_eq_false_iff_ne]; omega
    have h10 : (9 : Int) < i := by omega
    have HE := Lib.hid (show inB p 0 m dir i = p.testBit 4 by rw [inB, if_neg (by decide), if_neg h9, if_pos (by omega)])
    have HBT := Lib.hid (fun w => rbit_any p 4 w (by omega) (by omega))
    clear h9
    go_enter Tryd.func68, Tryd.ntmps68
    go_wp2_with fail
    refine (HBT.out _).mono ?_
    rintro e w1 ⟨rfl, rfl⟩
    go_wp2
    go_ret
    exact ⟨ret_bool HE.out.symm, (Below.refl _ _).alloc (Nat.le_refl _) _⟩
set_option maxHeartbeats 4000000 in
theorem rin_low (op : Int) (p m i : Nat) (dir : Bool) (w : World) (hp : p < 64) (hm : m < 4096) (hi : i < 9) : Calls Tryd.prog 68 #[.agg #[.int .u8 op, .int .i64 (p : Int), .int .i64 0], .int .i64 (m : Int), .bool dir, .int .i64 (i : Int)] w fun e w' => e = .returned (.bool (inB p 0 m dir i)) ∧ Below w.heap.size w w' := by
  have HE := Lib.hid (show inB p 0 m dir i = (p.testBit (i % 3) || decide (i % 3 = 0) && p.testBit 3 && (dir || (m.testBit 0 || m.testBit 3 || m.testBit 6))) by rw [inB, if_neg (by decide), if_neg (by omega), if_neg (by omega)]; rfl)
  obtain ⟨X, hX⟩ : ∃ X, inB p 0 m dir i = X := ⟨_, rfl⟩
  rw [hX] at HE ⊢
  clear hX
  have h9' : ((i : Int) == 9) = false := by rw [beq_eq_false_iff_ne]; omega
  have h10 : ¬ (9 : Int) < i := by omega
  have HM0 := Lib.hid (fun w => rbit_any m 0 w (by omega) (by omega))
  have HM3 := Lib.hid (fun w => rbit_any m 3 w (by omega) (by omega))
  have HM6 := Lib.hid (fun w => rbit_any m 6 w (by omega) (by omega))
  have HPI := Lib.hid (fun w => rbit_any p (i % 3) w (by omega) (by omega))
  have HP3 := Lib.hid (fun w => rbit_any p 3 w (by omega) (by omega))
  rw [show ((i % 3 : Nat) : Int) = (i : Int) % 3 by omega] at HPI
  generalize m.testBit 0 = b0 at HM0 HE
  generalize m.testBit 3 = b3 at HM3 HE
  generalize m.testBit 6 = b6 at HM6 HE
  generalize p.testBit (i % 3) = bi at HPI HE
  generalize p.testBit 3 = p3 at HP3 HE
  have hz : (((i : Int) % 3 == 0) = true ∧ decide (i % 3 = 0) = true) ∨ (((i : Int) % 3 == 0) = false ∧ decide (i % 3 = 0) = false) := by
    by_cases h : i % 3 = 0
    · left; exact ⟨by rw [beq_iff_eq]; omega, by simpa using h⟩
    · right; exact ⟨by rw [beq_eq_false_iff_ne]; omega, by simpa using h⟩
  cases b0 with
  | true =>
    try simp at HE
    cases bi with
    | true =>
      try simp at HE
      clear hz
      go_enter Tryd.func68, Tryd.ntmps68
      go_wp2_with fail
      refine (HM0.out _).mono ?_
      rintro e w1 ⟨rfl, rfl⟩
      go_wp2_with fail
      refine (HPI.out _).mono ?_
      rintro e w1 ⟨rfl, rfl⟩
      go_wp2
      go_ret
      exact ⟨ret_bool HE.out.symm, (Below.refl _ _).alloc (Nat.le_refl _) _⟩
    | false =>
      rcases hz with ⟨hz, hz'⟩ | ⟨hz, hz'⟩
      · rw [hz'] at HE
        clear hz'
        cases p3 with
        | false =>
          try simp at HE
          go_enter Tryd.func68, Tryd.ntmps68
          go_wp2_with fail
          refine (HM0.out _).mono ?_
          rintro e w1 ⟨rfl, rfl⟩
          go_wp2_with fail
          refine (HPI.out _).mono ?_
          rintro e w1 ⟨rfl, rfl⟩
          go_wp2_with fail
          refine (HP3.out _).mono ?_
          rintro e w1 ⟨rfl, rfl⟩
          go_wp2
          go_ret
          exact ⟨ret_bool HE.out.symm, (Below.refl _ _).alloc (Nat.le_refl _) _⟩
        | true =>
          cases dir with
          | true =>
            try simp at HE
            go_enter Tryd.func68, Tryd.ntmps68
            go_wp2_with fail
            refine (HM0.out _).mono ?_
            rintro e w1 ⟨rfl, rfl⟩
            go_wp2_with fail
            refine (HPI.out _).mono ?_
            rintro e w1 ⟨rfl, rfl⟩
            go_wp2_with fail
            refine (HP3.out _).mono ?_
            rintro e w1 ⟨rfl, rfl⟩
            go_wp2
            go_ret
            exact ⟨ret_bool HE.out.symm, (Below.refl _ _).alloc (Nat.le_refl _) _⟩
          | false =>
            try simp at HE
            go_enter Tryd.func68, Tryd.ntmps68
            go_wp2_with fail
            refine (HM0.out _).mono ?_
            rintro e w1 ⟨rfl, rfl⟩
            go_wp2_with fail
            refine (HPI.out _).mono ?_
            rintro e w1 ⟨rfl, rfl⟩
            go_wp2_with fail
            refine (HP3.out _).mono ?_
            rintro e w1 ⟨rfl, rfl⟩
            go_wp2
            go_ret
            exact ⟨ret_bool HE.out.symm, (Below.refl _ _).alloc (Nat.le_refl _) _⟩
      · rw [hz'] at HE
        clear hz'
        try simp at HE
        go_enter Tryd.func68, Tryd.ntmps68
        go_wp2_with fail
        refine (HM0.out _).mono ?_
        rintro e w1 ⟨rfl, rfl⟩
        go_wp2_with fail
        refine (HPI.out _).mono ?_
        rintro e w1 ⟨rfl, rfl⟩
        go_wp2
        go_ret
        exact ⟨ret_bool HE.out.symm, (Below.refl _ _).alloc (Nat.le_refl _) _⟩
  | false =>
    cases b3 with
    | true =>
      try simp at HE
      cases bi with
      | true =>
        try simp at HE
        clear hz
        go_enter Tryd.func68, Tryd.ntmps68
        go_wp2_with fail
        refine (HM0.out _).mono ?_
        rintro e w1 ⟨rfl, rfl⟩
        go_wp2_with fail
        refine (HM3.out _).mono ?_
        rintro e w1 ⟨rfl, rfl⟩
        go_wp2_with fail
        refine (HPI.out _).mono ?_
        rintro e w1 ⟨rfl, rfl⟩
        go_wp2
        go_ret
        exact ⟨ret_bool HE.out.symm, (Below.refl _ _).alloc (Nat.le_refl _) _⟩
      | false =>
        rcases hz with ⟨hz, hz'⟩ | ⟨hz, hz'⟩
        · rw [hz'] at HE
          clear hz'
          cases p3 with
          | false =>
            try simp at HE
            go_enter Tryd.func68, Tryd.ntmps68
            go_wp2_with fail
            refine (HM0.out _).mono ?_
            rintro e w1 ⟨rfl, rfl⟩
            go_wp2_with fail
            refine (HM3.out _).mono ?_
            rintro e w1 ⟨rfl, rfl⟩
            go_wp2_with fail
            refine (HPI.out _).mono ?_
            rintro e w1 ⟨rfl, rfl⟩
            go_wp2_with fail
            refine (HP3.out _).mono ?_
            rintro e w1 ⟨rfl, rfl⟩
            go_wp2
            go_ret
            exact ⟨ret_bool HE.out.symm, (Below.refl _ _).alloc (Nat.le_refl _) _⟩
          | true =>
            cases dir with
            | true =>
              try simp at HE
              go_enter Tryd.func68, Tryd.ntmps68
              go_wp2_with fail
              refine (HM0.out _).mono ?_
              rintro e w1 ⟨rfl, rfl⟩
              go_wp2_with fail
              refine (HM3.out _).mono ?_
              rintro e w1 ⟨rfl, rfl⟩
              go_wp2_with fail
              refine (HPI.out _).mono ?_
              rintro e w1 ⟨rfl, rfl⟩
              go_wp2_with fail
              refine (HP3.out _).mono ?_
              rintro e w1 ⟨rfl, rfl⟩
              go_wp2
              go_ret
              exact ⟨ret_bool HE.out.symm, (Below.refl _ _).alloc (Nat.le_refl _) _⟩
            | false =>
              try simp at HE
              go_enter Tryd.func68, Tryd.ntmps68
              go_wp2_with fail
              refine (HM0.out _).mono ?_
              rintro e w1 ⟨rfl, rfl⟩
              go_wp2_with fail
              refine (HM3.out _).mono ?_
              rintro e w1 ⟨rfl, rfl⟩
              go_wp2_with fail
              refine (HPI.out _).mono ?_
              rintro e w1 ⟨rfl, rfl⟩
              go_wp2_with fail
              refine (HP3.out _).mono ?_
              rintro e w1 ⟨rfl, rfl⟩
              go_wp2
              go_ret
              exact ⟨ret_bool HE.out.symm, (Below.refl _ _).alloc (Nat.le_refl _) _⟩
        · rw [hz'] at HE
          clear hz'
          try simp at HE
          go_enter Tryd.func68, Tryd.ntmps68
          go_wp2_with fail
          refine (HM0.out _).mono ?_
          rintro e w1 ⟨rfl, rfl⟩
          go_wp2_with fail
          refine (HM3.out _).mono ?_
          rintro e w1 ⟨rfl, rfl⟩
          go_wp2_with fail
          refine (HPI.out _).mono ?_
          rintro e w1 ⟨rfl, rfl⟩
          go_wp2
          go_ret
          exact ⟨ret_bool HE.out.symm, (Below.refl _ _).alloc (Nat.le_refl _) _⟩
    | false =>
      try simp at HE
      cases b6 with
      | true =>
        try simp at HE
        cases bi with
        | true =>
          try simp at HE
          clear hz
          go_enter Tryd.func68, Tryd.ntmps68
          go_wp2_with fail
          refine (HM0.out _).mono ?_
          rintro e w1 ⟨rfl, rfl⟩
          go_wp2_with fail
          refine (HM3.out _).mono ?_
          rintro e w1 ⟨rfl, rfl⟩
          go_wp2_with fail
          refine (HM6.out _).mono ?_
          rintro e w1 ⟨rfl, rfl⟩
          go_wp2_with fail
          refine (HPI.out _).mono ?_
          rintro e w1 ⟨rfl, rfl⟩
          go_wp2
          go_ret
          exact ⟨ret_bool HE.out.symm, (Below.refl _ _).alloc (Nat.le_refl _) _⟩
        | false =>
          rcases hz with ⟨hz, hz'⟩ | ⟨hz, hz'⟩
          · rw [hz'] at HE
            clear hz'
            cases p3 with
            | false =>
              try simp at HE
              go_enter Tryd.func68, Tryd.ntmps68
              go_wp2_with fail
              refine (HM0.out _).mono ?_
              rintro e w1 ⟨rfl, rfl⟩
              go_wp2_with fail
              refine (HM3.out _).mono ?_
              rintro e w1 ⟨rfl, rfl⟩
              go_wp2_with fail
              refine (HM6.out _).mono ?_
              rintro e w1 ⟨rfl, rfl⟩
              go_wp2_with fail
              refine (HPI.out _).mono ?_
              rintro e w1 ⟨rfl, rfl⟩
              go_wp2_with fail
              refine (HP3.out _).mono ?_
              rintro e w1 ⟨rfl, rfl⟩
              go_wp2
              go_ret
              exact ⟨ret_bool HE.out.symm, (Below.refl _ _).alloc (Nat.le_refl _) _⟩
            | true =>
              cases dir with
              | true =>
                try simp at HE
                go_enter Tryd.func68, Tryd.ntmps68
                go_wp2_with fail
                refine (HM0.out _).mono ?_
                rintro e w1 ⟨rfl, rfl⟩
                go_wp2_with fail
                refine (HM3.out _).mono ?_
                rintro e w1 ⟨rfl, rfl⟩
                go_wp2_with fail
                refine (HM6.out _).mono ?_
                rintro e w1 ⟨rfl, rfl⟩
                go_wp2_with fail
                refine (HPI.out _).mono ?_
                rintro e w1 ⟨rfl, rfl⟩
                go_wp2_with fail
                refine (HP3.out _).mono ?_
                rintro e w1 ⟨rfl, rfl⟩
                go_wp2
                go_ret
                exact ⟨ret_bool HE.out.symm, (Below.refl _ _).alloc (Nat.le_refl _) _⟩
              | false =>
                try simp at HE
                go_enter Tryd.func68, Tryd.ntmps68
                go_wp2_with fail
                refine (HM0.out _).mono ?_
                rintro e w1 ⟨rfl, rfl⟩
                go_wp2_with fail
                refine (HM3.out _).mono ?_
                rintro e w1 ⟨rfl, rfl⟩
                go_wp2_with fail
                refine (HM6.out _).mono ?_
                rintro e w1 ⟨rfl, rfl⟩
                go_wp2_with fail
                refine (HPI.out _).mono ?_
                rintro e w1 ⟨rfl, rfl⟩
                go_wp2_with fail
                refine (HP3.out _).mono ?_
                rintro e w1 ⟨rfl, rfl⟩
                go_wp2
                go_ret
                exact ⟨ret_bool HE.out.symm, (Below.refl _ _).alloc (Nat.le_refl _) _⟩
          · rw [hz'] at HE
            clear hz'
            try simp at HE
            go_enter Tryd.func68, Tryd.ntmps68
            go_wp2_with fail
            refine (HM0.out _).mono ?_
            rintro e w1 ⟨rfl, rfl⟩
            go_wp2_with fail
            refine (HM3.out _).mono ?_
            rintro e w1 ⟨rfl, rfl⟩
            go_wp2_with fail
            refine (HM6.out _).mono ?_
            rintro e w1 ⟨rfl, rfl⟩
            go_wp2_with fail
            refine (HPI.out _).mono ?_
            rintro e w1 ⟨rfl, rfl⟩
            go_wp2
            go_ret
            exact ⟨ret_bool HE.out.symm, (Below.refl _ _).alloc (Nat.le_refl _) _⟩
      | false =>
        try simp at HE
        cases bi with
        | true =>
          try simp at HE
          clear hz
          go_enter Tryd.func68, Tryd.ntmps68
          go_wp2_with fail
          refine (HM0.out _).mono ?_
          rintro e w1 ⟨rfl, rfl⟩
          go_wp2_with fail
          refine (HM3.out _).mono ?_
          rintro e w1 ⟨rfl, rfl⟩
          go_wp2_with fail
          refine (HM6.out _).mono ?_
          rintro e w1 ⟨rfl, rfl⟩
          go_wp2_with fail
          refine (HPI.out _).mono ?_
          rintro e w1 ⟨rfl, rfl⟩
          go_wp2
          go_ret
          exact ⟨ret_bool HE.out.symm, (Below.refl _ _).alloc (Nat.le_refl _) _⟩
        | false =>
          rcases hz with ⟨hz, hz'⟩ | ⟨hz, hz'⟩
          · rw [hz'] at HE
            clear hz'
            cases p3 with
            | false =>
              try simp at HE
              go_enter Tryd.func68, Tryd.ntmps68
              go_wp2_with fail
              refine (HM0.out _).mono ?_
              rintro e w1 ⟨rfl, rfl⟩
              go_wp2_with fail
              refine (HM3.out _).mono ?_
              rintro e w1 ⟨rfl, rfl⟩
              go_wp2_with fail
              refine (HM6.out _).mono ?_
              rintro e w1 ⟨rfl, rfl⟩
              go_wp2_with fail
              refine (HPI.out _).mono ?_
              rintro e w1 ⟨rfl, rfl⟩
              go_wp2_with fail
              refine (HP3.out _).mono ?_
              rintro e w1 ⟨rfl, rfl⟩
              go_wp2
              go_ret
              exact ⟨ret_bool HE.out.symm, (Below.refl _ _).alloc (Nat.le_refl _) _⟩
            | true =>
              cases dir with
              | true =>
                try simp at HE
                go_enter Tryd.func68, Tryd.ntmps68
                go_wp2_with fail
                refine (HM0.out _).mono ?_
                rintro e w1 ⟨rfl, rfl⟩
                go_wp2_with fail
                refine (HM3.out _).mono ?_
                rintro e w1 ⟨rfl, rfl⟩
                go_wp2_with fail
                refine (HM6.out _).mono ?_
                rintro e w1 ⟨rfl, rfl⟩
                go_wp2_with fail
                refine (HPI.out _).mono ?_
                rintro e w1 ⟨rfl, rfl⟩
                go_wp2_with fail
                refine (HP3.out _).mono ?_
                rintro e w1 ⟨rfl, rfl⟩
                go_wp2
                go_ret
                exact ⟨ret_bool HE.out.symm, (Below.refl _ _).alloc (Nat.le_refl _) _⟩
              | false =>
                try simp at HE
                go_enter Tryd.func68, Tryd.ntmps68
                go_wp2_with fail
                refine (HM0.out _).mono ?_
                rintro e w1 ⟨rfl, rfl⟩
                go_wp2_with fail
                refine (HM3.out _).mono ?_
                rintro e w1 ⟨rfl, rfl⟩
                go_wp2_with fail
                refine (HM6.out _).mono ?_
                rintro e w1 ⟨rfl, rfl⟩
                go_wp2_with fail
                refine (HPI.out _).mono ?_
                rintro e w1 ⟨rfl, rfl⟩
                go_wp2_with fail
                refine (HP3.out _).mono ?_
                rintro e w1 ⟨rfl, rfl⟩
                go_wp2
                go_ret
                exact ⟨ret_bool HE.out.symm, (Below.refl _ _).alloc (Nat.le_refl _) _⟩
          · rw [hz'] at HE
            clear hz'
            try simp at HE
            go_enter Tryd.func68, Tryd.ntmps68
            go_wp2_with fail
            refine (HM0.out _).mono ?_
            rintro e w1 ⟨rfl, rfl⟩
            go_wp2_with fail
            refine (HM3.out _).mono ?_
            rintro e w1 ⟨rfl, rfl⟩
            go_wp2_with fail
            refine (HM6.out _).mono ?_
            rintro e w1 ⟨rfl, rfl⟩
            go_wp2_with fail
            refine (HPI.out _).mono ?_
            rintro e w1 ⟨rfl, rfl⟩
            go_wp2
            go_ret
            exact ⟨ret_bool HE.out.symm, (Below.refl _ _).alloc (Nat.le_refl _) _⟩
theorem rin_any (op : Int) (p c m i : Nat) (dir : Bool) (w : World) (hp : p < 64) (hc : c ≤ 3) (hm : m < 4096) : Calls Tryd.prog 68 #[.agg #[.int .u8 op, .int .i64 (p : Int), .int .i64 (c : Int)], .int .i64 (m : Int), .bool dir, .int .i64 (i : Int)] w fun e w' => e = .returned (.bool (inB p c m dir i)) ∧ Below w.heap.size w w' := by
  by_cases h : 0 < c
  · by_cases h9 : i < 9
    · exact rin_copy_lo op p c m i dir w h hc h9
    · exact rin_copy_hi op p c m i dir w h h9
  · obtain rfl : c = 0 := by omega
    by_cases h9 : i < 9
    · exact rin_low op p m i dir w hp hm h9
    · exact rin_high op p m i dir w hp (by omega)
end Go.Proofs.YtbjajipeiigodaaDoor
