/-
  The program's asker, goTogether, wanted, openThere and Open. The conditions are said at each.
-/
import Derived.Test.YtfopnfgfoicidaaGreatFcP
import Derived.Test.YtfopnfgfoicidaaGreatRR
import Derived.Test.YtfopnfgfoicidaaGreatPcD
import Derived.Deep.RegionWith
import Derived.Deep.DeepCutAuto
import Derived.Deep.CutBlock
namespace Go.Proofs.YtfopnfgfoicidaaGreat
open Go Go.RowKit
set_option maxRecDepth 100000

attribute [local go_sem] cell_off4 cell_blk4
theorem flags_at : ∀ a : Fin 64, (bits .and .i64 ((a.val : Nat) : Int) 3 != 0) = (flB ((a.val : Nat) : Int) 0 || flB ((a.val : Nat) : Int) 1) ∧ (bits .and .i64 ((a.val : Nat) : Int) 16 != 0) = flB ((a.val : Nat) : Int) 4 ∧ (bits .and .i64 ((a.val : Nat) : Int) 2 != 0) = flB ((a.val : Nat) : Int) 1 ∧
    (bits .and .i64 ((a.val : Nat) : Int) 8 != 0) = flB ((a.val : Nat) : Int) 3 ∧ (bits .and .i64 ((a.val : Nat) : Int) 4 != 0) = flB ((a.val : Nat) : Int) 2 ∧ (bits .and .i64 ((a.val : Nat) : Int) 40 != 0) = (flB ((a.val : Nat) : Int) 5 || flB ((a.val : Nat) : Int) 3) ∧ (bits .and .i64 ((a.val : Nat) : Int) 1 != 0) = flB ((a.val : Nat) : Int) 0 := by decide +kernel
theorem and63 (n : Int) : bits .and .i64 n 63 = n % 64 := and_mask n 6 63 (by decide) (by decide)
theorem flags_out (fl : Int) : (bits .and .i64 fl 63 != fl) = !decide (0 ≤ fl ∧ fl ≤ 63) := by
  rw [and63]
  by_cases h : 0 ≤ fl ∧ fl ≤ 63
  · rw [decide_eq_true h, show fl % 64 = fl by omega]; simp
  · rw [decide_eq_false h]
    simp only [Bool.not_false, bne_iff_ne, ne_eq]
    omega
/-- Both bits of a mode are let just if each is. -/
theorem can_both (t : List Nd) (c : Wh) (i : Int) : canT t c i 6 = (canT t c i 4 && canT t c i 2) := by
  unfold canT canN
  have hb := cls_bd (tget t i).mode (clsOf c.u c.g c.gs (tget t i).uid (tget t i).gid)
  generalize cls (tget t i).mode (clsOf c.u c.g c.gs (tget t i).uid (tget t i).gid) = b at hb ⊢
  rw [lets_eq 6 b hb.1 hb.2, lets_eq 4 b hb.1 hb.2, lets_eq 2 b hb.1 hb.2]
  have hf : ∀ b : Fin 8, letsN (6 % 8) ((b.val : Nat) : Int) = (letsN (4 % 8) ((b.val : Nat) : Int) && letsN (2 % 8) ((b.val : Nat) : Int)) := by decide
  have h1 := hf ⟨b.toNat, by omega⟩
  simp only [show ((b.toNat : Nat) : Int) = b by omega] at h1
  rw [h1]
  cases tis t i <;> cases (c.u == 0) <;> simp
/-- The bits that flags want. -/
def wanI (fl : Int) : Int := (if flB fl 0 = true then 4 else 0) + (if flB fl 1 = true then 2 else 0)
theorem flc_wan {t : List Nd} {c : Wh} {fl i : Int} (h : flB fl 0 = true ∨ flB fl 1 = true) : flC t c fl i = !canT t c i (wanI fl) := by
  unfold flC wanI
  cases h0 : flB fl 0 <;> cases h1 : flB fl 1
  · rw [h0, h1] at h; simp at h
  · simp
  · simp
  · simp [can_both, Bool.not_and]
theorem cf_fh (args : Array Value) (W : World) : (callFunc 63 args).run Tryz.prog W = .ok (.enter 63 args) W := by
  first | (simp only [go_sem]; done) | rfl
/-- What the closure answers of a flag. -/
theorem fhas_any (f fl : Int) (z : Nat) (w : World) (h : w.cell? ⟨z, 0, none⟩ = some (.int .i64 fl)) :
    Calls Tryz.prog 63 #[.int .i64 f, .pointer (some ⟨z, 0, none⟩)] w fun e w' => e = .returned (.bool (bits .and .i64 fl f != 0)) ∧ w = w' := by
  go_enter Tryz.func63, Tryz.ntmps63
  go_wp2
  go_ret
  exact ⟨rfl, rfl⟩
theorem fasker_any (fl : Int) (w : World) :
    Calls Tryz.prog 36 #[.int .i64 fl] w fun e w' => e = .returned (.func (.func 63) #[] #[.pointer (some ⟨w.heap.size, 0, none⟩)]) ∧ w' = w.alloc (.cells #[.int .i64 fl] 3) := by
  have hmf : ∀ (fn : Fn) (first cap : Array Value) (w : World), (Instr.makeFunc fn first cap).run Tryz.prog w = .ok (.func fn first cap) w := fun _ _ _ _ => rfl
  go_enter Tryz.func36, Tryz.ntmps36
  go_wp2
  go_ret
  exact ⟨rfl, rfl⟩
/-- What the closure answers of all flags that are asked of. -/
structure HasC (w : World) (z0 : Nat) (b0 b1 b2 b3 b4 b5 : Bool) : Prop where
  h3 : ∀ W, Below w.heap.size w W → Calls Tryz.prog 63 #[.int .i64 3, .pointer (some ⟨z0, 0, none⟩)] W fun e w' => e = .returned (.bool (b0 || b1)) ∧ W = w'
  h16 : ∀ W, Below w.heap.size w W → Calls Tryz.prog 63 #[.int .i64 16, .pointer (some ⟨z0, 0, none⟩)] W fun e w' => e = .returned (.bool b4) ∧ W = w'
  h2 : ∀ W, Below w.heap.size w W → Calls Tryz.prog 63 #[.int .i64 2, .pointer (some ⟨z0, 0, none⟩)] W fun e w' => e = .returned (.bool b1) ∧ W = w'
  h8 : ∀ W, Below w.heap.size w W → Calls Tryz.prog 63 #[.int .i64 8, .pointer (some ⟨z0, 0, none⟩)] W fun e w' => e = .returned (.bool b3) ∧ W = w'
  h4 : ∀ W, Below w.heap.size w W → Calls Tryz.prog 63 #[.int .i64 4, .pointer (some ⟨z0, 0, none⟩)] W fun e w' => e = .returned (.bool b2) ∧ W = w'
  h40 : ∀ W, Below w.heap.size w W → Calls Tryz.prog 63 #[.int .i64 40, .pointer (some ⟨z0, 0, none⟩)] W fun e w' => e = .returned (.bool (b5 || b3)) ∧ W = w'
  h1 : ∀ W, Below w.heap.size w W → Calls Tryz.prog 63 #[.int .i64 1, .pointer (some ⟨z0, 0, none⟩)] W fun e w' => e = .returned (.bool b0) ∧ W = w'
theorem HasC.below {w w' : World} {z0 : Nat} {b0 b1 b2 b3 b4 b5 : Bool} (h : HasC w z0 b0 b1 b2 b3 b4 b5) (hb : Below w.heap.size w w') : HasC w' z0 b0 b1 b2 b3 b4 b5 :=
  ⟨fun W q => h.h3 W (bt q hb), fun W q => h.h16 W (bt q hb), fun W q => h.h2 W (bt q hb), fun W q => h.h8 W (bt q hb), fun W q => h.h4 W (bt q hb), fun W q => h.h40 W (bt q hb), fun W q => h.h1 W (bt q hb)⟩
theorem has_of {w : World} {z0 : Nat} {fl : Int} (h : w.cell? ⟨z0, 0, none⟩ = some (.int .i64 fl)) (hin : 0 ≤ fl ∧ fl ≤ 63) : HasC w z0 (flB fl 0) (flB fl 1) (flB fl 2) (flB fl 3) (flB fl 4) (flB fl 5) := by
  obtain ⟨g3, g16, g2, g8, g4, g40, g1⟩ := flags_at ⟨fl.toNat, by omega⟩
  have hfn : ((fl.toNat : Nat) : Int) = fl := by omega
  simp only [hfn] at g3 g16 g2 g8 g4 g40 g1
  refine ⟨fun W hb => ?_, fun W hb => ?_, fun W hb => ?_, fun W hb => ?_, fun W hb => ?_, fun W hb => ?_, fun W hb => ?_⟩
  · have h1 := fhas_any 3 fl z0 W (bc hb h); rw [g3] at h1; exact h1
  · have h1 := fhas_any 16 fl z0 W (bc hb h); rw [g16] at h1; exact h1
  · have h1 := fhas_any 2 fl z0 W (bc hb h); rw [g2] at h1; exact h1
  · have h1 := fhas_any 8 fl z0 W (bc hb h); rw [g8] at h1; exact h1
  · have h1 := fhas_any 4 fl z0 W (bc hb h); rw [g4] at h1; exact h1
  · have h1 := fhas_any 40 fl z0 W (bc hb h); rw [g40] at h1; exact h1
  · have h1 := fhas_any 1 fl z0 W (bc hb h); rw [g1] at h1; exact h1
set_option maxHeartbeats 8000000 in
theorem goTogether_any (b0 b1 b2 b3 b4 b5 : Bool) (z0 : Nat) (w : World) (h : HasC w z0 b0 b1 b2 b3 b4 b5) :
    Calls Tryz.prog 37 #[.func (.func 63) #[] #[.pointer (some ⟨z0, 0, none⟩)]] w fun e w' => e = .returned (.bool ((b0 || b1) && ((!b4 || b1) && (!b3 || b2)))) ∧ w = w' := by
  have hcf := cf_fh
  have HH := Lib.hid h
  have J := Lib.hid (Below.refl w.heap.size w)
  obtain ⟨r3, hr3⟩ : ∃ r, (b0 || b1) = r := ⟨_, rfl⟩
  have C3 := Lib.hid (h.h3 w J.out)
  rw [hr3] at C3 ⊢
  clear h hr3
  go_enter Tryz.func37, Tryz.ntmps37
  go_wp2_with fail
  refine C3.out.mono ?_
  rintro e wq ⟨rfl, rfl⟩
  cases r3
  case false =>
    go_wp2
    go_ret
    exact ⟨rfl, rfl⟩
  case true =>
    go_wp2_with fail
    refine (HH.out.h2 w J.out).mono ?_
    rintro e wq ⟨rfl, rfl⟩
    cases b1
    case true =>
      go_wp2_with fail
      refine (HH.out.h4 w J.out).mono ?_
      rintro e wq ⟨rfl, rfl⟩
      cases b2
      case true =>
        go_wp2
        go_ret
        exact ⟨ret_bool (by simp), rfl⟩
      case false =>
        go_wp2_with fail
        refine (HH.out.h8 w J.out).mono ?_
        rintro e wq ⟨rfl, rfl⟩
        go_wp2
        go_ret
        exact ⟨ret_bool (by simp), rfl⟩
    case false =>
      go_wp2_with fail
      refine (HH.out.h16 w J.out).mono ?_
      rintro e wq ⟨rfl, rfl⟩
      cases b4
      case true =>
        go_wp2
        go_ret
        exact ⟨ret_bool (by simp), rfl⟩
      case false =>
        go_wp2_with fail
        refine (HH.out.h4 w J.out).mono ?_
        rintro e wq ⟨rfl, rfl⟩
        cases b2
        case true =>
          go_wp2
          go_ret
          exact ⟨ret_bool (by simp), rfl⟩
        case false =>
          go_wp2_with fail
          refine (HH.out.h8 w J.out).mono ?_
          rintro e wq ⟨rfl, rfl⟩
          go_wp2
          go_ret
          exact ⟨ret_bool (by simp), rfl⟩
set_option maxHeartbeats 8000000 in
theorem wanted_any (b0 b1 b2 b3 b4 b5 : Bool) (z0 : Nat) (w : World) (h : HasC w z0 b0 b1 b2 b3 b4 b5) :
    Calls Tryz.prog 67 #[.func (.func 63) #[] #[.pointer (some ⟨z0, 0, none⟩)]] w fun e w' => e = .returned (.int .i64 ((if b0 = true then 4 else 0) + (if b1 = true then 2 else 0))) ∧ w = w' := by
  have hcf := cf_fh
  have o04 : bits .or .i64 0 4 = 4 := by decide
  have o42 : bits .or .i64 4 2 = 6 := by decide
  have o02 : bits .or .i64 0 2 = 2 := by decide
  have HH := Lib.hid h
  have J := Lib.hid (Below.refl w.heap.size w)
  clear h
  go_enter Tryz.func67, Tryz.ntmps67
  go_wp2_with fail
  refine (HH.out.h1 w J.out).mono ?_
  rintro e wq ⟨rfl, rfl⟩
  cases b0
  all_goals (
    go_wp2_with fail
    refine (HH.out.h2 w J.out).mono ?_
    rintro e wq ⟨rfl, rfl⟩
    cases b1
    all_goals (
      go_wp2
      go_ret
      exact ⟨rfl, rfl⟩))
end Go.Proofs.YtfopnfgfoicidaaGreat
