/-
  What package prune's calls answer, as statements: their proofs come from the code. No condition.
-/
import Derived.Test.YtiimdmbalnhmmaaGreatPrR
import Derived.Test.YtiimdmbalnhmmaaGreatLP
import Derived.Test.YtiimdmbalnhmmaaGreatBS
import Derived.Test.YtiimdmbalnhmmaaGreatRB
namespace Go.Proofs.YtiimdmbalnhmmaaGreat
open Go Go.RowKit
set_option maxRecDepth 100000

attribute [local go_sem] cell_off4 cell_blk4
/-- A list lies off a block. -/
def Off (A : Option Addr) (l : List Int) (g : Nat) : Prop := l ≠ [] → ∀ ad : Addr, A = some ad → ad.block ≠ g
theorem off_nil (A : Option Addr) (g : Nat) : Off A [] g := fun q => absurd rfl q
theorem off_of {w : World} {A : Option Addr} {n k g : Nat} {l : List Int} (h : IntsR w (.slice A n k) l) (hg : w.heap.size ≤ g) : Off A l g := fun hne ad q hb => by
  obtain ⟨A', c', hv, hc⟩ := h
  cases l with
  | nil => exact hne rfl
  | cons x xs =>
    obtain ⟨ad', hA, h0⟩ := hc 0 x rfl
    injection hv with e1 e2 e3
    rw [← e1, q] at hA
    injection hA with hA
    subst hA
    have h1 := World.block_lt_of_cell? _ _ h0
    have h2 : (ad.add 0).block = ad.block := by unfold Addr.add; split <;> rfl
    omega
theorem ints_past {W W' : World} {A : Option Addr} {n k g : Nat} {l : List Int} (h : IntsR W (.slice A n k) l) (hg : W.grownBy W' (some g)) (ho : Off A l g) : IntsR W' (.slice A n k) l := by
  cases l with
  | nil =>
    obtain ⟨A', c', hv, -⟩ := h
    exact ⟨A', c', hv, fun k n hk => by simp at hk⟩
  | cons x xs => exact h.other hg (fun ad a b hv => by injection hv with hv; exact ho (by simp) ad hv)
def UnlinkC : Prop := ∀ (g : Nat) (t : List Nd) (P : Nat → Prop) (c : Wh) (A0 : Option Addr) (m k : Nat) (p : Nm) (op : List Int) (A1 : Option Addr) (n1 k1 : Nat) (w : World), TabR w g t P → Tre t → CrR w c A0 m k → IntsR w (.slice A1 n1 k1) op → op.length ≤ 1000 → Off A0 c.gs g → Off A1 op g → (∀ b, w.heap.size ≤ b → P b) →
    Calls Tryz.prog 18 #[.pointer (some ⟨g, 0, none⟩), .agg #[.int .i64 c.u, .int .i64 c.g, .slice A0 m k], .string (bA p), .slice A1 n1 k1] w fun e w' => e = .returned (.int .i64 (ulE t c (resM t c p false))) ∧ TabR w' g (ulT t c (resM t c p false) op) P ∧ w.grownBy w' (some g)
def RmdirC : Prop := ∀ (g : Nat) (t : List Nd) (P : Nat → Prop) (c : Wh) (A0 : Option Addr) (m k : Nat) (p : Nm) (w : World), TabR w g t P → Tre t → CrR w c A0 m k → Off A0 c.gs g → (∀ b, w.heap.size ≤ b → P b) →
    Calls Tryz.prog 19 #[.pointer (some ⟨g, 0, none⟩), .agg #[.int .i64 c.u, .int .i64 c.g, .slice A0 m k], .string (bA p)] w fun e w' => e = .returned (.int .i64 (rdE t c (resM t c p false))) ∧ TabR w' g (rdT t c (resM t c p false)) P ∧ w.grownBy w' (some g)
def RenameC : Prop := ∀ (g : Nat) (t : List Nd) (P : Nat → Prop) (c : Wh) (A0 : Option Addr) (m k : Nat) (p q : Nm) (op : List Int) (A1 : Option Addr) (n1 k1 : Nat) (w : World), TabR w g t P → Tre t → CrR w c A0 m k → IntsR w (.slice A1 n1 k1) op → op.length ≤ 1000 → Off A0 c.gs g → Off A1 op g → (∀ b, w.heap.size ≤ b → P b) →
    Calls Tryz.prog 23 #[.pointer (some ⟨g, 0, none⟩), .agg #[.int .i64 c.u, .int .i64 c.g, .slice A0 m k], .string (bA p), .string (bA q), .slice A1 n1 k1] w fun e w' => e = .returned (.int .i64 (mvE t c (resM t c p false) (resM t c q false))) ∧ TabR w' g (mvT t c (resM t c p false) (resM t c q false) op) P ∧ w.grownBy w' (some g)
def FreeC : Prop := ∀ (g : Nat) (t : List Nd) (P : Nat → Prop) (i : Int) (op : List Int) (A1 : Option Addr) (n1 k1 : Nat) (w : World), TabR w g t P → Tre t → IntsR w (.slice A1 n1 k1) op → op.length ≤ 1000 → Off A1 op g → (∀ b, w.heap.size ≤ b → P b) →
    Calls Tryz.prog 20 #[.pointer (some ⟨g, 0, none⟩), .int .i64 i, .slice A1 n1 k1] w fun e w' => e = .returned (.bool (frB t i op)) ∧ TabR w' g (frT t i op) P ∧ w.grownBy w' (some g)
def BelowC : Prop := ∀ (g : Nat) (t : List Nd) (P : Nat → Prop) (i d : Int) (w : World), TabR w g t P → Tre t →
    Calls Tryz.prog 11 #[.pointer (some ⟨g, 0, none⟩), .int .i64 i, .int .i64 d] w fun e w' => e = .returned (.bool (blwB t i d)) ∧ Below w.heap.size w w'
/-- Of no table. -/
def UnlinkN : Prop := ∀ (c : Wh) (A0 : Option Addr) (m k : Nat) (p : Nm) (w : World), CrR w c A0 m k →
    Calls Tryz.prog 18 #[.pointer none, .agg #[.int .i64 c.u, .int .i64 c.g, .slice A0 m k], .string (bA p), .slice none 0 0] w fun e w' => ∃ x, e = .returned (.int .i64 x) ∧ x ≠ 0 ∧ Below w.heap.size w w'
def RmdirN : Prop := ∀ (c : Wh) (A0 : Option Addr) (m k : Nat) (p : Nm) (w : World), CrR w c A0 m k →
    Calls Tryz.prog 19 #[.pointer none, .agg #[.int .i64 c.u, .int .i64 c.g, .slice A0 m k], .string (bA p)] w fun e w' => ∃ x, e = .returned (.int .i64 x) ∧ x ≠ 0 ∧ Below w.heap.size w w'
def RenameN : Prop := ∀ (c : Wh) (A0 : Option Addr) (m k : Nat) (p q : Nm) (w : World), CrR w c A0 m k →
    Calls Tryz.prog 23 #[.pointer none, .agg #[.int .i64 c.u, .int .i64 c.g, .slice A0 m k], .string (bA p), .string (bA q), .slice none 0 0] w fun e w' => ∃ x, e = .returned (.int .i64 x) ∧ x ≠ 0 ∧ Below w.heap.size w w'
def FreeN : Prop := ∀ (i : Int) (w : World), Calls Tryz.prog 20 #[.pointer none, .int .i64 i, .slice none 0 0] w fun e w' => e = .returned (.bool false) ∧ Below w.heap.size w w'
/-- A tree behind each. -/
theorem ul_tre {t : List Nd} (h : Tre t) (c : Wh) (p : Nm) : Tre (ulT t c (resM t c p false) []) := (ul_kept h).1.tre
theorem rd_tre {t : List Nd} (h : Tre t) (c : Wh) (p : Nm) : Tre (rdT t c (resM t c p false)) := (rd_kept h).1.tre
theorem mv_tre {t : List Nd} (h : Tre t) (c : Wh) (p q : Nm) : Tre (mvT t c (resM t c p false) (resM t c q false) []) := (mv_kept h).1.tre
theorem crr_past {W W' : World} {c : Wh} {A : Option Addr} {n k g : Nat} (h : CrR W c A n k) (hg : W.grownBy W' (some g)) (ho : Off A c.gs g) : CrR W' c A n k := ⟨ints_past h.1 hg ho, h.2⟩
theorem crr_none (W : World) (c : Wh) (h : c.gs = []) : CrR W c none 0 0 := ⟨by rw [h]; exact IntsR.nil W, by rw [h]; decide⟩
/-- All that is said of package prune. -/
structure PruneC : Prop where
  ul : UnlinkC
  rd : RmdirC
  rn : RenameC
  fr : FreeC
  bl : BelowC
  uln : UnlinkN
  rdn : RmdirN
  rnn : RenameN
  frn : FreeN
end Go.Proofs.YtiimdmbalnhmmaaGreat
