/-
  What package files' calls answer, as statements: their proofs come from the code. No condition.
-/
import Derived.Test.YtfopnfgfoicidaaGreatFiM
import Derived.Test.YtfopnfgfoicidaaGreatLP
import Derived.Test.YtfopnfgfoicidaaGreatRB
namespace Go.Proofs.YtfopnfgfoicidaaGreat
open Go Go.RowKit
set_option maxRecDepth 100000

def OpenC : Prop := ∀ (g : Nat) (t : List Nd) (P : Nat → Prop) (c : Wh) (A0 : Option Addr) (m k : Nat) (um : Int) (p : Nm) (fl md : Int) (w : World), TabR w g t P → okT t → CrR w c A0 m k → (∀ b, w.heap.size ≤ b → P b) →
    Calls Tryz.prog 13 #[.pointer (some ⟨g, 0, none⟩), .agg #[.int .i64 c.u, .int .i64 c.g, .slice A0 m k], .int .i64 um, .string (bA p), .int .i64 fl, .int .i64 md] w fun e w' => e = .returned (.tuple #[.int .i64 (foI t c um p fl md), .int .i64 (foE t c um p fl md)]) ∧ TabR w' g (foT t c um p fl md) P ∧ w.grownBy w' (some g)
def ReadC : Prop := ∀ (v : Value) (t : List Nd) (i off n : Int) (w : World), TabP w v t → okT t →
    Calls Tryz.prog 15 #[v, .int .i64 i, .int .i64 off, .int .i64 n] w fun e w' => ∃ vb, e = .returned (.tuple #[vb, .int .i64 (faE t i off n)]) ∧ BytesT w' vb (faB t i off n) ∧ Below w.heap.size w w'
def WriteC : Prop := ∀ (g : Nat) (t : List Nd) (P : Nat → Prop) (c : Wh) (A0 : Option Addr) (m k : Nat) (i off : Int) (b : List UInt8) (vb : Value) (w : World), TabR w g t P → okT t → CrR w c A0 m k → BytesR w vb b → b.length ≤ 1000 → (∀ b, w.heap.size ≤ b → P b) →
    Calls Tryz.prog 18 #[.pointer (some ⟨g, 0, none⟩), .agg #[.int .i64 c.u, .int .i64 c.g, .slice A0 m k], .int .i64 i, .int .i64 off, vb] w fun e w' => e = .returned (.int .i64 (fwE t i off b)) ∧ TabR w' g (fwT t c i off b) P ∧ w.grownBy w' (some g)
/-- Of no table. -/
def OpenN : Prop := ∀ (c : Wh) (A0 : Option Addr) (m k : Nat) (um : Int) (p : Nm) (fl md : Int) (w : World), CrR w c A0 m k →
    Calls Tryz.prog 13 #[.pointer none, .agg #[.int .i64 c.u, .int .i64 c.g, .slice A0 m k], .int .i64 um, .string (bA p), .int .i64 fl, .int .i64 md] w fun e w' => ∃ i x, e = .returned (.tuple #[.int .i64 i, .int .i64 x]) ∧ x ≠ 0 ∧ Below w.heap.size w w'
def WriteN : Prop := ∀ (c : Wh) (A0 : Option Addr) (m k : Nat) (i off : Int) (b : List UInt8) (vb : Value) (w : World), CrR w c A0 m k → BytesR w vb b →
    Calls Tryz.prog 18 #[.pointer none, .agg #[.int .i64 c.u, .int .i64 c.g, .slice A0 m k], .int .i64 i, .int .i64 off, vb] w fun e w' => e = .returned (.int .i64 9) ∧ Below w.heap.size w w'
/-- All that is said of package files. -/
structure FilesC : Prop where
  op : OpenC
  rd : ReadC
  wr : WriteC
  opn : OpenN
  wrn : WriteN
theorem fcr_none (W : World) (c : Wh) (h : c.gs = []) : CrR W c none 0 0 := ⟨by rw [h]; exact IntsR.nil W, by rw [h]; decide⟩
theorem fa_nil (i off n : Int) : faE [] i off n = 9 ∧ faB [] i off n = [] := by
  have e : faE [] i off n = 9 := by
    unfold faE
    rw [if_pos (by rw [tget_out (by simp; omega)]; decide)]
  exact ⟨e, by unfold faB; rw [if_neg (by rw [e]; decide)]⟩
end Go.Proofs.YtfopnfgfoicidaaGreat
