/-
  What package plant's calls answer, as statements: their proofs come from the code. No condition.
-/
import Derived.Test.YtfopnfgfoicidaaGreatPlO
import Derived.Test.YtfopnfgfoicidaaGreatPlX
import Derived.Test.YtfopnfgfoicidaaGreatLP
import Derived.Test.YtfopnfgfoicidaaGreatBS
import Derived.Test.YtfopnfgfoicidaaGreatRB
namespace Go.Proofs.YtfopnfgfoicidaaGreat
open Go Go.RowKit
set_option maxRecDepth 100000

attribute [local go_sem] cell_off4 cell_blk4
/-- A directory that is made. -/
noncomputable def mkE (t : List Nd) (c : Wh) (umask : Int) (p : Nm) (mode : Int) : Int := plE t c (resM t c p false) 2 (mkM mode umask) []
noncomputable def mkT (t : List Nd) (c : Wh) (umask : Int) (p : Nm) (mode : Int) : List Nd := plT t c (resM t c p false) 2 (mkM mode umask) []
/-- A link that is made. -/
noncomputable def syE (t : List Nd) (c : Wh) (tg p : Nm) : Int := if tg = [] then 2 else if 64 < tg.length then 36 else if tg.contains 0 = true then 22 else plE t c (resM t c p false) 3 511 tg
noncomputable def syT (t : List Nd) (c : Wh) (tg p : Nm) : List Nd := if syE t c tg p = 0 then plT t c (resM t c p false) 3 511 tg else t
/-- A file that is made. -/
noncomputable def crE (t : List Nd) (c : Wh) (umask : Int) (p : Nm) (mode : Int) (f : Bool) : Int := plE t c (resM t c p f) 1 (mskM mode umask) []
noncomputable def crT (t : List Nd) (c : Wh) (umask : Int) (p : Nm) (mode : Int) (f : Bool) : List Nd := plT t c (resM t c p f) 1 (mskM mode umask) []
noncomputable def crI (t : List Nd) (c : Wh) (umask : Int) (p : Nm) (mode : Int) (f : Bool) : Int := plI t c (resM t c p f) 1 (mskM mode umask) []
theorem sy_plain {t : List Nd} {c : Wh} {tg p : Nm} (h : fok tg = true) : syE t c tg p = plE t c (resM t c p false) 3 511 tg ∧ syT t c tg p = plT t c (resM t c p false) 3 511 tg := by
  unfold fok at h
  simp only [Bool.and_eq_true, decide_eq_true_eq, Bool.not_eq_true'] at h
  obtain ⟨⟨h1, h2⟩, h3⟩ := h
  have e : syE t c tg p = plE t c (resM t c p false) 3 511 tg := by
    unfold syE
    rw [if_neg (fun q => by rw [q] at h1; exact absurd h1 (by decide)), if_neg (by omega), if_neg (by rw [h3]; decide)]
  refine ⟨e, ?_⟩
  unfold syT
  rw [e]
  split
  · rfl
  · rename_i q
    exact (pl_err q).1.symm
def CreateC : Prop := ∀ (g : Nat) (t : List Nd) (P : Nat → Prop) (c : Wh) (A0 : Option Addr) (m k : Nat) (umask : Int) (p : Nm) (mode : Int) (f : Bool) (w : World), TabR w g t P → okT t → CrR w c A0 m k → (∀ b, w.heap.size ≤ b → P b) →
    Calls Tryz.prog 40 #[.pointer (some ⟨g, 0, none⟩), .agg #[.int .i64 c.u, .int .i64 c.g, .slice A0 m k], .int .i64 umask, .string (bA p), .int .i64 mode, .bool f] w fun e w' => e = .returned (.tuple #[.int .i64 (crI t c umask p mode f), .int .i64 (crE t c umask p mode f)]) ∧ TabR w' g (crT t c umask p mode f) P ∧ w.grownBy w' (some g)
/-- Of no table. -/
def CreateN : Prop := ∀ (c : Wh) (A0 : Option Addr) (m k : Nat) (umask : Int) (p : Nm) (mode : Int) (f : Bool) (w : World), CrR w c A0 m k →
    Calls Tryz.prog 40 #[.pointer none, .agg #[.int .i64 c.u, .int .i64 c.g, .slice A0 m k], .int .i64 umask, .string (bA p), .int .i64 mode, .bool f] w fun e w' => ∃ i x, e = .returned (.tuple #[.int .i64 i, .int .i64 x]) ∧ x ≠ 0 ∧ Below w.heap.size w w'
theorem mk_trx {t : List Nd} (h : Trx t) (c : Wh) (umask : Int) (p : Nm) (mode : Int) : Trx (mkT t c umask p mode) := pl_trx h c p false _ _ (by decide)
theorem cr_trx {t : List Nd} (h : Trx t) (c : Wh) (umask : Int) (p : Nm) (mode : Int) (f : Bool) : Trx (crT t c umask p mode f) := pl_trx h c p f _ _ (by decide)
theorem crr_other {W W' : World} {c : Wh} {A : Option Addr} {n k g : Nat} (h : CrR W c A n k) (hg : W.grownBy W' (some g)) (hne : ∀ ad : Addr, A = some ad → ad.block ≠ g) : CrR W' c A n k :=
  ⟨h.1.other hg (fun ad a b hv => by injection hv with hv; exact hne ad hv), h.2⟩
theorem get_forms2 {g : Nat} {t : List Nd} {P : Nat → Prop} {W : World} (h : TabR W g t P) (i : Int) (n : Nd) (hn : tget t i = n) : Calls Tryz.prog 21 #[.pointer (some ⟨g, 0, none⟩), .int .i64 i] W fun e w' => ∃ A1 n1 c1 A2 c2, e = .returned (.tuple #[.agg #[.int .i64 n.kind, .int .i64 n.mode, .int .i64 n.uid, .int .i64 n.gid, .slice A1 n1 c1, .slice A2 n.ents.length c2, .string (bA n.target)], .bool (tis t i)]) ∧ (BytesT w' (.slice A1 n1 c1) n.data ∧ EntsT w' (.slice A2 n.ents.length c2) n.ents) ∧ Below W.heap.size W w' := by
  refine (get_any (.pointer (some ⟨g, 0, none⟩)) t i W h.ptr).mono ?_
  rintro e w' ⟨vd, ve, rfl, hd, he, -, -, hb⟩
  rw [hn] at hd he ⊢
  obtain ⟨A1, c1, rfl⟩ := bytesT_form hd
  obtain ⟨A2, c2, rfl⟩ := entsT_form he
  exact ⟨_, _, _, _, _, rfl, ⟨hd, he⟩, hb⟩
end Go.Proofs.YtfopnfgfoicidaaGreat
