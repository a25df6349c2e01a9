/-
  What PlantNeeds asks for, all in one; plain mathematics. The conditions are said at each.
-/
import Derived.Test.YtgcllgfkifpkeaaGreatPlC
namespace Go.Proofs.YtgcllgfkifpkeaaGreat
open Go Go.RowKit
set_option maxRecDepth 100000

theorem needs_same (t : List Nd) (c : Wh) (umask : Int) (p : Nm) (mode : Int) : syE t c [113] p = mkE t c umask p mode ∧ crE t c umask p mode false = mkE t c umask p mode := by
  obtain ⟨h1, h2⟩ := needs_eq t c (resM t c p false) mode umask (tg := [113]) (by decide +kernel)
  have h3 := (sy_plain (t := t) (c := c) (tg := [113]) (p := p) (by decide +kernel)).1
  unfold mkE crE
  exact ⟨by rw [h3, h1], by rw [h2, h1]⟩
/-- A node that is there already. -/
theorem needs_there {t : List Nd} {c : Wh} {umask : Int} {p : Nm} {mode : Int} (h : (staM t c p false).2 = 0) : (staM t c p false).1.node ≠ 0 ∧ mkE t c umask p mode = 17 := by
  obtain ⟨h1, h2, h3, -⟩ := staM_zero h
  have hn : (staM t c p false).1.node ≠ 0 := fun q => by
    rw [q] at h2
    have := tis_in h2
    omega
  refine ⟨hn, ?_⟩
  unfold mkE
  obtain ⟨F, e⟩ : ∃ F, resM t c p false = F := ⟨_, rfl⟩
  rw [e] at h1 h3 ⊢
  obtain ⟨F, x⟩ := F
  have h1' : x = 0 := h1
  subst h1'
  exact pl_w17 (by show F.node ≠ 0; rw [show F.node = (staM t c p false).1.node from h3]; exact hn)
theorem needs_good {t : List Nd} (ht : Trx t) {c : Wh} {umask : Int} {d n : Nm} {mode : Int} (hn : nok n = true) (hd : d ≠ []) (hl : d.length ≤ 40) (h : mkE t c umask (d ++ 47 :: n) mode = 0) : (staM t c d true).2 = 0 :=
  (needs_dir ht hn hd hl (pl_zero.1 h).1).1
theorem needs_may {t : List Nd} (ht : Trx t) {c : Wh} {umask : Int} {d n : Nm} {mode : Int} (hn : nok n = true) (hd : d ≠ []) (hl : d.length ≤ 40) (h1 : c.u ≠ 0) (h2 : c.u ≠ (tget (mkT t c umask (d ++ 47 :: n) mode) (staM t c d true).1.node).uid) (h3 : bits .and .i64 (tget (mkT t c umask (d ++ 47 :: n) mode) (staM t c d true).1.node).mode 18 = 0) :
    mkE t c umask (d ++ 47 :: n) mode ≠ 0 := fun q => by
  obtain ⟨z1, -, z3, -⟩ := pl_zero.1 q
  have hs := (needs_dir ht hn hd hl z1).2.1
  have hp := (pl_pla ht (c := c) (p := d ++ 47 :: n) (f := false) (k := 2) (m := mkM mode umask) (tg := []) (by decide) q).2.2.2
  obtain ⟨-, e2, e3, -⟩ := hp.same hp.ne
  have e2' : (tget (mkT t c umask (d ++ 47 :: n) mode) (resM t c (d ++ 47 :: n) false).1.dir).mode = (tget t (resM t c (d ++ 47 :: n) false).1.dir).mode := e2
  have e3' : (tget (mkT t c umask (d ++ 47 :: n) mode) (resM t c (d ++ 47 :: n) false).1.dir).uid = (tget t (resM t c (d ++ 47 :: n) false).1.dir).uid := e3
  rw [hs] at h2 h3
  rw [e3'] at h2
  rw [e2'] at h3
  exact needs_who ht.ok z3 h1 h2 h3
end Go.Proofs.YtgcllgfkifpkeaaGreat
