/-
  A tree of which one node's mode, owner or group is changed is a tree. No condition.
-/
import Derived.Test.YtinalglbibmmpaaGreatAtQ
namespace Go.Proofs.YtinalglbibmmpaaGreat
open Go Go.RowKit
set_option maxRecDepth 100000

theorem trx_mod {t : List Nd} (h : Trx t) {i : Int} (hi : tis t i = true) {m u g : Int} (hr : rightP (modN (tget t i) m u g)) : Trx (setT t i (modN (tget t i) m u g)) := by
  have hb := tis_in hi
  have ha := alk_set hb m u g
  have hu : usedT (setT t i (modN (tget t i) m u g)) = usedT t := by
    have h1 := used_setT hb (modN (tget t i) m u g)
    have h2 : (modN (tget t i) m u g).kind ≠ 0 := tis_kind0 hi
    rw [if_pos hi, if_pos h2] at h1
    omega
  have hl : ∀ j, linkT (setT t i (modN (tget t i) m u g)) j = linkT t j := fun j => by
    have h1 := link_set hb (modN (tget t i) m u g) j
    have h2 : cntE (modN (tget t i) m u g).ents j = cntE (tget t i).ents j := rfl
    omega
  have hp : ∀ j, parT (setT t i (modN (tget t i) m u g)) 0 j = parT t 0 j := fun j => par_set (n := modN (tget t i) m u g) (j := j) hb Iff.rfl
  refine ⟨ok_setT h.ok i (.inr hr), by rw [len_setT]; exact h.le, fun j => ?_, by rw [ha.kind]; exact h.one, fun j e he => ?_, by rw [hl]; exact h.top, fun j h1 h2 => ?_⟩
  · rw [ha.tis, hu]
    exact h.num j
  · rw [ha.ents] at he
    rw [hu]
    exact h.here j e he
  · rw [hu] at h2
    rw [hl, ha.kind, hp]
    exact h.link j h1 h2
theorem chm_trx {t : List Nd} (h : Trx t) (c : Wh) (p : Nm) (mode : Int) : Trx (chmT t c p mode) := by
  by_cases he : chmE t c p mode = 0
  · have hz := (chm_zero he).2.1
    obtain ⟨hi, -⟩ := sta_there hz
    rw [chmT_set he]
    exact trx_mod h hi (chm_right (tis_right h.ok hi) (sta_nolink h hz) c mode)
  · rw [chmT_err he]
    exact h
theorem chw_trx {t : List Nd} (h : Trx t) (c : Wh) (p : Nm) (uid gid : Int) (f : Bool) : Trx (chwT t c p uid gid f) := by
  by_cases he : chwE t c p uid gid f = 0
  · by_cases hn : uid < 0 ∧ gid < 0
    · rw [chwT_none hn]
      exact h
    · obtain ⟨⟨hu, hg⟩, hz, -⟩ := chw_zero he
      obtain ⟨hi, -⟩ := sta_there hz
      rw [chwT_set he hn]
      exact trx_mod h hi (chw_right (tis_right h.ok hi) c hu hg)
  · rw [chwT_err he]
    exact h
/-- What becomes of the node that is told of; what is wrong. -/
def chgF (t : List Nd) (R : Sta × Int) (E : Nd → Int) : Int := if R.2 ≠ 0 then R.2 else E (tget t R.1.node)
def chgT (t : List Nd) (R : Sta × Int) (E : Nd → Int) (N : Nd → Nd) : List Nd := if chgF t R E ≠ 0 then t else setT t R.1.node (N (tget t R.1.node))
def mayE (c : Wh) (n : Nd) : Int := if mayM c n.uid = false then 1 else 0
def ownE (c : Wh) (uid gid : Int) (n : Nd) : Int := if mayO c n uid gid = false then 1 else 0
def ownN (c : Wh) (uid gid : Int) (n : Nd) : Nd := if uid < 0 ∧ gid < 0 then n else chwN c n uid gid
theorem chg_chm {t : List Nd} {c : Wh} {p : Nm} {mode : Int} (h : 0 ≤ mode ∧ mode ≤ 4095) : chgF t (staM t c p true) (mayE c) = chmE t c p mode ∧ chgT t (staM t c p true) (mayE c) (fun n => chmN c n mode) = chmT t c p mode := by
  have e1 : chgF t (staM t c p true) (mayE c) = chmE t c p mode := by
    rw [chmE_in h.1 h.2]
    rfl
  refine ⟨e1, ?_⟩
  unfold chgT chmT
  rw [e1]
theorem chg_chw {t : List Nd} {c : Wh} {p : Nm} {uid gid : Int} {f : Bool} (h : uid ≤ 65535 ∧ gid ≤ 65535) : chgF t (staM t c p f) (ownE c uid gid) = chwE t c p uid gid f ∧ chgT t (staM t c p f) (ownE c uid gid) (ownN c uid gid) = chwT t c p uid gid f := by
  have e1 : chgF t (staM t c p f) (ownE c uid gid) = chwE t c p uid gid f := by
    rw [chwE_in h.1 h.2]
    rfl
  refine ⟨e1, ?_⟩
  unfold chgT chwT ownN
  rw [e1]
  split
  · rfl
  · rename_i q
    split
    · have hz := (chw_zero (Classical.byContradiction q : chwE t c p uid gid f = 0)).2.1
      exact set_same (sta_there hz).2
    · rfl
/-- A node that is right, and changed as it may be. -/
theorem chg_m {t : List Nd} (h : Trx t) {c : Wh} {p : Nm} {mode : Int} (hz : (staM t c p true).2 = 0) : rightP (chmN c (tget t (staM t c p true).1.node) mode) := chm_right (tis_right h.ok (sta_there hz).1) (sta_nolink h hz) c mode
theorem chg_w {t : List Nd} (h : Trx t) {c : Wh} {p : Nm} {uid gid : Int} {f : Bool} (hu : uid ≤ 65535) (hg : gid ≤ 65535) (hz : (staM t c p f).2 = 0) : rightP (ownN c uid gid (tget t (staM t c p f).1.node)) := by
  have hr := tis_right h.ok (sta_there hz).1
  unfold ownN
  split
  · exact hr
  · exact chw_right hr c hu hg
/-- Of no table there is nothing told. -/
theorem sta_nil (c : Wh) (p : Nm) (f : Bool) : (staM [] c p f).2 ≠ 0 := fun q => by
  have := (sta_there q).2
  have h2 : ((([] : List Nd).length : Nat) : Int) = 0 := rfl
  omega
end Go.Proofs.YtinalglbibmmpaaGreat
