/-
  What becomes of a table where a mode, an owner or a group is changed, as plain mathematics. No condition.
-/
import Derived.Test.YtinalglbibmmpaaGreatAtM
import Derived.Test.YtinalglbibmmpaaGreatCM
import Derived.Test.YtinalglbibmmpaaGreatLS
namespace Go.Proofs.YtinalglbibmmpaaGreat
open Go Go.RowKit
set_option maxRecDepth 100000

def mayM (c : Wh) (x : Int) : Bool := c.u == 0 || x == c.u
def mayO (c : Wh) (n : Nd) (uid gid : Int) : Bool := mayOwn c.u c.g c.gs n.uid n.gid uid gid
/-- A node whose mode is set, or whose owner is. -/
def chmN (c : Wh) (n : Nd) (mode : Int) : Nd := modN n (modeM c.u c.g c.gs n.kind n.gid mode) n.uid n.gid
def chwN (c : Wh) (n : Nd) (uid gid : Int) : Nd := modN n (writM c.u n.kind n.mode) (if uid < 0 then n.uid else uid) (if gid < 0 then n.gid else gid)
/-- What is wrong where what is told of a path is R. -/
def chmF (t : List Nd) (c : Wh) (R : Sta × Int) : Int := if R.2 ≠ 0 then R.2 else if mayM c (tget t R.1.node).uid = false then 1 else 0
def chwF (t : List Nd) (c : Wh) (R : Sta × Int) (uid gid : Int) : Int := if R.2 ≠ 0 then R.2 else if mayO c (tget t R.1.node) uid gid = false then 1 else 0
def chmE (t : List Nd) (c : Wh) (p : Nm) (mode : Int) : Int := if mode < 0 ∨ 4095 < mode then 22 else chmF t c (staM t c p true)
def chwE (t : List Nd) (c : Wh) (p : Nm) (uid gid : Int) (f : Bool) : Int := if 65535 < uid ∨ 65535 < gid then 22 else chwF t c (staM t c p f) uid gid
def chmT (t : List Nd) (c : Wh) (p : Nm) (mode : Int) : List Nd :=
  if chmE t c p mode ≠ 0 then t else setT t (staM t c p true).1.node (chmN c (tget t (staM t c p true).1.node) mode)
def chwT (t : List Nd) (c : Wh) (p : Nm) (uid gid : Int) (f : Bool) : List Nd :=
  if chwE t c p uid gid f ≠ 0 then t else if uid < 0 ∧ gid < 0 then t else setT t (staM t c p f).1.node (chwN c (tget t (staM t c p f).1.node) uid gid)
theorem chm_zero {t : List Nd} {c : Wh} {p : Nm} {mode : Int} (h : chmE t c p mode = 0) : (0 ≤ mode ∧ mode ≤ 4095) ∧ (staM t c p true).2 = 0 ∧ mayM c (tget t (staM t c p true).1.node).uid = true := by
  unfold chmE at h
  split at h
  · exact absurd h (by decide)
  · rename_i q
    unfold chmF at h
    split at h
    · rename_i r
      exact absurd h r
    · rename_i r
      split at h
      · exact absurd h (by decide)
      · rename_i s
        exact ⟨by omega, Classical.byContradiction r, by simpa using s⟩
theorem chw_zero {t : List Nd} {c : Wh} {p : Nm} {uid gid : Int} {f : Bool} (h : chwE t c p uid gid f = 0) : (uid ≤ 65535 ∧ gid ≤ 65535) ∧ (staM t c p f).2 = 0 ∧ mayO c (tget t (staM t c p f).1.node) uid gid = true := by
  unfold chwE at h
  split at h
  · exact absurd h (by decide)
  · rename_i q
    unfold chwF at h
    split at h
    · rename_i r
      exact absurd h r
    · rename_i r
      split at h
      · exact absurd h (by decide)
      · rename_i s
        exact ⟨by omega, Classical.byContradiction r, by simpa using s⟩
theorem chmT_err {t : List Nd} {c : Wh} {p : Nm} {mode : Int} (h : chmE t c p mode ≠ 0) : chmT t c p mode = t := if_pos h
theorem chwT_err {t : List Nd} {c : Wh} {p : Nm} {uid gid : Int} {f : Bool} (h : chwE t c p uid gid f ≠ 0) : chwT t c p uid gid f = t := if_pos h
theorem chmT_set {t : List Nd} {c : Wh} {p : Nm} {mode : Int} (h : chmE t c p mode = 0) : chmT t c p mode = setT t (staM t c p true).1.node (chmN c (tget t (staM t c p true).1.node) mode) := if_neg (fun q => q h)
theorem chwT_set {t : List Nd} {c : Wh} {p : Nm} {uid gid : Int} {f : Bool} (h : chwE t c p uid gid f = 0) (hn : ¬ (uid < 0 ∧ gid < 0)) : chwT t c p uid gid f = setT t (staM t c p f).1.node (chwN c (tget t (staM t c p f).1.node) uid gid) := by
  unfold chwT
  rw [if_neg (fun q => q h), if_neg hn]
theorem chwT_none {t : List Nd} {c : Wh} {p : Nm} {uid gid : Int} {f : Bool} (hn : uid < 0 ∧ gid < 0) : chwT t c p uid gid f = t := by
  unfold chwT
  split
  · rfl
  · rfl
/-- What is told of is there; by a path that is followed it is no link. -/
theorem sta_there {t : List Nd} {c : Wh} {p : Nm} {f : Bool} (h : (staM t c p f).2 = 0) : tis t (staM t c p f).1.node = true ∧ (1 ≤ (staM t c p f).1.node ∧ (staM t c p f).1.node ≤ t.length) := by
  obtain ⟨-, h2, -, -⟩ := staM_zero h
  exact ⟨h2, tis_in h2⟩
theorem sta_nolink {t : List Nd} (ht : Trx t) {c : Wh} {p : Nm} (h : (staM t c p true).2 = 0) : (tget t (staM t c p true).1.node).kind ≠ 3 := fun q => by
  obtain ⟨h1, -, h3, -⟩ := staM_zero h
  rw [← h3] at q
  have hs := res_srd ht c p true h1
  have hk := hs.kind
  rw [hs.self (hs.link rfl q), q] at hk
  exact absurd hk (by decide)
theorem chm_right {n : Nd} (h : rightP n) (hk : n.kind ≠ 3) (c : Wh) (mode : Int) : rightP (chmN c n mode) := by
  have hb := mode_bd c.u c.g c.gs n.kind n.gid mode
  refine ⟨⟨⟨hb.1, by show _ ≤ (4095 : Int); have := hb.2; exact Int.lt_add_one_iff.1 this⟩, h.1.2⟩, ?_⟩
  rcases h.2 with q | q | q
  · exact .inl q
  · exact .inr (.inl q)
  · exact absurd q.1 hk
theorem chw_right {n : Nd} (h : rightP n) (c : Wh) {uid gid : Int} (hu : uid ≤ 65535) (hg : gid ≤ 65535) : rightP (chwN c n uid gid) := by
  have hb := writ_bd c.u n.kind n.mode
  refine ⟨⟨⟨hb.1, by show _ ≤ (4095 : Int); have := hb.2; exact Int.lt_add_one_iff.1 this⟩, ?_, ?_⟩, ?_⟩
  · show 0 ≤ (if uid < 0 then n.uid else uid) ∧ (if uid < 0 then n.uid else uid) ≤ 65535
    split
    · exact h.1.2.1
    · omega
  · show 0 ≤ (if gid < 0 then n.gid else gid) ∧ (if gid < 0 then n.gid else gid) ≤ 65535
    split
    · exact h.1.2.2
    · omega
  · rcases h.2 with q | q | q
    · exact .inl q
    · exact .inr (.inl q)
    · refine .inr (.inr ⟨q.1, q.2.1, q.2.2.1, ?_, q.2.2.2.2⟩)
      show writM c.u n.kind n.mode = 511
      rw [writ_all (.inr (by rw [q.1]; decide)) (by rw [q.2.2.2.1]; decide) (by rw [q.2.2.2.1]; decide), q.2.2.2.1]
/-- The nodes behind a change. -/
theorem chm_get {t : List Nd} {c : Wh} {p : Nm} {mode : Int} (h : chmE t c p mode = 0) (j : Int) : tget (chmT t c p mode) j = if j = (staM t c p true).1.node then chmN c (tget t (staM t c p true).1.node) mode else tget t j := by
  rw [chmT_set h]
  exact tget_set (sta_there (chm_zero h).2.1).2
theorem chw_get {t : List Nd} {c : Wh} {p : Nm} {uid gid : Int} {f : Bool} (h : chwE t c p uid gid f = 0) (hn : ¬ (uid < 0 ∧ gid < 0)) (j : Int) : tget (chwT t c p uid gid f) j = if j = (staM t c p f).1.node then chwN c (tget t (staM t c p f).1.node) uid gid else tget t j := by
  rw [chwT_set h hn]
  exact tget_set (sta_there (chw_zero h).2.1).2
theorem chm_alk (t : List Nd) (c : Wh) (p : Nm) (mode : Int) : Alk t (chmT t c p mode) := by
  by_cases h : chmE t c p mode = 0
  · rw [chmT_set h]
    exact alk_set (sta_there (chm_zero h).2.1).2 _ _ _
  · rw [chmT_err h]
    exact ⟨fun _ => rfl, fun _ => rfl, fun _ => rfl, fun _ => rfl⟩
theorem chw_alk (t : List Nd) (c : Wh) (p : Nm) (uid gid : Int) (f : Bool) : Alk t (chwT t c p uid gid f) := by
  have hr : Alk t t := ⟨fun _ => rfl, fun _ => rfl, fun _ => rfl, fun _ => rfl⟩
  by_cases h : chwE t c p uid gid f = 0
  · by_cases hn : uid < 0 ∧ gid < 0
    · rw [chwT_none hn]
      exact hr
    · rw [chwT_set h hn]
      exact alk_set (sta_there (chw_zero h).2.1).2 _ _ _
  · rw [chwT_err h]
    exact hr
theorem chm_len (t : List Nd) (c : Wh) (p : Nm) (mode : Int) : (chmT t c p mode).length = t.length := by
  unfold chmT
  split
  · rfl
  · exact len_setT _ _ _
theorem chw_len (t : List Nd) (c : Wh) (p : Nm) (uid gid : Int) (f : Bool) : (chwT t c p uid gid f).length = t.length := by
  unfold chwT
  split
  · rfl
  · split
    · rfl
    · exact len_setT _ _ _
/-- What AttrOnly asks for of each node. -/
theorem chm_only {t : List Nd} (c : Wh) (p : Nm) (mode : Int) (j : Int) : (j ≠ (staM t c p true).1.node → tget (chmT t c p mode) j = tget t j) ∧ ∃ m, tget (chmT t c p mode) j = modN (tget t j) m (tget t j).uid (tget t j).gid := by
  by_cases h : chmE t c p mode = 0
  · rw [chm_get h]
    refine ⟨fun q => if_neg q, ?_⟩
    split
    · rename_i q
      rw [q]
      exact ⟨_, rfl⟩
    · exact ⟨(tget t j).mode, rfl⟩
  · rw [chmT_err h]
    exact ⟨fun _ => rfl, (tget t j).mode, rfl⟩
theorem chw_only {t : List Nd} (c : Wh) (p : Nm) (uid gid : Int) (f : Bool) (j : Int) : (j ≠ (staM t c p f).1.node → tget (chwT t c p uid gid f) j = tget t j) ∧ ∃ m u g, tget (chwT t c p uid gid f) j = modN (tget t j) m u g ∧
    (chwE t c p uid gid f = 0 → j = (staM t c p f).1.node → u = (if uid < 0 then (tget t j).uid else uid) ∧ g = (if gid < 0 then (tget t j).gid else gid)) := by
  by_cases h : chwE t c p uid gid f = 0
  · by_cases hn : uid < 0 ∧ gid < 0
    · rw [chwT_none hn]
      exact ⟨fun _ => rfl, (tget t j).mode, (tget t j).uid, (tget t j).gid, rfl, fun _ _ => by rw [if_pos hn.1, if_pos hn.2]; exact ⟨rfl, rfl⟩⟩
    · rw [chw_get h hn]
      refine ⟨fun q => if_neg q, ?_⟩
      by_cases q : j = (staM t c p f).1.node
      · rw [if_pos q, q]
        exact ⟨_, _, _, rfl, fun _ _ => ⟨rfl, rfl⟩⟩
      · rw [if_neg q]
        exact ⟨(tget t j).mode, (tget t j).uid, (tget t j).gid, rfl, fun _ r => absurd r q⟩
  · rw [chwT_err h]
    exact ⟨fun _ => rfl, (tget t j).mode, (tget t j).uid, (tget t j).gid, rfl, fun r => absurd r h⟩
/-- What AttrTheirs asks for of each node. -/
theorem chw_theirs {t : List Nd} {c : Wh} (hc : c.u ≠ 0) (p : Nm) (uid gid : Int) (f : Bool) (j : Int) :
    (tget (chwT t c p uid gid f) j).uid = (tget t j).uid ∧ ((tget t j).uid ≠ c.u → (tget (chwT t c p uid gid f) j).mode = (tget t j).mode ∧ (tget (chwT t c p uid gid f) j).gid = (tget t j).gid) ∧
    (chwE t c p uid gid f = 0 → (tget t j).gid ≠ (tget (chwT t c p uid gid f) j).gid → (tget (chwT t c p uid gid f) j).kind = 1 → (tget (chwT t c p uid gid f) j).mode / 2048 % 2 = 0) := by
  by_cases h : chwE t c p uid gid f = 0
  · by_cases hn : uid < 0 ∧ gid < 0
    · rw [chwT_none hn]
      exact ⟨rfl, fun _ => ⟨rfl, rfl⟩, fun _ q => absurd rfl q⟩
    · rw [chw_get h hn]
      by_cases q : j = (staM t c p f).1.node
      · rw [if_pos q, ← q]
        have hm := (chw_zero h).2.2
        rw [← q] at hm
        unfold mayO mayOwn at hm
        have hu : (c.u == 0) = false := by simpa using hc
        rw [hu, Bool.false_or] at hm
        simp only [Bool.and_eq_true, beq_iff_eq, Bool.or_eq_true, decide_eq_true_eq] at hm
        obtain ⟨⟨m1, m2⟩, -⟩ := hm
        refine ⟨?_, fun r => absurd m1 r, fun _ _ hk => ?_⟩
        · show (if uid < 0 then (tget t j).uid else uid) = (tget t j).uid
          split
          · rfl
          · rcases m2 with m2 | m2
            · exact m2
            · omega
        · have hk : (tget t j).kind = 1 := hk
          show writM c.u (tget t j).kind (tget t j).mode / 2048 % 2 = 0
          rw [hk]
          exact writ_suid hc
      · rw [if_neg q]
        exact ⟨rfl, fun _ => ⟨rfl, rfl⟩, fun _ q => absurd rfl q⟩
  · rw [chwT_err h]
    exact ⟨rfl, fun _ => ⟨rfl, rfl⟩, fun _ q => absurd rfl q⟩
theorem chm_theirs {t : List Nd} {c : Wh} (hc : c.u ≠ 0) (p : Nm) (mode : Int) (j : Int) (hn : (staM t c p true).2 = 0 → (tget t (staM t c p true).1.node).kind ≠ 3) :
    (tget t j).mode ≠ (tget (chmT t c p mode) j).mode → (tget t j).uid = c.u ∧ (tget (chmT t c p mode) j).kind ≠ 3 := by
  intro hd
  by_cases h : chmE t c p mode = 0
  · obtain ⟨-, h2, h3⟩ := chm_zero h
    rw [chm_get h] at hd ⊢
    by_cases q : j = (staM t c p true).1.node
    · rw [if_pos q]
      rw [← q] at h3 ⊢
      unfold mayM at h3
      have hu : (c.u == 0) = false := by simpa using hc
      rw [hu, Bool.false_or] at h3
      exact ⟨by simpa using h3, by rw [q]; exact hn h2⟩
    · rw [if_neg q] at hd
      exact absurd rfl hd
  · rw [chmT_err h] at hd
    exact absurd rfl hd
end Go.Proofs.YtinalglbibmmpaaGreat
