/-
  Package files' answers, as plain mathematics: flags, files that are opened, read and written. The conditions are said at each.
-/
import Derived.Test.YtfopnfgfoicidaaGreatPlC
import Derived.Test.YtfopnfgfoicidaaGreatCM
namespace Go.Proofs.YtfopnfgfoicidaaGreat
open Go Go.RowKit
set_option maxRecDepth 100000

/-- Is a flag there, by its place from 0 on? -/
def flB (fl : Int) (i : Nat) : Bool := fl.toNat.testBit i
def flR (fl : Int) : Bool := decide (0 ≤ fl ∧ fl ≤ 63) && ((flB fl 0 || flB fl 1) && ((!flB fl 4 || flB fl 1) && (!flB fl 3 || flB fl 2)))
/-- Is a link at the path's end followed? -/
def flF (fl : Int) : Bool := !flB fl 5 && !flB fl 3
/-- A node with other bytes. -/
def wrN (c : Wh) (n : Nd) (b : List UInt8) : Nd := ⟨n.kind, writM c.u n.kind n.mode, n.uid, n.gid, b, n.ents, n.target⟩
/-- May who asks not open a node as the flags want it? -/
def flC (t : List Nd) (c : Wh) (fl i : Int) : Bool := (flB fl 0 && !canT t c i 4) || (flB fl 1 && !canT t c i 2)
/-- Why a file that is there isn't opened. -/
def fxE (t : List Nd) (c : Wh) (fl i : Int) : Int :=
  if flB fl 3 = true then 17 else if (tget t i).kind = 3 then 40 else if (tget t i).kind = 2 then 21 else if flC t c fl i = true then 13 else 0
/-- Open. -/
noncomputable def foE (t : List Nd) (c : Wh) (um : Int) (p : Nm) (fl md : Int) : Int :=
  if flR fl = false then 22 else if (resM t c p (flF fl)).2 ≠ 0 then (resM t c p (flF fl)).2
  else if (resM t c p (flF fl)).1.node = 0 then (if flB fl 2 = false then 2 else crE t c um p md (flF fl)) else fxE t c fl (resM t c p (flF fl)).1.node
noncomputable def foT (t : List Nd) (c : Wh) (um : Int) (p : Nm) (fl md : Int) : List Nd :=
  if foE t c um p fl md ≠ 0 then t else if (resM t c p (flF fl)).1.node = 0 then crT t c um p md (flF fl)
  else if flB fl 4 = true then setT t (resM t c p (flF fl)).1.node (wrN c (tget t (resM t c p (flF fl)).1.node) []) else t
noncomputable def foI (t : List Nd) (c : Wh) (um : Int) (p : Nm) (fl md : Int) : Int :=
  if foE t c um p fl md ≠ 0 then 0 else if (resM t c p (flF fl)).1.node = 0 then crI t c um p md (flF fl) else (resM t c p (flF fl)).1.node
/-- ReadAt. -/
def faE (t : List Nd) (i off n : Int) : Int := if (tget t i).kind ≠ 1 then 9 else if off < 0 ∨ n < 0 then 22 else 0
def faB (t : List Nd) (i off n : Int) : List UInt8 := if faE t i off n = 0 then ((tget t i).data.drop off.toNat).take n.toNat else []
/-- Bytes that are laid over others, from a place on. -/
def ovr (d : List UInt8) (off : Nat) (b : List UInt8) : List UInt8 := (d ++ List.replicate (off - d.length) 0).take off ++ (b ++ d.drop (off + b.length))
/-- WriteAt. -/
def fwE (t : List Nd) (i off : Int) (b : List UInt8) : Int := if (tget t i).kind ≠ 1 then 9 else if off < 0 then 22 else if b = [] then 0 else if 48 < off + (b.length : Int) then 27 else 0
def fwT (t : List Nd) (c : Wh) (i off : Int) (b : List UInt8) : List Nd := if fwE t i off b = 0 ∧ b ≠ [] then setT t i (wrN c (tget t i) (ovr (tget t i).data off.toNat b)) else t
theorem ovr_len (d : List UInt8) (off : Nat) (b : List UInt8) : (ovr d off b).length = max d.length (off + b.length) := by
  unfold ovr
  rw [List.length_append, List.length_append, List.length_take, List.length_append, List.length_replicate, List.length_drop]
  omega
theorem file_parts {n : Nd} (h : rightP n) (hk : n.kind = 1) : headP n ∧ n.ents = [] ∧ n.target = [] ∧ n.data.length ≤ 48 := by
  obtain ⟨h1, h2 | h2 | h2⟩ := h
  · exact ⟨h1, h2.2⟩
  · exact absurd (hk.symm.trans h2.1) (by decide)
  · exact absurd (hk.symm.trans h2.1) (by decide)
theorem wr_right {n : Nd} (h : rightP n) (hk : n.kind = 1) (c : Wh) {b : List UInt8} (hb : b.length ≤ 48) : rightP (wrN c n b) := by
  obtain ⟨⟨h1, h2, h3⟩, h4, h5, -⟩ := file_parts h hk
  have hw := writ_bd c.u n.kind n.mode
  exact ⟨⟨⟨hw.1, by have := hw.2; show writM c.u n.kind n.mode ≤ 4095; omega⟩, h2, h3⟩, .inl ⟨hk, h4, h5, hb⟩⟩
theorem fx_zero {t : List Nd} {c : Wh} {fl i : Int} (h : fxE t c fl i = 0) : flB fl 3 = false ∧ (tget t i).kind ≠ 3 ∧ (tget t i).kind ≠ 2 ∧ flC t c fl i = false := by
  unfold fxE at h
  cases h3 : flB fl 3 with
  | true => rw [h3, if_pos rfl] at h; exact absurd h (by decide)
  | false =>
    rw [h3, if_neg (by decide)] at h
    by_cases k3 : (tget t i).kind = 3
    · rw [if_pos k3] at h; exact absurd h (by decide)
    rw [if_neg k3] at h
    by_cases k2 : (tget t i).kind = 2
    · rw [if_pos k2] at h; exact absurd h (by decide)
    rw [if_neg k2] at h
    cases hc : flC t c fl i with
    | true => rw [hc, if_pos rfl] at h; exact absurd h (by decide)
    | false => exact ⟨rfl, k3, k2, rfl⟩
/-- What may be opened is a file. -/
theorem flr_can {fl : Int} (h : flR fl = true) : flB fl 0 = true ∨ flB fl 1 = true := by
  unfold flR at h
  simp only [Bool.and_eq_true, Bool.or_eq_true] at h
  exact h.2.1
theorem fo_zero {t : List Nd} {c : Wh} {um : Int} {p : Nm} {fl md : Int} (h : foE t c um p fl md = 0) : flR fl = true ∧ (resM t c p (flF fl)).2 = 0 ∧
    ((resM t c p (flF fl)).1.node = 0 ∧ flB fl 2 = true ∧ crE t c um p md (flF fl) = 0 ∨ (resM t c p (flF fl)).1.node ≠ 0 ∧ fxE t c fl (resM t c p (flF fl)).1.node = 0) := by
  unfold foE at h
  cases hr : flR fl with
  | false => rw [hr, if_pos rfl] at h; exact absurd h (by decide)
  | true =>
    rw [hr, if_neg (by decide)] at h
    by_cases h2 : (resM t c p (flF fl)).2 = 0
    · rw [if_neg (fun q => q h2)] at h
      refine ⟨rfl, h2, ?_⟩
      by_cases h3 : (resM t c p (flF fl)).1.node = 0
      · rw [if_pos h3] at h
        cases h4 : flB fl 2 with
        | false => rw [h4, if_pos rfl] at h; exact absurd h (by decide)
        | true => rw [h4, if_neg (by decide)] at h; exact .inl ⟨h3, rfl, h⟩
      · rw [if_neg h3] at h
        exact .inr ⟨h3, h⟩
    · rw [if_pos h2] at h
      exact absurd h h2
theorem flc_tis {t : List Nd} {c : Wh} {fl i : Int} (hc : flC t c fl i = false) (hr : flR fl = true) : tis t i = true := by
  unfold flC canT at hc
  rcases flr_can hr with q | q
  · rw [q] at hc
    cases ht : tis t i with
    | true => rfl
    | false => rw [ht] at hc; simp at hc
  · rw [q] at hc
    cases ht : tis t i with
    | true => rfl
    | false => rw [ht] at hc; simp at hc
theorem fx_file {t : List Nd} (ho : okT t) {c : Wh} {fl i : Int} (h : fxE t c fl i = 0) (hr : flR fl = true) : (tget t i).kind = 1 ∧ tis t i = true := by
  obtain ⟨-, k3, k2, hc⟩ := fx_zero h
  have hi := flc_tis hc hr
  refine ⟨?_, hi⟩
  obtain ⟨-, q | q | q⟩ := tis_right ho hi
  · exact q.1
  · exact absurd q.1 k2
  · exact absurd q.1 k3
theorem fw_zero {t : List Nd} {i off : Int} {b : List UInt8} (h : fwE t i off b = 0) : (tget t i).kind = 1 ∧ 0 ≤ off ∧ (b ≠ [] → off + (b.length : Int) ≤ 48) := by
  unfold fwE at h
  by_cases hk : (tget t i).kind = 1
  · rw [if_neg (fun q => q hk)] at h
    by_cases h0 : off < 0
    · rw [if_pos h0] at h; exact absurd h (by decide)
    · rw [if_neg h0] at h
      refine ⟨hk, by omega, fun hb => ?_⟩
      rw [if_neg hb] at h
      by_cases h8 : 48 < off + (b.length : Int)
      · rw [if_pos h8] at h; exact absurd h (by decide)
      · omega
  · rw [if_pos hk] at h
    exact absurd h (by decide)
theorem kind_is {t : List Nd} {i : Int} (h : (tget t i).kind = 1) : tis t i = true := by unfold tis; rw [h]; rfl
/-- The node behind a write may be. -/
theorem fw_right {t : List Nd} (ho : okT t) (c : Wh) {i off : Int} {b : List UInt8} (h : fwE t i off b = 0) (hb : b ≠ []) : rightP (wrN c (tget t i) (ovr (tget t i).data off.toNat b)) := by
  obtain ⟨hk, h0, h1⟩ := fw_zero h
  have hr := tis_right ho (kind_is hk)
  refine wr_right hr hk c ?_
  rw [ovr_len]
  have h2 := (file_parts hr hk).2.2.2
  have h3 := h1 hb
  omega
theorem fw_ok {t : List Nd} (ho : okT t) (c : Wh) (i off : Int) (b : List UInt8) : okT (fwT t c i off b) := by
  unfold fwT
  by_cases h : fwE t i off b = 0 ∧ b ≠ []
  · rw [if_pos h]
    exact ok_setT ho _ (.inr (fw_right ho c h.1 h.2))
  · rw [if_neg h]
    exact ho
/-- The node that is cut may be. -/
theorem fo_right {t : List Nd} (ho : okT t) (c : Wh) {fl i : Int} (h : fxE t c fl i = 0) (hr : flR fl = true) : rightP (wrN c (tget t i) []) :=
  wr_right (tis_right ho (fx_file ho h hr).2) (fx_file ho h hr).1 c (Nat.zero_le _)
theorem fo_err {t : List Nd} {c : Wh} {um : Int} {p : Nm} {fl md : Int} (h : foE t c um p fl md ≠ 0) : foT t c um p fl md = t ∧ foI t c um p fl md = 0 := ⟨if_pos h, if_pos h⟩
end Go.Proofs.YtfopnfgfoicidaaGreat
