/-
  Bytes, texts, and where names stand in a path, as plain mathematics. No condition.
-/
import Derived.Test.YthledmbdlengiaaPathM2
import Derived.Lib.Bytealg
import Derived.Lib.IndexBytes
namespace Go.Proofs.Ythledmbdlengiaa
open Go Go.RowKit

def co (c : UInt8) : Int := (c.toNat : Int)
theorem co_bd (c : UInt8) : 0 ≤ co c ∧ co c ≤ 255 := by
  have := c.toNat_lt
  unfold co
  omega
theorem co_inj {a b : UInt8} (h : co a = co b) : a = b := UInt8.toNat_inj.1 (by unfold co at h; omega)
theorem co_ne {a b : UInt8} (h : ¬ a = b) : (co a == co b) = false := by
  rw [beq_eq_false_iff_ne]
  exact fun e => h (co_inj e)
theorem size_len (s : ByteArray) : s.data.toList.length = s.size := by simp
theorem empty_iff (s : ByteArray) : s.toList = [] ↔ s.size = 0 := by
  rw [ByteArray.toList_eq, ← List.length_eq_zero_iff, Array.length_toList]
  rfl
theorem empty_false {s : ByteArray} (h : ¬ s.size = 0) : s.toList.isEmpty = false := by
  rw [Bool.eq_false_iff]
  intro h2
  exact h ((empty_iff s).1 (List.isEmpty_iff.1 h2))
theorem ba_ext {s t : ByteArray} (h : s.data.toList = t.data.toList) : s = t := by
  obtain ⟨⟨a⟩⟩ := s
  obtain ⟨⟨b⟩⟩ := t
  simp only at h
  rw [h]
/-- Bytes as a text. -/
def bA (l : List UInt8) : ByteArray := ⟨⟨l⟩⟩
/-- A text's bytes. -/
def tl (s : ByteArray) : List UInt8 := s.data.toList
theorem tl_bA (l : List UInt8) : tl (bA l) = l := rfl
theorem bA_tl (s : ByteArray) : bA (tl s) = s := ba_ext rfl
theorem bA_eq {s : ByteArray} {l : List UInt8} (h : tl s = l) : s = bA l := ba_ext h
theorem bA_inj {a b : List UInt8} (h : bA a = bA b) : a = b := by have := congrArg tl h; exact this
theorem tl_len (s : ByteArray) : (tl s).length = s.size := size_len s
theorem size_bA (l : List UInt8) : (bA l).size = l.length := by rw [← tl_len, tl_bA]
theorem tl_ext (s : ByteArray) (a b : Nat) : tl (s.extract a b) = ((tl s).take b).drop a := by
  unfold tl
  rw [ByteArray.data_extract, Array.toList_extract, List.extract_eq_take_drop, List.drop_take]
theorem ext_bA (s : ByteArray) (a b : Nat) : s.extract a b = bA (((tl s).take b).drop a) := bA_eq (tl_ext s a b)
theorem pre_bA (s : ByteArray) (b : Nat) : s.extract 0 b = bA ((tl s).take b) := by rw [ext_bA, List.drop_zero]
theorem tl_app (s t : ByteArray) : tl (s ++ t) = tl s ++ tl t := by
  unfold tl
  rw [ByteArray.data_append, Array.toList_append]
theorem tl_at {s : ByteArray} {k : Nat} (h : k < s.size) : (tl s)[k]? = some s[k] := Lib.data_getElem? s k h

/-- Where names stand in what is left of a path: behind n bytes, the last slash ahead being the one ahead of byte number st. -/
def sp (n st : Nat) : List UInt8 → List (Nat × Nat)
  | [] => if st < n then [(st, n)] else []
  | c :: r => if c = 47 then (if st < n then (st, n) :: sp (n + 1) (n + 1) r else sp (n + 1) (n + 1) r) else sp (n + 1) st r
def sps (p : List UInt8) : List (Nat × Nat) := sp 0 0 p
theorem sp_names (p : List UInt8) : ∀ (r done : List UInt8) (st : Nat), p = done ++ r → st ≤ done.length → (sp done.length st r).map (fun x => (p.take x.2).drop x.1) = nmF (done.drop st) r
  | [], done, st, hp, hst => by
    rw [List.append_nil] at hp
    subst hp
    rw [sp, nmF]
    by_cases h : st < p.length
    · rw [if_pos h, if_neg (by rw [List.drop_eq_nil_iff]; omega)]
      simp
    · rw [if_neg h, if_pos (by rw [List.drop_eq_nil_iff]; omega)]
      rfl
  | c :: r, done, st, hp, hst => by
    have hp' : p = (done ++ [c]) ++ r := by rw [hp]; simp
    have hl : (done ++ [c]).length = done.length + 1 := by simp
    rw [sp, nmF]
    by_cases hc : c = 47
    · rw [if_pos hc, if_pos hc]
      have ih := sp_names p r (done ++ [c]) (done.length + 1) hp' (by omega)
      rw [hl, List.drop_eq_nil_of_le (by omega)] at ih
      by_cases h : st < done.length
      · rw [if_pos h, if_neg (by rw [List.drop_eq_nil_iff]; omega), List.map_cons, ih]
        congr 1
        simp only
        rw [hp, List.take_append_of_le_length (Nat.le_refl _), List.take_length]
      · rw [if_neg h, if_pos (by rw [List.drop_eq_nil_iff]; omega), ih]
    · rw [if_neg hc, if_neg hc]
      have ih := sp_names p r (done ++ [c]) st hp' (by omega)
      rw [hl, List.drop_append_of_le_length hst] at ih
      exact ih
theorem sps_names (p : List UInt8) : (sps p).map (fun x => (p.take x.2).drop x.1) = nms p := by
  have := sp_names p p [] 0 rfl (Nat.zero_le _)
  simpa [sps, nms] using this
theorem sp_steps (p : List UInt8) : ∀ (r done : List UInt8) (st : Nat), p = done ++ r → st ≤ done.length →
    (sp done.length st r).map (fun x => p.take x.2) = (if st < done.length ∧ (r = [] ∨ r.head? = some 47) then [done] else []) ++ stF done r
  | [], done, st, hp, hst => by
    rw [List.append_nil] at hp
    subst hp
    rw [sp, stF]
    by_cases h : st < p.length
    · simp [h]
    · simp [h]
  | c :: r, done, st, hp, hst => by
    have hp' : p = (done ++ [c]) ++ r := by rw [hp]; simp
    have hl : (done ++ [c]).length = done.length + 1 := by simp
    rw [sp, stF]
    by_cases hc : c = 47
    · have ih := sp_steps p r (done ++ [c]) (done.length + 1) hp' (by omega)
      rw [hl, if_neg (by omega), List.nil_append] at ih
      rw [if_pos hc, if_neg (show ¬ (¬ c = 47 ∧ (r = [] ∨ r.head? = some 47)) from fun e => e.1 hc)]
      by_cases h : st < done.length
      · rw [if_pos h, if_pos ⟨h, .inr (by rw [hc]; rfl)⟩, List.map_cons, ih]
        simp only
        rw [hp, List.take_append_of_le_length (Nat.le_refl _), List.take_length]
        rfl
      · rw [if_neg h, if_neg (show ¬ (st < done.length ∧ (c :: r = [] ∨ (c :: r).head? = some 47)) from fun e => h e.1), ih]
        rfl
    · have ih := sp_steps p r (done ++ [c]) st hp' (by omega)
      rw [hl] at ih
      have h0 : ¬ (st < done.length ∧ (c :: r = [] ∨ (c :: r).head? = some 47)) := by
        rintro ⟨_, h | h⟩
        · cases h
        · simp at h; exact hc h
      rw [if_neg hc, ih, if_neg h0, List.nil_append]
      by_cases h : r = [] ∨ r.head? = some 47
      · rw [if_pos ⟨by omega, h⟩, if_pos ⟨hc, h⟩]
        rfl
      · rw [if_neg (fun e => h e.2), if_neg (fun e => h e.2)]
        rfl
theorem sps_steps (p : List UInt8) : (sps p).map (fun x => p.take x.2) = stp p := by
  have := sp_steps p p [] 0 rfl (Nat.zero_le _)
  simpa [sps, stp] using this
theorem sp_bd : ∀ (r : List UInt8) (n st : Nat), st ≤ n → ∀ x ∈ sp n st r, x.1 < x.2 ∧ x.2 ≤ n + r.length
  | [], n, st, h, x, hx => by
    rw [sp] at hx
    split at hx
    · rw [List.mem_singleton] at hx
      subst hx
      rename_i h2
      exact ⟨h2, Nat.le_refl _⟩
    · cases hx
  | c :: r, n, st, h, x, hx => by
    rw [sp] at hx
    rw [List.length_cons]
    split at hx
    · split at hx
      · rcases List.mem_cons.1 hx with hx | hx
        · subst hx
          rename_i h2
          exact ⟨h2, by simp⟩
        · have := sp_bd r (n + 1) (n + 1) (Nat.le_refl _) x hx
          omega
      · have := sp_bd r (n + 1) (n + 1) (Nat.le_refl _) x hx
        omega
    · have := sp_bd r (n + 1) st (by omega) x hx
      omega
theorem sps_bd {p : List UInt8} {k a b : Nat} (h : (sps p)[k]? = some (a, b)) : a < b ∧ b ≤ p.length := by
  have := sp_bd p 0 0 (Nat.le_refl _) (a, b) (List.mem_of_getElem? h)
  simpa using this
theorem sp_len : ∀ (r : List UInt8) (n st : Nat), (sp n st r).length ≤ r.length + 1
  | [], n, st => by
    rw [sp]
    split <;> simp
  | c :: r, n, st => by
    rw [sp]
    have h1 := sp_len r (n + 1) (n + 1)
    have h2 := sp_len r (n + 1) st
    split
    · split
      · simp only [List.length_cons]; omega
      · simp only [List.length_cons]; omega
    · simp only [List.length_cons]; omega
theorem sps_len (p : List UInt8) : (sps p).length ≤ p.length + 1 := sp_len p 0 0
theorem len_sps (p : List UInt8) : (sps p).length = (nms p).length := by rw [← sps_names, List.length_map]
theorem nms_len (p : List UInt8) : (nms p).length ≤ p.length + 1 := by rw [← len_sps]; exact sps_len p
theorem len_sps' (p : List UInt8) : (sps p).length = (stp p).length := by rw [← sps_steps, List.length_map]
/-- The places behind k bytes; none behind the end. -/
def spX (p : List UInt8) (k st : Nat) : List (Nat × Nat) := if k ≤ p.length then sp k st (p.drop k) else []
theorem spX_zero (p : List UInt8) : spX p 0 0 = sps p := by rw [spX, if_pos (Nat.zero_le _), List.drop_zero]; rfl
theorem spX_end (p : List UInt8) (k st : Nat) (h : p.length < k) : spX p k st = [] := by rw [spX, if_neg (by omega)]
theorem spX_byte {p : List UInt8} {k : Nat} {c : UInt8} (st : Nat) (h : p[k]? = some c) (hc : ¬ c = 47) : spX p k st = spX p (k + 1) st := by
  have hl := (List.getElem?_eq_some_iff.1 h).1
  have hd : p.drop k = c :: p.drop (k + 1) := by rw [List.drop_eq_getElem_cons hl]; congr 1; exact (List.getElem?_eq_some_iff.1 h).2
  rw [spX, spX, if_pos (by omega), if_pos (by omega), hd, sp, if_neg hc]
theorem spX_slash {p : List UInt8} {k : Nat} (st : Nat) (h : p[k]? = some 47 ∨ k = p.length) : spX p k st = (if st < k then [(st, k)] else []) ++ spX p (k + 1) (k + 1) := by
  rcases h with h | h
  · have hl := (List.getElem?_eq_some_iff.1 h).1
    have hd : p.drop k = 47 :: p.drop (k + 1) := by rw [List.drop_eq_getElem_cons hl]; congr 1; exact (List.getElem?_eq_some_iff.1 h).2
    have h1 : k ≤ p.length := by omega
    have h2 : k + 1 ≤ p.length := by omega
    rw [spX, spX, if_pos h1, if_pos h2, hd, sp, if_pos rfl]
    split <;> rfl
  · subst h
    rw [spX_end _ (p.length + 1) _ (by omega), List.append_nil, spX, if_pos (Nat.le_refl _), List.drop_length, sp]
theorem spX_pos {p : List UInt8} {k st : Nat} (h : p[k]? = some 47 ∨ k = p.length) (hs : st < k) : spX p k st = (st, k) :: spX p (k + 1) (k + 1) := by rw [spX_slash st h, if_pos hs]; rfl
theorem spX_neg {p : List UInt8} {k st : Nat} (h : p[k]? = some 47 ∨ k = p.length) (hs : ¬ st < k) : spX p k st = spX p (k + 1) (k + 1) := by rw [spX_slash st h, if_neg hs]; rfl

/-- What stands above a path: the last beginning but one. -/
theorem up_stp (p : List UInt8) : upP p = if 1 < (stp p).length then (stp p).getD ((stp p).length - 2) [] else if absP p = true then [47] else [46] := by
  obtain ⟨k, hb, hl⟩ := bare_split p
  generalize hQ : bareP p = q at hb hl
  obtain ⟨n, e1, e2, e3⟩ := cut_split q
  obtain ⟨m, f1, f2⟩ := bare_split (cutP q)
  generalize hU : bareP (cutP q) = u at f1 f2
  have hst : stp p = stp q := by
    rw [hb]
    cases k with
    | zero => simp
    | succ k =>
      rw [List.replicate_succ, stp, stF_slash, show (List.replicate k 47 : List UInt8) = List.replicate k 47 ++ [] by simp, stF_sl]
      simp [stF, stp]
  have hup : upP p = if u ≠ [] then u else if absP p = true then [47] else [46] := by rw [upP, hQ, hU]
  by_cases hu : u = []
  · have hq : (stp q).length ≤ 1 := by
      rw [e1, f1, hu, List.nil_append]
      by_cases hn : n = []
      · rw [hn, stp, stF_sl]
        simp [stF]
      · rw [stp_first m e2 hn]
        simp
    rw [hup, if_neg (show ¬ u ≠ [] from fun e => e hu), hst, if_neg (show ¬ 1 < (stp q).length by omega)]
  · have hm : ¬ m = 0 := by
      intro e
      rw [e] at f1
      simp at f1
      cases hc : (cutP q).getLast? with
      | none =>
        rw [List.getLast?_eq_none_iff] at hc
        exact hu (f1.symm.trans hc)
      | some c =>
        have h4 := e3 c hc
        rw [f1, h4] at hc
        exact f2 hc
    obtain ⟨j, rfl⟩ : ∃ j, m = j + 1 := ⟨m - 1, by omega⟩
    have hn : ¬ n = [] := by
      intro e
      rw [e, List.append_nil] at e1
      apply hl
      rw [e1, f1, List.replicate_succ']
      simp
    have hs : stp q = stp u ++ [q] := by
      have := stp_more u j e2 hn
      rw [← f1, ← e1] at this
      exact this
    have hlu := stp_last hu f2
    have hpos : 0 < (stp u).length := by
      cases hz : stp u with
      | nil => rw [hz] at hlu; simp at hlu
      | cons c l => simp
    have hlen : (stp q).length = (stp u).length + 1 := by rw [hs]; simp
    rw [hup, if_pos hu, hst, if_pos (by omega), hlen, List.getD_eq_getElem?_getD, hs, List.getElem?_append_left (by omega)]
    rw [List.getLast?_eq_getElem?] at hlu
    rw [show (stp u).length + 1 - 2 = (stp u).length - 1 by omega, hlu]
    rfl
end Go.Proofs.Ythledmbdlengiaa
