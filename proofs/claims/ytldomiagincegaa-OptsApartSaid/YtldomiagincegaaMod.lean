/-
  What options and operands of words are, as plain mathematics. No condition.
-/
import Derived.Test.YtldomiagincegaaLeaf
import Derived.Lib.Bytealg
import Derived.Lib.IndexBytes
namespace Go.Proofs.Ytldomiagincegaa
open Go Go.RowKit

/-- An option: its letter, and its value. -/
abbrev Fl := UInt8 × ByteArray
def co (c : UInt8) : Int := (c.toNat : Int)
theorem co_bd (c : UInt8) : 0 ≤ co c ∧ co c ≤ 255 := by
  have := c.toNat_lt
  unfold co
  omega
theorem co_inj {a b : UInt8} (h : co a = co b) : a = b := UInt8.toNat_inj.1 (by unfold co at h; omega)
theorem co_ne {a b : UInt8} (h : ¬ a = b) : (co a == co b) = false := by
  rw [beq_eq_false_iff_ne]
  exact fun e => h (co_inj e)
theorem size_len (s : ByteArray) : s.data.toList.length = s.size := by simp
theorem empty_iff (s : ByteArray) : s.toList = [] ↔ s.size = 0 := by
  rw [ByteArray.toList_eq, ← List.length_eq_zero_iff, Array.length_toList]
  rfl
theorem empty_false {s : ByteArray} (h : ¬ s.size = 0) : s.toList.isEmpty = false := by
  rw [Bool.eq_false_iff]
  intro h2
  exact h ((empty_iff s).1 (List.isEmpty_iff.1 h2))
theorem ba_ext {s t : ByteArray} (h : s.data.toList = t.data.toList) : s = t := by
  obtain ⟨⟨a⟩⟩ := s
  obtain ⟨⟨b⟩⟩ := t
  simp only at h
  rw [h]
theorem ba_size {s t : ByteArray} (h : s.data.toList = t.data.toList) : s.size = t.size := by rw [ba_ext h]

/-- 0: the letter may not be; 1: it has no value; 2: it has one. -/
def knd (may : ByteArray) (c : UInt8) : Nat :=
  if c = 45 ∨ c = 58 ∨ Lib.indexByte may.data.toList c < 0 then 0
  else if may.data.toList[(Lib.indexByte may.data.toList c).toNat + 1]? = some 58 then 2 else 1
theorem knd_le (may : ByteArray) (c : UInt8) : knd may c = 0 ∨ knd may c = 1 ∨ knd may c = 2 := by
  unfold knd
  split
  · exact .inl rfl
  · split
    · exact .inr (.inr rfl)
    · exact .inr (.inl rfl)
/-- The letter with n letters behind it. -/
def ltr (s : ByteArray) (n : Nat) : UInt8 := s.data.toList.getD (s.size - (n + 1)) 0
/-- A letter whose value is the next word. -/
def takeV (c : UInt8) : List ByteArray → Option (List Fl × List ByteArray)
  | [] => none
  | x :: r => some ([(c, x)], r)
/-- The options of a word's last letters, and the words that are left. -/
def lets (may s : ByteArray) (left : List ByteArray) : Nat → Option (List Fl × List ByteArray)
  | 0 => some ([], left)
  | n + 1 =>
    if knd may (ltr s n) = 0 then none
    else if knd may (ltr s n) = 1 then (lets may s left n).map fun p => ((ltr s n, ⟨#[]⟩) :: p.1, p.2)
    else if n = 0 then takeV (ltr s n) left
    else some ([(ltr s n, s.extract (s.size - n) s.size)], left)
/-- Is a word no operand? -/
def isOpt (x : ByteArray) : Bool := decide (1 < x.size) && x.data.toList.head? == some 45
def prsF (may : ByteArray) : Nat → List ByteArray → Option (List Fl × List ByteArray)
  | 0, ws => some ([], ws)
  | _ + 1, [] => some ([], [])
  | n + 1, x :: r =>
    if isOpt x = true then
      if x.data.toList = [45, 45] then some ([], r)
      else match lets may (x.extract 1 x.size) r (x.extract 1 x.size).size with
        | none => none
        | some p => (prsF may n p.2).map fun q => (p.1 ++ q.1, q.2)
    else some ([], x :: r)
/-- The options and operands of words; none: they may not be. -/
def prs (may : ByteArray) (ws : List ByteArray) : Option (List Fl × List ByteArray) := prsF may ws.length ws
def tot (ws : List ByteArray) : Nat := (ws.map (·.size)).sum
theorem tot_cons (x : ByteArray) (r : List ByteArray) : tot (x :: r) = x.size + tot r := by simp [tot]

theorem lets_bd {may s : ByteArray} {left : List ByteArray} : ∀ {n : Nat} {f : List Fl} {l : List ByteArray}, lets may s left n = some (f, l) → f.length ≤ n ∧ l.length ≤ left.length ∧ tot l ≤ tot left
  | 0, f, l, h => by
    rw [lets] at h
    injection h with h
    injection h with h1 h2
    subst h1 h2
    simp
  | n + 1, f, l, h => by
    rw [lets] at h
    split at h
    · cases h
    · split at h
      · cases hl : lets may s left n with
        | none => rw [hl] at h; cases h
        | some p =>
          rw [hl] at h
          injection h with h
          injection h with h1 h2
          subst h1 h2
          have := lets_bd hl
          simp only [List.length_cons]
          omega
      · split at h
        · match left, h with
          | x :: r, h =>
            injection h with h
            injection h with h1 h2
            subst h1 h2
            rw [tot_cons]
            simp
        · injection h with h
          injection h with h1 h2
          subst h1 h2
          simp
theorem prsF_fuel (may : ByteArray) : ∀ (n m : Nat) (ws : List ByteArray), ws.length ≤ n → ws.length ≤ m → prsF may n ws = prsF may m ws
  | 0, 0, _, _, _ => rfl
  | 0, m + 1, ws, h, _ => by
    have : ws = [] := List.eq_nil_of_length_eq_zero (by omega)
    subst this
    rfl
  | n + 1, 0, ws, _, h => by
    have : ws = [] := List.eq_nil_of_length_eq_zero (by omega)
    subst this
    rfl
  | n + 1, m + 1, [], _, _ => rfl
  | n + 1, m + 1, x :: r, h1, h2 => by
    simp only [List.length_cons] at h1 h2
    rw [prsF, prsF]
    cases hl : lets may (x.extract 1 x.size) r (x.extract 1 x.size).size with
    | none => rfl
    | some p =>
      have hb := lets_bd (f := p.1) (l := p.2) hl
      simp only
      rw [prsF_fuel may n m p.2 (by omega) (by omega)]
theorem prs_nil (may : ByteArray) : prs may [] = some ([], []) := rfl
theorem prs_oper (may : ByteArray) {x : ByteArray} {r : List ByteArray} (h : isOpt x = false) : prs may (x :: r) = some ([], x :: r) := by
  rw [prs, List.length_cons, prsF, if_neg (by rw [h]; decide)]
theorem prs_end (may : ByteArray) {x : ByteArray} {r : List ByteArray} (h : isOpt x = true) (h2 : x.data.toList = [45, 45]) : prs may (x :: r) = some ([], r) := by
  rw [prs, List.length_cons, prsF, if_pos h, if_pos h2]
theorem prs_bad {may x : ByteArray} {r : List ByteArray} (h : isOpt x = true) (h2 : ¬ x.data.toList = [45, 45]) (h3 : lets may (x.extract 1 x.size) r (x.extract 1 x.size).size = none) : prs may (x :: r) = none := by
  rw [prs, List.length_cons, prsF, if_pos h, if_neg h2, h3]
theorem prs_go {may x : ByteArray} {r l : List ByteArray} {f : List Fl} (h : isOpt x = true) (h2 : ¬ x.data.toList = [45, 45]) (h3 : lets may (x.extract 1 x.size) r (x.extract 1 x.size).size = some (f, l)) :
    prs may (x :: r) = (prs may l).map fun q => (f ++ q.1, q.2) := by
  rw [prs, List.length_cons, prsF, if_pos h, if_neg h2, h3]
  simp only
  rw [prs, prsF_fuel may r.length l.length l (lets_bd h3).2.1 (Nat.le_refl _)]
/-- The error's number. -/
def eN (o : Option (List Fl × List ByteArray)) : Int := match o with | none => 22 | some _ => 0
def oF (o : Option (List Fl × List ByteArray)) : List Fl := match o with | none => [] | some p => p.1
def oR (o : Option (List Fl × List ByteArray)) : List ByteArray := match o with | none => [] | some p => p.2
theorem prs_1 : prs ⟨#[82, 109, 58]⟩ [⟨#[45, 82, 109, 55, 53, 53]⟩, ⟨#[97]⟩] = some ([(82, ⟨#[]⟩), (109, ⟨#[55, 53, 53]⟩)], [⟨#[97]⟩]) := by rfl
theorem prs_2 : prs ⟨#[82, 109, 58]⟩ [⟨#[45, 109]⟩] = none := by rfl
theorem prs_3 : prs ⟨#[82, 109, 58]⟩ [⟨#[45, 45]⟩, ⟨#[45, 82]⟩] = some ([], [⟨#[45, 82]⟩]) := by rfl
end Go.Proofs.Ytldomiagincegaa
