/-
  The plain mathematics of clauses: what a text of clauses is, letter by letter. No program stands in it, and no condition.
-/
import Derived.Laws.BitsLemmas
namespace Go.Proofs.YtbjajipeiigodaaDoor
open Go

/-- An act. -/
structure CA where
  op : UInt8
  perms : Int
  copy : Int
/-- A clause. -/
structure CC where
  who : Int
  acts : List CA

def sgR (r : Int) : Bool := r == 43 || r == 45 || r == 61
def whoR (r : Int) : Int := if r = 117 then 1 else if r = 103 then 2 else if r = 111 then 4 else if r = 97 then 7 else 0
def perR (r : Int) : Int := if r = 114 then 4 else if r = 119 then 2 else if r = 120 then 1 else if r = 88 then 8 else if r = 115 then 16 else if r = 116 then 32 else 0
def copR (r : Int) : Int := if r = 117 then 1 else if r = 103 then 2 else if r = 111 then 3 else 0
def co (c : UInt8) : Int := (c.toNat : Int)
/-- An act with one more letter. -/
def wl (a : CA) (r : Int) : Option CA :=
  if a.copy ≠ 0 then none else if perR r ≠ 0 then some ⟨a.op, bits .or .i64 a.perms (perR r), a.copy⟩ else if copR r ≠ 0 ∧ a.perms = 0 then some ⟨a.op, a.perms, copR r⟩ else none
/-- Whose bits: the letters ahead, and what stands behind them. -/
def whoF (w : Int) : List UInt8 → Int × List UInt8
  | [] => (w, [])
  | c :: r => if whoR (co c) = 0 then (w, c :: r) else whoF (bits .or .i64 w (whoR (co c))) r
/-- The acts behind one that is begun. -/
def actsF (cur : CA) : List UInt8 → Option (List CA)
  | [] => some [cur]
  | c :: r => if sgR (co c) = true then (actsF ⟨c, 0, 0⟩ r).map (cur :: ·) else match wl cur (co c) with
    | none => none
    | some a => actsF a r
def acts : List UInt8 → Option (List CA)
  | [] => none
  | c :: r => if sgR (co c) = true then actsF ⟨c, 0, 0⟩ r else none
def oneC (l : List UInt8) : Option CC := (acts (whoF 0 l).2).map fun a => ⟨(whoF 0 l).1, a⟩
/-- A text's pieces between commas. -/
def pieces : List UInt8 → List (List UInt8)
  | [] => [[]]
  | c :: r => if c = 44 then [] :: pieces r else match pieces r with
    | [] => [[c]]
    | p :: ps => (c :: p) :: ps
def allC : List (List UInt8) → Option (List CC)
  | [] => some []
  | p :: ps => match oneC p with
    | none => none
    | some c => (allC ps).map (c :: ·)
def parseC (l : List UInt8) : Option (List CC) := allC (pieces l)

theorem actsF_ne (l : List UInt8) : ∀ (cur : CA) (as : List CA), actsF cur l = some as → as ≠ [] := by
  induction l with
  | nil =>
    intro cur as h
    simp only [actsF, Option.some.injEq] at h
    rw [← h]; simp
  | cons c r ih =>
    intro cur as h
    rw [actsF] at h
    split at h
    · simp only [Option.map_eq_some_iff] at h
      obtain ⟨as', _, rfl⟩ := h
      simp
    · split at h
      · cases h
      · exact ih _ _ h
theorem acts_ne {l : List UInt8} {as : List CA} (h : acts l = some as) : as ≠ [] := by
  cases l with
  | nil => cases h
  | cons c r =>
    rw [acts] at h
    split at h
    · exact actsF_ne _ _ _ h
    · cases h
theorem whoF_suffix (l : List UInt8) : ∀ w, ∃ p, l = p ++ (whoF w l).2 := by
  induction l with
  | nil => intro w; exact ⟨[], rfl⟩
  | cons c r ih =>
    intro w
    rw [whoF]
    split
    · exact ⟨[], rfl⟩
    · obtain ⟨p, hp⟩ := ih (bits .or .i64 w (whoR (co c)))
      exact ⟨c :: p, by rw [List.cons_append, ← hp]⟩
theorem pieces_ne (l : List UInt8) : pieces l ≠ [] := by
  cases l with
  | nil => simp [pieces]
  | cons c r =>
    rw [pieces]
    split
    · simp
    · split <;> simp
theorem actsF_len (l : List UInt8) : ∀ (cur : CA) (as : List CA), actsF cur l = some as → as.length ≤ l.length + 1 := by
  induction l with
  | nil =>
    intro cur as h
    simp only [actsF, Option.some.injEq] at h
    rw [← h]; simp
  | cons c r ih =>
    intro cur as h
    rw [actsF] at h
    split at h
    · simp only [Option.map_eq_some_iff] at h
      obtain ⟨as', h', rfl⟩ := h
      have := ih _ _ h'
      simp; omega
    · split at h
      · cases h
      · have := ih _ _ h
        simp; omega
end Go.Proofs.YtbjajipeiigodaaDoor
