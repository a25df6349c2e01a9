/-
  Plain mathematics of letters in another order, and more than once: the clause is the same.
-/
import Derived.Test.YtbjajipeiigodaaDoorBackM2
namespace Go.Proofs.YtbjajipeiigodaaDoor
open Go

/-- The letters of whom, and of what, by a number. -/
def w4 (b : UInt8) : UInt8 := if b.toNat % 4 = 0 then 117 else if b.toNat % 4 = 1 then 103 else if b.toNat % 4 = 2 then 111 else 97
def p6 (b : UInt8) : UInt8 := if b.toNat % 6 = 0 then 114 else if b.toNat % 6 = 1 then 119 else if b.toNat % 6 = 2 then 120 else if b.toNat % 6 = 3 then 88 else if b.toNat % 6 = 4 then 115 else 116
def g3 (n : Nat) : UInt8 := if n % 3 = 0 then 43 else if n % 3 = 1 then 45 else 61
/-- A letter's number. -/
def wN (c : UInt8) : Nat := (whoR (co c)).toNat
def pN (c : UInt8) : Nat := (perR (co c)).toNat
def orN (f : UInt8 → Nat) (l : List UInt8) (q : Nat) : Nat := l.foldl (fun q c => q ||| f c) q
theorem orN_bit (f : UInt8 → Nat) (i : Nat) : ∀ (l : List UInt8) (q : Nat), (orN f l q).testBit i = (q.testBit i || l.any fun c => (f c).testBit i)
  | [], q => by simp [orN]
  | c :: l, q => by
    rw [orN, List.foldl_cons]
    have h := orN_bit f i l (q ||| f c)
    rw [orN] at h
    rw [h, Nat.testBit_or, List.any_cons, Bool.or_assoc]
/-- The or of numbers of letters hangs on which letters there are alone. -/
theorem orN_same (f : UInt8 → Nat) (l l' : List UInt8) (h : ∀ c, c ∈ l ↔ c ∈ l') : orN f l 0 = orN f l' 0 := by
  apply Nat.eq_of_testBit_eq
  intro i
  rw [orN_bit, orN_bit]
  congr 1
  rw [Bool.eq_iff_iff, List.any_eq_true, List.any_eq_true]
  constructor
  · rintro ⟨c, hc, hb⟩; exact ⟨c, (h c).1 hc, hb⟩
  · rintro ⟨c, hc, hb⟩; exact ⟨c, (h c).2 hc, hb⟩
theorem orN_lt (f : UInt8 → Nat) (n : Nat) (hf : ∀ c, f c < 2 ^ n) : ∀ (l : List UInt8) (q : Nat), q < 2 ^ n → orN f l q < 2 ^ n
  | [], _, h => h
  | c :: l, _, h => orN_lt f n hf l _ (Nat.or_lt_two_pow h (hf c))
theorem wN_lt (c : UInt8) : wN c < 2 ^ 3 := by
  unfold wN
  rcases whoR_cases (co c) with h | h | h | h | h <;> rw [h] <;> decide
theorem pN_lt (c : UInt8) : pN c < 2 ^ 6 := by
  unfold pN
  rcases perR_cases (co c) with h | h | h | h | h | h | h <;> rw [h] <;> decide
theorem whoR_nat (c : UInt8) : whoR (co c) = (wN c : Int) := by
  unfold wN
  rcases whoR_cases (co c) with h | h | h | h | h <;> rw [h] <;> rfl
theorem perR_nat (c : UInt8) : perR (co c) = (pN c : Int) := by
  unfold pN
  rcases perR_cases (co c) with h | h | h | h | h | h | h <;> rw [h] <;> rfl
theorem w4_mem (b : UInt8) : w4 b ∈ [117, 103, 111, 97] := by
  unfold w4
  repeat' split
  all_goals decide
theorem p6_mem (b : UInt8) : p6 b ∈ [114, 119, 120, 88, 115, 116] := by
  unfold p6
  repeat' split
  all_goals decide
theorem g3_mem (n : Nat) : g3 n = 43 ∨ g3 n = 45 ∨ g3 n = 61 := by
  unfold g3
  repeat' split
  all_goals simp
theorem who_letters (c : UInt8) (h : c ∈ [117, 103, 111, 97]) : whoR (co c) ≠ 0 ∧ c ≠ 44 := by
  simp only [List.mem_cons, List.mem_nil_iff, or_false] at h
  rcases h with rfl | rfl | rfl | rfl <;> decide
theorem whoF_letters (rest : List UInt8) (d : UInt8) (hd : whoR (co d) = 0) : ∀ (L : List UInt8) (q : Nat), q < 8 → (∀ c ∈ L, c ∈ [117, 103, 111, 97]) → whoF (q : Int) (L ++ d :: rest) = (((orN wN L q : Nat) : Int), d :: rest)
  | [], q, _, _ => by rw [List.nil_append, whoF, if_pos hd]; rfl
  | c :: L, q, hq, h => by
    have hc := who_letters c (h c (List.mem_cons_self ..))
    rw [List.cons_append, whoF, if_neg hc.1, whoR_nat, or_nat q (wN c) (by omega) (by have := wN_lt c; omega)]
    exact whoF_letters rest d hd L _ (Nat.or_lt_two_pow (n := 3) hq (wN_lt c)) (fun e he => h e (List.mem_cons_of_mem _ he))
theorem orF_nat : ∀ (L : List UInt8) (q : Nat), q < 64 → orF (q : Int) L = (orN pN L q : Nat)
  | [], q, _ => rfl
  | c :: L, q, hq => by
    have hlt := pN_lt c
    have e : orF (q : Int) (c :: L) = orF ((q ||| pN c : Nat) : Int) L := by
      show orF (bits .or .i64 (q : Int) (perR (co c))) L = _
      rw [perR_nat, or_nat q (pN c) (by omega) (by omega)]
    rw [e, orF_nat L _ (Nat.or_lt_two_pow (n := 6) hq hlt)]
    rfl
/-- A text of letters of whom, a sign, and letters of what. -/
theorem turn_text (W P : List UInt8) (g : UInt8) (hg : g = 43 ∨ g = 45 ∨ g = 61) (hW : ∀ c ∈ W, c ∈ [117, 103, 111, 97]) (hP : ∀ c ∈ P, c ∈ [114, 119, 120, 88, 115, 116]) :
    parseC (W ++ g :: P) = some [⟨(orN wN W 0 : Nat), [⟨g, (orN pN P 0 : Nat), 0⟩]⟩] := by
  have hgs : sgR (co g) = true := by rcases hg with rfl | rfl | rfl <;> rfl
  have hgw : whoR (co g) = 0 := by rcases hg with rfl | rfl | rfl <;> rfl
  have hg44 : g ≠ 44 := by rcases hg with rfl | rfl | rfl <;> decide
  have hno : ∀ c ∈ W ++ g :: P, c ≠ 44 := by
    intro c hc
    rcases List.mem_append.1 hc with hc | hc
    · exact (who_letters c (hW c hc)).2
    · rcases List.mem_cons.1 hc with rfl | hc
      · exact hg44
      · exact (per_letters c (hP c hc)).2.2
  have hF := whoF_letters P g hgw W 0 (by decide) hW
  have hA : acts (g :: P) = some [⟨g, (orN pN P 0 : Nat), 0⟩] := by
    have h := actsF_perms g [] P 0 hP
    rw [List.append_nil] at h
    rw [acts, hgs, if_pos rfl, h]
    have h2 := orF_nat P 0 (by decide)
    simp only [Int.natCast_zero] at h2
    rw [show orF 0 P = ((orN pN P 0 : Nat) : Int) from h2]
    rfl
  rw [parseC, pieces_none _ hno, allC]
  have h1 : oneC (W ++ g :: P) = some ⟨(orN wN W 0 : Nat), [⟨g, (orN pN P 0 : Nat), 0⟩]⟩ := by
    unfold oneC
    have hF' : whoF 0 (W ++ g :: P) = (((orN wN W 0 : Nat) : Int), g :: P) := hF
    rw [hF']
    simp only
    rw [hA]
    rfl
  rw [h1]
  rfl
/-- The letters in a turned order. -/
def rot (l : List UInt8) (t k : Nat) : List UInt8 := (List.range k).map fun i => l.getD ((i + t) % l.length) 0
theorem rot_mem (l : List UInt8) (t : Nat) (c : UInt8) : c ∈ rot l t l.length ↔ c ∈ l := by
  unfold rot
  rw [List.mem_map]
  constructor
  · rintro ⟨i, hi, rfl⟩
    rw [List.mem_range] at hi
    have hlt : (i + t) % l.length < l.length := Nat.mod_lt _ (by omega)
    rw [List.getD_eq_getElem?_getD, List.getElem?_eq_getElem hlt]
    exact List.getElem_mem hlt
  · intro hc
    obtain ⟨m, hm, rfl⟩ := List.getElem_of_mem hc
    refine ⟨(m + (l.length - t % l.length)) % l.length, List.mem_range.2 (Nat.mod_lt _ (by omega)), ?_⟩
    have hp : 0 < l.length := by omega
    have e : ((m + (l.length - t % l.length)) % l.length + t) % l.length = m := by
      have ht := Nat.mod_lt t hp
      rw [Nat.mod_add_mod]
      have h1 : m + (l.length - t % l.length) + t = m + l.length * (1 + t / l.length) := by
        have h2 := Nat.div_add_mod t l.length
        rw [Nat.mul_add, Nat.mul_one]
        omega
      rw [h1, Nat.add_mul_mod_self_left]
      exact Nat.mod_eq_of_lt hm
    rw [e, List.getD_eq_getElem?_getD, List.getElem?_eq_getElem hm]
    rfl
end Go.Proofs.YtbjajipeiigodaaDoor
