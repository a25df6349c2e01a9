/-
  What words that are written in two ways have for options, as plain mathematics: values right behind their letters or as the next words; letters in one word or each in a word of its own. No condition.
-/
import Derived.Test.YtldomiagincegaaMod
namespace Go.Proofs.Ytldomiagincegaa
open Go Go.RowKit

/-- The letters R, and m with a value. -/
def RM : ByteArray := ⟨#[82, 109, 58]⟩
/-- The letters R, H, L, P, and m with a value. -/
def RHLPm : ByteArray := ⟨#[82, 72, 76, 80, 109, 58]⟩
theorem ltr_is {y : ByteArray} {p q : List UInt8} {c : UInt8} (h : y.data.toList = p ++ c :: q) : ltr y q.length = c := by
  have hz : y.size = p.length + (q.length + 1) := by rw [← size_len, h]; simp
  rw [ltr, h, hz, show p.length + (q.length + 1) - (q.length + 1) = p.length by omega]
  simp [List.getD]
theorem ext_is {y z : ByteArray} {p : List UInt8} (h : y.data.toList = p ++ z.data.toList) : y.extract (y.size - z.size) y.size = z := by
  have hz : y.size = p.length + z.size := by rw [← size_len, h]; simp
  apply ba_ext
  rw [Lib.extract_to_end, h, hz, show p.length + z.size - z.size = p.length by omega]
  simp
theorem ext_one {x : ByteArray} {b : UInt8} {l : List UInt8} (h : x.data.toList = b :: l) : (x.extract 1 x.size).data.toList = l := by rw [Lib.extract_to_end, h]; rfl
theorem opt_of {x : ByteArray} {c : UInt8} {l : List UInt8} (h : x.data.toList = 45 :: c :: l) : isOpt x = true := by
  have hz : x.size = l.length + 2 := by rw [← size_len, h]; rfl
  rw [isOpt, h, hz]
  simp
theorem not_dd {x : ByteArray} {c : UInt8} {l : List UInt8} (h : x.data.toList = 45 :: c :: l) (hc : ¬ c = 45) : ¬ x.data.toList = [45, 45] := by
  rw [h]
  intro e
  injection e with _ e
  injection e with e _
  exact hc e
theorem len_of {y : ByteArray} {l : List UInt8} (h : y.data.toList = l) : y.size = l.length := by rw [← size_len, h]
/-- A word of a letter and its value. -/
theorem prs_m {x a : ByteArray} (hx : x.data.toList = 45 :: 109 :: a.data.toList) (ha : ¬ a.size = 0) (left : List ByteArray) : prs RM (x :: left) = (prs RM left).map fun q => ([(109, a)] ++ q.1, q.2) := by
  have hy := ext_one hx
  refine prs_go (opt_of hx) (not_dd hx (by decide)) ?_
  generalize x.extract 1 x.size = y at hy
  have hl : ltr y a.size = 109 := by rw [← size_len]; exact ltr_is (p := []) hy
  rw [show y.size = a.size + 1 by rw [len_of hy, List.length_cons, size_len], lets, hl, if_neg (by decide), if_neg (by decide), if_neg ha]
  have := ext_is (z := a) (p := [109]) (y := y) hy
  rw [show y.size = a.size + 1 by rw [len_of hy, List.length_cons, size_len]] at this ⊢
  rw [this]
/-- A word of a letter whose value is the next word. -/
theorem prs_m2 {x : ByteArray} (hx : x.data.toList = [45, 109]) (a : ByteArray) (left : List ByteArray) : prs RM (x :: a :: left) = (prs RM left).map fun q => ([(109, a)] ++ q.1, q.2) := by
  have hy := ext_one hx
  refine prs_go (opt_of hx) (not_dd hx (by decide)) ?_
  generalize x.extract 1 x.size = y at hy
  have hl : ltr y 0 = 109 := ltr_is (p := []) (q := []) hy
  rw [show y.size = 0 + 1 by rw [len_of hy]; rfl, lets, hl, if_neg (by decide), if_neg (by decide), if_pos rfl]
  rfl
/-- A word of two letters, and the second one's value. -/
theorem prs_Rm {x b : ByteArray} (hx : x.data.toList = 45 :: 82 :: 109 :: b.data.toList) (hb : ¬ b.size = 0) (left : List ByteArray) : prs RM (x :: left) = (prs RM left).map fun q => ([(82, ⟨#[]⟩), (109, b)] ++ q.1, q.2) := by
  have hy := ext_one hx
  refine prs_go (opt_of hx) (not_dd hx (by decide)) ?_
  generalize x.extract 1 x.size = y at hy
  have hl : ltr y (b.size + 1) = 82 := by
    have := ltr_is (p := []) (q := 109 :: b.data.toList) hy
    rwa [List.length_cons, size_len] at this
  have hl2 : ltr y b.size = 109 := by
    have := ltr_is (p := [82]) (q := b.data.toList) hy
    rwa [size_len] at this
  have hz : y.size = b.size + 1 + 1 := by rw [len_of hy, List.length_cons, List.length_cons, size_len]
  have he := ext_is (z := b) (p := [82, 109]) (y := y) hy
  rw [hz] at he ⊢
  rw [lets, hl, if_neg (by decide), if_pos (by decide), lets, hl2, if_neg (by decide), if_neg (by decide), if_neg hb, hz, he]
  rfl
/-- A word of two letters, and the second one's value is the next word. -/
theorem prs_Rm2 {x : ByteArray} (hx : x.data.toList = [45, 82, 109]) (b : ByteArray) (left : List ByteArray) : prs RM (x :: b :: left) = (prs RM left).map fun q => ([(82, ⟨#[]⟩), (109, b)] ++ q.1, q.2) := by
  have hy := ext_one hx
  refine prs_go (opt_of hx) (not_dd hx (by decide)) ?_
  generalize x.extract 1 x.size = y at hy
  have hl : ltr y 1 = 82 := ltr_is (p := []) (q := [109]) hy
  have hl2 : ltr y 0 = 109 := ltr_is (p := [82]) (q := []) hy
  rw [show y.size = 0 + 1 + 1 by rw [len_of hy]; rfl, lets, hl, if_neg (by decide), if_pos (by decide), lets, hl2, if_neg (by decide), if_neg (by decide), if_pos rfl]
  rfl
theorem prs_one {x d a b : ByteArray} (hx : x.data.toList = 45 :: 109 :: a.data.toList) (hd : d.data.toList = [45, 45]) (ha : ¬ a.size = 0) (rest : List ByteArray) :
    prs RM (x :: ⟨#[45, 82, 109]⟩ :: b :: d :: rest) = some ([(109, a), (82, ⟨#[]⟩), (109, b)], rest) := by
  rw [prs_m hx ha, prs_Rm2 rfl, prs_end RM (opt_of (c := 45) (l := []) hd) hd]
  rfl
theorem prs_two {x d a b : ByteArray} (hx : x.data.toList = 45 :: 82 :: 109 :: b.data.toList) (hd : d.data.toList = [45, 45]) (hb : ¬ b.size = 0) (rest : List ByteArray) :
    prs RM (⟨#[45, 109]⟩ :: a :: x :: d :: rest) = some ([(109, a), (82, ⟨#[]⟩), (109, b)], rest) := by
  rw [prs_m2 rfl, prs_Rm hx hb, prs_end RM (opt_of (c := 45) (l := []) hd) hd]
  rfl

/-- One of the four letters. -/
def four (c : UInt8) : Bool := c == 82 || c == 72 || c == 76 || c == 80
theorem four_knd {c : UInt8} (h : four c = true) : knd RHLPm c = 1 := by
  unfold four at h
  simp only [Bool.or_eq_true, beq_iff_eq] at h
  rcases h with ((h | h) | h) | h <;> subst h <;> decide
def plain (l : List UInt8) : List Fl := l.map fun c => (c, ⟨#[]⟩)
theorem lets_four {y : ByteArray} (left : List ByteArray) : ∀ (q p : List UInt8), y.data.toList = p ++ q → q.all four = true → lets RHLPm y left q.length = some (plain q, left)
  | [], p, _, _ => rfl
  | c :: q, p, h, hq => by
    rw [List.all_cons, Bool.and_eq_true] at hq
    have ih := lets_four left q (p ++ [c]) (by rw [h]; simp) hq.2
    rw [List.length_cons, lets, ltr_is h, four_knd hq.1, if_neg (by decide), if_pos rfl, ih]
    rfl
theorem four_ne {c : UInt8} (h : four c = true) : ¬ c = 45 := by
  intro e
  subst e
  revert h
  decide
/-- A word of letters without values. -/
theorem prs_four {x : ByteArray} {c : UInt8} {q : List UInt8} (hx : x.data.toList = 45 :: c :: q) (hq : (c :: q).all four = true) (left : List ByteArray) : prs RHLPm (x :: left) = (prs RHLPm left).map fun r => (plain (c :: q) ++ r.1, r.2) := by
  have hy := ext_one hx
  have hc : four c = true := by rw [List.all_cons, Bool.and_eq_true] at hq; exact hq.1
  refine prs_go (opt_of hx) (not_dd hx (four_ne hc)) ?_
  generalize x.extract 1 x.size = y at hy
  rw [len_of hy]
  exact lets_four left (c :: q) [] hy hq
/-- Words that begin with an operand. -/
def begins (rest : List ByteArray) : Bool := match rest with | [] => true | x :: _ => !isOpt x
theorem prs_rest (may : ByteArray) {rest : List ByteArray} (h : begins rest = true) : prs may rest = some ([], rest) := by
  cases rest with
  | nil => rfl
  | cons x r => exact prs_oper may (by simpa [begins] using h)
theorem prs_word {x : ByteArray} {l : List UInt8} (hx : x.data.toList = 45 :: l) (hl : ¬ l = []) (hq : l.all four = true) {rest : List ByteArray} (h : begins rest = true) : prs RHLPm (x :: rest) = some (plain l, rest) := by
  cases l with
  | nil => exact absurd rfl hl
  | cons c q =>
    rw [prs_four hx hq, prs_rest RHLPm h]
    simp
theorem prs_words {rest : List ByteArray} (h : begins rest = true) : ∀ (l : List UInt8) (ws : List ByteArray), ws.map (·.data.toList) = l.map (fun c => [45, c]) → l.all four = true → prs RHLPm (ws ++ rest) = some (plain l, rest)
  | [], [], _, _ => prs_rest RHLPm h
  | [], _ :: _, e, _ => by cases e
  | _ :: _, [], e, _ => by cases e
  | c :: l, x :: ws, e, hq => by
    rw [List.map_cons, List.map_cons] at e
    injection e with e1 e2
    rw [List.all_cons, Bool.and_eq_true] at hq
    have ih := prs_words h l ws e2 hq.2
    rw [List.cons_append, prs_four (q := []) e1 (by simp [hq.1]), ih]
    rfl
end Go.Proofs.Ytldomiagincegaa
