/-
  Paths as names, as plain mathematics. No condition.
-/
import Derived.Test.YthledmbdlengiaaLeaf
namespace Go.Proofs.Ythledmbdlengiaa

/-- The names of what is left, one being begun. -/
def nmF (cur : List UInt8) : List UInt8 → List (List UInt8)
  | [] => if cur = [] then [] else [cur]
  | c :: r => if c = 47 then (if cur = [] then nmF [] r else cur :: nmF [] r) else nmF (cur ++ [c]) r
/-- A path's names. -/
def nms (p : List UInt8) : List (List UInt8) := nmF [] p
/-- No byte is a slash. -/
def noSl (n : List UInt8) : Prop := ∀ c ∈ n, ¬ c = 47
def endSl (p : List UInt8) : Prop := p.getLast? = some 47
def absP (p : List UInt8) : Bool := p.head? == some 47
def splitP (p : List UInt8) : List (List UInt8) := if nms p ≠ [] ∧ p.getLast? = some 47 then nms p ++ [[46]] else nms p
def joinP (d n : List UInt8) : List UInt8 := if d = [] ∨ d.getLast? = some 47 then d ++ n else d ++ 47 :: n
def baseP (p : List UInt8) : List UInt8 := match (nms p).getLast? with
  | some n => n
  | none => if absP p = true then [47] else []
/-- A path without the slashes at its end. -/
def bareP (p : List UInt8) : List UInt8 := (p.reverse.dropWhile fun c => c == 47).reverse
/-- A path without the letters at its end. -/
def cutP (p : List UInt8) : List UInt8 := (p.reverse.dropWhile fun c => c != 47).reverse
def upP (p : List UInt8) : List UInt8 := if bareP (cutP (bareP p)) ≠ [] then bareP (cutP (bareP p)) else if absP p = true then [47] else [46]
/-- The beginnings of what is left, by what stands ahead of it. -/
def stF (done : List UInt8) : List UInt8 → List (List UInt8)
  | [] => []
  | c :: r => if ¬ c = 47 ∧ (r = [] ∨ r.head? = some 47) then (done ++ [c]) :: stF (done ++ [c]) r else stF (done ++ [c]) r
def stp (p : List UInt8) : List (List UInt8) := stF [] p

theorem nmF_slash (b : List UInt8) : ∀ (a cur : List UInt8), nmF cur (a ++ 47 :: b) = nmF cur a ++ nms b
  | [], cur => by
    rw [List.nil_append, nmF, nmF, if_pos rfl]
    split <;> rfl
  | c :: a, cur => by
    rw [List.cons_append, nmF, nmF]
    split
    · split
      · exact nmF_slash b a []
      · rw [nmF_slash b a []]; rfl
    · exact nmF_slash b a _
theorem nms_slash (a b : List UInt8) : nms (a ++ 47 :: b) = nms a ++ nms b := nmF_slash b a []
theorem nmF_plain : ∀ (n cur : List UInt8), noSl n → nmF cur n = if cur ++ n = [] then [] else [cur ++ n]
  | [], cur, _ => by rw [nmF, List.append_nil]
  | c :: n, cur, h => by
    rw [nmF, if_neg (h c (List.mem_cons_self ..)), nmF_plain n (cur ++ [c]) (fun x hx => h x (List.mem_cons_of_mem _ hx))]
    simp
theorem nms_plain {n : List UInt8} (h : noSl n) (hn : ¬ n = []) : nms n = [n] := by
  rw [nms, nmF_plain n [] h, List.nil_append, if_neg hn]
theorem nms_nil : nms [] = [] := rfl
theorem nms_sl (k : Nat) (b : List UInt8) : nms (List.replicate k 47 ++ b) = nms b := by
  induction k with
  | zero => rfl
  | succ k ih =>
    rw [List.replicate_succ, List.cons_append, show (47 : UInt8) :: (List.replicate k 47 ++ b) = [] ++ 47 :: (List.replicate k 47 ++ b) from rfl, nms_slash, ih]
    rfl
/-- One more name behind slashes. -/
theorem nms_more (a : List UInt8) (k : Nat) {n : List UInt8} (h : noSl n) (hn : ¬ n = []) : nms (a ++ List.replicate (k + 1) 47 ++ n) = nms a ++ [n] := by
  rw [List.append_assoc, List.replicate_succ, List.cons_append, nms_slash, nms_sl, nms_plain h hn]

theorem stF_slash (b : List UInt8) : ∀ (a done : List UInt8), stF done (a ++ 47 :: b) = stF done a ++ stF (done ++ a ++ [47]) b
  | [], done => by
    rw [List.nil_append, stF, stF, if_neg (by simp), List.append_nil]
    rfl
  | c :: a, done => by
    rw [List.cons_append, stF, stF, stF_slash b a (done ++ [c])]
    have e : done ++ [c] ++ a ++ [47] = done ++ c :: a ++ [47] := by simp
    rw [e]
    by_cases h : ¬ c = 47 ∧ (a = [] ∨ a.head? = some 47)
    · rw [if_pos h, if_pos (by
        refine ⟨h.1, .inr ?_⟩
        rcases h.2 with h2 | h2
        · rw [h2]; rfl
        · cases a with
          | nil => simp at h2
          | cons d a => simpa using h2)]
      rfl
    · rw [if_neg h, if_neg (by
        rintro ⟨h1, h2 | h2⟩
        · cases a <;> simp at h2
        · refine h ⟨h1, ?_⟩
          cases a with
          | nil => exact .inl rfl
          | cons d a => exact .inr (by simpa using h2))]
theorem stF_plain : ∀ (n done : List UInt8), noSl n → stF done n = if n = [] then [] else [done ++ n]
  | [], _, _ => rfl
  | [c], done, h => by
    rw [stF, if_pos ⟨h c (List.mem_cons_self ..), .inl rfl⟩, if_neg (by simp)]
    rfl
  | c :: d :: n, done, h => by
    rw [stF, if_neg (by
      rintro ⟨_, h2 | h2⟩
      · cases h2
      · simp at h2
        exact h d (by simp) h2), stF_plain (d :: n) (done ++ [c]) (fun x hx => h x (List.mem_cons_of_mem _ hx)), if_neg (by simp), if_neg (by simp)]
    simp
theorem stF_sl (b : List UInt8) : ∀ (k : Nat) (done : List UInt8), stF done (List.replicate k 47 ++ b) = stF (done ++ List.replicate k 47) b
  | 0, done => by simp
  | k + 1, done => by
    rw [List.replicate_succ, List.cons_append, stF, if_neg (by simp), stF_sl b k (done ++ [47])]
    simp
/-- One more beginning behind slashes. -/
theorem stp_more (a : List UInt8) (k : Nat) {n : List UInt8} (h : noSl n) (hn : ¬ n = []) : stp (a ++ List.replicate (k + 1) 47 ++ n) = stp a ++ [a ++ List.replicate (k + 1) 47 ++ n] := by
  rw [List.append_assoc, List.replicate_succ, List.cons_append, stp, stF_slash, stF_sl, stF_plain n _ h, if_neg hn]
  simp [stp]
theorem stp_first (k : Nat) {n : List UInt8} (h : noSl n) (hn : ¬ n = []) : stp (List.replicate k 47 ++ n) = [List.replicate k 47 ++ n] := by
  rw [stp, stF_sl, stF_plain n _ h, if_neg hn]
  simp
theorem nms_first (k : Nat) {n : List UInt8} (h : noSl n) (hn : ¬ n = []) : nms (List.replicate k 47 ++ n) = [n] := by
  rw [nms_sl, nms_plain h hn]
/-- As many beginnings as names. -/
theorem len_F : ∀ (p cur done : List UInt8), (nmF cur p).length = (stF done p).length + (if ¬ cur = [] ∧ (p = [] ∨ p.head? = some 47) then 1 else 0)
  | [], cur, done => by
    rw [nmF, stF]
    by_cases h : cur = [] <;> simp [h]
  | c :: r, cur, done => by
    by_cases hc : c = 47
    · subst hc
      have hst : stF done (47 :: r) = stF (done ++ [47]) r := by rw [stF, if_neg (by simp)]
      have hnm : nmF cur (47 :: r) = if cur = [] then nmF [] r else cur :: nmF [] r := by rw [nmF, if_pos rfl]
      have ih : (nmF [] r).length = (stF (done ++ [47]) r).length := by simpa using len_F r [] (done ++ [47])
      rw [hst, hnm]
      by_cases h : cur = []
      · rw [if_pos h, ih]; simp [h]
      · rw [if_neg h, List.length_cons, ih]; simp [h]
    · have hnm : nmF cur (c :: r) = nmF (cur ++ [c]) r := by rw [nmF, if_neg hc]
      have ih := len_F r (cur ++ [c]) (done ++ [c])
      have h0 : ¬ (¬ cur = [] ∧ (c :: r = [] ∨ (c :: r).head? = some 47)) := by
        rintro ⟨_, h2 | h2⟩
        · cases h2
        · simp at h2; exact hc h2
      rw [hnm, ih, if_neg h0, stF]
      by_cases h : r = [] ∨ r.head? = some 47
      · rw [if_pos ⟨by simp, h⟩, if_pos ⟨hc, h⟩, List.length_cons]
      · rw [if_neg (fun e => h e.2), if_neg (fun e => h e.2)]
theorem len_stp (p : List UInt8) : (stp p).length = (nms p).length := by
  have := len_F p [] []
  simpa [stp, nms] using this.symm
end Go.Proofs.Ythledmbdlengiaa
