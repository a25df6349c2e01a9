/-
  The calls of package paths. The conditions are said at each.
-/
import Derived.Test.YtfopnfgfoicidaaGreatBC
import Derived.Lib.Bytealg
import Derived.Lib.IndexBytes
import Derived.Lib.OthersKept
import Derived.Laws.OwnMore
import Derived.Deep.AppendLies
import Derived.Deep.LoopGhost
import Derived.OwnWalk
import Derived.Laws.AppendOwnNone
import Derived.Deep.Draws
import Derived.Deep.QuietTactic
import Derived.BigQuiet
import Derived.Laws.IdiomStrings
import Derived.Deep.Onto
namespace Go.Proofs.YtfopnfgfoicidaaGreat

/-- The names of what is left, one being begun. -/
def npF (cur : List UInt8) : List UInt8 → List (List UInt8)
  | [] => if cur = [] then [] else [cur]
  | c :: r => if c = 47 then (if cur = [] then npF [] r else cur :: npF [] r) else npF (cur ++ [c]) r
/-- A path's names. -/
def nms (p : List UInt8) : List (List UInt8) := npF [] p
/-- No byte is a slash. -/
def noSl (n : List UInt8) : Prop := ∀ c ∈ n, ¬ c = 47
def endSl (p : List UInt8) : Prop := p.getLast? = some 47
def absP (p : List UInt8) : Bool := p.head? == some 47
def splitP (p : List UInt8) : List (List UInt8) := if nms p ≠ [] ∧ p.getLast? = some 47 then nms p ++ [[46]] else nms p
def joinP (d n : List UInt8) : List UInt8 := if d = [] ∨ d.getLast? = some 47 then d ++ n else d ++ 47 :: n
def baseP (p : List UInt8) : List UInt8 := match (nms p).getLast? with
  | some n => n
  | none => if absP p = true then [47] else []
/-- A path without the slashes at its end. -/
def bareP (p : List UInt8) : List UInt8 := (p.reverse.dropWhile fun c => c == 47).reverse
/-- A path without the letters at its end. -/
def cutP (p : List UInt8) : List UInt8 := (p.reverse.dropWhile fun c => c != 47).reverse
def upP (p : List UInt8) : List UInt8 := if bareP (cutP (bareP p)) ≠ [] then bareP (cutP (bareP p)) else if absP p = true then [47] else [46]
/-- The beginnings of what is left, by what stands ahead of it. -/
def stF (done : List UInt8) : List UInt8 → List (List UInt8)
  | [] => []
  | c :: r => if ¬ c = 47 ∧ (r = [] ∨ r.head? = some 47) then (done ++ [c]) :: stF (done ++ [c]) r else stF (done ++ [c]) r
def stp (p : List UInt8) : List (List UInt8) := stF [] p

theorem nmF_slash (b : List UInt8) : ∀ (a cur : List UInt8), npF cur (a ++ 47 :: b) = npF cur a ++ nms b
  | [], cur => by
    rw [List.nil_append, npF, npF, if_pos rfl]
    split <;> rfl
  | c :: a, cur => by
    rw [List.cons_append, npF, npF]
    split
    · split
      · exact nmF_slash b a []
      · rw [nmF_slash b a []]; rfl
    · exact nmF_slash b a _
theorem nms_slash (a b : List UInt8) : nms (a ++ 47 :: b) = nms a ++ nms b := nmF_slash b a []
theorem nmF_plain : ∀ (n cur : List UInt8), noSl n → npF cur n = if cur ++ n = [] then [] else [cur ++ n]
  | [], cur, _ => by rw [npF, List.append_nil]
  | c :: n, cur, h => by
    rw [npF, if_neg (h c (List.mem_cons_self ..)), nmF_plain n (cur ++ [c]) (fun x hx => h x (List.mem_cons_of_mem _ hx))]
    simp
theorem nms_plain {n : List UInt8} (h : noSl n) (hn : ¬ n = []) : nms n = [n] := by
  rw [nms, nmF_plain n [] h, List.nil_append, if_neg hn]
theorem nms_nil : nms [] = [] := rfl
theorem nms_sl (k : Nat) (b : List UInt8) : nms (List.replicate k 47 ++ b) = nms b := by
  induction k with
  | zero => rfl
  | succ k ih =>
    rw [List.replicate_succ, List.cons_append, show (47 : UInt8) :: (List.replicate k 47 ++ b) = [] ++ 47 :: (List.replicate k 47 ++ b) from rfl, nms_slash, ih]
    rfl
/-- One more name behind slashes. -/
theorem nms_more (a : List UInt8) (k : Nat) {n : List UInt8} (h : noSl n) (hn : ¬ n = []) : nms (a ++ List.replicate (k + 1) 47 ++ n) = nms a ++ [n] := by
  rw [List.append_assoc, List.replicate_succ, List.cons_append, nms_slash, nms_sl, nms_plain h hn]

theorem stF_slash (b : List UInt8) : ∀ (a done : List UInt8), stF done (a ++ 47 :: b) = stF done a ++ stF (done ++ a ++ [47]) b
  | [], done => by
    rw [List.nil_append, stF, stF, if_neg (by simp), List.append_nil]
    rfl
  | c :: a, done => by
    rw [List.cons_append, stF, stF, stF_slash b a (done ++ [c])]
    have e : done ++ [c] ++ a ++ [47] = done ++ c :: a ++ [47] := by simp
    rw [e]
    by_cases h : ¬ c = 47 ∧ (a = [] ∨ a.head? = some 47)
    · rw [if_pos h, if_pos (by
        refine ⟨h.1, .inr ?_⟩
        rcases h.2 with h2 | h2
        · rw [h2]; rfl
        · cases a with
          | nil => simp at h2
          | cons d a => simpa using h2)]
      rfl
    · rw [if_neg h, if_neg (by
        rintro ⟨h1, h2 | h2⟩
        · cases a <;> simp at h2
        · refine h ⟨h1, ?_⟩
          cases a with
          | nil => exact .inl rfl
          | cons d a => exact .inr (by simpa using h2))]
theorem stF_plain : ∀ (n done : List UInt8), noSl n → stF done n = if n = [] then [] else [done ++ n]
  | [], _, _ => rfl
  | [c], done, h => by
    rw [stF, if_pos ⟨h c (List.mem_cons_self ..), .inl rfl⟩, if_neg (by simp)]
    rfl
  | c :: d :: n, done, h => by
    rw [stF, if_neg (by
      rintro ⟨_, h2 | h2⟩
      · cases h2
      · simp at h2
        exact h d (by simp) h2), stF_plain (d :: n) (done ++ [c]) (fun x hx => h x (List.mem_cons_of_mem _ hx)), if_neg (by simp), if_neg (by simp)]
    simp
theorem stF_sl (b : List UInt8) : ∀ (k : Nat) (done : List UInt8), stF done (List.replicate k 47 ++ b) = stF (done ++ List.replicate k 47) b
  | 0, done => by simp
  | k + 1, done => by
    rw [List.replicate_succ, List.cons_append, stF, if_neg (by simp), stF_sl b k (done ++ [47])]
    simp
/-- One more beginning behind slashes. -/
theorem stp_more (a : List UInt8) (k : Nat) {n : List UInt8} (h : noSl n) (hn : ¬ n = []) : stp (a ++ List.replicate (k + 1) 47 ++ n) = stp a ++ [a ++ List.replicate (k + 1) 47 ++ n] := by
  rw [List.append_assoc, List.replicate_succ, List.cons_append, stp, stF_slash, stF_sl, stF_plain n _ h, if_neg hn]
  simp [stp]
theorem stp_first (k : Nat) {n : List UInt8} (h : noSl n) (hn : ¬ n = []) : stp (List.replicate k 47 ++ n) = [List.replicate k 47 ++ n] := by
  rw [stp, stF_sl, stF_plain n _ h, if_neg hn]
  simp
theorem nms_first (k : Nat) {n : List UInt8} (h : noSl n) (hn : ¬ n = []) : nms (List.replicate k 47 ++ n) = [n] := by
  rw [nms_sl, nms_plain h hn]
/-- As many beginnings as names. -/
theorem len_F : ∀ (p cur done : List UInt8), (npF cur p).length = (stF done p).length + (if ¬ cur = [] ∧ (p = [] ∨ p.head? = some 47) then 1 else 0)
  | [], cur, done => by
    rw [npF, stF]
    by_cases h : cur = [] <;> simp [h]
  | c :: r, cur, done => by
    by_cases hc : c = 47
    · subst hc
      have hst : stF done (47 :: r) = stF (done ++ [47]) r := by rw [stF, if_neg (by simp)]
      have hnm : npF cur (47 :: r) = if cur = [] then npF [] r else cur :: npF [] r := by rw [npF, if_pos rfl]
      have ih : (npF [] r).length = (stF (done ++ [47]) r).length := by simpa using len_F r [] (done ++ [47])
      rw [hst, hnm]
      by_cases h : cur = []
      · rw [if_pos h, ih]; simp [h]
      · rw [if_neg h, List.length_cons, ih]; simp [h]
    · have hnm : npF cur (c :: r) = npF (cur ++ [c]) r := by rw [npF, if_neg hc]
      have ih := len_F r (cur ++ [c]) (done ++ [c])
      have h0 : ¬ (¬ cur = [] ∧ (c :: r = [] ∨ (c :: r).head? = some 47)) := by
        rintro ⟨_, h2 | h2⟩
        · cases h2
        · simp at h2; exact hc h2
      rw [hnm, ih, if_neg h0, stF]
      by_cases h : r = [] ∨ r.head? = some 47
      · rw [if_pos ⟨by simp, h⟩, if_pos ⟨hc, h⟩, List.length_cons]
      · rw [if_neg (fun e => h e.2), if_neg (fun e => h e.2)]
theorem len_stp (p : List UInt8) : (stp p).length = (nms p).length := by
  have := len_F p [] []
  simpa [stp, nms] using this.symm
end Go.Proofs.YtfopnfgfoicidaaGreat
namespace Go.Proofs.YtfopnfgfoicidaaGreat

theorem drop_split (f : UInt8 → Bool) (p : List UInt8) : p = (p.reverse.dropWhile f).reverse ++ (p.reverse.takeWhile f).reverse := by
  rw [← List.reverse_append, List.takeWhile_append_dropWhile, List.reverse_reverse]
theorem drop_last (f : UInt8 → Bool) (p : List UInt8) : ∀ c, (p.reverse.dropWhile f).reverse.getLast? = some c → f c = false := by
  intro c h
  rw [List.getLast?_reverse] at h
  generalize p.reverse = l at h
  induction l with
  | nil => simp at h
  | cons d l ih =>
    rw [List.dropWhile_cons] at h
    split at h
    · exact ih h
    · rename_i hd
      simp at h
      subst h
      simpa using hd
theorem take_all (f : UInt8 → Bool) (p : List UInt8) : ∀ c ∈ (p.reverse.takeWhile f).reverse, f c = true := by
  intro c h
  rw [List.mem_reverse] at h
  generalize p.reverse = l at h
  induction l with
  | nil => simp at h
  | cons d l ih =>
    rw [List.takeWhile_cons] at h
    split at h
    · rename_i hd
      rcases List.mem_cons.1 h with h | h
      · subst h; exact hd
      · exact ih h
    · simp at h
theorem rep_of {l : List UInt8} (h : ∀ c ∈ l, c = 47) : l = List.replicate l.length 47 := by
  rw [List.eq_replicate_iff]
  exact ⟨rfl, h⟩
theorem bare_split (p : List UInt8) : ∃ k, p = bareP p ++ List.replicate k 47 ∧ ¬ (bareP p).getLast? = some 47 := by
  have h1 := drop_split (fun c => c == 47) p
  have h2 := take_all (fun c => c == 47) p
  have h3 := drop_last (fun c => c == 47) p
  refine ⟨(p.reverse.takeWhile fun c => c == 47).reverse.length, ?_, fun e => ?_⟩
  · rw [← rep_of (fun c hc => by simpa using h2 c hc)]
    exact h1
  · have := h3 47 e
    simp at this
theorem cut_split (p : List UInt8) : ∃ n, p = cutP p ++ n ∧ noSl n ∧ ∀ c, (cutP p).getLast? = some c → c = 47 := by
  have h1 := drop_split (fun c => c != 47) p
  have h2 := take_all (fun c => c != 47) p
  have h3 := drop_last (fun c => c != 47) p
  exact ⟨_, h1, fun c hc => by simpa using h2 c hc, fun c hc => by simpa using h3 c hc⟩
theorem dropW_app (f : UInt8 → Bool) {a b : List UInt8} (hb : ∀ c ∈ b, f c = true) (ha : ∀ c, a.getLast? = some c → f c = false) : ((a ++ b).reverse.dropWhile f).reverse = a := by
  rw [List.reverse_append, List.dropWhile_append_of_pos (fun c hc => hb c (by simpa using hc))]
  have : a.reverse.dropWhile f = a.reverse := by
    cases hr : a.reverse with
    | nil => rfl
    | cons d l =>
      have hd : a.getLast? = some d := by rw [← List.reverse_reverse a, hr]; simp
      rw [List.dropWhile_cons, if_neg (by rw [ha d hd]; decide)]
  rw [this, List.reverse_reverse]
theorem bare_app {a : List UInt8} (k : Nat) (ha : ¬ a.getLast? = some 47) : bareP (a ++ List.replicate k 47) = a :=
  dropW_app _ (fun c hc => by rw [List.eq_of_mem_replicate hc]; rfl) (fun c hc => by
    rw [beq_eq_false_iff_ne]
    intro e
    subst e
    exact ha hc)
theorem bare_same {a : List UInt8} (ha : ¬ a.getLast? = some 47) : bareP a = a := by simpa using bare_app 0 ha
theorem cut_app {a n : List UInt8} (hn : noSl n) (ha : ∀ c, a.getLast? = some c → c = 47) : cutP (a ++ n) = a :=
  dropW_app _ (fun c hc => by simpa using hn c hc) (fun c hc => by rw [ha c hc]; rfl)
theorem last_plain {a n : List UInt8} (hn : noSl n) (h0 : ¬ n = []) : ¬ (a ++ n).getLast? = some 47 := by
  intro e
  rw [List.getLast?_append] at e
  cases hz : n.getLast? with
  | none => exact h0 (List.getLast?_eq_none_iff.1 hz)
  | some c =>
    rw [hz] at e
    injection e with e
    exact hn c (List.mem_of_getLast? hz) e
/-- A name below a path that has names, and no slash at its end. -/
theorem join_eq {d n : List UInt8} (h0 : ¬ d = []) (hd : ¬ d.getLast? = some 47) : joinP d n = d ++ 47 :: n := by
  rw [joinP, if_neg (by rintro (h | h); exact h0 h; exact hd h)]
theorem join_nms {d n : List UInt8} (hn : noSl n) (hn0 : ¬ n = []) : nms (d ++ 47 :: n) = nms d ++ [n] := by rw [nms_slash, nms_plain hn hn0]
theorem cons_last (d n : List UInt8) (hn : noSl n) (hn0 : ¬ n = []) : ¬ (d ++ 47 :: n).getLast? = some 47 := by
  rw [show d ++ 47 :: n = (d ++ [47]) ++ n by simp]
  exact last_plain hn hn0
theorem join_base {d n : List UInt8} (hn : noSl n) (hn0 : ¬ n = []) : baseP (d ++ 47 :: n) = n := by
  rw [baseP, join_nms hn hn0]
  simp
theorem join_up {d n : List UInt8} (h0 : ¬ d = []) (hd : ¬ d.getLast? = some 47) (hn : noSl n) (hn0 : ¬ n = []) : upP (d ++ 47 :: n) = d := by
  have h1 : bareP (d ++ 47 :: n) = d ++ 47 :: n := bare_same (cons_last d n hn hn0)
  have h2 : cutP (d ++ 47 :: n) = d ++ [47] := by
    rw [show d ++ 47 :: n = (d ++ [47]) ++ n by simp]
    exact cut_app hn (fun c hc => by simpa using hc.symm)
  have h3 : bareP (d ++ [47]) = d := bare_app 1 hd
  rw [upP, h1, h2, h3, if_pos h0]
theorem split_same {p : List UInt8} (h : ¬ p.getLast? = some 47) : splitP p = nms p := by rw [splitP, if_neg (fun e => h e.2)]
theorem join_split {d n : List UInt8} (hd : ¬ d.getLast? = some 47) (hn : noSl n) (hn0 : ¬ n = []) : (splitP (d ++ 47 :: n)).length = (splitP d).length + 1 := by
  rw [split_same (cons_last d n hn hn0), split_same hd, join_nms hn hn0]
  simp

/-- A beginning: it is what stands ahead of an end of a name, and its own beginnings are those up to it. -/
theorem stF_get : ∀ (p done : List UInt8) (i : Nat) (st : List UInt8), (stF done p)[i]? = some st → ∃ a r, p = a ++ r ∧ ¬ a = [] ∧ ¬ a.getLast? = some 47 ∧ st = done ++ a ∧ stF done a = (stF done p).take (i + 1)
  | [], _, _, _, h => by simp [stF] at h
  | c :: r, done, i, st, h => by
    by_cases hc : ¬ c = 47 ∧ (r = [] ∨ r.head? = some 47)
    · have e : stF done (c :: r) = (done ++ [c]) :: stF (done ++ [c]) r := by rw [stF, if_pos hc]
      rw [e] at h ⊢
      cases i with
      | zero =>
        simp at h
        refine ⟨[c], r, rfl, by simp, ?_, h.symm, ?_⟩
        · simpa using hc.1
        · rw [stF, if_pos ⟨hc.1, .inl rfl⟩]; simp [stF]
      | succ i =>
        obtain ⟨a, r', h1, h2, h3, h4, h5⟩ := stF_get r (done ++ [c]) i st (by simpa using h)
        refine ⟨c :: a, r', by rw [h1]; rfl, by simp, ?_, by rw [h4]; simp, ?_⟩
        · rwa [List.getLast?_cons_of_ne_nil h2]
        · have h7 : a = [] ∨ a.head? = some 47 := by
            rcases hc.2 with h6 | h6
            · rw [h6] at h1
              exact absurd (List.append_eq_nil_iff.1 h1.symm).1 h2
            · rw [h1] at h6
              cases a with
              | nil => exact absurd rfl h2
              | cons d a => exact .inr (by simpa using h6)
          rw [stF, if_pos ⟨hc.1, h7⟩, h5, List.take_succ_cons]
    · have e : stF done (c :: r) = stF (done ++ [c]) r := by rw [stF, if_neg hc]
      rw [e] at h ⊢
      obtain ⟨a, r', h1, h2, h3, h4, h5⟩ := stF_get r (done ++ [c]) i st h
      refine ⟨c :: a, r', by rw [h1]; rfl, by simp, ?_, by rw [h4]; simp, ?_⟩
      · rwa [List.getLast?_cons_of_ne_nil h2]
      · rw [stF, if_neg ?_, h5]
        rintro ⟨h6, h7 | h7⟩
        · exact h2 h7
        · refine hc ⟨h6, .inr ?_⟩
          rw [h1]
          cases a with
          | nil => exact absurd rfl h2
          | cons d a => simpa using h7
theorem stp_get {p st : List UInt8} {i : Nat} (h : (stp p)[i]? = some st) : (∃ r, p = st ++ r) ∧ ¬ st = [] ∧ ¬ st.getLast? = some 47 ∧ stp st = (stp p).take (i + 1) := by
  obtain ⟨a, r, h1, h2, h3, h4, h5⟩ := stF_get p [] i st h
  rw [List.nil_append] at h4
  subst h4
  exact ⟨⟨r, h1⟩, h2, h3, h5⟩
theorem stF_lt : ∀ (p done : List UInt8), ∀ x ∈ stF done p, done.length < x.length
  | [], _, x, h => by simp [stF] at h
  | c :: r, done, x, h => by
    rw [stF] at h
    split at h
    · rcases List.mem_cons.1 h with h | h
      · subst h; simp
      · have := stF_lt r _ x h
        simp at this
        omega
    · have := stF_lt r _ x h
      simp at this
      omega
theorem stF_up : ∀ (p done : List UInt8), (stF done p).Pairwise fun x y => x.length < y.length
  | [], _ => by simp [stF]
  | c :: r, done => by
    rw [stF]
    split
    · exact List.Pairwise.cons (fun x hx => stF_lt r _ x hx) (stF_up r _)
    · exact stF_up r _
/-- Beginnings grow. -/
theorem stp_up {p x y : List UInt8} {i j : Nat} (hij : i < j) (hx : (stp p)[i]? = some x) (hy : (stp p)[j]? = some y) : x.length < y.length := by
  have h := List.pairwise_iff_getElem.1 (stF_up p [])
  obtain ⟨hi, ei⟩ := List.getElem?_eq_some_iff.1 hx
  obtain ⟨hj, ej⟩ := List.getElem?_eq_some_iff.1 hy
  have := h i j hi hj hij
  unfold stp at ei ej
  rw [ei, ej] at this
  exact this
/-- The names of the beginning number i are i + 1. -/
theorem stp_names {p st : List UInt8} {i : Nat} (h : (stp p)[i]? = some st) : (splitP st).length = i + 1 := by
  obtain ⟨_, _, h3, h4⟩ := stp_get h
  have hi := (List.getElem?_eq_some_iff.1 h).1
  rw [split_same h3, ← len_stp, h4, List.length_take]
  omega
theorem stp_base {p st : List UInt8} {i : Nat} (h : (stp p)[i]? = some st) : (splitP st)[i]? = some (baseP st) := by
  obtain ⟨_, _, h3, _⟩ := stp_get h
  have hl := stp_names h
  rw [split_same h3] at hl ⊢
  rw [baseP, List.getLast?_eq_getElem?, hl, Nat.add_sub_cancel]
  have : i < (nms st).length := by omega
  rw [List.getElem?_eq_getElem this]
theorem stp_last {q : List UInt8} (h0 : ¬ q = []) (hq : ¬ q.getLast? = some 47) : (stp q).getLast? = some q := by
  obtain ⟨n, h1, h2, h3⟩ := cut_split q
  have hn : ¬ n = [] := by
    intro e
    rw [e, List.append_nil] at h1
    cases hc : (cutP q).getLast? with
    | none =>
      rw [List.getLast?_eq_none_iff] at hc
      exact h0 (h1.trans hc)
    | some c =>
      have e := h3 c hc
      rw [← h1] at hc
      rw [e] at hc
      exact hq hc
  cases hc : (cutP q).getLast? with
  | none =>
    rw [List.getLast?_eq_none_iff] at hc
    rw [hc, List.nil_append] at h1
    rw [stp, stF_plain q [] (by rw [h1]; exact h2), if_neg h0]
    rfl
  | some c =>
    have hc47 := h3 c hc
    subst hc47
    obtain ⟨a, ha⟩ : ∃ a, cutP q = a ++ [47] := by
      rw [List.getLast?_eq_some_iff] at hc
      exact hc
    have e : q = a ++ 47 :: n := by rw [h1, ha]; simp
    rw [e, stp, stF_slash, stF_plain n _ h2, if_neg hn]
    simp
/-- What stands above a beginning is no longer than the beginning ahead of it. -/
theorem stp_above {p x y : List UInt8} {i : Nat} (hx : (stp p)[i]? = some x) (hy : (stp p)[i + 1]? = some y) : (upP y).length ≤ x.length := by
  obtain ⟨_, hx0, _, _⟩ := stp_get hx
  obtain ⟨_, hy0, hy47, hyt⟩ := stp_get hy
  have hlx : 1 ≤ x.length := by
    cases x with
    | nil => exact absurd rfl hx0
    | cons c x => simp
  rw [upP, bare_same hy47]
  by_cases hq : bareP (cutP y) ≠ []
  · rw [if_pos hq]
    obtain ⟨n, e1, e2, e3⟩ := cut_split y
    obtain ⟨k, f1, f2⟩ := bare_split (cutP y)
    generalize hQ : bareP (cutP y) = q at hq f1 f2
    have hk : ¬ k = 0 := by
      intro e
      rw [e] at f1
      simp at f1
      cases hc : (cutP y).getLast? with
      | none =>
        rw [List.getLast?_eq_none_iff] at hc
        exact hq (f1.symm.trans hc)
      | some c =>
        have := e3 c hc
        rw [f1, this] at hc
        exact f2 hc
    obtain ⟨m, rfl⟩ : ∃ m, k = m + 1 := ⟨k - 1, by omega⟩
    have hy' : y = q ++ 47 :: (List.replicate m 47 ++ n) := by
      rw [e1, f1, List.replicate_succ]
      simp
    have hs : stp y = stp q ++ stF (q ++ [47]) (List.replicate m 47 ++ n) := by
      have := stF_slash (List.replicate m 47 ++ n) q []
      rw [hy']
      simpa [stp] using this
    have hlq := stp_last hq f2
    obtain ⟨hi1, _⟩ := List.getElem?_eq_some_iff.1 hy
    have hly : (stp y).length = i + 2 := by rw [hyt, List.length_take]; omega
    have hjq : 0 < (stp q).length := by
      cases hz : stp q with
      | nil => rw [hz] at hlq; simp at hlq
      | cons c l => simp
    have hne : ¬ stF (q ++ [47]) (List.replicate m 47 ++ n) = [] := by
      intro e
      rw [e, List.append_nil] at hs
      have h1 := stp_last hy0 hy47
      rw [hs, hlq] at h1
      injection h1 with h1
      have := congrArg List.length hy'
      rw [← h1] at this
      simp at this
    have hpos : 0 < (stF (q ++ [47]) (List.replicate m 47 ++ n)).length := List.length_pos_iff.2 hne
    have hle : (stp q).length ≤ i + 1 := by
      have := congrArg List.length hs
      rw [List.length_append] at this
      omega
    have hget : (stp p)[(stp q).length - 1]? = some q := by
      have h1 : (stp y)[(stp q).length - 1]? = some q := by
        rw [hs, List.getElem?_append_left (by omega)]
        rw [List.getLast?_eq_getElem?] at hlq
        exact hlq
      rw [hyt, List.getElem?_take] at h1
      split at h1
      · exact h1
      · cases h1
    by_cases hc : (stp q).length - 1 = i
    · rw [hc, hx] at hget
      injection hget with hget
      rw [hget]
      exact Nat.le_refl _
    · exact Nat.le_of_lt (stp_up (by omega) hget hx)
  · rw [if_neg hq]
    split <;> simpa using hlx
/-- All names of a path, and the dot behind a slash. -/
theorem split_len (p : List UInt8) : (splitP p).length = (stp p).length ∨ (splitP p).length = (stp p).length + 1 ∧ (splitP p)[(stp p).length]? = some [46] := by
  rw [splitP, len_stp]
  split
  · refine .inr ⟨by simp, ?_⟩
    rw [List.getElem?_append_right (Nat.le_refl _)]
    simp
  · exact .inl rfl
end Go.Proofs.YtfopnfgfoicidaaGreat
namespace Go.Proofs.YtfopnfgfoicidaaGreat
open Go Go.RowKit
set_option maxRecDepth 100000

/-- Where names stand in what is left of a path: behind n bytes, the last slash ahead being the one ahead of byte number st. -/
def sp (n st : Nat) : List UInt8 → List (Nat × Nat)
  | [] => if st < n then [(st, n)] else []
  | c :: r => if c = 47 then (if st < n then (st, n) :: sp (n + 1) (n + 1) r else sp (n + 1) (n + 1) r) else sp (n + 1) st r
def sps (p : List UInt8) : List (Nat × Nat) := sp 0 0 p
theorem sp_names (p : List UInt8) : ∀ (r done : List UInt8) (st : Nat), p = done ++ r → st ≤ done.length → (sp done.length st r).map (fun x => (p.take x.2).drop x.1) = npF (done.drop st) r
  | [], done, st, hp, hst => by
    rw [List.append_nil] at hp
    subst hp
    rw [sp, npF]
    by_cases h : st < p.length
    · rw [if_pos h, if_neg (by rw [List.drop_eq_nil_iff]; omega)]
      simp
    · rw [if_neg h, if_pos (by rw [List.drop_eq_nil_iff]; omega)]
      rfl
  | c :: r, done, st, hp, hst => by
    have hp' : p = (done ++ [c]) ++ r := by rw [hp]; simp
    have hl : (done ++ [c]).length = done.length + 1 := by simp
    rw [sp, npF]
    by_cases hc : c = 47
    · rw [if_pos hc, if_pos hc]
      have ih := sp_names p r (done ++ [c]) (done.length + 1) hp' (by omega)
      rw [hl, List.drop_eq_nil_of_le (by omega)] at ih
      by_cases h : st < done.length
      · rw [if_pos h, if_neg (by rw [List.drop_eq_nil_iff]; omega), List.map_cons, ih]
        congr 1
        simp only
        rw [hp, List.take_append_of_le_length (Nat.le_refl _), List.take_length]
      · rw [if_neg h, if_pos (by rw [List.drop_eq_nil_iff]; omega), ih]
    · rw [if_neg hc, if_neg hc]
      have ih := sp_names p r (done ++ [c]) st hp' (by omega)
      rw [hl, List.drop_append_of_le_length hst] at ih
      exact ih
theorem sps_names (p : List UInt8) : (sps p).map (fun x => (p.take x.2).drop x.1) = nms p := by
  have := sp_names p p [] 0 rfl (Nat.zero_le _)
  simpa [sps, nms] using this
theorem sp_steps (p : List UInt8) : ∀ (r done : List UInt8) (st : Nat), p = done ++ r → st ≤ done.length →
    (sp done.length st r).map (fun x => p.take x.2) = (if st < done.length ∧ (r = [] ∨ r.head? = some 47) then [done] else []) ++ stF done r
  | [], done, st, hp, hst => by
    rw [List.append_nil] at hp
    subst hp
    rw [sp, stF]
    by_cases h : st < p.length
    · simp [h]
    · simp [h]
  | c :: r, done, st, hp, hst => by
    have hp' : p = (done ++ [c]) ++ r := by rw [hp]; simp
    have hl : (done ++ [c]).length = done.length + 1 := by simp
    rw [sp, stF]
    by_cases hc : c = 47
    · have ih := sp_steps p r (done ++ [c]) (done.length + 1) hp' (by omega)
      rw [hl, if_neg (by omega), List.nil_append] at ih
      rw [if_pos hc, if_neg (show ¬ (¬ c = 47 ∧ (r = [] ∨ r.head? = some 47)) from fun e => e.1 hc)]
      by_cases h : st < done.length
      · rw [if_pos h, if_pos ⟨h, .inr (by rw [hc]; rfl)⟩, List.map_cons, ih]
        simp only
        rw [hp, List.take_append_of_le_length (Nat.le_refl _), List.take_length]
        rfl
      · rw [if_neg h, if_neg (show ¬ (st < done.length ∧ (c :: r = [] ∨ (c :: r).head? = some 47)) from fun e => h e.1), ih]
        rfl
    · have ih := sp_steps p r (done ++ [c]) st hp' (by omega)
      rw [hl] at ih
      have h0 : ¬ (st < done.length ∧ (c :: r = [] ∨ (c :: r).head? = some 47)) := by
        rintro ⟨_, h | h⟩
        · cases h
        · simp at h; exact hc h
      rw [if_neg hc, ih, if_neg h0, List.nil_append]
      by_cases h : r = [] ∨ r.head? = some 47
      · rw [if_pos ⟨by omega, h⟩, if_pos ⟨hc, h⟩]
        rfl
      · rw [if_neg (fun e => h e.2), if_neg (fun e => h e.2)]
        rfl
theorem sps_steps (p : List UInt8) : (sps p).map (fun x => p.take x.2) = stp p := by
  have := sp_steps p p [] 0 rfl (Nat.zero_le _)
  simpa [sps, stp] using this
theorem sp_bd : ∀ (r : List UInt8) (n st : Nat), st ≤ n → ∀ x ∈ sp n st r, x.1 < x.2 ∧ x.2 ≤ n + r.length
  | [], n, st, h, x, hx => by
    rw [sp] at hx
    split at hx
    · rw [List.mem_singleton] at hx
      subst hx
      rename_i h2
      exact ⟨h2, Nat.le_refl _⟩
    · cases hx
  | c :: r, n, st, h, x, hx => by
    rw [sp] at hx
    rw [List.length_cons]
    split at hx
    · split at hx
      · rcases List.mem_cons.1 hx with hx | hx
        · subst hx
          rename_i h2
          exact ⟨h2, by simp⟩
        · have := sp_bd r (n + 1) (n + 1) (Nat.le_refl _) x hx
          omega
      · have := sp_bd r (n + 1) (n + 1) (Nat.le_refl _) x hx
        omega
    · have := sp_bd r (n + 1) st (by omega) x hx
      omega
theorem sps_bd {p : List UInt8} {k a b : Nat} (h : (sps p)[k]? = some (a, b)) : a < b ∧ b ≤ p.length := by
  have := sp_bd p 0 0 (Nat.le_refl _) (a, b) (List.mem_of_getElem? h)
  simpa using this
theorem sp_len : ∀ (r : List UInt8) (n st : Nat), (sp n st r).length ≤ r.length + 1
  | [], n, st => by
    rw [sp]
    split <;> simp
  | c :: r, n, st => by
    rw [sp]
    have h1 := sp_len r (n + 1) (n + 1)
    have h2 := sp_len r (n + 1) st
    split
    · split
      · simp only [List.length_cons]; omega
      · simp only [List.length_cons]; omega
    · simp only [List.length_cons]; omega
theorem sps_len (p : List UInt8) : (sps p).length ≤ p.length + 1 := sp_len p 0 0
theorem len_sps (p : List UInt8) : (sps p).length = (nms p).length := by rw [← sps_names, List.length_map]
theorem nms_len (p : List UInt8) : (nms p).length ≤ p.length + 1 := by rw [← len_sps]; exact sps_len p
theorem len_sps' (p : List UInt8) : (sps p).length = (stp p).length := by rw [← sps_steps, List.length_map]
/-- The places behind k bytes; none behind the end. -/
def spX (p : List UInt8) (k st : Nat) : List (Nat × Nat) := if k ≤ p.length then sp k st (p.drop k) else []
theorem spX_zero (p : List UInt8) : spX p 0 0 = sps p := by rw [spX, if_pos (Nat.zero_le _), List.drop_zero]; rfl
theorem spX_end (p : List UInt8) (k st : Nat) (h : p.length < k) : spX p k st = [] := by rw [spX, if_neg (by omega)]
theorem spX_byte {p : List UInt8} {k : Nat} {c : UInt8} (st : Nat) (h : p[k]? = some c) (hc : ¬ c = 47) : spX p k st = spX p (k + 1) st := by
  have hl := (List.getElem?_eq_some_iff.1 h).1
  have hd : p.drop k = c :: p.drop (k + 1) := by rw [List.drop_eq_getElem_cons hl]; congr 1; exact (List.getElem?_eq_some_iff.1 h).2
  rw [spX, spX, if_pos (by omega), if_pos (by omega), hd, sp, if_neg hc]
theorem spX_slash {p : List UInt8} {k : Nat} (st : Nat) (h : p[k]? = some 47 ∨ k = p.length) : spX p k st = (if st < k then [(st, k)] else []) ++ spX p (k + 1) (k + 1) := by
  rcases h with h | h
  · have hl := (List.getElem?_eq_some_iff.1 h).1
    have hd : p.drop k = 47 :: p.drop (k + 1) := by rw [List.drop_eq_getElem_cons hl]; congr 1; exact (List.getElem?_eq_some_iff.1 h).2
    have h1 : k ≤ p.length := by omega
    have h2 : k + 1 ≤ p.length := by omega
    rw [spX, spX, if_pos h1, if_pos h2, hd, sp, if_pos rfl]
    split <;> rfl
  · subst h
    rw [spX_end _ (p.length + 1) _ (by omega), List.append_nil, spX, if_pos (Nat.le_refl _), List.drop_length, sp]
theorem spX_pos {p : List UInt8} {k st : Nat} (h : p[k]? = some 47 ∨ k = p.length) (hs : st < k) : spX p k st = (st, k) :: spX p (k + 1) (k + 1) := by rw [spX_slash st h, if_pos hs]; rfl
theorem spX_neg {p : List UInt8} {k st : Nat} (h : p[k]? = some 47 ∨ k = p.length) (hs : ¬ st < k) : spX p k st = spX p (k + 1) (k + 1) := by rw [spX_slash st h, if_neg hs]; rfl

/-- What stands above a path: the last beginning but one. -/
theorem up_stp (p : List UInt8) : upP p = if 1 < (stp p).length then (stp p).getD ((stp p).length - 2) [] else if absP p = true then [47] else [46] := by
  obtain ⟨k, hb, hl⟩ := bare_split p
  generalize hQ : bareP p = q at hb hl
  obtain ⟨n, e1, e2, e3⟩ := cut_split q
  obtain ⟨m, f1, f2⟩ := bare_split (cutP q)
  generalize hU : bareP (cutP q) = u at f1 f2
  have hst : stp p = stp q := by
    rw [hb]
    cases k with
    | zero => simp
    | succ k =>
      rw [List.replicate_succ, stp, stF_slash, show (List.replicate k 47 : List UInt8) = List.replicate k 47 ++ [] by simp, stF_sl]
      simp [stF, stp]
  have hup : upP p = if u ≠ [] then u else if absP p = true then [47] else [46] := by rw [upP, hQ, hU]
  by_cases hu : u = []
  · have hq : (stp q).length ≤ 1 := by
      rw [e1, f1, hu, List.nil_append]
      by_cases hn : n = []
      · rw [hn, stp, stF_sl]
        simp [stF]
      · rw [stp_first m e2 hn]
        simp
    rw [hup, if_neg (show ¬ u ≠ [] from fun e => e hu), hst, if_neg (show ¬ 1 < (stp q).length by omega)]
  · have hm : ¬ m = 0 := by
      intro e
      rw [e] at f1
      simp at f1
      cases hc : (cutP q).getLast? with
      | none =>
        rw [List.getLast?_eq_none_iff] at hc
        exact hu (f1.symm.trans hc)
      | some c =>
        have h4 := e3 c hc
        rw [f1, h4] at hc
        exact f2 hc
    obtain ⟨j, rfl⟩ : ∃ j, m = j + 1 := ⟨m - 1, by omega⟩
    have hn : ¬ n = [] := by
      intro e
      rw [e, List.append_nil] at e1
      apply hl
      rw [e1, f1, List.replicate_succ']
      simp
    have hs : stp q = stp u ++ [q] := by
      have := stp_more u j e2 hn
      rw [← f1, ← e1] at this
      exact this
    have hlu := stp_last hu f2
    have hpos : 0 < (stp u).length := by
      cases hz : stp u with
      | nil => rw [hz] at hlu; simp at hlu
      | cons c l => simp
    have hlen : (stp q).length = (stp u).length + 1 := by rw [hs]; simp
    rw [hup, if_pos hu, hst, if_pos (by omega), hlen, List.getD_eq_getElem?_getD, hs, List.getElem?_append_left (by omega)]
    rw [List.getLast?_eq_getElem?] at hlu
    rw [show (stp u).length + 1 - 2 = (stp u).length - 1 by omega, hlu]
    rfl
end Go.Proofs.YtfopnfgfoicidaaGreat
namespace Go.Proofs.YtfopnfgfoicidaaGreat
open Go Go.RowKit
set_option maxRecDepth 100000

section
variable {w w' : World} {g : Nat} {t : TypeId} {cs : Array Value}
end
/-- Places as they lie in memory. -/
def pCells (l : List (Nat × Nat)) : List Value := l.flatMap fun x => [.int .i64 (x.1 : Int), .int .i64 (x.2 : Int)]
theorem pCells_snoc (l : List (Nat × Nat)) (x : Nat × Nat) : pCells (l ++ [x]) = pCells l ++ [.int .i64 (x.1 : Int), .int .i64 (x.2 : Int)] := by simp [pCells]
theorem pCells_at : ∀ (l : List (Nat × Nat)) (k : Nat) (x : Nat × Nat), l[k]? = some x → (pCells l)[k * 2]? = some (.int .i64 (x.1 : Int)) ∧ (pCells l)[k * 2 + 1]? = some (.int .i64 (x.2 : Int))
  | [], k, f, h => by simp at h
  | x :: l, 0, f, h => by
    simp at h
    subst h
    exact ⟨rfl, rfl⟩
  | x :: l, k + 1, f, h => by
    have := pCells_at l k f (by simpa using h)
    rw [show (k + 1) * 2 = k * 2 + 2 by omega]
    exact this
/-- A slice that reads as places. -/
def SpansR (w : World) (v : Value) (l : List (Nat × Nat)) : Prop := ∃ A c, v = .slice A l.length c ∧ ∀ (k : Nat) (x : Nat × Nat), l[k]? = some x → ∃ ad : Addr, A = some ad ∧
  w.cell? (ad.add (k * 2)) = some (.int .i64 (x.1 : Int)) ∧ w.cell? ⟨(ad.add (k * 2)).block, (ad.add (k * 2)).off + 1, none⟩ = some (.int .i64 (x.2 : Int))
theorem SpansR.below {w w' : World} {v : Value} {l : List (Nat × Nat)} (h : SpansR w v l) (hb : Below w.heap.size w w') : SpansR w' v l := by
  obtain ⟨A, c, hv, hc⟩ := h
  refine ⟨A, c, hv, fun k a hk => ?_⟩
  obtain ⟨ad, hA, h0, h1⟩ := hc k a hk
  exact ⟨ad, hA, bc hb h0, bc hb h1⟩
theorem SpansR.nil (w : World) : SpansR w (.slice none 0 0) [] := ⟨none, 0, rfl, fun k s h => by simp at h⟩
theorem SpansR.of_own {w : World} {B : Nat} {e : TypeId} {v : Value} {l : List (Nat × Nat)} (h : w.ownsRow B e 2 v l.length (pCells l)) : SpansR w v l := by
  rcases h.2 with ⟨rfl, hn⟩ | ⟨g, cap, cur, rfl, _⟩
  · have : l = [] := List.eq_nil_of_length_eq_zero hn
    subst this
    exact SpansR.nil w
  · refine ⟨some ⟨g, 0, none⟩, cap, rfl, fun k a hk => ⟨_, rfl, ?_⟩⟩
    obtain ⟨h0, h1⟩ := pCells_at l k a hk
    rw [add_lit]
    exact ⟨row_at h _ _ h0, row_at h _ _ h1⟩
theorem info_span : (Tryz.prog.info? 183).map (fun i => (i.zero, i.size, i.bytes)) = some (some (.agg #[.int .i64 0, .int .i64 0]), 2, 16) := by kernel_rfl
theorem span_one (a b : Int) : ∀ u ∈ [Value.int .i64 a, .int .i64 b], u.oneCell' = true := by
  intro u hu
  simp only [List.mem_cons, List.mem_nil_iff, or_false] at hu
  rcases hu with rfl | rfl <;> rfl
theorem app_span {W w4 w5 : World} {B : Nat} {v v5 : Value} {l : List (Nat × Nat)} {s : Nat × Nat} (hb : Below B W w4) (hB : B ≤ w4.heap.size) (ho4 : w4.ownsRow B 183 2 v l.length (pCells l)) (ho : w5.ownsRow B 183 2 v5 (l.length + 1) (pCells l ++ [.int .i64 (s.1 : Int), .int .i64 (s.2 : Int)])) (hg : w4.grownBy w5 v.ownBlock) :
    ∃ A c, v5 = .slice A (l.length + 1) c ∧ w5.ownsRow B 183 2 (.slice A (l.length + 1) c) (l ++ [s]).length (pCells (l ++ [s])) ∧ Below B W w5 := by
  obtain ⟨A, c, rfl⟩ := own_slice ho
  rw [← pCells_snoc] at ho
  exact ⟨A, c, rfl, by rw [List.length_append]; exact ho, hb.grown hg hB (fun q hq => (ho4.lt q hq).1)⟩
end Go.Proofs.YtfopnfgfoicidaaGreat
namespace Go.Proofs.YtfopnfgfoicidaaGreat
open Go Go.RowKit
set_option maxRecDepth 100000

/-- Is a slash at a place of a text? -/
def slAt (p : ByteArray) (i : Int) : Bool := decide (0 ≤ i) && (tl p)[i.toNat]? == some 47
/-- A closure that asks for a slash of a text. -/
def SlF (w : World) (v : Value) (p : ByteArray) : Prop := ∃ g, v = .func (.func 144) #[] #[.pointer (some ⟨g, 0, none⟩)] ∧ w.cell? ⟨g, 0, none⟩ = some (.string p)
theorem SlF.below {w w' : World} {v : Value} {p : ByteArray} (h : SlF w v p) (hb : Below w.heap.size w w') : SlF w' v p := by
  obtain ⟨g, rfl, h⟩ := h
  exact ⟨g, rfl, bc hb h⟩
theorem slashIn_any (p : ByteArray) (w : World) :
    Calls Tryz.prog 121 #[.string p] w fun e w' => e = .returned (.func (.func 144) #[] #[.pointer (some ⟨w.heap.size, 0, none⟩)]) ∧ w'.cell? ⟨w.heap.size, 0, none⟩ = some (.string p) ∧ Below w.heap.size w w' := by
  have hmf : ∀ (fn : Fn) (first cap : Array Value) (w : World), (Instr.makeFunc fn first cap).run Tryz.prog w = .ok (.func fn first cap) w := fun _ _ _ _ => rfl
  go_enter Tryz.func121, Tryz.ntmps121
  go_wp2
  go_ret
  exact ⟨rfl, by simp, (Below.refl _ _).alloc (Nat.le_refl _) _⟩
theorem isSlash_any (p : ByteArray) (i : Int) (g : Nat) (w : World) (hc : w.cell? ⟨g, 0, none⟩ = some (.string p)) (hs : p.size ≤ maxLen) :
    Calls Tryz.prog 144 #[.int .i64 i, .pointer (some ⟨g, 0, none⟩)] w fun e w' => e = .returned (.bool (slAt p i)) ∧ w = w' := by
  have hs' : p.size ≤ 9223372036854775807 := by unfold maxLen at hs; omega
  have HF := Lib.hid (show slAt p i = (decide (0 ≤ i) && (tl p)[i.toNat]? == some 47) from rfl)
  generalize slAt p i = F at HF ⊢
  clear hs
  by_cases h0 : 0 ≤ i
  · obtain ⟨k, rfl⟩ : ∃ k : Nat, i = (k : Int) := ⟨i.toNat, by omega⟩
    rw [decide_eq_true h0, Bool.true_and, Int.toNat_natCast] at HF
    have h1 : (k : Int) ≥ 0 := h0
    by_cases hk : k < p.size
    · obtain ⟨b, hb⟩ : ∃ b, p[k] = b := ⟨_, rfl⟩
      have HB := Lib.hid (show F = (b == 47) by rw [HF.out, tl_at hk, hb]; simp)
      go_enter Tryz.func144, Tryz.ntmps144
      go_wp2
      go_ret
      exact ⟨ret_bool (by
        rw [HB.out]
        by_cases h : b = 47
        · rw [h]; rfl
        · rw [beq_eq_false_iff_ne.2 h]; exact co_ne (a := b) (b := 47) h), rfl⟩
    · have HB := Lib.hid (show F = false by rw [HF.out, List.getElem?_eq_none (by rw [tl_len]; omega)]; rfl)
      have hk' : ¬ (k : Int) < (p.size : Int) := by omega
      go_enter Tryz.func144, Tryz.ntmps144
      go_wp2
      go_ret
      exact ⟨ret_bool HB.out.symm, rfl⟩
  · rw [decide_eq_false h0, Bool.false_and] at HF
    have h1 : ¬ i ≥ 0 := h0
    go_enter Tryz.func144, Tryz.ntmps144
    go_wp2
    go_ret
    exact ⟨ret_bool HF.out.symm, rfl⟩
end Go.Proofs.YtfopnfgfoicidaaGreat
namespace Go.Proofs.YtfopnfgfoicidaaGreat
open Go Go.RowKit
set_option maxRecDepth 100000

theorem slAt_nat (p : ByteArray) (k : Nat) : slAt p (k : Int) = ((tl p)[k]? == some 47) := by
  rw [slAt, decide_eq_true (by omega), Bool.true_and, Int.toNat_natCast]
/-- Places so far. -/
structure SPS (W wr : World) (p : ByteArray) (k st : Nat) (v : Value) (out : List (Nat × Nat)) : Prop where
  below : Below W.heap.size W wr
  own : wr.ownsRow W.heap.size 183 2 v out.length (pCells out)
  so : out ++ spX (tl p) k st = sps (tl p)
theorem SPS.len {W wr : World} {p : ByteArray} {k st : Nat} {v : Value} {out : List (Nat × Nat)} (h : SPS W wr p k st v out) : out.length ≤ p.size + 1 := by
  have h1 := congrArg List.length h.so
  have h2 := sps_len (tl p)
  rw [List.length_append] at h1
  rw [tl_len] at h2
  omega
set_option maxRecDepth 100000 in
set_option maxHeartbeats 8000000 in
theorem spans_any (p : ByteArray) (w : World) (hp : p.size ≤ 1000000) :
    Calls Tryz.prog 145 #[.string p] w fun e w' => ∃ v, e = .returned v ∧ SpansR w' v (sps (tl p)) ∧ Below w.heap.size w w' := by
  have HS := Lib.hid (slashIn_any p w)
  go_enter Tryz.func145, Tryz.ntmps145
  go_wp2_with fail
  refine HS.out.mono ?_
  rintro e W ⟨rfl, hc, hb⟩
  have HC := Lib.hid hc
  have HB := Lib.hid hb
  clear hc hb HS
  go_wp2
  go_loopg [4, 5, 12] (p.size + 1) (fun gh s4 s5 s12 wr => ∃ (k st : Nat) (out : List (Nat × Nat)), s12 = .int .i64 k ∧ s5 = .int .i64 st ∧ k ≤ p.size + 1 ∧ gh = p.size + 1 - k ∧ st ≤ k ∧ SPS W wr p k st s4 out)
  case atStart => exact ⟨0, 0, [], rfl, rfl, Nat.zero_le _, rfl, Nat.le_refl _, Below.refl _ _, World.ownsRow_nil _ _ _ _, spX_zero _⟩
  case round =>
    obtain ⟨k, st, out, rfl, rfl, hk, rfl, hst, hS⟩ := hrel
    obtain ⟨vl, rfl⟩ : ∃ vl, vl = u4 := ⟨_, rfl⟩
    have hln := hS.len
    have HS := Lib.hid hS
    have hB0 := hS.below.size
    clear hS
    by_cases hlt : k < p.size + 1
    · by_cases hin : k < p.size
      · obtain ⟨b, hb⟩ : ∃ b, p[k] = b := ⟨_, rfl⟩
        have hy : (tl p)[k]? = some b := by rw [tl_at hin, hb]
        have kc := bc HS.out.below HC.out
        by_cases h47 : b = 47
        · subst h47
          have HY := Lib.hid hy
          clear hy hb
          by_cases hs : st < k
          · have HSO := Lib.hid (show (out ++ [(st, k)]) ++ spX (tl p) (k + 1) (k + 1) = sps (tl p) by rw [← HS.out.so, spX_pos (.inl HY.out) hs]; simp)
            have hs' : (st : Int) < (k : Int) := by omega
            go_wp2_with fail
            refine (isSlash_any p _ _ wr kc (by unfold maxLen; omega)).mono ?_
            rintro e w' ⟨rfl, rfl⟩
            rw [slAt_nat, HY.out]
            go_wp2_with (at_builtin; refine wpList_append_one rfl (.tmp 28) (.tmp 32) _ rfl W.heap.size 183 _ 2 16 Tryz.underlying180 info_span rfl (by decide) vl out.length (pCells out) rfl wr [.int .i64 (st : Int), .int .i64 (k : Int)] rfl (span_one _ _) HS.out.own rfl (by omega) (by omega) hB0 ?_; intro v5 w5 ho hg; obtain ⟨A5, c5, hv5, ho5, hb5⟩ := app_span (s := (st, k)) HS.out.below hB0 HS.out.own ho hg; subst hv5; have HO5 := Lib.hid ho5; have HB5 := Lib.hid hb5; clear ho hg ho5 hb5)
            go_roundg (p.size + 1 - (k + 1))
            case measure => omega
            case rel => exact ⟨k + 1, k + 1, out ++ [(st, k)], by go_num, by go_num, by omega, rfl, Nat.le_refl _, HB5.out, HO5.out, HSO.out⟩
          · have HSO := Lib.hid (show out ++ spX (tl p) (k + 1) (k + 1) = sps (tl p) by rw [← HS.out.so, spX_neg (.inl HY.out) hs])
            have hs' : ¬ (st : Int) < (k : Int) := by omega
            go_wp2_with fail
            refine (isSlash_any p _ _ wr kc (by unfold maxLen; omega)).mono ?_
            rintro e w' ⟨rfl, rfl⟩
            rw [slAt_nat, HY.out]
            go_wp2
            go_roundg (p.size + 1 - (k + 1))
            case measure => omega
            case rel => exact ⟨k + 1, k + 1, out, by go_num, by go_num, by omega, rfl, Nat.le_refl _, HS.out.below, HS.out.own, HSO.out⟩
        · have HY := Lib.hid hy
          have HSO := Lib.hid (show out ++ spX (tl p) (k + 1) st = sps (tl p) by rw [← HS.out.so, spX_byte st hy h47])
          have hq : (some b == some (47 : UInt8)) = false := by simpa using h47
          clear hy hb h47
          go_wp2_with fail
          refine (isSlash_any p _ _ wr kc (by unfold maxLen; omega)).mono ?_
          rintro e w' ⟨rfl, rfl⟩
          rw [slAt_nat, HY.out, hq]
          go_wp2
          go_roundg (p.size + 1 - (k + 1))
          case measure => omega
          case rel => exact ⟨k + 1, st, out, by go_num, by go_num, by omega, rfl, by omega, HS.out.below, HS.out.own, HSO.out⟩
      · have hke : k = p.size := by omega
        have HK := Lib.hid (show k = (tl p).length by rw [tl_len]; exact hke)
        clear hke
        by_cases hs : st < k
        · have HSO := Lib.hid (show (out ++ [(st, k)]) ++ spX (tl p) (k + 1) (k + 1) = sps (tl p) by rw [← HS.out.so, spX_pos (.inr HK.out) hs]; simp)
          have hs' : (st : Int) < (k : Int) := by omega
          go_wp2_with (at_builtin; refine wpList_append_one rfl (.tmp 28) (.tmp 32) _ rfl W.heap.size 183 _ 2 16 Tryz.underlying180 info_span rfl (by decide) vl out.length (pCells out) rfl wr [.int .i64 (st : Int), .int .i64 (k : Int)] rfl (span_one _ _) HS.out.own rfl (by omega) (by omega) hB0 ?_; intro v5 w5 ho hg; obtain ⟨A5, c5, hv5, ho5, hb5⟩ := app_span (s := (st, k)) HS.out.below hB0 HS.out.own ho hg; subst hv5; have HO5 := Lib.hid ho5; have HB5 := Lib.hid hb5; clear ho hg ho5 hb5)
          go_roundg (p.size + 1 - (k + 1))
          case measure => omega
          case rel => exact ⟨k + 1, k + 1, out ++ [(st, k)], by go_num, by go_num, by omega, rfl, Nat.le_refl _, HB5.out, HO5.out, HSO.out⟩
        · have HSO := Lib.hid (show out ++ spX (tl p) (k + 1) (k + 1) = sps (tl p) by rw [← HS.out.so, spX_neg (.inr HK.out) hs])
          have hs' : ¬ (st : Int) < (k : Int) := by omega
          go_wp2
          go_roundg (p.size + 1 - (k + 1))
          case measure => omega
          case rel => exact ⟨k + 1, k + 1, out, by go_num, by go_num, by omega, rfl, Nat.le_refl _, HS.out.below, HS.out.own, HSO.out⟩
    · have HR := Lib.hid (show SpansR wr vl (sps (tl p)) by
        have h := HS.out.so
        rw [spX_end _ _ _ (by rw [tl_len]; omega), List.append_nil] at h
        rw [← h]
        exact SpansR.of_own HS.out.own)
      go_wp2
      go_ret
      exact ⟨_, rfl, HR.out, bt HS.out.below HB.out⟩
end Go.Proofs.YtfopnfgfoicidaaGreat
namespace Go.Proofs.YtfopnfgfoicidaaGreat
open Go Go.RowKit
set_option maxRecDepth 100000

/-- Lists of bytes as texts. -/
def bAs (l : List (List UInt8)) : List ByteArray := l.map bA
theorem bAs_len (l : List (List UInt8)) : (bAs l).length = l.length := by rw [bAs, List.length_map]
theorem bAs_at {l : List (List UInt8)} {k : Nat} {x : List UInt8} (h : l[k]? = some x) : (bAs l)[k]? = some (bA x) := by rw [bAs, List.getElem?_map, h]; rfl
/-- The first k beginnings. -/
def pre (p : ByteArray) (k : Nat) : List ByteArray := ((sps (tl p)).take k).map fun x => p.extract 0 x.2
theorem pre_snoc {p : ByteArray} {k a b : Nat} (h : (sps (tl p))[k]? = some (a, b)) : pre p (k + 1) = pre p k ++ [p.extract 0 b] := by
  rw [pre, take_snoc' h, List.map_append]
  rfl
theorem pre_len {p : ByteArray} {k : Nat} (h : k ≤ (sps (tl p)).length) : (pre p k).length = k := by rw [pre, List.length_map, List.length_take]; omega
theorem pre_all (p : ByteArray) : pre p (sps (tl p)).length = bAs (stp (tl p)) := by
  rw [pre, List.take_length, bAs, ← sps_steps, List.map_map]
  apply List.map_congr_left
  intro x _
  exact pre_bA p x.2
end Go.Proofs.YtfopnfgfoicidaaGreat
namespace Go.Proofs.YtfopnfgfoicidaaGreat
open Go Go.RowKit
set_option maxRecDepth 100000

/-- The first k names. -/
def nam (p : ByteArray) (k : Nat) : List ByteArray := ((sps (tl p)).take k).map fun x => bA (((tl p).take x.2).drop x.1)
theorem nam_snoc {p : ByteArray} {k a b : Nat} (h : (sps (tl p))[k]? = some (a, b)) : nam p (k + 1) = nam p k ++ [bA (((tl p).take b).drop a)] := by
  rw [nam, take_snoc' h, List.map_append]
  rfl
theorem nam_len {p : ByteArray} {k : Nat} (h : k ≤ (sps (tl p)).length) : (nam p k).length = k := by rw [nam, List.length_map, List.length_take]; omega
theorem nam_all (p : ByteArray) : nam p (sps (tl p)).length = bAs (nms (tl p)) := by
  rw [nam, List.take_length, bAs, ← sps_names, List.map_map]
  rfl
/-- A slice of bytes that reads as a text's, with its room. -/
def BufR (w : World) (v : Value) (p : ByteArray) : Prop := ∃ g c, v = .slice (some ⟨g, 0, none⟩) p.size c ∧ p.size ≤ c ∧ ∀ (k : Nat) (b : UInt8), (tl p)[k]? = some b → w.cell? ⟨g, k, none⟩ = some (.int .u8 (b.toNat : Int))
theorem BufR.below {w w' : World} {v : Value} {p : ByteArray} (h : BufR w v p) (hb : Below w.heap.size w w') : BufR w' v p := by
  obtain ⟨g, c, hv, hle, hc⟩ := h
  exact ⟨g, c, hv, hle, fun k b hk => bc hb (hc k b hk)⟩
/-- '[]byte(s)'. -/
theorem bytes_run (w : World) (s : ByteArray) : ∃ v w', (convert 9 43 (.string s)).run Tryz.prog w = .ok v w' ∧ BufR w' v s ∧ Below w.heap.size w w' := by
  refine ⟨_, _, run_bytes_of_string w 9 43 5 s Tryz.underlying9 Tryz.underlying43 Tryz.underlying5, ⟨_, _, rfl, ?_, ?_⟩, ?_⟩
  · exact grownCap_ge _ _ _ _
  · intro k b hk
    have hlt : k < s.size := by rw [← tl_len]; exact (List.getElem?_eq_some_iff.1 hk).1
    rw [tl_at hlt] at hk
    injection hk with hk
    have := World.cell?_alloc_mark w.drew (bytesRow s (grownCap w s.size 0 5)) 5 ((bytesRow s (grownCap w s.size 0 5)).size, (bytesRow s (grownCap w s.size 0 5)).size + 1) k
    refine this.trans ?_
    unfold bytesRow
    rw [Array.getElem?_append_left (by simpa using hlt), Array.getElem?_map, ← hk]
    have h2 : s.data[k]? = some s[k] := by rw [← Array.getElem?_toList]; exact tl_at hlt
    rw [h2]
    rfl
  · exact (Below.refl _ _).drew.alloc (Nat.le_refl _) _
/-- 'string(b[i:j:j])' of such bytes. -/
theorem part_run {w : World} {g c a b : Nat} {p : ByteArray} (h : BufR w (.slice (some ⟨g, 0, none⟩) p.size c) p) (hb : b ≤ p.size) : (convert 43 9 (.slice (some ⟨g, a, none⟩) (b - a) (b - a))).run Tryz.prog w = .ok (.string (bA (((tl p).take b).drop a))) w := by
  obtain ⟨g', c', hv, -, hc⟩ := h
  injection hv with hA
  injection hA with hA
  injection hA with hg
  subst hg
  have hl : (((tl p).take b).drop a).length = b - a := by rw [List.length_drop, List.length_take, tl_len]; omega
  have h := run_convert_bytes_back (P := Tryz.prog) w 43 9 5 ⟨g, a, none⟩ (b - a) (((tl p).take b).drop a) Tryz.underlying43 Tryz.underlying5 Tryz.underlying9 (by
    intro j hj
    rw [hl] at hj
    rw [Addr.add_lit]
    refine hc (a + j) _ ?_
    rw [List.getElem_drop, List.getElem_take]
    exact List.getElem?_eq_getElem _)
  rw [hl] at h
  exact h
set_option maxRecDepth 100000 in
set_option maxHeartbeats 8000000 in
theorem names_any (p : ByteArray) (w : World) (hp : p.size ≤ 1000000) :
    Calls Tryz.prog 122 #[.string p] w fun e w' => ∃ v, e = .returned v ∧ w'.ownsRow w.heap.size 9 1 v (bAs (nms (tl p))).length (sCells (bAs (nms (tl p)))) ∧ Below w.heap.size w w' := by
  obtain ⟨vs, ws, hrun, hbuf, hbs⟩ := bytes_run w p
  have HBS := Lib.hid hbs
  have HBUF := Lib.hid hbuf
  have HS := Lib.hid (spans_any p ws hp)
  have hsl := sps_len (tl p)
  rw [tl_len] at hsl
  have HP0 := Lib.hid (show nam p 0 = [] from rfl)
  clear hbs
  obtain ⟨g, cg, rfl, hcg, -⟩ := hbuf
  go_enter Tryz.func122, Tryz.ntmps122
  go_wp2_with fail
  refine HS.out.mono ?_
  rintro e W ⟨v, rfl, hsp, hb⟩
  obtain ⟨A, c, rfl, hc⟩ := hsp
  have HC := Lib.hid hc
  have HB := Lib.hid (bt hb HBS.out)
  have HBUFW := Lib.hid (HBUF.out.below hb)
  clear hc hb HS
  go_wp2
  go_loopg [4, 12] (sps (tl p)).length (fun gh s4 s12 wr => ∃ (k : Nat), s12 = .int .i64 k ∧ k ≤ (sps (tl p)).length ∧ gh = (sps (tl p)).length - k ∧ wr.ownsRow W.heap.size 9 1 s4 (nam p k).length (sCells (nam p k)) ∧ Below W.heap.size W wr)
  case atStart => exact ⟨0, rfl, Nat.zero_le _, rfl, by rw [HP0.out]; exact own_nil_str _, Below.refl _ _⟩
  case round =>
    obtain ⟨k, rfl, hk, rfl, ho, hbr⟩ := hrel
    obtain ⟨vl, rfl⟩ : ∃ vl, vl = u4 := ⟨_, rfl⟩
    have HO := Lib.hid ho
    have HBR := Lib.hid hbr
    have hB0 := hbr.size
    clear ho hbr
    have hln := nam_len hk
    by_cases hlt : k < (sps (tl p)).length
    · obtain ⟨⟨a, b⟩, hx⟩ : ∃ x, (sps (tl p))[k]? = some x := ⟨_, List.getElem?_eq_getElem hlt⟩
      obtain ⟨ad, rfl, c0, c1⟩ := HC.out k _ hx
      have e0 := bc HBR.out c0
      have e1 := bc HBR.out c1
      have hbd := sps_bd hx
      rw [tl_len] at hbd
      have HN := Lib.hid (nam_snoc hx)
      clear c0 c1 hx
      obtain ⟨ha, hb⟩ := hbd
      have ha' : (a : Int) ≤ (b : Int) := by omega
      have hb' : (b : Int) ≤ (cg : Int) := by omega
      have HZ := Lib.hid (show (wr.alloc (.cells #[.int .i64 (a : Int), .int .i64 (b : Int)] 183)).heap.size = wr.heap.size + 1 by simp)
      have HOA := Lib.hid (HO.out.alloc (.cells #[.int .i64 (a : Int), .int .i64 (b : Int)] 183))
      have HBA := Lib.hid (HBR.out.alloc hB0 (.cells #[.int .i64 (a : Int), .int .i64 (b : Int)] 183))
      have hcv := part_run (a := a) (HBUFW.out.below HBA.out) hb
      obtain ⟨X, hX⟩ : ∃ X, bA (((tl p).take b).drop a) = X := ⟨_, rfl⟩
      rw [hX] at hcv HN
      clear hX
      go_wp2_with (at_builtin; refine wpList_append_one rfl (.tmp 16) (.tmp 26) _ rfl W.heap.size 9 _ 1 16 Tryz.underlying80 info_str rfl (by decide) vl (nam p k).length (sCells (nam p k)) rfl (wr.alloc (.cells #[.int .i64 (a : Int), .int .i64 (b : Int)] 183)) [.string X] rfl (str_one _) HOA.out (by rw [HZ.out]; rfl) (by omega) (by omega) HBA.out.size ?_; intro v5 w5 ho hg; obtain ⟨A5, c5, hv5, ho5, hb5⟩ := app_one HBA.out HBA.out.size HOA.out ho hg; subst hv5; have HO5 := Lib.hid ho5; have HB5 := Lib.hid hb5; clear ho hg ho5 hb5)
      go_roundg ((sps (tl p)).length - (k + 1))
      case measure => omega
      case rel => exact ⟨k + 1, by go_num, by omega, rfl, by have h := HO5.out; rw [hln] at h; rw [HN.out]; exact h, HB5.out⟩
    · have HR := Lib.hid (show wr.ownsRow w.heap.size 9 1 vl (bAs (nms (tl p))).length (sCells (bAs (nms (tl p)))) by
        rw [← nam_all, show (sps (tl p)).length = k by omega]
        exact HO.out.mono HB.out.size)
      go_wp2
      go_ret
      exact ⟨_, rfl, HR.out, bt HBR.out HB.out⟩
end Go.Proofs.YtfopnfgfoicidaaGreat
namespace Go.Proofs.YtfopnfgfoicidaaGreat
open Go Go.RowKit
set_option maxRecDepth 100000

theorem abs_at (p : ByteArray) : slAt p 0 = absP (tl p) := by
  unfold slAt absP
  rw [List.head?_eq_getElem?]
  rfl
theorem end_at {p : ByteArray} (h : 0 < p.size) : slAt p ((p.size : Int) - 1) = decide ((tl p).getLast? = some 47) := by
  obtain ⟨n, hn⟩ : ∃ n, p.size = n + 1 := ⟨p.size - 1, by omega⟩
  rw [List.getLast?_eq_getElem?, tl_len, hn, show ((n + 1 : Nat) : Int) - 1 = (n : Int) by omega, slAt_nat, Nat.add_sub_cancel]
  by_cases h : (tl p)[n]? = some 47
  · rw [h]; rfl
  · rw [decide_eq_false h, beq_eq_false_iff_ne]; exact h
theorem pos_of_nms {p : ByteArray} (h : 0 < (nms (tl p)).length) : 0 < p.size := by
  rw [← tl_len]
  cases hq : tl p with
  | nil => rw [hq] at h; exact absurd h (by decide)
  | cons c r => simp
theorem bAs_snoc (l : List (List UInt8)) (x : List UInt8) : bAs (l ++ [x]) = bAs l ++ [bA x] := by simp [bAs]
theorem own_len {w : World} {B n m : Nat} {e : TypeId} {v : Value} {xs : List Value} (h : w.ownsRow B e 1 v n xs) (hn : m = n) : w.ownsRow B e 1 v m xs := hn ▸ h
theorem own_mono {w : World} {B B0 : Nat} {e : TypeId} {size n : Nat} {v : Value} {xs : List Value} (h : w.ownsRow B e size v n xs) (hB : B0 ≤ B) : w.ownsRow B0 e size v n xs := ⟨h.1, h.2.imp id (fun ⟨g, cap, cur, a, b, c⟩ => ⟨g, cap, cur, a, Nat.le_trans hB b, c⟩)⟩
set_option maxRecDepth 100000 in
set_option maxHeartbeats 8000000 in
theorem split_own (p : ByteArray) (w : World) (hp : p.size ≤ 1000000) :
    Calls Tryz.prog 93 #[.string p] w fun e w' => ∃ v, e = .returned (.tuple #[.bool (absP (tl p)), v]) ∧ w'.ownsRow w.heap.size 9 1 v (bAs (splitP (tl p))).length (sCells (bAs (splitP (tl p)))) ∧ Below w.heap.size w w' := by
  have HS := Lib.hid (slashIn_any p w)
  have HN := Lib.hid (fun w1 => names_any p w1 hp)
  have HSP := Lib.hid (show splitP (tl p) = if nms (tl p) ≠ [] ∧ (tl p).getLast? = some 47 then nms (tl p) ++ [[46]] else nms (tl p) from rfl)
  have HPOS := Lib.hid (fun h => pos_of_nms (p := p) h)
  have hnl := nms_len (tl p)
  rw [tl_len] at hnl
  have hbl := bAs_len (nms (tl p))
  generalize nms (tl p) = ns at HN HSP HPOS hnl hbl
  have hmx : p.size ≤ maxLen := by unfold maxLen; omega
  have ab := abs_at p
  generalize splitP (tl p) = R at HSP ⊢
  generalize absP (tl p) = ap at ab ⊢
  by_cases h0 : 0 < ns.length
  · have hps := HPOS.out h0
    have hne : ¬ ns = [] := by intro e; rw [e] at h0; exact absurd h0 (by decide)
    have ee := end_at hps
    have h0' : (0 : Int) < (ns.length : Int) := by omega
    by_cases hl : (tl p).getLast? = some 47
    · rw [decide_eq_true hl] at ee
      rw [if_pos ⟨hne, hl⟩] at HSP
      have HR := Lib.hid (show bAs R = bAs ns ++ [⟨#[46]⟩] by rw [HSP.out, bAs_snoc]; rfl)
      clear hl hne HSP
      go_enter Tryz.func93, Tryz.ntmps93
      go_wp2_with fail
      refine HS.out.mono ?_
      rintro e w1 ⟨rfl, hc, hb⟩
      have HC := Lib.hid hc
      have HB := Lib.hid hb
      clear hc hb HS
      go_wp2_with fail
      refine (HN.out _).mono ?_
      rintro e w2 ⟨v, rfl, ho, hb⟩
      have HO := Lib.hid ho
      have HB2 := Lib.hid hb
      have kc := bc hb HC.out
      obtain ⟨A, c, rfl⟩ := own_slice ho
      clear ho hb HN
      go_wp2_with fail
      refine (isSlash_any p _ _ w2 kc hmx).mono ?_
      rintro e w' ⟨rfl, rfl⟩
      rw [ee]
      go_wp2_with (first | (at_builtin; refine wpList_append_one rfl (.tmp 20) (.tmp 21) _ rfl w1.heap.size 9 _ 1 16 Tryz.underlying80 info_str rfl (by decide) (.slice A (bAs ns).length c) (bAs ns).length (sCells (bAs ns)) (by first | rfl | (rw [hbl]; rfl)) w2 [.string ⟨#[46]⟩] rfl (str_one _) HO.out rfl (by omega) (by omega) HB2.out.size ?_; intro v5 w5 ho hg; obtain ⟨A5, c5, hv5, ho5, hb5⟩ := app_one HB2.out HB2.out.size HO.out ho hg; subst hv5; have HO5 := Lib.hid ho5; have HB5 := Lib.hid hb5; have kc5 := bc hb5 HC.out; clear ho hg ho5 hb5) | fail)
      refine (isSlash_any p _ _ w5 kc5 hmx).mono ?_
      rintro e w' ⟨rfl, rfl⟩
      rw [ab]
      go_wp2
      go_ret2
      exact ⟨_, rfl, by rw [HR.out]; have h := own_mono HO5.out HB.out.size; rw [hbl] at h; exact h, bt HB5.out HB.out⟩
    · rw [decide_eq_false hl] at ee
      rw [if_neg (fun e => hl e.2)] at HSP
      clear hl hne
      go_enter Tryz.func93, Tryz.ntmps93
      go_wp2_with fail
      refine HS.out.mono ?_
      rintro e w1 ⟨rfl, hc, hb⟩
      have HC := Lib.hid hc
      have HB := Lib.hid hb
      clear hc hb HS
      go_wp2_with fail
      refine (HN.out _).mono ?_
      rintro e w2 ⟨v, rfl, ho, hb⟩
      have HO := Lib.hid ho
      have HB2 := Lib.hid hb
      have kc := bc hb HC.out
      obtain ⟨A, c, rfl⟩ := own_slice ho
      clear ho hb HN
      go_wp2_with fail
      refine (isSlash_any p _ _ w2 kc hmx).mono ?_
      rintro e w' ⟨rfl, rfl⟩
      rw [ee]
      go_wp2_with fail
      refine (isSlash_any p _ _ w2 kc hmx).mono ?_
      rintro e w' ⟨rfl, rfl⟩
      rw [ab]
      go_wp2
      go_ret2
      exact ⟨_, rfl, by rw [HSP.out]; have h := own_mono HO.out HB.out.size; (rw [hbl] at h; have h2 := own_len h hbl; exact h2), bt HB2.out HB.out⟩
  · have hn0 : ns.length = 0 := by omega
    have hns : ns = [] := List.eq_nil_of_length_eq_zero hn0
    rw [if_neg (fun e => e.1 hns)] at HSP
    rw [hn0] at hbl
    clear hns h0
    go_enter Tryz.func93, Tryz.ntmps93
    go_wp2_with fail
    refine HS.out.mono ?_
    rintro e w1 ⟨rfl, hc, hb⟩
    have HC := Lib.hid hc
    have HB := Lib.hid hb
    clear hc hb HS
    go_wp2_with fail
    refine (HN.out _).mono ?_
    rintro e w2 ⟨v, rfl, ho, hb⟩
    have HO := Lib.hid ho
    have HB2 := Lib.hid hb
    have kc := bc hb HC.out
    obtain ⟨A, c, rfl⟩ := own_slice ho
    clear ho hb HN
    go_wp2_with fail
    refine (isSlash_any p _ _ w2 kc hmx).mono ?_
    rintro e w' ⟨rfl, rfl⟩
    rw [ab]
    go_wp2
    go_ret2
    exact ⟨_, rfl, by rw [HSP.out]; have h := own_mono HO.out HB.out.size; (rw [hbl] at h; have h2 := own_len h hbl; exact h2), bt HB2.out HB.out⟩
theorem split_any (p : ByteArray) (w : World) (hp : p.size ≤ 1000000) :
    Calls Tryz.prog 93 #[.string p] w fun e w' => ∃ v, e = .returned (.tuple #[.bool (absP (tl p)), v]) ∧ StrsR w' v (bAs (splitP (tl p))) ∧ Below w.heap.size w w' :=
  (split_own p w hp).mono fun _ _ ⟨v, h1, h2, h3⟩ => ⟨v, h1, StrsR.of_own h2, h3⟩
end Go.Proofs.YtfopnfgfoicidaaGreat
namespace Go.Proofs.YtfopnfgfoicidaaGreat
open Go Go.RowKit
set_option maxRecDepth 100000

theorem join_no {d n : ByteArray} (h : d.size = 0 ∨ (tl d).getLast? = some 47) : d ++ n = bA (joinP (tl d) (tl n)) := by
  apply bA_eq
  rw [tl_app, joinP, if_pos]
  rcases h with h | h
  · exact .inl (List.eq_nil_of_length_eq_zero (by rw [tl_len]; exact h))
  · exact .inr h
theorem join_yes {d n : ByteArray} (h0 : 0 < d.size) (h : ¬ (tl d).getLast? = some 47) : (d ++ ⟨#[47]⟩) ++ n = bA (joinP (tl d) (tl n)) := by
  apply bA_eq
  rw [tl_app, tl_app, joinP, if_neg]
  · show tl d ++ [47] ++ tl n = _
    simp
  · rintro (e | e)
    · have := congrArg List.length e
      rw [tl_len, List.length_nil] at this
      omega
    · exact h e
theorem eq_empty (s : ByteArray) (h : 0 < s.size) : (s.toList == []) = false := by
  rw [beq_eq_false_iff_ne]
  intro e
  have := (empty_iff s).1 e
  omega
end Go.Proofs.YtfopnfgfoicidaaGreat
