/-
  Paths as names, as plain mathematics: what stands above, and beginnings. No condition.
-/
import Derived.Test.YthledmbdlengiaaPathM
namespace Go.Proofs.Ythledmbdlengiaa

theorem drop_split (f : UInt8 → Bool) (p : List UInt8) : p = (p.reverse.dropWhile f).reverse ++ (p.reverse.takeWhile f).reverse := by
  rw [← List.reverse_append, List.takeWhile_append_dropWhile, List.reverse_reverse]
theorem drop_last (f : UInt8 → Bool) (p : List UInt8) : ∀ c, (p.reverse.dropWhile f).reverse.getLast? = some c → f c = false := by
  intro c h
  rw [List.getLast?_reverse] at h
  generalize p.reverse = l at h
  induction l with
  | nil => simp at h
  | cons d l ih =>
    rw [List.dropWhile_cons] at h
    split at h
    · exact ih h
    · rename_i hd
      simp at h
      subst h
      simpa using hd
theorem take_all (f : UInt8 → Bool) (p : List UInt8) : ∀ c ∈ (p.reverse.takeWhile f).reverse, f c = true := by
  intro c h
  rw [List.mem_reverse] at h
  generalize p.reverse = l at h
  induction l with
  | nil => simp at h
  | cons d l ih =>
    rw [List.takeWhile_cons] at h
    split at h
    · rename_i hd
      rcases List.mem_cons.1 h with h | h
      · subst h; exact hd
      · exact ih h
    · simp at h
theorem rep_of {l : List UInt8} (h : ∀ c ∈ l, c = 47) : l = List.replicate l.length 47 := by
  rw [List.eq_replicate_iff]
  exact ⟨rfl, h⟩
theorem bare_split (p : List UInt8) : ∃ k, p = bareP p ++ List.replicate k 47 ∧ ¬ (bareP p).getLast? = some 47 := by
  have h1 := drop_split (fun c => c == 47) p
  have h2 := take_all (fun c => c == 47) p
  have h3 := drop_last (fun c => c == 47) p
  refine ⟨(p.reverse.takeWhile fun c => c == 47).reverse.length, ?_, fun e => ?_⟩
  · rw [← rep_of (fun c hc => by simpa using h2 c hc)]
    exact h1
  · have := h3 47 e
    simp at this
theorem cut_split (p : List UInt8) : ∃ n, p = cutP p ++ n ∧ noSl n ∧ ∀ c, (cutP p).getLast? = some c → c = 47 := by
  have h1 := drop_split (fun c => c != 47) p
  have h2 := take_all (fun c => c != 47) p
  have h3 := drop_last (fun c => c != 47) p
  exact ⟨_, h1, fun c hc => by simpa using h2 c hc, fun c hc => by simpa using h3 c hc⟩
theorem dropW_app (f : UInt8 → Bool) {a b : List UInt8} (hb : ∀ c ∈ b, f c = true) (ha : ∀ c, a.getLast? = some c → f c = false) : ((a ++ b).reverse.dropWhile f).reverse = a := by
  rw [List.reverse_append, List.dropWhile_append_of_pos (fun c hc => hb c (by simpa using hc))]
  have : a.reverse.dropWhile f = a.reverse := by
    cases hr : a.reverse with
    | nil => rfl
    | cons d l =>
      have hd : a.getLast? = some d := by rw [← List.reverse_reverse a, hr]; simp
      rw [List.dropWhile_cons, if_neg (by rw [ha d hd]; decide)]
  rw [this, List.reverse_reverse]
theorem bare_app {a : List UInt8} (k : Nat) (ha : ¬ a.getLast? = some 47) : bareP (a ++ List.replicate k 47) = a :=
  dropW_app _ (fun c hc => by rw [List.eq_of_mem_replicate hc]; rfl) (fun c hc => by
    rw [beq_eq_false_iff_ne]
    intro e
    subst e
    exact ha hc)
theorem bare_same {a : List UInt8} (ha : ¬ a.getLast? = some 47) : bareP a = a := by simpa using bare_app 0 ha
theorem cut_app {a n : List UInt8} (hn : noSl n) (ha : ∀ c, a.getLast? = some c → c = 47) : cutP (a ++ n) = a :=
  dropW_app _ (fun c hc => by simpa using hn c hc) (fun c hc => by rw [ha c hc]; rfl)
theorem last_plain {a n : List UInt8} (hn : noSl n) (h0 : ¬ n = []) : ¬ (a ++ n).getLast? = some 47 := by
  intro e
  rw [List.getLast?_append] at e
  cases hz : n.getLast? with
  | none => exact h0 (List.getLast?_eq_none_iff.1 hz)
  | some c =>
    rw [hz] at e
    injection e with e
    exact hn c (List.mem_of_getLast? hz) e
/-- A name below a path that has names, and no slash at its end. -/
theorem join_eq {d n : List UInt8} (h0 : ¬ d = []) (hd : ¬ d.getLast? = some 47) : joinP d n = d ++ 47 :: n := by
  rw [joinP, if_neg (by rintro (h | h); exact h0 h; exact hd h)]
theorem join_nms {d n : List UInt8} (hn : noSl n) (hn0 : ¬ n = []) : nms (d ++ 47 :: n) = nms d ++ [n] := by rw [nms_slash, nms_plain hn hn0]
theorem cons_last (d n : List UInt8) (hn : noSl n) (hn0 : ¬ n = []) : ¬ (d ++ 47 :: n).getLast? = some 47 := by
  rw [show d ++ 47 :: n = (d ++ [47]) ++ n by simp]
  exact last_plain hn hn0
theorem join_base {d n : List UInt8} (hn : noSl n) (hn0 : ¬ n = []) : baseP (d ++ 47 :: n) = n := by
  rw [baseP, join_nms hn hn0]
  simp
theorem join_up {d n : List UInt8} (h0 : ¬ d = []) (hd : ¬ d.getLast? = some 47) (hn : noSl n) (hn0 : ¬ n = []) : upP (d ++ 47 :: n) = d := by
  have h1 : bareP (d ++ 47 :: n) = d ++ 47 :: n := bare_same (cons_last d n hn hn0)
  have h2 : cutP (d ++ 47 :: n) = d ++ [47] := by
    rw [show d ++ 47 :: n = (d ++ [47]) ++ n by simp]
    exact cut_app hn (fun c hc => by simpa using hc.symm)
  have h3 : bareP (d ++ [47]) = d := bare_app 1 hd
  rw [upP, h1, h2, h3, if_pos h0]
theorem split_same {p : List UInt8} (h : ¬ p.getLast? = some 47) : splitP p = nms p := by rw [splitP, if_neg (fun e => h e.2)]
theorem join_split {d n : List UInt8} (hd : ¬ d.getLast? = some 47) (hn : noSl n) (hn0 : ¬ n = []) : (splitP (d ++ 47 :: n)).length = (splitP d).length + 1 := by
  rw [split_same (cons_last d n hn hn0), split_same hd, join_nms hn hn0]
  simp

/-- A beginning: it is what stands ahead of an end of a name, and its own beginnings are those up to it. -/
theorem stF_get : ∀ (p done : List UInt8) (i : Nat) (st : List UInt8), (stF done p)[i]? = some st → ∃ a r, p = a ++ r ∧ ¬ a = [] ∧ ¬ a.getLast? = some 47 ∧ st = done ++ a ∧ stF done a = (stF done p).take (i + 1)
  | [], _, _, _, h => by simp [stF] at h
  | c :: r, done, i, st, h => by
    by_cases hc : ¬ c = 47 ∧ (r = [] ∨ r.head? = some 47)
    · have e : stF done (c :: r) = (done ++ [c]) :: stF (done ++ [c]) r := by rw [stF, if_pos hc]
      rw [e] at h ⊢
      cases i with
      | zero =>
        simp at h
        refine ⟨[c], r, rfl, by simp, ?_, h.symm, ?_⟩
        · simpa using hc.1
        · rw [stF, if_pos ⟨hc.1, .inl rfl⟩]; simp [stF]
      | succ i =>
        obtain ⟨a, r', h1, h2, h3, h4, h5⟩ := stF_get r (done ++ [c]) i st (by simpa using h)
        refine ⟨c :: a, r', by rw [h1]; rfl, by simp, ?_, by rw [h4]; simp, ?_⟩
        · rwa [List.getLast?_cons_of_ne_nil h2]
        · have h7 : a = [] ∨ a.head? = some 47 := by
            rcases hc.2 with h6 | h6
            · rw [h6] at h1
              exact absurd (List.append_eq_nil_iff.1 h1.symm).1 h2
            · rw [h1] at h6
              cases a with
              | nil => exact absurd rfl h2
              | cons d a => exact .inr (by simpa using h6)
          rw [stF, if_pos ⟨hc.1, h7⟩, h5, List.take_succ_cons]
    · have e : stF done (c :: r) = stF (done ++ [c]) r := by rw [stF, if_neg hc]
      rw [e] at h ⊢
      obtain ⟨a, r', h1, h2, h3, h4, h5⟩ := stF_get r (done ++ [c]) i st h
      refine ⟨c :: a, r', by rw [h1]; rfl, by simp, ?_, by rw [h4]; simp, ?_⟩
      · rwa [List.getLast?_cons_of_ne_nil h2]
      · rw [stF, if_neg ?_, h5]
        rintro ⟨h6, h7 | h7⟩
        · exact h2 h7
        · refine hc ⟨h6, .inr ?_⟩
          rw [h1]
          cases a with
          | nil => exact absurd rfl h2
          | cons d a => simpa using h7
theorem stp_get {p st : List UInt8} {i : Nat} (h : (stp p)[i]? = some st) : (∃ r, p = st ++ r) ∧ ¬ st = [] ∧ ¬ st.getLast? = some 47 ∧ stp st = (stp p).take (i + 1) := by
  obtain ⟨a, r, h1, h2, h3, h4, h5⟩ := stF_get p [] i st h
  rw [List.nil_append] at h4
  subst h4
  exact ⟨⟨r, h1⟩, h2, h3, h5⟩
theorem stF_lt : ∀ (p done : List UInt8), ∀ x ∈ stF done p, done.length < x.length
  | [], _, x, h => by simp [stF] at h
  | c :: r, done, x, h => by
    rw [stF] at h
    split at h
    · rcases List.mem_cons.1 h with h | h
      · subst h; simp
      · have := stF_lt r _ x h
        simp at this
        omega
    · have := stF_lt r _ x h
      simp at this
      omega
theorem stF_up : ∀ (p done : List UInt8), (stF done p).Pairwise fun x y => x.length < y.length
  | [], _ => by simp [stF]
  | c :: r, done => by
    rw [stF]
    split
    · exact List.Pairwise.cons (fun x hx => stF_lt r _ x hx) (stF_up r _)
    · exact stF_up r _
/-- Beginnings grow. -/
theorem stp_up {p x y : List UInt8} {i j : Nat} (hij : i < j) (hx : (stp p)[i]? = some x) (hy : (stp p)[j]? = some y) : x.length < y.length := by
  have h := List.pairwise_iff_getElem.1 (stF_up p [])
  obtain ⟨hi, ei⟩ := List.getElem?_eq_some_iff.1 hx
  obtain ⟨hj, ej⟩ := List.getElem?_eq_some_iff.1 hy
  have := h i j hi hj hij
  unfold stp at ei ej
  rw [ei, ej] at this
  exact this
/-- The names of the beginning number i are i + 1. -/
theorem stp_names {p st : List UInt8} {i : Nat} (h : (stp p)[i]? = some st) : (splitP st).length = i + 1 := by
  obtain ⟨_, _, h3, h4⟩ := stp_get h
  have hi := (List.getElem?_eq_some_iff.1 h).1
  rw [split_same h3, ← len_stp, h4, List.length_take]
  omega
theorem stp_base {p st : List UInt8} {i : Nat} (h : (stp p)[i]? = some st) : (splitP st)[i]? = some (baseP st) := by
  obtain ⟨_, _, h3, _⟩ := stp_get h
  have hl := stp_names h
  rw [split_same h3] at hl ⊢
  rw [baseP, List.getLast?_eq_getElem?, hl, Nat.add_sub_cancel]
  have : i < (nms st).length := by omega
  rw [List.getElem?_eq_getElem this]
theorem stp_last {q : List UInt8} (h0 : ¬ q = []) (hq : ¬ q.getLast? = some 47) : (stp q).getLast? = some q := by
  obtain ⟨n, h1, h2, h3⟩ := cut_split q
  have hn : ¬ n = [] := by
    intro e
    rw [e, List.append_nil] at h1
    cases hc : (cutP q).getLast? with
    | none =>
      rw [List.getLast?_eq_none_iff] at hc
      exact h0 (h1.trans hc)
    | some c =>
      have e := h3 c hc
      rw [← h1] at hc
      rw [e] at hc
      exact hq hc
  cases hc : (cutP q).getLast? with
  | none =>
    rw [List.getLast?_eq_none_iff] at hc
    rw [hc, List.nil_append] at h1
    rw [stp, stF_plain q [] (by rw [h1]; exact h2), if_neg h0]
    rfl
  | some c =>
    have hc47 := h3 c hc
    subst hc47
    obtain ⟨a, ha⟩ : ∃ a, cutP q = a ++ [47] := by
      rw [List.getLast?_eq_some_iff] at hc
      exact hc
    have e : q = a ++ 47 :: n := by rw [h1, ha]; simp
    rw [e, stp, stF_slash, stF_plain n _ h2, if_neg hn]
    simp
/-- What stands above a beginning is no longer than the beginning ahead of it. -/
theorem stp_above {p x y : List UInt8} {i : Nat} (hx : (stp p)[i]? = some x) (hy : (stp p)[i + 1]? = some y) : (upP y).length ≤ x.length := by
  obtain ⟨_, hx0, _, _⟩ := stp_get hx
  obtain ⟨_, hy0, hy47, hyt⟩ := stp_get hy
  have hlx : 1 ≤ x.length := by
    cases x with
    | nil => exact absurd rfl hx0
    | cons c x => simp
  rw [upP, bare_same hy47]
  by_cases hq : bareP (cutP y) ≠ []
  · rw [if_pos hq]
    obtain ⟨n, e1, e2, e3⟩ := cut_split y
    obtain ⟨k, f1, f2⟩ := bare_split (cutP y)
    generalize hQ : bareP (cutP y) = q at hq f1 f2
    have hk : ¬ k = 0 := by
      intro e
      rw [e] at f1
      simp at f1
      cases hc : (cutP y).getLast? with
      | none =>
        rw [List.getLast?_eq_none_iff] at hc
        exact hq (f1.symm.trans hc)
      | some c =>
        have := e3 c hc
        rw [f1, this] at hc
        exact f2 hc
    obtain ⟨m, rfl⟩ : ∃ m, k = m + 1 := ⟨k - 1, by omega⟩
    have hy' : y = q ++ 47 :: (List.replicate m 47 ++ n) := by
      rw [e1, f1, List.replicate_succ]
      simp
    have hs : stp y = stp q ++ stF (q ++ [47]) (List.replicate m 47 ++ n) := by
      have := stF_slash (List.replicate m 47 ++ n) q []
      rw [hy']
      simpa [stp] using this
    have hlq := stp_last hq f2
    obtain ⟨hi1, _⟩ := List.getElem?_eq_some_iff.1 hy
    have hly : (stp y).length = i + 2 := by rw [hyt, List.length_take]; omega
    have hjq : 0 < (stp q).length := by
      cases hz : stp q with
      | nil => rw [hz] at hlq; simp at hlq
      | cons c l => simp
    have hne : ¬ stF (q ++ [47]) (List.replicate m 47 ++ n) = [] := by
      intro e
      rw [e, List.append_nil] at hs
      have h1 := stp_last hy0 hy47
      rw [hs, hlq] at h1
      injection h1 with h1
      have := congrArg List.length hy'
      rw [← h1] at this
      simp at this
    have hpos : 0 < (stF (q ++ [47]) (List.replicate m 47 ++ n)).length := List.length_pos_iff.2 hne
    have hle : (stp q).length ≤ i + 1 := by
      have := congrArg List.length hs
      rw [List.length_append] at this
      omega
    have hget : (stp p)[(stp q).length - 1]? = some q := by
      have h1 : (stp y)[(stp q).length - 1]? = some q := by
        rw [hs, List.getElem?_append_left (by omega)]
        rw [List.getLast?_eq_getElem?] at hlq
        exact hlq
      rw [hyt, List.getElem?_take] at h1
      split at h1
      · exact h1
      · cases h1
    by_cases hc : (stp q).length - 1 = i
    · rw [hc, hx] at hget
      injection hget with hget
      rw [hget]
      exact Nat.le_refl _
    · exact Nat.le_of_lt (stp_up (by omega) hget hx)
  · rw [if_neg hq]
    split <;> simpa using hlx
/-- All names of a path, and the dot behind a slash. -/
theorem split_len (p : List UInt8) : (splitP p).length = (stp p).length ∨ (splitP p).length = (stp p).length + 1 ∧ (splitP p)[(stp p).length]? = some [46] := by
  rw [splitP, len_stp]
  split
  · refine .inr ⟨by simp, ?_⟩
    rw [List.getElem?_append_right (Nat.le_refl _)]
    simp
  · exact .inl rfl
end Go.Proofs.Ythledmbdlengiaa
