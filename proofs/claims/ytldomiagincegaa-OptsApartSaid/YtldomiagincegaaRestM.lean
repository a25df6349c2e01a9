/-
  What words with two dashes behind them have for options and operands, as plain mathematics. No condition.
-/
import Derived.Test.YtldomiagincegaaMod
namespace Go.Proofs.Ytldomiagincegaa
open Go Go.RowKit

theorem lets_more {may s : ByteArray} {left : List ByteArray} (t : List ByteArray) : ∀ {n : Nat} {f : List Fl} {l : List ByteArray}, lets may s left n = some (f, l) → lets may s (left ++ t) n = some (f, l ++ t)
  | 0, f, l, h => by
    rw [lets] at h ⊢
    injection h with h
    injection h with h1 h2
    subst h1 h2
    rfl
  | n + 1, f, l, h => by
    rw [lets] at h ⊢
    split at h
    · cases h
    · rename_i h0
      rw [if_neg h0]
      split at h
      · rename_i h1
        rw [if_pos h1]
        cases hl : lets may s left n with
        | none => rw [hl] at h; cases h
        | some p =>
          rw [hl] at h
          injection h with h
          injection h with e1 e2
          subst e1 e2
          rw [lets_more t (f := p.1) (l := p.2) hl]
          rfl
      · rename_i h1
        rw [if_neg h1]
        split at h
        · rename_i h2
          rw [if_pos h2]
          match left, h with
          | x :: r, h =>
            injection h with h
            injection h with e1 e2
            subst e1 e2
            rfl
        · rename_i h2
          rw [if_neg h2]
          injection h with h
          injection h with e1 e2
          subst e1 e2
          rfl
theorem lets_sub {may s : ByteArray} {left : List ByteArray} : ∀ {n : Nat} {f : List Fl} {l : List ByteArray}, lets may s left n = some (f, l) → ∀ x ∈ l, x ∈ left
  | 0, f, l, h => by
    rw [lets] at h
    injection h with h
    injection h with h1 h2
    subst h2
    exact fun x hx => hx
  | n + 1, f, l, h => by
    rw [lets] at h
    split at h
    · cases h
    · split at h
      · cases hl : lets may s left n with
        | none => rw [hl] at h; cases h
        | some p =>
          rw [hl] at h
          injection h with h
          injection h with e1 e2
          subst e2
          exact lets_sub (f := p.1) (l := p.2) hl
      · split at h
        · match left, h with
          | y :: r, h =>
            injection h with h
            injection h with e1 e2
            subst e2
            exact fun x hx => List.mem_cons_of_mem _ hx
        · injection h with h
          injection h with e1 e2
          subst e2
          exact fun x hx => hx
theorem dd_opt {d : ByteArray} (h : d.data.toList = [45, 45]) : isOpt d = true := by
  have hz : d.size = 2 := by rw [← size_len, h]; rfl
  rw [isOpt, h, hz]
  rfl
/-- Behind two dashes all words are operands; the options are as without them. -/
theorem prs_dd {may d : ByteArray} (hd : d.data.toList = [45, 45]) (rest : List ByteArray) : ∀ (n : Nat) {ws : List ByteArray} {f : List Fl}, ws.length ≤ n → prs may ws = some (f, []) → (∀ s ∈ ws, ¬ s.data.toList = [45, 45]) → prs may (ws ++ d :: rest) = some (f, rest)
  | n, [], f, _, h, _ => by
    rw [prs_nil] at h
    injection h with h
    injection h with h1 _
    subst h1
    exact prs_end may (dd_opt hd) hd
  | 0, x :: r, f, hn, _, _ => by simp at hn
  | n + 1, x :: r, f, hn, h, hno => by
    rw [List.length_cons] at hn
    cases ho : isOpt x with
    | false =>
      rw [prs_oper may ho] at h
      injection h with h
      injection h with _ h2
      cases h2
    | true =>
      have hx := hno x (List.mem_cons_self ..)
      cases hl : lets may (x.extract 1 x.size) r (x.extract 1 x.size).size with
      | none =>
        rw [prs_bad ho hx hl] at h
        cases h
      | some p =>
        have hb := lets_bd (f := p.1) (l := p.2) hl
        rw [prs_go (f := p.1) (l := p.2) ho hx hl] at h
        cases hq : prs may p.2 with
        | none => rw [hq] at h; cases h
        | some q =>
          rw [hq] at h
          injection h with h
          injection h with h1 h2
          have ih := prs_dd hd rest n (ws := p.2) (f := q.1) (by omega) (by rw [hq, ← h2]) (fun s hs => hno s (List.mem_cons_of_mem _ (lets_sub (f := p.1) (l := p.2) hl s hs)))
          rw [List.cons_append, prs_go (f := p.1) (l := p.2 ++ d :: rest) ho hx (lets_more (d :: rest) (f := p.1) (l := p.2) hl), ih, ← h1]
          rfl
end Go.Proofs.Ytldomiagincegaa
