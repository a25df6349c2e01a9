/-
  Plain mathematics of one clause as the reference reads it: letters of whom, then acts, each a sign and a letter of a class, or letters of what.
-/
import Derived.Test.YtbjajipeiigodaaDoorTurnM
import Derived.Test.YtbjajipeiigodaaDoorRRight
namespace Go.Proofs.YtbjajipeiigodaaDoor
open Go

theorem place_facts : ∀ n : Fin 256, (decide (0 ≤ plc [117, 103, 111, 97] (UInt8.ofNat n.val)) = decide (whoR (co (UInt8.ofNat n.val)) ≠ 0)) ∧ (decide (0 ≤ plc [117, 103, 111] (UInt8.ofNat n.val)) = decide (copR (co (UInt8.ofNat n.val)) ≠ 0)) ∧ (0 ≤ plc [117, 103, 111] (UInt8.ofNat n.val) → plc [117, 103, 111] (UInt8.ofNat n.val) + 1 = copR (co (UInt8.ofNat n.val))) ∧ (decide (0 ≤ plc [120, 119, 114, 88, 115, 116] (UInt8.ofNat n.val)) = decide (perR (co (UInt8.ofNat n.val)) ≠ 0)) ∧ (copR (co (UInt8.ofNat n.val)) ≠ 0 → sgR (co (UInt8.ofNat n.val)) = false ∧ perR (co (UInt8.ofNat n.val)) = 0) ∧ (whoR (co (UInt8.ofNat n.val)) ≠ 0 → UInt8.ofNat n.val ∈ [117, 103, 111, 97]) ∧ (perR (co (UInt8.ofNat n.val)) ≠ 0 → UInt8.ofNat n.val ∈ [114, 119, 120, 88, 115, 116]) := by decide +kernel
theorem place_of (c : UInt8) : (0 ≤ plc [117, 103, 111, 97] c ↔ whoR (co c) ≠ 0) ∧ (0 ≤ plc [117, 103, 111] c ↔ copR (co c) ≠ 0) ∧ (0 ≤ plc [117, 103, 111] c → plc [117, 103, 111] c + 1 = copR (co c)) ∧ (0 ≤ plc [120, 119, 114, 88, 115, 116] c ↔ perR (co c) ≠ 0) ∧ (copR (co c) ≠ 0 → sgR (co c) = false ∧ perR (co c) = 0) ∧ (whoR (co c) ≠ 0 → c ∈ [117, 103, 111, 97]) ∧ (perR (co c) ≠ 0 → c ∈ [114, 119, 120, 88, 115, 116]) := by
  have h := place_facts ⟨c.toNat, c.toNat_lt⟩
  simp only [UInt8.ofNat_toNat] at h
  exact ⟨decide_eq_decide.1 h.1, decide_eq_decide.1 h.2.1, h.2.2.1, decide_eq_decide.1 h.2.2.2.1, h.2.2.2.2.1, h.2.2.2.2.2.1, h.2.2.2.2.2.2⟩
theorem plc_mem (c : UInt8) : ∀ l : List UInt8, 0 ≤ plc l c ↔ c ∈ l
  | [] => by simp [plc, Lib.indexByte]
  | x :: l => by
    have ih := plc_mem c l
    have hg := Lib.indexByte_ge l c
    unfold plc at ih ⊢
    by_cases hx : x = c
    · subst hx
      simp [Lib.indexByte]
    · have hne : (x == c) = false := by rw [beq_eq_false_iff_ne]; exact hx
      have hm : (c ∈ x :: l) ↔ c ∈ l := by
        rw [List.mem_cons]
        constructor
        · rintro (h | h)
          · exact absurd h.symm hx
          · exact h
        · exact Or.inr
      rw [hm, ← ih, Lib.indexByte, hne]
      by_cases hb : Lib.indexByte l c = -1
      · simp [hb]
      · simp [hb]
        omega
/-- The sum of the bits of letters, as bits. -/
def sumB (l ls : List UInt8) (i : Nat) : Bool := match ls[i]? with
  | none => false
  | some c => decide (0 ≤ plc l c)
theorem sumK_bits (l ls : List UInt8) : ∀ k, sumK l ls k = (ofB (sumB l ls) k : Nat)
  | 0 => rfl
  | k + 1 => by
    rw [sumK, ofB, sumK_bits l ls k, sumB]
    cases ls[k]? with
    | none => simp
    | some c =>
      by_cases h : 0 ≤ plc l c
      · simp [h]
      · simp [h]
theorem per_sum {P : List UInt8} (hP : ∀ c ∈ P, c ∈ [114, 119, 120, 88, 115, 116]) : sumK P [120, 119, 114, 88, 115, 116] 6 = (orN pN P 0 : Nat) := by
  rw [sumK_bits]
  congr 1
  symm
  apply eq_ofB _ 6
  · exact orN_lt pN 6 pN_lt P 0 (by decide)
  · intro i hi
    rw [orN_bit, Nat.zero_testBit, Bool.false_or]
    have key : ∀ d : UInt8, d ∈ [120, 119, 114, 88, 115, 116] → (∀ c ∈ [114, 119, 120, 88, 115, 116], (pN c).testBit i = decide (c = d)) → (P.any fun c => (pN c).testBit i) = decide (0 ≤ plc P d) := by
      intro d _ hd
      rw [Bool.eq_iff_iff, List.any_eq_true, decide_eq_true_eq, plc_mem]
      constructor
      · rintro ⟨c, hc, hb⟩
        rw [hd c (hP c hc), decide_eq_true_eq] at hb
        rw [← hb]; exact hc
      · intro hm
        exact ⟨d, hm, by rw [hd d (hP d hm)]; simp⟩
    obtain rfl | rfl | rfl | rfl | rfl | rfl : i = 0 ∨ i = 1 ∨ i = 2 ∨ i = 3 ∨ i = 4 ∨ i = 5 := by omega
    · exact key 120 (by decide) (by decide)
    · exact key 119 (by decide) (by decide)
    · exact key 114 (by decide) (by decide)
    · exact key 88 (by decide) (by decide)
    · exact key 115 (by decide) (by decide)
    · exact key 116 (by decide) (by decide)
theorem who_sum {W : List UInt8} (hW : ∀ c ∈ W, c ∈ [117, 103, 111, 97]) : (if 0 ≤ plc W 97 then 7 else sumK W [117, 103, 111] 3) = (orN wN W 0 : Nat) := by
  by_cases ha : 0 ≤ plc W 97
  · rw [if_pos ha]
    have hm := (plc_mem 97 W).1 ha
    have e : orN wN W 0 = ofB (fun _ => true) 3 := by
      apply eq_ofB _ 3
      · exact orN_lt wN 3 wN_lt W 0 (by decide)
      · intro i hi
        rw [orN_bit, Nat.zero_testBit, Bool.false_or, List.any_eq_true]
        refine ⟨97, hm, ?_⟩
        obtain rfl | rfl | rfl : i = 0 ∨ i = 1 ∨ i = 2 := by omega
        all_goals decide
    rw [e]; rfl
  · rw [if_neg ha, sumK_bits]
    have hn : 97 ∉ W := fun h => ha ((plc_mem 97 W).2 h)
    congr 1
    symm
    apply eq_ofB _ 3
    · exact orN_lt wN 3 wN_lt W 0 (by decide)
    · intro i hi
      rw [orN_bit, Nat.zero_testBit, Bool.false_or]
      have hW' : ∀ c ∈ W, c ∈ [117, 103, 111] := by
        intro c hc
        have h := hW c hc
        simp only [List.mem_cons, List.mem_nil_iff, or_false] at h ⊢
        rcases h with h | h | h | h
        · exact .inl h
        · exact .inr (.inl h)
        · exact .inr (.inr h)
        · rw [h] at hc; exact absurd hc hn
      have key : ∀ d : UInt8, (∀ c ∈ [117, 103, 111], (wN c).testBit i = decide (c = d)) → (W.any fun c => (wN c).testBit i) = decide (0 ≤ plc W d) := by
        intro d hd
        rw [Bool.eq_iff_iff, List.any_eq_true, decide_eq_true_eq, plc_mem]
        constructor
        · rintro ⟨c, hc, hb⟩
          rw [hd c (hW' c hc), decide_eq_true_eq] at hb
          rw [← hb]; exact hc
        · intro hm
          exact ⟨d, hm, by rw [hd d (hW' d hm)]; simp⟩
      obtain rfl | rfl | rfl : i = 0 ∨ i = 1 ∨ i = 2 := by omega
      · exact key 117 (by decide)
      · exact key 103 (by decide)
      · exact key 111 (by decide)
/-- Acts, one behind the other; none at all may be. -/
def actsR (l : List UInt8) : Option (List CA) := match l with
  | [] => some []
  | c :: r => acts (c :: r)
theorem actsR_none {c : UInt8} {r : List UInt8} (h : sgR (co c) = false) : actsR (c :: r) = none := by
  rw [actsR, acts, h]; rfl
theorem act_after {a : CA} {rest : List UInt8} (h : ∀ e r, rest = e :: r → sgR (co e) = false → wl a (co e) = none) : actsF a rest = (actsR rest).map (a :: ·) := by
  cases rest with
  | nil => rfl
  | cons e r =>
    rw [actsF, actsR, acts]
    by_cases hs : sgR (co e) = true
    · rw [if_pos hs, if_pos hs]
    · have hs' : sgR (co e) = false := by simpa using hs
      rw [if_neg hs, if_neg hs, h e r rfl hs']
      rfl
theorem act_copy {c d : UInt8} {rest : List UInt8} (hc : sgR (co c) = true) (hd : copR (co d) ≠ 0) : actsR (c :: d :: rest) = (actsR rest).map (⟨c, 0, copR (co d)⟩ :: ·) := by
  have hp := (place_of d).2.2.2.2.1 hd
  rw [actsR, acts, if_pos hc, actsF, if_neg (by rw [hp.1]; decide)]
  have hw : wl ⟨c, 0, 0⟩ (co d) = some ⟨c, 0, copR (co d)⟩ := by
    rw [wl, if_neg (by simp), if_neg (by simp [hp.2]), if_pos ⟨hd, rfl⟩]
  rw [hw]
  exact act_after (fun e r _ _ => by rw [wl, if_pos hd])
theorem orN_pos {P : List UInt8} {c : UInt8} (hc : c ∈ P) (h : pN c ≠ 0) : orN pN P 0 ≠ 0 := by
  intro e
  obtain ⟨i, hi⟩ := Nat.exists_testBit_of_ne_zero h
  have h1 := orN_bit pN i P 0
  rw [e, Nat.zero_testBit, Bool.false_or] at h1
  have h2 : (P.any fun c => (pN c).testBit i) = true := List.any_eq_true.2 ⟨c, hc, hi⟩
  rw [h2] at h1
  cases h1
theorem act_perm {c : UInt8} {P rest : List UInt8} (hc : sgR (co c) = true) (hP : ∀ d ∈ P, d ∈ [114, 119, 120, 88, 115, 116]) (hr : ∀ e r, rest = e :: r → perR (co e) = 0) (h0 : P = [] → ∀ e r, rest = e :: r → copR (co e) = 0) : actsR (c :: (P ++ rest)) = (actsR rest).map (⟨c, (orN pN P 0 : Nat), 0⟩ :: ·) := by
  rw [actsR, acts, if_pos hc, actsF_perms c rest P 0 hP]
  have h2 := orF_nat P 0 (by decide)
  simp only [Int.natCast_zero] at h2
  rw [show orF 0 P = ((orN pN P 0 : Nat) : Int) from h2]
  refine act_after (fun e r he _ => ?_)
  rw [wl, if_neg (by simp), if_neg (by simp [hr e r he]), if_neg]
  rintro ⟨h3, h4⟩
  cases P with
  | nil => exact h3 (h0 rfl e r he)
  | cons d P =>
    have hd := hP d (List.mem_cons_self ..)
    have hn : pN d ≠ 0 := by
      have := (per_letters d hd).1
      rw [perR_nat] at this
      omega
    have := orN_pos (P := d :: P) (List.mem_cons_self ..) hn
    simp only at h4
    omega
/-- One clause, in the reference's words. -/
theorem one_of {W rest : List UInt8} (hW : ∀ c ∈ W, c ∈ [117, 103, 111, 97]) (hr : ∀ e r, rest = e :: r → whoR (co e) = 0) : oneC (W ++ rest) = match actsR rest with
    | none => none
    | some [] => none
    | some (a :: al) => some ⟨(orN wN W 0 : Nat), a :: al⟩ := by
  cases rest with
  | nil =>
    have hF : ∀ (L : List UInt8) (q : Int), (∀ c ∈ L, c ∈ [117, 103, 111, 97]) → (whoF q L).2 = [] := by
      intro L
      induction L with
      | nil => intro q _; rfl
      | cons c L ih =>
        intro q h
        rw [whoF, if_neg (who_letters c (h c (List.mem_cons_self ..))).1]
        exact ih _ (fun d hd => h d (List.mem_cons_of_mem _ hd))
    rw [List.append_nil]
    unfold oneC
    rw [hF W 0 hW]
    rfl
  | cons d r =>
    have hF := whoF_letters r d (hr d r rfl) W 0 (by decide) hW
    have hF' : whoF 0 (W ++ d :: r) = (((orN wN W 0 : Nat) : Int), d :: r) := hF
    unfold oneC
    rw [hF']
    simp only [actsR]
    cases ha : acts (d :: r) with
    | none => rfl
    | some al =>
      cases al with
      | nil => exact absurd rfl (acts_ne ha)
      | cons a al => rfl
end Go.Proofs.YtbjajipeiigodaaDoor
