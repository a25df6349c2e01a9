/-
  Plain facts: digits of a number are read as that number, with noughts ahead or without; a user and a group with a colon between. No condition but those that each bears.
-/
import Derived.Test.YtkbdlmmpeieaeaaDoorAwake
namespace Go.Proofs.YtkbdlmmpeieaeaaDoor
open Go Go.RowKit

theorem dgt_toNat (m : Nat) (h : m < 10) : (UInt8.ofNat (48 + m)).toNat = 48 + m := by
  rw [UInt8.toNat_ofNat']
  omega
theorem dg_dgt (m : Nat) (h : m < 10) : dg (UInt8.ofNat (48 + m)) = true := by
  unfold dg
  rw [dgt_toNat m h, decide_eq_true_iff]
  omega
theorem dec_all (n : Nat) : (Lib.decDigits n).all dg = true := by
  induction n using Nat.strongRecOn with
  | _ n ih =>
    rw [Lib.decDigits]
    split
    · rename_i h
      simp only [List.all_cons, List.all_nil, Bool.and_true]
      exact dg_dgt n h
    · rename_i h
      rw [List.all_append, ih (n / 10) (by omega)]
      simp only [List.all_cons, List.all_nil, Bool.and_true, Bool.true_and]
      exact dg_dgt _ (by omega)
theorem dec_val (n : Nat) : val (Lib.decDigits n) = (n : Int) := by
  induction n using Nat.strongRecOn with
  | _ n ih =>
    rw [Lib.decDigits]
    split
    · rename_i h
      show val ([] ++ [UInt8.ofNat (48 + n)]) = _
      rw [val_snoc, dgt_toNat n h]
      simp [val]
      omega
    · rename_i h
      rw [val_snoc, ih (n / 10) (by omega), dgt_toNat _ (by omega)]
      omega
theorem dec_pos (n : Nat) : ¬ (Lib.decDigits n).length = 0 := by
  rw [Lib.decDigits]
  split <;> simp
/-- Noughts ahead play no part. -/
theorem val_nought (l : List UInt8) : val (48 :: l) = val l := by simp [val]
theorem val_noughts (k : Nat) (l : List UInt8) : val (List.replicate k 48 ++ l) = val l := by
  induction k with
  | zero => rfl
  | succ k ih => rw [List.replicate_succ, List.cons_append, val_nought, ih]
theorem all_noughts (k : Nat) (l : List UInt8) (h : l.all dg = true) : (List.replicate k 48 ++ l).all dg = true := by
  rw [List.all_append, h, Bool.and_true, List.all_eq_true]
  intro x hx
  rw [List.eq_of_mem_replicate hx]
  decide
/-- Digits, with noughts ahead as far as there is room, are a number's text. -/
theorem num_dec (k n : Nat) (hk : (List.replicate k 48 ++ Lib.decDigits n).length ≤ 5) : num (List.replicate k 48 ++ Lib.decDigits n) = if n ≤ 65535 then (n : Int) else -1 := by
  split
  · rename_i h
    rw [num_good (by rw [List.length_append]; have := dec_pos n; omega) hk (all_noughts _ _ (dec_all n)) (by rw [val_noughts, dec_val]; omega), val_noughts, dec_val]
  · rename_i h
    rw [num_bad (.inr (.inr (.inr (by rw [val_noughts, dec_val]; omega))))]
/-- A text of digits alone is no name. -/
theorem nam_digits {a b c d l : List UInt8} (ha : a.all dg = false) (hb : b.all dg = false) (hc : c.all dg = false) (hd : d.all dg = false) (h : l.all dg = true) : nam a b c d l = -1 := by
  rw [nam, if_neg (fun e => by rw [e, ha] at h; cases h), if_neg (fun e => by rw [e, hb] at h; cases h), if_neg (fun e => by rw [e, hc] at h; cases h), if_neg (fun e => by rw [e, hd] at h; cases h)]
theorem usr_digits {l : List UInt8} (h : l.all dg = true) : usr l = num l := by
  rw [usr, idn, nam_digits (by decide) (by decide) (by decide) (by decide) h]
  rfl
theorem grp_digits {l : List UInt8} (h : l.all dg = true) : grp l = num l := by
  rw [grp, idn, nam_digits (by decide) (by decide) (by decide) (by decide) h]
  rfl
theorem dec_5 (n : Nat) (h : n < 100000) : (Lib.decDigits n).length ≤ 5 := dec_len 4 n h
/-- What is shown of a number up to the greatest is that number's text, or its name. -/
theorem usr_tx (n : Nat) (h : n ≤ 65535) : usr (tx root ann bob cat (n : Int)) = (n : Int) := by
  by_cases h4 : n < 4
  · rw [tx_small (by decide) (by decide) (by decide) (by decide) n h4]
    match n, h4 with
    | 0, _ => decide
    | 1, _ => decide
    | 2, _ => decide
    | 3, _ => decide
  · rw [tx_big (.inr (by omega)), dgs_nat, usr_digits (dec_all n)]
    have := num_dec 0 n (by simpa using dec_5 n (by omega))
    rw [if_pos h] at this
    exact this
theorem grp_tx (n : Nat) (h : n ≤ 65535) : grp (tx wheel staff ops lab (n : Int)) = (n : Int) := by
  by_cases h4 : n < 4
  · rw [tx_small (by decide) (by decide) (by decide) (by decide) n h4]
    match n, h4 with
    | 0, _ => decide
    | 1, _ => decide
    | 2, _ => decide
    | 3, _ => decide
  · rw [tx_big (.inr (by omega)), dgs_nat, grp_digits (dec_all n)]
    have := num_dec 0 n (by simpa using dec_5 n (by omega))
    rw [if_pos h] at this
    exact this
/-- There is no colon in it. -/
def noc (l : List UInt8) : Bool := l.all fun b => !(b == 58)
theorem col_noc {l : List UInt8} (h : noc l = true) : col l = l.length := by
  unfold col
  apply List.findIdx_eq_length_of_false
  intro x hx
  have := List.all_eq_true.1 h x hx
  simpa using this
theorem col_join {l t : List UInt8} (h : noc l = true) : col (l ++ 58 :: t) = l.length := by
  have h1 := col_noc h
  unfold col at *
  rw [List.findIdx_append, if_neg (by omega), show List.findIdx (fun x : UInt8 => x == 58) (58 :: t) = 0 by rw [List.findIdx_cons]; rfl, Nat.zero_add]
theorem par_noc {l : List UInt8} (h : noc l = true) : par l = parN (usr l) := by
  rw [par, if_neg (by rw [col_noc h]; omega)]
theorem par_join {l t : List UInt8} (h : noc l = true) : par (l ++ 58 :: t) = parC l.length (usr l) (grp t) := by
  rw [par, if_pos (by rw [col_join h]; simp), col_join h, List.take_left, show l ++ 58 :: t = (l ++ [58]) ++ t by simp, show l.length + 1 = (l ++ [58]).length by simp, List.drop_left]
theorem noc_digits {l : List UInt8} (h : l.all dg = true) : noc l = true := by
  unfold noc
  rw [List.all_eq_true] at h ⊢
  intro x hx
  have hd := h x hx
  unfold dg at hd
  rw [decide_eq_true_iff] at hd
  rw [Bool.not_eq_true', beq_eq_false_iff_ne]
  intro e
  rw [e] at hd
  have : (58 : UInt8).toNat = 58 := rfl
  omega
theorem noc_tx (n : Nat) : noc (tx root ann bob cat (n : Int)) = true := by
  by_cases h4 : n < 4
  · rw [tx_small (by decide) (by decide) (by decide) (by decide) n h4]
    match n, h4 with
    | 0, _ => decide
    | 1, _ => decide
    | 2, _ => decide
    | 3, _ => decide
  · rw [tx_big (.inr (by omega)), dgs_nat]
    exact noc_digits (dec_all n)
theorem tx_pos (n : Nat) : 0 < (tx root ann bob cat (n : Int)).length := by
  by_cases h4 : n < 4
  · rw [tx_small (by decide) (by decide) (by decide) (by decide) n h4]
    match n, h4 with
    | 0, _ => decide
    | 1, _ => decide
    | 2, _ => decide
    | 3, _ => decide
  · rw [tx_big (.inr (by omega)), dgs_nat]
    have := dec_pos n
    omega
/-- What is shown is parsed as it was. -/
theorem back_both (n m : Nat) (hn : n ≤ 65535) (hm : m ≤ 65535) : par (shw (n : Int) (m : Int)) = ((n : Int), (m : Int), true) := by
  rw [shw, if_neg (by omega), par_join (noc_tx n), usr_tx n hn, grp_tx m hm, parC, if_neg (by omega), if_neg (by have := tx_pos n; omega)]
theorem back_user (n : Nat) (hn : n ≤ 65535) : par (shw (n : Int) (-1)) = ((n : Int), -1, true) := by
  rw [shw, if_pos (by decide), List.append_nil, par_noc (noc_tx n), usr_tx n hn, parN, if_neg (by omega)]
theorem back_group (m : Nat) (hm : m ≤ 65535) : par (shw (-1) (m : Int)) = (-1, (m : Int), true) := by
  rw [shw, if_neg (by omega), show tx root ann bob cat (-1) = [] by decide, par_join (l := []) rfl, grp_tx m hm, parC, if_neg (by simp), if_pos (show ([] : List UInt8).length = 0 from rfl)]
theorem back_none : shw (-1) (-1) = [] := by decide
end Go.Proofs.YtkbdlmmpeieaeaaDoor
