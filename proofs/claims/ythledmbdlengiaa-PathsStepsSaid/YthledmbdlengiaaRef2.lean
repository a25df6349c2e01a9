/-
  What the reference's bare, Up, Names, Split, Base, Steps and Same answer. The only condition is that a path has a million bytes at most.
-/
import Derived.Test.YthledmbdlengiaaRef
namespace Go.Proofs.Ythledmbdlengiaa
open Go Go.RowKit

theorem bare_snoc (a : List UInt8) : bareP (a ++ [47]) = bareP a := by simp [bareP]
theorem cut_snoc (a : List UInt8) {c : UInt8} (h : ¬ c = 47) : cutP (a ++ [c]) = cutP a := by simp [cutP, h]
theorem cut_same {a : List UInt8} (h : a = [] ∨ a.getLast? = some 47) : cutP a = a := by
  have := cut_app (a := a) (n := []) (fun c hc => by cases hc) (fun c hc => by
    rcases h with h | h
    · rw [h] at hc; cases hc
    · rw [h] at hc; injection hc with hc; exact hc.symm)
  simpa using this
/-- A text without its last byte. -/
theorem but_last {q : ByteArray} {n : Nat} (h : q.size = n + 1) (hn : n < q.size) : tl q = tl (q.extract 0 n) ++ [q[n]] := by
  rw [tl_ext, List.drop_zero, ← take_snoc' (tl_at hn), ← h, ← tl_len, List.take_length]
theorem but_size {q : ByteArray} {n : Nat} (h : q.size = n + 1) : (q.extract 0 n).size = n := by
  rw [← tl_len, tl_ext, List.drop_zero, List.length_take, tl_len]
  omega
theorem nil_of {q : ByteArray} (h : ¬ 0 < q.size) : tl q = [] := List.eq_nil_of_length_eq_zero (by rw [tl_len]; omega)
set_option maxHeartbeats 2000000 in
theorem bare_any (p : ByteArray) (w : World) (hp : p.size ≤ 1000000) :
    Calls Try.prog 32 #[.string p] w fun e w' => e = .returned (.string (bA (bareP (tl p)))) ∧ w = w' := by
  obtain ⟨R, hR⟩ : ∃ R, bareP (tl p) = R := ⟨_, rfl⟩
  rw [hR]
  have HR := Lib.hid hR
  clear hR
  go_enter Try.func32, Try.ntmps32
  go_wp2
  go_loopg [0] p.size (fun g s0 wr => ∃ q : ByteArray, s0 = .string q ∧ q.size ≤ p.size ∧ g = q.size ∧ bareP (tl q) = R ∧ w = wr)
  case atStart => exact ⟨p, rfl, Nat.le_refl _, rfl, HR.out, rfl⟩
  case round =>
    obtain ⟨q, rfl, hq, rfl, hbr, rfl⟩ := hrel
    have HBR := Lib.hid hbr
    clear hbr
    by_cases h0 : 0 < q.size
    · have n0 := neq_empty q
      rw [decide_eq_true h0] at n0
      have i0 := empty_false (s := q) (by omega)
      obtain ⟨m, hm⟩ : ∃ m, q.size = m + 1 := ⟨q.size - 1, by omega⟩
      have hml : m < q.size := by omega
      have HLA := Lib.hid (last_at hm hml)
      have HBL := Lib.hid (but_last hm hml)
      have hbs := but_size hm
      obtain ⟨b, hb⟩ : ∃ b, q[m] = b := ⟨_, rfl⟩
      rw [hb] at HLA HBL
      have hi : ((q.size : Int) - 1) = (m : Int) := by omega
      by_cases hl : b = 47
      · subst hl
        have HN := Lib.hid (show bareP (tl (q.extract 0 m)) = R by rw [← HBR.out, HBL.out, bare_snoc])
        go_wp2
        go_roundg m
        case measure => omega
        case rel => exact ⟨q.extract 0 m, rfl, by omega, hbs.symm, HN.out, rfl⟩
      · have hqb : ((b.toNat : Int) == 47) = false := co_ne (a := b) (b := 47) hl
        have HN := Lib.hid (show q = bA R by
          apply bA_eq
          rw [← HBR.out, bare_same]
          rw [HLA.out]
          intro e
          injection e with e
          exact hl e)
        clear hl
        go_wp2
        go_ret
        exact ⟨ret_str HN.out, rfl⟩
    · have i0 : q.toList = [] := (empty_iff q).2 (by omega)
      have HN := Lib.hid (show q = bA R by
        apply bA_eq
        rw [← HBR.out, nil_of h0]
        rfl)
      go_wp2
      go_ret
      exact ⟨ret_str HN.out, rfl⟩
set_option maxHeartbeats 4000000 in
theorem ref_up (p : ByteArray) (w : World) (hp : p.size ≤ 1000000) :
    Calls Try.prog 21 #[.string p] w fun e w' => e = .returned (.string (bA (upP (tl p)))) ∧ w = w' := by
  have HR := Lib.hid (show upP (tl p) = if bareP (cutP (bareP (tl p))) ≠ [] then bareP (cutP (bareP (tl p))) else if absP (tl p) = true then [47] else [46] from rfl)
  have H1 := Lib.hid (bare_any p w hp)
  have HA := Lib.hid (ref_abs p w)
  have hq1 : (bA (bareP (tl p))).size ≤ p.size := by
    obtain ⟨k, hk, _⟩ := bare_split (tl p)
    rw [size_bA, ← tl_len]
    have := congrArg List.length hk
    rw [List.length_append] at this
    omega
  generalize upP (tl p) = R at HR ⊢
  generalize absP (tl p) = ap at HR HA
  obtain ⟨q0, hq0⟩ : ∃ q0, bA (bareP (tl p)) = q0 := ⟨_, rfl⟩
  have HC0 := Lib.hid (show bareP (tl p) = tl q0 by rw [← hq0, tl_bA])
  rw [HC0.out] at HR
  rw [hq0] at H1 hq1
  clear HC0 hq0
  obtain ⟨C, hC⟩ : ∃ C, cutP (tl q0) = C := ⟨_, rfl⟩
  rw [hC] at HR
  have HC := Lib.hid hC
  clear hC
  go_enter Try.func21, Try.ntmps21
  go_wp2_with fail
  refine H1.out.mono ?_
  rintro e w' ⟨rfl, rfl⟩
  go_wp2
  go_loopg [3] q0.size (fun g s3 wr => ∃ q : ByteArray, s3 = .string q ∧ q.size ≤ q0.size ∧ g = q.size ∧ cutP (tl q) = C ∧ w = wr)
  case atStart => exact ⟨q0, rfl, Nat.le_refl _, rfl, HC.out, rfl⟩
  case round =>
    obtain ⟨q, rfl, hq, rfl, hbr, rfl⟩ := hrel
    have HBR := Lib.hid hbr
    clear hbr
    have fin : (tl q = [] ∨ (tl q).getLast? = some 47) → tl q = C := fun h => by rw [← HBR.out, cut_same h]
    have HFIN := Lib.hid fin
    clear fin
    have HQ := Lib.hid (fun (h : tl q = C) => show R = if bareP (tl q) ≠ [] then bareP (tl q) else if ap = true then [47] else [46] by rw [h]; exact HR.out)
    have HB2 := Lib.hid (bare_any q w (by omega))
    by_cases h0 : 0 < q.size
    · have n0 := neq_empty q
      rw [decide_eq_true h0] at n0
      have i0 := empty_false (s := q) (by omega)
      obtain ⟨m, hm⟩ : ∃ m, q.size = m + 1 := ⟨q.size - 1, by omega⟩
      have hml : m < q.size := by omega
      have HLA := Lib.hid (last_at hm hml)
      have HBL := Lib.hid (but_last hm hml)
      have hbs := but_size hm
      obtain ⟨b, hb⟩ : ∃ b, q[m] = b := ⟨_, rfl⟩
      rw [hb] at HLA HBL
      have hi : ((q.size : Int) - 1) = (m : Int) := by omega
      by_cases hl : b = 47
      · subst hl
        have HQ2 := Lib.hid (HQ.out (HFIN.out (.inr HLA.out)))
        clear HQ HFIN
        obtain ⟨u, hu⟩ : ∃ u, bA (bareP (tl q)) = u := ⟨_, rfl⟩
        have HU := Lib.hid (show bareP (tl q) = tl u by rw [← hu, tl_bA])
        rw [HU.out] at HQ2
        rw [hu] at HB2
        clear HU hu
        by_cases hu0 : 0 < u.size
        · have m0 := neq_empty u
          rw [decide_eq_true hu0] at m0
          have j0 := empty_false (s := u) (by omega)
          rw [if_pos (by intro e; rw [← tl_len, e] at hu0; exact absurd hu0 (by decide))] at HQ2
          go_wp2_with fail
          refine HB2.out.mono ?_
          rintro e w' ⟨rfl, rfl⟩
          go_wp2
          go_ret
          exact ⟨ret_str (bA_eq HQ2.out.symm), rfl⟩
        · have j0 : u.toList = [] := (empty_iff u).2 (by omega)
          rw [if_neg (by intro e; exact e (nil_of hu0))] at HQ2
          cases ap with
          | true =>
            rw [if_pos rfl] at HQ2
            go_wp2_with fail
            refine HB2.out.mono ?_
            rintro e w' ⟨rfl, rfl⟩
            go_wp2_with fail
            refine HA.out.mono ?_
            rintro e w' ⟨rfl, rfl⟩
            go_wp2
            go_ret
            exact ⟨ret_str (by rw [HQ2.out]; rfl), rfl⟩
          | false =>
            rw [if_neg (by decide)] at HQ2
            go_wp2_with fail
            refine HB2.out.mono ?_
            rintro e w' ⟨rfl, rfl⟩
            go_wp2_with fail
            refine HA.out.mono ?_
            rintro e w' ⟨rfl, rfl⟩
            go_wp2
            go_ret
            exact ⟨ret_str (by rw [HQ2.out]; rfl), rfl⟩
      · have hqb : ((b.toNat : Int) == 47) = false := co_ne (a := b) (b := 47) hl
        have HN := Lib.hid (show cutP (tl (q.extract 0 m)) = C by rw [← HBR.out, HBL.out, cut_snoc _ hl])
        clear hl
        go_wp2
        go_roundg m
        case measure => omega
        case rel => exact ⟨q.extract 0 m, rfl, by omega, hbs.symm, HN.out, rfl⟩
    · have i0 : q.toList = [] := (empty_iff q).2 (by omega)
      have HQ2 := Lib.hid (HQ.out (HFIN.out (.inl (nil_of h0))))
      rw [nil_of h0] at HQ2 HB2
      have HQ3 := Lib.hid (show R = if ap = true then [47] else [46] from HQ2.out)
      rw [show bA (bareP []) = ⟨#[]⟩ from rfl] at HB2
      clear HQ2 HQ HFIN
      cases ap with
      | true =>
        rw [if_pos rfl] at HQ3
        go_wp2_with fail
        refine HB2.out.mono ?_
        rintro e w' ⟨rfl, rfl⟩
        go_wp2_with fail
        refine HA.out.mono ?_
        rintro e w' ⟨rfl, rfl⟩
        go_wp2
        go_ret
        exact ⟨ret_str (by rw [HQ3.out]; rfl), rfl⟩
      | false =>
        rw [if_neg (by decide)] at HQ3
        go_wp2_with fail
        refine HB2.out.mono ?_
        rintro e w' ⟨rfl, rfl⟩
        go_wp2_with fail
        refine HA.out.mono ?_
        rintro e w' ⟨rfl, rfl⟩
        go_wp2
        go_ret
        exact ⟨ret_str (by rw [HQ3.out]; rfl), rfl⟩
end Go.Proofs.Ythledmbdlengiaa
