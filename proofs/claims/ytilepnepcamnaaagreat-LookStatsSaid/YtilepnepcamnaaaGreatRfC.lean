/-
  The statements' who, the reference's fits of stage 11. The conditions: a path has a million bytes at most.
-/
import Derived.Test.YtilepnepcamnaaaGreatRfT
namespace Go.Proofs.YtilepnepcamnaaaGreat
open Go Go.RowKit
set_option maxRecDepth 100000

attribute [local go_sem] cell_off4 cell_blk4
attribute [local go_sem] kind_ofr
theorem who_any (c : Wh) (A0 : Option Addr) (m k : Nat) (w : World) :
    Calls Tryz.prog 14 #[.agg #[.int .i64 c.u, .int .i64 c.g, .slice A0 m k]] w fun e w' => e = .returned (.agg #[.int .i64 c.u, .int .i64 c.g, .slice A0 m k]) ∧ Below w.heap.size w w' := by
  have hb1 := al (ba w (.cells #[.int .i64 c.u, .int .i64 c.g, .slice A0 m k] 25)) (.cells #[.int .i64 0, .int .i64 0, .slice none 0 0] 42)
  have hk1 := (Blk.new w 25 #[.int .i64 c.u, .int .i64 c.g, .slice A0 m k]).alloc (.cells #[.int .i64 0, .int .i64 0, .slice none 0 0] 42)
  have hr1 := Blk.new (w.alloc (.cells #[.int .i64 c.u, .int .i64 c.g, .slice A0 m k] 25)) 42 #[.int .i64 0, .int .i64 0, .slice none 0 0]
  have ez : (w.alloc (.cells #[.int .i64 c.u, .int .i64 c.g, .slice A0 m k] 25)).heap.size = w.heap.size + 1 := by simp
  rw [ez] at hr1
  obtain ⟨W1, hW1⟩ : ∃ W1, (w.alloc (.cells #[.int .i64 c.u, .int .i64 c.g, .slice A0 m k] 25)).alloc (.cells #[.int .i64 0, .int .i64 0, .slice none 0 0] 42) = W1 := ⟨_, rfl⟩
  rw [hW1] at hb1 hk1 hr1
  obtain ⟨p0, p1, p2⟩ := hk1.c3
  obtain ⟨q0, q1, q2⟩ := hr1.c3
  obtain ⟨f0, f1, f2⟩ := hr1.f3
  obtain ⟨s0, s1, s2⟩ := hr1.s3
  have HB := Lib.hid (below_grown hb1 (grown3 W1 (w.heap.size + 1) (.int .i64 c.u) (.int .i64 c.g) (.slice A0 m k)) (Nat.le_succ _))
  clear hb1 hk1 hr1 ez
  go_enter Tryz.func14, Tryz.ntmps14
  go_wp2
  exact bodyPost_ret (v := .agg #[.int .i64 c.u, .int .i64 c.g, .slice A0 m k]) (by simp [results, Tryz.results14, go_sem, s0, s1, s2]) rfl ⟨rfl, HB.out⟩
/-- What is wrong with a path by itself, where node 1 is of some kind. -/
def fitK (kd : Int) (p : Nm) : Int := if p = [] then 2 else if 64 < p.length then 36 else if p.contains 0 = true then 22 else if kd = 0 then 2 else 0
theorem fitK_eq (t : List Nd) (p : Nm) : fitE t p = fitK (tget t 1).kind p := by
  unfold fitE fitK tis
  by_cases h : (tget t 1).kind = 0 <;> simp [h]
set_option maxHeartbeats 4000000 in
theorem rfits_any (A : Option Addr) (n c : Nat) (n0 : Nd) (p : Nm) (w : World) (hp : p.length ≤ 1000000) (HG : ∀ W, Below w.heap.size w W → Calls Tryz.prog 37 #[.agg #[.slice A n c], .int .i64 1] W fun e w' => ∃ u, e = .returned u ∧ NrR w' u n0 ∧ Below W.heap.size W w') :
    Calls Tryz.prog 55 #[.agg #[.slice A n c], .string (bA p)] w fun e w' => e = .returned (.int .i64 (fitK n0.kind p)) ∧ Below w.heap.size w w' := by
  have HB0 := Lib.hid (ba w (.cells #[.slice A n c] 32))
  have HGG := Lib.hid HG
  have HH := Lib.hid (fun W => show Calls Tryz.prog 73 #[.string (bA p), .int .u8 0] W fun e w' => e = .returned (.bool (p.contains 0)) ∧ W = w' from ref_has (bA p) 0 W (by rw [size_bA]; exact hp))
  have hs := size_bA p
  have HE := Lib.hid (show fitK n0.kind p = if p = [] then 2 else if 64 < p.length then 36 else if p.contains 0 = true then 22 else if n0.kind = 0 then 2 else 0 from rfl)
  generalize fitK n0.kind p = E at HE ⊢
  clear HG
  by_cases h1 : p = []
  · have e1 : ((bA p).toList == ([] : List UInt8)) = true := (len0_iff p).2 h1
    have HZ := Lib.hid (show E = 2 by rw [HE.out, if_pos h1])
    clear h1 HE
    go_enter Tryz.func55, Tryz.ntmps55
    go_wp2
    go_ret
    exact ⟨ret_int HZ.out.symm, HB0.out⟩
  have e1 : ((bA p).toList == ([] : List UInt8)) = false := ne_nil_of p h1
  by_cases h64 : 64 < p.length
  · have e2 : ((bA p).size : Int) > 64 := by rw [hs]; omega
    have HZ := Lib.hid (show E = 36 by rw [HE.out, if_neg h1, if_pos h64])
    clear h1 h64 HE
    go_enter Tryz.func55, Tryz.ntmps55
    go_wp2
    go_ret
    exact ⟨ret_int HZ.out.symm, HB0.out⟩
  have e2 : ¬ ((bA p).size : Int) > 64 := by rw [hs]; omega
  cases hc : p.contains 0 with
  | true =>
    have HZ := Lib.hid (show E = 22 by rw [HE.out, if_neg h1, if_neg h64, if_pos hc])
    rw [hc] at HH
    clear h1 h64 HE hc
    go_enter Tryz.func55, Tryz.ntmps55
    go_wp2_with fail
    refine (HH.out _).mono ?_
    rintro e w1 ⟨rfl, rfl⟩
    go_wp2
    go_ret
    exact ⟨ret_int HZ.out.symm, HB0.out⟩
  | false =>
    have HZ := Lib.hid (show E = if n0.kind = 0 then 2 else 0 by rw [HE.out, if_neg h1, if_neg h64, if_neg (by rw [hc]; decide)])
    rw [hc] at HH
    clear h1 h64 HE hc
    go_enter Tryz.func55, Tryz.ntmps55
    go_wp2_with fail
    refine (HH.out _).mono ?_
    rintro e w1 ⟨rfl, rfl⟩
    go_wp2_with fail
    refine (HGG.out _ HB0.out).mono ?_
    rintro e w2 ⟨u, rfl, ⟨vn, vk, rfl, -, -⟩, hb2⟩
    have HB2 := Lib.hid (bt hb2 HB0.out)
    unfold refV
    clear hb2
    by_cases h0 : n0.kind = 0
    · have e3 : (n0.kind == 0) = true := by simpa using h0
      have HZ2 := Lib.hid (show E = 2 by rw [HZ.out, if_pos h0])
      clear h0
      go_wp2
      go_ret
      exact ⟨ret_int HZ2.out.symm, HB2.out⟩
    · have e3 : (n0.kind == 0) = false := by simpa using h0
      have HZ2 := Lib.hid (show E = 0 by rw [HZ.out, if_neg h0])
      clear h0
      go_wp2
      go_ret
      exact ⟨ret_int HZ2.out.symm, HB2.out⟩
end Go.Proofs.YtilepnepcamnaaaGreat
