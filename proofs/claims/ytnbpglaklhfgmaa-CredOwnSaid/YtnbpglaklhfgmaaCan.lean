/-
  What who asks may: Can, MayMode, Sticky. The condition: no more groups than a million.
-/
import Derived.Test.YtnbpglaklhfgmaaMem
namespace Go.Proofs.Ytnbpglaklhfgmaa
open Go Go.RowKit

theorem ba (W : World) (o : Obj) : Below W.heap.size W (W.alloc o) := (Below.refl _ _).alloc (Nat.le_refl _) _
/-- Which class counts. -/
def clsOf (u g : Int) (gs : List Int) (x y : Int) : Int := if x = u then 0 else if (y == g || gs.contains y) = true then 1 else 2
/-- A class lets what is wanted. -/
def lets (want b : Int) : Bool := bits .andNot .i64 (bits .and .i64 want 7) b == 0

theorem can_any (u g : Int) (A : Option Addr) (n c : Nat) (gs : List Int) (x y m want : Int) (w : World) (h : IntsR w (.slice A n c) gs) (hn : gs.length ≤ 1000000) :
    Calls Try.prog 15 #[.agg #[.int .i64 u, .int .i64 g, .slice A n c], .int .i64 x, .int .i64 y, .int .i64 m, .int .i64 want] w fun e w' => e = .returned (.bool (u == 0 || lets want (cls m (clsOf u g gs x y)))) ∧ Below w.heap.size w w' := by
  have HM := Lib.hid (fun w' hb => class_of u g A n c gs x y w' (h.below hb) hn)
  clear h
  unfold clsOf
  obtain ⟨R, hR⟩ : ∃ R, (if x = u then 0 else if (y == g || gs.contains y) = true then 1 else 2 : Int) = R := ⟨_, rfl⟩
  rw [hR] at HM ⊢
  clear hR
  unfold lets
  go_enter Try.func15, Try.ntmps15
  have HB := Lib.hid (ba w (.cells #[.int .i64 u, .int .i64 g, .slice A n c] 24))
  go_wp2_with fail
  refine (HM.out _ HB.out).mono ?_
  rintro e w2 ⟨rfl, hb2⟩
  have k0 : w2.cell? ⟨w.heap.size, 0, none⟩ = some (.int .i64 u) := bc hb2 (by simp)
  have k1 : w2.cell? ⟨w.heap.size, 1, none⟩ = some (.int .i64 g) := bc hb2 (by simp)
  have k2 : w2.cell? ⟨w.heap.size, 2, none⟩ = some (.slice A n c) := bc hb2 (by simp)
  have HB2 := Lib.hid (bt hb2 HB.out)
  clear hb2 HB
  go_wp2_with fail
  refine (class_any _ _ _).mono ?_
  rintro e w3 ⟨rfl, rfl⟩
  go_wp2_with fail
  refine (isRoot_any _ _ _ _ _ _).mono ?_
  rintro e w3 ⟨rfl, hb3⟩
  have HB3 := Lib.hid (bt hb3 HB2.out)
  clear hb3
  go_wp2_with fail
  refine (anyOf2 _ _ _).mono ?_
  rintro e w4 ⟨rfl, rfl⟩
  go_wp2
  go_ret
  exact ⟨rfl, HB3.out.alloc HB3.out.size _⟩

theorem mayMode_any (u g : Int) (A : Option Addr) (n c : Nat) (x : Int) (w : World) :
    Calls Try.prog 17 #[.agg #[.int .i64 u, .int .i64 g, .slice A n c], .int .i64 x] w fun e w' => e = .returned (.bool (u == 0 || x == u)) ∧ Below w.heap.size w w' := by
  go_enter Try.func17, Try.ntmps17
  go_wp2_with fail
  have k0 : (w.alloc (.cells #[.int .i64 u, .int .i64 g, .slice A n c] 24)).cell? ⟨w.heap.size, 0, none⟩ = some (.int .i64 u) := by simp
  have k1 : (w.alloc (.cells #[.int .i64 u, .int .i64 g, .slice A n c] 24)).cell? ⟨w.heap.size, 1, none⟩ = some (.int .i64 g) := by simp
  have k2 : (w.alloc (.cells #[.int .i64 u, .int .i64 g, .slice A n c] 24)).cell? ⟨w.heap.size, 2, none⟩ = some (.slice A n c) := by simp
  have hb : Below w.heap.size w (w.alloc (.cells #[.int .i64 u, .int .i64 g, .slice A n c] 24)) := ba _ _
  generalize w.alloc (.cells #[.int .i64 u, .int .i64 g, .slice A n c] 24) = W1 at k0 k1 k2 hb ⊢
  have hs0 : W1.drew.cell? ⟨w.heap.size, 0, none⟩ = some (.int .i64 u) := k0
  have hs1 : W1.drew.cell? ⟨w.heap.size, 1, none⟩ = some (.int .i64 g) := k1
  have hs2 : W1.drew.cell? ⟨w.heap.size, 2, none⟩ = some (.slice A n c) := k2
  have hs3 := hb.drew
  go_region_held3 (fun w' => w'.cell? ⟨w.heap.size, 0, none⟩ = some (.int .i64 u) ∧ w'.cell? ⟨w.heap.size, 1, none⟩ = some (.int .i64 g) ∧ w'.cell? ⟨w.heap.size, 2, none⟩ = some (.slice A n c) ∧ Below w.heap.size w w')
    (first | exact ⟨hs0, hs1, hs2, hs3⟩ | exact ⟨bc hb4 hs0, bc hb4 hs1, bc hb4 hs2, bt hb4 hs3⟩ | exact ⟨bc (ba _ _) (bc hb4 hs0), bc (ba _ _) (bc hb4 hs1), bc (ba _ _) (bc hb4 hs2), bt (ba _ _) (bt hb4 hs3)⟩)
    (first | (go_at_call 30; refine (isRoot_any _ _ _ _ _ _).mono ?_; rintro e w4 ⟨rfl, hb4⟩) | (go_at_call 28; refine (anyOf2 _ _ _).mono ?_; rintro e w5 ⟨rfl, rfl⟩))
  all_goals
    go_wp2
    go_ret
    exact ⟨rfl, bt (ba _ _) (bt hb4 hs3)⟩

theorem sticky_any (u g : Int) (A : Option Addr) (n c : Nat) (m d x : Int) (w : World) :
    Calls Try.prog 20 #[.agg #[.int .i64 u, .int .i64 g, .slice A n c], .int .i64 m, .int .i64 d, .int .i64 x] w fun e w' => e = .returned (.bool (u == 0 || bits .and .i64 m 512 == 0 || d == u || x == u)) ∧ Below w.heap.size w w' := by
  go_enter Try.func20, Try.ntmps20
  go_wp2_with fail
  have k0 : (w.alloc (.cells #[.int .i64 u, .int .i64 g, .slice A n c] 24)).cell? ⟨w.heap.size, 0, none⟩ = some (.int .i64 u) := by simp
  have k1 : (w.alloc (.cells #[.int .i64 u, .int .i64 g, .slice A n c] 24)).cell? ⟨w.heap.size, 1, none⟩ = some (.int .i64 g) := by simp
  have k2 : (w.alloc (.cells #[.int .i64 u, .int .i64 g, .slice A n c] 24)).cell? ⟨w.heap.size, 2, none⟩ = some (.slice A n c) := by simp
  have hb : Below w.heap.size w (w.alloc (.cells #[.int .i64 u, .int .i64 g, .slice A n c] 24)) := ba _ _
  generalize w.alloc (.cells #[.int .i64 u, .int .i64 g, .slice A n c] 24) = W1 at k0 k1 k2 hb ⊢
  have hs0 : W1.drew.cell? ⟨w.heap.size, 0, none⟩ = some (.int .i64 u) := k0
  have hs1 : W1.drew.cell? ⟨w.heap.size, 1, none⟩ = some (.int .i64 g) := k1
  have hs2 : W1.drew.cell? ⟨w.heap.size, 2, none⟩ = some (.slice A n c) := k2
  have hs3 := hb.drew
  go_region_held3 (fun w' => w'.cell? ⟨w.heap.size, 0, none⟩ = some (.int .i64 u) ∧ w'.cell? ⟨w.heap.size, 1, none⟩ = some (.int .i64 g) ∧ w'.cell? ⟨w.heap.size, 2, none⟩ = some (.slice A n c) ∧ Below w.heap.size w w')
    (first | exact ⟨hs0, hs1, hs2, hs3⟩ | exact ⟨bc hb4 hs0, bc hb4 hs1, bc hb4 hs2, bt hb4 hs3⟩ | exact ⟨bc (ba _ _) (bc hb4 hs0), bc (ba _ _) (bc hb4 hs1), bc (ba _ _) (bc hb4 hs2), bt (ba _ _) (bt hb4 hs3)⟩)
    (first | (go_at_call 30; refine (isRoot_any _ _ _ _ _ _).mono ?_; rintro e w4 ⟨rfl, hb4⟩) | (go_at_call 28; refine (anyOf4 _ _ _ _ _).mono ?_; rintro e w5 ⟨rfl, rfl⟩))
  all_goals
    go_wp2
    go_ret
    exact ⟨rfl, bt (ba _ _) (bt hb4 hs3)⟩

/-- Whether owner and group may be changed. -/
def mayOwn (u g : Int) (gs : List Int) (x y tu tg : Int) : Bool := u == 0 || (x == u && (tu == x || decide (tu < 0)) && (tg == y || decide (tg < 0) || (tg == g || gs.contains tg)))
theorem mayOwn_any (u g : Int) (A : Option Addr) (n c : Nat) (gs : List Int) (x y tu tg : Int) (w : World) (h : IntsR w (.slice A n c) gs) (hn : gs.length ≤ 1000000) :
    Calls Try.prog 18 #[.agg #[.int .i64 u, .int .i64 g, .slice A n c], .int .i64 x, .int .i64 y, .int .i64 tu, .int .i64 tg] w fun e w' => e = .returned (.bool (mayOwn u g gs x y tu tg)) ∧ Below w.heap.size w w' := by
  have HM := Lib.hid (fun w' hb => member_any u g A n c gs tg w' (h.below hb) hn)
  clear h
  unfold mayOwn
  obtain ⟨R, hR⟩ : ∃ R, (tg == g || gs.contains tg) = R := ⟨_, rfl⟩
  rw [hR] at HM ⊢
  clear hR
  have HB := Lib.hid (ba w (.cells #[.int .i64 u, .int .i64 g, .slice A n c] 24))
  by_cases hu : u = 0
  · subst hu
    go_enter Try.func18, Try.ntmps18
    go_wp2_with fail
    refine (isRoot_any _ _ _ _ _ _).mono ?_
    rintro e w3 ⟨rfl, hb3⟩
    have HB3 := Lib.hid (bt hb3 HB.out)
    clear hb3
    go_wp2
    go_ret
    exact ⟨rfl, HB3.out⟩
  have hu' : (u == 0) = false := by simpa using hu
  by_cases hx : x = u
  · subst hx
    have hx' : (x == x) = true := by simp
    rw [hu', hx']
    obtain ⟨Q, hQ⟩ : ∃ Q, (tu == x || decide (tu < 0)) = Q := ⟨_, rfl⟩
    rw [hQ]
    have HQ := Lib.hid hQ
    clear hQ
    cases Q with
    | true =>
      go_enter Try.func18, Try.ntmps18
      go_wp2_with fail
      refine (isRoot_any _ _ _ _ _ _).mono ?_
      rintro e w3 ⟨rfl, hb3⟩
      rw [hu']
      have k0 : w3.cell? ⟨w.heap.size, 0, none⟩ = some (.int .i64 x) := bc hb3 (by simp)
      have k1 : w3.cell? ⟨w.heap.size, 1, none⟩ = some (.int .i64 g) := bc hb3 (by simp)
      have k2 : w3.cell? ⟨w.heap.size, 2, none⟩ = some (.slice A n c) := bc hb3 (by simp)
      have HB3 := Lib.hid (bt hb3 HB.out)
      clear hb3
      go_wp2_with fail
      refine (anyOf2 _ _ _).mono ?_
      rintro e w4 ⟨rfl, rfl⟩
      rw [HQ.out]
      have HB4 := Lib.hid (HB3.out.alloc HB3.out.size (.cells #[.bool (tu == x), .bool (decide (tu < 0))] 4))
      have j0 := bc (ba w3 (.cells #[.bool (tu == x), .bool (decide (tu < 0))] 4)) k0
      have j1 := bc (ba w3 (.cells #[.bool (tu == x), .bool (decide (tu < 0))] 4)) k1
      have j2 := bc (ba w3 (.cells #[.bool (tu == x), .bool (decide (tu < 0))] 4)) k2
      generalize w3.alloc (.cells #[.bool (tu == x), .bool (decide (tu < 0))] 4) = w4 at j0 j1 j2 HB4 ⊢
      clear k0 k1 k2
      go_wp2_with fail
      refine (HM.out _ HB4.out).mono ?_
      rintro e w5 ⟨rfl, hb5⟩
      have HB5 := Lib.hid (bt hb5 HB4.out)
      clear hb5
      go_wp2_with fail
      refine (anyOf3 _ _ _ _).mono ?_
      rintro e w6 ⟨rfl, rfl⟩
      go_wp2
      go_ret
      exact ⟨rfl, HB5.out.alloc HB5.out.size _⟩
    | false =>
      go_enter Try.func18, Try.ntmps18
      go_wp2_with fail
      refine (isRoot_any _ _ _ _ _ _).mono ?_
      rintro e w3 ⟨rfl, hb3⟩
      rw [hu']
      have k0 : w3.cell? ⟨w.heap.size, 0, none⟩ = some (.int .i64 x) := bc hb3 (by simp)
      have HB3 := Lib.hid (bt hb3 HB.out)
      clear hb3
      go_wp2_with fail
      refine (anyOf2 _ _ _).mono ?_
      rintro e w4 ⟨rfl, rfl⟩
      rw [HQ.out]
      go_wp2
      go_ret
      exact ⟨rfl, HB3.out.alloc HB3.out.size _⟩
  · have hx' : (x == u) = false := by simpa using hx
    rw [hu', hx']
    clear hx
    go_enter Try.func18, Try.ntmps18
    go_wp2_with fail
    refine (isRoot_any _ _ _ _ _ _).mono ?_
    rintro e w3 ⟨rfl, hb3⟩
    rw [hu']
    have k0 : w3.cell? ⟨w.heap.size, 0, none⟩ = some (.int .i64 u) := bc hb3 (by simp)
    have HB3 := Lib.hid (bt hb3 HB.out)
    clear hb3
    go_wp2
    go_ret
    exact ⟨rfl, HB3.out⟩
end Go.Proofs.Ytnbpglaklhfgmaa
