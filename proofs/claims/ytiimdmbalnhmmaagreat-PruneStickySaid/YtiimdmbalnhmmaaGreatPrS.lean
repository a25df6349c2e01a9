/-
  The document's examples of stage 15, as mathematics. No condition.
-/
import Derived.Test.YtiimdmbalnhmmaaGreatPrR
import Derived.Test.YtiimdmbalnhmmaaGreatBM
namespace Go.Proofs.YtiimdmbalnhmmaaGreat
open Go Go.RowKit
set_option maxRecDepth 100000

def pw0 : Rw := ⟨2, 1023, 0, 0, 0, [], [], [], 0⟩
def pw1 : Rw := ⟨1, 0, 1, 0, 1, [102], [], [], 0⟩
def pw2 : Rw := ⟨1, 0, 2, 0, 1, [103], [], [], 0⟩
def pw3 : Rw := ⟨2, 511, 1, 0, 1, [100], [], [], 0⟩
def pwD (k m u g : Int) (e : List En) : Nd := ⟨k, m, u, g, [], e, []⟩
def pwA : List Nd := [pwD 2 1023 0 0 [], Nd.zero, Nd.zero, Nd.zero, Nd.zero, Nd.zero, Nd.zero, Nd.zero, Nd.zero]
def pwB : List Nd := [pwD 2 1023 0 0 [([102], 2)], pwD 1 0 1 0 [], Nd.zero, Nd.zero, Nd.zero, Nd.zero, Nd.zero, Nd.zero, Nd.zero]
def pwC : List Nd := [pwD 2 1023 0 0 [([102], 2), ([103], 3)], pwD 1 0 1 0 [], pwD 1 0 2 0 [], Nd.zero, Nd.zero, Nd.zero, Nd.zero, Nd.zero, Nd.zero]
def pwT1 : List Nd := [pwD 2 1023 0 0 [([100], 4), ([102], 2), ([103], 3)], pwD 1 0 1 0 [], pwD 1 0 2 0 [], pwD 2 511 1 0 [], Nd.zero, Nd.zero, Nd.zero, Nd.zero, Nd.zero]
def pwT2 : List Nd := [pwD 2 1023 0 0 [([100], 4), ([103], 3)], Nd.zero, pwD 1 0 2 0 [], pwD 2 511 1 0 [], Nd.zero, Nd.zero, Nd.zero, Nd.zero, Nd.zero]
def pwT3 : List Nd := [pwD 2 1023 0 0 [([103], 3), ([104], 4)], Nd.zero, pwD 1 0 2 0 [], pwD 2 511 1 0 [], Nd.zero, Nd.zero, Nd.zero, Nd.zero, Nd.zero]
def pwT4 : List Nd := [pwD 2 1023 0 0 [([103], 3)], Nd.zero, pwD 1 0 2 0 [], Nd.zero, Nd.zero, Nd.zero, Nd.zero, Nd.zero, Nd.zero]
theorem pw_file {m u g : Int} (h1 : 0 ≤ m ∧ m ≤ 4095) (h2 : 0 ≤ u ∧ u ≤ 65535) (h3 : 0 ≤ g ∧ g ≤ 65535) : rightP (pwD 1 m u g []) := ⟨⟨h1, h2, h3⟩, .inl ⟨rfl, rfl, rfl, (by decide : (0 : Nat) ≤ 48)⟩⟩
theorem pw_nil : entsP [] := ⟨fun e h => (by cases h), List.Pairwise.nil, by decide⟩
theorem pw_dir {m u g : Int} (h1 : 0 ≤ m ∧ m ≤ 4095) (h2 : 0 ≤ u ∧ u ≤ 65535) (h3 : 0 ≤ g ∧ g ≤ 65535) : rightP (pwD 2 m u g []) := ⟨⟨h1, h2, h3⟩, .inr (.inl ⟨rfl, rfl, rfl, pw_nil⟩)⟩
theorem pw_all : bldA 9 [pw0, pw1, pw2, pw3] = .good pwT1 := by
  have r0 : rightP pw0.nd := pw_dir (by decide) (by decide) (by decide)
  have r1 : rightP pw1.nd := pw_file (by decide) (by decide) (by decide)
  have r2 : rightP pw2.nd := pw_file (by decide) (by decide) (by decide)
  have r3 : rightP pw3.nd := pw_dir (by decide) (by decide) (by decide)
  have h0 : rtE (newN 9) pw0 = 0 := rt_zero.2 ⟨rfl, rfl, rfl, r0, by rw [new_free]; decide⟩
  have e0 : rtT (newN 9) pw0 = pwA := rfl
  rw [bldA, if_pos h0, e0, bld]
  have k1 : enE pwA pw1 = 0 := en_zero.2 (.inr ⟨by decide, r1, by decide⟩)
  have i1 : enI pwA pw1 = 2 := by unfold enI; rw [if_pos k1]; rfl
  have w1 : withE (tget pwA 1) [102] 2 = 0 := by decide
  have h1 : blE pwA pw1 = 0 := bl_zero.2 ⟨rfl, k1, by rw [i1]; exact w1⟩
  have e1 : blT pwA pw1 = pwB := by
    unfold blT enT
    rw [if_pos k1, i1]
    rfl
  rw [if_pos h1, e1, bld]
  have k2 : enE pwB pw2 = 0 := en_zero.2 (.inr ⟨by decide, r2, by decide⟩)
  have i2 : enI pwB pw2 = 3 := by unfold enI; rw [if_pos k2]; rfl
  have w2 : withE (tget pwB 1) [103] 3 = 0 := by decide
  have h2 : blE pwB pw2 = 0 := bl_zero.2 ⟨rfl, k2, by rw [i2]; exact w2⟩
  have e2 : blT pwB pw2 = pwC := by
    unfold blT enT
    rw [if_pos k2, i2]
    rfl
  rw [if_pos h2, e2, bld]
  have k3 : enE pwC pw3 = 0 := en_zero.2 (.inr ⟨by decide, r3, by decide⟩)
  have i3 : enI pwC pw3 = 4 := by unfold enI; rw [if_pos k3]; rfl
  have w3 : withE (tget pwC 1) [100] 4 = 0 := by decide
  have h3 : blE pwC pw3 = 0 := bl_zero.2 ⟨rfl, k3, by rw [i3]; exact w3⟩
  have e3 : blT pwC pw3 = pwT1 := by
    unfold blT enT
    rw [if_pos k3, i3]
    rfl
  rw [if_pos h3, e3, bld]
theorem pw_tre : Tre pwT1 := tre_trx (tre_all pw_all).1
def whW : Wh := ⟨1, 0, []⟩
theorem pw_one {t : List Nd} {f : Bool} {n : Nm} {x : Int} (h1 : fitE t n = 0) (h2 : splitP n = [n]) (h3 : srE t whW 1 = 0) (d1 : n ≠ [46]) (d2 : n ≠ [46, 46]) (d3 : ¬ 12 < n.length) (h4 : fnd (tget t 1).ents n = x) (h5 : (tget t x).kind ≠ 3) : resM t whW n f = (⟨1, n, x⟩, 0) := by
  unfold resM
  rw [if_neg (fun q => q h1), h2, wlk_last h3 d1 d2 d3 (by rw [h4]; exact fun q => h5 q.1) rfl, h4]
theorem pw_r1 : resM pwT1 whW [102] false = (⟨1, [102], 2⟩, 0) := pw_one (by decide +kernel) (by decide +kernel) (by decide +kernel) (by decide) (by decide) (by decide) (by decide +kernel) (by decide +kernel)
theorem pw_r2 : resM pwT2 whW [103] false = (⟨1, [103], 3⟩, 0) := pw_one (by decide +kernel) (by decide +kernel) (by decide +kernel) (by decide) (by decide) (by decide) (by decide +kernel) (by decide +kernel)
theorem pw_r3 : resM pwT2 whW [100] false = (⟨1, [100], 4⟩, 0) := pw_one (by decide +kernel) (by decide +kernel) (by decide +kernel) (by decide) (by decide) (by decide) (by decide +kernel) (by decide +kernel)
theorem pw_r4 : resM pwT2 whW [100, 47, 101] false = (⟨4, [101], 0⟩, 0) := by
  have h1 : fitE pwT2 [100, 47, 101] = 0 := by decide +kernel
  have h2 : splitP [100, 47, 101] = [[100], [101]] := by decide +kernel
  have f2 : fnd (tget pwT2 1).ents [100] = 4 := by decide +kernel
  have f3 : fnd (tget pwT2 4).ents [101] = 0 := by decide +kernel
  have s1 : srE pwT2 whW 1 = 0 := by decide +kernel
  have s2 : srE pwT2 whW 4 = 0 := by decide +kernel
  unfold resM
  rw [if_neg (fun q => q h1), h2,
    wlk_on s1 (by decide) (by decide) (by decide) (by rw [f2]; decide) (by rw [f2]; exact fun q => absurd q.1 (by decide +kernel)) (by decide), f2,
    wlk_last s2 (by decide) (by decide) (by decide) (by rw [f3]; exact fun q => absurd q.1 (by decide +kernel)) rfl, f3]
theorem pw_r5 : resM pwT2 whW [104] false = (⟨1, [104], 0⟩, 0) := pw_one (by decide +kernel) (by decide +kernel) (by decide +kernel) (by decide) (by decide) (by decide) (by decide +kernel) (by decide +kernel)
theorem pw_r6 : resM pwT3 whW [104] false = (⟨1, [104], 4⟩, 0) := pw_one (by decide +kernel) (by decide +kernel) (by decide +kernel) (by decide) (by decide) (by decide) (by decide +kernel) (by decide +kernel)
theorem pw_1 : ulE pwT1 whW (resM pwT1 whW [102] false) = 0 ∧ ulT pwT1 whW (resM pwT1 whW [102] false) [] = pwT2 := by rw [pw_r1]; exact ⟨by decide +kernel, by rfl⟩
theorem pw_2 : ulE pwT2 whW (resM pwT2 whW [103] false) = 1 := by rw [pw_r2]; decide +kernel
theorem pw_3 : mvE pwT2 whW (resM pwT2 whW [100] false) (resM pwT2 whW [100, 47, 101] false) = 22 := by rw [pw_r3, pw_r4]; decide +kernel
theorem pw_4 : mvE pwT2 whW (resM pwT2 whW [100] false) (resM pwT2 whW [104] false) = 0 ∧ mvT pwT2 whW (resM pwT2 whW [100] false) (resM pwT2 whW [104] false) [] = pwT3 := by rw [pw_r3, pw_r5]; exact ⟨by decide +kernel, by rfl⟩
theorem pw_5 : rdE pwT3 whW (resM pwT3 whW [104] false) = 0 ∧ rdT pwT3 whW (resM pwT3 whW [104] false) = pwT4 := by rw [pw_r6]; exact ⟨by decide +kernel, by rfl⟩
theorem pw_tre2 : Tre pwT2 := by rw [← pw_1.2]; exact (ul_kept pw_tre).1.tre
theorem pw_tre3 : Tre pwT3 := by rw [← pw_4.2]; exact (mv_kept pw_tre2).1.tre
theorem pw_tre4 : Tre pwT4 := by rw [← pw_5.2]; exact (rd_kept pw_tre3).1.tre
theorem pw_end : usedT pwT4 = 2 ∧ blwB pwT4 3 1 = true ∧ frB pwT4 3 [] = false := ⟨by decide +kernel, by decide +kernel, by decide +kernel⟩
end Go.Proofs.YtiimdmbalnhmmaaGreat
