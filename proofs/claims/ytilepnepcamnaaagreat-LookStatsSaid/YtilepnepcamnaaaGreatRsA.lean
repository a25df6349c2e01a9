/-
  The document's example of stage 11, as plain mathematics. No condition.
-/
import Derived.Test.YtilepnepcamnaaaGreatRsN
import Derived.Test.YtilepnepcamnaaaGreatBldB
namespace Go.Proofs.YtilepnepcamnaaaGreat
open Go Go.RowKit
set_option maxRecDepth 100000

def ex0 : Rw := ⟨2, 493, 0, 0, 0, [], [], [], 0⟩
def ex1 : Rw := ⟨2, 488, 1, 1, 1, [100], [], [], 0⟩
def ex2 : Rw := ⟨1, 420, 1, 1, 2, [102], [104, 105], [], 0⟩
def ex3 : Rw := ⟨3, 511, 0, 0, 1, [115], [], [100, 47, 102], 0⟩
def exT0 : List Nd := [⟨2, 493, 0, 0, [], [], []⟩, Nd.zero, Nd.zero, Nd.zero, Nd.zero, Nd.zero, Nd.zero, Nd.zero, Nd.zero]
def exT1 : List Nd := [⟨2, 493, 0, 0, [], [([100], 2)], []⟩, ⟨2, 488, 1, 1, [], [], []⟩, Nd.zero, Nd.zero, Nd.zero, Nd.zero, Nd.zero, Nd.zero, Nd.zero]
def exT2 : List Nd := [⟨2, 493, 0, 0, [], [([100], 2)], []⟩, ⟨2, 488, 1, 1, [], [([102], 3)], []⟩, ⟨1, 420, 1, 1, [104, 105], [], []⟩, Nd.zero, Nd.zero, Nd.zero, Nd.zero, Nd.zero, Nd.zero]
def exT3 : List Nd := [⟨2, 493, 0, 0, [], [([100], 2), ([115], 4)], []⟩, ⟨2, 488, 1, 1, [], [([102], 3)], []⟩, ⟨1, 420, 1, 1, [104, 105], [], []⟩, ⟨3, 511, 0, 0, [], [], [100, 47, 102]⟩, Nd.zero, Nd.zero, Nd.zero, Nd.zero, Nd.zero]
theorem ex_r0 : rightP ex0.nd := ⟨⟨by decide, by decide, by decide⟩, .inr (.inl ⟨rfl, rfl, rfl, (fun e he => by cases he), List.Pairwise.nil, Nat.zero_le _⟩)⟩
theorem ex_r1 : rightP ex1.nd := ⟨⟨by decide, by decide, by decide⟩, .inr (.inl ⟨rfl, rfl, rfl, (fun e he => by cases he), List.Pairwise.nil, Nat.zero_le _⟩)⟩
theorem ex_r2 : rightP ex2.nd := ⟨⟨by decide, by decide, by decide⟩, .inl ⟨rfl, rfl, rfl, by decide⟩⟩
theorem ex_r3 : rightP ex3.nd := ⟨⟨by decide, by decide, by decide⟩, .inr (.inr ⟨rfl, rfl, rfl, rfl, by decide⟩)⟩
theorem ex_all : bldA 9 [ex0, ex1, ex2, ex3] = .good exT3 := by
  have h0 : rtE (newN 9) ex0 = 0 := rt_zero.2 ⟨rfl, rfl, rfl, ex_r0, by rw [new_free]; decide⟩
  have e0 : rtT (newN 9) ex0 = exT0 := rfl
  rw [bldA, if_pos h0, e0, bld]
  have k1 : enE exT0 ex1 = 0 := en_zero.2 (.inr ⟨by decide, ex_r1, by decide⟩)
  have i1 : enI exT0 ex1 = 2 := by unfold enI; rw [if_pos k1]; rfl
  have w1 : withE (tget exT0 1) [100] 2 = 0 := by decide
  have h1 : blE exT0 ex1 = 0 := bl_zero.2 ⟨rfl, k1, by rw [i1]; exact w1⟩
  have e1 : blT exT0 ex1 = exT1 := by
    unfold blT enT
    rw [if_pos k1, i1]
    rfl
  rw [if_pos h1, e1, bld]
  have k2 : enE exT1 ex2 = 0 := en_zero.2 (.inr ⟨by decide, ex_r2, by decide⟩)
  have i2 : enI exT1 ex2 = 3 := by unfold enI; rw [if_pos k2]; rfl
  have w2 : withE (tget exT1 2) [102] 3 = 0 := by decide
  have h2 : blE exT1 ex2 = 0 := bl_zero.2 ⟨rfl, k2, by rw [i2]; exact w2⟩
  have e2 : blT exT1 ex2 = exT2 := by
    unfold blT enT
    rw [if_pos k2, i2]
    rfl
  rw [if_pos h2, e2, bld]
  have k3 : enE exT2 ex3 = 0 := en_zero.2 (.inr ⟨by decide, ex_r3, by decide⟩)
  have i3 : enI exT2 ex3 = 4 := by unfold enI; rw [if_pos k3]; rfl
  have w3 : withE (tget exT2 1) [115] 4 = 0 := by decide
  have h3 : blE exT2 ex3 = 0 := bl_zero.2 ⟨rfl, k3, by rw [i3]; exact w3⟩
  have e3 : blT exT2 ex3 = exT3 := by
    unfold blT enT
    rw [if_pos k3, i3]
    rfl
  rw [if_pos h3, e3, bld]
def whA : Wh := ⟨1, 1, []⟩
def whB : Wh := ⟨3, 3, []⟩
theorem sr_A1 : srE exT3 whA 1 = 0 := by decide +kernel
theorem sr_A2 : srE exT3 whA 2 = 0 := by decide +kernel
theorem ex_s : resM exT3 whA [115] true = (⟨2, [102], 3⟩, 0) := by
  have h1 : fitE exT3 [115] = 0 := by decide +kernel
  have h2 : splitP [115] = [[115]] := by decide +kernel
  have f1 : fnd (tget exT3 1).ents [115] = 4 := by decide +kernel
  have f2 : fnd (tget exT3 1).ents [100] = 2 := by decide +kernel
  have f3 : fnd (tget exT3 2).ents [102] = 3 := by decide +kernel
  have h3 : splitP (tget exT3 4).target = [[100], [102]] := by decide +kernel
  have h4 : absP (tget exT3 4).target = false := by decide +kernel
  unfold resM
  rw [if_neg (fun q => q h1), h2, wlk_link sr_A1 (by decide) (by decide) (by decide) (fun q => q.2 rfl) (by rw [f1]; exact ⟨rfl, .inl rfl⟩), f1, h3, h4, if_neg (by decide), List.append_nil,
    wlk_on sr_A1 (by decide) (by decide) (by decide) (by rw [f2]; decide) (by rw [f2]; exact fun q => absurd q.1 (by decide +kernel)) (by decide), f2,
    wlk_last sr_A2 (by decide) (by decide) (by decide) (by rw [f3]; exact fun q => absurd q.1 (by decide +kernel)) rfl, f3]
theorem ex_n : resM exT3 whA [115] false = (⟨1, [115], 4⟩, 0) := by
  have h1 : fitE exT3 [115] = 0 := by decide +kernel
  have h2 : splitP [115] = [[115]] := by decide +kernel
  have f1 : fnd (tget exT3 1).ents [115] = 4 := by decide +kernel
  unfold resM
  rw [if_neg (fun q => q h1), h2, wlk_last sr_A1 (by decide) (by decide) (by decide) (fun q => q.2.elim (fun q => by cases q) (fun q => q rfl)) rfl, f1]
theorem ex_x : resM exT3 whA [100, 47, 120] true = (⟨2, [120], 0⟩, 0) := by
  have h1 : fitE exT3 [100, 47, 120] = 0 := by decide +kernel
  have h2 : splitP [100, 47, 120] = [[100], [120]] := by decide +kernel
  have f2 : fnd (tget exT3 1).ents [100] = 2 := by decide +kernel
  have f3 : fnd (tget exT3 2).ents [120] = 0 := by decide +kernel
  unfold resM
  rw [if_neg (fun q => q h1), h2,
    wlk_on sr_A1 (by decide) (by decide) (by decide) (by rw [f2]; decide) (by rw [f2]; exact fun q => absurd q.1 (by decide +kernel)) (by decide), f2,
    wlk_last sr_A2 (by decide) (by decide) (by decide) (by rw [f3]; exact fun q => absurd q.1 (by decide +kernel)) rfl, f3]
theorem ex_e : resM exT3 whB [100, 47, 102] true = (Fo.zero, 13) := by
  have h1 : fitE exT3 [100, 47, 102] = 0 := by decide +kernel
  have h2 : splitP [100, 47, 102] = [[100], [102]] := by decide +kernel
  have f2 : fnd (tget exT3 1).ents [100] = 2 := by decide +kernel
  have s1 : srE exT3 whB 1 = 0 := by decide +kernel
  have s2 : srE exT3 whB 2 = 13 := by decide +kernel
  unfold resM
  rw [if_neg (fun q => q h1), h2,
    wlk_on s1 (by decide) (by decide) (by decide) (by rw [f2]; decide) (by rw [f2]; exact fun q => absurd q.1 (by decide +kernel)) (by decide), f2,
    wlk_sr (by rw [s2]; decide), s2]
theorem ex_c : canT exT3 whA 3 6 = true ∧ canT exT3 whA 3 1 = false := by decide +kernel
end Go.Proofs.YtilepnepcamnaaaGreat
