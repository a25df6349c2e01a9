/-
  Package plant's small functions, and what its closures tell of a node that is made. The conditions are said at each.
-/
import Derived.Test.YtfopnfgfoicidaaGreatPlC
import Derived.Test.YtfopnfgfoicidaaGreatPlK
import Derived.Deep.RegionHeld3
import Derived.Deep.RegionWith
import Derived.StillTailTactics
namespace Go.Proofs.YtfopnfgfoicidaaGreat
open Go Go.RowKit
set_option maxRecDepth 100000

attribute [local go_sem] cell_off4 cell_blk4
theorem masked_any (mode umask : Int) (w : World) : Calls Tryz.prog 70 #[.int .i64 mode, .int .i64 umask] w fun e w' => e = .returned (.int .i64 (mskM mode umask)) ∧ w = w' := by
  go_enter Tryz.func70, Tryz.ntmps70
  go_wp2
  go_ret
  exact ⟨ret_int (by rw [msk_bits]), rfl⟩
set_option maxHeartbeats 4000000 in
theorem sum_any (A : Option Addr) (n c : Nat) (l : List Int) (w : World) (h : IntsR w (.slice A n c) l) (hn : l.length ≤ 1000) :
    Calls Tryz.prog 99 #[.slice A n c] w fun e w' => e = .returned (.int .i64 (sumB l)) ∧ w = w' := by
  obtain ⟨A', c', he, hc⟩ := h
  injection he with e1 e2 e3
  subst e1 e2 e3
  have HC := Lib.hid hc
  clear hc
  go_enter Tryz.func99, Tryz.ntmps99
  go_wp2
  go_loopg [3, 8] l.length (fun g s3 s8 wr => ∃ k : Nat, s8 = .int .i64 k ∧ s3 = .int .i64 (sumB (l.take k)) ∧ k ≤ l.length ∧ g = l.length - k ∧ w = wr)
  case atStart => exact ⟨0, rfl, rfl, Nat.zero_le _, rfl, rfl⟩
  case round =>
    obtain ⟨k, rfl, rfl, hk, rfl, rfl⟩ := hrel
    by_cases hlt : k < l.length
    · obtain ⟨y, hy⟩ : ∃ y, l[k]? = some y := ⟨_, List.getElem?_eq_getElem hlt⟩
      obtain ⟨ad, rfl, c0⟩ := HC.out k y hy
      have HS := Lib.hid (show sumB (l.take (k + 1)) = bits .or .i64 (sumB (l.take k)) y from by
        rw [take_snoc' hy]
        unfold sumB
        rw [List.foldl_append]
        rfl)
      clear hy
      generalize sumB (l.take k) = X at HS ⊢
      go_wp2
      go_roundg (l.length - (k + 1))
      case measure => omega
      case rel => exact ⟨k + 1, by go_num, by rw [HS.out], by omega, rfl, rfl⟩
    · have HT := Lib.hid (show sumB (l.take k) = sumB l from by rw [List.take_of_length_le (by omega)])
      generalize sumB (l.take k) = X at HT ⊢
      go_wp2
      go_ret
      exact ⟨ret_int (by rw [HT.out]), rfl⟩
theorem ints_two {W : World} {x : Nat} {t : TypeId} {a b : Int} (h : Blk W x t #[.int .i64 a, .int .i64 b]) : IntsR W (.slice (some ⟨x, 0, none⟩) 2 2) [a, b] := by
  refine ⟨_, 2, rfl, fun k e hk => ⟨_, rfl, ?_⟩⟩
  rw [add_lit]
  match k, hk with
  | 0, hk => have e1 : a = e := by simpa using hk
             rw [← e1]; exact h.cell 0
  | 1, hk => have e1 : b = e := by simpa using hk
             rw [← e1]; exact h.cell 1
  | k + 2, hk => simp at hk
theorem ints_three {W : World} {x : Nat} {t : TypeId} {a b c : Int} (h : Blk W x t #[.int .i64 a, .int .i64 b, .int .i64 c]) : IntsR W (.slice (some ⟨x, 0, none⟩) 3 3) [a, b, c] := by
  refine ⟨_, 3, rfl, fun k e hk => ⟨_, rfl, ?_⟩⟩
  rw [add_lit]
  match k, hk with
  | 0, hk => have e1 : a = e := by simpa using hk
             rw [← e1]; exact h.cell 0
  | 1, hk => have e1 : b = e := by simpa using hk
             rw [← e1]; exact h.cell 1
  | 2, hk => have e1 : c = e := by simpa using hk
             rw [← e1]; exact h.cell 2
  | k + 3, hk => simp at hk
theorem putC_below {W w8 : World} {d : Nat} (u0 u1 u2 u3 u4 u5 u6 : Value) (h : Below W.heap.size W w8) (hd : W.heap.size ≤ d) : Below W.heap.size W (((((((w8.setCell ⟨d, 0, none⟩ u0).setCell ⟨d, 1, none⟩ u1).setCell ⟨d, 2, none⟩ u2).setCell ⟨d, 3, none⟩ u3).setCell ⟨d, 4, none⟩ u4).setCell ⟨d, 5, none⟩ u5).setCell ⟨d, 6, none⟩ u6) :=
  below_grown h (grown7 w8 d u0 u1 u2 u3 u4 u5 u6) hd
set_option maxHeartbeats 4000000 in
/-- What a file's closure tells. -/
theorem crC_any (mb ub : Nat) (mode umask : Int) (n : Nd) (A A' : Option Addr) (i c i' c' : Nat) (w : World) (hm : w.cell? ⟨mb, 0, none⟩ = some (.int .i64 mode)) (hu : w.cell? ⟨ub, 0, none⟩ = some (.int .i64 umask)) :
    Calls Tryz.prog 69 #[nodeV n (.slice A i c) (.slice A' i' c'), .pointer (some ⟨mb, 0, none⟩), .pointer (some ⟨ub, 0, none⟩)] w fun e w' => e = .returned (nodeV ⟨1, mskM mode umask, 0, 0, [], [], []⟩ (.slice none 0 0) (.slice none 0 0)) ∧ Below w.heap.size w w' := by
  obtain ⟨W1, hW1⟩ : ∃ W1, W1 = (w.alloc (.cells (ndC n (.slice A i c) (.slice A' i' c')) 56)).alloc (.cells ndZ 56) := ⟨_, rfl⟩
  have hb1 : Below w.heap.size w W1 := by rw [hW1]; exact al (ba _ _) _
  have hkr : Blk W1 (w.heap.size + 1) 56 ndZ := by rw [hW1]; have := Blk.new (w.alloc (.cells (ndC n (.slice A i c) (.slice A' i' c')) 56)) 56 ndZ; simpa using this
  obtain ⟨M, hM⟩ : ∃ M, mskM mode umask = M := ⟨_, rfl⟩
  have HB := Lib.hid (below_grown hb1 (grown7 W1 (w.heap.size + 1) (.int .i64 1) (.int .i64 M) (.int .i64 0) (.int .i64 0) (.slice none 0 0) (.slice none 0 0) (.string ⟨#[]⟩)) (Nat.le_succ _))
  have HM := Lib.hid (show Calls Tryz.prog 70 #[.int .i64 mode, .int .i64 umask] W1 fun e w' => e = .returned (.int .i64 M) ∧ W1 = w' from by have h1 := masked_any mode umask W1; rw [hM] at h1; exact h1)
  have p0 := bc hb1 hm
  have p1 := bc hb1 hu
  obtain ⟨f0, f1, f2, f3, f4, f5, f6⟩ := hkr.f7
  obtain ⟨r0, r1, r2, r3, r4, r5, r6⟩ := hkr.c7
  obtain ⟨s0, s1, s2, s3, s4, s5, s6⟩ := hkr.s7
  rw [hM]
  clear hb1 hkr hm hu hM
  have hW2 := hW1.symm
  clear hW1
  unfold nodeV
  unfold ndC at hW2
  go_enter Tryz.func69, Tryz.ntmps69
  go_wp2_with fail
  refine HM.out.mono ?_
  rintro e w2 ⟨rfl, rfl⟩
  go_wp2
  exact bodyPost_ret (v := .agg #[.int .i64 1, .int .i64 M, .int .i64 0, .int .i64 0, .slice none 0 0, .slice none 0 0, .string ⟨#[]⟩]) (by simp [results, Tryz.results69, go_sem, s0, s1, s2, s3, s4, s5, s6]) rfl ⟨rfl, HB.out⟩
/-- A node that is made in a directory, as who asks has it. -/
def ownd (n : Nd) (c : Wh) (d : Nd) : Nd := { n with uid := c.u, gid := if sgB d = true then d.gid else c.g }
theorem two_law {W : World} {z : Nat} {n : Nd} {vd ve : Value} (h : Blk W z 56 (ndC n vd ve)) (U G : Int) : Blk ((W.setCell ⟨z, 2, none⟩ (.int .i64 U)).setCell ⟨z, 3, none⟩ (.int .i64 G)).drew z 56 (ndC { n with uid := U, gid := G } vd ve) :=
  Blk.below (w := (W.setCell ⟨z, 2, none⟩ (.int .i64 U)).setCell ⟨z, 3, none⟩ (.int .i64 G)) ((h.set_ 2 _).set_ 3 _) (Below.refl _ _).drew
theorem two_grown (W : World) (z : Nat) (u v : Value) : W.grownBy ((W.setCell ⟨z, 2, none⟩ u).setCell ⟨z, 3, none⟩ v) (some z) := grown_trans (grown_setCell _ _ _) (grown_setCell _ _ _)
theorem cell_oth {w : World} {a b : Addr} {u v : Value} (h : w.cell? b = some u) (hne : a ≠ b) : (w.setCell a v).cell? b = some u := by
  first
    | (rw [World.cell?_setCell_other _ _ _ _ (fun e => hne e)]; exact h)
    | (rw [World.cell?_setCell_other _ _ _ _ (fun e => hne e.symm)]; exact h)
theorem oth_ne {b c i j : Nat} (h : b ≠ c ∨ i ≠ j) : (⟨b, i, none⟩ : Addr) ≠ ⟨c, j, none⟩ := fun e => by
  injection e with e1 e2
  rcases h with h | h
  · exact h e1
  · exact h e2
end Go.Proofs.YtfopnfgfoicidaaGreat
