/-
  The statements' built; the tree of the document's example. The conditions are said at each.
-/
import Derived.Test.YtfopnfgfoicidaaGreatRR
import Derived.Test.YtfopnfgfoicidaaGreatBB
import Derived.Test.YtfopnfgfoicidaaGreatRM
namespace Go.Proofs.YtfopnfgfoicidaaGreat
open Go Go.RowKit
set_option maxRecDepth 100000

attribute [local go_sem] cell_off4 cell_blk4
/-- The tree of what is told, if it is short, and few groups are. -/
def isB (m : Int) (l : List Rw) (c : Wh) (T : List Nd) : Prop := (fewR l ∧ c.gs.length ≤ 10) ∧ bldA m l = .good T
def BltAns (w : World) (m : Int) (l : List Rw) (c : Wh) (e : Ending) (w' : World) : Prop :=
  (e = .returned (.tuple #[.pointer none, .bool false]) ∧ ∀ T, ¬ isB m l c T) ∨ ∃ g T, e = .returned (.tuple #[.pointer (some ⟨g, 0, none⟩), .bool true]) ∧ isB m l c T ∧ TabR w' g T (fun _ => True) ∧ w.heap.size ≤ g
set_option maxHeartbeats 8000000 in
theorem built_any (m : Int) (v : Value) (l : List Rw) (c : Wh) (A0 : Option Addr) (n0 k0 : Nat) (w : World) (h : RawsR w v l) (hl : l.length ≤ maxLen) (hi : IntsR w (.slice A0 n0 k0) c.gs) :
    Calls Tryz.prog 9 #[.int .i64 m, v, .agg #[.int .i64 c.u, .int .i64 c.g, .slice A0 n0 k0]] w fun e w' => BltAns w m l c e w' ∧ Below w.heap.size w w' := by
  have hl' : l.length ≤ 9223372036854775807 := by unfold maxLen at hl; omega
  have hn0 : c.gs.length = n0 := ints_len hi
  obtain ⟨F, hF⟩ : ∃ F, BltAns w m l c = F := ⟨_, rfl⟩
  have HNO := Lib.hid (show (∀ T, ¬ isB m l c T) → ∀ w', F (.returned (.tuple #[.pointer none, .bool false])) w' from fun h w' => by rw [← hF]; exact .inl ⟨rfl, h⟩)
  have HYES := Lib.hid (show ∀ g T w', isB m l c T → TabR w' g T (fun _ => True) → w.heap.size ≤ g → F (.returned (.tuple #[.pointer (some ⟨g, 0, none⟩), .bool true])) w' from fun g T w' h1 h2 h3 => by rw [← hF]; exact .inr ⟨g, T, rfl, h1, h2, h3⟩)
  rw [hF]
  have hb1 := ba w (.cells #[.int .i64 c.u, .int .i64 c.g, .slice A0 n0 k0] 25)
  have hk1 := Blk.new w 25 #[.int .i64 c.u, .int .i64 c.g, .slice A0 n0 k0]
  obtain ⟨A, cc, rfl⟩ := raws_form h
  have HA := Lib.hid (h.below hb1)
  obtain ⟨W1, hW1⟩ : ∃ W1, w.alloc (.cells #[.int .i64 c.u, .int .i64 c.g, .slice A0 n0 k0] 25) = W1 := ⟨_, rfl⟩
  rw [hW1] at hb1 hk1 HA
  have HB1 := Lib.hid hb1
  have p2 := hk1.cell 2
  simp at p2
  clear h hl hi hb1 hk1 hF
  by_cases h50 : l.length ≤ 50
  · have y50 : ¬ (l.length : Int) > 50 := by omega
    by_cases h10 : n0 ≤ 10
    · have y10 : ¬ (n0 : Int) > 10 := by omega
      have HGS := Lib.hid (show c.gs.length ≤ 10 by omega)
      have HL50 := Lib.hid h50
      have HM := Lib.hid (fun (hf : fewR l) => build_any m (.slice A l.length cc) l W1 HA.out hf)
      clear hn0 h10 h50
      go_enter Tryz.func9, Tryz.ntmps9
      go_wp2
      go_loopg [8] l.length (fun gh s8 wr => ∃ k : Nat, s8 = .int .i64 k ∧ k ≤ l.length ∧ gh = l.length - k ∧ (∀ r ∈ l.take k, shortR r) ∧ W1 = wr)
      case atStart => exact ⟨0, rfl, Nat.zero_le _, rfl, fun e h => by simp at h, rfl⟩
      case round =>
        obtain ⟨k, rfl, hk, rfl, hgo, rfl⟩ := hrel
        have HG := Lib.hid hgo
        clear hgo
        by_cases hlt : k < l.length
        · have hlt' : (k : Int) < (l.length : Int) := by omega
          obtain ⟨r, hr⟩ : ∃ r, l[k]? = some r := ⟨_, List.getElem?_eq_getElem hlt⟩
          obtain ⟨ad, vd, hA, c0, ⟨c1, c2, c3, c4, c5, c6, c7, c8⟩, hd⟩ := raws_get HA.out hr
          subst hA
          have HK := Lib.hid hr
          obtain ⟨A1, k1, rfl⟩ := bytes_form hd rfl
          have HTK := Lib.hid (take_snoc' hr)
          have hs1 := size_bA r.name
          have hs2 := size_bA r.target
          clear hr hd
          by_cases q1 : r.name.length ≤ 40
          · have y1 : ¬ ((bA r.name).size : Int) > 40 := by rw [hs1]; omega
            by_cases q2 : r.data.length ≤ 100
            · have y2 : ¬ (r.data.length : Int) > 100 := by omega
              by_cases q3 : r.target.length ≤ 100
              · have y3 : ¬ ((bA r.target).size : Int) > 100 := by rw [hs2]; omega
                have HQ := Lib.hid (show shortR r from ⟨q1, q2, q3⟩)
                clear q1 q2 q3 hs1 hs2
                go_wp2
                go_roundg (l.length - (k + 1))
                case measure => omega
                case rel => exact ⟨k + 1, by go_num, by omega, rfl, (fun b hb => by
                  rw [HTK.out] at hb
                  rcases List.mem_append.1 hb with hb | hb
                  · exact HG.out b hb
                  · rw [List.mem_singleton] at hb
                    rw [hb]
                    exact HQ.out), rfl⟩
              · have y3 : ((bA r.target).size : Int) > 100 := by rw [hs2]; omega
                have HX := Lib.hid (show ∀ T, ¬ isB m l c T from fun T h => q3 (h.1.1.1 r (List.mem_of_getElem? HK.out)).2.2)
                clear q1 q2 q3 hs1 hs2
                go_wp2
                go_ret2
                exact ⟨HNO.out HX.out _, HB1.out⟩
            · have y2 : (r.data.length : Int) > 100 := by omega
              have HX := Lib.hid (show ∀ T, ¬ isB m l c T from fun T h => q2 (h.1.1.1 r (List.mem_of_getElem? HK.out)).2.1)
              clear q1 q2 hs1 hs2
              go_wp2
              go_ret2
              exact ⟨HNO.out HX.out _, HB1.out⟩
          · have y1 : ((bA r.name).size : Int) > 40 := by rw [hs1]; omega
            have HX := Lib.hid (show ∀ T, ¬ isB m l c T from fun T h => q1 (h.1.1.1 r (List.mem_of_getElem? HK.out)).1)
            clear q1 hs1 hs2
            go_wp2
            go_ret2
            exact ⟨HNO.out HX.out _, HB1.out⟩
        · have hlt' : ¬ (k : Int) < (l.length : Int) := by omega
          have HF := Lib.hid (show fewR l from ⟨by have := HG.out; rw [List.take_of_length_le (by omega)] at this; exact this, HL50.out⟩)
          have HM2 := Lib.hid (HM.out HF.out)
          cases hX : bldA m l with
          | bad k2 e2 =>
            rw [hX] at HM2
            have HX := Lib.hid (show ∀ T, ¬ isB m l c T from fun T h => by have h2 := h.2; rw [hX] at h2; cases h2)
            clear hX HM
            go_wp2_with fail
            refine HM2.out.mono ?_
            rintro e w3 ⟨⟨rfl, hne⟩, hb3⟩
            have HB3 := Lib.hid (bt hb3 HB1.out)
            have q0 : (e2 == 0) = false := by simpa using hne
            clear hne hb3
            go_wp2
            go_ret2
            exact ⟨HNO.out HX.out _, HB3.out⟩
          | good T =>
            rw [hX] at HM2
            have HX := Lib.hid (show isB m l c T from ⟨⟨HF.out, HGS.out⟩, hX⟩)
            clear hX HM
            go_wp2_with fail
            refine HM2.out.mono ?_
            rintro e w3 ⟨⟨g, rfl, ht, hg⟩, hb3⟩
            have HT := Lib.hid ht
            have HB3 := Lib.hid (bt hb3 HB1.out)
            have HGG := Lib.hid (Nat.le_trans HB1.out.size hg)
            clear ht hb3 hg
            go_wp2
            go_ret2
            exact ⟨HYES.out g T _ HX.out HT.out HGG.out, HB3.out⟩
    · have y10 : (n0 : Int) > 10 := by omega
      have HX := Lib.hid (show ∀ T, ¬ isB m l c T from fun T h => h10 (by have := h.1.2; omega))
      clear hn0 h10 h50
      go_enter Tryz.func9, Tryz.ntmps9
      go_wp2
      go_ret2
      exact ⟨HNO.out HX.out _, HB1.out⟩
  · have y50 : (l.length : Int) > 50 := by omega
    have HX := Lib.hid (show ∀ T, ¬ isB m l c T from fun T h => h50 h.1.1.2)
    clear hn0 h50
    go_enter Tryz.func9, Tryz.ntmps9
    go_wp2
    go_ret2
    exact ⟨HNO.out HX.out _, HB1.out⟩
end Go.Proofs.YtfopnfgfoicidaaGreat
namespace Go.Proofs.YtfopnfgfoicidaaGreat
open Go Go.RowKit
set_option maxRecDepth 100000

def ex0 : Rw := ⟨2, 493, 0, 0, 0, [], [], [], 0⟩
def ex1 : Rw := ⟨2, 488, 1, 1, 1, [100], [], [], 0⟩
def ex2 : Rw := ⟨1, 420, 1, 1, 2, [102], [104, 105], [], 0⟩
def ex3 : Rw := ⟨3, 511, 0, 0, 1, [115], [], [100, 47, 102], 0⟩
def exT0 : List Nd := [⟨2, 493, 0, 0, [], [], []⟩, Nd.zero, Nd.zero, Nd.zero, Nd.zero, Nd.zero, Nd.zero, Nd.zero, Nd.zero]
def exT1 : List Nd := [⟨2, 493, 0, 0, [], [([100], 2)], []⟩, ⟨2, 488, 1, 1, [], [], []⟩, Nd.zero, Nd.zero, Nd.zero, Nd.zero, Nd.zero, Nd.zero, Nd.zero]
def exT2 : List Nd := [⟨2, 493, 0, 0, [], [([100], 2)], []⟩, ⟨2, 488, 1, 1, [], [([102], 3)], []⟩, ⟨1, 420, 1, 1, [104, 105], [], []⟩, Nd.zero, Nd.zero, Nd.zero, Nd.zero, Nd.zero, Nd.zero]
def exT3 : List Nd := [⟨2, 493, 0, 0, [], [([100], 2), ([115], 4)], []⟩, ⟨2, 488, 1, 1, [], [([102], 3)], []⟩, ⟨1, 420, 1, 1, [104, 105], [], []⟩, ⟨3, 511, 0, 0, [], [], [100, 47, 102]⟩, Nd.zero, Nd.zero, Nd.zero, Nd.zero, Nd.zero]
theorem ex_r0 : rightP ex0.nd := ⟨⟨by decide, by decide, by decide⟩, .inr (.inl ⟨rfl, rfl, rfl, (fun e he => by cases he), List.Pairwise.nil, Nat.zero_le _⟩)⟩
theorem ex_r1 : rightP ex1.nd := ⟨⟨by decide, by decide, by decide⟩, .inr (.inl ⟨rfl, rfl, rfl, (fun e he => by cases he), List.Pairwise.nil, Nat.zero_le _⟩)⟩
theorem ex_r2 : rightP ex2.nd := ⟨⟨by decide, by decide, by decide⟩, .inl ⟨rfl, rfl, rfl, by decide⟩⟩
theorem ex_r3 : rightP ex3.nd := ⟨⟨by decide, by decide, by decide⟩, .inr (.inr ⟨rfl, rfl, rfl, rfl, by decide⟩)⟩
theorem ex_all : bldA 9 [ex0, ex1, ex2, ex3] = .good exT3 := by
  have h0 : rtE (newN 9) ex0 = 0 := rt_zero.2 ⟨rfl, rfl, rfl, ex_r0, by rw [new_free]; decide⟩
  have e0 : rtT (newN 9) ex0 = exT0 := rfl
  rw [bldA, if_pos h0, e0, bld]
  have k1 : enE exT0 ex1 = 0 := en_zero.2 (.inr ⟨by decide, ex_r1, by decide⟩)
  have i1 : enI exT0 ex1 = 2 := by unfold enI; rw [if_pos k1]; rfl
  have w1 : withE (tget exT0 1) [100] 2 = 0 := by decide
  have h1 : blE exT0 ex1 = 0 := bl_zero.2 ⟨rfl, k1, by rw [i1]; exact w1⟩
  have e1 : blT exT0 ex1 = exT1 := by
    unfold blT enT
    rw [if_pos k1, i1]
    rfl
  rw [if_pos h1, e1, bld]
  have k2 : enE exT1 ex2 = 0 := en_zero.2 (.inr ⟨by decide, ex_r2, by decide⟩)
  have i2 : enI exT1 ex2 = 3 := by unfold enI; rw [if_pos k2]; rfl
  have w2 : withE (tget exT1 2) [102] 3 = 0 := by decide
  have h2 : blE exT1 ex2 = 0 := bl_zero.2 ⟨rfl, k2, by rw [i2]; exact w2⟩
  have e2 : blT exT1 ex2 = exT2 := by
    unfold blT enT
    rw [if_pos k2, i2]
    rfl
  rw [if_pos h2, e2, bld]
  have k3 : enE exT2 ex3 = 0 := en_zero.2 (.inr ⟨by decide, ex_r3, by decide⟩)
  have i3 : enI exT2 ex3 = 4 := by unfold enI; rw [if_pos k3]; rfl
  have w3 : withE (tget exT2 1) [115] 4 = 0 := by decide
  have h3 : blE exT2 ex3 = 0 := bl_zero.2 ⟨rfl, k3, by rw [i3]; exact w3⟩
  have e3 : blT exT2 ex3 = exT3 := by
    unfold blT enT
    rw [if_pos k3, i3]
    rfl
  rw [if_pos h3, e3, bld]
def whA : Wh := ⟨1, 1, []⟩
def whB : Wh := ⟨3, 3, []⟩
theorem sr_A1 : srE exT3 whA 1 = 0 := by decide +kernel
theorem sr_A2 : srE exT3 whA 2 = 0 := by decide +kernel
theorem ex_s : resM exT3 whA [115] true = (⟨2, [102], 3⟩, 0) := by
  have h1 : fitE exT3 [115] = 0 := by decide +kernel
  have h2 : splitP [115] = [[115]] := by decide +kernel
  have f1 : fnd (tget exT3 1).ents [115] = 4 := by decide +kernel
  have f2 : fnd (tget exT3 1).ents [100] = 2 := by decide +kernel
  have f3 : fnd (tget exT3 2).ents [102] = 3 := by decide +kernel
  have h3 : splitP (tget exT3 4).target = [[100], [102]] := by decide +kernel
  have h4 : absP (tget exT3 4).target = false := by decide +kernel
  unfold resM
  rw [if_neg (fun q => q h1), h2, wlk_link sr_A1 (by decide) (by decide) (by decide) (fun q => q.2 rfl) (by rw [f1]; exact ⟨rfl, .inl rfl⟩), f1, h3, h4, if_neg (by decide), List.append_nil,
    wlk_on sr_A1 (by decide) (by decide) (by decide) (by rw [f2]; decide) (by rw [f2]; exact fun q => absurd q.1 (by decide +kernel)) (by decide), f2,
    wlk_last sr_A2 (by decide) (by decide) (by decide) (by rw [f3]; exact fun q => absurd q.1 (by decide +kernel)) rfl, f3]
theorem ex_n : resM exT3 whA [115] false = (⟨1, [115], 4⟩, 0) := by
  have h1 : fitE exT3 [115] = 0 := by decide +kernel
  have h2 : splitP [115] = [[115]] := by decide +kernel
  have f1 : fnd (tget exT3 1).ents [115] = 4 := by decide +kernel
  unfold resM
  rw [if_neg (fun q => q h1), h2, wlk_last sr_A1 (by decide) (by decide) (by decide) (fun q => q.2.elim (fun q => by cases q) (fun q => q rfl)) rfl, f1]
theorem ex_x : resM exT3 whA [100, 47, 120] true = (⟨2, [120], 0⟩, 0) := by
  have h1 : fitE exT3 [100, 47, 120] = 0 := by decide +kernel
  have h2 : splitP [100, 47, 120] = [[100], [120]] := by decide +kernel
  have f2 : fnd (tget exT3 1).ents [100] = 2 := by decide +kernel
  have f3 : fnd (tget exT3 2).ents [120] = 0 := by decide +kernel
  unfold resM
  rw [if_neg (fun q => q h1), h2,
    wlk_on sr_A1 (by decide) (by decide) (by decide) (by rw [f2]; decide) (by rw [f2]; exact fun q => absurd q.1 (by decide +kernel)) (by decide), f2,
    wlk_last sr_A2 (by decide) (by decide) (by decide) (by rw [f3]; exact fun q => absurd q.1 (by decide +kernel)) rfl, f3]
theorem ex_e : resM exT3 whB [100, 47, 102] true = (Fo.zero, 13) := by
  have h1 : fitE exT3 [100, 47, 102] = 0 := by decide +kernel
  have h2 : splitP [100, 47, 102] = [[100], [102]] := by decide +kernel
  have f2 : fnd (tget exT3 1).ents [100] = 2 := by decide +kernel
  have s1 : srE exT3 whB 1 = 0 := by decide +kernel
  have s2 : srE exT3 whB 2 = 13 := by decide +kernel
  unfold resM
  rw [if_neg (fun q => q h1), h2,
    wlk_on s1 (by decide) (by decide) (by decide) (by rw [f2]; decide) (by rw [f2]; exact fun q => absurd q.1 (by decide +kernel)) (by decide), f2,
    wlk_sr (by rw [s2]; decide), s2]
theorem ex_c : canT exT3 whA 3 6 = true ∧ canT exT3 whA 3 1 = false := by decide +kernel
end Go.Proofs.YtfopnfgfoicidaaGreat
