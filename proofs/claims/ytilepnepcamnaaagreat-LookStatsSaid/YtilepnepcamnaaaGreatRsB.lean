/-
  What the statements' built answers: the tree of what is told, if it is one, and short. The condition: what is told is no longer than a machine can hold.
-/
import Derived.Test.YtilepnepcamnaaaGreatRsR
import Derived.Test.YtilepnepcamnaaaGreatBldB
namespace Go.Proofs.YtilepnepcamnaaaGreat
open Go Go.RowKit
set_option maxRecDepth 100000

attribute [local go_sem] cell_off4 cell_blk4
/-- The tree of what is told, if it is short, and few groups are. -/
def isB (m : Int) (l : List Rw) (c : Wh) (T : List Nd) : Prop := (fewR l ∧ c.gs.length ≤ 10) ∧ bldA m l = .good T
def BltAns (m : Int) (l : List Rw) (c : Wh) (e : Ending) (w' : World) : Prop :=
  (e = .returned (.tuple #[.pointer none, .bool false]) ∧ ∀ T, ¬ isB m l c T) ∨ ∃ g T, e = .returned (.tuple #[.pointer (some ⟨g, 0, none⟩), .bool true]) ∧ isB m l c T ∧ TabR w' g T (fun _ => True)
set_option maxHeartbeats 8000000 in
theorem built_any (m : Int) (v : Value) (l : List Rw) (c : Wh) (A0 : Option Addr) (n0 k0 : Nat) (w : World) (h : RawsR w v l) (hl : l.length ≤ maxLen) (hi : IntsR w (.slice A0 n0 k0) c.gs) :
    Calls Tryz.prog 9 #[.int .i64 m, v, .agg #[.int .i64 c.u, .int .i64 c.g, .slice A0 n0 k0]] w fun e w' => BltAns m l c e w' ∧ Below w.heap.size w w' := by
  have hl' : l.length ≤ 9223372036854775807 := by unfold maxLen at hl; omega
  have hn0 : c.gs.length = n0 := ints_len hi
  obtain ⟨F, hF⟩ : ∃ F, BltAns m l c = F := ⟨_, rfl⟩
  have HNO := Lib.hid (show (∀ T, ¬ isB m l c T) → ∀ w', F (.returned (.tuple #[.pointer none, .bool false])) w' from fun h w' => by rw [← hF]; exact .inl ⟨rfl, h⟩)
  have HYES := Lib.hid (show ∀ g T w', isB m l c T → TabR w' g T (fun _ => True) → F (.returned (.tuple #[.pointer (some ⟨g, 0, none⟩), .bool true])) w' from fun g T w' h1 h2 => by rw [← hF]; exact .inr ⟨g, T, rfl, h1, h2⟩)
  rw [hF]
  have hb1 := ba w (.cells #[.int .i64 c.u, .int .i64 c.g, .slice A0 n0 k0] 25)
  have hk1 := Blk.new w 25 #[.int .i64 c.u, .int .i64 c.g, .slice A0 n0 k0]
  obtain ⟨A, cc, rfl⟩ := raws_form h
  have HA := Lib.hid (h.below hb1)
  obtain ⟨W1, hW1⟩ : ∃ W1, w.alloc (.cells #[.int .i64 c.u, .int .i64 c.g, .slice A0 n0 k0] 25) = W1 := ⟨_, rfl⟩
  rw [hW1] at hb1 hk1 HA
  have HB1 := Lib.hid hb1
  have p2 := hk1.cell 2
  simp at p2
  clear h hl hi hb1 hk1 hF
  by_cases h50 : l.length ≤ 50
  · have y50 : ¬ (l.length : Int) > 50 := by omega
    by_cases h10 : n0 ≤ 10
    · have y10 : ¬ (n0 : Int) > 10 := by omega
      have HGS := Lib.hid (show c.gs.length ≤ 10 by omega)
      have HL50 := Lib.hid h50
      have HM := Lib.hid (fun (hf : fewR l) => build_any m (.slice A l.length cc) l W1 HA.out hf)
      clear hn0 h10 h50
      go_enter Tryz.func9, Tryz.ntmps9
      go_wp2
      go_loopg [8] l.length (fun gh s8 wr => ∃ k : Nat, s8 = .int .i64 k ∧ k ≤ l.length ∧ gh = l.length - k ∧ (∀ r ∈ l.take k, shortR r) ∧ W1 = wr)
      case atStart => exact ⟨0, rfl, Nat.zero_le _, rfl, fun e h => by simp at h, rfl⟩
      case round =>
        obtain ⟨k, rfl, hk, rfl, hgo, rfl⟩ := hrel
        have HG := Lib.hid hgo
        clear hgo
        by_cases hlt : k < l.length
        · have hlt' : (k : Int) < (l.length : Int) := by omega
          obtain ⟨r, hr⟩ : ∃ r, l[k]? = some r := ⟨_, List.getElem?_eq_getElem hlt⟩
          obtain ⟨ad, vd, hA, c0, ⟨c1, c2, c3, c4, c5, c6, c7, c8⟩, hd⟩ := raws_get HA.out hr
          subst hA
          have HK := Lib.hid hr
          obtain ⟨A1, k1, rfl⟩ := bytes_form hd rfl
          have HTK := Lib.hid (take_snoc' hr)
          have hs1 := size_bA r.name
          have hs2 := size_bA r.target
          clear hr hd
          by_cases q1 : r.name.length ≤ 40
          · have y1 : ¬ ((bA r.name).size : Int) > 40 := by rw [hs1]; omega
            by_cases q2 : r.data.length ≤ 100
            · have y2 : ¬ (r.data.length : Int) > 100 := by omega
              by_cases q3 : r.target.length ≤ 100
              · have y3 : ¬ ((bA r.target).size : Int) > 100 := by rw [hs2]; omega
                have HQ := Lib.hid (show shortR r from ⟨q1, q2, q3⟩)
                clear q1 q2 q3 hs1 hs2
                go_wp2
                go_roundg (l.length - (k + 1))
                case measure => omega
                case rel => exact ⟨k + 1, by go_num, by omega, rfl, (fun b hb => by
                  rw [HTK.out] at hb
                  rcases List.mem_append.1 hb with hb | hb
                  · exact HG.out b hb
                  · rw [List.mem_singleton] at hb
                    rw [hb]
                    exact HQ.out), rfl⟩
              · have y3 : ((bA r.target).size : Int) > 100 := by rw [hs2]; omega
                have HX := Lib.hid (show ∀ T, ¬ isB m l c T from fun T h => q3 (h.1.1.1 r (List.mem_of_getElem? HK.out)).2.2)
                clear q1 q2 q3 hs1 hs2
                go_wp2
                go_ret2
                exact ⟨HNO.out HX.out _, HB1.out⟩
            · have y2 : (r.data.length : Int) > 100 := by omega
              have HX := Lib.hid (show ∀ T, ¬ isB m l c T from fun T h => q2 (h.1.1.1 r (List.mem_of_getElem? HK.out)).2.1)
              clear q1 q2 hs1 hs2
              go_wp2
              go_ret2
              exact ⟨HNO.out HX.out _, HB1.out⟩
          · have y1 : ((bA r.name).size : Int) > 40 := by rw [hs1]; omega
            have HX := Lib.hid (show ∀ T, ¬ isB m l c T from fun T h => q1 (h.1.1.1 r (List.mem_of_getElem? HK.out)).1)
            clear q1 hs1 hs2
            go_wp2
            go_ret2
            exact ⟨HNO.out HX.out _, HB1.out⟩
        · have hlt' : ¬ (k : Int) < (l.length : Int) := by omega
          have HF := Lib.hid (show fewR l from ⟨by have := HG.out; rw [List.take_of_length_le (by omega)] at this; exact this, HL50.out⟩)
          have HM2 := Lib.hid (HM.out HF.out)
          cases hX : bldA m l with
          | bad k2 e2 =>
            rw [hX] at HM2
            have HX := Lib.hid (show ∀ T, ¬ isB m l c T from fun T h => by have h2 := h.2; rw [hX] at h2; cases h2)
            clear hX HM
            go_wp2_with fail
            refine HM2.out.mono ?_
            rintro e w3 ⟨⟨rfl, hne⟩, hb3⟩
            have HB3 := Lib.hid (bt hb3 HB1.out)
            have q0 : (e2 == 0) = false := by simpa using hne
            clear hne hb3
            go_wp2
            go_ret2
            exact ⟨HNO.out HX.out _, HB3.out⟩
          | good T =>
            rw [hX] at HM2
            have HX := Lib.hid (show isB m l c T from ⟨⟨HF.out, HGS.out⟩, hX⟩)
            clear hX HM
            go_wp2_with fail
            refine HM2.out.mono ?_
            rintro e w3 ⟨⟨g, rfl, ht, -⟩, hb3⟩
            have HT := Lib.hid ht
            have HB3 := Lib.hid (bt hb3 HB1.out)
            clear ht hb3
            go_wp2
            go_ret2
            exact ⟨HYES.out g T _ HX.out HT.out, HB3.out⟩
    · have y10 : (n0 : Int) > 10 := by omega
      have HX := Lib.hid (show ∀ T, ¬ isB m l c T from fun T h => h10 (by have := h.1.2; omega))
      clear hn0 h10 h50
      go_enter Tryz.func9, Tryz.ntmps9
      go_wp2
      go_ret2
      exact ⟨HNO.out HX.out _, HB1.out⟩
  · have y50 : (l.length : Int) > 50 := by omega
    have HX := Lib.hid (show ∀ T, ¬ isB m l c T from fun T h => h50 h.1.1.2)
    clear hn0 h50
    go_enter Tryz.func9, Tryz.ntmps9
    go_wp2
    go_ret2
    exact ⟨HNO.out HX.out _, HB1.out⟩
end Go.Proofs.YtilepnepcamnaaaGreat
