/-
  Build, of whatever is told. The conditions: what is told is short.
-/
import Derived.Test.YtilepnepcamnaaaGreatBldP
namespace Go.Proofs.YtilepnepcamnaaaGreat
open Go Go.RowKit
set_option maxRecDepth 100000

attribute [local go_sem] cell_off4 cell_blk4
/-- What Build answers. -/
def BldAns (w : World) (X : BR) (e : Ending) (w' : World) : Prop :=
  match X with
  | .bad k err => e = .returned (.tuple #[.pointer none, .int .i64 (k : Int), .int .i64 err]) ∧ err ≠ 0
  | .good T => ∃ g, e = .returned (.tuple #[.pointer (some ⟨g, 0, none⟩), .int .i64 0, .int .i64 0]) ∧ TabR w' g T (fun _ => True) ∧ w.heap.size ≤ g
theorem bad_ans {w w' : World} {X : BR} {k : Nat} {err : Int} (h : X = .bad k err) (hne : err ≠ 0) : BldAns w X (.returned (.tuple #[.pointer none, .int .i64 (k : Int), .int .i64 err])) w' := by
  subst h
  exact ⟨rfl, hne⟩
theorem good_ans {w w' : World} {X : BR} {g : Nat} {T : List Nd} (h : X = .good T) (ht : TabR w' g T (fun _ => True)) (hg : w.heap.size ≤ g) : BldAns w X (.returned (.tuple #[.pointer (some ⟨g, 0, none⟩), .int .i64 0, .int .i64 0])) w' := by
  subst h
  exact ⟨g, rfl, ht, hg⟩
theorem drop_cons' {α : Type} {l : List α} {k : Nat} {x : α} (h : l[k]? = some x) : l.drop k = x :: l.drop (k + 1) := by
  obtain ⟨h1, h2⟩ := List.getElem?_eq_some_iff.1 h
  rw [List.drop_eq_getElem_cons h1, h2]
/-- Where a loop through what is told stands. -/
def BldAt (m : Int) (l : List Rw) (k : Nat) (T : List Nd) : Prop := (k = 0 ∧ T = newN m) ∨ (1 ≤ k ∧ bld T k (l.drop k) = bldA m l)
theorem bldAt_end {m : Int} {l : List Rw} {k : Nat} {T : List Nd} (h : BldAt m l k T) (hl : l ≠ []) (hk : l.length ≤ k) : bldA m l = .good T := by
  rcases h with ⟨rfl, -⟩ | ⟨h1, h2⟩
  · cases l with
    | nil => exact absurd rfl hl
    | cons a l => exact absurd hk (by simp)
  · rw [← h2, List.drop_eq_nil_of_le hk]
    rfl
theorem bldAt_root {m : Int} {l : List Rw} {r : Rw} (hr : l[0]? = some r) : (rtE (newN m) r = 0 → BldAt m l 1 (rtT (newN m) r)) ∧ (rtE (newN m) r ≠ 0 → bldA m l = .bad 0 (rtE (newN m) r)) := by
  cases l with
  | nil => cases hr
  | cons a l =>
    have : a = r := by simpa using hr
    subst this
    constructor
    · intro h
      refine .inr ⟨Nat.le_refl _, ?_⟩
      rw [bldA, if_pos h]
      rfl
    · intro h
      rw [bldA, if_neg h]
theorem bldAt_step {m : Int} {l : List Rw} {k : Nat} {T : List Nd} {r : Rw} (h : BldAt m l k T) (hk : k ≠ 0) (hr : l[k]? = some r) : (blE T r = 0 → BldAt m l (k + 1) (blT T r)) ∧ (blE T r ≠ 0 → bldA m l = .bad k (blE T r)) := by
  rcases h with ⟨h1, -⟩ | ⟨h1, h2⟩
  · exact absurd h1 hk
  · rw [drop_cons' hr, bld] at h2
    constructor
    · intro h
      rw [if_pos h] at h2
      exact .inr ⟨by omega, h2⟩
    · intro h
      rw [if_neg h] at h2
      exact h2.symm
set_option maxHeartbeats 8000000 in
theorem build_any (m : Int) (v : Value) (l : List Rw) (w : World) (h : RawsR w v l) (hf : fewR l) :
    Calls Tryz.prog 27 #[.int .i64 m, v] w fun e w' => BldAns w (bldA m l) e w' ∧ Below w.heap.size w w' := by
  obtain ⟨A, c, rfl⟩ := raws_form h
  have hlen := hf.2
  by_cases hz : l.length = 0
  · have hl0 : l = [] := List.length_eq_zero_iff.1 hz
    subst hl0
    clear h hf hlen hz
    go_enter Tryz.func27, Tryz.ntmps27
    go_wp2
    go_ret3
    exact ⟨⟨rfl, by decide⟩, Below.refl _ _⟩
  · have hzb : ((l.length : Int) == 0) = false := by simpa using hz
    have HNE := Lib.hid (show l ≠ [] from fun q => hz (by rw [q]; rfl))
    have HF := Lib.hid hf.1
    have HA := Lib.hid h
    obtain ⟨X, hX⟩ : ∃ X, bldA m l = X := ⟨_, rfl⟩
    have HST := Lib.hid (fun (k : Nat) (T : List Nd) (r : Rw) (h : BldAt m l k T) (hk : k ≠ 0) (hr : l[k]? = some r) => bldAt_step h hk hr)
    have HEND := Lib.hid (fun (k : Nat) (T : List Nd) (h : BldAt m l k T) (hk : l.length ≤ k) => bldAt_end h HNE.out hk)
    have HRO := Lib.hid (fun (r : Rw) (hr : l[0]? = some r) => bldAt_root (m := m) hr)
    rw [hX] at HST HEND HRO ⊢
    clear h hf hX hz
    go_enter Tryz.func27, Tryz.ntmps27
    go_wp2_with fail
    refine (new_any m w).mono ?_
    rintro e w1 ⟨rfl, ht1, hb1, -⟩
    obtain ⟨g, hg⟩ : ∃ g, w.heap.size = g := ⟨_, rfl⟩
    have HT1 := Lib.hid (show TabR w1 w.heap.size (newN m) (fun _ => True) from ht1 _)
    have HB1 := Lib.hid hb1
    rw [hg] at HT1 ⊢
    have HGS := Lib.hid (Nat.le_of_eq hg)
    have HGE := Lib.hid (Nat.le_of_eq hg.symm)
    clear ht1 hb1 hg
    go_wp2
    go_loopg [19] l.length (fun gh s19 wr => ∃ (k : Nat) (T : List Nd), s19 = .int .i64 k ∧ k ≤ l.length ∧ gh = l.length - k ∧ TabR wr g T (fun _ => True) ∧ Below w.heap.size w wr ∧ BldAt m l k T)
    case atStart => exact ⟨0, newN m, rfl, Nat.zero_le _, rfl, HT1.out, HB1.out, .inl ⟨rfl, rfl⟩⟩
    case round =>
      clear HT1 HB1
      obtain ⟨k, T, rfl, hk, rfl, ht, hbr, hat⟩ := hrel
      have HT := Lib.hid ht
      have HB := Lib.hid hbr
      have HAT := Lib.hid hat
      clear ht hbr hat
      by_cases hlt : k < l.length
      · have hlt' : (k : Int) < (l.length : Int) := by omega
        obtain ⟨r, hr⟩ : ∃ r, l[k]? = some r := ⟨_, List.getElem?_eq_getElem hlt⟩
        obtain ⟨ad, vd, hA, c0, ⟨c1, c2, c3, c4, c5, c6, c7, c8⟩, hd⟩ := raws_get (HA.out.below HB.out) hr
        subst hA
        have HS := Lib.hid (HF.out r (List.mem_of_getElem? hr))
        obtain ⟨A1, k1, rfl⟩ := bytes_form hd rfl
        have hbx := ba wr (.cells (rwC r (.slice A1 r.data.length k1)) 65)
        have hkr := Blk.new wr 65 (rwC r (.slice A1 r.data.length k1))
        have HT2 := Lib.hid (HT.out.below hbx)
        have HD2 := Lib.hid (hd.below hbx)
        have HB2 := Lib.hid (bt hbx HB.out)
        obtain ⟨W2, hW2⟩ : ∃ W2, wr.alloc (.cells (rwC r (.slice A1 r.data.length k1)) 65) = W2 := ⟨_, rfl⟩
        rw [hW2] at hkr HT2 HD2 HB2
        have HK := Lib.hid hr
        obtain ⟨p0, p1, p2, p3, p4, p5, p6, p7, p8⟩ := hkr.c9
        clear hd hbx hkr hr HT HB
        by_cases k0 : k = 0
        · have e0 : ((k : Int) == 0) = true := by simpa using k0
          have HC := Lib.hid (show T = newN m ∧ l[0]? = some r from by
            rcases HAT.out with ⟨h1, h2⟩ | ⟨h1, -⟩
            · exact ⟨h2, by rw [← h1]; exact HK.out⟩
            · omega)
          have HRR := Lib.hid (HRO.out r HC.out.2)
          have HCC := Lib.hid (root_any g T r A1 k1 W2 HT2.out HD2.out HS.out)
          rw [HC.out.1] at HCC
          have HK0 := Lib.hid k0
          clear k0
          generalize rtE (newN m) r = E at HRR HCC
          go_wp2_with fail
          clear hW2
          refine HCC.out.mono ?_
          rintro e w3 ⟨rfl, hg3, ht3⟩
          have HB3 := Lib.hid (below_grown HB2.out hg3 HGS.out)
          have HT3 := Lib.hid ht3
          clear ht3 hg3 c0 c1 c2 c3 c4 c5 c6 c7 c8 p0 p1 p2 p3 p4 p5 p6 p7 p8
          by_cases qE : E = 0
          · have eE : (E != 0) = false := by simpa using qE
            have HQ := Lib.hid (HT3.out qE)
            have HAT2 := Lib.hid (HRR.out.1 qE)
            clear qE
            go_wp2
            go_roundg (l.length - (k + 1))
            case measure => omega
            case rel => exact ⟨k + 1, rtT (newN m) r, by go_num, by omega, rfl, HQ.out, HB3.out, by rw [HK0.out]; exact HAT2.out⟩
          · have eE : (E != 0) = true := by simpa using qE
            have HQ := Lib.hid (HRR.out.2 qE)
            have HNZ := Lib.hid qE
            clear qE
            go_wp2
            go_ret3
            exact ⟨by have h1 := HQ.out; rw [← HK0.out] at h1; exact bad_ans h1 HNZ.out, HB3.out⟩
        · have e0 : ((k : Int) == 0) = false := by simpa using k0
          have HRR := Lib.hid (HST.out k T r HAT.out k0 HK.out)
          have HCC := Lib.hid (below_any g T r A1 k1 W2 HT2.out HD2.out HS.out)
          clear k0
          generalize blE T r = E at HRR HCC
          go_wp2_with fail
          clear hW2
          refine HCC.out.mono ?_
          rintro e w3 ⟨rfl, hg3, ht3⟩
          have HB3 := Lib.hid (below_grown HB2.out hg3 HGS.out)
          have HT3 := Lib.hid ht3
          clear ht3 hg3 c0 c1 c2 c3 c4 c5 c6 c7 c8 p0 p1 p2 p3 p4 p5 p6 p7 p8
          by_cases qE : E = 0
          · have eE : (E != 0) = false := by simpa using qE
            have HQ := Lib.hid (HT3.out qE)
            have HAT2 := Lib.hid (HRR.out.1 qE)
            clear qE
            go_wp2
            go_roundg (l.length - (k + 1))
            case measure => omega
            case rel => exact ⟨k + 1, blT T r, by go_num, by omega, rfl, HQ.out, HB3.out, HAT2.out⟩
          · have eE : (E != 0) = true := by simpa using qE
            have HQ := Lib.hid (HRR.out.2 qE)
            have HNZ := Lib.hid qE
            clear qE
            go_wp2
            go_ret3
            exact ⟨bad_ans HQ.out HNZ.out, HB3.out⟩
      · have hlt' : ¬ (k : Int) < (l.length : Int) := by omega
        have HQ := Lib.hid (HEND.out k T HAT.out (by omega))
        go_wp2
        go_ret3
        exact ⟨good_ans HQ.out HT.out HGS.out, HB.out⟩
end Go.Proofs.YtilepnepcamnaaaGreat
