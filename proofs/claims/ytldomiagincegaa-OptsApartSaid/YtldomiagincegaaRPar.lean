/-
  What gaolerref06.Parse answers of any words, by any letters. The conditions: the words together, and the letters that may be, have a million bytes at most, and there are so many words at most.
-/
import Derived.Test.YtldomiagincegaaLet
import Derived.Deep.RegionWith
import Derived.Test.YtldomiagincegaaParse
namespace Go.Proofs.Ytldomiagincegaa
open Go Go.RowKit

/-- What the reference's Parse hands back. -/
def RQ (w : World) (o : Option (List Fl × List ByteArray)) (e : Ending) (w' : World) : Prop :=
  ∃ vF vR, e = .returned (.agg #[vF, vR, .bool o.isSome]) ∧ FlagsR w' vF (oF o) ∧ StrsR w' vR (oR o) ∧ Below w.heap.size w w'
section
variable {W W' : World} {g : Nat} {t : TypeId} {a b c : Value}
theorem Blk.three (h : Blk W g t #[a, b, c]) : (W.cell? ⟨g, 0, none⟩ = some a ∧ W.cell? ⟨g, 1, none⟩ = some b ∧ W.cell? ⟨g, 2, none⟩ = some c) ∧ (W.frozen? ⟨g, 0, none⟩ = false ∧ W.frozen? ⟨g, 1, none⟩ = false ∧ W.frozen? ⟨g, 2, none⟩ = false) ∧ g < W.heap.size :=
  ⟨⟨by simpa using h.cell 0, by simpa using h.cell 1, by simpa using h.cell 2⟩, ⟨h.frozen 0, h.frozen 1, h.frozen 2⟩, h.lt⟩
theorem Blk.sets (h : Blk W g t #[a, b, c]) : (∀ u, (W.setCell ⟨g, 0, none⟩ u).cell? ⟨g, 0, none⟩ = some u) ∧ (∀ u v, ((W.setCell ⟨g, 0, none⟩ u).setCell ⟨g, 1, none⟩ v).cell? ⟨g, 1, none⟩ = some v) ∧
    ∀ u v x, (((W.setCell ⟨g, 0, none⟩ u).setCell ⟨g, 1, none⟩ v).setCell ⟨g, 2, none⟩ x).cell? ⟨g, 2, none⟩ = some x :=
  ⟨fun u => by simpa using (h.set_ 0 u).cell 0, fun u v => by simpa using ((h.set_ 0 u).set_ 1 v).cell 1, fun u v x => by simpa using (((h.set_ 0 u).set_ 1 v).set_ 2 x).cell 2⟩
theorem Blk.all3 (h : Blk W g t #[a, b, c]) (u v x : Value) : Blk (((W.setCell ⟨g, 0, none⟩ u).setCell ⟨g, 1, none⟩ v).setCell ⟨g, 2, none⟩ x) g t #[u, v, x] := ((h.set_ 0 u).set_ 1 v).set_ 2 x
theorem grown3 (W : World) (g : Nat) (u v x : Value) : W.grownBy (((W.setCell ⟨g, 0, none⟩ u).setCell ⟨g, 1, none⟩ v).setCell ⟨g, 2, none⟩ x) (some g) :=
  grown_trans (grown_trans (grown_setCell W ⟨g, 0, none⟩ u) (grown_setCell _ ⟨g, 1, none⟩ v)) (grown_setCell _ ⟨g, 2, none⟩ x)
theorem below3 {B : Nat} {w : World} (h : Below B w W) (hg : B ≤ g) (u v x : Value) : Below B w (((W.setCell ⟨g, 0, none⟩ u).setCell ⟨g, 1, none⟩ v).setCell ⟨g, 2, none⟩ x) := ((h.setCell hg _).setCell hg _).setCell hg _
end
/-- The options so far. -/
structure RS (w w1 wr : World) (vF : Value) (fl : List Fl) : Prop where
  zero : Below w.heap.size w w1
  size : w1.heap.size = w.heap.size + 1
  res1 : Blk w1 w.heap.size 33 #[.slice none 0 0, .slice none 0 0, .bool false]
  below : Below w1.heap.size w1 wr
  box : Blk wr (w.heap.size + 1) 33 #[vF, .slice none 0 0, .bool true]
  own : wr.ownsRow w1.heap.size 39 2 vF fl.length (fCells fl)
section
variable {w w1 wr : World} {vF : Value} {fl : List Fl}
theorem RS.res (h : RS w w1 wr vF fl) : Blk wr w.heap.size 33 #[.slice none 0 0, .slice none 0 0, .bool false] := (h.below.block _ (by have := h.size; omega)).trans h.res1
theorem RS.drew (h : RS w w1 wr vF fl) : RS w w1 wr.drew vF fl := ⟨h.zero, h.size, h.res1, h.below.drew, h.box, h.own⟩
theorem RS.next {w2 : World} {vF2 : Value} {fl2 : List Fl} (h : RS w w1 wr vF fl) (hb : Below w1.heap.size w1 w2) (ho : Oth wr w2) (hown : w2.ownsRow w1.heap.size 39 2 vF2 fl2.length (fCells fl2)) :
    RS w w1 (((w2.setCell ⟨w.heap.size + 1, 0, none⟩ vF2).setCell ⟨w.heap.size + 1, 1, none⟩ (.slice none 0 0)).setCell ⟨w.heap.size + 1, 2, none⟩ (.bool true)) vF2 fl2 :=
  ⟨h.zero, h.size, h.res1, below3 hb (by have := h.size; omega) _ _ _, (ho.blk h.box (by decide)).all3 _ _ _, hown.kept (grown3 _ _ _ _ _) (.inr (own_blk_ne hown (ho.blk h.box (by decide)) (by decide)))⟩
theorem RS.bad {w2 : World} (h : RS w w1 wr vF fl) (hb : Below w1.heap.size w1 w2) (u v x u' v' x' : Value) :
    RQ w none (.returned (.agg #[.slice none 0 0, .slice none 0 0, .bool false])) ((((((w2.setCell ⟨w.heap.size + 1, 0, none⟩ u).setCell ⟨w.heap.size + 1, 1, none⟩ v).setCell ⟨w.heap.size + 1, 2, none⟩ x).setCell ⟨w.heap.size, 0, none⟩ u').setCell ⟨w.heap.size, 1, none⟩ v').setCell ⟨w.heap.size, 2, none⟩ x') :=
  ⟨_, _, rfl, FlagsR.nil _, StrsR.nil _, below3 (below3 (h.zero.trans (hb.mono (by have := h.size; omega))) (by simp) _ _ _) (Nat.le_refl _) _ _ _⟩
theorem RS.good (h : RS w w1 wr vF fl) {vL : Value} {l : List ByteArray} (hL : StrsR w1 vL l) (u v x y : Value) :
    RQ w (some (fl, l)) (.returned (.agg #[vF, vL, .bool true])) ((((wr.setCell ⟨w.heap.size + 1, 1, none⟩ y).setCell ⟨w.heap.size, 0, none⟩ u).setCell ⟨w.heap.size, 1, none⟩ v).setCell ⟨w.heap.size, 2, none⟩ x) := by
  have hz := h.size
  have hB1 : Below w.heap.size w wr := h.zero.trans (h.below.mono (by omega))
  have hown := (h.own.kept (grown_setCell wr ⟨w.heap.size + 1, 1, none⟩ y) (.inr (own_blk_ne h.own h.box (by decide)))).kept (grown3 _ w.heap.size u v x) (.inr (own_blk_ne h.own h.res (by decide)))
  refine ⟨vF, vL, rfl, FlagsR.of_own hown, ?_, below3 (hB1.setCell (by simp) _) (Nat.le_refl _) _ _ _⟩
  obtain ⟨A, c, rfl, hle, hc⟩ := hL
  refine ⟨A, c, rfl, hle, fun k s hk => ?_⟩
  obtain ⟨ad, hA, h0⟩ := hc k s hk
  refine ⟨ad, hA, ?_⟩
  have hlt := World.block_lt_of_cell? _ _ h0
  by_cases hr : (ad.add k).block = w.heap.size
  · exfalso
    have hbk := h.res1
    unfold Blk at hbk
    simp only [World.cell?, hr, hbk] at h0
    revert h0
    generalize (ad.add k).off = o
    match o with
    | 0 => simp
    | 1 => simp
    | 2 => simp
    | n + 3 => simp
  · have e1 : ∀ (X : World) (p : Addr) (q : Value), p.block ≠ (ad.add k).block → (X.setCell p q).cell? (ad.add k) = X.cell? (ad.add k) := fun X p q hp => World.cell?_of_block (Below.heap_setCell X p q _ (Ne.symm hp))
    rw [e1 _ _ _ (fun e => hr e.symm), e1 _ _ _ (fun e => hr e.symm), e1 _ _ _ (fun e => hr e.symm), e1 _ _ _ (by simp; omega)]
    exact bc h.below h0
end
theorem cell_off4 (W : World) (b i j : Nat) (v : Value) (h : i ≠ j) : (W.setCell ⟨b, i, none⟩ v).cell? ⟨b, j, none⟩ = W.cell? ⟨b, j, none⟩ :=
  World.cell?_setCell_other _ _ _ _ (fun e => h (by injection e))
theorem cell_blk4 (W : World) (b b' i j : Nat) (v : Value) (h : b ≠ b') : (W.setCell ⟨b, i, none⟩ v).cell? ⟨b', j, none⟩ = W.cell? ⟨b', j, none⟩ :=
  World.cell?_setCell_other _ _ _ _ (fun e => h (by injection e))
attribute [local go_sem] cell_off4 cell_blk4
set_option maxRecDepth 100000 in
set_option maxHeartbeats 8000000 in
theorem rparse_any (may : ByteArray) (vA : Value) (ws : List ByteArray) (w : World) (hm : may.size ≤ 1000000) (hA : StrsR w vA ws) (hl : ws.length ≤ 1000000) (ht : tot ws ≤ 1000000) :
    Calls Try.prog 11 #[.string may, vA] w (RQ w (prs may ws)) := by
  obtain ⟨O, hO⟩ : ∃ O, prs may ws = O := ⟨_, rfl⟩
  rw [hO]
  have HO := Lib.hid hO
  have HA := Lib.hid hA
  clear hO
  obtain ⟨A, c, rfl, -, -⟩ := hA
  obtain ⟨w1, hw1⟩ : ∃ w1, w1 = w.alloc (.cells #[.slice none 0 0, .slice none 0 0, .bool false] 33) := ⟨_, rfl⟩
  have hb0 : Below w.heap.size w w1 := by rw [hw1]; exact (Below.refl w.heap.size w).alloc (Nat.le_refl _) _
  have hz1 : w1.heap.size = w.heap.size + 1 := by rw [hw1]; simp
  have HRS := Lib.hid (show RS w w1 (w1.alloc (.cells #[.slice none 0 0, .slice none 0 0, .bool true] 33)) (.slice none 0 0) [] from
    ⟨hb0, hz1, by rw [hw1]; exact Blk.new _ _ _, (Below.refl _ _).alloc (Nat.le_refl _) _, by rw [← hz1]; exact Blk.new _ _ _, World.ownsRow_nil _ _ _ _⟩)
  have HW := Lib.hid (HA.out.below hb0)
  have HW1 := Lib.hid hw1
  clear hb0 hw1 hz1
  go_enter Try.func11, Try.ntmps11
  go_wp2
  go_loopg [6] ws.length (fun gh s6 wr => ∃ (l : List ByteArray) (done : List Fl) (vF : Value), gh = l.length ∧ l.length ≤ 1000000 ∧ done.length + tot l ≤ 1000000 ∧ RS w w1 wr vF done ∧ StrsR w1 s6 l ∧ O = (prs may l).map fun p => (done ++ p.1, p.2))
  case atStart => exact ⟨ws, [], _, rfl, hl, by simpa using ht, by rw [← HW1.out]; exact HRS.out, HW.out, by rw [HO.out]; simp⟩
  case round =>
    clear HRS HO HA HW HW1 hl ht
    obtain ⟨l, done, vF, rfl, hl, ht, hS, hL, hE⟩ := hrel
    have HRS := Lib.hid hS
    have HE := Lib.hid hE
    obtain ⟨⟨b0, b1, b2⟩, ⟨f0, f1, f2⟩, hzb⟩ := hS.box.three
    obtain ⟨⟨r0, r1, r2⟩, ⟨q0, q1, q2⟩, hzr⟩ := hS.res.three
    have s0 : ∀ y u, ((wr.setCell ⟨w.heap.size + 1, 1, none⟩ y).setCell ⟨w.heap.size, 0, none⟩ u).cell? ⟨w.heap.size, 0, none⟩ = some u := fun y => (hS.res.kept (grown_setCell wr ⟨w.heap.size + 1, 1, none⟩ y) (by simp)).sets.1
    have s1 : ∀ y u v, (((wr.setCell ⟨w.heap.size + 1, 1, none⟩ y).setCell ⟨w.heap.size, 0, none⟩ u).setCell ⟨w.heap.size, 1, none⟩ v).cell? ⟨w.heap.size, 1, none⟩ = some v := fun y => (hS.res.kept (grown_setCell wr ⟨w.heap.size + 1, 1, none⟩ y) (by simp)).sets.2.1
    have s2 : ∀ y u v x, ((((wr.setCell ⟨w.heap.size + 1, 1, none⟩ y).setCell ⟨w.heap.size, 0, none⟩ u).setCell ⟨w.heap.size, 1, none⟩ v).setCell ⟨w.heap.size, 2, none⟩ x).cell? ⟨w.heap.size, 2, none⟩ = some x := fun y => (hS.res.kept (grown_setCell wr ⟨w.heap.size + 1, 1, none⟩ y) (by simp)).sets.2.2
    have t1 : ∀ y, (wr.setCell ⟨w.heap.size + 1, 1, none⟩ y).cell? ⟨w.heap.size + 1, 1, none⟩ = some y := fun y => by simpa using (hS.box.set_ 1 y).cell 1
    clear hS hE
    cases l with
    | nil =>
      have HX := Lib.hid (show O = some (done, []) by rw [HE.out, prs_nil]; simp)
      have HL := Lib.hid hL
      obtain ⟨AL, cL, rfl, -, -⟩ := hL
      obtain ⟨A1, c1, hv1⟩ := own_slice HRS.out.own
      subst hv1
      go_wp2
      rw [HX.out]
      exact bodyPost_ret (v := .agg #[.slice A1 done.length c1, .slice AL 0 cL, .bool true]) (by simp [results, Try.results11, go_sem, s0, s1, s2]) rfl (HRS.out.good HL.out _ _ _ _)
    | cons x r =>
      obtain ⟨ad, cW, c', A', rfl, h0, hT, hrun⟩ := tail_run hL
      have k0 := bc HRS.out.below h0
      have hadl : ad.block < wr.heap.size := World.block_lt_of_cell? _ _ k0
      have HL := Lib.hid hL
      have HT := Lib.hid hT
      simp only [List.length_cons, tot_cons] at hl ht
      clear hL hT h0
      by_cases hx : 1 < x.size
      · obtain ⟨b, hb⟩ : ∃ b, x[0] = b := ⟨_, rfl⟩
        by_cases hq : b = 45
        · have ho : isOpt x = true := by rw [isOpt, head_at x (by omega), hb, hq]; simp [hx]
          have hq1 : ((b.toNat : Int) == 45) = true := by rw [hq]; rfl
          clear hq
          by_cases hd : x.data.toList = [45, 45]
          · have HX := Lib.hid (show O = some (done, r) by rw [HE.out, prs_end may ho hd]; simp)
            have hd2 : x.toList = [45, 45] := (dd_iff x).2 hd
            have hd3 : (x.toList == [45, 45]) = true := by rw [hd2]; rfl
            clear ho hd
            obtain ⟨A1, c1, hv1⟩ := own_slice HRS.out.own
            subst hv1
            go_wp2
            rw [HX.out]
            exact bodyPost_ret (v := .agg #[.slice A1 done.length c1, .slice A' r.length c', .bool true]) (by simp [results, Try.results11, go_sem, s0, s1, s2]) rfl (HRS.out.good HT.out _ _ _ _)
          · have hd2 : ¬ x.toList = [45, 45] := fun e => hd ((dd_iff x).1 e)
            have hd3 : (x.toList == [45, 45]) = false := by simpa using hd2
            have hzx : (x.extract 1 x.size).size = x.size - 1 := by rw [ByteArray.size_extract]; omega
            have HLT := Lib.hid (fun W (hW : RS w w1 W vF done) => letters_any (may := may) hW.below hW.own HT.out (x.extract 1 x.size) (by omega) (by omega) hm)
            have HX := Lib.hid (show match lets may (x.extract 1 x.size) r (x.extract 1 x.size).size with | none => O = none | some p => O = (prs may p.2).map fun q => ((done ++ p.1) ++ q.1, q.2) by
              cases hle : lets may (x.extract 1 x.size) r (x.extract 1 x.size).size with
              | none => simp only; rw [HE.out, prs_bad ho hd hle]; rfl
              | some p =>
                simp only
                rw [HE.out, prs_go (f := p.1) (l := p.2) ho hd hle, Option.map_map]
                congr 1
                funext q
                simp)
            clear ho hd
            have hx1 : (1 : Int) ≤ (x.size : Int) := by omega
            have hsl : ∀ wx : World, (Instr.slice 9 (.string x) (some (.int .i64 1)) none none).run Try.prog wx = .ok (.string (x.extract 1 x.size)) wx := fun wx => run_slice_string_l wx 9 x Try.underlying9 .i64 1 (by decide) hx1
            obtain ⟨A1, c1, hv1⟩ := own_slice HRS.out.own
            subst hv1
            have HRD := Lib.hid HRS.out.drew
            generalize hLL : lets may (x.extract 1 x.size) r (x.extract 1 x.size).size = L at HX HLT
            cases L with
            | none =>
              have HL2 := Lib.hid (show ∀ W, RS w w1 W (.slice A1 done.length c1) done → Calls Try.prog 22 #[.string may, .agg #[.slice A1 done.length c1, .slice none 0 0, .bool true], .string (x.extract 1 x.size), .slice A' r.length c'] W (LP w1 W none) from HLT.out)
              clear HLT hLL s0 s1 s2 t1
              go_wp2_with fail
              go_region_with (go_at_call 22; refine (HL2.out _ HRD.out).mono ?_; rintro e w5 ⟨hb5, ho5, rfl⟩; obtain ⟨⟨b0', b1', b2'⟩, ⟨f0', f1', f2'⟩, _⟩ := (ho5.blk HRD.out.box (by decide)).three; have HB5 := Lib.hid hb5; have HO5 := Lib.hid ho5; clear hb5 ho5)
              all_goals (
                have hk5 := HO5.out.blk HRD.out.box (by decide)
                have hr5 : Blk w5 w.heap.size 33 #[.slice none 0 0, .slice none 0 0, .bool false] := (HB5.out.block _ (by have := HRD.out.size; omega)).trans HRD.out.res1
                obtain ⟨d0, d1, d2⟩ := hk5.sets
                have hr6 := fun u v x => hr5.kept (grown3 w5 (w.heap.size + 1) u v x) (by simp)
                have r0 := fun u v x => (hr6 u v x).three.1.1
                have r1 := fun u v x => (hr6 u v x).three.1.2.1
                have r2 := fun u v x => (hr6 u v x).three.1.2.2
                have q0 := fun u v x => (hr6 u v x).three.2.1.1
                have q1 := fun u v x => (hr6 u v x).three.2.1.2.1
                have q2 := fun u v x => (hr6 u v x).three.2.1.2.2
                have s0 := fun u v x => (hr6 u v x).sets.1
                have s1 := fun u v x => (hr6 u v x).sets.2.1
                have s2 := fun u v x => (hr6 u v x).sets.2.2
                clear hk5 hr5 hr6
                go_wp2
                rw [show O = none from HX.out]
                exact bodyPost_ret (v := .agg #[.slice none 0 0, .slice none 0 0, .bool false]) (by simp [results, Try.results11, go_sem, s0, s1, s2]) rfl (HRD.out.bad HB5.out _ _ _ _ _ _))
            | some p =>
              have HL2 := Lib.hid (show ∀ W, RS w w1 W (.slice A1 done.length c1) done → Calls Try.prog 22 #[.string may, .agg #[.slice A1 done.length c1, .slice none 0 0, .bool true], .string (x.extract 1 x.size), .slice A' r.length c'] W (LP w1 W (some (done ++ p.1, p.2))) from HLT.out)
              have HBD := Lib.hid (lets_bd (f := p.1) (l := p.2) hLL)
              clear HLT hLL s0 s1 s2 t1
              go_wp2_with fail
              go_region_with (go_at_call 22; refine (HL2.out _ HRD.out).mono ?_; rintro e w5 ⟨hb5, ho5, vF5, vL5, rfl, hown5, hS5⟩; obtain ⟨⟨b0', b1', b2'⟩, ⟨f0', f1', f2'⟩, _⟩ := (ho5.blk HRD.out.box (by decide)).three; have HNX := Lib.hid (HRD.out.next hb5 ho5 hown5); have HO5 := Lib.hid ho5; have HS5 := Lib.hid hS5; obtain ⟨A5, c5, hv5⟩ := own_slice hown5; subst hv5; obtain ⟨A6, c6, hv6, -, -⟩ := hS5; subst hv6; clear hb5 ho5 hown5)
              all_goals (
                have hk5 := HO5.out.blk HRD.out.box (by decide)
                obtain ⟨d0, d1, d2⟩ := hk5.sets
                clear hk5
                go_wp2
                go_roundg p.2.length
                case measure => have := HBD.out; simp only [List.length_cons]; omega
                case rel =>
                  have := HBD.out
                  have hnx := HNX.out
                  simp only [List.length_append] at hnx
                  exact ⟨p.2, done ++ p.1, _, rfl, by omega, by rw [List.length_append]; omega, hnx, HS5.out, HX.out⟩)
        · have ho : isOpt x = false := by rw [isOpt, head_at x (by omega), hb]; simp [hq]
          have HX := Lib.hid (show O = some (done, x :: r) by rw [HE.out, prs_oper may ho]; simp)
          have hq1 : ((b.toNat : Int) == 45) = false := co_ne (a := b) (b := 45) hq
          clear hq ho
          obtain ⟨A1, c1, hv1⟩ := own_slice HRS.out.own
          subst hv1
          go_wp2
          rw [HX.out]
          exact bodyPost_ret (v := .agg #[.slice A1 done.length c1, .slice (some ad) (r.length + 1) cW, .bool true]) (by simp [results, Try.results11, go_sem, s0, s1, s2]) rfl (HRS.out.good HL.out _ _ _ _)
      · have HX := Lib.hid (show O = some (done, x :: r) by rw [HE.out, prs_oper may (by rw [isOpt]; simp [hx])]; simp)
        obtain ⟨A1, c1, hv1⟩ := own_slice HRS.out.own
        subst hv1
        go_wp2
        rw [HX.out]
        exact bodyPost_ret (v := .agg #[.slice A1 done.length c1, .slice (some ad) (r.length + 1) cW, .bool true]) (by simp [results, Try.results11, go_sem, s0, s1, s2]) rfl (HRS.out.good HL.out _ _ _ _)
end Go.Proofs.Ytldomiagincegaa
