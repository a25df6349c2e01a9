/-
  What opts.Parse answers of any words, by any letters. The conditions: the words together, and the letters that may be, have a million bytes at most, and there are so many words at most.
-/
import Derived.Test.YtldomiagincegaaRead
namespace Go.Proofs.Ytldomiagincegaa
open Go Go.RowKit

/-- What Parse hands back. -/
def OP (w : World) (o : Option (List Fl × List ByteArray)) (e : Ending) (w' : World) : Prop :=
  ∃ vF vR, e = .returned (.tuple #[.agg #[vF, vR], .int .i64 (eN o)]) ∧ FlagsR w' vF (oF o) ∧ StrsR w' vR (oR o) ∧ Below w.heap.size w w'
theorem dd_iff (x : ByteArray) : x.toList = [45, 45] ↔ x.data.toList = [45, 45] := by rw [ByteArray.toList_eq]
theorem cell_set_off (W : World) (b i j : Nat) (v : Value) (h : i ≠ j) : (W.setCell ⟨b, i, none⟩ v).cell? ⟨b, j, none⟩ = W.cell? ⟨b, j, none⟩ :=
  World.cell?_setCell_other _ _ _ _ (fun e => h (by injection e))
theorem parse_end {w w1 w3 : World} {vF vR : Value} {fl : List Fl} {l : List ByteArray} (hz : w1.heap.size = w.heap.size + 1) (hb0 : Below w.heap.size w w1) (hb : Below w1.heap.size w1 w3)
    (hF : w3.ownsRow w1.heap.size 38 2 vF fl.length (fCells fl)) (hS : w3.ownsRow w1.heap.size 9 1 vR l.length (sCells l)) (u v : Value) :
    OP w (some (fl, l)) (.returned (.tuple #[.agg #[vF, vR], .int .i64 0])) ((w3.setCell ⟨w.heap.size, 0, none⟩ u).setCell ⟨w.heap.size, 1, none⟩ v) := by
  have G := grown_trans (grown_setCell w3 ⟨w.heap.size, 0, none⟩ u) (grown_setCell _ ⟨w.heap.size, 1, none⟩ v)
  have ne : ∀ {e : TypeId} {size n : Nat} {x : Value} {xs : List Value}, w3.ownsRow w1.heap.size e size x n xs → x.ownBlock = none ∨ x.ownBlock ≠ some w.heap.size := fun h => .inr fun e => by
    have := (h.lt _ e).1
    omega
  refine ⟨vF, vR, rfl, FlagsR.of_own (hF.kept G (ne hF)), StrsR.of_own (hS.kept G (ne hS)), ?_⟩
  exact ((hb0.trans (hb.mono (by omega))).setCell (Nat.le_refl _) _).setCell (Nat.le_refl _) _
theorem parse_bad {w w1 w3 : World} (hb0 : Below w.heap.size w w1) (hz : w1.heap.size = w.heap.size + 1) (hb : Below w1.heap.size w1 w3) (u v : Value) :
    OP w none (.returned (.tuple #[.agg #[.slice none 0 0, .slice none 0 0], .int .i64 22])) ((w3.setCell ⟨w.heap.size, 0, none⟩ u).setCell ⟨w.heap.size, 1, none⟩ v) :=
  ⟨_, _, rfl, FlagsR.nil _, StrsR.nil _, ((hb0.trans (hb.mono (by omega))).setCell (Nat.le_refl _) _).setCell (Nat.le_refl _) _⟩
theorem res_cells {w w1 w3 : World} (hz : w1.heap.size = w.heap.size + 1) (hR : Blk w1 w.heap.size 27 #[.slice none 0 0, .slice none 0 0]) (hb : Below w1.heap.size w1 w3) :
    w3.cell? ⟨w.heap.size, 0, none⟩ = some (.slice none 0 0) ∧ w3.cell? ⟨w.heap.size, 1, none⟩ = some (.slice none 0 0) ∧ w3.frozen? ⟨w.heap.size, 0, none⟩ = false ∧ w3.frozen? ⟨w.heap.size, 1, none⟩ = false ∧ (∀ v, (w3.setCell ⟨w.heap.size, 0, none⟩ v).cell? ⟨w.heap.size, 0, none⟩ = some v) ∧ ∀ u v, ((w3.setCell ⟨w.heap.size, 0, none⟩ u).setCell ⟨w.heap.size, 1, none⟩ v).cell? ⟨w.heap.size, 1, none⟩ = some v := by
  have h : Blk w3 w.heap.size 27 #[.slice none 0 0, .slice none 0 0] := (hb.block _ (by omega)).trans hR
  exact ⟨by simpa using h.cell 0, by simpa using h.cell 1, h.frozen 0, h.frozen 1, fun v => by simpa using (h.set_ 0 v).cell 0, fun u v => by simpa using ((h.set_ 0 u).set_ 1 v).cell 1⟩
attribute [local go_sem] cell_set_off
set_option maxHeartbeats 2000000 in
theorem parse_any (may : ByteArray) (vA : Value) (ws : List ByteArray) (w : World) (hm : may.size ≤ 1000000) (hA : StrsR w vA ws) (hl : ws.length ≤ 1000000) (ht : tot ws ≤ 1000000) :
    Calls Try.prog 10 #[.string may, vA] w (OP w (prs may ws)) := by
  obtain ⟨O, hO⟩ : ∃ O, prs may ws = O := ⟨_, rfl⟩
  rw [hO]
  have HO := Lib.hid hO
  have HA := Lib.hid hA
  clear hO
  obtain ⟨A, c, rfl, -, -⟩ := hA
  obtain ⟨w1, hw1⟩ : ∃ w1, w1 = w.alloc (.cells #[.slice none 0 0, .slice none 0 0] 27) := ⟨_, rfl⟩
  have hb0 : Below w.heap.size w w1 := by rw [hw1]; exact (Below.refl w.heap.size w).alloc (Nat.le_refl _) _
  have hz1 : w1.heap.size = w.heap.size + 1 := by rw [hw1]; simp
  have HR := Lib.hid (show Blk w1 w.heap.size 27 #[.slice none 0 0, .slice none 0 0] by rw [hw1]; exact Blk.new _ _ _)
  have HB0 := Lib.hid hb0
  have HW := Lib.hid (HA.out.below hb0)
  have HW1 := Lib.hid hw1
  have HZ1 := Lib.hid hz1
  clear hb0 hw1 hz1
  go_enter Try.func10, Try.ntmps10
  go_wp2
  go_loopg [] ws.length (fun gh wr => ∃ (l : List ByteArray) (done : List Fl) (vF vW : Value), gh = l.length ∧ l.length ≤ 1000000 ∧ done.length + tot l ≤ 1000000 ∧ PS w1 wr (w.heap.size + 1) vF done may vW l ∧ O = (prs may l).map fun p => (done ++ p.1, p.2))
  case atStart =>
    refine ⟨ws, [], _, _, rfl, hl, by simpa using ht, ⟨?_, by rw [HZ1.out]; omega, ?_, World.ownsRow_nil _ _ _ _, HW.out⟩, ?_⟩
    · rw [← HW1.out]; exact (Below.refl _ _).alloc (Nat.le_refl _) _
    · rw [← HW1.out, ← HZ1.out]; exact Blk.new _ _ _
    · rw [HO.out]; simp
  case round =>
    obtain ⟨l, done, vF, vW, rfl, hl, ht, hP, hE⟩ := hrel
    have HP := Lib.hid hP
    have HE := Lib.hid hE
    clear hP hE
    cases l with
    | nil =>
      have HX := Lib.hid (show O = some (done, []) by rw [HE.out, prs_nil]; simp)
      have hc3 := HP.out.blk.cell 3
      simp at hc3
      go_wp2_with fail
      refine (atOptions_nil HP.out).mono ?_
      rintro e w2 ⟨rfl, rfl⟩
      go_wp2_with fail
      refine (addRest_any HP.out (by omega)).mono ?_
      rintro e w3 ⟨rfl, hb, vR, hbk, hF, hS⟩
      obtain ⟨r0, r1, q0, q1, s0, s1⟩ := res_cells HZ1.out HR.out hb
      have p0 := hbk.cell 0
      have p1 := hbk.cell 1
      simp at p0 p1
      have HB3 := Lib.hid hb
      have HF := Lib.hid hF
      have HS := Lib.hid hS
      obtain ⟨AF, cF, rfl⟩ := own_slice hF
      obtain ⟨AR, cR, rfl⟩ := own_slice hS
      clear hb hbk hF hS
      go_wp2
      rw [HX.out]
      exact bodyPost_ret (v := .tuple #[.agg #[.slice AF _ cF, .slice AR _ cR], .int .i64 0]) (by simp [results, Try.results10, go_sem, s0, s1]) rfl (parse_end HZ1.out HB0.out HB3.out HF.out HS.out _ _)
    | cons x r =>
      simp only [List.length_cons, tot_cons] at hl ht
      cases ho : isOpt x with
      | false =>
        have HX := Lib.hid (show O = some (done, x :: r) by rw [HE.out, prs_oper may ho]; simp)
        have HAT := Lib.hid (atOptions_cons HP.out (by omega))
        rw [ho] at HAT
        have hc3 := HP.out.blk.cell 3
        simp at hc3
        clear ho
        go_wp2_with fail
        refine HAT.out.mono ?_
        rintro e w2 ⟨rfl, rfl⟩
        go_wp2_with fail
        refine (addRest_any HP.out (by simp only [List.length_cons]; omega)).mono ?_
        rintro e w3 ⟨rfl, hb, vR, hbk, hF, hS⟩
        obtain ⟨r0, r1, q0, q1, s0, s1⟩ := res_cells HZ1.out HR.out hb
        have p0 := hbk.cell 0
        have p1 := hbk.cell 1
        simp at p0 p1
        have HB3 := Lib.hid hb
        have HF := Lib.hid hF
        have HS := Lib.hid hS
        obtain ⟨AF, cF, rfl⟩ := own_slice hF
        obtain ⟨AR, cR, rfl⟩ := own_slice hS
        clear hb hbk hF hS
        go_wp2
        rw [HX.out]
        exact bodyPost_ret (v := .tuple #[.agg #[.slice AF _ cF, .slice AR _ cR], .int .i64 0]) (by simp [results, Try.results10, go_sem, s0, s1]) rfl (parse_end HZ1.out HB0.out HB3.out HF.out HS.out _ _)
      | true =>
        have HAT := Lib.hid (atOptions_cons HP.out (by omega))
        rw [ho] at HAT
        have HNX := Lib.hid (next_cons HP.out (by omega))
        have hx1 : 1 < x.size := by
          rw [isOpt] at ho
          simp at ho
          exact ho.1
        by_cases hd : x.data.toList = [45, 45]
        · have HX := Lib.hid (show O = some (done, r) by rw [HE.out, prs_end may ho hd]; simp)
          have hd2 : x.toList = [45, 45] := (dd_iff x).2 hd
          have hd3 : (x.toList == [45, 45]) = true := by rw [hd2]; rfl
          clear ho hd
          go_wp2_with fail
          refine HAT.out.mono ?_
          rintro e w2 ⟨rfl, rfl⟩
          go_wp2_with fail
          refine HNX.out.mono ?_
          rintro e w4 ⟨rfl, vW', hP2⟩
          have HP2 := Lib.hid hP2
          have hc3 := hP2.blk.cell 3
          simp at hc3
          clear hP2
          go_wp2_with fail
          refine (addRest_any HP2.out (by omega)).mono ?_
          rintro e w3 ⟨rfl, hb, vR, hbk, hF, hS⟩
          obtain ⟨r0, r1, q0, q1, s0, s1⟩ := res_cells HZ1.out HR.out hb
          have p0 := hbk.cell 0
          have p1 := hbk.cell 1
          simp at p0 p1
          have HB3 := Lib.hid hb
          have HF := Lib.hid hF
          have HS := Lib.hid hS
          obtain ⟨AF, cF, rfl⟩ := own_slice hF
          obtain ⟨AR, cR, rfl⟩ := own_slice hS
          clear hb hbk hF hS
          go_wp2
          rw [HX.out]
          exact bodyPost_ret (v := .tuple #[.agg #[.slice AF _ cF, .slice AR _ cR], .int .i64 0]) (by simp [results, Try.results10, go_sem, s0, s1]) rfl (parse_end HZ1.out HB0.out HB3.out HF.out HS.out _ _)
        · have hd2 : ¬ x.toList = [45, 45] := fun e => hd ((dd_iff x).1 e)
          have hd3 : (x.toList == [45, 45]) = false := by simpa using hd2
          have hzx : (x.extract 1 x.size).size = x.size - 1 := by rw [ByteArray.size_extract]; omega
          have HRL := Lib.hid (fun w4 vW' (hP2 : PS w1 w4 (w.heap.size + 1) vF done may vW' r) => readLetters_any hP2 (x.extract 1 x.size) (by omega) (by omega) hm)
          have HX := Lib.hid (show match lets may (x.extract 1 x.size) r (x.extract 1 x.size).size with | none => O = none | some p => O = (prs may p.2).map fun q => ((done ++ p.1) ++ q.1, q.2) by
            cases hle : lets may (x.extract 1 x.size) r (x.extract 1 x.size).size with
            | none => simp only; rw [HE.out, prs_bad ho hd hle]; rfl
            | some p =>
              simp only
              rw [HE.out, prs_go (f := p.1) (l := p.2) ho hd hle, Option.map_map]
              congr 1
              funext q
              simp)
          clear ho hd
          go_wp2_with fail
          refine HAT.out.mono ?_
          rintro e w2 ⟨rfl, rfl⟩
          go_wp2_with fail
          refine HNX.out.mono ?_
          rintro e w4 ⟨rfl, vW', hP2⟩
          have HP2 := Lib.hid hP2
          clear hP2
          go_wp2_with fail
          refine (HRL.out _ _ HP2.out).mono ?_
          intro e w5 hR
          generalize hL : lets may (x.extract 1 x.size) r (x.extract 1 x.size).size = L at HX hR
          cases L with
          | none =>
            obtain ⟨rfl, hb⟩ := hR
            obtain ⟨r0, r1, q0, q1, s0, s1⟩ := res_cells HZ1.out HR.out hb
            have HB3 := Lib.hid hb
            clear hb hL
            go_wp2
            rw [show O = none from HX.out]
            exact bodyPost_ret (v := .tuple #[.agg #[.slice none 0 0, .slice none 0 0], .int .i64 22]) (by simp [results, Try.results10, go_sem, s0, s1]) rfl (parse_bad HB0.out HZ1.out HB3.out _ _)
          | some p =>
            obtain ⟨rfl, vF5, vW5, hP5⟩ := hR
            have HP5 := Lib.hid hP5
            have hbd := lets_bd (f := p.1) (l := p.2) hL
            have HBD := Lib.hid hbd
            clear hP5 hL hbd
            go_wp2
            go_roundg p.2.length
            case measure => have := HBD.out; simp only [List.length_cons]; omega
            case rel =>
              have := HBD.out
              exact ⟨p.2, done ++ p.1, vF5, vW5, rfl, by omega, by rw [List.length_append]; omega, HP5.out, HX.out⟩
end Go.Proofs.Ytldomiagincegaa
