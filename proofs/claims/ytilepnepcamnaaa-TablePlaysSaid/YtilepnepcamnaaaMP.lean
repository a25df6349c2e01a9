/-
  The reference's Put, Add and Drop; the statement's model, in memory of its own. The conditions are said at each.
-/
import Derived.Test.YtilepnepcamnaaaMS
import Derived.Test.YtilepnepcamnaaaMR
import Derived.Test.YtilepnepcamnaaaMT
import Derived.Test.YtilepnepcamnaaaMC
namespace Go.Proofs.Ytilepnepcamnaaa
open Go Go.RowKit
set_option maxRecDepth 100000

attribute [local go_sem] cell_off4 cell_blk4
/-- The answer with a table: the table, and what stands behind it. -/
def TabAns (P : Nat → Prop) (w : World) (t : List Nd) (f : Value → Value) (e : Ending) (w' : World) : Prop := ∃ v, e = .returned (f v) ∧ NsR P w' v t ∧ Below w.heap.size w w'
theorem boxes {w : World} {a b c : Obj} : Below w.heap.size w (((w.alloc a).alloc b).alloc c) := al (al (ba _ _) _) _
set_option maxRecDepth 100000 in
set_option maxHeartbeats 8000000 in
theorem rput_any {P : Nat → Prop} (v : Value) (t : List Nd) (i : Int) (n : Nd) (vn vk : Value) (w : World) (h : NsR P w v t) (hl : t.length ≤ 24) (hN : StrsR w vn (nmA (nmE n.ents))) (hK : IntsR w vk (idE n.ents)) (hf : Few n) (hpn : LP (fun b => P b ∧ b < w.heap.size) vn) (hpk : LP (fun b => P b ∧ b < w.heap.size) vk) (hP : ∀ b, w.heap.size ≤ b → P b) :
    Calls Try.prog 9 #[.agg #[v], .int .i64 i, .agg (rfC n vn vk)] w (TabAns P w (actT t 0 i n (toB (rightP n))) (fun v' => .tuple #[.agg #[v'], .int .i64 (putE t i (toB (rightP n)))])) := by
  obtain ⟨W1, hW1⟩ : ∃ W1, W1 = ((w.alloc (.cells #[v] 29)).alloc (.cells (rfC n vn vk) 34)).alloc (.cells #[.slice none 0 0] 29) := ⟨_, rfl⟩
  have hb1 : Below w.heap.size w W1 := by rw [hW1]; exact boxes
  have hz1 : W1.heap.size = w.heap.size + 3 := by rw [hW1]; simp
  have hkt : Blk W1 w.heap.size 29 #[v] := by rw [hW1]; exact ((Blk.new w 29 #[v]).alloc _).alloc _
  have hkn : Blk W1 (w.heap.size + 1) 34 (rfC n vn vk) := by
    rw [hW1]
    have := Blk.new (w.alloc (.cells #[v] 29)) 34 (rfC n vn vk)
    rw [show (w.alloc (.cells #[v] 29)).heap.size = w.heap.size + 1 by simp] at this
    exact this.alloc _
  have hkr : Blk W1 (w.heap.size + 2) 29 #[.slice none 0 0] := by
    rw [hW1]
    have := Blk.new ((w.alloc (.cells #[v] 29)).alloc (.cells (rfC n vn vk) 34)) 29 #[.slice none 0 0]
    rw [show ((w.alloc (.cells #[v] 29)).alloc (.cells (rfC n vn vk) 34)).heap.size = w.heap.size + 2 by simp] at this
    exact this
  have HH := Lib.hid h
  have HN := Lib.hid hN
  have HK := Lib.hid hK
  have HPP := Lib.hid hP
  have HB1 := Lib.hid hb1
  have HZ1 := Lib.hid hz1
  have HKT := Lib.hid hkt
  have HKN := Lib.hid hkn
  have HKR := Lib.hid hkr
  have HIS := Lib.hid (ris_any v t i W1 (h.below hb1) hl)
  have HRI := Lib.hid (fun W (hb : Below w.heap.size w W) => rright_any n vn vk W (hN.below hb) (hK.below hb) hf)
  obtain ⟨g, c, rfl⟩ := ns_form h
  obtain ⟨A1, c1, rfl⟩ := strs_form hN (nm_len _)
  obtain ⟨A2, c2, rfl⟩ := ints_form hK (idE_len _)
  have HEND := Lib.hid (fun (W u : _) (hb : Below w.heap.size w W) => show NsR P (W.setCell ⟨w.heap.size + 2, 0, none⟩ u) (.slice (some ⟨g, 0, none⟩) t.length c) t ∧ Below w.heap.size w (W.setCell ⟨w.heap.size + 2, 0, none⟩ u) from
    have hf := below_grown hb (grown_setCell W ⟨w.heap.size + 2, 0, none⟩ u) (Nat.le_add_right _ _)
    ⟨h.below hf, hf⟩)
  clear hP
  cases hi : tis t i with
  | false =>
    have HX1 := Lib.hid (show actT t 0 i n (toB (rightP n)) = t by rw [actT, if_pos rfl, if_neg (by rw [hi]; rintro ⟨q, -⟩; cases q)])
    have HX2 := Lib.hid (show putE t i (toB (rightP n)) = 2 by rw [putE, if_pos hi])
    rw [hi] at HIS
    generalize actT t 0 i n (toB (rightP n)) = T at HX1 ⊢
    generalize putE t i (toB (rightP n)) = E at HX2 ⊢
    clear h hN hK hpn hpk hb1 hz1 hkt hkn hkr hi
    subst hW1
    go_enter Try.func9, Try.ntmps9
    go_wp2_with fail
    refine HIS.out.mono ?_
    rintro e w2 ⟨rfl, hb2⟩
    have HB2 := Lib.hid (bt hb2 HB1.out)
    have t0 : w2.cell? ⟨w.heap.size, 0, none⟩ = some (.slice (some ⟨g, 0, none⟩) t.length c) := (HKT.out.below hb2).cell 0
    have r0 : w2.cell? ⟨w.heap.size + 2, 0, none⟩ = some (.slice none 0 0) := (HKR.out.below hb2).cell 0
    have r1 : w2.frozen? ⟨w.heap.size + 2, 0, none⟩ = false := (HKR.out.below hb2).frozen 0
    have hS : (w2.setCell ⟨w.heap.size + 1 + 1, 0, none⟩ (.slice (some ⟨g, 0, none⟩) t.length c)).cell? ⟨w.heap.size + 1 + 1, 0, none⟩ = some (.slice (some ⟨g, 0, none⟩) t.length c) := ((HKR.out.below hb2).set_ 0 _).cell 0
    clear hb2
    go_wp2
    have hE := HEND.out w2 (.slice (some ⟨g, 0, none⟩) t.length c) HB2.out
    exact bodyPost_ret (v := .tuple #[.agg #[.slice (some ⟨g, 0, none⟩) t.length c], .int .i64 2]) (by simp [results, Try.results9, go_sem, hS]) rfl ⟨_, by rw [HX2.out], by rw [HX1.out]; exact hE.1, hE.2⟩
  | true =>
    by_cases hn : rightP n
    · have hin := tis_in hi
      obtain ⟨k, hk⟩ : ∃ k : Nat, i = (k : Int) + 1 := ⟨(i - 1).toNat, by omega⟩
      subst hk
      have hlt : k < t.length := by omega
      have HX1 := Lib.hid (show actT t 0 ((k : Int) + 1) n (toB (rightP n)) = setT t ((k : Int) + 1) n by rw [actT, if_pos rfl, if_pos ⟨hi, toB_true hn⟩])
      have HX2 := Lib.hid (show putE t ((k : Int) + 1) (toB (rightP n)) = 0 by rw [putE, if_neg (by rw [hi]; exact Bool.noConfusion), toB_true hn]; rfl)
      rw [hi] at HIS
      rw [toB_true hn] at HRI
      have HWI := Lib.hid (fun W (hb : Below w.heap.size w W) => rwith_any _ t k n _ _ w W h hb hl hlt hN hK hpn hpk)
      generalize actT t 0 ((k : Int) + 1) n (toB (rightP n)) = T at HX1 ⊢
      generalize putE t ((k : Int) + 1) (toB (rightP n)) = E at HX2 ⊢
      clear h hN hK hpn hpk hb1 hz1 hkt hkn hkr hi hin hn
      subst hW1
      go_enter Try.func9, Try.ntmps9
      go_wp2_with fail
      refine HIS.out.mono ?_
      rintro e w2 ⟨rfl, hb2⟩
      have HB2 := Lib.hid (bt hb2 HB1.out)
      have hkn2 := HKN.out.below hb2
      obtain ⟨p0, p1, p2, p3, p4, p5, p6, p7⟩ := hkn2.c8
      have HKN2 := Lib.hid hkn2
      have HKT2 := Lib.hid (HKT.out.below hb2)
      have HKR2 := Lib.hid (HKR.out.below hb2)
      have HZ2 := Lib.hid hb2.size
      clear hb2 hkn2
      go_wp2_with fail
      refine (HRI.out _ HB2.out).mono ?_
      rintro e w3 ⟨rfl, hb3⟩
      have HB3 := Lib.hid (bt hb3 HB2.out)
      clear p0 p1 p2 p3 p4 p5 p6 p7
      obtain ⟨p0, p1, p2, p3, p4, p5, p6, p7⟩ := (HKN2.out.below hb3).c8
      have t0 : w3.cell? ⟨w.heap.size, 0, none⟩ = some (.slice (some ⟨g, 0, none⟩) t.length c) := (HKT2.out.below hb3).cell 0
      have HKR3 := Lib.hid (HKR2.out.below hb3)
      have HZ3 := Lib.hid (show w.heap.size + 3 ≤ w3.heap.size by rw [← HZ1.out]; exact Nat.le_trans HZ2.out hb3.size)
      clear hb3
      go_wp2_with fail
      refine (HWI.out _ HB3.out).mono ?_
      rintro e w4 ⟨v4, rfl, hns4, hb4⟩
      have HNS4 := Lib.hid (fun u => hns4.stored (r := w.heap.size + 2) (by have := HZ3.out; omega) u)
      have HB4 := Lib.hid (bt hb4 HB3.out)
      have r0 : w4.cell? ⟨w.heap.size + 2, 0, none⟩ = some (.slice none 0 0) := (HKR3.out.below hb4).cell 0
      have r1 : w4.frozen? ⟨w.heap.size + 2, 0, none⟩ = false := (HKR3.out.below hb4).frozen 0
      obtain ⟨g4, k4, hv4, -, -⟩ := hns4
      subst hv4
      have hS := fun u => ((HKR3.out.below hb4).set_ 0 u).cell 0
      have hS2 : ∀ u, (w4.setCell ⟨w.heap.size + 1 + 1, 0, none⟩ u).cell? ⟨w.heap.size + 1 + 1, 0, none⟩ = some u := fun u => hS u
      clear hb4 p0 p1 p2 p3 p4 p5 p6 p7 t0 hS
      go_wp2
      have hbf := below_grown HB4.out (grown_setCell w4 ⟨w.heap.size + 2, 0, none⟩ (.slice (some ⟨g4, 0, none⟩) (setT t ((k : Int) + 1) n).length k4)) (Nat.le_add_right _ _)
      have hE := (HNS4.out (.slice (some ⟨g4, 0, none⟩) (setT t ((k : Int) + 1) n).length k4)).ns hbf (fun b hb => HPP.out b (Nat.le_trans HB3.out.size hb))
      exact bodyPost_ret (v := .tuple #[.agg #[.slice (some ⟨g4, 0, none⟩) (setT t ((k : Int) + 1) n).length k4], .int .i64 0]) (by simp [results, Try.results9, go_sem, hS2]) rfl ⟨_, by rw [HX2.out], by rw [HX1.out]; exact hE, hbf⟩
    · have HX1 := Lib.hid (show actT t 0 i n (toB (rightP n)) = t by rw [actT, if_pos rfl, if_neg (by rw [toB_false hn]; rintro ⟨-, q⟩; cases q)])
      have HX2 := Lib.hid (show putE t i (toB (rightP n)) = 22 by rw [putE, if_neg (by rw [hi]; exact Bool.noConfusion), toB_false hn]; rfl)
      rw [hi] at HIS
      rw [toB_false hn] at HRI
      generalize actT t 0 i n (toB (rightP n)) = T at HX1 ⊢
      generalize putE t i (toB (rightP n)) = E at HX2 ⊢
      clear h hN hK hpn hpk hb1 hz1 hkt hkn hkr hi hn
      subst hW1
      go_enter Try.func9, Try.ntmps9
      go_wp2_with fail
      refine HIS.out.mono ?_
      rintro e w2 ⟨rfl, hb2⟩
      have HB2 := Lib.hid (bt hb2 HB1.out)
      have hkn2 := HKN.out.below hb2
      obtain ⟨p0, p1, p2, p3, p4, p5, p6, p7⟩ := hkn2.c8
      have HKT2 := Lib.hid (HKT.out.below hb2)
      have HKR2 := Lib.hid (HKR.out.below hb2)
      clear hb2 hkn2
      go_wp2_with fail
      refine (HRI.out _ HB2.out).mono ?_
      rintro e w3 ⟨rfl, hb3⟩
      have HB3 := Lib.hid (bt hb3 HB2.out)
      have t0 : w3.cell? ⟨w.heap.size, 0, none⟩ = some (.slice (some ⟨g, 0, none⟩) t.length c) := (HKT2.out.below hb3).cell 0
      have r0 : w3.cell? ⟨w.heap.size + 2, 0, none⟩ = some (.slice none 0 0) := (HKR2.out.below hb3).cell 0
      have r1 : w3.frozen? ⟨w.heap.size + 2, 0, none⟩ = false := (HKR2.out.below hb3).frozen 0
      have hS : (w3.setCell ⟨w.heap.size + 1 + 1, 0, none⟩ (.slice (some ⟨g, 0, none⟩) t.length c)).cell? ⟨w.heap.size + 1 + 1, 0, none⟩ = some (.slice (some ⟨g, 0, none⟩) t.length c) := ((HKR2.out.below hb3).set_ 0 _).cell 0
      clear hb3 p0 p1 p2 p3 p4 p5 p6 p7
      go_wp2
      have hE := HEND.out w3 (.slice (some ⟨g, 0, none⟩) t.length c) HB3.out
      exact bodyPost_ret (v := .tuple #[.agg #[.slice (some ⟨g, 0, none⟩) t.length c], .int .i64 22]) (by simp [results, Try.results9, go_sem, hS]) rfl ⟨_, by rw [HX2.out], by rw [HX1.out]; exact hE.1, hE.2⟩
end Go.Proofs.Ytilepnepcamnaaa
namespace Go.Proofs.Ytilepnepcamnaaa
open Go Go.RowKit
set_option maxRecDepth 100000

attribute [local go_sem] cell_off4 cell_blk4
set_option maxRecDepth 100000 in
set_option maxHeartbeats 8000000 in
theorem radd_any {P : Nat → Prop} (v : Value) (t : List Nd) (i : Int) (n : Nd) (vn vk : Value) (w : World) (h : NsR P w v t) (hl : t.length ≤ 24) (hN : StrsR w vn (nmA (nmE n.ents))) (hK : IntsR w vk (idE n.ents)) (hf : Few n) (hpn : LP (fun b => P b ∧ b < w.heap.size) vn) (hpk : LP (fun b => P b ∧ b < w.heap.size) vk) (hP : ∀ b, w.heap.size ≤ b → P b) :
    Calls Try.prog 11 #[.agg #[v], .agg (rfC n vn vk)] w (TabAns P w (actT t 1 i n (toB (rightP n))) (fun v' => .tuple #[.agg #[v'], .int .i64 (addI t (toB (rightP n))), .int .i64 (addE t (toB (rightP n)))])) := by
  obtain ⟨W1, hW1⟩ : ∃ W1, W1 = ((w.alloc (.cells #[v] 29)).alloc (.cells (rfC n vn vk) 34)).alloc (.cells #[.slice none 0 0] 29) := ⟨_, rfl⟩
  have hb1 : Below w.heap.size w W1 := by rw [hW1]; exact boxes
  have hz1 : W1.heap.size = w.heap.size + 3 := by rw [hW1]; simp
  have hkt : Blk W1 w.heap.size 29 #[v] := by rw [hW1]; exact ((Blk.new w 29 #[v]).alloc _).alloc _
  have hkn : Blk W1 (w.heap.size + 1) 34 (rfC n vn vk) := by
    rw [hW1]
    have := Blk.new (w.alloc (.cells #[v] 29)) 34 (rfC n vn vk)
    rw [show (w.alloc (.cells #[v] 29)).heap.size = w.heap.size + 1 by simp] at this
    exact this.alloc _
  have hkr : Blk W1 (w.heap.size + 2) 29 #[.slice none 0 0] := by
    rw [hW1]
    have := Blk.new ((w.alloc (.cells #[v] 29)).alloc (.cells (rfC n vn vk) 34)) 29 #[.slice none 0 0]
    rw [show ((w.alloc (.cells #[v] 29)).alloc (.cells (rfC n vn vk) 34)).heap.size = w.heap.size + 2 by simp] at this
    exact this
  have HH := Lib.hid h
  have HPP := Lib.hid hP
  have HB1 := Lib.hid hb1
  have HZ1 := Lib.hid hz1
  have HKT := Lib.hid hkt
  have HKN := Lib.hid hkn
  have HKR := Lib.hid hkr
  have HRI := Lib.hid (fun W (hb : Below w.heap.size w W) => rright_any n vn vk W (hN.below hb) (hK.below hb) hf)
  obtain ⟨g, c, rfl⟩ := ns_form h
  obtain ⟨A1, c1, rfl⟩ := strs_form hN (nm_len _)
  obtain ⟨A2, c2, rfl⟩ := ints_form hK (idE_len _)
  have HEND := Lib.hid (fun (W u : _) (hb : Below w.heap.size w W) => show NsR P (W.setCell ⟨w.heap.size + 2, 0, none⟩ u) (.slice (some ⟨g, 0, none⟩) t.length c) t ∧ Below w.heap.size w (W.setCell ⟨w.heap.size + 2, 0, none⟩ u) from
    have hf := below_grown hb (grown_setCell W ⟨w.heap.size + 2, 0, none⟩ u) (Nat.le_add_right _ _)
    ⟨h.below hf, hf⟩)
  clear hP
  by_cases hn : rightP n
  · have HFR := Lib.hid (fun k => free_ge t 0 k)
    rw [toB_true hn] at HRI ⊢
    have HX0 := Lib.hid (show freeT t 0 = 0 → actT t 1 i n true = t ∧ addI t true = 0 ∧ addE t true = 28 from fun hF => ⟨by rw [actT, if_neg (by decide), if_pos rfl, if_neg (fun q => q.2 hF)], by rw [addI, if_pos rfl, hF]; rfl, by rw [addE, if_neg (by decide), if_pos hF]⟩)
    have HX1 := Lib.hid (show ∀ k : Nat, freeT t 0 = k + 1 → actT t 1 i n true = setT t ((k : Int) + 1) n ∧ addI t true = (k : Int) + 1 ∧ addE t true = 0 from fun k hF => ⟨by rw [actT, if_neg (by decide), if_pos rfl, if_pos ⟨rfl, by omega⟩, hF]; rfl, by rw [addI, if_pos rfl, hF]; rfl, by rw [addE, if_neg (by decide), if_neg (by omega)]⟩)
    have HWI := Lib.hid (fun (k : Nat) (hlt : k < t.length) W (hb : Below w.heap.size w W) => rwith_any _ t k n _ _ w W h hb hl hlt hN hK hpn hpk)
    have HNS := Lib.hid (fun W (hb : Below w.heap.size w W) => h.below hb)
    generalize actT t 1 i n true = T at HX0 HX1 ⊢
    generalize addI t true = I at HX0 HX1 ⊢
    generalize addE t true = E at HX0 HX1 ⊢
    clear h hN hK hpn hpk hb1 hz1 hkt hkn hkr hn
    subst hW1
    go_enter Try.func11, Try.ntmps11
    go_wp2_with fail
    refine (HRI.out _ HB1.out).mono ?_
    rintro e w2 ⟨rfl, hb2⟩
    have HB2 := Lib.hid (bt hb2 HB1.out)
    have HKT2 := Lib.hid (HKT.out.below hb2)
    have HKN2 := Lib.hid (HKN.out.below hb2)
    have HKR2 := Lib.hid (HKR.out.below hb2)
    have HZ2 := Lib.hid (show w.heap.size + 3 ≤ w2.heap.size by rw [← HZ1.out]; exact hb2.size)
    clear hb2
    go_wp2
    go_loopg [8] t.length (fun gh s8 wr => ∃ k : Nat, s8 = .int .i64 ((k : Int) + 1) ∧ k ≤ t.length ∧ gh = t.length - k ∧ (∀ j, j < k → j < t.length → tis t ((j : Int) + 1) = true) ∧ w2 = wr)
    case atStart => exact ⟨0, rfl, Nat.zero_le _, rfl, fun j h => absurd h (Nat.not_lt_zero _), rfl⟩
    case round =>
      obtain ⟨k, rfl, hk, rfl, hall, rfl⟩ := hrel
      have HALL := Lib.hid hall
      have t0 : w2.cell? ⟨w.heap.size, 0, none⟩ = some (.slice (some ⟨g, 0, none⟩) t.length c) := HKT2.out.cell 0
      clear hall
      by_cases hlt : k < t.length
      · have hlt' : (k : Int) + 1 ≤ (t.length : Int) := by omega
        have hlt2 : (k : Int) < (t.length : Int) := by omega
        obtain ⟨m, hm⟩ : ∃ m, t[k]? = some m := ⟨_, List.getElem?_eq_getElem hlt⟩
        obtain ⟨vm, wm, ⟨c0, -, -, -, -, -, -, -⟩, -, -⟩ := ns_get (HNS.out w2 HB2.out) hm
        have HTI := Lib.hid (show tis t ((k : Int) + 1) = decide (m.kind ≠ 0) by
          obtain ⟨h5, h6⟩ := List.getElem?_eq_some_iff.1 hm
          rw [tis, tget_at h5, h6])
        by_cases q : m.kind = 0
        · have q1 : (m.kind == 0) = true := by simpa using q
          have hX := HX1.out k (by
            have h1 := (HFR.out k HALL.out hk).2 hlt (by
              obtain ⟨h5, h6⟩ := List.getElem?_eq_some_iff.1 hm
              rw [h6]; exact q)
            omega)
          have HX := Lib.hid hX
          obtain ⟨p0, p1, p2, p3, p4, p5, p6, p7⟩ := HKN2.out.c8
          clear q hm hX
          go_wp2_with fail
          refine (HWI.out k hlt _ HB2.out).mono ?_
          rintro e w4 ⟨v4, rfl, hns4, hb4⟩
          have HNS4 := Lib.hid (fun u => hns4.stored (r := w.heap.size + 2) (by have := HZ2.out; omega) u)
          have HB4 := Lib.hid (bt hb4 HB2.out)
          have r0 : w4.cell? ⟨w.heap.size + 2, 0, none⟩ = some (.slice none 0 0) := (HKR2.out.below hb4).cell 0
          have r1 : w4.frozen? ⟨w.heap.size + 2, 0, none⟩ = false := (HKR2.out.below hb4).frozen 0
          obtain ⟨g4, k4, hv4, -, -⟩ := hns4
          subst hv4
          have hS := fun u => ((HKR2.out.below hb4).set_ 0 u).cell 0
          have hS2 : ∀ u, (w4.setCell ⟨w.heap.size + 1 + 1, 0, none⟩ u).cell? ⟨w.heap.size + 1 + 1, 0, none⟩ = some u := fun u => hS u
          clear hb4 p0 p1 p2 p3 p4 p5 p6 p7 t0 c0 hS
          go_wp2
          have hbf := below_grown HB4.out (grown_setCell w4 ⟨w.heap.size + 2, 0, none⟩ (.slice (some ⟨g4, 0, none⟩) (setT t ((k : Int) + 1) n).length k4)) (Nat.le_add_right _ _)
          have hE := (HNS4.out (.slice (some ⟨g4, 0, none⟩) (setT t ((k : Int) + 1) n).length k4)).ns hbf (fun b hb => HPP.out b (Nat.le_trans HB2.out.size hb))
          exact bodyPost_ret (v := .tuple #[.agg #[.slice (some ⟨g4, 0, none⟩) (setT t ((k : Int) + 1) n).length k4], .int .i64 ((k : Int) + 1), .int .i64 0]) (by simp [results, Try.results11, go_sem, hS2]) rfl ⟨_, by rw [HX.out.2.1, HX.out.2.2], by rw [HX.out.1]; exact hE, hbf⟩
        · have q1 : (m.kind == 0) = false := by simpa using q
          have HQ := Lib.hid (show tis t ((k : Int) + 1) = true by rw [HTI.out]; exact decide_eq_true q)
          clear q hm
          go_wp2
          go_roundg (t.length - (k + 1))
          case measure => omega
          case rel => exact ⟨k + 1, by go_num, by omega, rfl, (fun j h1 h2 => by
            by_cases q : j < k
            · exact HALL.out j q h2
            · rw [show j = k by omega]; exact HQ.out), rfl⟩
      · have hlt' : ¬ (k : Int) + 1 ≤ (t.length : Int) := by omega
        have hX := HX0.out ((HFR.out k HALL.out hk).1 (by omega))
        have HX := Lib.hid hX
        have r0 : w2.cell? ⟨w.heap.size + 2, 0, none⟩ = some (.slice none 0 0) := HKR2.out.cell 0
        have r1 : w2.frozen? ⟨w.heap.size + 2, 0, none⟩ = false := HKR2.out.frozen 0
        have hS : (w2.setCell ⟨w.heap.size + 1 + 1, 0, none⟩ (.slice (some ⟨g, 0, none⟩) t.length c)).cell? ⟨w.heap.size + 1 + 1, 0, none⟩ = some (.slice (some ⟨g, 0, none⟩) t.length c) := (HKR2.out.set_ 0 _).cell 0
        clear hX
        go_wp2
        have hE := HEND.out w2 (.slice (some ⟨g, 0, none⟩) t.length c) HB2.out
        exact bodyPost_ret (v := .tuple #[.agg #[.slice (some ⟨g, 0, none⟩) t.length c], .int .i64 0, .int .i64 28]) (by simp [results, Try.results11, go_sem, hS]) rfl ⟨_, by rw [HX.out.2.1, HX.out.2.2], by rw [HX.out.1]; exact hE.1, hE.2⟩
  · rw [toB_false hn] at HRI ⊢
    have HX := Lib.hid (show actT t 1 i n false = t ∧ addI t false = 0 ∧ addE t false = 22 from ⟨by rw [actT, if_neg (by decide), if_pos rfl, if_neg (by rintro ⟨q, -⟩; cases q)], rfl, rfl⟩)
    generalize actT t 1 i n false = T at HX ⊢
    generalize addI t false = I at HX ⊢
    generalize addE t false = E at HX ⊢
    clear h hN hK hpn hpk hb1 hz1 hkt hkn hkr hn
    subst hW1
    go_enter Try.func11, Try.ntmps11
    go_wp2_with fail
    refine (HRI.out _ HB1.out).mono ?_
    rintro e w3 ⟨rfl, hb3⟩
    have HB3 := Lib.hid (bt hb3 HB1.out)
    have t0 : w3.cell? ⟨w.heap.size, 0, none⟩ = some (.slice (some ⟨g, 0, none⟩) t.length c) := (HKT.out.below hb3).cell 0
    have r0 : w3.cell? ⟨w.heap.size + 2, 0, none⟩ = some (.slice none 0 0) := (HKR.out.below hb3).cell 0
    have r1 : w3.frozen? ⟨w.heap.size + 2, 0, none⟩ = false := (HKR.out.below hb3).frozen 0
    have hS : (w3.setCell ⟨w.heap.size + 1 + 1, 0, none⟩ (.slice (some ⟨g, 0, none⟩) t.length c)).cell? ⟨w.heap.size + 1 + 1, 0, none⟩ = some (.slice (some ⟨g, 0, none⟩) t.length c) := ((HKR.out.below hb3).set_ 0 _).cell 0
    clear hb3
    go_wp2
    have hE := HEND.out w3 (.slice (some ⟨g, 0, none⟩) t.length c) HB3.out
    exact bodyPost_ret (v := .tuple #[.agg #[.slice (some ⟨g, 0, none⟩) t.length c], .int .i64 0, .int .i64 22]) (by simp [results, Try.results11, go_sem, hS]) rfl ⟨_, by rw [HX.out.2.1, HX.out.2.2], by rw [HX.out.1]; exact hE.1, hE.2⟩
set_option maxRecDepth 100000 in
set_option maxHeartbeats 8000000 in
theorem rdrop_any {P : Nat → Prop} (v : Value) (t : List Nd) (d i : Int) (n : Nd) (r : Bool) (w : World) (h : NsR P w v t) (hl : t.length ≤ 24) (h0 : d ≠ 0) (h1 : d ≠ 1) (hP : ∀ b, w.heap.size ≤ b → P b) :
    Calls Try.prog 13 #[.agg #[v], .int .i64 i] w (TabAns P w (actT t d i n r) (fun v' => .tuple #[.agg #[v'], .bool (tis t i)])) := by
  obtain ⟨W1, hW1⟩ : ∃ W1, W1 = (w.alloc (.cells #[v] 29)).alloc (.cells #[.slice none 0 0] 29) := ⟨_, rfl⟩
  have hb1 : Below w.heap.size w W1 := by rw [hW1]; exact al (ba _ _) _
  have hz1 : W1.heap.size = w.heap.size + 2 := by rw [hW1]; simp
  have hkt : Blk W1 w.heap.size 29 #[v] := by rw [hW1]; exact (Blk.new w 29 #[v]).alloc _
  have hkr : Blk W1 (w.heap.size + 1) 29 #[.slice none 0 0] := by
    rw [hW1]
    have := Blk.new (w.alloc (.cells #[v] 29)) 29 #[.slice none 0 0]
    rw [show (w.alloc (.cells #[v] 29)).heap.size = w.heap.size + 1 by simp] at this
    exact this
  have HB1 := Lib.hid hb1
  have HPP := Lib.hid hP
  have HZ1 := Lib.hid hz1
  have HKT := Lib.hid hkt
  have HKR := Lib.hid hkr
  have HIS := Lib.hid (ris_any v t i W1 (h.below hb1) hl)
  obtain ⟨g, c, rfl⟩ := ns_form h
  clear hP
  cases hi : tis t i with
  | false =>
    have HX := Lib.hid (show actT t d i n r = t by rw [actT, if_neg h0, if_neg h1, if_neg (by rw [hi]; exact Bool.noConfusion)])
    have HEND := Lib.hid (fun (W u : _) (hb : Below w.heap.size w W) => show NsR P (W.setCell ⟨w.heap.size + 1, 0, none⟩ u) (.slice (some ⟨g, 0, none⟩) t.length c) t ∧ Below w.heap.size w (W.setCell ⟨w.heap.size + 1, 0, none⟩ u) from
      have hf := below_grown hb (grown_setCell W ⟨w.heap.size + 1, 0, none⟩ u) (Nat.le_add_right _ _)
      ⟨h.below hf, hf⟩)
    rw [hi] at HIS
    generalize actT t d i n r = T at HX ⊢
    clear h hb1 hz1 hkt hkr hi h0 h1
    subst hW1
    go_enter Try.func13, Try.ntmps13
    go_wp2_with fail
    refine HIS.out.mono ?_
    rintro e w3 ⟨rfl, hb3⟩
    have HB3 := Lib.hid (bt hb3 HB1.out)
    have t0 : w3.cell? ⟨w.heap.size, 0, none⟩ = some (.slice (some ⟨g, 0, none⟩) t.length c) := (HKT.out.below hb3).cell 0
    have r0 : w3.cell? ⟨w.heap.size + 1, 0, none⟩ = some (.slice none 0 0) := (HKR.out.below hb3).cell 0
    have r1 : w3.frozen? ⟨w.heap.size + 1, 0, none⟩ = false := (HKR.out.below hb3).frozen 0
    have hS : (w3.setCell ⟨w.heap.size + 1, 0, none⟩ (.slice (some ⟨g, 0, none⟩) t.length c)).cell? ⟨w.heap.size + 1, 0, none⟩ = some (.slice (some ⟨g, 0, none⟩) t.length c) := ((HKR.out.below hb3).set_ 0 _).cell 0
    clear hb3
    go_wp2
    have hE := HEND.out w3 (.slice (some ⟨g, 0, none⟩) t.length c) HB3.out
    exact bodyPost_ret (v := .tuple #[.agg #[.slice (some ⟨g, 0, none⟩) t.length c], .bool false]) (by simp [results, Try.results13, go_sem, hS]) rfl ⟨_, rfl, by rw [HX.out]; exact hE.1, hE.2⟩
  | true =>
    have hin := tis_in hi
    obtain ⟨k, hk⟩ : ∃ k : Nat, i = (k : Int) + 1 := ⟨(i - 1).toNat, by omega⟩
    subst hk
    have hlt : k < t.length := by omega
    have HX := Lib.hid (show actT t d ((k : Int) + 1) n r = setT t ((k : Int) + 1) Nd.zero by rw [actT, if_neg h0, if_neg h1, if_pos hi])
    have hwi := fun W (hb : Below w.heap.size w W) => rwith_any _ t k Nd.zero (.slice none 0 0) (.slice none 0 0) w W h hb hl hlt (StrsR.nil w) (IntsR.nil w) (LP.nil _) (LP.nil _)
    rw [show rfC Nd.zero (.slice none 0 0) (.slice none 0 0) = rfZ from rfl] at hwi
    have HWI := Lib.hid hwi
    rw [hi] at HIS
    generalize actT t d ((k : Int) + 1) n r = T at HX ⊢
    clear h hb1 hz1 hkt hkr hi h0 h1 hin hwi
    subst hW1
    go_enter Try.func13, Try.ntmps13
    go_wp2_with fail
    refine HIS.out.mono ?_
    rintro e w3 ⟨rfl, hb3⟩
    have HB3 := Lib.hid (bt hb3 HB1.out)
    have t0 : w3.cell? ⟨w.heap.size, 0, none⟩ = some (.slice (some ⟨g, 0, none⟩) t.length c) := (HKT.out.below hb3).cell 0
    have HKR3 := Lib.hid (HKR.out.below hb3)
    have HZ3 := Lib.hid (show w.heap.size + 2 ≤ w3.heap.size by rw [← HZ1.out]; exact hb3.size)
    clear hb3
    go_wp2_with fail
    refine (HWI.out _ HB3.out).mono ?_
    rintro e w4 ⟨v4, rfl, hns4, hb4⟩
    have HNS4 := Lib.hid (fun u => hns4.stored (r := w.heap.size + 1) (by have := HZ3.out; omega) u)
    have HB4 := Lib.hid (bt hb4 HB3.out)
    have r0 : w4.cell? ⟨w.heap.size + 1, 0, none⟩ = some (.slice none 0 0) := (HKR3.out.below hb4).cell 0
    have r1 : w4.frozen? ⟨w.heap.size + 1, 0, none⟩ = false := (HKR3.out.below hb4).frozen 0
    obtain ⟨g4, k4, hv4, -, -⟩ := hns4
    subst hv4
    have hS2 := fun u => ((HKR3.out.below hb4).set_ 0 u).cell 0
    have hS3 : ∀ u, (w4.setCell ⟨w.heap.size + 1, 0, none⟩ u).cell? ⟨w.heap.size + 1, 0, none⟩ = some u := fun u => hS2 u
    clear hb4 t0 hS2
    go_wp2
    have hbf := below_grown HB4.out (grown_setCell w4 ⟨w.heap.size + 1, 0, none⟩ (.slice (some ⟨g4, 0, none⟩) (setT t ((k : Int) + 1) Nd.zero).length k4)) (Nat.le_add_right _ _)
    have hE := (HNS4.out (.slice (some ⟨g4, 0, none⟩) (setT t ((k : Int) + 1) Nd.zero).length k4)).ns hbf (fun b hb => HPP.out b (Nat.le_trans HB3.out.size hb))
    exact bodyPost_ret (v := .tuple #[.agg #[.slice (some ⟨g4, 0, none⟩) (setT t ((k : Int) + 1) Nd.zero).length k4], .bool true]) (by simp [results, Try.results13, go_sem, hS3]) rfl ⟨_, rfl, by rw [HX.out]; exact hE, hbf⟩
end Go.Proofs.Ytilepnepcamnaaa
namespace Go.Proofs.Ytilepnepcamnaaa
open Go Go.RowKit
set_option maxRecDepth 100000

attribute [local go_sem] cell_off4 cell_blk4
/-- The model's node, and its lists lie in new memory that is there. -/
def NrP (w w' : World) (v : Value) (n : Nd) : Prop := ∃ vn vk, v = refV n vn vk ∧ StrsR w' vn (nmA (nmE n.ents)) ∧ IntsR w' vk (idE n.ents) ∧ LP (fun b => w.heap.size ≤ b ∧ b < w'.heap.size) vn ∧ LP (fun b => w.heap.size ≤ b ∧ b < w'.heap.size) vk
theorem lp_own {w : World} {B : Nat} {e : TypeId} {size n : Nat} {v : Value} {xs : List Value} (h : w.ownsRow B e size v n xs) : LP (fun b => B ≤ b ∧ b < w.heap.size) v := by
  rcases h.2 with ⟨rfl, hn⟩ | ⟨g, cap, cur, rfl, hB, hh, _⟩
  · exact LP.nil _
  · intro ad n c hv
    injection hv with hA
    injection hA with hA
    subst hA
    exact ⟨hB, (Array.getElem?_eq_some_iff.1 hh).1⟩
theorem modelp_end {w wB wr w8 : World} {n : Nd} {vn vk : Value} {r : Nat} (hS : MS wB wr n vn vk (nmA (nmE n.ents)) (idE n.ents)) (hkr : Blk wr r 34 rfZ) (hb : Below w.heap.size w wr) (hr : w.heap.size ≤ r) (hg : wr.grownBy w8 (some r)) (hwB : w.heap.size ≤ wB.heap.size) :
    ∃ v, Ending.returned (refV n vn vk) = .returned v ∧ NrP w w8 v n ∧ Below w.heap.size w w8 :=
  have h1 := hS.rows.nm.kept hg (.inr (own_blk_ne hS.rows.nm hkr (by decide)))
  have h2 := hS.rows.kd.kept hg (.inr (own_blk_ne hS.rows.kd hkr (by decide)))
  ⟨_, rfl, ⟨vn, vk, rfl, StrsR.of_own h1, IntsR.of_own h2, (lp_own h1).mono (fun b hb => ⟨Nat.le_trans hwB hb.1, hb.2⟩), (lp_own h2).mono (fun b hb => ⟨Nat.le_trans hwB hb.1, hb.2⟩)⟩, below_grown hb hg hr⟩
set_option maxRecDepth 100000 in
set_option maxHeartbeats 8000000 in
theorem modelp_any (n : Nd) (vd ve : Value) (w : World) (hd : BytesR w vd n.data) (he : EntsR w ve n.ents) (hn : n.ents.length ≤ 1000) :
    Calls Try.prog 8 #[nodeV n vd ve] w fun e w' => ∃ v, e = .returned v ∧ NrP w w' v n ∧ Below w.heap.size w w' := by
  obtain ⟨A1, c1, rfl⟩ := bytes_form hd rfl
  obtain ⟨A2, c2, rfl⟩ := ents_form he rfl
  obtain ⟨wB, hwB⟩ : ∃ wB, wB = (w.alloc (.cells (ndC n (.slice A1 n.data.length c1) (.slice A2 n.ents.length c2)) 39)).alloc (.cells rfZ 34) := ⟨_, rfl⟩
  have hbB : Below w.heap.size w wB := by rw [hwB]; exact al (ba _ _) _
  have hzB : wB.heap.size = w.heap.size + 2 := by rw [hwB]; simp
  have hkb : Blk wB w.heap.size 39 (ndC n (.slice A1 n.data.length c1) (.slice A2 n.ents.length c2)) := by rw [hwB]; exact (Blk.new _ _ _).alloc _
  have hkr : Blk wB (w.heap.size + 1) 34 rfZ := by rw [hwB]; have := Blk.new (w.alloc (.cells (ndC n (.slice A1 n.data.length c1) (.slice A2 n.ents.length c2)) 39)) 34 rfZ; simpa using this
  have hcv := bytes_back (hd.below hbB)
  have hcv' : ∀ W, W = wB → (convert 36 9 (.slice A1 n.data.length c1)).run Try.prog W = .ok (.string (bA n.data)) W := fun W h => by rw [h]; exact hcv
  have hcv2 := hcv' _ hwB.symm
  have HE := Lib.hid (he.below hbB)
  have HBB := Lib.hid hbB
  have HZB := Lib.hid hzB
  have HKB := Lib.hid hkb
  have HKR := Lib.hid hkr
  have HMS := Lib.hid (show MS wB (wB.alloc (.cells (rfC n (.slice none 0 0) (.slice none 0 0)) 34)) n (.slice none 0 0) (.slice none 0 0) [] [] from
    ⟨⟨ba _ _, World.ownsRow_nil _ _ _ _, World.ownsRow_nil _ _ _ _⟩, Blk.new _ _ _⟩)
  have HWB := Lib.hid hwB
  clear hd he hbB hzB hkb hkr hcv hcv' hwB
  unfold nodeV
  go_enter Try.func8, Try.ntmps8
  go_wp2
  rw [← HWB.out, show w.heap.size + 1 + 1 = wB.heap.size from HZB.out.symm]
  go_loopg [4] n.ents.length (fun g s4 wr => ∃ (k : Nat) (An : Option Addr) (cn : Nat) (Ak : Option Addr) (ck : Nat), s4 = .int .i64 k ∧ k ≤ n.ents.length ∧ g = n.ents.length - k ∧ MS wB wr n (.slice An k cn) (.slice Ak k ck) (nmA (nmE (n.ents.take k))) (idE (n.ents.take k)))
  case atStart => exact ⟨0, none, 0, none, 0, rfl, Nat.zero_le _, rfl, HMS.out⟩
  case round =>
    clear HMS hcv2
    obtain ⟨k, An, cn, Ak, ck, rfl, hk, rfl, hS⟩ := hrel
    have HS := Lib.hid hS
    have hkb2 := HKB.out.below hS.rows.below
    have b5 : wr.cell? ⟨w.heap.size, 5, none⟩ = some (.slice A2 n.ents.length c2) := hkb2.cell 5
    have m5 : wr.cell? ⟨wB.heap.size, 5, none⟩ = some (.slice An k cn) := hS.box.cell 5
    have hzb : wB.heap.size < wr.heap.size := hS.box.lt
    have hzw : w.heap.size < wr.heap.size := hkb2.lt
    have hzn : w.heap.size ≠ wB.heap.size := by have := HZB.out; omega
    clear hS hkb2
    by_cases hlt : k < n.ents.length
    · obtain ⟨e, hke⟩ : ∃ e, n.ents[k]? = some e := ⟨_, List.getElem?_eq_getElem hlt⟩
      obtain ⟨ad, hA, c0, d0⟩ := ents_get (HE.out.below HS.out.rows.below) hke
      subst hA
      have z0 : (ad.add (k * 2)).block < wr.heap.size := World.block_lt_of_cell? _ _ c0
      have hlt' : (k : Int) < (n.ents.length : Int) := by omega
      have HTN := Lib.hid (show nmA (nmE (n.ents.take (k + 1))) = nmA (nmE (n.ents.take k)) ++ [bA e.1] by rw [take_snoc' hke, nmA_app]; rfl)
      have HTK := Lib.hid (show idE (n.ents.take (k + 1)) = idE (n.ents.take k) ++ [e.2] by rw [take_snoc' hke, idE_app]; rfl)
      have hl1 : (nmA (nmE (n.ents.take k))).length = k := by rw [nm_len, List.length_take]; omega
      have hl2 : (idE (n.ents.take k)).length = k := by rw [idE_len, List.length_take]; omega
      have HKE := Lib.hid hke
      clear hke
      generalize nmA (nmE (n.ents.take k)) = LN at HS HTN hl1
      generalize idE (n.ents.take k) = LK at HS HTK hl2
      obtain ⟨i0, hi0, hz0, hz1, hz2⟩ := info_parts info_str
      obtain ⟨j0, hj0, hy0, hy1, hy2⟩ := info_parts info_int
      have HOWN := Lib.hid (show ((wr.alloc (.cells #[.string (bA e.1)] 9)).drew).ownsRow wB.heap.size 9 1 (.slice An k cn) k (sCells LN) by have := (HS.out.mid (.cells #[.string (bA e.1)] 9)).nm; rw [hl1] at this; exact this)
      have HNEW := Lib.hid (show ∀ (j : Nat) (u : Value), [Value.string (bA e.1)][j]? = some u → ((wr.alloc (.cells #[.string (bA e.1)] 9)).drew).cell? ((⟨wr.heap.size, 0, none⟩ : Addr).add j) = some u from
        fun j u hj => World.news_of_block (heap_alloc_new wr (.cells #[.string (bA e.1)] 9)) j u (by simpa using hj))
      have HBS := Lib.hid (show wB.heap.size ≤ ((wr.alloc (.cells #[.string (bA e.1)] 9)).drew).heap.size from (HS.out.mid (.cells #[.string (bA e.1)] 9)).below.size)
      have HL1 := Lib.hid hl1
      have HL2 := Lib.hid hl2
      clear hl1 hl2
      go_wp2
      go_region_law (refine step_append_lies _ rfl (.tmp 27) (.tmp 34) 31 rfl wB.heap.size 9 i0 _ 1 16 Try.underlying31 hi0 hz0 hz1 hz2 rfl (by decide) (.slice An k cn) k (sCells LN) (by simp [Act.eval]) HOWN.out ⟨wr.heap.size, 0, none⟩ 1 1 [.string (bA e.1)] (by simp [Act.eval]) rfl HNEW.out (str_one _) (by decide) (by unfold maxLen; omega) (by omega) HBS.out _ rfl ?_; intro g1 cap1 w2 ho1 hg1 hat1 hlt1; have hbx := HS.out.boxN hg1; have kk0 := hbx.cell 5; have ff0 := hbx.frozen 5; have HST := Lib.hid (HS.out.storedN (s := bA e.1) hg1 (by rw [HL1.out]; exact ho1)); clear ho1 hg1 hat1 hlt1 hbx)
      all_goals (
        with_reducible change Exit.then _ _ _ _ (w2.setCell ⟨wB.heap.size, 5, none⟩ (.slice (some ⟨g1, 0, none⟩) (k + 1) cap1))
        obtain ⟨W3, hW3⟩ : ∃ W3, W3 = w2.setCell ⟨wB.heap.size, 5, none⟩ (.slice (some ⟨g1, 0, none⟩) (k + 1) cap1) := ⟨_, rfl⟩
        rw [← hW3] at HST ⊢
        clear hW3 kk0 ff0 b5 m5 hzb hzw z0 c0 d0
        have hkb3 := HKB.out.below HST.out.rows.below
        have b5 : W3.cell? ⟨w.heap.size, 5, none⟩ = some (.slice (some ad) n.ents.length c2) := hkb3.cell 5
        have m6 : W3.cell? ⟨wB.heap.size, 6, none⟩ = some (.slice Ak k ck) := HST.out.box.cell 6
        have hzb : wB.heap.size < W3.heap.size := HST.out.box.lt
        have hzw : w.heap.size < W3.heap.size := hkb3.lt
        obtain ⟨ad3, hA3, c0, d0⟩ := ents_get (HE.out.below HST.out.rows.below) HKE.out
        injection hA3 with hA3
        subst hA3
        have z0 : (ad.add (k * 2)).block < W3.heap.size := World.block_lt_of_cell? _ _ c0
        have HOWN2 := Lib.hid (show ((W3.alloc (.cells #[.int .i64 e.2] 3)).drew).ownsRow wB.heap.size 3 1 (.slice Ak k ck) k (iCells LK) by have := (HST.out.mid (.cells #[.int .i64 e.2] 3)).kd; rw [HL2.out] at this; exact this)
        have HNEW2 := Lib.hid (show ∀ (j : Nat) (u : Value), [Value.int .i64 e.2][j]? = some u → ((W3.alloc (.cells #[.int .i64 e.2] 3)).drew).cell? ((⟨W3.heap.size, 0, none⟩ : Addr).add j) = some u from
          fun j u hj => World.news_of_block (heap_alloc_new W3 (.cells #[.int .i64 e.2] 3)) j u (by simpa using hj))
        have HBS2 := Lib.hid (show wB.heap.size ≤ ((W3.alloc (.cells #[.int .i64 e.2] 3)).drew).heap.size from (HST.out.mid (.cells #[.int .i64 e.2] 3)).below.size)
        clear hkb3 HS HOWN HNEW HBS
        go_wp2
        go_region_law (refine step_append_lies _ rfl (.tmp 38) (.tmp 45) 32 rfl wB.heap.size 3 j0 _ 1 8 Try.underlying32 hj0 hy0 hy1 hy2 rfl (by decide) (.slice Ak k ck) k (iCells LK) (by simp [Act.eval]) HOWN2.out ⟨W3.heap.size, 0, none⟩ 1 1 [.int .i64 e.2] (by simp [Act.eval]) rfl HNEW2.out (int_one _) (by decide) (by unfold maxLen; omega) (by omega) HBS2.out _ rfl ?_; intro g2 cap2 w4 ho2 hg2 hat2 hlt2; have hbx := HST.out.boxK hg2; have kk0 := hbx.cell 6; have ff0 := hbx.frozen 6; have HST2 := Lib.hid (HST.out.storedK (i := e.2) hg2 (by rw [HL2.out]; exact ho2)); clear ho2 hg2 hat2 hlt2 hbx)
        all_goals (
          go_wp2
          go_roundg (n.ents.length - (k + 1))
          case measure => omega
          case rel => exact ⟨k + 1, _, _, _, _, by go_num, by omega, rfl, by rw [HTN.out, HTK.out]; exact HST2.out⟩))
    · have hlt' : ¬ (k : Int) < (n.ents.length : Int) := by omega
      have hke : n.ents.take k = n.ents := List.take_of_length_le (by omega)
      rw [hke] at HS
      clear hke
      have HKR2 := Lib.hid (HKR.out.below HS.out.rows.below)
      obtain ⟨p0, p1, p2, p3, p4, p5, p6, p7⟩ := HS.out.box.c8
      obtain ⟨r0, r1, r2, r3, r4, r5, r6, r7⟩ := HKR2.out.c8
      obtain ⟨g0, g1, g2, g3, g4, g5, g6, g7⟩ := HKR2.out.f8
      obtain ⟨s0, s1, s2, s3, s4, s5, s6, s7⟩ := HKR2.out.s8
      have hzr : w.heap.size + 1 ≠ wB.heap.size := by have := HZB.out; omega
      go_wp2
      have HG8 := grown8 wr (w.heap.size + 1) (.int .i64 n.kind) (.int .i64 n.mode) (.int .i64 n.uid) (.int .i64 n.gid) (.string (bA n.data)) (.slice An k cn) (.slice Ak k ck) (.string (bA n.target))
      exact bodyPost_ret (v := refV n (.slice An k cn) (.slice Ak k ck)) (by simp [results, Try.results8, go_sem, refV, s0, s1, s2, s3, s4, s5, s6, s7]) rfl (modelp_end HS.out HKR2.out (bt HS.out.rows.below HBB.out) (Nat.le_succ _) HG8 HBB.out.size)
end Go.Proofs.Ytilepnepcamnaaa
