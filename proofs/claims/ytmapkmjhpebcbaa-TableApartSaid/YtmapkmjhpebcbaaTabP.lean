/-
  Changing a table: Put. No condition.
-/
import Derived.Test.YtmapkmjhpebcbaaTabS
import Derived.Deep.RegionHeld3
import Derived.Deep.RegionWith
namespace Go.Proofs.Ytmapkmjhpebcbaa
open Go Go.RowKit

attribute [local go_sem] cell_off4 cell_blk4
theorem setT_at (t : List Nd) (k : Nat) (n : Nd) : setT t ((k : Int) + 1) n = t.set k n := by
  unfold setT
  rw [show ((k : Int) + 1 - 1).toNat = k by omega]
set_option maxRecDepth 100000 in
set_option maxHeartbeats 4000000 in
/-- There is no such node. -/
theorem put_none (v : Value) (t : List Nd) (i : Int) (n : Nd) (vd ve : Value) (w : World) (h : TabP w v t) (hi : tis t i = false) (hd : BytesR w vd n.data) (he : EntsR w ve n.ents) :
    Calls Try.prog 14 #[v, .int .i64 i, nodeV n vd ve] w fun e w' => e = .returned (.int .i64 2) ∧ Below w.heap.size w w' := by
  have HH := Lib.hid (fun W (hb : Below w.heap.size w W) => thas_any v t i W (h.below hb))
  rw [hi] at HH
  have HB1 := Lib.hid (ba w (.cells (ndC n vd ve) 39))
  obtain ⟨A1, c1, rfl⟩ := bytes_form hd rfl
  obtain ⟨A2, c2, rfl⟩ := ents_form he rfl
  clear h hi hd he
  unfold nodeV
  go_enter Try.func14, Try.ntmps14
  go_wp2_with fail
  refine (HH.out _ HB1.out).mono ?_
  rintro e w2 ⟨rfl, hb2⟩
  have HB2 := Lib.hid (bt hb2 HB1.out)
  clear hb2
  go_wp2
  go_ret
  exact ⟨rfl, HB2.out⟩
set_option maxRecDepth 100000 in
set_option maxHeartbeats 4000000 in
/-- The node may not be. -/
theorem put_wrong (v : Value) (t : List Nd) (i : Int) (n : Nd) (vd ve : Value) (w : World) (h : TabP w v t) (hi : tis t i = true) (hd : BytesR w vd n.data) (he : EntsR w ve n.ents) (hf : Few n) (hn : toB (rightP n) = false) :
    Calls Try.prog 14 #[v, .int .i64 i, nodeV n vd ve] w fun e w' => e = .returned (.int .i64 22) ∧ Below w.heap.size w w' := by
  have HH := Lib.hid (fun W (hb : Below w.heap.size w W) => thas_any v t i W (h.below hb))
  rw [hi] at HH
  have HR := Lib.hid (fun W (hb : Below w.heap.size w W) => right_any n vd ve W (hd.below hb) (he.below hb) hf)
  rw [hn] at HR
  have HB1 := Lib.hid (ba w (.cells (ndC n vd ve) 39))
  have HK1 := Lib.hid (Blk.new w 39 (ndC n vd ve))
  obtain ⟨A1, c1, rfl⟩ := bytes_form hd rfl
  obtain ⟨A2, c2, rfl⟩ := ents_form he rfl
  clear h hi hd he hf hn
  unfold nodeV
  go_enter Try.func14, Try.ntmps14
  go_wp2_with fail
  refine (HH.out _ HB1.out).mono ?_
  rintro e w2 ⟨rfl, hb2⟩
  have HB2 := Lib.hid (bt hb2 HB1.out)
  obtain ⟨p0, p1, p2, p3, p4, p5, p6⟩ := (HK1.out.below hb2).c7
  clear hb2
  go_wp2_with fail
  refine (HR.out _ HB2.out).mono ?_
  rintro e w3 ⟨rfl, hb3⟩
  have HB3 := Lib.hid (bt hb3 HB2.out)
  clear hb3 p0 p1 p2 p3 p4 p5 p6
  go_wp2
  go_ret
  exact ⟨rfl, HB3.out⟩
theorem grown_below {w w' : World} (h : Below w.heap.size w w') (r : Option Nat) : w.grownBy w' r := ⟨h.os, h.tape, h.output, h.size, fun i hi _ => h.block i hi⟩
theorem put_end {w w5 : World} {g k : Nat} {t : List Nd} {P : Nat → Prop} {n : Nd} {vd ve : Value} {i : Int} (h : TabR w5 g t P) (hk : k < t.length) (hi : i = (k : Int) + 1) (hn : rightP n) (hd : BytesT w5 vd n.data) (he : EntsT w5 ve n.ents) (hpd : LP P vd) (hpe : LP P ve) (hg : w.grownBy w5 (some g)) :
    TabR (putA w5 g (1 + k * 7) (.int .i64 n.kind) (.int .i64 n.mode) (.int .i64 n.uid) (.int .i64 n.gid) vd ve (.string (bA n.target))) g (setT t i n) P ∧ w.grownBy (putA w5 g (1 + k * 7) (.int .i64 n.kind) (.int .i64 n.mode) (.int .i64 n.uid) (.int .i64 n.gid) vd ve (.string (bA n.target))) (some g) := by
  subst hi
  rw [setT_at]
  exact ⟨h.put hk (.inr hn) hd he hpd hpe, grown_trans hg (grownA _ _ _ _ _ _ _ _ _ _)⟩
set_option maxRecDepth 100000 in
set_option maxHeartbeats 8000000 in
theorem put_yes (g : Nat) (t : List Nd) (P : Nat → Prop) (k : Nat) (n : Nd) (vd ve : Value) (w : World) (h : TabR w g t P) (hk : k < t.length) (hi : tis t ((k : Int) + 1) = true) (hd : BytesR w vd n.data) (he : EntsR w ve n.ents) (hf : Few n) (hn : rightP n) (hP : ∀ b, w.heap.size ≤ b → P b) :
    Calls Try.prog 14 #[.pointer (some ⟨g, 0, none⟩), .int .i64 ((k : Int) + 1), nodeV n vd ve] w fun e w' => e = .returned (.int .i64 0) ∧ TabR w' g (setT t ((k : Int) + 1) n) P ∧ w.grownBy w' (some g) := by
  have HH := Lib.hid (fun W (hb : Below w.heap.size w W) => thas_any (.pointer (some ⟨g, 0, none⟩)) t ((k : Int) + 1) W ((h.below hb).ptr))
  rw [hi] at HH
  have HR := Lib.hid (fun W (hb : Below w.heap.size w W) => right_any n vd ve W (hd.below hb) (he.below hb) hf)
  rw [toB_true hn] at HR
  have HB1 := Lib.hid (ba w (.cells (ndC n vd ve) 39))
  have HK1 := Lib.hid (Blk.new w 39 (ndC n vd ve))
  have hhi := h.hi
  have HT := Lib.hid h
  obtain ⟨A1, c1, rfl⟩ := bytes_form hd rfl
  obtain ⟨A2, c2, rfl⟩ := ents_form he rfl
  have HD := Lib.hid hd
  have HE := Lib.hid he
  have HF := Lib.hid hf
  have HN := Lib.hid hn
  have HPP := Lib.hid hP
  clear h hi hd he hf hn hP
  unfold nodeV
  go_enter Try.func14, Try.ntmps14
  go_wp2_with fail
  refine (HH.out _ HB1.out).mono ?_
  rintro e w2 ⟨rfl, hb2⟩
  have HB2 := Lib.hid (bt hb2 HB1.out)
  have hk2 := HK1.out.below hb2
  have HK2 := Lib.hid hk2
  obtain ⟨p0, p1, p2, p3, p4, p5, p6⟩ := hk2.c7
  clear hb2 hk2
  go_wp2_with fail
  refine (HR.out _ HB2.out).mono ?_
  rintro e w3 ⟨rfl, hb3⟩
  have HB3 := Lib.hid (bt hb3 HB2.out)
  have hk3 := HK2.out.below hb3
  clear hb3 p0 p1 p2 p3 p4 p5 p6
  obtain ⟨p0, p1, p2, p3, p4, p5, p6⟩ := hk3.c7
  clear hk3
  have HC := Lib.hid (fun W (hb : Below w.heap.size w W) => copied_any n _ _ W (HD.out.below hb) (HE.out.below hb) HF.out)
  have HBD := Lib.hid (show Below w.heap.size w w3.drew from bdN HB3.out 1)
  go_wp2_with fail
  have j1 : IntKind.i64.wrap ((k : Int) + 1 - 1) = (k : Int) := by rw [IntKind.wrap_i64]; omega
  have j2 : IntKind.i64.wrap (k : Int) = (k : Int) := by rw [IntKind.wrap_i64]; omega
  have j3 : (k : Int) < 24 := by omega
  have j4 : k < 24 := by omega
  go_region_with (go_at_call 41; refine (HC.out _ HBD.out).mono ?_; rintro e w5 ⟨vd5, ve5, rfl, hd5, he5, hl5, hm5, hb5⟩; have ht5 := (HT.out.below HBD.out).below hb5; obtain ⟨cs5, hk5, hs5⟩ := ht5.blk; obtain ⟨⟨x0, q0⟩, ⟨x1, q1⟩, ⟨x2, q2⟩, ⟨x3, q3⟩, ⟨x4, q4⟩, ⟨x5, q5⟩, ⟨x6, q6⟩⟩ := putA_there (o := 1 + k * 7) hk5 (by omega); obtain ⟨A5, k5, hv5⟩ := bytesT_form hd5; obtain ⟨A6, k6, hv6⟩ := entsT_form he5; subst hv5 hv6; unfold nodeV; have f5 := fun i => ht5.frozen i; have HT5 := Lib.hid ht5; have HD5 := Lib.hid hd5; have HE5 := Lib.hid he5; have HL5 := Lib.hid hl5; have HM5 := Lib.hid hm5; have HB5 := Lib.hid (bt hb5 HBD.out); clear hb5 ht5 hd5 he5 hl5 hm5 hk5 hs5)
  have hS := put_end HT5.out hk rfl HN.out HD5.out HE5.out (HL5.out.mono (fun b hb => HPP.out b (Nat.le_trans HBD.out.size hb))) (HM5.out.mono (fun b hb => HPP.out b (Nat.le_trans HBD.out.size hb))) (grown_below HB5.out (some g))
  unfold putA at hS
  have HS := Lib.hid hS
  clear hS q0 q1 q2 q3 q4 q5 q6 f5
  go_wp2
  go_ret
  exact ⟨rfl, HS.out.1, HS.out.2⟩
/-- Put, of a table that is there. -/
theorem put_any (g : Nat) (t : List Nd) (P : Nat → Prop) (i : Int) (n : Nd) (vd ve : Value) (w : World) (h : TabR w g t P) (hd : BytesR w vd n.data) (he : EntsR w ve n.ents) (hf : Few n) (hP : ∀ b, w.heap.size ≤ b → P b) :
    Calls Try.prog 14 #[.pointer (some ⟨g, 0, none⟩), .int .i64 i, nodeV n vd ve] w fun e w' => e = .returned (.int .i64 (putE t i (toB (rightP n)))) ∧ TabR w' g (actT t 0 i n (toB (rightP n))) P ∧ w.grownBy w' (some g) := by
  cases hi : tis t i with
  | false =>
    refine (put_none _ t i n vd ve w h.ptr hi hd he).mono ?_
    rintro e w' ⟨rfl, hb⟩
    refine ⟨by rw [putE, if_pos hi], ?_, grown_below hb _⟩
    rw [actT, if_pos rfl, if_neg (by rw [hi]; rintro ⟨q, -⟩; cases q)]
    exact h.below hb
  | true =>
    by_cases hn : rightP n
    · have hin := tis_in hi
      obtain ⟨k, hk⟩ : ∃ k : Nat, i = (k : Int) + 1 := ⟨(i - 1).toNat, by omega⟩
      subst hk
      refine (put_yes g t P k n vd ve w h (by omega) hi hd he hf hn hP).mono ?_
      rintro e w' ⟨rfl, ht, hg⟩
      refine ⟨by rw [putE, if_neg (by rw [hi]; exact Bool.noConfusion), toB_true hn]; rfl, ?_, hg⟩
      rw [actT, if_pos rfl, if_pos ⟨hi, toB_true hn⟩]
      exact ht
    · refine (put_wrong _ t i n vd ve w h.ptr hi hd he hf (toB_false hn)).mono ?_
      rintro e w' ⟨rfl, hb⟩
      refine ⟨by rw [putE, if_neg (by rw [hi]; exact Bool.noConfusion), toB_false hn]; rfl, ?_, grown_below hb _⟩
      rw [actT, if_pos rfl, if_neg (by rw [toB_false hn]; rintro ⟨-, q⟩; cases q)]
      exact h.below hb
end Go.Proofs.Ytmapkmjhpebcbaa
