/-
  Two changes of one node by itself, one behind the other, and a node that no entry has, as plain mathematics. No condition. The walk of ChangeParts: it answers true of whatever is told, and of any numbers; with what is said of package sys's example. The condition: what is told is no longer than a machine can hold. Arguments of the statements of stages 10 and on, read and shut again. No condition. Bytes as an argument of the statements of stage 16: read with the room that they have. No condition.
-/
import Derived.Test.YtnkjaocmfhjnoaaGreatD4
import Derived.Test.YtnkjaocmfhjnoaaGreatD9
import Derived.Test.YtnkjaocmfhjnoaaGreatD16
import Derived.Test.YtnkjaocmfhjnoaaGreatD21
import Derived.ProofKit
import Derived.OpenShut
import Derived.Deep.DeepHandedRow
import Derived.Carry
import Derived.Lib.LaidTab
import Derived.Deep.Slices
import Derived.Deep.Strs
namespace Go.Proofs.YtnkjaocmfhjnoaaGreat
open Go Go.RowKit
set_option maxRecDepth 100000

def cpN (n : Nd) (a u : Int) : Nd := ⟨n.kind, a, u, n.gid, n.data, n.ents, n.target⟩
def cpF : Nd := ⟨1, 0, 0, 0, [], [], []⟩
theorem cpF_right : rightP cpF := ⟨⟨⟨by decide, by decide⟩, ⟨by decide, by decide⟩, ⟨by decide, by decide⟩⟩, .inl ⟨rfl, rfl, rfl, by decide⟩⟩
theorem cp_right {n : Nd} (h : rightP n) (hk : n.kind ≠ 3) {a u : Int} (ha : 0 ≤ a ∧ a ≤ 4095) (hu : 0 ≤ u ∧ u ≤ 65535) : rightP (cpN n a u) := by
  refine ⟨⟨ha, hu, h.1.2.2⟩, ?_⟩
  rcases h.2 with q | q | q
  · exact .inl q
  · exact .inr (.inl q)
  · exact absurd q.1 hk
theorem cp_few {n : Nd} (h : Few n) (a u : Int) : Few (cpN n a u) := ⟨h.1, h.2, h.3, h.4⟩
theorem cp_act {t : List Nd} {k : Int} {m : Nd} (h : tis t k = true) (hr : rightP m) : actT t 0 k m (toB (rightP m)) = setT t k m := by
  unfold actT
  rw [if_pos rfl, if_pos ⟨h, toB_true hr⟩]
theorem cp_tis {t : List Nd} {k : Int} {m : Nd} (h : tis t k = true) (hr : rightP m) : tis (setT t k m) k = true := by
  rw [tis_set (tis_in h), if_pos rfl]
  exact decide_eq_true (right_kind hr)
theorem cp_get {t : List Nd} {k : Int} {m1 m2 : Nd} (h : tis t k = true) (j : Int) : tget (setT (setT t k m1) k m2) j = if j = k then m2 else tget t j := by
  rw [tget_set (by rw [len_setT]; exact tis_in h), tget_set (tis_in h)]
  split
  · rfl
  · rfl
theorem cp_same {t : List Nd} {k : Int} {m1 m2 : Nd} (h : tis t k = true) (he : tget t k = m2) : ofC t (setT (setT t k m1) k m2) = Chg.zero := ofC_same (fun j => by
  rw [cp_get h]
  split
  · rename_i q; rw [q]; exact he
  · rfl)
theorem cp_of {t : List Nd} {k : Int} {m1 : Nd} {a u : Int} (h : tis t k = true) (hl : t.length ≤ 24) (hne : tget t k ≠ cpN (tget t k) a u) : ofC t (setT (setT t k m1) k (cpN (tget t k) a u)) = Chg.n 1 k := by
  have hi := tis_in h
  have hk : (tget t k).kind ≠ 0 := of_decide_eq_true h
  have e : tget (setT (setT t k m1) k (cpN (tget t k) a u)) k = cpN (tget t k) a u := by rw [cp_get h, if_pos rfl]
  rw [of_alone (i := k) ⟨hi.1, by omega⟩ (fun j hj => by rw [cp_get h, if_neg hj]) (by
    rw [e]
    refine cls_els hne hk hk (fun z => hne ?_)
    have e1 := z.2
    unfold bareN cpN at e1
    injection e1 with x1 x2 x3 x4 x5 x6 x7
    unfold cpN
    have y2 : (tget t k).mode = a := x2
    have y3 : (tget t k).uid = u := x3
    rw [← y2, ← y3])]
  rw [e]
  unfold aloneC
  rw [toB_true (by rfl)]
  rfl
theorem cp_add {t : List Nd} (hl : t.length ≤ 24) (hf : freeT t 0 ≠ 0) : ofC (setT t (freeT t 0) cpF) t = Chg.n 6 (freeT t 0) := by
  obtain ⟨h1, h2, -⟩ := free_is hf
  refine of_free ⟨h1.1, by omega⟩ (fun j hj => by rw [tget_set h1, if_neg hj]) (by rw [tget_set h1, if_pos rfl]; decide) ?_
  have h3 := of_decide_eq_false h2
  exact Classical.byContradiction h3
theorem cp_addT {t : List Nd} (hf : freeT t 0 ≠ 0) : actT t 1 0 cpF (toB (rightP cpF)) = setT t (freeT t 0) cpF := by
  unfold actT
  rw [if_neg (by decide), if_pos rfl, if_pos ⟨toB_true cpF_right, hf⟩]
theorem cp_num {i : Int} {T : List Nd} (h : Trx T) : tis T (i % (usedT T : Int) + 1) = true ∧ 0 < (usedT T : Int) := by
  have h1 : 1 ≤ usedT T := by
    have h0 : tis T 1 = true := decide_eq_true (by rw [h.one]; decide)
    have := ((h.num 1).1 h0).2
    omega
  have h2 : (0 : Int) < usedT T := by omega
  have h3 := Int.emod_nonneg i (show (usedT T : Int) ≠ 0 by omega)
  have h4 := Int.emod_lt_of_pos i h2
  exact ⟨(h.num _).2 ⟨by omega, by omega⟩, h2⟩
end Go.Proofs.YtnkjaocmfhjnoaaGreat
namespace Go.Proofs.YtnkjaocmfhjnoaaGreat
open Go Go.RowKit
set_option maxRecDepth 100000

attribute [local go_sem] cell_off4 cell_blk4
structure CpS (w W : World) (g zc z5 z6 s : Nat) (T T' : List Nd) (n m : Nd) (vd ve : Value) : Prop where
  hb : Below w.heap.size w W
  ht : TabR W g T' (fun _ => True)
  hc : TabR W zc T (fun b => zc ≤ b)
  hd : BytesT W vd n.data
  he : EntsT W ve n.ents
  ld : LP (fun b => s ≤ b) vd
  le : LP (fun b => s ≤ b) ve
  k5 : Blk W z5 65 (ndC n vd ve)
  k6 : Blk W z6 65 (ndC m vd ve)
  o : w.heap.size ≤ g ∧ g < zc ∧ zc < s ∧ s ≤ z5 ∧ z5 < z6
section
variable {w W W' : World} {g zc z5 z6 s : Nat} {T T' : List Nd} {n m : Nd} {vd ve : Value}
theorem CpS.below (h : CpS w W g zc z5 z6 s T T' n m vd ve) (hb : Below W.heap.size W W') : CpS w W' g zc z5 z6 s T T' n m vd ve :=
  ⟨bt hb h.hb, h.ht.below hb, h.hc.below hb, h.hd.below hb, h.he.below hb, h.ld, h.le, h.k5.below hb, h.k6.below hb, h.o⟩
theorem CpS.put (h : CpS w W g zc z5 z6 s T T' n m vd ve) {T2 : List Nd} (hg : W.grownBy W' (some g)) (ht : TabR W' g T2 (fun _ => True)) : CpS w W' g zc z5 z6 s T T2 n m vd ve := by
  have o := h.o
  exact ⟨below_grown h.hb hg o.1, ht, h.hc.other hg (by omega) (fun b hp _ _ => by omega), h.hd.other hg (fun ad _ _ hv => by have := h.ld ad _ _ hv; omega), h.he.other hg (fun ad _ _ hv => by have := h.le ad _ _ hv; omega), h.ld, h.le, h.k5.kept hg (some_ne (by omega)), h.k6.kept hg (some_ne (by omega)), o⟩
theorem CpS.six (h : CpS w W g zc z5 z6 s T T' n m vd ve) {m2 : Nd} (hg : W.grownBy W' (some z6)) (hk : Blk W' z6 65 (ndC m2 vd ve)) : CpS w W' g zc z5 z6 s T T' n m2 vd ve := by
  have o := h.o
  exact ⟨below_grown h.hb hg (by omega), h.ht.kind hg (by omega) h.k6 (by decide) (by decide), h.hc.kind hg (by omega) h.k6 (by decide) (by decide), h.hd.other hg (fun ad _ _ hv => by obtain ⟨cs, hb⟩ := h.hd.2 ad _ _ hv; exact blk_ne hb h.k6 (by decide)), h.he.other hg (fun ad _ _ hv => by obtain ⟨cs, hb⟩ := h.he.2 ad _ _ hv; exact blk_ne hb h.k6 (by decide)), h.ld, h.le, h.k5.kept hg (some_ne (by omega)), hk, o⟩
theorem CpS.far (h : CpS w W g zc z5 z6 s T T' n m vd ve) {z : Nat} {cs : Array Value} (hz : z6 < z) (hk : Blk W z 36 cs) (hg : W.grownBy W' (some z)) : CpS w W' g zc z5 z6 s T T' n m vd ve := by
  have o := h.o
  exact ⟨below_grown h.hb hg (by omega), h.ht.kind hg (by omega) hk (by decide) (by decide), h.hc.kind hg (by omega) hk (by decide) (by decide), h.hd.other hg (fun ad _ _ hv => by obtain ⟨cs, hb⟩ := h.hd.2 ad _ _ hv; exact blk_ne hb hk (by decide)), h.he.other hg (fun ad _ _ hv => by obtain ⟨cs, hb⟩ := h.he.2 ad _ _ hv; exact blk_ne hb hk (by decide)), h.ld, h.le, h.k5.kept hg (some_ne (by omega)), h.k6.kept hg (some_ne (by omega)), o⟩
end
set_option maxHeartbeats 1500000 in
theorem lparts_any {R : World → Value → Sym → List Nat → Prop} (HPD : SysD R) (x0 : Int) (v1 : Value) (l : List Rw) (i a b uid : Int) (w : World) (h1 : RawsR w v1 l) (hl1 : l.length ≤ maxLen) (bi : 0 ≤ i ∧ i ≤ 255) (ba1 : 0 ≤ a ∧ a ≤ 65535) (bb : 0 ≤ b ∧ b ≤ 65535) (bu : 0 ≤ uid ∧ uid ≤ 255) :
    Calls Tryz.prog 6 #[.int .i64 x0, v1, .int .u8 i, .int .u16 a, .int .u16 b, .int .u8 uid] w fun e w' => e = .returned (.bool true) ∧ Below w.heap.size w w' := by
  have HA := Lib.hid (awk18_any HPD w)
  have HR := Lib.hid h1
  have HL1 := Lib.hid hl1
  obtain ⟨A, hA⟩ : ∃ A, a % 4096 = A := ⟨_, rfl⟩
  obtain ⟨B, hB⟩ : ∃ B, b % 4096 = B := ⟨_, rfl⟩
  have bA1 : 0 ≤ A ∧ A ≤ 4095 := by omega
  have bB1 : 0 ≤ B ∧ B ≤ 4095 := by omega
  have a1 : a.tmod 4096 = A := by rw [Int.tmod_eq_emod_of_nonneg ba1.1]; exact hA
  have a2 : b.tmod 4096 = B := by rw [Int.tmod_eq_emod_of_nonneg bb.1]; exact hB
  have a3 : IntKind.i64.wrap A = A := by rw [IntKind.wrap_i64] <;> omega
  have a4 : IntKind.i64.wrap B = B := by rw [IntKind.wrap_i64] <;> omega
  have a5 : IntKind.i64.wrap i = i := by rw [IntKind.wrap_i64] <;> omega
  have a6 : IntKind.i64.wrap uid = uid := by rw [IntKind.wrap_i64] <;> omega
  have HBD := Lib.hid (show (0 ≤ A ∧ A ≤ 4095) ∧ (0 ≤ B ∧ B ≤ 4095) ∧ (0 ≤ uid ∧ uid ≤ 65535) ∧ 0 ≤ i from ⟨bA1, bB1, by omega, bi.1⟩)
  clear h1 hl1 HPD hA hB
  go_enter Tryz.func6, Tryz.ntmps6
  go_wp2_with fail
  refine HA.out.mono ?_
  rintro e w2 ⟨rfl, hb2⟩
  have HB2 := Lib.hid hb2
  have HBL := Lib.hid (show Calls Tryz.prog 8 #[.int .i64 x0, v1, .agg #[.int .i64 0, .int .i64 0, .slice none 0 0]] w2 fun e w' => BltAns w2 x0 l wh0 e w' ∧ Below w2.heap.size w2 w' from built_any x0 v1 l wh0 none 0 0 w2 (HR.out.below hb2) HL1.out (IntsR.nil w2))
  clear hb2 HA HR HL1
  go_wp2_with fail
  refine HBL.out.mono ?_
  rintro e w3 ⟨hans, hb3⟩
  have HB3 := Lib.hid (bt hb3 HB2.out)
  clear hb3 HBL
  rcases hans with ⟨rfl, -⟩ | ⟨g, T, rfl, hBl, hT, hG⟩
  · go_wp2
    go_ret
    exact ⟨rfl, HB3.out⟩
  have hTX := (tre_all hBl.2).1
  obtain ⟨hk1, hk2⟩ := cp_num (i := i) hTX
  have hle := hTX.le
  have hG1 : w.heap.size ≤ g := Nat.le_trans HB2.out.size hG
  have HUS := Lib.hid (used_any _ T w3 hT.ptr)
  have HOK := Lib.hid hTX.ok
  obtain ⟨U, hU⟩ : ∃ U : Int, (usedT T : Int) = U := ⟨_, rfl⟩
  have hUb : U ≤ 24 := by have := used_le T; omega
  rw [hU] at HUS hk1 hk2
  obtain ⟨k, hk⟩ : ∃ k, i % U + 1 = k := ⟨_, rfl⟩
  have m0 := Int.emod_nonneg i (show U ≠ 0 by omega)
  have m1 := Int.emod_lt_of_pos i hk2
  have m2 : i.tmod U + 1 = k := by rw [Int.tmod_eq_emod_of_nonneg bi.1]; exact hk
  have m3 : IntKind.i64.wrap k = k := by rw [IntKind.wrap_i64] <;> omega
  have m4 : ¬ U = 0 := by omega
  have m5 : ¬ usedT T = 0 := by omega
  rw [hk] at hk1
  have HTK := Lib.hid hk1
  have HNR := Lib.hid (tis_right hTX.ok hk1)
  have HNF := Lib.hid (ok_few hTX.ok k)
  have HLE := Lib.hid hle
  have HT := Lib.hid hT
  clear hBl hT hG HB2 hTX hle
  go_wp2_with fail
  refine HUS.out.mono ?_
  rintro e w4 ⟨rfl, hb4⟩
  have HT4 := Lib.hid (HT.out.below hb4)
  have HB4 := Lib.hid (bt hb4 HB3.out)
  have HCL := Lib.hid (clone_any g T (fun _ => True) (fun b => w4.heap.size ≤ b) w4 HT4.out (fun b h => h))
  clear hb4 HUS HT HB3
  go_wp2_with fail
  refine HCL.out.mono ?_
  rintro e w5 ⟨rfl, hc5, hb5⟩
  have hgz : g < w4.heap.size := HT4.out.lt
  obtain ⟨zc, hzc⟩ : ∃ z, w4.heap.size = z := ⟨_, rfl⟩
  have hb5' := bt hb5 HB4.out
  have hT5 := HT4.out.below hb5
  rw [hzc] at hc5 hgz ⊢
  have hs5 : zc < w5.heap.size := hc5.lt
  have HGT := Lib.hid (get_any _ T k w5 hT5.ptr)
  rw [hk1] at HGT
  obtain ⟨n, hn⟩ : ∃ n, tget T k = n := ⟨_, rfl⟩
  rw [hn] at HGT HNR HNF
  have HC5 := Lib.hid hc5
  have HT5 := Lib.hid hT5
  have HB5 := Lib.hid hb5'
  have HO5 := Lib.hid (show w.heap.size ≤ g ∧ g < zc ∧ zc < w5.heap.size from ⟨hG1, hgz, hs5⟩)
  clear hb5 hb5' hT5 hc5 hzc hgz hs5 HCL HT4 HB4 hG1 hU hk m0 m1 hk1 hk2
  go_wp2_with fail
  refine HGT.out.mono ?_
  rintro e w6 ⟨vd, ve, rfl, hd, he, ld, le, hb6⟩
  obtain ⟨B1, k1, rfl⟩ := bytes_form hd.1 rfl
  obtain ⟨B2, k2, rfl⟩ := entsT_form he
  obtain ⟨z5, hz5⟩ : ∃ z, w6.heap.size = z := ⟨_, rfl⟩
  have hb7 := ba w6 (.cells ndZ 65)
  have hk7 := Blk.new w6 65 ndZ
  rw [hz5] at hk7
  obtain ⟨W7, hW7⟩ : ∃ W, w6.alloc (.cells ndZ 65) = W := ⟨_, rfl⟩
  rw [hW7] at hb7 hk7
  have hg8 := grown7 W7 z5 (.int .i64 n.kind) (.int .i64 n.mode) (.int .i64 n.uid) (.int .i64 n.gid) (.slice B1 n.data.length k1) (.slice B2 n.ents.length k2) (.string (bA n.target))
  have hk8 := hk7.put7 (.int .i64 n.kind) (.int .i64 n.mode) (.int .i64 n.uid) (.int .i64 n.gid) (.slice B1 n.data.length k1) (.slice B2 n.ents.length k2) (.string (bA n.target))
  have hs6 : w5.heap.size ≤ z5 := by rw [← hz5]; exact hb6.size
  have ht8 := ((HT5.out.below hb6).below hb7).kind hg8 (by have := HO5.out; omega) hk7 (by decide) (by decide)
  have hc8 := ((HC5.out.below hb6).below hb7).kind hg8 (by have := HO5.out; omega) hk7 (by decide) (by decide)
  have hd8 := (hd.below hb7).other hg8 (fun ad _ _ hv => by obtain ⟨cs, hb⟩ := (hd.below hb7).2 ad _ _ hv; exact blk_ne hb hk7 (by decide))
  have he8 := (he.below hb7).other hg8 (fun ad _ _ hv => by obtain ⟨cs, hb⟩ := (he.below hb7).2 ad _ _ hv; exact blk_ne hb hk7 (by decide))
  have hb8 := below_grown (bt hb7 (bt hb6 HB5.out)) hg8 (by have := HO5.out; omega)
  unfold nodeV
  obtain ⟨p0, p1, p2, p3, p4, p5, p6⟩ := hk7.c7
  obtain ⟨f0, f1, f2, f3, f4, f5, f6⟩ := hk7.f7
  have HLD := Lib.hid ld
  have HLE2 := Lib.hid le
  have HS6 := Lib.hid hs6
  clear hd he ld le hb6 hb7 hk7 hg8 HGT HT5 HC5 HB5 hs6
  go_upto_region 10 with fail
  clear hW7 hz5
  unfold put7 at hk8 ht8 hc8 hd8 he8 hb8
  obtain ⟨W8, hW8⟩ : ∃ W, ((((((W7.setCell ⟨z5, 0, none⟩ (.int .i64 n.kind)).setCell ⟨z5, 1, none⟩ (.int .i64 n.mode)).setCell ⟨z5, 2, none⟩ (.int .i64 n.uid)).setCell ⟨z5, 3, none⟩ (.int .i64 n.gid)).setCell ⟨z5, 4, none⟩ (.slice B1 n.data.length k1)).setCell ⟨z5, 5, none⟩ (.slice B2 n.ents.length k2)).setCell ⟨z5, 6, none⟩ (.string (bA n.target)) = W := ⟨_, rfl⟩
  rw [hW8] at hk8 ht8 hc8 hd8 he8 hb8 ⊢
  clear hW8 p0 p1 p2 p3 p4 p5 p6 f0 f1 f2 f3 f4 f5 f6
  obtain ⟨n0, n1, n2, n3, n4, n5, n6⟩ := hk8.c7
  by_cases h3 : n.kind = 3
  · have HB8 := Lib.hid hb8
    rw [h3] at n0
    clear n1 n2 n3 n4 n5 n6 hk8 ht8 hc8 hd8 he8 hb8
    go_wp2
    go_ret
    exact ⟨rfl, HB8.out⟩
  have e3 : (n.kind == 3) = false := by rw [beq_eq_false_iff_ne]; exact h3
  -- the second box
  obtain ⟨z6, hz6⟩ : ∃ z, W8.heap.size = z := ⟨_, rfl⟩
  have hl6 : z5 < z6 := by rw [← hz6]; exact hk8.lt
  have hb9 := ba W8 (.cells ndZ 65)
  have hk9 := Blk.new W8 65 ndZ
  rw [hz6] at hk9
  obtain ⟨W9, hW9⟩ : ∃ W, W8.alloc (.cells ndZ 65) = W := ⟨_, rfl⟩
  rw [hW9] at hb9 hk9
  have hg10 := grown7 W9 z6 (.int .i64 n.kind) (.int .i64 n.mode) (.int .i64 n.uid) (.int .i64 n.gid) (.slice B1 n.data.length k1) (.slice B2 n.ents.length k2) (.string (bA n.target))
  have hk10 := hk9.put7 (.int .i64 n.kind) (.int .i64 n.mode) (.int .i64 n.uid) (.int .i64 n.gid) (.slice B1 n.data.length k1) (.slice B2 n.ents.length k2) (.string (bA n.target))
  have hO5 := HO5.out
  have hS6 := HS6.out
  have hS0 : CpS w (put7 W9 z6 (.int .i64 n.kind) (.int .i64 n.mode) (.int .i64 n.uid) (.int .i64 n.gid) (.slice B1 n.data.length k1) (.slice B2 n.ents.length k2) (.string (bA n.target))) g zc z5 z6 w5.heap.size T T n n (.slice B1 n.data.length k1) (.slice B2 n.ents.length k2) :=
    ⟨below_grown (bt hb9 hb8) hg10 (by omega), (ht8.below hb9).kind hg10 (by omega) hk9 (by decide) (by decide), (hc8.below hb9).kind hg10 (by omega) hk9 (by decide) (by decide), (hd8.below hb9).other hg10 (fun ad _ _ hv => by obtain ⟨cs, hb⟩ := (hd8.below hb9).2 ad _ _ hv; exact blk_ne hb hk9 (by decide)), (he8.below hb9).other hg10 (fun ad _ _ hv => by obtain ⟨cs, hb⟩ := (he8.below hb9).2 ad _ _ hv; exact blk_ne hb hk9 (by decide)), HLD.out, HLE2.out, (hk8.below hb9).kept hg10 (some_ne (by omega)), hk10, ⟨hO5.1, hO5.2.1, hO5.2.2, hS6, hl6⟩⟩
  obtain ⟨p0, p1, p2, p3, p4, p5, p6⟩ := hk9.c7
  obtain ⟨f0, f1, f2, f3, f4, f5, f6⟩ := hk9.f7
  have HH3 := Lib.hid h3
  clear hb9 hk9 hg10 hO5 hS6 hl6 hk8 ht8 hc8 hd8 he8 hb8 h3 HO5 HS6 HLD HLE2
  go_upto_region 15 with fail
  clear hW9 hz6 e3
  unfold put7 at hk10 hS0
  obtain ⟨W10, hW10⟩ : ∃ W, ((((((W9.setCell ⟨z6, 0, none⟩ (.int .i64 n.kind)).setCell ⟨z6, 1, none⟩ (.int .i64 n.mode)).setCell ⟨z6, 2, none⟩ (.int .i64 n.uid)).setCell ⟨z6, 3, none⟩ (.int .i64 n.gid)).setCell ⟨z6, 4, none⟩ (.slice B1 n.data.length k1)).setCell ⟨z6, 5, none⟩ (.slice B2 n.ents.length k2)).setCell ⟨z6, 6, none⟩ (.string (bA n.target)) = W := ⟨_, rfl⟩
  rw [hW10] at hk10 hS0 ⊢
  clear hW10 p0 p1 p2 p3 p4 p5 p6 f0 f1 f2 f3 f4 f5 f6 n0 n1 n2 n3 n4 n5 n6
  obtain ⟨f0, f1, f2, f3, f4, f5, f6⟩ := hk10.f7
  obtain ⟨p0, p1, p2, p3, p4, p5, p6⟩ := hk10.c7
  have hSA : CpS w (W10.setCell ⟨z6, 1, none⟩ (.int .i64 A)) g zc z5 z6 w5.heap.size T T n (cpN n A n.uid) (.slice B1 n.data.length k1) (.slice B2 n.ents.length k2) := hS0.six (grown_setCell W10 ⟨z6, 1, none⟩ (.int .i64 A)) (hk10.set7_1 (.int .i64 A))
  have hkA := hk10.set7_1 (.int .i64 A)
  clear hS0 hk10
  go_upto_region 16 with fail
  obtain ⟨W11, hW11⟩ : ∃ W, W10.setCell ⟨z6, 1, none⟩ (.int .i64 A) = W := ⟨_, rfl⟩
  rw [hW11] at hSA hkA ⊢
  clear hW11 f0 f1 f2 f3 f4 f5 f6 p0 p1 p2 p3 p4 p5 p6
  obtain ⟨c0, c1, c2, c3, c4, c5, c6⟩ := hkA.c7
  have hr1 : rightP (cpN n A n.uid) := cp_right HNR.out HH3.out HBD.out.1 HNR.out.1.2.1
  have HP1 := Lib.hid (show Calls Tryz.prog 22 #[.pointer (some ⟨g, 0, none⟩), .int .i64 k, .agg #[.int .i64 n.kind, .int .i64 A, .int .i64 n.uid, .int .i64 n.gid, .slice B1 n.data.length k1, .slice B2 n.ents.length k2, .string (bA n.target)]] W11 fun e w' => (∃ x, e = .returned (.int .i64 x)) ∧ TabR w' g (setT T k (cpN n A n.uid)) (fun _ => True) ∧ W11.grownBy w' (some g) from by
    refine (put_any g T _ k (cpN n A n.uid) (.slice B1 n.data.length k1) (.slice B2 n.ents.length k2) W11 hSA.ht hSA.hd.1 hSA.he.1 (cp_few HNF.out _ _) (fun _ _ => trivial)).mono ?_
    rintro e w' ⟨h1, h2, h3⟩
    rw [cp_act HTK.out hr1] at h2
    exact ⟨⟨_, h1⟩, h2, h3⟩)
  have HT1 := Lib.hid (cp_tis HTK.out hr1)
  obtain ⟨T1, hT1⟩ : ∃ T1, setT T k (cpN n A n.uid) = T1 := ⟨_, rfl⟩
  rw [hT1] at HP1 HT1
  have HSA := Lib.hid hSA
  clear hSA hkA hr1
  go_wp2_with fail
  refine HP1.out.mono ?_
  rintro e w12 ⟨⟨x, rfl⟩, ht12, hg12⟩
  clear c0 c1 c2 c3 c4 c5 c6
  have hS12 := HSA.out.put hg12 ht12
  have hk12 : Blk w12 z6 65 #[.int .i64 n.kind, .int .i64 A, .int .i64 n.uid, .int .i64 n.gid, .slice B1 n.data.length k1, .slice B2 n.ents.length k2, .string (bA n.target)] := hS12.k6
  have hkB := (hk12.set7_1 (.int .i64 B)).set7_2 (.int .i64 uid)
  have hSB : CpS w ((w12.setCell ⟨z6, 1, none⟩ (.int .i64 B)).setCell ⟨z6, 2, none⟩ (.int .i64 uid)) g zc z5 z6 w5.heap.size T T1 n (cpN n B uid) (.slice B1 n.data.length k1) (.slice B2 n.ents.length k2) := hS12.six (grown_trans (grown_setCell w12 ⟨z6, 1, none⟩ (.int .i64 B)) (grown_setCell (w12.setCell ⟨z6, 1, none⟩ (.int .i64 B)) ⟨z6, 2, none⟩ (.int .i64 uid))) hkB
  obtain ⟨f0, f1, f2, f3, f4, f5, f6⟩ := hk12.f7
  obtain ⟨p0, p1, p2, p3, p4, p5, p6⟩ := hk12.c7
  clear hg12 ht12 hS12 hk12 HP1 HSA
  go_upto_region 19 with fail
  obtain ⟨W13, hW13⟩ : ∃ W, (w12.setCell ⟨z6, 1, none⟩ (.int .i64 B)).setCell ⟨z6, 2, none⟩ (.int .i64 uid) = W := ⟨_, rfl⟩
  rw [hW13] at hSB hkB ⊢
  clear hW13 f0 f1 f2 f3 f4 f5 f6 p0 p1 p2 p3 p4 p5 p6
  obtain ⟨c0, c1, c2, c3, c4, c5, c6⟩ := hkB.c7
  have hr2 : rightP (cpN n B uid) := cp_right HNR.out HH3.out HBD.out.2.1 HBD.out.2.2.1
  have HP2 := Lib.hid (show Calls Tryz.prog 22 #[.pointer (some ⟨g, 0, none⟩), .int .i64 k, .agg #[.int .i64 n.kind, .int .i64 B, .int .i64 uid, .int .i64 n.gid, .slice B1 n.data.length k1, .slice B2 n.ents.length k2, .string (bA n.target)]] W13 fun e w' => (∃ x, e = .returned (.int .i64 x)) ∧ TabR w' g (setT T1 k (cpN n B uid)) (fun _ => True) ∧ W13.grownBy w' (some g) from by
    refine (put_any g T1 _ k (cpN n B uid) (.slice B1 n.data.length k1) (.slice B2 n.ents.length k2) W13 hSB.ht hSB.hd.1 hSB.he.1 (cp_few HNF.out _ _) (fun _ _ => trivial)).mono ?_
    rintro e w' ⟨h1, h2, h3⟩
    rw [cp_act HT1.out hr2] at h2
    exact ⟨⟨_, h1⟩, h2, h3⟩)
  -- what became of it
  obtain ⟨K, kk, hC, hC1, hC2⟩ : ∃ K kk, ofC T (setT T1 k (cpN n B uid)) = ⟨K, kk, 0, [], 0, [], 0⟩ ∧ (n = cpN n B uid → K = 0 ∧ kk = 0) ∧ (¬ n = cpN n B uid → K = 1 ∧ kk = k) := by
    rw [← hT1]
    by_cases q : n = cpN n B uid
    · exact ⟨0, 0, cp_same HTK.out (hn.trans q), fun _ => ⟨rfl, rfl⟩, fun z => absurd q z⟩
    · refine ⟨1, k, ?_, fun z => absurd z q, fun _ => ⟨rfl, rfl⟩⟩
      have h := cp_of (m1 := cpN n A n.uid) (a := B) (u := uid) HTK.out HLE.out (by rw [hn]; exact q)
      rw [hn] at h
      exact h
  have HLT := Lib.hid (show (setT T1 k (cpN n B uid)).length ≤ 24 by rw [len_setT, ← hT1, len_setT]; exact HLE.out)
  obtain ⟨T2, hT2⟩ : ∃ T2, setT T1 k (cpN n B uid) = T2 := ⟨_, rfl⟩
  rw [hT2] at HP2 hC HLT
  have HSB := Lib.hid hSB
  have HC1 := Lib.hid hC1
  have HC2 := Lib.hid hC2
  have HCC := Lib.hid hC
  clear hSB hkB hr2 hC hC1 hC2 hT1 hT2 HT1
  go_wp2_with fail
  refine HP2.out.mono ?_
  rintro e w14 ⟨⟨x, rfl⟩, ht14, hg14⟩
  clear c0 c1 c2 c3 c4 c5 c6
  have hS14 := HSB.out.put hg14 ht14
  have HOF := Lib.hid (show Calls Tryz.prog 13 #[.pointer (some ⟨zc, 0, none⟩), .pointer (some ⟨g, 0, none⟩)] w14 fun e w' => e = .returned (.agg #[.int .i64 K, .int .i64 kk, .int .i64 0, .string ⟨#[]⟩, .int .i64 0, .string ⟨#[]⟩, .int .i64 0]) ∧ Below w14.heap.size w14 w' from by
    have h := chOf_any _ _ _ _ w14 hS14.hc.ptr hS14.ht.ptr
    rw [HCC.out] at h
    exact h)
  have HS14 := Lib.hid hS14
  clear hS14 hg14 ht14 HP2 HSB HCC
  go_wp2_with fail
  refine HOF.out.mono ?_
  rintro e w15 ⟨rfl, hb15⟩
  obtain ⟨z7, hz7⟩ : ∃ z, w15.heap.size = z := ⟨_, rfl⟩
  have hb16 := ba w15 (.cells chZ 36)
  have hk16 := Blk.new w15 36 chZ
  have hl7 : z6 < z7 := by rw [← hz7]; exact (HS14.out.k6.below hb15).lt
  rw [hz7] at hk16
  obtain ⟨W16, hW16⟩ : ∃ W, w15.alloc (.cells chZ 36) = W := ⟨_, rfl⟩
  rw [hW16] at hb16 hk16
  have hS17 := ((HS14.out.below hb15).below hb16).far hl7 hk16 (grown7 W16 z7 (.int .i64 K) (.int .i64 kk) (.int .i64 0) (.string ⟨#[]⟩) (.int .i64 0) (.string ⟨#[]⟩) (.int .i64 0))
  have hk17 := hk16.put7 (.int .i64 K) (.int .i64 kk) (.int .i64 0) (.string ⟨#[]⟩) (.int .i64 0) (.string ⟨#[]⟩) (.int .i64 0)
  obtain ⟨p0, p1, p2, p3, p4, p5, p6⟩ := hk16.c7
  obtain ⟨f0, f1, f2, f3, f4, f5, f6⟩ := hk16.f7
  have HL7 := Lib.hid hl7
  clear hb15 hb16 hk16 hl7 HOF HS14
  go_upto_region 21 with fail
  clear hW16 hz7
  unfold put7 at hS17 hk17
  obtain ⟨W17, hW17⟩ : ∃ W, ((((((W16.setCell ⟨z7, 0, none⟩ (.int .i64 K)).setCell ⟨z7, 1, none⟩ (.int .i64 kk)).setCell ⟨z7, 2, none⟩ (.int .i64 0)).setCell ⟨z7, 3, none⟩ (.string ⟨#[]⟩)).setCell ⟨z7, 4, none⟩ (.int .i64 0)).setCell ⟨z7, 5, none⟩ (.string ⟨#[]⟩)).setCell ⟨z7, 6, none⟩ (.int .i64 0) = W := ⟨_, rfl⟩
  rw [hW17] at hS17 hk17 ⊢
  clear hW17 p0 p1 p2 p3 p4 p5 p6 f0 f1 f2 f3 f4 f5 f6
  have HSM := Lib.hid (show Calls Tryz.prog 23 #[.agg #[.int .i64 n.kind, .int .i64 n.mode, .int .i64 n.uid, .int .i64 n.gid, .slice B1 n.data.length k1, .slice B2 n.ents.length k2, .string (bA n.target)], .agg #[.int .i64 n.kind, .int .i64 B, .int .i64 uid, .int .i64 n.gid, .slice B1 n.data.length k1, .slice B2 n.ents.length k2, .string (bA n.target)]] W17 fun e w' => e = .returned (.bool (toB (n = cpN n B uid))) ∧ Below W17.heap.size W17 w' from same_any n (cpN n B uid) (.slice B1 n.data.length k1) (.slice B2 n.ents.length k2) (.slice B1 n.data.length k1) (.slice B2 n.ents.length k2) W17 hS17.hd.1 hS17.he.1 hS17.hd.1 hS17.he.1 HNF.out (cp_few HNF.out _ _))
  obtain ⟨n0, n1, n2, n3, n4, n5, n6⟩ := hS17.k5.c7
  have hk6 : Blk W17 z6 65 #[.int .i64 n.kind, .int .i64 B, .int .i64 uid, .int .i64 n.gid, .slice B1 n.data.length k1, .slice B2 n.ents.length k2, .string (bA n.target)] := hS17.k6
  obtain ⟨c0, c1, c2, c3, c4, c5, c6⟩ := hk6.c7
  have HS17 := Lib.hid hS17
  have HK17 := Lib.hid hk17
  clear hS17 hk17 hk6
  go_wp2_with fail
  refine HSM.out.mono ?_
  rintro e w18 ⟨rfl, hb18⟩
  clear n0 n1 n2 n3 n4 n5 n6 c0 c1 c2 c3 c4 c5 c6
  have hk18 := HK17.out.below hb18
  have hS18 := HS17.out.below hb18
  obtain ⟨p0, p1, p2, p3, p4, p5, p6⟩ := hk18.c7
  by_cases hq : n = cpN n B uid
  · obtain ⟨rfl, rfl⟩ := HC1.out hq
    have HB := Lib.hid hS18.hb
    rw [toB_true hq]
    clear hk18 hS18 hb18 HSM hq
    go_wp2
    go_ret
    exact ⟨rfl, HB.out⟩
  obtain ⟨rfl, rfl⟩ := HC2.out hq
  rw [toB_false hq]
  have HCL := Lib.hid (clone_any g T2 (fun _ => True) (fun _ => True) w18 hS18.ht (fun _ _ => trivial))
  have HTW := Lib.hid hS18.ht.within
  have HK18 := Lib.hid hk18
  have HB18 := Lib.hid hS18.hb
  have HLW := Lib.hid (show w.heap.size ≤ w18.heap.size from hS18.hb.size)
  clear hk18 hS18 hb18 HSM hq p0 p1 p2 p3 p4 p5 p6 HS17 HK17
  go_wp2_with fail
  refine HCL.out.mono ?_
  rintro e w19 ⟨rfl, hu19, hb19⟩
  have HT19 := Lib.hid (HTW.out.below hb19)
  have HK19 := Lib.hid (HK18.out.below hb19)
  have HB19 := Lib.hid (bt hb19 HB18.out)
  have hl19 : z7 < w18.heap.size := HK18.out.lt
  have hg19 : g < w18.heap.size := HTW.out.lt
  have HAD0 := add_any w18.heap.size T2 _ cpF (.slice none 0 0) (.slice none 0 0) w19 hu19 (BytesR.nil w19) (EntsR.nil w19) (right_few cpF_right) (fun _ _ => trivial) 0
  obtain ⟨X, E, T3, HAD, hX⟩ : ∃ X E T3, Hid (Calls Tryz.prog 24 #[.pointer (some ⟨w18.heap.size, 0, none⟩), .agg #[.int .i64 1, .int .i64 0, .int .i64 0, .int .i64 0, .slice none 0 0, .slice none 0 0, .string ⟨#[]⟩]] w19 fun e w' => e = .returned (.tuple #[.int .i64 X, .int .i64 E]) ∧ TabR w' w18.heap.size T3 (fun _ => True) ∧ w19.grownBy w' (some w18.heap.size)) ∧ (E = 28 ∨ E = 0 ∧ ofC T3 T2 = Chg.n 6 X) := by
    by_cases hf : freeT T2 0 = 0
    · refine ⟨_, _, _, Lib.hid HAD0, .inl ?_⟩
      unfold addE
      rw [toB_true cpF_right, if_neg (by decide), if_pos hf]
    · refine ⟨_, _, _, Lib.hid HAD0, .inr ⟨?_, ?_⟩⟩
      · unfold addE
        rw [toB_true cpF_right, if_neg (by decide), if_neg hf]
      · rw [cp_addT hf, cp_add HLT.out hf]
        unfold addI
        rw [toB_true cpF_right, if_pos rfl]
  obtain ⟨zu, hzu⟩ : ∃ z, w18.heap.size = z := ⟨_, rfl⟩
  rw [hzu] at hl19 hg19 HAD ⊢
  have HL19 := Lib.hid (show z7 < zu ∧ g < zu ∧ w.heap.size ≤ zu from ⟨hl19, hg19, by rw [← hzu]; exact HLW.out⟩)
  have HZU := Lib.hid hzu
  clear HAD0 hzu hl19 hg19 hu19 hb19 HCL HTW HK18 HB18
  go_wp2_with fail
  refine HAD.out.mono ?_
  rintro e w20 ⟨rfl, hu20, hg20⟩
  have ht20 := HT19.out.other hg20 (by have := HL19.out; omega) (fun b hp _ _ => by have h1 := hp.2; rw [HZU.out] at h1; omega)
  have HK20 := Lib.hid (HK19.out.kept hg20 (some_ne (by have := HL19.out; omega)))
  have HB20 := Lib.hid (below_grown HB19.out hg20 HL19.out.2.2)
  obtain ⟨D, hD⟩ : ∃ D, ofC T3 T2 = D := ⟨_, rfl⟩
  have HOF := Lib.hid (chOf_any _ _ _ _ w20 hu20.ptr ht20.ptr)
  rw [hD] at HOF hX
  obtain ⟨d0, d1, d2, d3, d4, d5, d6⟩ := D
  have HXX := Lib.hid hX
  clear hD hX hu20 hg20 ht20 HAD HT19 HK19 HB19
  go_wp2_with fail
  refine HOF.out.mono ?_
  rintro e w21 ⟨rfl, hb21⟩
  obtain ⟨z8, hz8⟩ : ∃ z, w21.heap.size = z := ⟨_, rfl⟩
  have hb22 := ba w21 (.cells chZ 36)
  have hk22 := Blk.new w21 36 chZ
  have hk21 := HK20.out.below (bt hb22 hb21)
  have hl8 : z7 < z8 := by rw [← hz8]; exact (HK20.out.below hb21).lt
  have hl9 : w.heap.size ≤ z8 := by rw [← hz8]; exact (bt hb21 HB20.out).size
  rw [hz8] at hk22
  have hb23 := bt hb22 (bt hb21 HB20.out)
  obtain ⟨W22, hW22⟩ : ∃ W, w21.alloc (.cells chZ 36) = W := ⟨_, rfl⟩
  rw [hW22] at hb23 hk22 hk21
  have hgd := grown7 W22 z8 (.int .i64 d0) (.int .i64 d1) (.int .i64 d2) (.string (bA d3)) (.int .i64 d4) (.string (bA d5)) (.int .i64 d6)
  have hk23 := hk22.put7 (.int .i64 d0) (.int .i64 d1) (.int .i64 d2) (.string (bA d3)) (.int .i64 d4) (.string (bA d5)) (.int .i64 d6)
  have hk24 := hk21.kept hgd (some_ne (by omega))
  have hb24 := below_grown hb23 hgd hl9
  obtain ⟨p0, p1, p2, p3, p4, p5, p6⟩ := hk22.c7
  obtain ⟨f0, f1, f2, f3, f4, f5, f6⟩ := hk22.f7
  clear hb21 hb22 hk22 hk21 hl8 hl9 hb23 hgd HOF HK20 HB20
  go_upto_region 26 with fail
  clear hW22 hz8
  unfold put7 at hk23 hk24 hb24
  obtain ⟨W23, hW23⟩ : ∃ W, ((((((W22.setCell ⟨z8, 0, none⟩ (.int .i64 d0)).setCell ⟨z8, 1, none⟩ (.int .i64 d1)).setCell ⟨z8, 2, none⟩ (.int .i64 d2)).setCell ⟨z8, 3, none⟩ (.string (bA d3))).setCell ⟨z8, 4, none⟩ (.int .i64 d4)).setCell ⟨z8, 5, none⟩ (.string (bA d5))).setCell ⟨z8, 6, none⟩ (.int .i64 d6) = W := ⟨_, rfl⟩
  rw [hW23] at hk23 hk24 hb24 ⊢
  clear hW23 p0 p1 p2 p3 p4 p5 p6 f0 f1 f2 f3 f4 f5 f6
  obtain ⟨p0, p1, p2, p3, p4, p5, p6⟩ := hk24.c7
  obtain ⟨q0, q1, q2, q3, q4, q5, q6⟩ := hk23.c7
  have HB := Lib.hid hb24
  clear hk23 hk24 hb24
  rcases HXX.out with rfl | ⟨rfl, hX⟩
  · clear HXX
    go_wp2
    go_ret
    exact ⟨rfl, HB.out⟩
  · unfold Chg.n at hX
    injection hX with y0 y1 y2 y3 y4 y5 y6
    subst y0 y1 y2 y3 y4 y5 y6
    rw [show bA [] = ⟨#[]⟩ from rfl] at q3 q5
    clear HXX
    go_wp2
    go_ret
    exact ⟨rfl, HB.out⟩
end Go.Proofs.YtnkjaocmfhjnoaaGreat
namespace Go.Proofs.YtnkjaocmfhjnoaaGreat
open Go Go.ChangeShapes Go.WideShapes Go.ChangeAt Go.RowKit Go.Deep
set_option maxRecDepth 100000

theorem cells_raw : Tryz.prog.cellsOf 76 = 9 := by kernel_rfl
theorem cells_str' : Tryz.prog.cellsOf 9 = 1 := by kernel_rfl
section
variable {H : Type} {enc : TypeId × Value → H} {P : Program} {w : World} {base : Nat} {spare : Nat → Bool} {held : Bool}
theorem trod_struct9 {t : TypeId} {f0 f1 f2 f3 f4 f5 f6 f7 f8 : Field} {fuel : Nat} {cs : List Value} {x : DataW H × List MemPlace} (ht : P.underlying t = some (.struct #[f0, f1, f2, f3, f4, f5, f6, f7, f8])) (h : DataW.trod enc P w base spare held fuel t cs = some x) :
    ∃ y0 y1 y2 y3 y4 y5 y6 y7 y8 n, DataW.trod enc P w base spare held n f0.type ((cs.drop f0.offset).take (P.cellsOf f0.type)) = some y0 ∧
      DataW.trod enc P w base spare held n f1.type ((cs.drop f1.offset).take (P.cellsOf f1.type)) = some y1 ∧
      DataW.trod enc P w base spare held n f2.type ((cs.drop f2.offset).take (P.cellsOf f2.type)) = some y2 ∧
      DataW.trod enc P w base spare held n f3.type ((cs.drop f3.offset).take (P.cellsOf f3.type)) = some y3 ∧
      DataW.trod enc P w base spare held n f4.type ((cs.drop f4.offset).take (P.cellsOf f4.type)) = some y4 ∧
      DataW.trod enc P w base spare held n f5.type ((cs.drop f5.offset).take (P.cellsOf f5.type)) = some y5 ∧
      DataW.trod enc P w base spare held n f6.type ((cs.drop f6.offset).take (P.cellsOf f6.type)) = some y6 ∧
      DataW.trod enc P w base spare held n f7.type ((cs.drop f7.offset).take (P.cellsOf f7.type)) = some y7 ∧
      DataW.trod enc P w base spare held n f8.type ((cs.drop f8.offset).take (P.cellsOf f8.type)) = some y8 := by
  obtain ⟨xs, n, _, rfl, hl, hlen, hf⟩ := DataW.trod_struct ht h
  match xs, hlen with
  | [y0, y1, y2, y3, y4, y5, y6, y7, y8], _ => exact ⟨y0, y1, y2, y3, y4, y5, y6, y7, y8, n, by simpa using hf 0 f0 rfl, by simpa using hf 1 f1 rfl, by simpa using hf 2 f2 rfl, by simpa using hf 3 f3 rfl, by simpa using hf 4 f4 rfl, by simpa using hf 5 f5 rfl, by simpa using hf 6 f6 rfl, by simpa using hf 7 f7 rfl, by simpa using hf 8 f8 rfl⟩
end
section
variable {H : Type} {enc : TypeId × Value → H} {w : World} {base : Nat} {spare : Nat → Bool} {held : Bool}
theorem read_raws {r : Reach} {b0 : Nat} {v : Value} {d : DataW H} {p : List MemPlace} (hval : Value.okWide Tryz.prog w r b0 22 v) (h : DataW.Trod enc Tryz.prog w base spare held 22 v d p) : ∃ l : List Rw, RawsR w v l ∧ l.length ≤ maxLen ∧ ∀ (A : Option Addr) (n c : Nat), v = .slice A n c → n ≤ c := by
  obtain ⟨A, L, C, rfl⟩ := okWide_slice Tryz.underlying22 hval
  obtain ⟨fuel, h⟩ := h
  rcases open_slice Tryz.underlying22 h with ⟨hv, _⟩ | ⟨a, len, cap, m, n, D, Pl, hcs, _, hl, hm, hmm, _, hi⟩
  · have hv' : Value.slice A L C = .slice none 0 0 := by simpa [Value.cells] using hv
    exact ⟨[], ⟨none, 0, by simpa using hv', fun k s h => by simp at h⟩, by simp, fun A' n' c' h' => by rw [hv'] at h'; injection h' with _ h1 h2; omega⟩
  · have hv : Value.slice A L C = .slice (some a) len cap := by simpa [Value.cells] using hcs
    have hlm : len ≤ m := by rw [hmm]; split <;> omega
    have key : ∀ i, i < len → ∃ e : Rw, ∃ vd : Value, w.cell? (a.add (i * 9)) = some (.int .i64 e.kind) ∧ AtW w (a.add (i * 9)).block (a.add (i * 9)).off e vd ∧ BytesR w vd e.data := by
      intro i hil
      obtain ⟨cs', hc, ht⟩ := hi i (by omega)
      rw [cells_raw] at hc
      obtain ⟨_, hcl, hat⟩ := World.cells?_some hc
      match cs', hcl with
      | [c0, c1, c2, c3, c4, c5, c6, c7, c8], _ =>
        obtain ⟨z0, z1, z2, z3, z4, z5, z6, z7, z8, m', g0, g1, g2, g3, g4, g5, g6, g7, g8⟩ := trod_struct9 Tryz.underlying76 ht
        simp only [cells_int, cells_bs, cells_str'] at g0 g1 g2 g3 g4 g5 g6 g7 g8
        obtain ⟨a0, f0, _, _⟩ := DataW.trod_int Tryz.underlying3 g0
        obtain ⟨a1, f1, _, _⟩ := DataW.trod_int Tryz.underlying3 g1
        obtain ⟨a2, f2, _, _⟩ := DataW.trod_int Tryz.underlying3 g2
        obtain ⟨a3, f3, _, _⟩ := DataW.trod_int Tryz.underlying3 g3
        obtain ⟨a4, f4, _, _⟩ := DataW.trod_int Tryz.underlying3 g4
        obtain ⟨s5, f5, _⟩ := DataW.trod_string Tryz.underlying9 g5
        obtain ⟨s7, f7, _⟩ := DataW.trod_string Tryz.underlying9 g7
        obtain ⟨a8, f8, _, _⟩ := DataW.trod_int Tryz.underlying3 g8
        simp at f0 f1 f2 f3 f4 f5 f7 f8
        subst f0 f1 f2 f3 f4 f5 f7 f8
        obtain ⟨ds, hD⟩ := read_bytes' (v := c6) (by simpa using g6)
        have k0 := hat 0 (by decide)
        have k1 := hat 1 (by decide)
        have k2 := hat 2 (by decide)
        have k3 := hat 3 (by decide)
        have k4 := hat 4 (by decide)
        have k5 := hat 5 (by decide)
        have k6 := hat 6 (by decide)
        have k7 := hat 7 (by decide)
        have k8 := hat 8 (by decide)
        rw [add_none] at k0
        rw [add_pos _ 1 (by decide)] at k1
        rw [add_pos _ 2 (by decide)] at k2
        rw [add_pos _ 3 (by decide)] at k3
        rw [add_pos _ 4 (by decide)] at k4
        rw [add_pos _ 5 (by decide)] at k5
        rw [add_pos _ 6 (by decide)] at k6
        rw [add_pos _ 7 (by decide)] at k7
        rw [add_pos _ 8 (by decide)] at k8
        exact ⟨⟨a0, a1, a2, a3, a4, tl s5, ds, tl s7, a8⟩, c6, k0, ⟨k1, k2, k3, k4, by rw [k5]; simp [bA_tl], k6, by rw [k7]; simp [bA_tl], k8⟩, hD⟩
    refine ⟨List.ofFn fun i : Fin len => Classical.choose (key i.val i.isLt), ⟨some a, cap, by rw [List.length_ofFn]; exact hv, fun k ca hk => ?_⟩, by rw [List.length_ofFn]; omega, fun A' n' c' h' => by rw [hv] at h'; injection h' with _ h1 h2; omega⟩
    rw [List.getElem?_ofFn] at hk
    split at hk
    · rename_i hlt
      injection hk with hk
      subst hk
      obtain ⟨vd, hx⟩ := Classical.choose_spec (key k hlt)
      exact ⟨a, vd, rfl, hx⟩
    · cases hk
end
theorem raws_readable : Tryz.prog.readableRec 22 = true := by kernel_rfl
section
variable {H : Type} {enc : TypeId × Value → H} {W W' : World} {v : Value} {d : DataW H} {p : List MemPlace}
theorem shut_raws (h : DataW.Trod enc Tryz.prog W 0 (fun _ => true) true 22 v d p) (hb : Below W.heap.size W W') : DataW.Trod enc Tryz.prog W' 0 (fun b => decide (b < W.heap.size)) true 22 v d p := by
  refine Below.trod laid_out raws_readable (of_decide_eq_true (by kernel_rfl)) h hb ?_
  obtain ⟨n, hn⟩ := h
  exact DataW.trod_lt n _ _ _ hn
end
end Go.Proofs.YtnkjaocmfhjnoaaGreat
namespace Go.Proofs.YtnkjaocmfhjnoaaGreat
open Go Go.ChangeShapes Go.WideShapes Go.ChangeAt Go.RowKit Go.Deep
set_option maxRecDepth 100000

section
variable {H : Type} {enc : TypeId × Value → H} {P : Program}
end
section
variable {H : Type} {enc : TypeId × Value → H} {w : World} {base : Nat} {spare : Nat → Bool} {held : Bool}
end
end Go.Proofs.YtnkjaocmfhjnoaaGreat
namespace Go.Proofs.YtnkjaocmfhjnoaaGreat
open Go Go.ChangeShapes Go.WideShapes Go.ChangeAt Go.RowKit Go.Deep
set_option maxRecDepth 100000

theorem u16_wf {n : Int} (h : (Lit.int .u16 n).wf = true) : 0 ≤ n ∧ n ≤ 65535 := by simpa [Lit.wf, IntKind.min, IntKind.max, IntKind.signed, IntKind.bits] using h
theorem u8_wf {n : Int} (h : (Lit.int .u8 n).wf = true) : 0 ≤ n ∧ n ≤ 255 := by simpa [Lit.wf, IntKind.min, IntKind.max, IntKind.signed, IntKind.bits] using h
section
variable {H : Type} {enc : TypeId × Value → H} {w : World} {base : Nat} {spare : Nat → Bool} {held : Bool}
end
end Go.Proofs.YtnkjaocmfhjnoaaGreat
