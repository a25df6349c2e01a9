/-
  TablePlays: whatever is put, added and dropped, each answer, all nodes, and each one's links and parent, are the document's, step by step. The condition: the list of acts is no longer than a machine can hold.
-/
import Derived.Test.YtilepnepcamnaaaNM
import Derived.Deep.CutBlock
import Derived.Deep.RegionHeld3
namespace Go.Proofs.Ytilepnepcamnaaa
open Go Go.RowKit

attribute [local go_sem] cell_off4 cell_blk4
set_option maxRecDepth 100000 in
set_option maxHeartbeats 8000000 in
theorem plays_big (r : Int) (v : Value) (l : List Ac) (w : World) (h : ActsR w v l) (hl : l.length ≤ maxLen) (hs : ¬ smallP l) :
    Calls Try.prog 3 #[.int .i64 r, v] w fun e w' => e = .returned (.bool true) ∧ Below w.heap.size w w' := by
  have HA := Lib.hid (awake_any w)
  have HS := Lib.hid (fun W (hb : Below w.heap.size w W) => small_any v l W (h.below hb) hl)
  rw [toB_false hs] at HS
  clear h hl hs
  go_enter Try.func3, Try.ntmps3
  go_wp2_with fail
  refine HA.out.mono ?_
  rintro e w1 ⟨rfl, hb1⟩
  have HB1 := Lib.hid hb1
  clear hb1
  go_wp2_with fail
  refine (HS.out _ HB1.out).mono ?_
  rintro e w2 ⟨rfl, hb2⟩
  have HB2 := Lib.hid (bt hb2 HB1.out)
  clear hb2
  go_wp2
  go_ret
  exact ⟨rfl, HB2.out⟩
/-- Behind the model's node, in a box of its own. -/
structure MD (w W : World) (g b8 b11 : Nat) (v8 : Value) (T : List Nd) (n : Nd) (vn vk : Value) : Prop where
  pl : PL w W g b8 v8 T
  box : Blk W b11 34 (rfC n vn vk)
  nm : StrsR W vn (nmA (nmE n.ents))
  kd : IntsR W vk (idE n.ents)
  pn : LP (fun b => Ne2 g b8 b ∧ b < W.heap.size) vn
  pk : LP (fun b => Ne2 g b8 b ∧ b < W.heap.size) vk
theorem MD.mk' {w wr w5 : World} {g b8 : Nat} {v8 : Value} {T : List Nd} {n : Nd} {vn vk : Value} (h : PL w wr g b8 v8 T) (hb : Below wr.heap.size wr w5) (hs : StrsR w5 vn (nmA (nmE n.ents))) (hi : IntsR w5 vk (idE n.ents)) (hp : LP (fun b => wr.heap.size ≤ b ∧ b < w5.heap.size) vn) (hq : LP (fun b => wr.heap.size ≤ b ∧ b < w5.heap.size) vk) :
    MD w (w5.alloc (.cells (rfC n vn vk) 34)) g b8 w5.heap.size v8 T n vn vk := by
  have hz : (w5.alloc (.cells (rfC n vn vk) 34)).heap.size = w5.heap.size + 1 := by simp
  exact ⟨(h.later hb).later (ba _ _), Blk.new _ _ _, hs.below (ba _ _), hi.below (ba _ _), hp.mono (fun b q => ⟨h.above b q.1, by omega⟩), hq.mono (fun b q => ⟨h.above b q.1, by omega⟩)⟩
set_option maxRecDepth 100000 in
set_option maxHeartbeats 100000000 in
theorem plays_few (r : Int) (v : Value) (l : List Ac) (w : World) (h : ActsR w v l) (hl : l.length ≤ maxLen) (hs : smallP l) :
    Calls Try.prog 3 #[.int .i64 r, v] w fun e w' => e = .returned (.bool true) ∧ Below w.heap.size w w' := by
  have HA := Lib.hid (awake_any w)
  have HSM := Lib.hid (fun W (hb : Below w.heap.size w W) => small_any v l W (h.below hb) hl)
  rw [toB_true hs] at HSM
  have HAC := Lib.hid h
  have HSP := Lib.hid hs
  have hl40 := hs.2
  obtain ⟨A0, c0, rfl⟩ := acts_form h
  clear h hl hs
  go_enter Try.func3, Try.ntmps3
  go_wp2_with fail
  refine HA.out.mono ?_
  rintro e w1 ⟨rfl, hb1⟩
  have HB1 := Lib.hid hb1
  clear hb1
  go_wp2_with fail
  refine (HSM.out _ HB1.out).mono ?_
  rintro e w2 ⟨rfl, hb2⟩
  have HB2 := Lib.hid (bt hb2 HB1.out)
  clear hb2
  go_wp2_with fail
  refine (new_any r w2).mono ?_
  rintro e w3 ⟨rfl, ht3, hb3, hz3⟩
  obtain ⟨g, hgz⟩ : ∃ g, w2.heap.size = g := ⟨_, rfl⟩
  rw [hgz] at ht3 hz3 ⊢
  have HT3 := Lib.hid (ht3 (fun _ => True))
  have HB3 := Lib.hid (bt hb3 HB2.out)
  have HG := Lib.hid (show w.heap.size ≤ g by rw [← hgz]; exact HB2.out.size)
  have HZ3 := Lib.hid hz3
  clear ht3 hb3 hz3 hgz
  go_wp2_with fail
  refine (rnew_any r w3).mono ?_
  rintro e w4 ⟨v8, rfl, hn4, hb4, hz4⟩
  have hns4 := hn4 (Ne2 g w4.heap.size) ⟨by have := HZ3.out; omega, by omega⟩
  obtain ⟨T0, hT0⟩ : ∃ T0, List.replicate (newL r) Nd.zero = T0 := ⟨_, rfl⟩
  rw [hT0] at hns4 HT3
  have HPL0 := Lib.hid (show PL w (w4.alloc (.cells #[v8] 29)) g w4.heap.size v8 T0 from
    ⟨(HT3.out.below hb4).below (ba _ _), hns4.below (ba _ _), Blk.new _ _ _, bt (ba _ _) (bt hb4 HB3.out), HG.out, (bt hb4 HB3.out).size⟩)
  obtain ⟨g8, k8, rfl⟩ := ns_form hns4
  clear hn4 hb4 hz4 hns4 hT0 HT3
  obtain ⟨b8, hb8⟩ : ∃ b8, w4.heap.size = b8 := ⟨_, rfl⟩
  rw [hb8] at HPL0
  go_wp2
  clear hb8
  go_loopg [10] l.length (fun gh s10 wr => ∃ (k g8 k8 : Nat) (T : List Nd), s10 = .int .i64 k ∧ k ≤ l.length ∧ gh = l.length - k ∧ PL w wr g b8 (.slice (some ⟨g8, 0, none⟩) T.length k8) T)
  case atStart => exact ⟨0, g8, k8, T0, rfl, Nat.zero_le _, rfl, HPL0.out⟩
  case round =>
    clear HPL0
    obtain ⟨k, g8, k8, T, rfl, hk, rfl, hpl⟩ := hrel
    have HPL := Lib.hid hpl
    clear hpl
    by_cases hlt : k < l.length
    · have hlt' : (k : Int) < (l.length : Int) := by omega
      obtain ⟨a, hka⟩ : ∃ a, l[k]? = some a := ⟨_, List.getElem?_eq_getElem hlt⟩
      obtain ⟨ad, vd, ve, hA, d0, d1, ⟨c0', c1, c2, c3, c4, c5, c6⟩, hd, he, -⟩ := acts_get (HAC.out.below HPL.out.below) hka
      subst hA
      have HF := Lib.hid (HSP.out.1 a (List.mem_of_getElem? hka)).few
      have HMA := Lib.hid (model_at a.n vd ve hd he HF.out)
      obtain ⟨A1, k1, rfl⟩ := bytes_form hd rfl
      obtain ⟨A2, k2, rfl⟩ := ents_form he rfl
      have HKA := Lib.hid hka
      clear hka hd he
      go_wp2_with fail
      refine HMA.out.mono ?_
      rintro e w5 ⟨A3, k3, A4, k4, rfl, hs5, hi5, hp5, hq5, hb5⟩
      have h6 := MD.mk' HPL.out hb5 hs5 hi5 hp5 hq5
      have z0 : (ad.add (k * 9)).block < w5.heap.size := Nat.lt_of_lt_of_le (World.block_lt_of_cell? _ _ d0) hb5.size
      have d0' := bc hb5 d0
      clear d0 d1 c0' c1 c2 c3 c4 c5 c6 hs5 hi5 hp5 hq5 hb5 HMA HPL
      obtain ⟨W6, hW6⟩ : ∃ W6, w5.alloc (.cells (rfC a.n (.slice A3 a.n.ents.length k3) (.slice A4 a.n.ents.length k4)) 34) = W6 := ⟨_, rfl⟩
      have d06 : W6.cell? (ad.add (k * 9)) = some (.int .u8 (co a.d)) := by rw [← hW6]; exact bc (ba _ _) d0'
      rw [hW6] at h6
      obtain ⟨b11, hb11⟩ : ∃ b11, w5.heap.size = b11 := ⟨_, rfl⟩
      rw [hb11] at h6
      have HH6 := Lib.hid h6
      clear h6
      go_upto_block 2 with fail
      clear hW6 hb11 z0 d0' d06
      go_cut [12] (fun s12 wx => ∃ (g9 k9 : Nat) (T' : List Nd), PL w wx g b8 (.slice (some ⟨g9, 0, none⟩) T'.length k9) T')
      case first => as_aux_lemma =>
        by_cases q0 : co a.d = 0
        · have e0 : (co a.d == 0) = true := by simpa using q0
          have HDP := Lib.hid (fun W vd ve (h : TabR W g T (fun _ => True)) (hd : BytesR W vd a.n.data) (he : EntsR W ve a.n.ents) => put_any g T (fun _ => True) a.i a.n vd ve W h hd he HF.out (fun _ _ => trivial))
          have HND := Lib.hid (fun W vd ve (hd : BytesR W vd a.n.data) (he : EntsR W ve a.n.ents) => put_none (.pointer none) [] a.i a.n vd ve W (TabP.none W) (tis_new 0 a.i) hd he)
          have HRD := Lib.hid (fun (P : Nat → Prop) W (h : NsR P W (.slice (some ⟨g8, 0, none⟩) T.length k8) T) (hs : StrsR W (.slice A3 a.n.ents.length k3) (nmA (nmE a.n.ents))) (hi : IntsR W (.slice A4 a.n.ents.length k4) (idE a.n.ents)) (hp : LP (fun b => P b ∧ b < W.heap.size) (.slice A3 a.n.ents.length k3)) (hq : LP (fun b => P b ∧ b < W.heap.size) (.slice A4 a.n.ents.length k4)) (hP : ∀ b, W.heap.size ≤ b → P b) => rput_any (.slice (some ⟨g8, 0, none⟩) T.length k8) T a.i a.n _ _ W h HH6.out.pl.tab.hi hs hi HF.out hp hq hP)
          generalize actT T 0 a.i a.n (toB (rightP a.n)) = T' at HDP HRD
          generalize putE T a.i (toB (rightP a.n)) = X at HDP HRD
          unfold nodeV at HDP HND
          have qX : (X != X) = false := by simp
          clear q0

          go_upto_region 20 with fail
          go_cut [12, 13] (fun s12 s13 wx => ∃ (b g9 k9 : Nat), s12 = .pointer (some ⟨b, 0, none⟩) ∧ s13 = .int .i64 X ∧ CT W6 wx g b8 b (.slice (some ⟨g9, 0, none⟩) T'.length k9) T')
          case first => as_aux_lemma =>
            have hdr := HH6.out.pl.later (Below.refl _ _).drew
            have hg6 := HH6.out.pl.tab.lt
            have hb6 := HH6.out.pl.box.lt
            obtain ⟨ad2, vd2, ve2, hA2, -, d1, -, -, -, -⟩ := acts_get (HAC.out.below hdr.below) HKA.out
            injection hA2 with hA2
            subst hA2
            obtain ⟨ad3, vd3, ve3, hA3, -, d1', -, -, -, -⟩ := acts_get (HAC.out.below HH6.out.pl.below) HKA.out
            injection hA3 with hA3
            subst hA3
            have z1 : (ad.add (k * 9)).block < W6.heap.size := by have h := World.block_lt_of_cell? W6 _ d1'; exact h
            have p8 : W6.drew.cell? ⟨b8, 0, none⟩ = some (.slice (some ⟨g8, 0, none⟩) T.length k8) := hdr.box.cell 0
            have p8' : W6.cell? ⟨b8, 0, none⟩ = some (.slice (some ⟨g8, 0, none⟩) T.length k8) := HH6.out.pl.box.cell 0
            obtain ⟨n0, n1, n2, n3, n4, n5, n6, n7⟩ := HH6.out.box.c8
            have hb11 := HH6.out.box.lt
            have m0 : W6.drew.cell? ⟨b11, 0, none⟩ = some (.int .i64 a.n.kind) ∧ W6.drew.cell? ⟨b11, 1, none⟩ = some (.int .i64 a.n.mode) ∧ W6.drew.cell? ⟨b11, 2, none⟩ = some (.int .i64 a.n.uid) ∧ W6.drew.cell? ⟨b11, 3, none⟩ = some (.int .i64 a.n.gid) ∧ W6.drew.cell? ⟨b11, 4, none⟩ = some (.string (bA a.n.data)) ∧ W6.drew.cell? ⟨b11, 5, none⟩ = some (.slice A3 a.n.ents.length k3) ∧ W6.drew.cell? ⟨b11, 6, none⟩ = some (.slice A4 a.n.ents.length k4) ∧ W6.drew.cell? ⟨b11, 7, none⟩ = some (.string (bA a.n.target)) := ⟨n0, n1, n2, n3, n4, n5, n6, n7⟩
            obtain ⟨m0, m1, m2, m3, m4, m5, m6, m7⟩ := m0
            have HRA := Lib.hid (HRD.out (Ne2 g b8) W6.drew hdr.ns (HH6.out.nm.below (Below.refl _ _).drew) (HH6.out.kd.below (Below.refl _ _).drew) HH6.out.pn HH6.out.pk hdr.above)
            have HRB := Lib.hid (HRD.out (fun b => Ne2 g b8 b ∧ b ≠ W6.heap.size) (W6.alloc (.cells #[.slice none 0 0] 29)).drew ((HH6.out.pl.ns.mono (fun b hb hlt => ⟨hb, by omega⟩)).below (ba W6 (.cells #[.slice none 0 0] 29)).drew) (HH6.out.nm.below (ba W6 (.cells #[.slice none 0 0] 29)).drew) (HH6.out.kd.below (ba W6 (.cells #[.slice none 0 0] 29)).drew) (HH6.out.pn.mono (fun b q => ⟨⟨q.1, by omega⟩, Nat.lt_of_lt_of_le q.2 (ba W6 (.cells #[.slice none 0 0] 29)).drew.size⟩)) (HH6.out.pk.mono (fun b q => ⟨⟨q.1, by omega⟩, Nat.lt_of_lt_of_le q.2 (ba W6 (.cells #[.slice none 0 0] 29)).drew.size⟩)) (fun b hb => by
              have hz : (W6.alloc (.cells #[.slice none 0 0] 29)).heap.size = W6.heap.size + 1 := by simp
              have hb2 : W6.heap.size + 1 ≤ b := by rw [← hz]; exact hb
              exact ⟨HH6.out.pl.above b (by omega), by omega⟩))
            clear hdr
            have jA : Below W6.heap.size W6 W6.drew := (Below.refl _ _).drew
            have jB : Below W6.heap.size W6 (W6.alloc (.cells #[.slice none 0 0] 29)).drew := (ba W6 _).drew
            have HPR := Lib.hid (fun (W : World) (hb : Below W6.heap.size W6 W) => show W.cell? ⟨b8, 0, none⟩ = some (.slice (some ⟨g8, 0, none⟩) T.length k8) ∧ W.cell? ⟨(ad.add (k * 9)).block, (ad.add (k * 9)).off + 1, none⟩ = some (.int .i64 a.i) ∧ W.cell? ⟨b11, 0, none⟩ = some (.int .i64 a.n.kind) ∧ W.cell? ⟨b11, 1, none⟩ = some (.int .i64 a.n.mode) ∧ W.cell? ⟨b11, 2, none⟩ = some (.int .i64 a.n.uid) ∧ W.cell? ⟨b11, 3, none⟩ = some (.int .i64 a.n.gid) ∧ W.cell? ⟨b11, 4, none⟩ = some (.string (bA a.n.data)) ∧ W.cell? ⟨b11, 5, none⟩ = some (.slice A3 a.n.ents.length k3) ∧ W.cell? ⟨b11, 6, none⟩ = some (.slice A4 a.n.ents.length k4) ∧ W.cell? ⟨b11, 7, none⟩ = some (.string (bA a.n.target)) from ⟨bc hb p8', bc hb d1', bc hb n0, bc hb n1, bc hb n2, bc hb n3, bc hb n4, bc hb n5, bc hb n6, bc hb n7⟩)
            go_region_held3 (fun w' => w'.cell? ⟨b8, 0, none⟩ = some (.slice (some ⟨g8, 0, none⟩) T.length k8) ∧ w'.cell? ⟨(ad.add (k * 9)).block, (ad.add (k * 9)).off + 1, none⟩ = some (.int .i64 a.i) ∧ w'.cell? ⟨b11, 0, none⟩ = some (.int .i64 a.n.kind) ∧ w'.cell? ⟨b11, 1, none⟩ = some (.int .i64 a.n.mode) ∧ w'.cell? ⟨b11, 2, none⟩ = some (.int .i64 a.n.uid) ∧ w'.cell? ⟨b11, 3, none⟩ = some (.int .i64 a.n.gid) ∧ w'.cell? ⟨b11, 4, none⟩ = some (.string (bA a.n.data)) ∧ w'.cell? ⟨b11, 5, none⟩ = some (.slice A3 a.n.ents.length k3) ∧ w'.cell? ⟨b11, 6, none⟩ = some (.slice A4 a.n.ents.length k4) ∧ w'.cell? ⟨b11, 7, none⟩ = some (.string (bA a.n.target)))
              (first | (with_reducible exact HPR.out _ jA) | (with_reducible exact HPR.out _ jB) | (with_reducible exact HPR.out _ j7) | (with_reducible exact HPR.out _ j8) | (with_reducible exact HPR.out _ (al j7 _)))
              (first
              | (go_at_call 9; (with_reducible refine HRA.out.mono ?_); rintro e w7 ⟨v9, rfl, hn7, hb7⟩; have j7 := bt hb7 jA; have HCT := Lib.hid (CT.fresh hg6 hb6 hn7 hb7); obtain ⟨g9, k9, hv9⟩ := ns_form hn7; subst hv9; clear hn7 hb7)
              | (go_at_call 9; (with_reducible refine HRB.out.mono ?_); rintro e w7 ⟨v9, rfl, hn7, hb7⟩; have j7 := bt hb7 jB; have HCT := Lib.hid (CT.ahead hg6 hb6 hn7 hb7); have y0 : w7.cell? ⟨W6.heap.size, 0, none⟩ = some (.slice none 0 0) := (Blk.below (w := (W6.alloc (.cells #[.slice none 0 0] 29)).drew) (Blk.new W6 29 _) hb7).cell 0; have y1 : w7.frozen? ⟨W6.heap.size, 0, none⟩ = false := (Blk.below (w := (W6.alloc (.cells #[.slice none 0 0] 29)).drew) (Blk.new W6 29 _) hb7).frozen 0; obtain ⟨g9, k9, hv9⟩ := ns_form hn7; subst hv9; have j8 := below_grown j7 (grown_setCell w7 ⟨W6.heap.size, 0, none⟩ (.slice (some ⟨g9, 0, none⟩) T'.length k9)) (Nat.le_refl _); clear hn7 hb7))
            all_goals (
              go_wp2
              go_meet
              exact ⟨_, g9, k9, rfl, rfl, HCT.out⟩)
          case rest => as_aux_lemma =>
            obtain ⟨b12, g9, k9, rfl, rfl, hct⟩ := hcut
            have HCT := Lib.hid hct
            have hpl7 := HH6.out.pl.later hct.below
            have HPL7 := Lib.hid hpl7
            have HN7 := Lib.hid hct.ns
            have HBX7 := Lib.hid hct.box
            have HHB := Lib.hid hct.hb
            have HHG := Lib.hid hct.hg
            clear hct hpl7


            have hdr7 := HPL7.out.later (Below.refl _ _).drew
            obtain ⟨ad2, vd2, ve2, hA2, -, d1, ⟨c0, c1, c2, c3, c4, c5, c6⟩, hd2, he2, -⟩ := acts_get HAC.out HKA.out
            injection hA2 with hA2
            subst hA2
            obtain ⟨A1, k1, rfl⟩ := bytes_form hd2 rfl
            obtain ⟨A2, k2, rfl⟩ := ents_form he2 rfl

            have HD2 := Lib.hid hd2
            have HE2 := Lib.hid he2
            have SX : w.cell? ⟨(ad.add (k * 9)).block, (ad.add (k * 9)).off + 1, none⟩ = some (.int .i64 a.i) ∧ w.cell? ⟨(ad.add (k * 9)).block, (ad.add (k * 9)).off + 2, none⟩ = some (.int .i64 a.n.kind) ∧ w.cell? ⟨(ad.add (k * 9)).block, (ad.add (k * 9)).off + 3, none⟩ = some (.int .i64 a.n.mode) ∧ w.cell? ⟨(ad.add (k * 9)).block, (ad.add (k * 9)).off + 4, none⟩ = some (.int .i64 a.n.uid) ∧ w.cell? ⟨(ad.add (k * 9)).block, (ad.add (k * 9)).off + 5, none⟩ = some (.int .i64 a.n.gid) ∧ w.cell? ⟨(ad.add (k * 9)).block, (ad.add (k * 9)).off + 6, none⟩ = some (.slice A1 a.n.data.length k1) ∧ w.cell? ⟨(ad.add (k * 9)).block, (ad.add (k * 9)).off + 7, none⟩ = some (.slice A2 a.n.ents.length k2) ∧ w.cell? ⟨(ad.add (k * 9)).block, (ad.add (k * 9)).off + 8, none⟩ = some (.string (bA a.n.target)) := ⟨d1, c0, c1, c2, c3, c4, c5, c6⟩
            have CL : ∀ Y : World, Below w.heap.size w Y → (Y.cell? ⟨(ad.add (k * 9)).block, (ad.add (k * 9)).off + 1, none⟩ = some (.int .i64 a.i) ∧ Y.cell? ⟨(ad.add (k * 9)).block, (ad.add (k * 9)).off + 2, none⟩ = some (.int .i64 a.n.kind) ∧ Y.cell? ⟨(ad.add (k * 9)).block, (ad.add (k * 9)).off + 3, none⟩ = some (.int .i64 a.n.mode) ∧ Y.cell? ⟨(ad.add (k * 9)).block, (ad.add (k * 9)).off + 4, none⟩ = some (.int .i64 a.n.uid) ∧ Y.cell? ⟨(ad.add (k * 9)).block, (ad.add (k * 9)).off + 5, none⟩ = some (.int .i64 a.n.gid) ∧ Y.cell? ⟨(ad.add (k * 9)).block, (ad.add (k * 9)).off + 6, none⟩ = some (.slice A1 a.n.data.length k1) ∧ Y.cell? ⟨(ad.add (k * 9)).block, (ad.add (k * 9)).off + 7, none⟩ = some (.slice A2 a.n.ents.length k2) ∧ Y.cell? ⟨(ad.add (k * 9)).block, (ad.add (k * 9)).off + 8, none⟩ = some (.string (bA a.n.target))) := fun Y hb => ⟨bc hb SX.1, bc hb SX.2.1, bc hb SX.2.2.1, bc hb SX.2.2.2.1, bc hb SX.2.2.2.2.1, bc hb SX.2.2.2.2.2.1, bc hb SX.2.2.2.2.2.2.1, bc hb SX.2.2.2.2.2.2.2⟩
            clear hd2 he2 d1 c0 c1 c2 c3 c4 c5 c6
            have hb7 := hdr7.below
            have HB7 := Lib.hid hb7
            have HC7 := Lib.hid (HDP.out _ _ _ hdr7.tab (HD2.out.below hb7) (HE2.out.below hb7))
            clear hdr7 hb7
            go_upto_region 21 with fail
            clear SX
            go_region_held3 (fun w' => w'.cell? ⟨(ad.add (k * 9)).block, (ad.add (k * 9)).off + 1, none⟩ = some (.int .i64 a.i) ∧ w'.cell? ⟨(ad.add (k * 9)).block, (ad.add (k * 9)).off + 2, none⟩ = some (.int .i64 a.n.kind) ∧ w'.cell? ⟨(ad.add (k * 9)).block, (ad.add (k * 9)).off + 3, none⟩ = some (.int .i64 a.n.mode) ∧ w'.cell? ⟨(ad.add (k * 9)).block, (ad.add (k * 9)).off + 4, none⟩ = some (.int .i64 a.n.uid) ∧ w'.cell? ⟨(ad.add (k * 9)).block, (ad.add (k * 9)).off + 5, none⟩ = some (.int .i64 a.n.gid) ∧ w'.cell? ⟨(ad.add (k * 9)).block, (ad.add (k * 9)).off + 6, none⟩ = some (.slice A1 a.n.data.length k1) ∧ w'.cell? ⟨(ad.add (k * 9)).block, (ad.add (k * 9)).off + 7, none⟩ = some (.slice A2 a.n.ents.length k2) ∧ w'.cell? ⟨(ad.add (k * 9)).block, (ad.add (k * 9)).off + 8, none⟩ = some (.string (bA a.n.target)))
              (first | exact (CL _ HB7.out) | exact (CL _ HB8.out) | exact (CL _ (bt HY9.out HB8.out)))
              (first
              | (go_at_call 10; (with_reducible refine HC7.out.mono ?_); rintro e w8 ⟨rfl, ht8, hg8⟩; have HB8 := Lib.hid (below_grown (HPL7.out.later (Below.refl _ _).drew).below hg8 HPL7.out.hg); have HT8 := Lib.hid ht8; have HN8 := Lib.hid ((HN7.out.below (Below.refl _ _).drew).other hg8 (fun b hb => hb.1)); have HX8 := Lib.hid ((HBX7.out.below (Below.refl _ _).drew).kept hg8 (by intro e; injection e with e; exact HHG.out e)); have HO8 := Lib.hid ((HPL7.out.later (Below.refl _ _).drew).box.kept hg8 (by intro e; injection e with e; exact HPL7.out.ne e.symm)); clear ht8 hg8)
              | (go_at_call 10; (with_reducible refine (HND.out _ _ _ (HD2.out.below HB8.out) (HE2.out.below HB8.out)).mono ?_); rintro e w9 ⟨rfl, hb9⟩; have HY9 := Lib.hid hb9; clear hb9))
            all_goals (
              have x0 : w9.cell? ⟨b12, 0, none⟩ = some (.slice (some ⟨g9, 0, none⟩) T'.length k9) := (HX8.out.below HY9.out).cell 0
              have o0 : w9.cell? ⟨b8, 0, none⟩ = some (.slice (some ⟨g8, 0, none⟩) T.length k8) := (HO8.out.below HY9.out).cell 0
              have o1 : w9.frozen? ⟨b8, 0, none⟩ = false := (HO8.out.below HY9.out).frozen 0
              have HPL9 := Lib.hid (PL.boxed (v' := .slice (some ⟨g9, 0, none⟩) T'.length k9) HPL7.out.ne (HT8.out.below HY9.out) (HN8.out.below HY9.out) (HO8.out.below HY9.out) (bt HY9.out HB8.out) HPL7.out.hg HPL7.out.hb)
              go_wp2
              go_meet
              exact ⟨g9, k9, T', HPL9.out⟩)
        · have e0 : (co a.d == 0) = false := by simpa using q0
          by_cases q1 : co a.d = 1
          · have e1 : (co a.d == 1) = true := by simpa using q1
            obtain ⟨ad2, vd2, ve2, hA2, -, -, ⟨c0, c1, c2, c3, c4, c5, c6⟩, hd2, he2, -⟩ := acts_get HAC.out HKA.out
            injection hA2 with hA2
            subst hA2
            obtain ⟨A1, k1, rfl⟩ := bytes_form hd2 rfl
            obtain ⟨A2, k2, rfl⟩ := ents_form he2 rfl
            have HDP := Lib.hid (fun W (h : TabR W g T (fun _ => True)) (hd : BytesR W (.slice A1 a.n.data.length k1) a.n.data) (he : EntsR W (.slice A2 a.n.ents.length k2) a.n.ents) => add_any g T (fun _ => True) a.n _ _ W h hd he HF.out (fun _ _ => trivial) a.i)
            have HND := Lib.hid (fun W (hd : BytesR W (.slice A1 a.n.data.length k1) a.n.data) (he : EntsR W (.slice A2 a.n.ents.length k2) a.n.ents) => add_nil a.n _ _ W hd he HF.out)
            have HRD := Lib.hid (radd_any (P := Ne2 g b8) (.slice (some ⟨g8, 0, none⟩) T.length k8) T a.i a.n _ _ W6 HH6.out.pl.ns HH6.out.pl.tab.hi HH6.out.nm HH6.out.kd HF.out HH6.out.pn HH6.out.pk HH6.out.pl.above)
            have HT1 := Lib.hid (show actT T 1 a.i a.n (toB (rightP a.n)) = actT T 1 a.i a.n (toB (rightP a.n)) from rfl)
            generalize toB (rightP a.n) = R at HDP HND HRD HT1
            unfold nodeV at HDP HND
            obtain ⟨T', hT'⟩ : ∃ T', actT T 1 a.i a.n R = T' := ⟨_, rfl⟩
            obtain ⟨X, hX⟩ : ∃ X, addE T R = X := ⟨_, rfl⟩
            obtain ⟨Y, hY⟩ : ∃ Y, addI T R = Y := ⟨_, rfl⟩
            obtain ⟨Z, hZ⟩ : ∃ Z, addE [] R = Z := ⟨_, rfl⟩
            rw [hT', hX, hY] at HDP HRD
            rw [hZ] at HND
            have qX : (X != X) = false := by simp
            have qY : (Y != Y) = false := by simp
            have qZ : (Z == 0) = false := by
              rw [← hZ]
              unfold addE
              cases R <;> rfl
            have qW : (Z == 22) = (X == 22) := by
              rw [← hZ, ← hX]
              cases R
              · rfl
              · have y1 : addE [] true = 28 := rfl
                have y2 : addE T true = if freeT T 0 = 0 then 28 else 0 := rfl
                rw [y1, y2]
                by_cases q : freeT T 0 = 0
                · rw [if_pos q]
                · rw [if_neg q]; rfl
            obtain ⟨B, hB⟩ : ∃ B, (X == 22) = B := ⟨_, rfl⟩
            rw [hB] at qW
            have qB : (B != B) = false := by cases B <;> rfl
            have HD2 := Lib.hid hd2
            have HE2 := Lib.hid he2
            have SX := Lib.hid (⟨c0, c1, c2, c3, c4, c5, c6⟩ : _ ∧ _ ∧ _ ∧ _ ∧ _ ∧ _ ∧ _)
            have hbz := HH6.out.pl.below
            clear hd2 he2 c0 c1 c2 c3 c4 c5 c6 q0 q1 hX hY hZ hT' HT1 hbz
            have p8 : W6.cell? ⟨b8, 0, none⟩ = some (.slice (some ⟨g8, 0, none⟩) T.length k8) := HH6.out.pl.box.cell 0
            obtain ⟨n0, n1, n2, n3, n4, n5, n6, n7⟩ := HH6.out.box.c8
            go_wp2_with fail
            refine HRD.out.mono ?_
            rintro e w7 ⟨v9, rfl, hn7, hb7⟩
            obtain ⟨g9, k9, hv9⟩ := ns_form hn7
            subst hv9
            have hct : CT W6 (w7.alloc (.cells #[.slice (some ⟨g9, 0, none⟩) T'.length k9] 29)) g b8 w7.heap.size (.slice (some ⟨g9, 0, none⟩) T'.length k9) T' := by
              have hg6 := HH6.out.pl.tab.lt
              have hb6 := HH6.out.pl.box.lt
              have := hb7.size
              exact ⟨Blk.new _ _ _, hn7.below (ba _ _), bt (ba _ _) hb7, by omega, by omega⟩
            have hpl7 := HH6.out.pl.later hct.below
            obtain ⟨W8, hW8⟩ : ∃ W8, w7.alloc (.cells #[.slice (some ⟨g9, 0, none⟩) T'.length k9] 29) = W8 := ⟨_, rfl⟩
            have qh : W8.heap.size = w7.heap.size + 1 := by rw [← hW8]; simp
            rw [hW8] at hct hpl7
            obtain ⟨b12, hb12⟩ : ∃ b12, w7.heap.size = b12 := ⟨_, rfl⟩
            rw [hb12] at hct
            have HPL7 := Lib.hid hpl7
            have HN7 := Lib.hid hct.ns
            have HBX7 := Lib.hid hct.box
            have HHB := Lib.hid hct.hb
            have HHG := Lib.hid hct.hg
            have hb8 := hpl7.below
            obtain ⟨r1, r2, r3, r4, r5, r6, r7⟩ := SX.out
            replace r1 := bc hb8 r1
            replace r2 := bc hb8 r2
            replace r3 := bc hb8 r3
            replace r4 := bc hb8 r4
            replace r5 := bc hb8 r5
            replace r6 := bc hb8 r6
            replace r7 := bc hb8 r7
            have HC7 := Lib.hid (HDP.out _ hpl7.tab (HD2.out.below hb8) (HE2.out.below hb8))
            clear hn7 hb7 hct hpl7 hb8 qh p8 n0 n1 n2 n3 n4 n5 n6 n7
            go_wp2_with fail
            refine HC7.out.mono ?_
            rintro e w8 ⟨rfl, ht8, hg8⟩
            have hb8 := below_grown HPL7.out.below hg8 HPL7.out.hg
            have HB8 := Lib.hid hb8
            have HT8 := Lib.hid ht8
            have HN8 := Lib.hid (HN7.out.other hg8 (fun b hb => hb.1))
            have HX8 := Lib.hid (HBX7.out.kept hg8 (by intro e; injection e with e; exact HHG.out e))
            have HO8 := Lib.hid (HPL7.out.box.kept hg8 (by intro e; injection e with e; exact HPL7.out.ne e.symm))
            obtain ⟨u1, u2, u3, u4, u5, u6, u7⟩ := SX.out
            replace u1 := bc hb8 u1
            replace u2 := bc hb8 u2
            replace u3 := bc hb8 u3
            replace u4 := bc hb8 u4
            replace u5 := bc hb8 u5
            replace u6 := bc hb8 u6
            replace u7 := bc hb8 u7
            clear ht8 hg8 hb8 r1 r2 r3 r4 r5 r6 r7
            go_wp2_with fail
            refine (HND.out _ (HD2.out.below HB8.out) (HE2.out.below HB8.out)).mono ?_
            rintro e w9 ⟨rfl, hb9⟩
            have HY9 := Lib.hid hb9
            have x0 : w9.cell? ⟨b12, 0, none⟩ = some (.slice (some ⟨g9, 0, none⟩) T'.length k9) := (HX8.out.below HY9.out).cell 0
            have o0 : w9.cell? ⟨b8, 0, none⟩ = some (.slice (some ⟨g8, 0, none⟩) T.length k8) := (HO8.out.below HY9.out).cell 0
            have o1 : w9.frozen? ⟨b8, 0, none⟩ = false := (HO8.out.below HY9.out).frozen 0
            have HPL9 := Lib.hid (PL.boxed (v' := .slice (some ⟨g9, 0, none⟩) T'.length k9) HPL7.out.ne (HT8.out.below HY9.out) (HN8.out.below HY9.out) (HO8.out.below HY9.out) (bt HY9.out HB8.out) HPL7.out.hg HPL7.out.hb)
            clear hb9 u1 u2 u3 u4 u5 u6 u7
            go_wp2
            go_meet
            exact ⟨g9, k9, T', HPL9.out⟩
          · have e1 : (co a.d == 1) = false := by simpa using q1
            have HDP := Lib.hid (fun W (h : TabR W g T (fun _ => True)) => drop_any g T (fun _ => True) a.i W h (co a.d) q0 q1 a.n (toB (rightP a.n)))
            have HND := Lib.hid (fun W => drop_none (.pointer none) [] a.i W (TabP.none W) (tis_new 0 a.i))
            have HRD := Lib.hid (fun (P : Nat → Prop) W (h : NsR P W (.slice (some ⟨g8, 0, none⟩) T.length k8) T) (hP : ∀ b, W.heap.size ≤ b → P b) => rdrop_any (.slice (some ⟨g8, 0, none⟩) T.length k8) T (co a.d) a.i a.n (toB (rightP a.n)) W h HH6.out.pl.tab.hi q0 q1 hP)
            generalize actT T (co a.d) a.i a.n (toB (rightP a.n)) = T' at HDP HRD
            generalize tis T a.i = X at HDP HRD
            clear q0 q1

            go_upto_region 15 with fail
            go_cut [21, 22] (fun s21 s22 wx => ∃ (b g9 k9 : Nat), s21 = .pointer (some ⟨b, 0, none⟩) ∧ s22 = .bool X ∧ CT W6 wx g b8 b (.slice (some ⟨g9, 0, none⟩) T'.length k9) T')
            case first => as_aux_lemma =>
              have hdr := HH6.out.pl.later (Below.refl _ _).drew
              have hg6 := HH6.out.pl.tab.lt
              have hb6 := HH6.out.pl.box.lt
              obtain ⟨ad2, vd2, ve2, hA2, -, d1, -, -, -, -⟩ := acts_get (HAC.out.below hdr.below) HKA.out
              injection hA2 with hA2
              subst hA2
              obtain ⟨ad3, vd3, ve3, hA3, -, d1', -, -, -, -⟩ := acts_get (HAC.out.below HH6.out.pl.below) HKA.out
              injection hA3 with hA3
              subst hA3
              have z1 : (ad.add (k * 9)).block < W6.heap.size := by have h := World.block_lt_of_cell? W6 _ d1'; exact h
              have p8 : W6.drew.cell? ⟨b8, 0, none⟩ = some (.slice (some ⟨g8, 0, none⟩) T.length k8) := hdr.box.cell 0
              have p8' : W6.cell? ⟨b8, 0, none⟩ = some (.slice (some ⟨g8, 0, none⟩) T.length k8) := HH6.out.pl.box.cell 0
              have HRA := Lib.hid (HRD.out (Ne2 g b8) W6.drew hdr.ns hdr.above)
              have HRB := Lib.hid (HRD.out (fun b => Ne2 g b8 b ∧ b ≠ W6.heap.size) (W6.alloc (.cells #[.slice none 0 0] 29)).drew ((HH6.out.pl.ns.mono (fun b hb hlt => ⟨hb, by omega⟩)).below (ba W6 (.cells #[.slice none 0 0] 29)).drew) (fun b hb => by
                have hz : (W6.alloc (.cells #[.slice none 0 0] 29)).heap.size = W6.heap.size + 1 := by simp
                have hb2 : W6.heap.size + 1 ≤ b := by rw [← hz]; exact hb
                exact ⟨HH6.out.pl.above b (by omega), by omega⟩))
              clear hdr
              have jA : Below W6.heap.size W6 W6.drew := (Below.refl _ _).drew
              have jB : Below W6.heap.size W6 (W6.alloc (.cells #[.slice none 0 0] 29)).drew := (ba W6 _).drew
              have HPR := Lib.hid (fun (W : World) (hb : Below W6.heap.size W6 W) => show W.cell? ⟨b8, 0, none⟩ = some (.slice (some ⟨g8, 0, none⟩) T.length k8) ∧ W.cell? ⟨(ad.add (k * 9)).block, (ad.add (k * 9)).off + 1, none⟩ = some (.int .i64 a.i) from ⟨bc hb p8', bc hb d1'⟩)
              go_region_held3 (fun w' => w'.cell? ⟨b8, 0, none⟩ = some (.slice (some ⟨g8, 0, none⟩) T.length k8) ∧ w'.cell? ⟨(ad.add (k * 9)).block, (ad.add (k * 9)).off + 1, none⟩ = some (.int .i64 a.i))
                (first | (with_reducible exact HPR.out _ jA) | (with_reducible exact HPR.out _ jB) | (with_reducible exact HPR.out _ j7) | (with_reducible exact HPR.out _ j8) | (with_reducible exact HPR.out _ (al j7 _)))
                (first
                | (go_at_call 13; (with_reducible refine HRA.out.mono ?_); rintro e w7 ⟨v9, rfl, hn7, hb7⟩; have j7 := bt hb7 jA; have HCT := Lib.hid (CT.fresh hg6 hb6 hn7 hb7); obtain ⟨g9, k9, hv9⟩ := ns_form hn7; subst hv9; clear hn7 hb7)
                | (go_at_call 13; (with_reducible refine HRB.out.mono ?_); rintro e w7 ⟨v9, rfl, hn7, hb7⟩; have j7 := bt hb7 jB; have HCT := Lib.hid (CT.ahead hg6 hb6 hn7 hb7); have y0 : w7.cell? ⟨W6.heap.size, 0, none⟩ = some (.slice none 0 0) := (Blk.below (w := (W6.alloc (.cells #[.slice none 0 0] 29)).drew) (Blk.new W6 29 _) hb7).cell 0; have y1 : w7.frozen? ⟨W6.heap.size, 0, none⟩ = false := (Blk.below (w := (W6.alloc (.cells #[.slice none 0 0] 29)).drew) (Blk.new W6 29 _) hb7).frozen 0; obtain ⟨g9, k9, hv9⟩ := ns_form hn7; subst hv9; have j8 := below_grown j7 (grown_setCell w7 ⟨W6.heap.size, 0, none⟩ (.slice (some ⟨g9, 0, none⟩) T'.length k9)) (Nat.le_refl _); clear hn7 hb7))
              all_goals (
                go_wp2
                go_meet
                exact ⟨_, g9, k9, rfl, rfl, HCT.out⟩)
            case rest => as_aux_lemma =>
              obtain ⟨b12, g9, k9, rfl, rfl, hct⟩ := hcut
              have HCT := Lib.hid hct
              have hpl7 := HH6.out.pl.later hct.below
              have HPL7 := Lib.hid hpl7
              have HN7 := Lib.hid hct.ns
              have HBX7 := Lib.hid hct.box
              have HHB := Lib.hid hct.hb
              have HHG := Lib.hid hct.hg
              clear hct hpl7

              have p8 : wc.cell? ⟨b8, 0, none⟩ = some (.slice (some ⟨g8, 0, none⟩) T.length k8) := HPL7.out.box.cell 0
              obtain ⟨ad2, vd2, ve2, hA2, -, d1, -, -, -, -⟩ := acts_get (HAC.out.below HPL7.out.below) HKA.out
              injection hA2 with hA2
              subst hA2
              cases X
              all_goals (
                go_wp2_with fail
                refine (HDP.out _ HPL7.out.tab).mono ?_
                rintro e w8 ⟨rfl, ht8, hg8⟩
                have hne := HPL7.out.ne
                have hb8 := below_grown HPL7.out.below hg8 HPL7.out.hg
                have hn8 := HN7.out.other hg8 (fun b hb => hb.1)
                have hx8 := HBX7.out.kept hg8 (by intro e; injection e with e; exact HHG.out e)
                have ho8 := HPL7.out.box.kept hg8 (by intro e; injection e with e; exact hne e.symm)
                obtain ⟨ad3, vd3, ve3, hA3, -, d3, -, -, -, -⟩ := acts_get (HAC.out.below hb8) HKA.out
                injection hA3 with hA3
                subst hA3
                have HT8 := Lib.hid ht8
                have HN8 := Lib.hid hn8
                have HX8 := Lib.hid hx8
                have HO8 := Lib.hid ho8
                have HB8 := Lib.hid hb8
                have HNE := Lib.hid hne
                clear d1 p8 ht8 hn8 hx8 ho8 hb8 hg8 hne
                go_wp2_with fail
                refine (HND.out _).mono ?_
                rintro e w9 ⟨rfl, hb9⟩
                have x0 : w9.cell? ⟨b12, 0, none⟩ = some (.slice (some ⟨g9, 0, none⟩) T'.length k9) := (HX8.out.below hb9).cell 0
                have o0 : w9.cell? ⟨b8, 0, none⟩ = some (.slice (some ⟨g8, 0, none⟩) T.length k8) := (HO8.out.below hb9).cell 0
                have o1 : w9.frozen? ⟨b8, 0, none⟩ = false := (HO8.out.below hb9).frozen 0
                have HPL9 := Lib.hid (PL.boxed (v' := .slice (some ⟨g9, 0, none⟩) T'.length k9) HNE.out (HT8.out.below hb9) (HN8.out.below hb9) (HO8.out.below hb9) (bt hb9 HB8.out) HPL7.out.hg HPL7.out.hb)
                clear hb9 d3
                go_wp2_with fail
                go_meet
                exact ⟨g9, k9, T', HPL9.out⟩)
      case rest => as_aux_lemma =>
        obtain ⟨g9, k9, T', hpl9⟩ := hcut
        have HPL := Lib.hid hpl9
        clear hpl9 HH6
        clear HAC HSP HKA HF HA HSM HB1 HB2 HB3 HG HZ3
        go_wp2
        go_loopg [23] 26 (fun gh s23 wr => ∃ j : Nat, s23 = .int .i64 j ∧ j ≤ 26 ∧ gh = 26 - j ∧ PL w wr g b8 (.slice (some ⟨g9, 0, none⟩) T'.length k9) T')
        case atStart => exact ⟨0, rfl, Nat.zero_le _, rfl, HPL.out⟩
        case round =>
          obtain ⟨j, rfl, hj, rfl, hpl⟩ := hrel
          have HQ := Lib.hid hpl
          clear hpl
          by_cases hjl : j < 26
          · have hjl' : (j : Int) ≤ 25 := by omega
            have HGT := Lib.hid (HQ.out.get (j : Int))
            have HTF := Lib.hid (ok_few HQ.out.tab.ok (j : Int))
            have HLK := Lib.hid (fun W (h : PL w W g b8 (.slice (some ⟨g9, 0, none⟩) T'.length k9) T') => h.links (j : Int))
            have HRL := Lib.hid (fun W (h : PL w W g b8 (.slice (some ⟨g9, 0, none⟩) T'.length k9) T') => h.rlinks (j : Int))
            have HPK := Lib.hid (fun W (h : PL w W g b8 (.slice (some ⟨g9, 0, none⟩) T'.length k9) T') => h.parent (j : Int))
            have HRP := Lib.hid (fun W (h : PL w W g b8 (.slice (some ⟨g9, 0, none⟩) T'.length k9) T') => h.rparent (j : Int))
            generalize linkT T' (j : Int) = LI at HLK HRL
            generalize parT T' 0 (j : Int) = PA at HPK HRP
            have q1 : ((LI : Int) != (LI : Int)) = false := by simp
            have q2 : ((PA : Int) != (PA : Int)) = false := by simp
            have HRG := Lib.hid (fun W (h : PL w W g b8 (.slice (some ⟨g9, 0, none⟩) T'.length k9) T') => h.rget (j : Int))
            have HRI := Lib.hid (fun W (h : PL w W g b8 (.slice (some ⟨g9, 0, none⟩) T'.length k9) T') => h.ris (j : Int))
            generalize tget T' (j : Int) = N at HGT HTF HRG
            generalize tis T' (j : Int) = IS at HGT HRI
            have q3 : (IS != IS) = false := by simp
            have q4 : (IS == IS) = true := by simp
            go_wp2_with fail
            refine HGT.out.mono ?_
            rintro e w10 ⟨vd, ve, rfl, hd10, he10, hb10⟩
            have hq10 := (HQ.out.later hb10).later (ba w10 (.cells (ndC N vd ve) 39))
            have hd11 := hd10.below (ba w10 (.cells (ndC N vd ve) 39))
            have he11 := he10.below (ba w10 (.cells (ndC N vd ve) 39))
            have hkn := Blk.new w10 39 (ndC N vd ve)
            obtain ⟨A5, k5, hv5⟩ := bytesT_form hd10
            obtain ⟨A6, k6, hv6⟩ := entsT_form he10
            subst hv5 hv6
            obtain ⟨W11, hW11⟩ : ∃ W11, w10.alloc (.cells (ndC N (.slice A5 N.data.length k5) (.slice A6 N.ents.length k6)) 39) = W11 := ⟨_, rfl⟩
            rw [hW11] at hq10 hd11 he11 hkn
            unfold nodeV
            go_upto_region 35 with fail
            have HQ11 := Lib.hid (hq10.later (Below.refl _ _).drew)
            have HD11 := Lib.hid (show BytesR _ _ _ from (hd11.below (Below.refl _ _).drew).1)
            have HE11 := Lib.hid (show EntsR _ _ _ from (he11.below (Below.refl _ _).drew).1)
            obtain ⟨p0, p1, p2, p3, p4, p5, p6⟩ := (hkn.below (Below.refl _ _).drew).c7
            have p8 : W11.drew.cell? ⟨b8, 0, none⟩ = some (.slice (some ⟨g9, 0, none⟩) T'.length k9) := HQ11.out.box.cell 0
            clear hq10 hd11 he11 hkn hd10 he10 hb10 hW11
            have SX : W11.drew.cell? ⟨b8, 0, none⟩ = some (.slice (some ⟨g9, 0, none⟩) T'.length k9) ∧ W11.drew.cell? ⟨w10.heap.size, 0, none⟩ = some (.int .i64 N.kind) ∧ W11.drew.cell? ⟨w10.heap.size, 1, none⟩ = some (.int .i64 N.mode) ∧ W11.drew.cell? ⟨w10.heap.size, 2, none⟩ = some (.int .i64 N.uid) ∧ W11.drew.cell? ⟨w10.heap.size, 3, none⟩ = some (.int .i64 N.gid) ∧ W11.drew.cell? ⟨w10.heap.size, 4, none⟩ = some (.slice A5 N.data.length k5) ∧ W11.drew.cell? ⟨w10.heap.size, 5, none⟩ = some (.slice A6 N.ents.length k6) ∧ W11.drew.cell? ⟨w10.heap.size, 6, none⟩ = some (.string (bA N.target)) := ⟨p8, p0, p1, p2, p3, p4, p5, p6⟩
            have SK : ∀ (Y Y' : World), Below Y.heap.size Y Y' → (Y.cell? ⟨b8, 0, none⟩ = some (.slice (some ⟨g9, 0, none⟩) T'.length k9) ∧ Y.cell? ⟨w10.heap.size, 0, none⟩ = some (.int .i64 N.kind) ∧ Y.cell? ⟨w10.heap.size, 1, none⟩ = some (.int .i64 N.mode) ∧ Y.cell? ⟨w10.heap.size, 2, none⟩ = some (.int .i64 N.uid) ∧ Y.cell? ⟨w10.heap.size, 3, none⟩ = some (.int .i64 N.gid) ∧ Y.cell? ⟨w10.heap.size, 4, none⟩ = some (.slice A5 N.data.length k5) ∧ Y.cell? ⟨w10.heap.size, 5, none⟩ = some (.slice A6 N.ents.length k6) ∧ Y.cell? ⟨w10.heap.size, 6, none⟩ = some (.string (bA N.target))) → (Y'.cell? ⟨b8, 0, none⟩ = some (.slice (some ⟨g9, 0, none⟩) T'.length k9) ∧ Y'.cell? ⟨w10.heap.size, 0, none⟩ = some (.int .i64 N.kind) ∧ Y'.cell? ⟨w10.heap.size, 1, none⟩ = some (.int .i64 N.mode) ∧ Y'.cell? ⟨w10.heap.size, 2, none⟩ = some (.int .i64 N.uid) ∧ Y'.cell? ⟨w10.heap.size, 3, none⟩ = some (.int .i64 N.gid) ∧ Y'.cell? ⟨w10.heap.size, 4, none⟩ = some (.slice A5 N.data.length k5) ∧ Y'.cell? ⟨w10.heap.size, 5, none⟩ = some (.slice A6 N.ents.length k6) ∧ Y'.cell? ⟨w10.heap.size, 6, none⟩ = some (.string (bA N.target))) := fun Y Y' hb ⟨a0, a1, a2, a3, a4, a5, a6, a7⟩ => ⟨bc hb a0, bc hb a1, bc hb a2, bc hb a3, bc hb a4, bc hb a5, bc hb a6, bc hb a7⟩
            go_region_held3 (fun w' => w'.cell? ⟨b8, 0, none⟩ = some (.slice (some ⟨g9, 0, none⟩) T'.length k9) ∧ w'.cell? ⟨w10.heap.size, 0, none⟩ = some (.int .i64 N.kind) ∧ w'.cell? ⟨w10.heap.size, 1, none⟩ = some (.int .i64 N.mode) ∧ w'.cell? ⟨w10.heap.size, 2, none⟩ = some (.int .i64 N.uid) ∧ w'.cell? ⟨w10.heap.size, 3, none⟩ = some (.int .i64 N.gid) ∧ w'.cell? ⟨w10.heap.size, 4, none⟩ = some (.slice A5 N.data.length k5) ∧ w'.cell? ⟨w10.heap.size, 5, none⟩ = some (.slice A6 N.ents.length k6) ∧ w'.cell? ⟨w10.heap.size, 6, none⟩ = some (.string (bA N.target)))
              (first | exact SX | exact (SK _ _ h1 SX) | exact (SK _ _ h2 (SK _ _ h1 SX)) | exact (SK _ _ h3 (SK _ _ h2 (SK _ _ h1 SX))) | exact (SK _ _ h4 (SK _ _ h3 (SK _ _ h2 (SK _ _ h1 SX)))) | exact (SK _ _ h5 (SK _ _ h4 (SK _ _ h3 (SK _ _ h2 (SK _ _ h1 SX))))) | exact (SK _ _ h6 (SK _ _ h5 (SK _ _ h4 (SK _ _ h3 (SK _ _ h2 (SK _ _ h1 SX)))))) | exact (SK _ _ h7 (SK _ _ h6 (SK _ _ h5 (SK _ _ h4 (SK _ _ h3 (SK _ _ h2 (SK _ _ h1 SX))))))) | exact (SK _ _ h8 (SK _ _ h7 (SK _ _ h6 (SK _ _ h5 (SK _ _ h4 (SK _ _ h3 (SK _ _ h2 (SK _ _ h1 SX)))))))))
              (first
                | (go_at_call 16; (with_reducible refine (HRI.out _ HQ11.out).mono ?_); rintro e1 x1 ⟨rfl, h1⟩)
                | (go_at_call 8; (with_reducible refine (model_at N _ _ (HD11.out.below h1) (HE11.out.below h1) HTF.out).mono ?_); rintro e2 x2 ⟨C2, i2, D2, j2, rfl, sn2, sk2, -, -, h2⟩)
                | (go_at_call 18; (with_reducible refine (HRG.out _ ((HQ11.out.later h1).later h2)).mono ?_); rintro e3 x3 ⟨C3, i3, D3, j3, rfl, sn3, sk3, h3⟩)
                | (go_at_call 17; (with_reducible refine (rsame_at N HTF.out (sn2.below h3) (sk2.below h3) sn3 sk3).mono ?_); rintro e4 x4 ⟨rfl, h4⟩)
                | (go_at_call 19; (with_reducible refine (HLK.out _ ((((HQ11.out.later h1).later h2).later h3).later h4)).mono ?_); rintro e5 x5 ⟨rfl, h5⟩)
                | (go_at_call 20; (with_reducible refine (HRL.out _ (((((HQ11.out.later h1).later h2).later h3).later h4).later h5)).mono ?_); rintro e6 x6 ⟨rfl, h6⟩)
                | (go_at_call 21; (with_reducible refine (HPK.out _ ((((((HQ11.out.later h1).later h2).later h3).later h4).later h5).later h6)).mono ?_); rintro e7 x7 ⟨rfl, h7⟩)
                | (go_at_call 22; (with_reducible refine (HRP.out _ (((((((HQ11.out.later h1).later h2).later h3).later h4).later h5).later h6).later h7)).mono ?_); rintro e8 x8 ⟨rfl, h8⟩))
            all_goals (
              go_wp2
              go_roundg (26 - (j + 1))
              case measure => omega
              case rel => exact ⟨j + 1, by go_num, by omega, rfl, ((((((((HQ11.out.later h1).later h2).later h3).later h4).later h5).later h6).later h7).later h8)⟩)
          · have hjl' : ¬ (j : Int) ≤ 25 := by omega
            have HUS := Lib.hid (fun W (h : PL w W g b8 (.slice (some ⟨g9, 0, none⟩) T'.length k9) T') => h.used)
            have HRU := Lib.hid (fun W (h : PL w W g b8 (.slice (some ⟨g9, 0, none⟩) T'.length k9) T') => h.rused)
            have HRM := Lib.hid (fun W (h : PL w W g b8 (.slice (some ⟨g9, 0, none⟩) T'.length k9) T') => h.room)
            generalize usedT T' = US at HUS HRU
            have q1 : ((US : Int) != (US : Int)) = false := by simp
            have q2 : ((T'.length : Int) != (T'.length : Int)) = false := by simp
            have HQ11 := Lib.hid (HQ.out.later (Below.refl _ _).drew)
            have p8 : wr.drew.cell? ⟨b8, 0, none⟩ = some (.slice (some ⟨g9, 0, none⟩) T'.length k9) := HQ11.out.box.cell 0
            go_upto_region 37 with fail
            have SX : wr.drew.cell? ⟨b8, 0, none⟩ = some (.slice (some ⟨g9, 0, none⟩) T'.length k9) := p8
            have SK : ∀ (Y Y' : World), Below Y.heap.size Y Y' → (Y.cell? ⟨b8, 0, none⟩ = some (.slice (some ⟨g9, 0, none⟩) T'.length k9)) → (Y'.cell? ⟨b8, 0, none⟩ = some (.slice (some ⟨g9, 0, none⟩) T'.length k9)) := fun Y Y' hb a0 => bc hb a0
            go_region_held3 (fun w' => w'.cell? ⟨b8, 0, none⟩ = some (.slice (some ⟨g9, 0, none⟩) T'.length k9))
              (first | exact SX | exact (SK _ _ h1 SX) | exact (SK _ _ h2 (SK _ _ h1 SX)) | exact (SK _ _ h3 (SK _ _ h2 (SK _ _ h1 SX))))
              (first
                | (go_at_call 23; (with_reducible refine (HUS.out _ HQ11.out).mono ?_); rintro e1 x1 ⟨rfl, h1⟩)
                | (go_at_call 24; (with_reducible refine (HRU.out _ (HQ11.out.later h1)).mono ?_); rintro e2 x2 ⟨rfl, h2⟩)
                | (go_at_call 25; (with_reducible refine (HRM.out _ ((HQ11.out.later h1).later h2)).mono ?_); rintro e3 x3 ⟨rfl, h3⟩))
            all_goals (
              go_wp2
              go_roundg (l.length - (k + 1))
              case measure => omega
              case rel => exact ⟨k + 1, g9, k9, T', by go_num, by omega, rfl, (((HQ11.out.later h1).later h2).later h3)⟩)
    · have hlt' : ¬ (k : Int) < (l.length : Int) := by omega
      go_wp2_with fail
      refine (nil_get _).mono ?_
      rintro e w10 ⟨vd, ve, rfl, hd10, he10, hb10⟩
      have hq10 := (HPL.out.later hb10).later (ba w10 (.cells (ndC Nd.zero vd ve) 39))
      obtain ⟨A5, k5, hv5⟩ := bytesT_form hd10
      obtain ⟨A6, k6, hv6⟩ := entsT_form he10
      subst hv5 hv6
      obtain ⟨W11, hW11⟩ : ∃ W11, w10.alloc (.cells (ndC Nd.zero (.slice A5 Nd.zero.data.length k5) (.slice A6 Nd.zero.ents.length k6)) 39) = W11 := ⟨_, rfl⟩
      rw [hW11] at hq10
      unfold nodeV
      go_upto_region 40 with fail
      have HQ11 := Lib.hid (hq10.later (Below.refl _ _).drew)
      have p8 : W11.drew.cell? ⟨b8, 0, none⟩ = some (.slice (some ⟨g8, 0, none⟩) T.length k8) := HQ11.out.box.cell 0
      have q3 : ((T.length : Int) == (T.length : Int)) = true := by simp
      clear hq10 hd10 he10 hb10 hW11
      have SX : W11.drew.cell? ⟨b8, 0, none⟩ = some (.slice (some ⟨g8, 0, none⟩) T.length k8) := p8
      have SK : ∀ (Y Y' : World), Below Y.heap.size Y Y' → (Y.cell? ⟨b8, 0, none⟩ = some (.slice (some ⟨g8, 0, none⟩) T.length k8)) → (Y'.cell? ⟨b8, 0, none⟩ = some (.slice (some ⟨g8, 0, none⟩) T.length k8)) := fun Y Y' hb a0 => bc hb a0
      go_region_held3 (fun w' => w'.cell? ⟨b8, 0, none⟩ = some (.slice (some ⟨g8, 0, none⟩) T.length k8))
        (first | exact SX | exact (SK _ _ h1 SX) | exact (SK _ _ h2 (SK _ _ h1 SX)) | exact (SK _ _ h3 (SK _ _ h2 (SK _ _ h1 SX))) | exact (SK _ _ h4 (SK _ _ h3 (SK _ _ h2 (SK _ _ h1 SX)))) | exact (SK _ _ h5 (SK _ _ h4 (SK _ _ h3 (SK _ _ h2 (SK _ _ h1 SX))))) | exact (SK _ _ h6 (SK _ _ h5 (SK _ _ h4 (SK _ _ h3 (SK _ _ h2 (SK _ _ h1 SX)))))) | exact (SK _ _ h7 (SK _ _ h6 (SK _ _ h5 (SK _ _ h4 (SK _ _ h3 (SK _ _ h2 (SK _ _ h1 SX))))))))
        (first
          | (go_at_call 25; (with_reducible refine (HQ11.out.room).mono ?_); rintro e1 x1 ⟨rfl, h1⟩)
          | (go_at_call 25; (with_reducible refine (nil_room _).mono ?_); rintro e2 x2 ⟨rfl, h2⟩)
          | (go_at_call 23; (with_reducible refine (nil_used _).mono ?_); rintro e3 x3 ⟨rfl, h3⟩)
          | (go_at_call 19; (with_reducible refine (nil_links _).mono ?_); rintro e4 x4 ⟨rfl, h4⟩)
          | (go_at_call 21; (with_reducible refine (nil_parent _).mono ?_); rintro e5 x5 ⟨rfl, h5⟩)
          | (go_at_call 26; (with_reducible refine (nil_clone _).mono ?_); rintro e6 x6 ⟨rfl, h6⟩)
          | (go_at_call 27; (with_reducible refine (nil_right _).mono ?_); rintro e7 x7 ⟨rfl, h7⟩))
      all_goals (
        go_wp2
        go_ret
        exact ⟨rfl, (bt h7 (bt h6 (bt h5 (bt h4 (bt h3 (bt h2 (bt h1 HQ11.out.below)))))))⟩)
theorem plays_any (r : Int) (v : Value) (l : List Ac) (w : World) (h : ActsR w v l) (hl : l.length ≤ maxLen) :
    Calls Try.prog 3 #[.int .i64 r, v] w fun e w' => e = .returned (.bool true) ∧ Below w.heap.size w w' := by
  by_cases hs : smallP l
  · exact plays_few r v l w h hl hs
  · exact plays_big r v l w h hl hs
end Go.Proofs.Ytilepnepcamnaaa
