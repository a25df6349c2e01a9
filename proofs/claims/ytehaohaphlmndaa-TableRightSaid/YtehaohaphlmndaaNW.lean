/-
  TableRight: whether any nodes are a tree, but for some that are open, and whether two tables are the same, are the document's. The condition: no list is longer than a machine can hold.
-/
import Derived.Test.YtehaohaphlmndaaNR
namespace Go.Proofs.Ytehaohaphlmndaa
open Go Go.RowKit
set_option maxRecDepth 100000

attribute [local go_sem] cell_off4 cell_blk4
set_option maxRecDepth 100000 in
set_option maxHeartbeats 8000000 in
theorem trt_big1 (v v' vo : Value) (l : List Ac) (w : World) (h : ActsR w v l) (hl : l.length ≤ maxLen) (hs : ¬ smallP l) :
    Calls Try.prog 4 #[v, v', vo] w fun e w' => e = .returned (.bool true) ∧ Below w.heap.size w w' := by
  have HA := Lib.hid (awake_any w)
  have HS := Lib.hid (fun W (hb : Below w.heap.size w W) => small_any v l W (h.below hb) hl)
  rw [toB_false hs] at HS
  clear h hl hs
  go_enter Try.func4, Try.ntmps4
  go_wp2_with fail
  refine HA.out.mono ?_
  rintro e w1 ⟨rfl, hb1⟩
  have HB1 := Lib.hid hb1
  clear hb1
  go_wp2_with fail
  refine (HS.out _ HB1.out).mono ?_
  rintro e w2 ⟨rfl, hb2⟩
  have HB2 := Lib.hid (bt hb2 HB1.out)
  clear hb2
  go_wp2
  go_ret
  exact ⟨rfl, HB2.out⟩
set_option maxRecDepth 100000 in
set_option maxHeartbeats 8000000 in
theorem trt_big2 (v v' vo : Value) (l m : List Ac) (w : World) (h : ActsR w v l) (hl : l.length ≤ maxLen) (hs : smallP l) (h' : ActsR w v' m) (hm : m.length ≤ maxLen) (hs' : ¬ smallP m) :
    Calls Try.prog 4 #[v, v', vo] w fun e w' => e = .returned (.bool true) ∧ Below w.heap.size w w' := by
  have HA := Lib.hid (awake_any w)
  have HS := Lib.hid (fun W (hb : Below w.heap.size w W) => small_any v l W (h.below hb) hl)
  rw [toB_true hs] at HS
  have HS' := Lib.hid (fun W (hb : Below w.heap.size w W) => small_any v' m W (h'.below hb) hm)
  rw [toB_false hs'] at HS'
  clear h hl hs h' hm hs'
  go_enter Try.func4, Try.ntmps4
  go_wp2_with fail
  refine HA.out.mono ?_
  rintro e w1 ⟨rfl, hb1⟩
  have HB1 := Lib.hid hb1
  clear hb1
  go_wp2_with fail
  refine (HS.out _ HB1.out).mono ?_
  rintro e w2 ⟨rfl, hb2⟩
  have HB2 := Lib.hid (bt hb2 HB1.out)
  clear hb2
  go_wp2_with fail
  refine (HS'.out _ HB2.out).mono ?_
  rintro e w3 ⟨rfl, hb3⟩
  have HB3 := Lib.hid (bt hb3 HB2.out)
  clear hb3
  go_wp2
  go_ret
  exact ⟨rfl, HB3.out⟩
set_option maxRecDepth 100000 in
set_option maxHeartbeats 8000000 in
theorem trt_big3 (v v' vo : Value) (l m : List Ac) (op : List Int) (w : World) (h : ActsR w v l) (hl : l.length ≤ maxLen) (hs : smallP l) (h' : ActsR w v' m) (hm : m.length ≤ maxLen) (hs' : smallP m) (ho : IntsR w vo op) (hos : ¬ op.length ≤ 20) :
    Calls Try.prog 4 #[v, v', vo] w fun e w' => e = .returned (.bool true) ∧ Below w.heap.size w w' := by
  have HA := Lib.hid (awake_any w)
  have HS := Lib.hid (fun W (hb : Below w.heap.size w W) => small_any v l W (h.below hb) hl)
  rw [toB_true hs] at HS
  have HS' := Lib.hid (fun W (hb : Below w.heap.size w W) => small_any v' m W (h'.below hb) hm)
  rw [toB_true hs'] at HS'
  obtain ⟨A0, c0, rfl⟩ := ints_form ho rfl
  have hgt : (20 : Int) < (op.length : Int) := by omega
  clear h hl hs h' hm hs' ho
  go_enter Try.func4, Try.ntmps4
  go_wp2_with fail
  refine HA.out.mono ?_
  rintro e w1 ⟨rfl, hb1⟩
  have HB1 := Lib.hid hb1
  clear hb1
  go_wp2_with fail
  refine (HS.out _ HB1.out).mono ?_
  rintro e w2 ⟨rfl, hb2⟩
  have HB2 := Lib.hid (bt hb2 HB1.out)
  clear hb2
  go_wp2_with fail
  refine (HS'.out _ HB2.out).mono ?_
  rintro e w3 ⟨rfl, hb3⟩
  have HB3 := Lib.hid (bt hb3 HB2.out)
  clear hb3
  go_wp2
  go_ret
  exact ⟨rfl, HB3.out⟩
set_option maxRecDepth 100000 in
set_option maxHeartbeats 100000000 in
theorem trt_few (v v' vo : Value) (l m : List Ac) (op : List Int) (w : World) (h : ActsR w v l) (hl : l.length ≤ maxLen) (hs : smallP l) (h' : ActsR w v' m) (hm : m.length ≤ maxLen) (hs' : smallP m) (ho : IntsR w vo op) (hos :  op.length ≤ 20) :
    Calls Try.prog 4 #[v, v', vo] w fun e w' => e = .returned (.bool true) ∧ Below w.heap.size w w' := by
  have HA := Lib.hid (awake_any w)
  have HS := Lib.hid (fun W (hb : Below w.heap.size w W) => small_any v l W (h.below hb) hl)
  rw [toB_true hs] at HS
  have HS' := Lib.hid (fun W (hb : Below w.heap.size w W) => small_any v' m W (h'.below hb) hm)
  rw [toB_true hs'] at HS'
  have HAC := Lib.hid h
  have HAC' := Lib.hid h'
  have HSP := Lib.hid hs
  have HSP' := Lib.hid hs'
  have HOP := Lib.hid ho
  obtain ⟨A0, c0, rfl⟩ := acts_form h
  obtain ⟨A9, c9, rfl⟩ := acts_form h'
  obtain ⟨A8, c8, rfl⟩ := ints_form ho rfl
  have hgt : (op.length : Int) ≤ 20 := by omega
  have HOL := Lib.hid (show op.length ≤ 1000 by omega)
  clear h hl hs h' hm hs' ho
  go_enter Try.func4, Try.ntmps4
  go_wp2_with fail
  refine HA.out.mono ?_
  rintro e w1 ⟨rfl, hb1⟩
  have HB1 := Lib.hid hb1
  clear hb1
  go_wp2_with fail
  refine (HS.out _ HB1.out).mono ?_
  rintro e w2 ⟨rfl, hb2⟩
  have HB2 := Lib.hid (bt hb2 HB1.out)
  clear hb2
  go_wp2_with fail
  refine (HS'.out _ HB2.out).mono ?_
  rintro e w3 ⟨rfl, hb3⟩
  have HB3 := Lib.hid (bt hb3 HB2.out)
  clear hb3
  clear HS HS' HA
  go_wp2_with fail
  refine (new_any 24 w3).mono ?_
  rintro e w4 ⟨rfl, ht4, hb4, -⟩
  obtain ⟨g, hg⟩ : ∃ g, w3.heap.size = g := ⟨_, rfl⟩
  have HT4 := Lib.hid (ht4 (fun _ => True))
  have HB4 := Lib.hid (bt hb4 HB3.out)
  have HG := Lib.hid (show w.heap.size ≤ g by rw [← hg]; exact HB3.out.size)
  rw [hg] at HT4 ⊢
  clear ht4 hb4 hg
  go_wp2_with fail
  refine (new_any 20 w4).mono ?_
  rintro e w5 ⟨rfl, hu5, hb5, -⟩
  obtain ⟨u, hu⟩ : ∃ u, w4.heap.size = u := ⟨_, rfl⟩
  have HT5 := Lib.hid (HT4.out.below hb5)
  have HU5 := Lib.hid (hu5 (fun _ => True))
  have HB5 := Lib.hid (bt hb5 HB4.out)
  have HGU := Lib.hid (show g < u by rw [← hu]; exact HT4.out.lt)
  rw [hu] at HU5 ⊢
  clear hu5 hb5 hu HT4
  go_wp2_with fail
  refine (rnew_any 24 w5).mono ?_
  rintro e w6 ⟨v1, rfl, hn6, hb6, hz6⟩
  have hns6 := hn6 (Ne4 g u w6.heap.size w6.heap.size) ⟨by have := HT5.out.lt; omega, by have := HU5.out.lt; omega, by omega, by omega⟩
  rw [show newL 24 = 24 from rfl] at hns6
  have HS7 := Lib.hid (show S0 w (w6.alloc (.cells #[v1] 29)) g u w6.heap.size w6.heap.size (List.replicate (newL 24) Nd.zero) (List.replicate (newL 20) Nd.zero) v1 (List.replicate 24 Nd.zero) from
    ⟨(HT5.out.below hb6).below (ba _ _), (HU5.out.below hb6).below (ba _ _), hns6.below (ba _ _), Blk.new _ _ _, bt (ba _ _) (bt hb6 HB5.out), HG.out, by have := HG.out; have := HGU.out; omega, (bt hb6 HB5.out).size, by have := HGU.out; omega⟩)
  obtain ⟨g1, k1, rfl⟩ := ns_form hns6
  rw [List.length_replicate] at HS7 ⊢
  obtain ⟨b, hb⟩ : ∃ b, w6.heap.size = b := ⟨_, rfl⟩
  obtain ⟨W7, hW7⟩ : ∃ W7, w6.alloc (.cells #[.slice (some ⟨g1, 0, none⟩) 24 k1] 29) = W7 := ⟨_, rfl⟩
  rw [hb, hW7] at HS7
  clear hn6 hb6 hz6 hns6 HT5 HU5
  go_wp2_with fail
  clear hb hW7
  refine (play_any g _ (fun _ => True) _ l w W7 HS7.out.tt HAC.out HS7.out.below HS7.out.hg HSP.out (fun _ _ => trivial)).mono ?_
  rintro e w8 ⟨rfl, ht8, hg8⟩
  have HS8 := Lib.hid (HS7.out.playT ht8 hg8)
  generalize playT (List.replicate (newL 24) Nd.zero) l = T at HS8
  clear ht8 hg8 HS7
  go_wp2_with fail
  refine (play_any u _ (fun _ => True) _ l w w8 HS8.out.uu HAC.out HS8.out.below HS8.out.hu HSP.out (fun _ _ => trivial)).mono ?_
  rintro e w9 ⟨rfl, hu9, hg9⟩
  have HS9 := Lib.hid (HS8.out.playU hu9 hg9)
  generalize playT (List.replicate (newL 20) Nd.zero) l = U at HS9
  clear hu9 hg9 HS8 HB1 HB2 HB3 HB4 HB5 HG HGU
  rw [← copy_zero T] at HS9
  go_wp2

  go_loopg [12] 24 (fun gh s12 wr => ∃ k g1 k1 : Nat, s12 = .int .i64 ((k : Int) + 1) ∧ k ≤ 24 ∧ gh = 24 - k ∧ S0 w wr g u b b T U (.slice (some ⟨g1, 0, none⟩) 24 k1) (copyT T k))
  case atStart => exact ⟨0, g1, k1, by rfl, Nat.zero_le _, rfl, HS9.out⟩
  case round =>
    clear HS9
    obtain ⟨k, g1, k1, rfl, hk, rfl, hs⟩ := hrel
    have HQ := Lib.hid hs
    clear hs
    by_cases hlt : k < 24
    · have hlt' : (k : Int) + 1 ≤ 24 := by omega
      have HTF := Lib.hid (ok_few HQ.out.tt.ok ((k : Int) + 1))
      have HGT := Lib.hid (get_at HQ.out.tt ((k : Int) + 1))
      have HST := Lib.hid (copy_step T k)
      have HSK := Lib.hid (show tis T ((k : Int) + 1) = false → copyT T k = copyT T (k + 1) from fun h => copy_skip (tis_not HQ.out.tt.ok h))
      have HCL := Lib.hid (copy_len T k)
      generalize copyT T k = C at HQ HST HSK HCL
      generalize tget T ((k : Int) + 1) = n at HGT HTF HST
      go_wp2_with fail
      refine HGT.out.mono ?_
      rintro e w10 ⟨vd, ve, rfl, hd10, he10, hb10⟩
      have hq10 := (HQ.out.later hb10).later (ba w10 (.cells (ndC n vd ve) 39))
      have hd11 := hd10.below (ba w10 (.cells (ndC n vd ve) 39))
      have he11 := he10.below (ba w10 (.cells (ndC n vd ve) 39))
      have hkn := Blk.new w10 39 (ndC n vd ve)
      obtain ⟨A5, k5, hv5⟩ := bytesT_form hd10
      obtain ⟨A6, k6, hv6⟩ := entsT_form he10
      subst hv5 hv6
      obtain ⟨W11, hW11⟩ : ∃ W11, w10.alloc (.cells (ndC n (.slice A5 n.data.length k5) (.slice A6 n.ents.length k6)) 39) = W11 := ⟨_, rfl⟩
      rw [hW11] at hq10 hd11 he11 hkn
      unfold nodeV
      cases hX : tis T ((k : Int) + 1)
      · have HC2 := Lib.hid (HSK.out hX)
        have HQ11 := Lib.hid hq10
        clear hX hkn hd11 he11 hd10 he10 hb10 hq10 HTF HST HSK
        go_wp2
        clear hW11
        go_roundg (24 - (k + 1))
        case measure => omega
        case rel => exact ⟨k + 1, g1, k1, by go_num, by omega, rfl, by rw [← HC2.out]; exact HQ11.out⟩
      · clear hX HSK
        have HQ11 := Lib.hid (hq10.later (Below.refl _ _).drew)
        have HD11 := Lib.hid (show BytesR _ _ _ from (hd11.below (Below.refl _ _).drew).1)
        have HE11 := Lib.hid (show EntsR _ _ _ from (he11.below (Below.refl _ _).drew).1)
        have HMD := Lib.hid (model_at n _ _ HD11.out HE11.out HTF.out)
        obtain ⟨p0, p1, p2, p3, p4, p5, p6⟩ := (hkn.below (Below.refl _ _).drew).c7
        have p8 : W11.drew.cell? ⟨b, 0, none⟩ = some (.slice (some ⟨g1, 0, none⟩) 24 k1) := HQ11.out.box.cell 0
        clear hkn hd11 he11 hd10 he10 hb10 hq10
        go_upto_region 17 with fail
        clear hW11
        go_region_with (first
          | (go_at_call 17; (with_reducible refine HMD.out.mono ?_); rintro e1 x1 ⟨C2, i2, D2, j2, rfl, sn2, sk2, ln2, lk2, h1⟩; have HQ12 := Lib.hid (HQ11.out.later h1); have p9 : x1.cell? ⟨b, 0, none⟩ = some (.slice (some ⟨g1, 0, none⟩) 24 k1) := HQ12.out.box.cell 0; have HSN := Lib.hid sn2; have HSI := Lib.hid sk2; have HLN := Lib.hid ln2; have HLK := Lib.hid lk2; clear sn2 sk2 ln2 lk2)
          | (go_at_call 38; (with_reducible refine (with_next (n := n) HQ12.out.ns (fun x hx => HQ11.out.above x hx) h1.size HCL.out hlt HSN.out HSI.out HLN.out HLK.out).mono ?_); rintro e2 x2 ⟨g2, k2, rfl, hn2, h2⟩; rw [HST.out] at hn2; have HQ13 := Lib.hid ((HQ12.out.later h2).boxed hn2); have p10 : x2.cell? ⟨b, 0, none⟩ = some (.slice (some ⟨g1, 0, none⟩) 24 k1) := (HQ12.out.later h2).box.cell 0; have p11 : x2.frozen? ⟨b, 0, none⟩ = false := (HQ12.out.later h2).box.frozen 0; clear hn2))
        all_goals (
          go_wp2
          go_roundg (24 - (k + 1))
          case measure => omega
          case rel => exact ⟨k + 1, g2, k2, by go_num, by omega, rfl, HQ13.out⟩)
    · have hke : k = 24 := by omega
      subst hke
      clear hlt hk
      have hle : ¬ ((24 : Nat) : Int) + 1 ≤ 24 := by decide
      go_wp2_with fail
      refine (rnew_any 24 wr).mono ?_
      rintro e w6 ⟨v2, rfl, hn6, hb6, hz6⟩
      have hq6 := HQ.out.later hb6
      have hq7 := (hq6.turn (c' := w6.heap.size) (Nat.le_refl _)).later (ba w6 (.cells #[v2] 29))
      have hns6 := hn6 (Ne4 g u b w6.heap.size) ⟨by have := HQ.out.tt.lt; omega, by have := HQ.out.uu.lt; omega, by have := HQ.out.box.lt; omega, by omega⟩
      rw [show newL 24 = 24 from rfl] at hns6
      have HS7 := Lib.hid (show S1 w (w6.alloc (.cells #[v2] 29)) g u b w6.heap.size T U (.slice (some ⟨g1, 0, none⟩) 24 k1) (copyT T 24) v2 (List.replicate 24 Nd.zero) from
        ⟨hq7, hns6.below (ba _ _), Blk.new _ _ _, hq6.below.size, by have := hq6.box.lt; omega⟩)
      obtain ⟨g3, k3, rfl⟩ := ns_form hns6
      rw [List.length_replicate] at HS7 ⊢
      obtain ⟨c, hc⟩ : ∃ c, w6.heap.size = c := ⟨_, rfl⟩
      obtain ⟨W7, hW7⟩ : ∃ W7, w6.alloc (.cells #[.slice (some ⟨g3, 0, none⟩) 24 k3] 29) = W7 := ⟨_, rfl⟩
      rw [hc, hW7] at HS7
      clear hn6 hb6 hz6 hns6 hq6 hq7 HQ
      go_wp2_with fail
      clear hc hW7
      refine (play_any u _ (fun _ => True) _ m w W7 HS7.out.s.uu HAC'.out HS7.out.s.below HS7.out.s.hu HSP'.out (fun _ _ => trivial)).mono ?_
      rintro e w8 ⟨rfl, ht8, hg8⟩
      have HS8 := Lib.hid (HS7.out.playU ht8 hg8)
      generalize playT U m = U2 at HS8
      clear ht8 hg8 HS7
      rw [← copy_zero U2] at HS8
      obtain ⟨V1, hV1⟩ : ∃ V1, Value.slice (some ⟨g1, 0, none⟩) 24 k1 = V1 := ⟨_, rfl⟩
      rw [hV1] at HS8
      go_wp2
      go_loopg [16] 24 (fun gh s16 wr => ∃ k g1 k1 : Nat, s16 = .int .i64 ((k : Int) + 1) ∧ k ≤ 24 ∧ gh = 24 - k ∧ S1 w wr g u b c T U2 V1 (copyT T 24) (.slice (some ⟨g1, 0, none⟩) 24 k1) (copyT U2 k))
      case atStart => exact ⟨0, g3, k3, by rfl, Nat.zero_le _, rfl, HS8.out⟩
      case round =>
        clear HS8
        obtain ⟨k, g1, k1, rfl, hk, rfl, hs⟩ := hrel
        have HQ := Lib.hid hs
        clear hs
        by_cases hlt : k < 24
        · have hlt' : (k : Int) + 1 ≤ 24 := by omega
          have HTF := Lib.hid (ok_few HQ.out.s.uu.ok ((k : Int) + 1))
          have HGT := Lib.hid (get_at HQ.out.s.uu ((k : Int) + 1))
          have HST := Lib.hid (copy_step U2 k)
          have HSK := Lib.hid (show tis U2 ((k : Int) + 1) = false → copyT U2 k = copyT U2 (k + 1) from fun h => copy_skip (tis_not HQ.out.s.uu.ok h))
          have HCL := Lib.hid (copy_len U2 k)
          generalize copyT U2 k = C at HQ HST HSK HCL
          generalize tget U2 ((k : Int) + 1) = n at HGT HTF HST
          go_wp2_with fail
          refine HGT.out.mono ?_
          rintro e w10 ⟨vd, ve, rfl, hd10, he10, hb10⟩
          have hq10 := (HQ.out.later hb10).later (ba w10 (.cells (ndC n vd ve) 39))
          have hd11 := hd10.below (ba w10 (.cells (ndC n vd ve) 39))
          have he11 := he10.below (ba w10 (.cells (ndC n vd ve) 39))
          have hkn := Blk.new w10 39 (ndC n vd ve)
          obtain ⟨A5, k5, hv5⟩ := bytesT_form hd10
          obtain ⟨A6, k6, hv6⟩ := entsT_form he10
          subst hv5 hv6
          obtain ⟨W11, hW11⟩ : ∃ W11, w10.alloc (.cells (ndC n (.slice A5 n.data.length k5) (.slice A6 n.ents.length k6)) 39) = W11 := ⟨_, rfl⟩
          rw [hW11] at hq10 hd11 he11 hkn
          unfold nodeV
          cases hX : tis U2 ((k : Int) + 1)
          · have HC2 := Lib.hid (HSK.out hX)
            have HQ11 := Lib.hid hq10
            clear hX hkn hd11 he11 hd10 he10 hb10 hq10 HTF HST HSK
            go_wp2
            clear hW11
            go_roundg (24 - (k + 1))
            case measure => omega
            case rel => exact ⟨k + 1, g1, k1, by go_num, by omega, rfl, by rw [← HC2.out]; exact HQ11.out⟩
          · clear hX HSK
            have HQ11 := Lib.hid (hq10.later (Below.refl _ _).drew)
            have HD11 := Lib.hid (show BytesR _ _ _ from (hd11.below (Below.refl _ _).drew).1)
            have HE11 := Lib.hid (show EntsR _ _ _ from (he11.below (Below.refl _ _).drew).1)
            have HMD := Lib.hid (model_at n _ _ HD11.out HE11.out HTF.out)
            obtain ⟨p0, p1, p2, p3, p4, p5, p6⟩ := (hkn.below (Below.refl _ _).drew).c7
            have p8 : W11.drew.cell? ⟨c, 0, none⟩ = some (.slice (some ⟨g1, 0, none⟩) 24 k1) := HQ11.out.box.cell 0
            clear hkn hd11 he11 hd10 he10 hb10 hq10
            go_upto_region 25 with fail
            clear hW11
            go_region_with (first
              | (go_at_call 17; (with_reducible refine HMD.out.mono ?_); rintro e1 x1 ⟨C2, i2, D2, j2, rfl, sn2, sk2, ln2, lk2, h1⟩; have HQ12 := Lib.hid (HQ11.out.later h1); have p9 : x1.cell? ⟨c, 0, none⟩ = some (.slice (some ⟨g1, 0, none⟩) 24 k1) := HQ12.out.box.cell 0; have HSN := Lib.hid sn2; have HSI := Lib.hid sk2; have HLN := Lib.hid ln2; have HLK := Lib.hid lk2; clear sn2 sk2 ln2 lk2)
              | (go_at_call 38; (with_reducible refine (with_next (n := n) HQ12.out.ns (fun x hx => HQ11.out.above x hx) h1.size HCL.out hlt HSN.out HSI.out HLN.out HLK.out).mono ?_); rintro e2 x2 ⟨g2, k2, rfl, hn2, h2⟩; rw [HST.out] at hn2; have HQ13 := Lib.hid ((HQ12.out.later h2).boxed hn2); have p10 : x2.cell? ⟨c, 0, none⟩ = some (.slice (some ⟨g1, 0, none⟩) 24 k1) := (HQ12.out.later h2).box.cell 0; have p11 : x2.frozen? ⟨c, 0, none⟩ = false := (HQ12.out.later h2).box.frozen 0; clear hn2))
            all_goals (
              go_wp2
              go_roundg (24 - (k + 1))
              case measure => omega
              case rel => exact ⟨k + 1, g2, k2, by go_num, by omega, rfl, HQ13.out⟩)
        · have hke : k = 24 := by omega
          subst hke
          clear hlt hk
          have hle : ¬ ((24 : Nat) : Int) + 1 ≤ 24 := by decide
          have HQ11 := Lib.hid (HQ.out.later (Below.refl _ _).drew)
          obtain ⟨V2, hV2⟩ : ∃ V2, Value.slice (some ⟨g1, 0, none⟩) 24 k1 = V2 := ⟨_, rfl⟩
          rw [hV2] at HQ HQ11
          have hokT := HQ.out.s.tt.ok
          have hokU := HQ.out.s.uu.ok
          have hlT := HQ.out.s.tt.hi
          have hlU := HQ.out.s.uu.hi
          have HC1 := Lib.hid (fun W (h : S1 w W g u b c T U2 V1 (copyT T 24) V2 (copyT U2 24)) => tright_any _ _ T op W h.s.tt.ptr (HOP.out.below h.s.below) HOL.out)
          have HC2 := Lib.hid (fun W (h : S1 w W g u b c T U2 V1 (copyT T 24) V2 (copyT U2 24)) => rtright_any V1 _ _ op W h.s.ns (HOP.out.below h.s.below) HOL.out (by rw [copy_len]; omega) (copy_ok hokT 24))
          have HC3 := Lib.hid (fun W (h : S1 w W g u b c T U2 V1 (copyT T 24) V2 (copyT U2 24)) => tright_any _ _ U2 [] W h.s.uu.ptr (IntsR.nil W) (by decide))
          have HC4 := Lib.hid (fun W (h : S1 w W g u b c T U2 V1 (copyT T 24) V2 (copyT U2 24)) => rtright_any V2 _ _ [] W h.ns (IntsR.nil W) (by decide) (by rw [copy_len]; omega) (copy_ok hokU 24))
          have HC5 := Lib.hid (fun W (h : S1 w W g u b c T U2 V1 (copyT T 24) V2 (copyT U2 24)) => tsame_any _ _ T U2 W h.s.tt.ptr h.s.uu.ptr)
          have HC6 := Lib.hid (fun W (h : S1 w W g u b c T U2 V1 (copyT T 24) V2 (copyT U2 24)) => rtsame_any V1 V2 _ _ W h.s.ns h.ns (by rw [copy_len]; omega) (by rw [copy_len]; omega) (copy_ok hokT 24) (copy_ok hokU 24))
          have HC7 := Lib.hid (fun W (h : S1 w W g u b c T U2 V1 (copyT T 24) V2 (copyT U2 24)) => tsame_any _ _ U2 T W h.s.uu.ptr h.s.tt.ptr)
          rw [all_same (fun j => copy_all hlT j) op] at HC2
          rw [all_same (fun j => copy_all hlU j) []] at HC4
          rw [sam_same (fun j => copy_all hlT j) (fun j => copy_all hlU j)] at HC6
          rw [sam_comm U2 T] at HC7
          generalize toB (allT T op) = X1 at HC1 HC2
          generalize toB (allT U2 []) = X2 at HC3 HC4
          generalize toB (sam24 T U2) = X3 at HC5 HC6 HC7
          have y1 : (X1 == X1) = true := by simp
          have y2 : (X2 == X2) = true := by simp
          have y3 : (X3 == X3) = true := by simp
          have p8 : wr.drew.cell? ⟨b, 0, none⟩ = some V1 := HQ11.out.s.box.cell 0
          have p9 : wr.drew.cell? ⟨c, 0, none⟩ = some V2 := HQ11.out.box.cell 0
          clear hokT hokU hlT hlU HQ hV1 hV2
          go_upto_region 26 with fail
          have SX : wr.drew.cell? ⟨b, 0, none⟩ = some V1 ∧ wr.drew.cell? ⟨c, 0, none⟩ = some V2 := ⟨p8, p9⟩
          have SK : ∀ (Y Y' : World), Below Y.heap.size Y Y' → (Y.cell? ⟨b, 0, none⟩ = some V1 ∧ Y.cell? ⟨c, 0, none⟩ = some V2) → (Y'.cell? ⟨b, 0, none⟩ = some V1 ∧ Y'.cell? ⟨c, 0, none⟩ = some V2) := fun Y Y' hb ⟨a0, a1⟩ => ⟨bc hb a0, bc hb a1⟩
          go_region_held3 (fun w' => w'.cell? ⟨b, 0, none⟩ = some V1 ∧ w'.cell? ⟨c, 0, none⟩ = some V2)
            (first | exact SX | exact (SK _ _ h1 SX) | exact (SK _ _ h2 (SK _ _ h1 SX)) | exact (SK _ _ h3 (SK _ _ h2 (SK _ _ h1 SX))) | exact (SK _ _ h4 (SK _ _ h3 (SK _ _ h2 (SK _ _ h1 SX)))) | exact (SK _ _ h5 (SK _ _ h4 (SK _ _ h3 (SK _ _ h2 (SK _ _ h1 SX))))) | exact (SK _ _ h6 (SK _ _ h5 (SK _ _ h4 (SK _ _ h3 (SK _ _ h2 (SK _ _ h1 SX)))))) | exact (SK _ _ h7 (SK _ _ h6 (SK _ _ h5 (SK _ _ h4 (SK _ _ h3 (SK _ _ h2 (SK _ _ h1 SX))))))) | exact (SK _ _ h8 (SK _ _ h7 (SK _ _ h6 (SK _ _ h5 (SK _ _ h4 (SK _ _ h3 (SK _ _ h2 (SK _ _ h1 SX)))))))))
            (first
              | (go_at_call 36; (with_reducible refine (HC1.out _ HQ11.out).mono ?_); rintro e1 x1 ⟨rfl, h1⟩)
              | (go_at_call 39; (with_reducible refine (HC2.out _ (HQ11.out.later h1)).mono ?_); rintro e2 x2 ⟨rfl, h2⟩)
              | (go_at_call 36; (with_reducible refine (HC3.out _ ((HQ11.out.later h1).later h2)).mono ?_); rintro e3 x3 ⟨rfl, h3⟩)
              | (go_at_call 39; (with_reducible refine (HC4.out _ (((HQ11.out.later h1).later h2).later h3)).mono ?_); rintro e4 x4 ⟨rfl, h4⟩)
              | (go_at_call 40; (with_reducible refine (HC5.out _ ((((HQ11.out.later h1).later h2).later h3).later h4)).mono ?_); rintro e5 x5 ⟨rfl, h5⟩)
              | (go_at_call 41; (with_reducible refine (HC6.out _ (((((HQ11.out.later h1).later h2).later h3).later h4).later h5)).mono ?_); rintro e6 x6 ⟨rfl, h6⟩)
              | (go_at_call 40; (with_reducible refine (HC7.out _ ((((((HQ11.out.later h1).later h2).later h3).later h4).later h5).later h6)).mono ?_); rintro e7 x7 ⟨rfl, h7⟩)
              | (go_at_call 40; (with_reducible refine (HC5.out _ (((((((HQ11.out.later h1).later h2).later h3).later h4).later h5).later h6).later h7)).mono ?_); rintro e8 x8 ⟨rfl, h8⟩))
          all_goals (
            go_wp2
            go_ret
            exact ⟨rfl, (((((((((HQ11.out.later h1).later h2).later h3).later h4).later h5).later h6).later h7).later h8)).s.below⟩)
theorem trt_any (v v' vo : Value) (l m : List Ac) (op : List Int) (w : World) (h : ActsR w v l) (hl : l.length ≤ maxLen) (h' : ActsR w v' m) (hm : m.length ≤ maxLen) (ho : IntsR w vo op) :
    Calls Try.prog 4 #[v, v', vo] w fun e w' => e = .returned (.bool true) ∧ Below w.heap.size w w' := by
  by_cases q1 : smallP l
  · by_cases q2 : smallP m
    · by_cases q3 : op.length ≤ 20
      · exact trt_few v v' vo l m op w h hl q1 h' hm q2 ho q3
      · exact trt_big3 v v' vo l m op w h hl q1 h' hm q2 ho q3
    · exact trt_big2 v v' vo l m w h hl q1 h' hm q2
  · exact trt_big1 v v' vo l w h hl q1
end Go.Proofs.Ytehaohaphlmndaa
