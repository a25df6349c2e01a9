/-
  TableApart: a clone is the same, and what is done to one, or to what was handed in or told, changes nothing of the other. The condition: no list of acts is longer than a machine can hold.
-/
import Derived.Test.YtmapkmjhpebcbaaApartM
namespace Go.Proofs.Ytmapkmjhpebcbaa
open Go Go.RowKit

attribute [local go_sem] cell_off4 cell_blk4
set_option maxRecDepth 100000 in
set_option maxHeartbeats 8000000 in
theorem apart_big1 (v v' : Value) (l : List Ac) (r : Int) (w : World) (h : ActsR w v l) (hl : l.length ≤ maxLen) (hs : ¬ smallP l) :
    Calls Try.prog 5 #[v, v', .int .u8 r] w fun e w' => e = .returned (.bool true) ∧ Below w.heap.size w w' := by
  have HA := Lib.hid (awake_any w)
  have HS := Lib.hid (fun W (hb : Below w.heap.size w W) => small_any v l W (h.below hb) hl)
  rw [toB_false hs] at HS
  clear h hl hs
  go_enter Try.func5, Try.ntmps5
  go_wp2_with fail
  refine HA.out.mono ?_
  rintro e w1 ⟨rfl, hb1⟩
  have HB1 := Lib.hid hb1
  clear hb1
  go_wp2_with fail
  refine (HS.out _ HB1.out).mono ?_
  rintro e w2 ⟨rfl, hb2⟩
  have HB2 := Lib.hid (bt hb2 HB1.out)
  clear hb2
  go_wp2
  go_ret
  exact ⟨rfl, HB2.out⟩
set_option maxRecDepth 100000 in
set_option maxHeartbeats 8000000 in
theorem apart_big2 (v v' : Value) (l m : List Ac) (r : Int) (w : World) (h : ActsR w v l) (hl : l.length ≤ maxLen) (hs : smallP l) (h' : ActsR w v' m) (hm : m.length ≤ maxLen) (hs' : ¬ smallP m) :
    Calls Try.prog 5 #[v, v', .int .u8 r] w fun e w' => e = .returned (.bool true) ∧ Below w.heap.size w w' := by
  have HA := Lib.hid (awake_any w)
  have HS := Lib.hid (fun W (hb : Below w.heap.size w W) => small_any v l W (h.below hb) hl)
  rw [toB_true hs] at HS
  have HS' := Lib.hid (fun W (hb : Below w.heap.size w W) => small_any v' m W (h'.below hb) hm)
  rw [toB_false hs'] at HS'
  clear h hl hs h' hm hs'
  go_enter Try.func5, Try.ntmps5
  go_wp2_with fail
  refine HA.out.mono ?_
  rintro e w1 ⟨rfl, hb1⟩
  have HB1 := Lib.hid hb1
  clear hb1
  go_wp2_with fail
  refine (HS.out _ HB1.out).mono ?_
  rintro e w2 ⟨rfl, hb2⟩
  have HB2 := Lib.hid (bt hb2 HB1.out)
  clear hb2
  go_wp2_with fail
  refine (HS'.out _ HB2.out).mono ?_
  rintro e w3 ⟨rfl, hb3⟩
  have HB3 := Lib.hid (bt hb3 HB2.out)
  clear hb3
  go_wp2
  go_ret
  exact ⟨rfl, HB3.out⟩
set_option maxRecDepth 100000 in
set_option maxHeartbeats 16000000 in
theorem apart_few (v v' : Value) (l m : List Ac) (r : Int) (w : World) (hr0 : 0 ≤ r) (hr1 : r ≤ 255) (h : ActsR w v l) (hl : l.length ≤ maxLen) (hs : smallP l) (h' : ActsR w v' m) (hm : m.length ≤ maxLen) (hs' : smallP m) :
    Calls Try.prog 5 #[v, v', .int .u8 r] w fun e w' => e = .returned (.bool true) ∧ Below w.heap.size w w' := by
  have HA := Lib.hid (awake_any w)
  have HSM := Lib.hid (fun W (hb : Below w.heap.size w W) => small_any v l W (h.below hb) hl)
  rw [toB_true hs] at HSM
  have HSM' := Lib.hid (fun W (hb : Below w.heap.size w W) => small_any v' m W (h'.below hb) hm)
  rw [toB_true hs'] at HSM'
  have HAC := Lib.hid h
  have HAC' := Lib.hid h'
  have HSP := Lib.hid hs
  have HSP' := Lib.hid hs'
  obtain ⟨A0, c0, rfl⟩ := acts_form h
  obtain ⟨A9, c9, rfl⟩ := acts_form h'
  clear h hl hs h' hm hs'
  go_enter Try.func5, Try.ntmps5
  go_wp2_with fail
  refine HA.out.mono ?_
  rintro e w1 ⟨rfl, hb1⟩
  have HB1 := Lib.hid hb1
  clear hb1
  go_wp2_with fail
  refine (HSM.out _ HB1.out).mono ?_
  rintro e w2 ⟨rfl, hb2⟩
  have HB2 := Lib.hid (bt hb2 HB1.out)
  clear hb2
  go_wp2_with fail
  refine (HSM'.out _ HB2.out).mono ?_
  rintro e w2' ⟨rfl, hb2'⟩
  have HB2' := Lib.hid (bt hb2' HB2.out)
  clear hb2' HSM HSM' HA
  go_wp2_with fail
  refine (new_any 12 w2').mono ?_
  rintro e w3 ⟨rfl, ht3, hb3, -⟩
  obtain ⟨g, hg⟩ : ∃ g, w2'.heap.size = g := ⟨_, rfl⟩
  have HT3 := Lib.hid (ht3 (fun _ => True))
  have HB3 := Lib.hid (bt hb3 HB2'.out)
  have HG := Lib.hid (show w.heap.size ≤ g by rw [← hg]; exact HB2'.out.size)
  rw [hg] at HT3 ⊢
  clear ht3 hb3 hg
  go_wp2_with fail
  refine (play_any g _ (fun _ => True) _ l w w3 HT3.out HAC.out HB3.out HG.out HSP.out (fun _ _ => trivial)).mono ?_
  rintro e w4 ⟨rfl, ht4, hg4⟩
  obtain ⟨T, hT⟩ : ∃ T, playT (List.replicate (newL 12) Nd.zero) l = T := ⟨_, rfl⟩
  have HOK := Lib.hid (show okT T by rw [← hT]; exact ok_play l (ok_new _))
  have HLT := Lib.hid (show (T.length : Int) = 12 by rw [← hT, len_play, List.length_replicate]; rfl)
  rw [hT] at ht4
  have HT4 := Lib.hid ht4
  have HB4 := Lib.hid (grown_bl HB3.out hg4 HG.out)
  clear ht4 hg4 hT HT3
  -- two clones
  go_wp2_with fail
  refine (clone_any g T _ (fun _ => True) w4 HT4.out (fun _ _ => trivial)).mono ?_
  rintro e w5 ⟨rfl, ht5, hb5⟩
  obtain ⟨gc, hgc⟩ : ∃ g, w4.heap.size = g := ⟨_, rfl⟩
  have HT5 := Lib.hid ht5
  have HT45 := Lib.hid (HT4.out.below hb5)
  have HB5 := Lib.hid (bt hb5 HB4.out)
  have HGC := Lib.hid (show g < gc by rw [← hgc]; exact HT4.out.lt)
  rw [hgc] at HT5 ⊢
  clear ht5 hb5 hgc
  go_wp2_with fail
  refine (clone_any g T _ (fun _ => True) w5 HT45.out (fun _ _ => trivial)).mono ?_
  rintro e w6 ⟨rfl, ht6, hb6⟩
  obtain ⟨gd, hgd⟩ : ∃ g, w5.heap.size = g := ⟨_, rfl⟩
  have HT6 := Lib.hid (HT5.out.below hb6)
  have HGD := Lib.hid (show gc < gd by rw [← hgd]; exact HT5.out.lt)
  have HTD6 := Lib.hid (show TD w w6 g gd w6.heap.size T from by
    rw [hgd] at ht6
    exact ⟨((HT45.out.below hb6).within).mono (fun b h => h.2), ht6.within.mono (fun b h => h.2), bt hb6 HB5.out, (bt hb6 HB5.out).size, (HT45.out.below hb6).lt, ht6.lt, Nat.le_refl _, by have h1 := HGC.out; have h2 := HGD.out; omega⟩)
  rw [hgd]
  obtain ⟨Z, hZ⟩ : ∃ Z, w6.heap.size = Z := ⟨_, rfl⟩
  rw [hZ] at HTD6
  clear ht6 hb6 hgd HT45 HT5 HT4 hZ
  go_wp2_with fail
  refine (same_two HT6.out HTD6.out.t).mono ?_
  rintro e w7 ⟨rfl, hb7⟩
  have HT7 := Lib.hid (HT6.out.below hb7)
  have HTD7 := Lib.hid (HTD6.out.later hb7)
  clear hb7 HT6 HTD6
  go_wp2_with fail
  refine (room_any _ T w7 HT7.out.ptr).mono ?_
  rintro e w8 ⟨rfl, rfl⟩
  rw [HLT.out]
  go_wp2_with fail
  refine (play_any gc T (fun _ => True) _ m w w7 HT7.out HAC'.out HTD7.out.below (by have := HG.out; have := HGC.out; omega) HSP'.out (fun _ _ => trivial)).mono ?_
  rintro e w8 ⟨rfl, ht8, hg8⟩
  have HTD8 := Lib.hid (show TD w w8 g gd Z T from by
    obtain ⟨cs, hk, -⟩ := HT7.out.blk
    have h1 := HGC.out
    have h2 := HGD.out
    exact ⟨HTD7.out.t.kind hg8 (by omega) hk (by decide) (by decide), HTD7.out.d.kind hg8 (by omega) hk (by decide) (by decide), grown_bl HTD7.out.below hg8 (by have := HG.out; omega), HTD7.out.hw, HTD7.out.hg, HTD7.out.hd, Nat.le_trans HTD7.out.hZ hg8.size, HTD7.out.ne⟩)
  clear ht8 hg8 HT7 HTD7
  go_wp2_with fail
  refine HTD8.out.same.mono ?_
  rintro e w9 ⟨rfl, hd9⟩
  have HTD9 := Lib.hid hd9
  clear hd9 HTD8
  obtain ⟨i, hi⟩ : ∃ i, r % 12 + 1 = i := ⟨_, rfl⟩
  have hm1 : 0 ≤ r % 12 := by omega
  have hm2 : r % 12 < 12 := by omega
  go_wp2_with fail
  clear hi hm1 hm2
  refine (HTD9.out.get i).mono ?_
  rintro e w10 ⟨vd, ve, rfl, hd10, he10, hl10, hm10, hd11⟩
  obtain ⟨n, hn⟩ : ∃ n, tget T i = n := ⟨_, rfl⟩
  obtain ⟨X, hX⟩ : ∃ X, tis T i = X := ⟨_, rfl⟩
  rw [hn] at hd10 he10 ⊢
  rw [hX]
  have HTD10 := Lib.hid (hd11.later (ba w10 (.cells (ndC n vd ve) 39)))
  have HKN := Lib.hid (Blk.new w10 39 (ndC n vd ve))
  have HD10 := Lib.hid (hd10.below (ba w10 (.cells (ndC n vd ve) 39)))
  have HE10 := Lib.hid (he10.below (ba w10 (.cells (ndC n vd ve) 39)))
  obtain ⟨A1, k1, rfl⟩ := bytesT_form hd10
  obtain ⟨A2, k2, rfl⟩ := entsT_form he10
  have HL10 := Lib.hid hl10
  have HM10 := Lib.hid hm10
  have HRI := Lib.hid (show X = true → rightP n from fun h => by rw [← hn]; exact tis_right HOK.out (by rw [hX]; exact h))
  clear hn hX hd10 he10 hl10 hm10 hd11
  unfold nodeV
  cases X with
  | false =>
    have HTDA := HTD10
    go_wp2_with fail
    refine HTDA.out.same.mono ?_
    rintro e w20 ⟨rfl, hd20⟩
    have HTD20 := Lib.hid hd20
    have hwg20 : w.heap.size ≤ gd := by have := HG.out; have := HGC.out; have := HGD.out; omega
    have hadd := hd20.add hwg20
    have HAF := Lib.hid (fun W' => tw_after (W' := W') hd20)
    obtain ⟨F, hF⟩ : ∃ F, freeT T 0 = F := ⟨_, rfl⟩
    by_cases hF0 : F = 0
    · simp only [hF, hF0, if_true] at hadd
      have HADD := Lib.hid hadd
      unfold twW at HADD
      clear hd20 HTDA hwg20 hadd hF hF0
      go_wp2_with fail
      refine HADD.out.mono ?_
      rintro e w21 ⟨rfl, hte, hg21⟩
      obtain ⟨hkm, hkn⟩ := HAF.out w21 hg21
      obtain ⟨p0, p1, p2, p3, p4, p5, p6⟩ := hkn.c7
      have qm : w21.cell? ⟨w20.heap.size, 0, none⟩ = some (.int .u8 1) := hkm.cell 0
      have fm : w21.frozen? ⟨w20.heap.size, 0, none⟩ = false := hkm.frozen 0
      have HTE2 := Lib.hid (hte.wrote (grown_setCell w21 ⟨w20.heap.size, 0, none⟩ (.int .u8 9)))
      clear hte hg21 hkm hkn HADD HAF
      go_wp2_with fail
      refine (HTE2.out.get 0).mono ?_
      rintro e w22 ⟨vx, wx, rfl, hx1, hx2, hte3⟩
      have HTE3 := Lib.hid (hte3.later (ba w22 (.cells (ndC (tget T 0) vx wx) 39)))
      obtain ⟨A3, k3, rfl⟩ := bytesT_form hx1
      obtain ⟨A4, k4, rfl⟩ := entsT_form hx2
      clear hx1 hx2 hte3 HTE2 p0 p1 p2 p3 p4 p5 p6 qm fm
      unfold nodeV
      go_wp2_with fail
      refine HTE3.out.same.mono ?_
      rintro e w25 ⟨rfl, hte5⟩
      have HTE5 := Lib.hid hte5
      clear hte5 HTE3
      go_wp2_with fail
      refine (HTE5.out.clone).mono ?_
      rintro e w26 ⟨gx, rfl, htx, hte6⟩
      have HTX := Lib.hid htx
      have HTE6 := Lib.hid hte6
      clear htx hte6 HTE5
      go_wp2_with fail
      refine (same_two HTX.out HTE6.out.t).mono ?_
      rintro e w27 ⟨rfl, hb27⟩
      have HB27 := Lib.hid (bt hb27 HTE6.out.below)
      clear hb27
      go_wp2
      go_ret
      exact ⟨rfl, HB27.out⟩
    · have hfi := (free_is (t := T) (by rw [hF]; exact hF0)).1
      rw [hF] at hfi
      have HGX := Lib.hid (show tget (setT T (F : Int) twN) (F : Int) = twN by rw [tget_set hfi, if_pos rfl])
      simp only [hF, hF0, if_false] at hadd
      have HADD := Lib.hid hadd
      unfold twW at HADD
      clear hd20 HTDA hwg20 hadd hF hF0 hfi
      go_wp2_with fail
      refine HADD.out.mono ?_
      rintro e w21 ⟨rfl, hte, hg21⟩
      obtain ⟨hkm, hkn⟩ := HAF.out w21 hg21
      obtain ⟨p0, p1, p2, p3, p4, p5, p6⟩ := hkn.c7
      have qm : w21.cell? ⟨w20.heap.size, 0, none⟩ = some (.int .u8 1) := hkm.cell 0
      have fm : w21.frozen? ⟨w20.heap.size, 0, none⟩ = false := hkm.frozen 0
      have HTE2 := Lib.hid (hte.wrote (grown_setCell w21 ⟨w20.heap.size, 0, none⟩ (.int .u8 9)))
      clear hte hg21 hkm hkn HADD HAF
      go_wp2_with fail
      refine (HTE2.out.get (F : Int)).mono ?_
      rintro e w22 ⟨vx, wx, rfl, hx1, hx2, hte3⟩
      rw [HGX.out] at hx1 hx2 ⊢
      have HTE3 := Lib.hid (hte3.later (ba w22 (.cells (ndC twN vx wx) 39)))
      have hx3 := hx1.below (ba w22 (.cells (ndC twN vx wx) 39))
      obtain ⟨A3, k3, hv3⟩ := bytesT_form hx1
      obtain ⟨A4, k4, hv4⟩ := entsT_form hx2
      subst hv3 hv4
      obtain ⟨ax, hA3, cx⟩ := bytes_get hx3.1 (show twN.data[0]? = some 1 from rfl)
      subst hA3
      rw [add_none] at cx
      have cx1 : (w22.alloc (.cells (ndC twN (.slice (some ax) twN.data.length k3) (.slice A4 twN.ents.length k4)) 39)).cell? ax = some (.int .u8 1) := cx
      clear hx1 hx2 hx3 hte3 HTE2 p0 p1 p2 p3 p4 p5 p6 qm fm cx
      unfold nodeV
      rw [show twN.data.length = 2 from rfl] at cx1 ⊢
      go_wp2_with fail
      have HTE5 := HTE3
      refine (HTE5.out.clone).mono ?_
      rintro e w26 ⟨gx, rfl, htx, hte6⟩
      have HTX := Lib.hid htx
      have HTE6 := Lib.hid hte6
      clear htx hte6 HTE5
      go_wp2_with fail
      refine (same_two HTX.out HTE6.out.t).mono ?_
      rintro e w27 ⟨rfl, hb27⟩
      have HB27 := Lib.hid (bt hb27 HTE6.out.below)
      clear hb27
      go_wp2
      go_ret
      exact ⟨rfl, HB27.out⟩
  | true =>
    have hri := HRI.out rfl
    have h3 : (n.data = [] ∧ n.ents = []) ∨ (∃ b r, n.data = b :: r ∧ n.ents = []) ∨ (∃ e r, n.data = [] ∧ n.ents = e :: r) := by
      cases hq : n.data with
      | nil =>
        cases hq2 : n.ents with
        | nil => exact .inl ⟨rfl, rfl⟩
        | cons e r => exact .inr (.inr ⟨e, r, rfl, rfl⟩)
      | cons b r =>
        refine .inr (.inl ⟨b, r, rfl, ?_⟩)
        rcases hri.2 with q | q | q
        · exact q.2.1
        · rw [q.2.1] at hq; cases hq
        · exact q.2.2.1
    clear hri
    rcases h3 with ⟨e1, e2⟩ | ⟨b, rr, e1, e2⟩ | ⟨e, rr, e1, e2⟩
    · have l1 : decide (0 < n.data.length) = false := by rw [e1]; rfl
      have l1' : ¬ (0 : Int) < (n.data.length : Int) := by rw [e1]; simp
      have l2 : decide (0 < n.ents.length) = false := by rw [e2]; rfl
      have l2' : ¬ (0 : Int) < (n.ents.length : Int) := by rw [e2]; simp
      have HWR := Lib.hid (fun (_ : Nat) => HTD10.out)
      clear e1 e2
      go_wp2_with fail
      refine (HWR.out 0).same.mono ?_
      rintro e w20 ⟨rfl, hd20⟩
      have HTD20 := Lib.hid hd20
      have hwg20 : w.heap.size ≤ gd := by have := HG.out; have := HGC.out; have := HGD.out; omega
      have hadd := hd20.add hwg20
      have HAF := Lib.hid (fun W' => tw_after (W' := W') hd20)
      obtain ⟨F, hF⟩ : ∃ F, freeT T 0 = F := ⟨_, rfl⟩
      by_cases hF0 : F = 0
      · simp only [hF, hF0, if_true] at hadd
        have HADD := Lib.hid hadd
        unfold twW at HADD
        clear hd20 HWR hwg20 hadd hF hF0
        go_wp2_with fail
        refine HADD.out.mono ?_
        rintro e w21 ⟨rfl, hte, hg21⟩
        obtain ⟨hkm, hkn⟩ := HAF.out w21 hg21
        obtain ⟨p0, p1, p2, p3, p4, p5, p6⟩ := hkn.c7
        have qm : w21.cell? ⟨w20.heap.size, 0, none⟩ = some (.int .u8 1) := hkm.cell 0
        have fm : w21.frozen? ⟨w20.heap.size, 0, none⟩ = false := hkm.frozen 0
        have HTE2 := Lib.hid (hte.wrote (grown_setCell w21 ⟨w20.heap.size, 0, none⟩ (.int .u8 9)))
        clear hte hg21 hkm hkn HADD HAF
        go_wp2_with fail
        refine (HTE2.out.get 0).mono ?_
        rintro e w22 ⟨vx, wx, rfl, hx1, hx2, hte3⟩
        have HTE3 := Lib.hid (hte3.later (ba w22 (.cells (ndC (tget T 0) vx wx) 39)))
        obtain ⟨A3, k3, rfl⟩ := bytesT_form hx1
        obtain ⟨A4, k4, rfl⟩ := entsT_form hx2
        clear hx1 hx2 hte3 HTE2 p0 p1 p2 p3 p4 p5 p6 qm fm
        unfold nodeV
        go_wp2_with fail
        refine HTE3.out.same.mono ?_
        rintro e w25 ⟨rfl, hte5⟩
        have HTE5 := Lib.hid hte5
        clear hte5 HTE3
        go_wp2_with fail
        refine (HTE5.out.clone).mono ?_
        rintro e w26 ⟨gx, rfl, htx, hte6⟩
        have HTX := Lib.hid htx
        have HTE6 := Lib.hid hte6
        clear htx hte6 HTE5
        go_wp2_with fail
        refine (same_two HTX.out HTE6.out.t).mono ?_
        rintro e w27 ⟨rfl, hb27⟩
        have HB27 := Lib.hid (bt hb27 HTE6.out.below)
        clear hb27
        go_wp2
        go_ret
        exact ⟨rfl, HB27.out⟩
      · have hfi := (free_is (t := T) (by rw [hF]; exact hF0)).1
        rw [hF] at hfi
        have HGX := Lib.hid (show tget (setT T (F : Int) twN) (F : Int) = twN by rw [tget_set hfi, if_pos rfl])
        simp only [hF, hF0, if_false] at hadd
        have HADD := Lib.hid hadd
        unfold twW at HADD
        clear hd20 HWR hwg20 hadd hF hF0 hfi
        go_wp2_with fail
        refine HADD.out.mono ?_
        rintro e w21 ⟨rfl, hte, hg21⟩
        obtain ⟨hkm, hkn⟩ := HAF.out w21 hg21
        obtain ⟨p0, p1, p2, p3, p4, p5, p6⟩ := hkn.c7
        have qm : w21.cell? ⟨w20.heap.size, 0, none⟩ = some (.int .u8 1) := hkm.cell 0
        have fm : w21.frozen? ⟨w20.heap.size, 0, none⟩ = false := hkm.frozen 0
        have HTE2 := Lib.hid (hte.wrote (grown_setCell w21 ⟨w20.heap.size, 0, none⟩ (.int .u8 9)))
        clear hte hg21 hkm hkn HADD HAF
        go_wp2_with fail
        refine (HTE2.out.get (F : Int)).mono ?_
        rintro e w22 ⟨vx, wx, rfl, hx1, hx2, hte3⟩
        rw [HGX.out] at hx1 hx2 ⊢
        have HTE3 := Lib.hid (hte3.later (ba w22 (.cells (ndC twN vx wx) 39)))
        have hx3 := hx1.below (ba w22 (.cells (ndC twN vx wx) 39))
        obtain ⟨A3, k3, hv3⟩ := bytesT_form hx1
        obtain ⟨A4, k4, hv4⟩ := entsT_form hx2
        subst hv3 hv4
        obtain ⟨ax, hA3, cx⟩ := bytes_get hx3.1 (show twN.data[0]? = some 1 from rfl)
        subst hA3
        rw [add_none] at cx
        have cx1 : (w22.alloc (.cells (ndC twN (.slice (some ax) twN.data.length k3) (.slice A4 twN.ents.length k4)) 39)).cell? ax = some (.int .u8 1) := cx
        clear hx1 hx2 hx3 hte3 HTE2 p0 p1 p2 p3 p4 p5 p6 qm fm cx
        unfold nodeV
        rw [show twN.data.length = 2 from rfl] at cx1 ⊢
        go_wp2_with fail
        have HTE5 := HTE3
        refine (HTE5.out.clone).mono ?_
        rintro e w26 ⟨gx, rfl, htx, hte6⟩
        have HTX := Lib.hid htx
        have HTE6 := Lib.hid hte6
        clear htx hte6 HTE5
        go_wp2_with fail
        refine (same_two HTX.out HTE6.out.t).mono ?_
        rintro e w27 ⟨rfl, hb27⟩
        have HB27 := Lib.hid (bt hb27 HTE6.out.below)
        clear hb27
        go_wp2
        go_ret
        exact ⟨rfl, HB27.out⟩
    · have l1 : 0 < n.data.length := by rw [e1]; simp
      have l1' : (0 : Int) < (n.data.length : Int) := by omega
      have l2 : decide (0 < n.ents.length) = false := by rw [e2]; rfl
      have l2' : ¬ (0 : Int) < (n.ents.length : Int) := by rw [e2]; simp
      obtain ⟨ad, hA, cx⟩ := bytes_get HD10.out.1 (show n.data[0]? = some b by rw [e1]; rfl)
      subst hA
      rw [add_none] at cx
      have c0 : (w10.alloc (.cells (ndC n (.slice (some ad) n.data.length k1) (.slice A2 n.ents.length k2)) 39)).cell? ad = some (.int .u8 (co b)) := cx
      obtain ⟨cs, hbd⟩ := HD10.out.2 ad _ _ rfl
      have f0 : (w10.alloc (.cells (ndC n (.slice (some ad) n.data.length k1) (.slice A2 n.ents.length k2)) 39)).frozen? ad = false := frozen_blk hbd
      have hne := blk_ne hbd HKN.out (by decide)
      have c5 : ∀ u, ((w10.alloc (.cells (ndC n (.slice (some ad) n.data.length k1) (.slice A2 n.ents.length k2)) 39)).setCell ad u).cell? ⟨w10.heap.size, 5, none⟩ = some (.slice A2 n.ents.length k2) := fun u => by
        rw [World.cell?_setCell_other _ _ _ _ (fun e => hne (by rw [e]))]
        exact HKN.out.cell 5
      have HWR := Lib.hid (fun u => HTD10.out.wrote (grown_setCell (w10.alloc (.cells (ndC n (.slice (some ad) n.data.length k1) (.slice A2 n.ents.length k2)) 39)) ad u) (HL10.out ad _ _ rfl))
      clear e1 e2 cx hbd hne
      go_wp2_with fail
      refine (HWR.out _).same.mono ?_
      rintro e w20 ⟨rfl, hd20⟩
      have HTD20 := Lib.hid hd20
      have hwg20 : w.heap.size ≤ gd := by have := HG.out; have := HGC.out; have := HGD.out; omega
      have hadd := hd20.add hwg20
      have HAF := Lib.hid (fun W' => tw_after (W' := W') hd20)
      obtain ⟨F, hF⟩ : ∃ F, freeT T 0 = F := ⟨_, rfl⟩
      by_cases hF0 : F = 0
      · simp only [hF, hF0, if_true] at hadd
        have HADD := Lib.hid hadd
        unfold twW at HADD
        clear hd20 HWR hwg20 hadd hF hF0
        go_wp2_with fail
        refine HADD.out.mono ?_
        rintro e w21 ⟨rfl, hte, hg21⟩
        obtain ⟨hkm, hkn⟩ := HAF.out w21 hg21
        obtain ⟨p0, p1, p2, p3, p4, p5, p6⟩ := hkn.c7
        have qm : w21.cell? ⟨w20.heap.size, 0, none⟩ = some (.int .u8 1) := hkm.cell 0
        have fm : w21.frozen? ⟨w20.heap.size, 0, none⟩ = false := hkm.frozen 0
        have HTE2 := Lib.hid (hte.wrote (grown_setCell w21 ⟨w20.heap.size, 0, none⟩ (.int .u8 9)))
        clear hte hg21 hkm hkn HADD HAF
        go_wp2_with fail
        refine (HTE2.out.get 0).mono ?_
        rintro e w22 ⟨vx, wx, rfl, hx1, hx2, hte3⟩
        have HTE3 := Lib.hid (hte3.later (ba w22 (.cells (ndC (tget T 0) vx wx) 39)))
        obtain ⟨A3, k3, rfl⟩ := bytesT_form hx1
        obtain ⟨A4, k4, rfl⟩ := entsT_form hx2
        clear hx1 hx2 hte3 HTE2 p0 p1 p2 p3 p4 p5 p6 qm fm
        unfold nodeV
        go_wp2_with fail
        refine HTE3.out.same.mono ?_
        rintro e w25 ⟨rfl, hte5⟩
        have HTE5 := Lib.hid hte5
        clear hte5 HTE3
        go_wp2_with fail
        refine (HTE5.out.clone).mono ?_
        rintro e w26 ⟨gx, rfl, htx, hte6⟩
        have HTX := Lib.hid htx
        have HTE6 := Lib.hid hte6
        clear htx hte6 HTE5
        go_wp2_with fail
        refine (same_two HTX.out HTE6.out.t).mono ?_
        rintro e w27 ⟨rfl, hb27⟩
        have HB27 := Lib.hid (bt hb27 HTE6.out.below)
        clear hb27
        go_wp2
        go_ret
        exact ⟨rfl, HB27.out⟩
      · have hfi := (free_is (t := T) (by rw [hF]; exact hF0)).1
        rw [hF] at hfi
        have HGX := Lib.hid (show tget (setT T (F : Int) twN) (F : Int) = twN by rw [tget_set hfi, if_pos rfl])
        simp only [hF, hF0, if_false] at hadd
        have HADD := Lib.hid hadd
        unfold twW at HADD
        clear hd20 HWR hwg20 hadd hF hF0 hfi
        go_wp2_with fail
        refine HADD.out.mono ?_
        rintro e w21 ⟨rfl, hte, hg21⟩
        obtain ⟨hkm, hkn⟩ := HAF.out w21 hg21
        obtain ⟨p0, p1, p2, p3, p4, p5, p6⟩ := hkn.c7
        have qm : w21.cell? ⟨w20.heap.size, 0, none⟩ = some (.int .u8 1) := hkm.cell 0
        have fm : w21.frozen? ⟨w20.heap.size, 0, none⟩ = false := hkm.frozen 0
        have HTE2 := Lib.hid (hte.wrote (grown_setCell w21 ⟨w20.heap.size, 0, none⟩ (.int .u8 9)))
        clear hte hg21 hkm hkn HADD HAF
        go_wp2_with fail
        refine (HTE2.out.get (F : Int)).mono ?_
        rintro e w22 ⟨vx, wx, rfl, hx1, hx2, hte3⟩
        rw [HGX.out] at hx1 hx2 ⊢
        have HTE3 := Lib.hid (hte3.later (ba w22 (.cells (ndC twN vx wx) 39)))
        have hx3 := hx1.below (ba w22 (.cells (ndC twN vx wx) 39))
        obtain ⟨A3, k3, hv3⟩ := bytesT_form hx1
        obtain ⟨A4, k4, hv4⟩ := entsT_form hx2
        subst hv3 hv4
        obtain ⟨ax, hA3, cx⟩ := bytes_get hx3.1 (show twN.data[0]? = some 1 from rfl)
        subst hA3
        rw [add_none] at cx
        have cx1 : (w22.alloc (.cells (ndC twN (.slice (some ax) twN.data.length k3) (.slice A4 twN.ents.length k4)) 39)).cell? ax = some (.int .u8 1) := cx
        clear hx1 hx2 hx3 hte3 HTE2 p0 p1 p2 p3 p4 p5 p6 qm fm cx
        unfold nodeV
        rw [show twN.data.length = 2 from rfl] at cx1 ⊢
        go_wp2_with fail
        have HTE5 := HTE3
        refine (HTE5.out.clone).mono ?_
        rintro e w26 ⟨gx, rfl, htx, hte6⟩
        have HTX := Lib.hid htx
        have HTE6 := Lib.hid hte6
        clear htx hte6 HTE5
        go_wp2_with fail
        refine (same_two HTX.out HTE6.out.t).mono ?_
        rintro e w27 ⟨rfl, hb27⟩
        have HB27 := Lib.hid (bt hb27 HTE6.out.below)
        clear hb27
        go_wp2
        go_ret
        exact ⟨rfl, HB27.out⟩
    · have l1 : decide (0 < n.data.length) = false := by rw [e1]; rfl
      have l1' : ¬ (0 : Int) < (n.data.length : Int) := by rw [e1]; simp
      have l2 : 0 < n.ents.length := by rw [e2]; simp
      have l2' : (0 : Int) < (n.ents.length : Int) := by omega
      obtain ⟨ad, hA, -, cx⟩ := ents_get HE10.out.1 (show n.ents[0]? = some e by rw [e2]; rfl)
      subst hA
      rw [Nat.zero_mul, add_none] at cx
      have c0 : (w10.alloc (.cells (ndC n (.slice A1 n.data.length k1) (.slice (some ad) n.ents.length k2)) 39)).cell? ⟨ad.block, ad.off + 1, none⟩ = some (.int .i64 e.2) := cx
      obtain ⟨cs, hbd⟩ := HE10.out.2 ad _ _ rfl
      have f0 : (w10.alloc (.cells (ndC n (.slice A1 n.data.length k1) (.slice (some ad) n.ents.length k2)) 39)).frozen? ⟨ad.block, ad.off + 1, none⟩ = false := frozen_blk1 _ hbd
      have HWR := Lib.hid (fun u => HTD10.out.wrote (grown_setCell (w10.alloc (.cells (ndC n (.slice A1 n.data.length k1) (.slice (some ad) n.ents.length k2)) 39)) ⟨ad.block, ad.off + 1, none⟩ u) (HM10.out ad _ _ rfl))
      clear e1 e2 cx hbd
      go_wp2_with fail
      refine (HWR.out _).same.mono ?_
      rintro e w20 ⟨rfl, hd20⟩
      have HTD20 := Lib.hid hd20
      have hwg20 : w.heap.size ≤ gd := by have := HG.out; have := HGC.out; have := HGD.out; omega
      have hadd := hd20.add hwg20
      have HAF := Lib.hid (fun W' => tw_after (W' := W') hd20)
      obtain ⟨F, hF⟩ : ∃ F, freeT T 0 = F := ⟨_, rfl⟩
      by_cases hF0 : F = 0
      · simp only [hF, hF0, if_true] at hadd
        have HADD := Lib.hid hadd
        unfold twW at HADD
        clear hd20 HWR hwg20 hadd hF hF0
        go_wp2_with fail
        refine HADD.out.mono ?_
        rintro e w21 ⟨rfl, hte, hg21⟩
        obtain ⟨hkm, hkn⟩ := HAF.out w21 hg21
        obtain ⟨p0, p1, p2, p3, p4, p5, p6⟩ := hkn.c7
        have qm : w21.cell? ⟨w20.heap.size, 0, none⟩ = some (.int .u8 1) := hkm.cell 0
        have fm : w21.frozen? ⟨w20.heap.size, 0, none⟩ = false := hkm.frozen 0
        have HTE2 := Lib.hid (hte.wrote (grown_setCell w21 ⟨w20.heap.size, 0, none⟩ (.int .u8 9)))
        clear hte hg21 hkm hkn HADD HAF
        go_wp2_with fail
        refine (HTE2.out.get 0).mono ?_
        rintro e w22 ⟨vx, wx, rfl, hx1, hx2, hte3⟩
        have HTE3 := Lib.hid (hte3.later (ba w22 (.cells (ndC (tget T 0) vx wx) 39)))
        obtain ⟨A3, k3, rfl⟩ := bytesT_form hx1
        obtain ⟨A4, k4, rfl⟩ := entsT_form hx2
        clear hx1 hx2 hte3 HTE2 p0 p1 p2 p3 p4 p5 p6 qm fm
        unfold nodeV
        go_wp2_with fail
        refine HTE3.out.same.mono ?_
        rintro e w25 ⟨rfl, hte5⟩
        have HTE5 := Lib.hid hte5
        clear hte5 HTE3
        go_wp2_with fail
        refine (HTE5.out.clone).mono ?_
        rintro e w26 ⟨gx, rfl, htx, hte6⟩
        have HTX := Lib.hid htx
        have HTE6 := Lib.hid hte6
        clear htx hte6 HTE5
        go_wp2_with fail
        refine (same_two HTX.out HTE6.out.t).mono ?_
        rintro e w27 ⟨rfl, hb27⟩
        have HB27 := Lib.hid (bt hb27 HTE6.out.below)
        clear hb27
        go_wp2
        go_ret
        exact ⟨rfl, HB27.out⟩
      · have hfi := (free_is (t := T) (by rw [hF]; exact hF0)).1
        rw [hF] at hfi
        have HGX := Lib.hid (show tget (setT T (F : Int) twN) (F : Int) = twN by rw [tget_set hfi, if_pos rfl])
        simp only [hF, hF0, if_false] at hadd
        have HADD := Lib.hid hadd
        unfold twW at HADD
        clear hd20 HWR hwg20 hadd hF hF0 hfi
        go_wp2_with fail
        refine HADD.out.mono ?_
        rintro e w21 ⟨rfl, hte, hg21⟩
        obtain ⟨hkm, hkn⟩ := HAF.out w21 hg21
        obtain ⟨p0, p1, p2, p3, p4, p5, p6⟩ := hkn.c7
        have qm : w21.cell? ⟨w20.heap.size, 0, none⟩ = some (.int .u8 1) := hkm.cell 0
        have fm : w21.frozen? ⟨w20.heap.size, 0, none⟩ = false := hkm.frozen 0
        have HTE2 := Lib.hid (hte.wrote (grown_setCell w21 ⟨w20.heap.size, 0, none⟩ (.int .u8 9)))
        clear hte hg21 hkm hkn HADD HAF
        go_wp2_with fail
        refine (HTE2.out.get (F : Int)).mono ?_
        rintro e w22 ⟨vx, wx, rfl, hx1, hx2, hte3⟩
        rw [HGX.out] at hx1 hx2 ⊢
        have HTE3 := Lib.hid (hte3.later (ba w22 (.cells (ndC twN vx wx) 39)))
        have hx3 := hx1.below (ba w22 (.cells (ndC twN vx wx) 39))
        obtain ⟨A3, k3, hv3⟩ := bytesT_form hx1
        obtain ⟨A4, k4, hv4⟩ := entsT_form hx2
        subst hv3 hv4
        obtain ⟨ax, hA3, cx⟩ := bytes_get hx3.1 (show twN.data[0]? = some 1 from rfl)
        subst hA3
        rw [add_none] at cx
        have cx1 : (w22.alloc (.cells (ndC twN (.slice (some ax) twN.data.length k3) (.slice A4 twN.ents.length k4)) 39)).cell? ax = some (.int .u8 1) := cx
        clear hx1 hx2 hx3 hte3 HTE2 p0 p1 p2 p3 p4 p5 p6 qm fm cx
        unfold nodeV
        rw [show twN.data.length = 2 from rfl] at cx1 ⊢
        go_wp2_with fail
        have HTE5 := HTE3
        refine (HTE5.out.clone).mono ?_
        rintro e w26 ⟨gx, rfl, htx, hte6⟩
        have HTX := Lib.hid htx
        have HTE6 := Lib.hid hte6
        clear htx hte6 HTE5
        go_wp2_with fail
        refine (same_two HTX.out HTE6.out.t).mono ?_
        rintro e w27 ⟨rfl, hb27⟩
        have HB27 := Lib.hid (bt hb27 HTE6.out.below)
        clear hb27
        go_wp2
        go_ret
        exact ⟨rfl, HB27.out⟩
theorem apart_any (v v' : Value) (l m : List Ac) (r : Int) (w : World) (hr0 : 0 ≤ r) (hr1 : r ≤ 255) (h : ActsR w v l) (hl : l.length ≤ maxLen) (h' : ActsR w v' m) (hm : m.length ≤ maxLen) :
    Calls Try.prog 5 #[v, v', .int .u8 r] w fun e w' => e = .returned (.bool true) ∧ Below w.heap.size w w' := by
  by_cases hs : smallP l
  · by_cases hs' : smallP m
    · exact apart_few v v' l m r w hr0 hr1 h hl hs h' hm hs'
    · exact apart_big2 v v' l m r w h hl hs h' hm hs'
  · exact apart_big1 v v' l r w h hl hs
end Go.Proofs.Ytmapkmjhpebcbaa
