/-
  What Readlink and List of package look answer. The condition: no more groups than a million.
-/
import Derived.Test.YtilepnepcamnaaaGreatLkQ
import Derived.Test.YtilepnepcamnaaaGreatLkN
namespace Go.Proofs.YtilepnepcamnaaaGreat
open Go Go.RowKit
set_option maxRecDepth 100000

attribute [local go_sem] cell_off4 cell_blk4
theorem rdl_err {t : List Nd} {c : Wh} {p : Nm} {S : Sta} {E : Int} (h : staM t c p false = (S, E)) (hE : E ≠ 0) : rdlM t c p = ([], E) := by
  unfold rdlM
  rw [h, if_pos hE]
theorem rdl_kind {t : List Nd} {c : Wh} {p : Nm} {S : Sta} (h : staM t c p false = (S, 0)) (hk : S.kind ≠ 3) : rdlM t c p = ([], 22) := by
  unfold rdlM
  rw [h, if_neg (fun q => q rfl), if_pos hk]
theorem rdl_good {t : List Nd} {c : Wh} {p : Nm} {S : Sta} (h : staM t c p false = (S, 0)) (hk : S.kind = 3) : rdlM t c p = ((tget t S.node).target, 0) := by
  unfold rdlM
  rw [h, if_neg (fun q => q rfl), if_neg (fun q => q hk)]
theorem lst_err {t : List Nd} {c : Wh} {p : Nm} {S : Sta} {E : Int} (h : staM t c p true = (S, E)) (hE : E ≠ 0) : lstM t c p = ([], E) := by
  unfold lstM
  rw [h, if_pos hE]
theorem lst_kind {t : List Nd} {c : Wh} {p : Nm} {S : Sta} (h : staM t c p true = (S, 0)) (hk : S.kind ≠ 2) : lstM t c p = ([], 20) := by
  unfold lstM
  rw [h, if_neg (fun q => q rfl), if_pos hk]
theorem lst_can {t : List Nd} {c : Wh} {p : Nm} {S : Sta} (h : staM t c p true = (S, 0)) (hk : S.kind = 2) (hc : canT t c S.node 4 = false) : lstM t c p = ([], 13) := by
  unfold lstM
  rw [h, if_neg (fun q => q rfl), if_neg (fun q => q hk), if_pos hc]
theorem lst_good {t : List Nd} {c : Wh} {p : Nm} {S : Sta} (h : staM t c p true = (S, 0)) (hk : S.kind = 2) (hc : canT t c S.node 4 = true) : lstM t c p = (nmE (tget t S.node).ents, 0) := by
  unfold lstM
  rw [h, if_neg (fun q => q rfl), if_neg (fun q => q hk), if_neg (by rw [hc]; decide)]
theorem bA_nil : bA ([] : Nm) = ⟨#[]⟩ := rfl
theorem ok_rise {t : List Nd} (h : okT t) (i : Int) : rise (nmE (tget t i).ents) ∧ (tget t i).ents.length ≤ 12 := by
  rcases ok_tget h i with q | q
  · rw [q]
    exact ⟨List.Pairwise.nil, Nat.zero_le _⟩
  · rcases q.2 with q | q | q
    · rw [q.2.1]; exact ⟨List.Pairwise.nil, Nat.zero_le _⟩
    · have := q.2.2.2.2.2
      exact ⟨q.2.2.2.2.1, by omega⟩
    · rw [q.2.2.1]; exact ⟨List.Pairwise.nil, Nat.zero_le _⟩
set_option maxHeartbeats 8000000 in
theorem readlink_any (v : Value) (t : List Nd) (c : Wh) (A0 : Option Addr) (m k : Nat) (p : Nm) (w : World) (h : TabP w v t) (hc : CrR w c A0 m k) (X : Nm × Int) (hX : rdlM t c p = X) :
    Calls Tryz.prog 19 #[v, .agg #[.int .i64 c.u, .int .i64 c.g, .slice A0 m k], .string (bA p)] w fun e w' => e = .returned (.tuple #[.string (bA X.1), .int .i64 X.2]) ∧ Below w.heap.size w w' := by
  have hb1 := ba w (.cells #[.int .i64 c.u, .int .i64 c.g, .slice A0 m k] 25)
  have hk1 := Blk.new w 25 #[.int .i64 c.u, .int .i64 c.g, .slice A0 m k]
  obtain ⟨W1, hW1⟩ : ∃ W1, w.alloc (.cells #[.int .i64 c.u, .int .i64 c.g, .slice A0 m k] 25) = W1 := ⟨_, rfl⟩
  rw [hW1] at hb1 hk1
  obtain ⟨SE, hSE⟩ : ∃ SE, staM t c p false = SE := ⟨_, rfl⟩
  obtain ⟨S, E⟩ := SE
  have HO := Lib.hid (ofPath_any v t c A0 m k p false W1 (h.below hb1) (hc.below hb1) (S, E) hSE)
  have HT := Lib.hid (h.below hb1)
  have HB1 := Lib.hid hb1
  have HE1 := Lib.hid (fun (q : E ≠ 0) => show ([], E) = X from (rdl_err hSE q).symm.trans hX)
  have HE2 := Lib.hid (fun (q : E = 0) (r : S.kind ≠ 3) => show ([], 22) = X from (rdl_kind (by rw [hSE, q]) r).symm.trans hX)
  have HE3 := Lib.hid (fun (q : E = 0) (r : S.kind = 3) => show ((tget t S.node).target, 0) = X from (rdl_good (by rw [hSE, q]) r).symm.trans hX)
  unfold stV stC at HO
  clear h hc hb1 hX hSE
  obtain ⟨k0, k1, k2⟩ := hk1.c3
  clear hk1
  go_enter Tryz.func19, Tryz.ntmps19
  go_wp2_with fail
  clear hW1
  refine HO.out.mono ?_
  rintro e w2 ⟨rfl, hb2⟩
  have hbx := al hb2 (.cells #[.int .i64 S.node, .int .i64 S.kind, .int .i64 S.mode, .int .i64 S.uid, .int .i64 S.gid, .int .i64 S.links, .int .i64 S.size] 35)
  have HB3 := Lib.hid (bt hbx HB1.out)
  have HT3 := Lib.hid (HT.out.below hbx)
  have hs3 := Blk.new w2 35 #[.int .i64 S.node, .int .i64 S.kind, .int .i64 S.mode, .int .i64 S.uid, .int .i64 S.gid, .int .i64 S.links, .int .i64 S.size]
  obtain ⟨z, hz⟩ : ∃ z, w2.heap.size = z := ⟨_, rfl⟩
  obtain ⟨W3, hW3⟩ : ∃ W3, w2.alloc (.cells #[.int .i64 S.node, .int .i64 S.kind, .int .i64 S.mode, .int .i64 S.uid, .int .i64 S.gid, .int .i64 S.links, .int .i64 S.size] 35) = W3 := ⟨_, rfl⟩
  rw [hW3] at HB3 HT3 hs3
  rw [hz] at hs3
  clear hb2 hbx HO HT k0 k1 k2
  obtain ⟨p0, p1, p2, p3, p4, p5, p6⟩ := hs3.c7
  clear hs3
  by_cases qE : E = 0
  · have qE1 : (E != 0) = false := by simpa using qE
    by_cases qK : S.kind = 3
    · have qK1 : (S.kind != 3) = false := by simpa using qK
      have HZ := Lib.hid (HE3.out qE qK)
      obtain ⟨n, hn⟩ : ∃ n, tget t S.node = n := ⟨_, rfl⟩
      have HG := Lib.hid (get_any v t S.node W3 HT3.out)
      rw [hn] at HG HZ
      generalize tis t S.node = q at HG
      unfold nodeV at HG
      clear qE qK hn HE1 HE2 HE3
      go_wp2_with fail
      clear hW3 hz
      refine HG.out.mono ?_
      rintro e w4 ⟨vd, ve, rfl, hd, he, -, -, hb4⟩
      obtain ⟨A5, k5, rfl⟩ := bytesT_form hd
      obtain ⟨A6, k6, rfl⟩ := entsT_form he
      have HB4 := Lib.hid (bt (al hb4 (.cells (ndC n (.slice A5 n.data.length k5) (.slice A6 n.ents.length k6)) 70)) HB3.out)
      clear hd he hb4 p0 p1 p2 p3 p4 p5 p6
      go_wp2
      go_ret2
      exact ⟨by rw [← HZ.out]; rfl, HB4.out⟩
    · have qK1 : (S.kind != 3) = true := by simpa using qK
      have HZ := Lib.hid (HE2.out qE qK)
      clear qE qK HE1 HE2 HE3
      go_wp2
      go_ret2
      exact ⟨by rw [← HZ.out]; rfl, HB3.out⟩
  · have qE1 : (E != 0) = true := by simpa using qE
    have HZ := Lib.hid (HE1.out qE)
    clear qE HE1 HE2 HE3
    go_wp2
    go_ret2
    exact ⟨by rw [← HZ.out]; rfl, HB3.out⟩
theorem strs_none (W : World) : StrsR W (.slice none 0 0) (nmA ([] : List Nm)) := ⟨none, 0, rfl, ⟨Nat.le_refl _, fun _ => rfl⟩, fun k s h => by simp [nmA] at h⟩
set_option maxHeartbeats 8000000 in
theorem list_any (v : Value) (t : List Nd) (c : Wh) (A0 : Option Addr) (m k : Nat) (p : Nm) (w : World) (h : TabP w v t) (hc : CrR w c A0 m k) (X : List Nm × Int) (hX : lstM t c p = X) :
    Calls Tryz.prog 21 #[v, .agg #[.int .i64 c.u, .int .i64 c.g, .slice A0 m k], .string (bA p)] w fun e w' => ∃ u, e = .returned (.tuple #[u, .int .i64 X.2]) ∧ StrsR w' u (nmA X.1) ∧ Below w.heap.size w w' := by
  have hb1 := ba w (.cells #[.int .i64 c.u, .int .i64 c.g, .slice A0 m k] 25)
  have hk1 := Blk.new w 25 #[.int .i64 c.u, .int .i64 c.g, .slice A0 m k]
  obtain ⟨W1, hW1⟩ : ∃ W1, w.alloc (.cells #[.int .i64 c.u, .int .i64 c.g, .slice A0 m k] 25) = W1 := ⟨_, rfl⟩
  rw [hW1] at hb1 hk1
  obtain ⟨SE, hSE⟩ : ∃ SE, staM t c p true = SE := ⟨_, rfl⟩
  obtain ⟨S, E⟩ := SE
  have HO := Lib.hid (ofPath_any v t c A0 m k p true W1 (h.below hb1) (hc.below hb1) (S, E) hSE)
  have HT := Lib.hid (h.below hb1)
  have HC := Lib.hid (hc.below hb1)
  have HB1 := Lib.hid hb1
  have HK1 := Lib.hid hk1
  have HRI := Lib.hid (ok_rise h.ok.1 S.node)
  have HE1 := Lib.hid (fun (q : E ≠ 0) => show ([], E) = X from (lst_err hSE q).symm.trans hX)
  have HE2 := Lib.hid (fun (q : E = 0) (r : S.kind ≠ 2) => show ([], 20) = X from (lst_kind (by rw [hSE, q]) r).symm.trans hX)
  have HE3 := Lib.hid (fun (q : E = 0) (r : S.kind = 2) (d : canT t c S.node 4 = false) => show ([], 13) = X from (lst_can (by rw [hSE, q]) r d).symm.trans hX)
  have HE4 := Lib.hid (fun (q : E = 0) (r : S.kind = 2) (d : canT t c S.node 4 = true) => show (nmE (tget t S.node).ents, 0) = X from (lst_good (by rw [hSE, q]) r d).symm.trans hX)
  unfold stV stC at HO
  clear h hc hb1 hX hSE
  obtain ⟨k0, k1, k2⟩ := hk1.c3
  clear hk1
  go_enter Tryz.func21, Tryz.ntmps21
  go_wp2_with fail
  clear hW1
  refine HO.out.mono ?_
  rintro e w2 ⟨rfl, hb2⟩
  have hbx := al hb2 (.cells #[.int .i64 S.node, .int .i64 S.kind, .int .i64 S.mode, .int .i64 S.uid, .int .i64 S.gid, .int .i64 S.links, .int .i64 S.size] 35)
  have HB3 := Lib.hid (bt hbx HB1.out)
  have HT3 := Lib.hid (HT.out.below hbx)
  have HC3 := Lib.hid (HC.out.below hbx)
  have hk3 := HK1.out.below hbx
  have hs3 := Blk.new w2 35 #[.int .i64 S.node, .int .i64 S.kind, .int .i64 S.mode, .int .i64 S.uid, .int .i64 S.gid, .int .i64 S.links, .int .i64 S.size]
  obtain ⟨z, hz⟩ : ∃ z, w2.heap.size = z := ⟨_, rfl⟩
  obtain ⟨W3, hW3⟩ : ∃ W3, w2.alloc (.cells #[.int .i64 S.node, .int .i64 S.kind, .int .i64 S.mode, .int .i64 S.uid, .int .i64 S.gid, .int .i64 S.links, .int .i64 S.size] 35) = W3 := ⟨_, rfl⟩
  rw [hW3] at HB3 HT3 hs3 HC3 hk3
  rw [hz] at hs3
  have HS3 := Lib.hid hs3
  clear hb2 hbx HO HT HC k0 k1 k2 HK1
  obtain ⟨p0, p1, p2, p3, p4, p5, p6⟩ := hs3.c7
  obtain ⟨k0, k1, k2⟩ := hk3.c3
  clear hs3 hk3
  by_cases qE : E = 0
  · have qE1 : (E != 0) = false := by simpa using qE
    by_cases qK : S.kind = 2
    · have qK1 : (S.kind != 2) = false := by simpa using qK
      have HCN := Lib.hid (rescan_any v t c A0 m k S.node 4 W3 HT3.out HC3.out)
      have HN3 := Lib.hid (HE3.out qE qK)
      have HN4 := Lib.hid (HE4.out qE qK)
      generalize canT t c S.node 4 = cn at HCN HN3 HN4
      clear qE qK HE1 HE2 HE3 HE4
      go_wp2_with fail
      clear hW3 hz
      refine HCN.out.mono ?_
      rintro e w4 ⟨rfl, hb4⟩
      have HB4 := Lib.hid (bt hb4 HB3.out)
      have HT4 := Lib.hid (HT3.out.below hb4)
      have hs4 := HS3.out.below hb4
      clear hb4 p0 p1 p2 p3 p4 p5 p6 k0 k1 k2
      obtain ⟨p0, p1, p2, p3, p4, p5, p6⟩ := hs4.c7
      clear hs4
      cases cn with
      | false =>
        have HZ := Lib.hid (HN3.out rfl)
        clear HN3 HN4
        go_wp2
        go_ret2
        exact ⟨_, by rw [← HZ.out]; rfl, by rw [← HZ.out]; exact strs_none _, HB4.out⟩
      | true =>
        have HZ := Lib.hid (HN4.out rfl)
        obtain ⟨n, hn⟩ : ∃ n, tget t S.node = n := ⟨_, rfl⟩
        have HG := Lib.hid (get_any v t S.node w4 HT4.out)
        rw [hn] at HG HZ HRI
        generalize tis t S.node = q at HG
        unfold nodeV at HG
        clear HN3 HN4 hn
        go_wp2_with fail
        refine HG.out.mono ?_
        rintro e w5 ⟨vd, ve, rfl, hd, he, -, -, hb5⟩
        have hbw := ba w5 (.cells (ndC n vd ve) 70)
        have HNM := Lib.hid (nnames_any n vd ve _ (hd.1.below hbw) (he.1.below hbw) HRI.out.1 HRI.out.2)
        unfold nodeV at HNM
        obtain ⟨A5, k5, rfl⟩ := bytesT_form hd
        obtain ⟨A6, k6, rfl⟩ := entsT_form he
        have hn6 := Blk.new w5 70 (ndC n (.slice A5 n.data.length k5) (.slice A6 n.ents.length k6))
        have HB6 := Lib.hid (bt (al hb5 (.cells (ndC n (.slice A5 n.data.length k5) (.slice A6 n.ents.length k6)) 70)) HB4.out)
        clear hd he hb5 p0 p1 p2 p3 p4 p5 p6 hbw
        obtain ⟨p0, p1, p2, p3, p4, p5, p6⟩ := hn6.c7
        clear hn6
        go_wp2_with fail
        refine HNM.out.mono ?_
        rintro e w7 ⟨u, rfl, hu, hb7⟩
        obtain ⟨A7, k7, rfl⟩ := strs_form hu (nm_len _)
        have HB7 := Lib.hid (bt hb7 HB6.out)
        have HU := Lib.hid hu
        clear hu hb7 p0 p1 p2 p3 p4 p5 p6
        go_wp2
        go_ret2
        exact ⟨_, by rw [← HZ.out]; rfl, by rw [← HZ.out]; exact HU.out, HB7.out⟩
    · have qK1 : (S.kind != 2) = true := by simpa using qK
      have HZ := Lib.hid (HE2.out qE qK)
      clear qE qK HE1 HE2 HE3 HE4
      go_wp2
      go_ret2
      exact ⟨_, by rw [← HZ.out]; rfl, by rw [← HZ.out]; exact strs_none _, HB3.out⟩
  · have qE1 : (E != 0) = true := by simpa using qE
    have HZ := Lib.hid (HE1.out qE)
    clear qE HE1 HE2 HE3 HE4
    go_wp2
    go_ret2
    exact ⟨_, by rw [← HZ.out]; rfl, by rw [← HZ.out]; exact strs_none _, HB3.out⟩
end Go.Proofs.YtilepnepcamnaaaGreat
