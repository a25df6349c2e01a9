/-
  The reference's Unlink and Rmdir. The conditions are said at each.
-/
import Derived.Test.YtiimdmbalnhmmaaGreatRPb
namespace Go.Proofs.YtiimdmbalnhmmaaGreat
open Go Go.RowKit
set_option maxRecDepth 100000

attribute [local go_sem] cell_off4 cell_blk4 kind_ofr
/-- A box of the reference's table. -/
structure Bx (w W : World) (d g c : Nat) (T : List Nd) (P : Nat → Prop) : Prop where
  blk : Blk W d 35 #[.slice (some ⟨g, 0, none⟩) T.length c]
  ns : NsR (fun b => P b ∧ b ≠ d) W (.slice (some ⟨g, 0, none⟩) T.length c) T
  below : Below w.heap.size w W
  lo : w.heap.size ≤ d
theorem Bx.put {w w9 : World} {d g c : Nat} {z : Value} {T : List Nd} {P : Nat → Prop} (hk : Blk w9 d 35 #[z]) (hn : NsR (fun b => P b ∧ b ≠ d) w9 (.slice (some ⟨g, 0, none⟩) T.length c) T) (hb : Below w.heap.size w w9) (hd : w.heap.size ≤ d) : Bx w (w9.setCell ⟨d, 0, none⟩ (.slice (some ⟨g, 0, none⟩) T.length c)) d g c T P :=
  ⟨hk.set_ 0 _, hn.other (grown_setCell w9 ⟨d, 0, none⟩ _) (fun _ h => h.2), below_grown hb (grown_setCell _ _ _) hd, hd⟩
theorem Bx.fresh {w w9 : World} {g c : Nat} {T : List Nd} {P : Nat → Prop} (hn : NsR P w9 (.slice (some ⟨g, 0, none⟩) T.length c) T) (hb : Below w.heap.size w w9) : Bx w (w9.alloc (.cells #[.slice (some ⟨g, 0, none⟩) T.length c] 35)) w9.heap.size g c T P :=
  ⟨Blk.new w9 _ _, (hn.mono (fun _ h1 h2 => ⟨h1, Nat.ne_of_lt h2⟩)).below (ba w9 _), al hb _, hb.size⟩
theorem kind_tgt {t : List Nd} {i : Int} {n : Nd} (h : tget t i = n) : (tget t i).kind = n.kind := by rw [h]
set_option maxHeartbeats 16000000 in
theorem runlink_any {P : Nat → Prop} (v : Value) (t : List Nd) (c : Wh) (A0 : Option Addr) (m0 k0 : Nat) (p : Nm) (op : List Int) (A1 : Option Addr) (n1 k1 : Nat) (w : World) (h : NsR P w v t) (hl : t.length ≤ 24) (ho : okT t) (hc : CrR w c A0 m0 k0) (hp : p.length ≤ 1000) (hop : IntsR w (.slice A1 n1 k1) op) (hol : op.length ≤ 1000) (hP : ∀ b, w.heap.size ≤ b → P b) :
    Calls Tryz.prog 14 #[.agg #[v], .agg #[.int .i64 c.u, .int .i64 c.g, .slice A0 m0 k0], .string (bA p), .slice A1 n1 k1] w (TbE P w (ulT t c (resM t c p false) op) (ulE t c (resM t c p false))) := by
  obtain ⟨g, cc, rfl⟩ := ns_form h
  obtain ⟨R0, hX⟩ : ∃ R0, resM t c p false = R0 := ⟨_, rfl⟩
  obtain ⟨F, E0⟩ := R0
  have hEN : fnE t c (F, E0) = 0 → Ent t F := fun q => by
    have h1 := (fn_ent ho (c := c) (p := p) (by rw [hX]; exact q)).1
    rw [hX] at h1
    exact h1
  rw [hX]
  obtain ⟨T2, hT2⟩ : ∃ T2, ulT t c (F, E0) op = T2 := ⟨_, rfl⟩
  obtain ⟨X, hXX⟩ : ∃ X, ulE t c (F, E0) = X := ⟨_, rfl⟩
  rw [hT2, hXX]
  have hx : X = if fnE t c (F, E0) ≠ 0 then fnE t c (F, E0) else if (tget t F.node).kind = 2 then 21 else 0 := hXX.symm
  have ht : T2 = if X = 0 then frT (cutT t F.dir F.name) F.node op else t := by rw [← hT2, ← hXX]; rfl
  have hb1 := ba w (.cells #[.slice (some ⟨g, 0, none⟩) t.length cc] 35)
  have h11 := Blk.new w 35 #[.slice (some ⟨g, 0, none⟩) t.length cc]
  obtain ⟨W1, hW1⟩ : ∃ W, w.alloc (.cells #[.slice (some ⟨g, 0, none⟩) t.length cc] 35) = W := ⟨_, rfl⟩
  rw [hW1] at hb1 h11
  have hb2 := al hb1 (.cells #[.int .i64 c.u, .int .i64 c.g, .slice A0 m0 k0] 40)
  have h12 := h11.alloc (.cells #[.int .i64 c.u, .int .i64 c.g, .slice A0 m0 k0] 40)
  have h22 := Blk.new W1 40 #[.int .i64 c.u, .int .i64 c.g, .slice A0 m0 k0]
  obtain ⟨W2, hW2⟩ : ∃ W, W1.alloc (.cells #[.int .i64 c.u, .int .i64 c.g, .slice A0 m0 k0] 40) = W := ⟨_, rfl⟩
  rw [hW2] at hb2 h12 h22
  have hb3 := al hb2 (.cells #[.slice none 0 0] 35)
  have h13 := h12.alloc (.cells #[.slice none 0 0] 35)
  have h23 := h22.alloc (.cells #[.slice none 0 0] 35)
  have h33 := Blk.new W2 35 #[.slice none 0 0]
  have hlR : w.heap.size ≤ W2.heap.size := hb2.size
  have hne : w.heap.size ≠ W2.heap.size := Nat.ne_of_lt h12.lt
  obtain ⟨W3, hW3⟩ : ∃ W, W2.alloc (.cells #[.slice none 0 0] 35) = W := ⟨_, rfl⟩
  rw [hW3] at hb3 h13 h23 h33
  obtain ⟨z2, hz2⟩ : ∃ z, W1.heap.size = z := ⟨_, rfl⟩
  obtain ⟨R, hR⟩ : ∃ z, W2.heap.size = z := ⟨_, rfl⟩
  rw [hz2] at h23
  rw [hR] at h33 hlR hne
  have HB3 := Lib.hid hb3
  have HLR := Lib.hid hlR
  have HNE := Lib.hid hne
  have HRL := Lib.hid h33.lt
  have H1 := Lib.hid h13
  have H2 := Lib.hid h23
  have H3 := Lib.hid h33
  have HP := Lib.hid hP
  have HN := Lib.hid (show NsR (fun b => P b ∧ b ≠ R) W3 (.slice (some ⟨g, 0, none⟩) t.length cc) t from (h.mono (fun b q z => ⟨q, by have := HLR.out; omega⟩)).below hb3)
  have HC := Lib.hid (hc.below hb3)
  have HFD := Lib.hid (rfind_ent _ t c A0 m0 k0 p W3 HN.out hl ho HC.out hp F E0 hX)
  have HEN := Lib.hid hEN
  have HGT := Lib.hid (fun (W : World) (hb : Below W3.heap.size W3 W) => rget_rf _ t F.node W (HN.out.below hb) hl)
  have HOP := Lib.hid (hop.below hb3)
  have HO := Lib.hid ho
  have HL := Lib.hid hl
  have HXT := Lib.hid (And.intro hx ht)
  have t0 := h13.cell 0
  obtain ⟨k0', k1', k2'⟩ := h23.c3
  simp at t0
  clear h hb1 hb2 hb3 h11 h12 h13 h22 h23 h33 hlR hne hXX hT2 hX hEN hx ht hP ho hl hc hop
  obtain ⟨Y, hY⟩ : ∃ Y, fnE t c (F, E0) = Y := ⟨_, rfl⟩
  rw [hY] at HFD HEN HXT
  clear hY
  go_enter Tryz.func14, Tryz.ntmps14
  go_wp2_with fail
  clear hW1 hW2 hW3 hz2 hR
  refine HFD.out.mono ?_
  rintro e w4 ⟨rfl, hb4⟩
  have hbx := al hb4 (.cells #[.int .i64 F.dir, .string (bA F.name), .int .i64 F.node] 90)
  have hf4 := Blk.new w4 90 #[.int .i64 F.dir, .string (bA F.name), .int .i64 F.node]
  obtain ⟨W4, hW4⟩ : ∃ W, w4.alloc (.cells #[.int .i64 F.dir, .string (bA F.name), .int .i64 F.node] 90) = W := ⟨_, rfl⟩
  obtain ⟨y, hy⟩ : ∃ y, w4.heap.size = y := ⟨_, rfl⟩
  have hyR : y ≠ R := by have h1 := (H3.out.below hb4).lt; omega
  rw [hW4] at hbx hf4
  rw [hy] at hf4
  have HB4 := Lib.hid hbx
  have H4 := Lib.hid hf4
  have HYR := Lib.hid hyR
  have HEX := Lib.hid (fun (W : World) (hb : Below W3.heap.size W3 W) => show NsR P (W.setCell ⟨R, 0, none⟩ (.slice (some ⟨g, 0, none⟩) t.length cc)) (.slice (some ⟨g, 0, none⟩) t.length cc) t ∧ Below w.heap.size w (W.setCell ⟨R, 0, none⟩ (.slice (some ⟨g, 0, none⟩) t.length cc)) from ns_put (HN.out.below hb) _ (bt hb HB3.out) HLR.out)
  clear hb4 hbx hf4 hyR HFD k0' k1' k2' t0
  by_cases q0 : Y = 0
  · have y0 : (Y != 0) = false := by simpa using q0
    have HQ0 := Lib.hid q0
    have t0 := (H1.out.below HB4.out).cell 0
    simp at t0
    obtain ⟨b0, b1, b2⟩ := H4.out.c3
    obtain ⟨hx, ht⟩ := HXT.out
    rw [if_neg (fun z => z q0)] at hx
    have HX1 := Lib.hid hx
    have HTT := Lib.hid ht
    have HG := Lib.hid (HGT.out W4 HB4.out)
    generalize tget t F.node = n at HG HX1
    clear q0 hx ht HXT HGT
    go_wp2_with fail
    clear hW4 hy
    refine HG.out.mono ?_
    rintro e w5 ⟨vn, vk, rfl, hN, hI, hb5⟩
    obtain ⟨A5, k5, rfl⟩ := strs_form hN (nm_len _)
    obtain ⟨A6, k6, rfl⟩ := ints_form hI (idE_len _)
    have J5 := Lib.hid hb5
    have HB5 := Lib.hid (bt hb5 HB4.out)
    clear hN hI hb5 t0 b0 b1 b2 HG
    by_cases q1 : n.kind = 2
    · have y1 : (n.kind == 2) = true := by simpa using q1
      have HX := Lib.hid (show X = 21 ∧ T2 = t from by
        have e : X = 21 := by rw [HX1.out, if_pos q1]
        exact ⟨e, by rw [HTT.out, e]; rfl⟩)
      clear q1
      have hr := H3.out.below HB5.out
      have t0 := (H1.out.below HB5.out).cell 0
      simp at t0
      have r0 := hr.cell 0
      have r1 := hr.frozen 0
      simp at r0
      have s0 : ∀ u, (w5.setCell ⟨R, 0, none⟩ u).cell? ⟨R, 0, none⟩ = some u := fun u => (hr.set_ 0 u).cell 0
      have HE := Lib.hid (HEX.out w5 HB5.out)
      clear hr
      go_wp2
      exact bodyPost_ret (v := .tuple #[.agg #[.slice (some ⟨g, 0, none⟩) t.length cc], .int .i64 21]) (by simp [results, Tryz.results14, go_sem, s0]) rfl ⟨g, cc, by rw [HX.out.1, HX.out.2], by rw [HX.out.2]; exact HE.out.1, HE.out.2⟩
    have y1 : (n.kind == 2) = false := by simpa using q1
    have HX := Lib.hid (show X = 0 ∧ T2 = frT (cutT t F.dir F.name) F.node op from by
      have e : X = 0 := by rw [HX1.out, if_neg q1]
      exact ⟨e, by rw [HTT.out, e]; rfl⟩)
    clear q1
    have HE1 := Lib.hid (HEN.out HQ0.out)
    have HCI := Lib.hid (tis_in (kind_tis HE1.out.kind))
    have HFW := Lib.hid (ok_few HO.out F.dir)
    have hLN : (cutT t F.dir F.name).length = t.length := len_setT ..
    have HLN := Lib.hid hLN
    have HOK := Lib.hid (show okT (cutT t F.dir F.name) from by
      refine ok_setT HO.out _ ?_
      by_cases z : outE (tget t F.dir) F.name = 0
      · exact .inr (right_out (tis_right HO.out (kind_tis HE1.out.kind)) z).1
      · exact .inl (if_neg z))
    obtain ⟨BB, hBB⟩ : ∃ BB, frB (cutT t F.dir F.name) F.node op = BB := ⟨_, rfl⟩
    have HCT := Lib.hid (fun (Q : Nat → Prop) (W : World) (hn : NsR Q W (.slice (some ⟨g, 0, none⟩) t.length cc) t) (hQ : ∀ b, W.heap.size ≤ b → Q b) => show Calls Tryz.prog 42 #[.agg #[.slice (some ⟨g, 0, none⟩) t.length cc], .int .i64 F.dir, .string (bA F.name)] W (TbA Q W (cutT t F.dir F.name)) from rcut_any (P := Q) _ t F.dir F.name W hn HL.out HCI.out HFW.out hQ)
    have HFR := Lib.hid (fun (Q : Nat → Prop) (vv : Value) (W : World) (hn : NsR Q W vv (cutT t F.dir F.name)) (hb : Below w5.heap.size w5 W) (hQ : ∀ b, W.heap.size ≤ b → Q b) => show Calls Tryz.prog 17 #[.agg #[vv], .int .i64 F.node, .slice A1 n1 k1] W (TbB Q W T2 BB) from by
      rw [← hBB]
      have h1 := rfree_any (P := Q) vv (cutT t F.dir F.name) F.node op A1 n1 k1 W hn (by rw [HLN.out]; exact HL.out) HOK.out (HOP.out.below (bt hb HB5.out)) hol hQ
      rw [← HX.out.2] at h1
      exact h1)
    have HSZ := Lib.hid (show ∀ b, w5.heap.size ≤ b → P b ∧ b ≠ R from fun b q => by
      have h1 := HB5.out.size
      have h2 := HRL.out
      have h3 := HB3.out.size
      exact ⟨HP.out b (by omega), by omega⟩)
    have HN5 := Lib.hid (HN.out.below HB5.out)
    have HPQ := Lib.hid (fun (W : World) (hb : Below w5.heap.size w5 W) => show W.cell? ⟨w.heap.size, 0, none⟩ = some (.slice (some ⟨g, 0, none⟩) t.length cc) ∧ W.cell? ⟨y, 0, none⟩ = some (.int .i64 F.dir) ∧ W.cell? ⟨y, 1, none⟩ = some (.string (bA F.name)) ∧ W.cell? ⟨y, 2, none⟩ = some (.int .i64 F.node) from ⟨((H1.out.below HB5.out).below hb).cell 0, ((H4.out.below J5.out).below hb).c3.1, ((H4.out.below J5.out).below hb).c3.2.1, ((H4.out.below J5.out).below hb).c3.2.2⟩)
    have HDR := Lib.hid (show Below w5.heap.size w5 w5.drew from (Below.refl _ _).drew)
    have HAD := Lib.hid (show Below w5.heap.size w5 (w5.alloc (.cells #[.slice none 0 0] 35)).drew from (ba w5 _).drew)
    clear hBB hLN
    go_upto_region 6 with fail
    go_cut [12] (fun sa wx => ∃ d g' c' : Nat, sa = .pointer (some ⟨d, 0, none⟩) ∧ Bx w5 wx d g' c' T2 (fun b => P b ∧ b ≠ R))
    case first =>
      go_region_held3 (fun W => W.cell? ⟨w.heap.size, 0, none⟩ = some (.slice (some ⟨g, 0, none⟩) t.length cc) ∧ W.cell? ⟨y, 0, none⟩ = some (.int .i64 F.dir) ∧ W.cell? ⟨y, 1, none⟩ = some (.string (bA F.name)) ∧ W.cell? ⟨y, 2, none⟩ = some (.int .i64 F.node))
        (first | (with_reducible exact HPQ.out _ HDR.out) | (with_reducible exact HPQ.out _ HAD.out) | (with_reducible exact HPQ.out _ HB7.out) | (with_reducible exact HPQ.out _ (al HB7.out _)) | (with_reducible exact HPQ.out _ HB9.out) | (with_reducible exact HPQ.out _ (al HB9.out _)) | (with_reducible exact ⟨t0, t1, t2, t3⟩))
        (first
        | (go_at_call 42; (with_reducible refine (HCT.out (fun b => P b ∧ b ≠ R) w5.drew (HN5.out.below HDR.out) (fun b q => HSZ.out b (Nat.le_trans HDR.out.size q))).mono ?_); rintro e1 w7 ⟨g7, c7, rfl, hn7, hb7⟩; have HN7 := Lib.hid hn7; have HB7 := Lib.hid (bt hb7 HDR.out); clear hn7 hb7)
        | (go_at_call 42; (with_reducible refine (HCT.out (fun b => (P b ∧ b ≠ R) ∧ b ≠ w5.heap.size) (w5.alloc (.cells #[.slice none 0 0] 35)).drew ((HN5.out.mono (fun b q z => ⟨q, Nat.ne_of_lt z⟩)).below HAD.out) (fun b q => ⟨HSZ.out b (Nat.le_trans HAD.out.size q), Nat.ne_of_gt (Nat.lt_of_lt_of_le (by simp) q)⟩)).mono ?_); rintro e1 w7 ⟨g7, c7, rfl, hn7, hb7⟩; have HP7 := Lib.hid hn7; have HB7 := Lib.hid (bt hb7 HAD.out); have HX7 := Lib.hid (show Blk w7 w5.heap.size 35 #[.slice none 0 0] from Blk.below (w := (w5.alloc (.cells #[.slice none 0 0] 35)).drew) (Blk.new w5 35 _) hb7); clear hn7 hb7)
        | (go_at_call 17; (with_reducible refine (HFR.out _ _ w7 HP7.out HB7.out (fun b q => ⟨HSZ.out b (Nat.le_trans HB7.out.size q), Nat.ne_of_gt (Nat.lt_of_lt_of_le HX7.out.lt q)⟩)).mono ?_); rintro e3 w9 ⟨g9, c9, rfl, hn9, hb9⟩; have HB9 := Lib.hid (bt hb9 HB7.out); have HN9 := Lib.hid hn9; have hx9 := HX7.out.below hb9; have HX9 := Lib.hid hx9; have x0 := hx9.cell 0; have f0 := hx9.frozen 0; simp at x0; obtain ⟨t0, t1, t2, t3⟩ := HPQ.out (w9.setCell ⟨w5.heap.size, 0, none⟩ (.slice (some ⟨g9, 0, none⟩) T2.length c9)) (below_grown HB9.out (grown_setCell _ _ _) (Nat.le_refl _)); clear hn9 hb9 hx9)
        | (go_at_call 17; (with_reducible refine (HFR.out _ _ w7 HN7.out HB7.out (fun b q => HSZ.out b (Nat.le_trans HB7.out.size q))).mono ?_); rintro e3 w9 ⟨g9, c9, rfl, hn9, hb9⟩; have HB9 := Lib.hid (bt hb9 HB7.out); have HN9 := Lib.hid hn9; clear hn9 hb9)
        | (go_at_call 17; (with_reducible refine (HFR.out (fun b => (P b ∧ b ≠ R) ∧ b ≠ w7.heap.size) _ (w7.alloc (.cells #[.slice none 0 0] 35)) ((HN7.out.mono (fun b q z => ⟨q, Nat.ne_of_lt z⟩)).below (ba w7 _)) (al HB7.out _) (fun b q => ⟨HSZ.out b (Nat.le_trans (al HB7.out _).size q), Nat.ne_of_gt (Nat.lt_of_lt_of_le (by simp) q)⟩)).mono ?_); rintro e3 w9 ⟨g9, c9, rfl, hn9, hb9⟩; have HB9 := Lib.hid (bt hb9 (al HB7.out _)); have HN9 := Lib.hid hn9; have hx9 := Blk.below (Blk.new w7 35 #[.slice none 0 0]) hb9; have HZ9 := Lib.hid hx9; have x0 := hx9.cell 0; have f0 := hx9.frozen 0; simp at x0; obtain ⟨t0, t1, t2, t3⟩ := HPQ.out (w9.setCell ⟨w7.heap.size, 0, none⟩ (.slice (some ⟨g9, 0, none⟩) T2.length c9)) (below_grown HB9.out (grown_setCell _ _ _) HB7.out.size); clear hn9 hb9 hx9))
      all_goals (
        go_wp2
        go_meet
        first
          | with_reducible exact ⟨_, _, _, rfl, Bx.put HX9.out HN9.out HB9.out (Nat.le_refl _)⟩
          | with_reducible exact ⟨_, _, _, rfl, Bx.put HZ9.out HN9.out HB9.out HB7.out.size⟩
          | exact ⟨_, _, _, rfl, Bx.fresh HN9.out HB9.out⟩)
    case rest =>
    obtain ⟨d, g7, c7, rfl, hbx⟩ := hcut
    obtain ⟨W7, hW7⟩ : ∃ W, wc = W := ⟨_, rfl⟩
    rw [hW7] at hbx ⊢
    have hr := H3.out.below (bt hbx.below HB5.out)
    have x0 := hbx.blk.cell 0
    simp at x0
    have r0 := hr.cell 0
    have r1 := hr.frozen 0
    simp at r0
    have s0 : ∀ u, (W7.setCell ⟨R, 0, none⟩ u).cell? ⟨R, 0, none⟩ = some u := fun u => (hr.set_ 0 u).cell 0
    have HE := Lib.hid (ns_put (hbx.ns.mono (fun b q _ => q.1)) (.slice (some ⟨g7, 0, none⟩) T2.length c7) (bt (bt hbx.below HB5.out) HB3.out) HLR.out)
    clear hbx hW7 hr
    go_wp2
    exact bodyPost_ret (v := .tuple #[.agg #[.slice (some ⟨g7, 0, none⟩) T2.length c7], .int .i64 0]) (by simp [results, Tryz.results14, go_sem, s0]) rfl ⟨g7, c7, by rw [HX.out.1], HE.out.1, HE.out.2⟩
  · have y0 : (Y != 0) = true := by simpa using q0
    have HX := Lib.hid (show X = Y ∧ T2 = t from by
      obtain ⟨hx, ht⟩ := HXT.out
      have e : X = Y := by rw [hx, if_pos q0]
      exact ⟨e, by rw [ht, e, if_neg q0]⟩)
    clear q0
    have hr := H3.out.below HB4.out
    have t0 := (H1.out.below HB4.out).cell 0
    simp at t0
    have r0 := hr.cell 0
    have r1 := hr.frozen 0
    simp at r0
    have s0 : ∀ u, (W4.setCell ⟨R, 0, none⟩ u).cell? ⟨R, 0, none⟩ = some u := fun u => (hr.set_ 0 u).cell 0
    have HE := Lib.hid (HEX.out W4 HB4.out)
    clear hr
    go_wp2
    exact bodyPost_ret (v := .tuple #[.agg #[.slice (some ⟨g, 0, none⟩) t.length cc], .int .i64 Y]) (by simp [results, Tryz.results14, go_sem, s0]) rfl ⟨g, cc, by rw [HX.out.1, HX.out.2], by rw [HX.out.2]; exact HE.out.1, HE.out.2⟩
set_option maxHeartbeats 16000000 in
theorem rrmdir_any {P : Nat → Prop} (v : Value) (t : List Nd) (c : Wh) (A0 : Option Addr) (m0 k0 : Nat) (p : Nm) (w : World) (h : NsR P w v t) (hl : t.length ≤ 24) (ho : okT t) (hc : CrR w c A0 m0 k0) (hp : p.length ≤ 1000) (hP : ∀ b, w.heap.size ≤ b → P b) :
    Calls Tryz.prog 16 #[.agg #[v], .agg #[.int .i64 c.u, .int .i64 c.g, .slice A0 m0 k0], .string (bA p)] w (TbE P w (rdT t c (resM t c p false)) (rdE t c (resM t c p false))) := by
  obtain ⟨g, cc, rfl⟩ := ns_form h
  obtain ⟨R0, hX⟩ : ∃ R0, resM t c p false = R0 := ⟨_, rfl⟩
  obtain ⟨F, E0⟩ := R0
  have hEN : fnE t c (F, E0) = 0 → Ent t F := fun q => by
    have h1 := (fn_ent ho (c := c) (p := p) (by rw [hX]; exact q)).1
    rw [hX] at h1
    exact h1
  rw [hX]
  obtain ⟨T2, hT2⟩ : ∃ T2, rdT t c (F, E0) = T2 := ⟨_, rfl⟩
  obtain ⟨X, hXX⟩ : ∃ X, rdE t c (F, E0) = X := ⟨_, rfl⟩
  rw [hT2, hXX]
  have hx : X = if fnE t c (F, E0) ≠ 0 then fnE t c (F, E0) else if (tget t F.node).kind ≠ 2 then 20 else if (tget t F.node).ents ≠ [] then 39 else 0 := hXX.symm
  have ht : T2 = if X = 0 then dropT (cutT t F.dir F.name) F.node else t := by rw [← hT2, ← hXX]; rfl
  have hb1 := ba w (.cells #[.slice (some ⟨g, 0, none⟩) t.length cc] 35)
  have h11 := Blk.new w 35 #[.slice (some ⟨g, 0, none⟩) t.length cc]
  obtain ⟨W1, hW1⟩ : ∃ W, w.alloc (.cells #[.slice (some ⟨g, 0, none⟩) t.length cc] 35) = W := ⟨_, rfl⟩
  rw [hW1] at hb1 h11
  have hb2 := al hb1 (.cells #[.int .i64 c.u, .int .i64 c.g, .slice A0 m0 k0] 40)
  have h12 := h11.alloc (.cells #[.int .i64 c.u, .int .i64 c.g, .slice A0 m0 k0] 40)
  have h22 := Blk.new W1 40 #[.int .i64 c.u, .int .i64 c.g, .slice A0 m0 k0]
  obtain ⟨W2, hW2⟩ : ∃ W, W1.alloc (.cells #[.int .i64 c.u, .int .i64 c.g, .slice A0 m0 k0] 40) = W := ⟨_, rfl⟩
  rw [hW2] at hb2 h12 h22
  have hb3 := al hb2 (.cells #[.slice none 0 0] 35)
  have h13 := h12.alloc (.cells #[.slice none 0 0] 35)
  have h23 := h22.alloc (.cells #[.slice none 0 0] 35)
  have h33 := Blk.new W2 35 #[.slice none 0 0]
  have hlR : w.heap.size ≤ W2.heap.size := hb2.size
  have hne : w.heap.size ≠ W2.heap.size := Nat.ne_of_lt h12.lt
  obtain ⟨W3, hW3⟩ : ∃ W, W2.alloc (.cells #[.slice none 0 0] 35) = W := ⟨_, rfl⟩
  rw [hW3] at hb3 h13 h23 h33
  obtain ⟨z2, hz2⟩ : ∃ z, W1.heap.size = z := ⟨_, rfl⟩
  obtain ⟨R, hR⟩ : ∃ z, W2.heap.size = z := ⟨_, rfl⟩
  rw [hz2] at h23
  rw [hR] at h33 hlR hne
  have HB3 := Lib.hid hb3
  have HLR := Lib.hid hlR
  have HNE := Lib.hid hne
  have HRL := Lib.hid h33.lt
  have H1 := Lib.hid h13
  have H2 := Lib.hid h23
  have H3 := Lib.hid h33
  have HP := Lib.hid hP
  have HN := Lib.hid (show NsR (fun b => P b ∧ b ≠ R) W3 (.slice (some ⟨g, 0, none⟩) t.length cc) t from (h.mono (fun b q z => ⟨q, by have := HLR.out; omega⟩)).below hb3)
  have HC := Lib.hid (hc.below hb3)
  have HFD := Lib.hid (rfind_ent _ t c A0 m0 k0 p W3 HN.out hl ho HC.out hp F E0 hX)
  have HEN := Lib.hid hEN
  have HGT := Lib.hid (fun (W : World) (hb : Below W3.heap.size W3 W) => rget_rf _ t F.node W (HN.out.below hb) hl)
  have HO := Lib.hid ho
  have HL := Lib.hid hl
  have HXT := Lib.hid (And.intro hx ht)
  have t0 := h13.cell 0
  obtain ⟨k0', k1', k2'⟩ := h23.c3
  simp at t0
  clear h hb1 hb2 hb3 h11 h12 h13 h22 h23 h33 hlR hne hXX hT2 hX hEN hx ht hP ho hl hc
  obtain ⟨Y, hY⟩ : ∃ Y, fnE t c (F, E0) = Y := ⟨_, rfl⟩
  rw [hY] at HFD HEN HXT
  clear hY
  go_enter Tryz.func16, Tryz.ntmps16
  go_wp2_with fail
  clear hW1 hW2 hW3 hz2 hR
  refine HFD.out.mono ?_
  rintro e w4 ⟨rfl, hb4⟩
  have hbx := al hb4 (.cells #[.int .i64 F.dir, .string (bA F.name), .int .i64 F.node] 90)
  have hf4 := Blk.new w4 90 #[.int .i64 F.dir, .string (bA F.name), .int .i64 F.node]
  obtain ⟨W4, hW4⟩ : ∃ W, w4.alloc (.cells #[.int .i64 F.dir, .string (bA F.name), .int .i64 F.node] 90) = W := ⟨_, rfl⟩
  obtain ⟨y, hy⟩ : ∃ y, w4.heap.size = y := ⟨_, rfl⟩
  have hyR : y ≠ R := by have h1 := (H3.out.below hb4).lt; omega
  rw [hW4] at hbx hf4
  rw [hy] at hf4
  have HB4 := Lib.hid hbx
  have H4 := Lib.hid hf4
  have HYR := Lib.hid hyR
  have HEX := Lib.hid (fun (W : World) (hb : Below W3.heap.size W3 W) => show NsR P (W.setCell ⟨R, 0, none⟩ (.slice (some ⟨g, 0, none⟩) t.length cc)) (.slice (some ⟨g, 0, none⟩) t.length cc) t ∧ Below w.heap.size w (W.setCell ⟨R, 0, none⟩ (.slice (some ⟨g, 0, none⟩) t.length cc)) from ns_put (HN.out.below hb) _ (bt hb HB3.out) HLR.out)
  clear hb4 hbx hf4 hyR HFD k0' k1' k2' t0
  by_cases q0 : Y = 0
  · have y0 : (Y != 0) = false := by simpa using q0
    have HQ0 := Lib.hid q0
    have t0 := (H1.out.below HB4.out).cell 0
    simp at t0
    obtain ⟨b0, b1, b2⟩ := H4.out.c3
    obtain ⟨hx, ht⟩ := HXT.out
    rw [if_neg (fun z => z q0)] at hx
    have HX1 := Lib.hid hx
    have HTT := Lib.hid ht
    have HG := Lib.hid (HGT.out W4 HB4.out)
    generalize tget t F.node = n at HG HX1
    clear q0 hx ht HXT HGT
    go_wp2_with fail
    clear hW4 hy
    refine HG.out.mono ?_
    rintro e w5 ⟨vn, vk, rfl, hN, hI, hb5⟩
    obtain ⟨A5, k5, rfl⟩ := strs_form hN (nm_len _)
    obtain ⟨A6, k6, rfl⟩ := ints_form hI (idE_len _)
    have hbx := al hb5 (.cells #[.int .i64 n.kind, .int .i64 n.mode, .int .i64 n.uid, .int .i64 n.gid, .string (bA n.data), .slice A5 n.ents.length k5, .slice A6 n.ents.length k6, .string (bA n.target)] 87)
    have hkn := Blk.new w5 87 #[.int .i64 n.kind, .int .i64 n.mode, .int .i64 n.uid, .int .i64 n.gid, .string (bA n.data), .slice A5 n.ents.length k5, .slice A6 n.ents.length k6, .string (bA n.target)]
    obtain ⟨W5, hW5⟩ : ∃ W, w5.alloc (.cells #[.int .i64 n.kind, .int .i64 n.mode, .int .i64 n.uid, .int .i64 n.gid, .string (bA n.data), .slice A5 n.ents.length k5, .slice A6 n.ents.length k6, .string (bA n.target)] 87) = W := ⟨_, rfl⟩
    obtain ⟨zn, hzn⟩ : ∃ z, w5.heap.size = z := ⟨_, rfl⟩
    rw [hW5] at hbx hkn
    rw [hzn] at hkn
    have J5 := Lib.hid hbx
    have HB5 := Lib.hid (bt hbx HB4.out)
    obtain ⟨n0', n1', n2', n3', n4', n5', n6', n7'⟩ := hkn.c8
    clear hN hI hb5 hbx hkn t0 b0 b1 b2 HG
    by_cases q1 : n.kind = 2
    · have y1 : (n.kind != 2) = false := by simpa using q1
      by_cases q2 : n.ents = []
      · have y2 : ¬ (n.ents.length : Int) > 0 := by rw [q2]; decide
        have HX := Lib.hid (show X = 0 ∧ T2 = dropT (cutT t F.dir F.name) F.node from by
          have e : X = 0 := by rw [HX1.out, if_neg (fun z => z q1), if_neg (fun z => z q2)]
          exact ⟨e, by rw [HTT.out, e]; rfl⟩)
        clear q1 q2
        have HE1 := Lib.hid (HEN.out HQ0.out)
        have HCI := Lib.hid (tis_in (kind_tis HE1.out.kind))
        have HFW := Lib.hid (ok_few HO.out F.dir)
        have hLN : (cutT t F.dir F.name).length = t.length := len_setT ..
        have HLN := Lib.hid hLN
        have HOK := Lib.hid (show okT (cutT t F.dir F.name) from by
          refine ok_setT HO.out _ ?_
          by_cases z : outE (tget t F.dir) F.name = 0
          · exact .inr (right_out (tis_right HO.out (kind_tis HE1.out.kind)) z).1
          · exact .inl (if_neg z))
        obtain ⟨BB, hBB⟩ : ∃ BB, tis (cutT t F.dir F.name) F.node = BB := ⟨_, rfl⟩
        have HCT := Lib.hid (fun (Q : Nat → Prop) (W : World) (hn : NsR Q W (.slice (some ⟨g, 0, none⟩) t.length cc) t) (hQ : ∀ b, W.heap.size ≤ b → Q b) => show Calls Tryz.prog 42 #[.agg #[.slice (some ⟨g, 0, none⟩) t.length cc], .int .i64 F.dir, .string (bA F.name)] W (TbA Q W (cutT t F.dir F.name)) from rcut_any (P := Q) _ t F.dir F.name W hn HL.out HCI.out HFW.out hQ)
        have HFR := Lib.hid (fun (Q : Nat → Prop) (vv : Value) (W : World) (hn : NsR Q W vv (cutT t F.dir F.name)) (hb : Below W5.heap.size W5 W) (hQ : ∀ b, W.heap.size ≤ b → Q b) => show Calls Tryz.prog 43 #[.agg #[vv], .int .i64 F.node] W (TbB Q W T2 BB) from by
          rw [← hBB]
          have h1 := rdrop_any (P := Q) vv (cutT t F.dir F.name) 2 F.node Nd.zero true W hn (by rw [HLN.out]; exact HL.out) (by decide) (by decide) hQ
          refine h1.mono ?_
          rintro e w' ⟨v', rfl, h2, h3⟩
          have h2' : NsR Q w' v' (dropT (cutT t F.dir F.name) F.node) := h2
          rw [← HX.out.2] at h2'
          obtain ⟨g', c', rfl⟩ := ns_form h2'
          exact ⟨g', c', rfl, h2', h3⟩)
        have HSZ := Lib.hid (show ∀ b, W5.heap.size ≤ b → P b ∧ b ≠ R from fun b q => by
          have h1 := HB5.out.size
          have h2 := HRL.out
          have h3 := HB3.out.size
          exact ⟨HP.out b (by omega), by omega⟩)
        have HN5 := Lib.hid (HN.out.below HB5.out)
        have HPQ := Lib.hid (fun (W : World) (hb : Below W5.heap.size W5 W) => show W.cell? ⟨w.heap.size, 0, none⟩ = some (.slice (some ⟨g, 0, none⟩) t.length cc) ∧ W.cell? ⟨y, 0, none⟩ = some (.int .i64 F.dir) ∧ W.cell? ⟨y, 1, none⟩ = some (.string (bA F.name)) ∧ W.cell? ⟨y, 2, none⟩ = some (.int .i64 F.node) from ⟨((H1.out.below HB5.out).below hb).cell 0, ((H4.out.below J5.out).below hb).c3.1, ((H4.out.below J5.out).below hb).c3.2.1, ((H4.out.below J5.out).below hb).c3.2.2⟩)
        have HDR := Lib.hid (show Below W5.heap.size W5 W5.drew from (Below.refl _ _).drew)
        have HAD := Lib.hid (show Below W5.heap.size W5 (W5.alloc (.cells #[.slice none 0 0] 35)).drew from (ba W5 _).drew)
        clear hBB hLN
        go_upto_region 9 with fail
        clear hW5 hzn n0' n1' n2' n3' n4' n5' n6' n7'
        go_cut [11] (fun sa wx => ∃ d g' c' : Nat, sa = .pointer (some ⟨d, 0, none⟩) ∧ Bx W5 wx d g' c' T2 (fun b => P b ∧ b ≠ R))
        case first =>
          go_region_held3 (fun W => W.cell? ⟨w.heap.size, 0, none⟩ = some (.slice (some ⟨g, 0, none⟩) t.length cc) ∧ W.cell? ⟨y, 0, none⟩ = some (.int .i64 F.dir) ∧ W.cell? ⟨y, 1, none⟩ = some (.string (bA F.name)) ∧ W.cell? ⟨y, 2, none⟩ = some (.int .i64 F.node))
            (first | (with_reducible exact HPQ.out _ HDR.out) | (with_reducible exact HPQ.out _ HAD.out) | (with_reducible exact HPQ.out _ HB7.out) | (with_reducible exact HPQ.out _ (al HB7.out _)) | (with_reducible exact HPQ.out _ HB9.out) | (with_reducible exact HPQ.out _ (al HB9.out _)) | (with_reducible exact ⟨t0, t1, t2, t3⟩))
            (first
            | (go_at_call 42; (with_reducible refine (HCT.out (fun b => P b ∧ b ≠ R) W5.drew (HN5.out.below HDR.out) (fun b q => HSZ.out b (Nat.le_trans HDR.out.size q))).mono ?_); rintro e1 w7 ⟨g7, c7, rfl, hn7, hb7⟩; have HN7 := Lib.hid hn7; have HB7 := Lib.hid (bt hb7 HDR.out); clear hn7 hb7)
            | (go_at_call 42; (with_reducible refine (HCT.out (fun b => (P b ∧ b ≠ R) ∧ b ≠ W5.heap.size) (W5.alloc (.cells #[.slice none 0 0] 35)).drew ((HN5.out.mono (fun b q z => ⟨q, Nat.ne_of_lt z⟩)).below HAD.out) (fun b q => ⟨HSZ.out b (Nat.le_trans HAD.out.size q), Nat.ne_of_gt (Nat.lt_of_lt_of_le (by simp) q)⟩)).mono ?_); rintro e1 w7 ⟨g7, c7, rfl, hn7, hb7⟩; have HP7 := Lib.hid hn7; have HB7 := Lib.hid (bt hb7 HAD.out); have HX7 := Lib.hid (show Blk w7 W5.heap.size 35 #[.slice none 0 0] from Blk.below (w := (W5.alloc (.cells #[.slice none 0 0] 35)).drew) (Blk.new W5 35 _) hb7); clear hn7 hb7)
            | (go_at_call 43; (with_reducible refine (HFR.out _ _ w7 HP7.out HB7.out (fun b q => ⟨HSZ.out b (Nat.le_trans HB7.out.size q), Nat.ne_of_gt (Nat.lt_of_lt_of_le HX7.out.lt q)⟩)).mono ?_); rintro e3 w9 ⟨g9, c9, rfl, hn9, hb9⟩; have HB9 := Lib.hid (bt hb9 HB7.out); have HN9 := Lib.hid hn9; have hx9 := HX7.out.below hb9; have HX9 := Lib.hid hx9; have x0 := hx9.cell 0; have f0 := hx9.frozen 0; simp at x0; obtain ⟨t0, t1, t2, t3⟩ := HPQ.out (w9.setCell ⟨W5.heap.size, 0, none⟩ (.slice (some ⟨g9, 0, none⟩) T2.length c9)) (below_grown HB9.out (grown_setCell _ _ _) (Nat.le_refl _)); clear hn9 hb9 hx9)
            | (go_at_call 43; (with_reducible refine (HFR.out _ _ w7 HN7.out HB7.out (fun b q => HSZ.out b (Nat.le_trans HB7.out.size q))).mono ?_); rintro e3 w9 ⟨g9, c9, rfl, hn9, hb9⟩; have HB9 := Lib.hid (bt hb9 HB7.out); have HN9 := Lib.hid hn9; clear hn9 hb9)
            | (go_at_call 43; (with_reducible refine (HFR.out (fun b => (P b ∧ b ≠ R) ∧ b ≠ w7.heap.size) _ (w7.alloc (.cells #[.slice none 0 0] 35)) ((HN7.out.mono (fun b q z => ⟨q, Nat.ne_of_lt z⟩)).below (ba w7 _)) (al HB7.out _) (fun b q => ⟨HSZ.out b (Nat.le_trans (al HB7.out _).size q), Nat.ne_of_gt (Nat.lt_of_lt_of_le (by simp) q)⟩)).mono ?_); rintro e3 w9 ⟨g9, c9, rfl, hn9, hb9⟩; have HB9 := Lib.hid (bt hb9 (al HB7.out _)); have HN9 := Lib.hid hn9; have hx9 := Blk.below (Blk.new w7 35 #[.slice none 0 0]) hb9; have HZ9 := Lib.hid hx9; have x0 := hx9.cell 0; have f0 := hx9.frozen 0; simp at x0; obtain ⟨t0, t1, t2, t3⟩ := HPQ.out (w9.setCell ⟨w7.heap.size, 0, none⟩ (.slice (some ⟨g9, 0, none⟩) T2.length c9)) (below_grown HB9.out (grown_setCell _ _ _) HB7.out.size); clear hn9 hb9 hx9))
          all_goals (
            go_wp2
            go_meet
            first
              | with_reducible exact ⟨_, _, _, rfl, Bx.put HX9.out HN9.out HB9.out (Nat.le_refl _)⟩
              | with_reducible exact ⟨_, _, _, rfl, Bx.put HZ9.out HN9.out HB9.out HB7.out.size⟩
              | exact ⟨_, _, _, rfl, Bx.fresh HN9.out HB9.out⟩)
        case rest =>
        obtain ⟨d, g7, c7, rfl, hbx⟩ := hcut
        obtain ⟨W7, hW7⟩ : ∃ W, wc = W := ⟨_, rfl⟩
        rw [hW7] at hbx ⊢
        have hr := H3.out.below (bt hbx.below HB5.out)
        have x0 := hbx.blk.cell 0
        simp at x0
        have r0 := hr.cell 0
        have r1 := hr.frozen 0
        simp at r0
        have s0 : ∀ u, (W7.setCell ⟨R, 0, none⟩ u).cell? ⟨R, 0, none⟩ = some u := fun u => (hr.set_ 0 u).cell 0
        have HE := Lib.hid (ns_put (hbx.ns.mono (fun b q _ => q.1)) (.slice (some ⟨g7, 0, none⟩) T2.length c7) (bt (bt hbx.below HB5.out) HB3.out) HLR.out)
        clear hbx hW7 hr
        go_wp2
        exact bodyPost_ret (v := .tuple #[.agg #[.slice (some ⟨g7, 0, none⟩) T2.length c7], .int .i64 0]) (by simp [results, Tryz.results16, go_sem, s0]) rfl ⟨g7, c7, by rw [HX.out.1], HE.out.1, HE.out.2⟩
      · have y2 : (n.ents.length : Int) > 0 := by have := List.length_pos_iff.2 q2; omega
        have HX := Lib.hid (show X = 39 ∧ T2 = t from by
          have e : X = 39 := by rw [HX1.out, if_neg (fun z => z q1), if_pos q2]
          exact ⟨e, by rw [HTT.out, e]; rfl⟩)
        clear q1 q2
        have hr := H3.out.below HB5.out
        have t0 := (H1.out.below HB5.out).cell 0
        simp at t0
        have r0 := hr.cell 0
        have r1 := hr.frozen 0
        simp at r0
        have s0 : ∀ u, (W5.setCell ⟨R, 0, none⟩ u).cell? ⟨R, 0, none⟩ = some u := fun u => (hr.set_ 0 u).cell 0
        have HE := Lib.hid (HEX.out W5 HB5.out)
        clear hr
        go_wp2
        exact bodyPost_ret (v := .tuple #[.agg #[.slice (some ⟨g, 0, none⟩) t.length cc], .int .i64 39]) (by simp [results, Tryz.results16, go_sem, s0]) rfl ⟨g, cc, by rw [HX.out.1, HX.out.2], by rw [HX.out.2]; exact HE.out.1, HE.out.2⟩
    · have y1 : (n.kind != 2) = true := by simpa using q1
      have HX := Lib.hid (show X = 20 ∧ T2 = t from by
        have e : X = 20 := by rw [HX1.out, if_pos q1]
        exact ⟨e, by rw [HTT.out, e]; rfl⟩)
      clear q1
      have hr := H3.out.below HB5.out
      have t0 := (H1.out.below HB5.out).cell 0
      simp at t0
      have r0 := hr.cell 0
      have r1 := hr.frozen 0
      simp at r0
      have s0 : ∀ u, (W5.setCell ⟨R, 0, none⟩ u).cell? ⟨R, 0, none⟩ = some u := fun u => (hr.set_ 0 u).cell 0
      have HE := Lib.hid (HEX.out W5 HB5.out)
      clear hr
      go_wp2
      exact bodyPost_ret (v := .tuple #[.agg #[.slice (some ⟨g, 0, none⟩) t.length cc], .int .i64 20]) (by simp [results, Tryz.results16, go_sem, s0]) rfl ⟨g, cc, by rw [HX.out.1, HX.out.2], by rw [HX.out.2]; exact HE.out.1, HE.out.2⟩
  · have y0 : (Y != 0) = true := by simpa using q0
    have HX := Lib.hid (show X = Y ∧ T2 = t from by
      obtain ⟨hx, ht⟩ := HXT.out
      have e : X = Y := by rw [hx, if_pos q0]
      exact ⟨e, by rw [ht, e, if_neg q0]⟩)
    clear q0
    have hr := H3.out.below HB4.out
    have t0 := (H1.out.below HB4.out).cell 0
    simp at t0
    have r0 := hr.cell 0
    have r1 := hr.frozen 0
    simp at r0
    have s0 : ∀ u, (W4.setCell ⟨R, 0, none⟩ u).cell? ⟨R, 0, none⟩ = some u := fun u => (hr.set_ 0 u).cell 0
    have HE := Lib.hid (HEX.out W4 HB4.out)
    clear hr
    go_wp2
    exact bodyPost_ret (v := .tuple #[.agg #[.slice (some ⟨g, 0, none⟩) t.length cc], .int .i64 Y]) (by simp [results, Tryz.results16, go_sem, s0]) rfl ⟨g, cc, by rw [HX.out.1, HX.out.2], by rw [HX.out.2]; exact HE.out.1, HE.out.2⟩
end Go.Proofs.YtiimdmbalnhmmaaGreat
