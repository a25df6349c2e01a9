/-
  The reference's Rename. The conditions are said at each.
-/
import Derived.Test.YtiimdmbalnhmmaaGreatRPd
import Derived.Test.YtiimdmbalnhmmaaGreatPrP
namespace Go.Proofs.YtiimdmbalnhmmaaGreat
open Go Go.RowKit
set_option maxRecDepth 100000

attribute [local go_sem] cell_off4 cell_blk4 kind_ofr names_ofr
/-- What With leaves in a box. -/
structure Nx (w W : World) (d : Nat) (n : Nd) (A5 : Option Addr) (k5 : Nat) (A6 : Option Addr) (k6 : Nat) (P : Nat → Prop) : Prop where
  blk : Blk W d 87 (rfC n (.slice A5 n.ents.length k5) (.slice A6 n.ents.length k6))
  ls : StrsR W (.slice A5 n.ents.length k5) (nmA (nmE n.ents)) ∧ IntsR W (.slice A6 n.ents.length k6) (idE n.ents)
  lp : LP (fun b => P b ∧ b < W.heap.size) (.slice A5 n.ents.length k5) ∧ LP (fun b => P b ∧ b < W.heap.size) (.slice A6 n.ents.length k6)
  below : Below w.heap.size w W
theorem Nx.put {w w9 : World} {d L : Nat} {n : Nd} {A5 A6 : Option Addr} {k5 k6 : Nat} {P : Nat → Prop} (hk : Blk w9 d 87 rfZ) (hs : StrsR w9 (.slice A5 n.ents.length k5) (nmA (nmE n.ents)) ∧ IntsR w9 (.slice A6 n.ents.length k6) (idE n.ents)) (hp : LP (fun b => L ≤ b ∧ b < w9.heap.size) (.slice A5 n.ents.length k5) ∧ LP (fun b => L ≤ b ∧ b < w9.heap.size) (.slice A6 n.ents.length k6)) (hb : Below w.heap.size w w9) (hd : w.heap.size ≤ d) (hL : d < L) (hP : ∀ b, w.heap.size ≤ b → P b) : Nx w ((((((((w9.setCell ⟨d, 0, none⟩ (.int .i64 n.kind)).setCell ⟨d, 1, none⟩ (.int .i64 n.mode)).setCell ⟨d, 2, none⟩ (.int .i64 n.uid)).setCell ⟨d, 3, none⟩ (.int .i64 n.gid)).setCell ⟨d, 4, none⟩ (.string (bA n.data))).setCell ⟨d, 5, none⟩ (.slice A5 n.ents.length k5)).setCell ⟨d, 6, none⟩ (.slice A6 n.ents.length k6)).setCell ⟨d, 7, none⟩ (.string (bA n.target))) d n A5 k5 A6 k6 P := by
  show Nx w (put8 w9 d (.int .i64 n.kind) (.int .i64 n.mode) (.int .i64 n.uid) (.int .i64 n.gid) (.string (bA n.data)) (.slice A5 n.ents.length k5) (.slice A6 n.ents.length k6) (.string (bA n.target))) d n A5 k5 A6 k6 P
  have hg := grown8 w9 d (.int .i64 n.kind) (.int .i64 n.mode) (.int .i64 n.uid) (.int .i64 n.gid) (.string (bA n.data)) (.slice A5 n.ents.length k5) (.slice A6 n.ents.length k6) (.string (bA n.target))
  exact ⟨hk.put8 _ _ _ _ _ _ _ _, ⟨hs.1.other hg (fun ad n c hv => by have := (hp.1 ad n c hv).1; omega), hs.2.other hg (fun ad n c hv => by have := (hp.2 ad n c hv).1; omega)⟩, ⟨hp.1.mono (fun b h => ⟨hP b (by omega), Nat.lt_of_lt_of_le h.2 hg.size⟩), hp.2.mono (fun b h => ⟨hP b (by omega), Nat.lt_of_lt_of_le h.2 hg.size⟩)⟩, below_grown hb hg hd⟩
theorem Nx.fresh {w w9 : World} {L : Nat} {n : Nd} {A5 A6 : Option Addr} {k5 k6 : Nat} {P : Nat → Prop} (hs : StrsR w9 (.slice A5 n.ents.length k5) (nmA (nmE n.ents)) ∧ IntsR w9 (.slice A6 n.ents.length k6) (idE n.ents)) (hp : LP (fun b => L ≤ b ∧ b < w9.heap.size) (.slice A5 n.ents.length k5) ∧ LP (fun b => L ≤ b ∧ b < w9.heap.size) (.slice A6 n.ents.length k6)) (hb : Below w.heap.size w w9) (hL : w.heap.size ≤ L) (hP : ∀ b, w.heap.size ≤ b → P b) : Nx w (w9.alloc (.cells (rfC n (.slice A5 n.ents.length k5) (.slice A6 n.ents.length k6)) 87)) w9.heap.size n A5 k5 A6 k6 P :=
  ⟨Blk.new w9 _ _, ⟨hs.1.below (ba w9 _), hs.2.below (ba w9 _)⟩, ⟨hp.1.mono (fun b h => ⟨hP b (by omega), Nat.lt_of_lt_of_le h.2 (ba w9 _).size⟩), hp.2.mono (fun b h => ⟨hP b (by omega), Nat.lt_of_lt_of_le h.2 (ba w9 _).size⟩)⟩, al hb _⟩
set_option maxHeartbeats 32000000 in
theorem rrename_any {P : Nat → Prop} (v : Value) (t : List Nd) (c : Wh) (A0 : Option Addr) (m0 k0 : Nat) (p q : Nm) (op : List Int) (A1 : Option Addr) (n1 k1 : Nat) (w : World) (h : NsR P w v t) (hT : Tre t) (hc : CrR w c A0 m0 k0) (hp : p.length ≤ 1000) (hq : q.length ≤ 1000) (hop : IntsR w (.slice A1 n1 k1) op) (hol : op.length ≤ 1000) (hP : ∀ b, w.heap.size ≤ b → P b) :
    Calls Tryz.prog 22 #[.agg #[v], .agg #[.int .i64 c.u, .int .i64 c.g, .slice A0 m0 k0], .string (bA p), .string (bA q), .slice A1 n1 k1] w (TbE P w (mvT t c (resM t c p false) (resM t c q false) op) (mvE t c (resM t c p false) (resM t c q false))) := by
  obtain ⟨g, cc, rfl⟩ := ns_form h
  have hl := hT.le
  have ho := hT.ok
  have hMF : mvE t c (resM t c p false) (resM t c q false) = 0 → (resM t c q false).1.node ≠ (resM t c p false).1.node → (Ent t (resM t c p false).1 ∧ (resM t c p false).1.node ≠ 0) ∧ Ent t (resM t c q false).1 ∧ ((resM t c q false).1.node = 0 → (resM t c q false).1.dir ≠ (resM t c p false).1.dir → (tget t (resM t c q false).1.dir).ents.length < 8) := fun z1 z2 => by
    obtain ⟨a, b, -⟩ := mv_facts hT z1 z2
    exact ⟨a, b, (mvY_zero (mv_zero z1).2.2 z2).2.2.2.1⟩
  obtain ⟨R0, hX⟩ : ∃ R0, resM t c p false = R0 := ⟨_, rfl⟩
  obtain ⟨F, E0⟩ := R0
  obtain ⟨S0, hY⟩ : ∃ S0, resM t c q false = S0 := ⟨_, rfl⟩
  obtain ⟨G, E1⟩ := S0
  rw [hX, hY] at hMF ⊢
  obtain ⟨T2, hT2⟩ : ∃ T2, mvT t c (F, E0) (G, E1) op = T2 := ⟨_, rfl⟩
  obtain ⟨X, hXX⟩ : ∃ X, mvE t c (F, E0) (G, E1) = X := ⟨_, rfl⟩
  rw [hXX] at hMF
  rw [hT2, hXX]
  have hx : X = if fnE t c (F, E0) ≠ 0 then fnE t c (F, E0) else if E1 ≠ 0 then E1 else mvY t c F.node F.dir G := hXX.symm
  have ht : T2 = if X ≠ 0 ∨ G.node = F.node then t else frT (mv3 t F.dir F.name F.node G.dir G.name G.node) G.node op := by rw [← hT2, ← hXX]; rfl
  have hb1 := ba w (.cells #[.slice (some ⟨g, 0, none⟩) t.length cc] 35)
  have h11 := Blk.new w 35 #[.slice (some ⟨g, 0, none⟩) t.length cc]
  obtain ⟨W1, hW1⟩ : ∃ W, w.alloc (.cells #[.slice (some ⟨g, 0, none⟩) t.length cc] 35) = W := ⟨_, rfl⟩
  rw [hW1] at hb1 h11
  have hb2 := al hb1 (.cells #[.int .i64 c.u, .int .i64 c.g, .slice A0 m0 k0] 40)
  have h12 := h11.alloc (.cells #[.int .i64 c.u, .int .i64 c.g, .slice A0 m0 k0] 40)
  have h22 := Blk.new W1 40 #[.int .i64 c.u, .int .i64 c.g, .slice A0 m0 k0]
  obtain ⟨W2, hW2⟩ : ∃ W, W1.alloc (.cells #[.int .i64 c.u, .int .i64 c.g, .slice A0 m0 k0] 40) = W := ⟨_, rfl⟩
  rw [hW2] at hb2 h12 h22
  have hb3 := al hb2 (.cells #[.slice none 0 0] 35)
  have h13 := h12.alloc (.cells #[.slice none 0 0] 35)
  have h23 := h22.alloc (.cells #[.slice none 0 0] 35)
  have h33 := Blk.new W2 35 #[.slice none 0 0]
  have hlR : w.heap.size ≤ W2.heap.size := hb2.size
  obtain ⟨W3, hW3⟩ : ∃ W, W2.alloc (.cells #[.slice none 0 0] 35) = W := ⟨_, rfl⟩
  rw [hW3] at hb3 h13 h23 h33
  obtain ⟨z2, hz2⟩ : ∃ z, W1.heap.size = z := ⟨_, rfl⟩
  obtain ⟨R, hR⟩ : ∃ z, W2.heap.size = z := ⟨_, rfl⟩
  rw [hz2] at h23
  rw [hR] at h33 hlR
  have HB3 := Lib.hid hb3
  have HLR := Lib.hid hlR
  have HRL := Lib.hid h33.lt
  have H1 := Lib.hid h13
  have H2 := Lib.hid h23
  have H3 := Lib.hid h33
  have HP := Lib.hid hP
  have HN := Lib.hid (show NsR (fun b => P b ∧ b ≠ R) W3 (.slice (some ⟨g, 0, none⟩) t.length cc) t from (h.mono (fun b q z => ⟨q, by have := HLR.out; omega⟩)).below hb3)
  have HC := Lib.hid (hc.below hb3)
  have HFD := Lib.hid (rfind_ent _ t c A0 m0 k0 p W3 HN.out hl ho HC.out hp F E0 hX)
  have HRS := Lib.hid (fun (W : World) (hb : Below W3.heap.size W3 W) => rres_any _ t c A0 m0 k0 q false W (HN.out.below hb) hl ho (HC.out.below hb) hq (G, E1) hY)
  have HMY := Lib.hid (fun (W : World) (hb : Below W3.heap.size W3 W) => rmay_any _ t c A0 m0 k0 F.node F.dir G W (HN.out.below hb) hl ho (HC.out.below hb))
  have HOP := Lib.hid (hop.below hb3)
  have HMF := Lib.hid hMF
  have HO := Lib.hid ho
  have HL := Lib.hid hl
  have HXT := Lib.hid (And.intro hx ht)
  have HEX := Lib.hid (fun (W : World) (hb : Below W3.heap.size W3 W) => show NsR P (W.setCell ⟨R, 0, none⟩ (.slice (some ⟨g, 0, none⟩) t.length cc)) (.slice (some ⟨g, 0, none⟩) t.length cc) t ∧ Below w.heap.size w (W.setCell ⟨R, 0, none⟩ (.slice (some ⟨g, 0, none⟩) t.length cc)) from ns_put (HN.out.below hb) _ (bt hb HB3.out) HLR.out)
  have t0 := h13.cell 0
  obtain ⟨k0', k1', k2'⟩ := h23.c3
  simp at t0
  clear h hb1 hb2 hb3 h11 h12 h13 h22 h23 h33 hlR hXX hT2 hX hY hx ht hP ho hl hc hop hMF hT
  obtain ⟨Y, hYY⟩ : ∃ Y, fnE t c (F, E0) = Y := ⟨_, rfl⟩
  obtain ⟨M, hMM⟩ : ∃ M, mvY t c F.node F.dir G = M := ⟨_, rfl⟩
  rw [hYY] at HFD HXT
  rw [hMM] at HMY HXT
  clear hYY hMM
  go_enter Tryz.func22, Tryz.ntmps22
  go_wp2_with fail
  clear hW1 hW2 hW3 hz2 hR
  refine HFD.out.mono ?_
  rintro e w4 ⟨rfl, hb4⟩
  have hbx := al hb4 (.cells #[.int .i64 F.dir, .string (bA F.name), .int .i64 F.node] 90)
  have hf4 := Blk.new w4 90 #[.int .i64 F.dir, .string (bA F.name), .int .i64 F.node]
  obtain ⟨W4, hW4⟩ : ∃ W, w4.alloc (.cells #[.int .i64 F.dir, .string (bA F.name), .int .i64 F.node] 90) = W := ⟨_, rfl⟩
  obtain ⟨y, hy⟩ : ∃ y, w4.heap.size = y := ⟨_, rfl⟩
  rw [hW4] at hbx hf4
  rw [hy] at hf4
  have HB4 := Lib.hid hbx
  have H4 := Lib.hid hf4
  clear hb4 hbx hf4 HFD k0' k1' k2' t0
  by_cases q0 : Y = 0
  · have y0 : (Y != 0) = false := by simpa using q0
    obtain ⟨hx, ht⟩ := HXT.out
    rw [if_neg (fun z => z q0)] at hx
    have HX1 := Lib.hid hx
    have HTT := Lib.hid ht
    have t0 := (H1.out.below HB4.out).cell 0
    simp at t0
    obtain ⟨k0', k1', k2'⟩ := (H2.out.below HB4.out).c3
    clear q0 hx ht HXT
    go_wp2_with fail
    clear hW4 hy
    refine (HRS.out W4 HB4.out).mono ?_
    rintro e w5 ⟨rfl, hb5⟩
    have hbx := al hb5 (.cells #[.int .i64 G.dir, .string (bA G.name), .int .i64 G.node] 90)
    have hg5 := Blk.new w5 90 #[.int .i64 G.dir, .string (bA G.name), .int .i64 G.node]
    obtain ⟨W5, hW5⟩ : ∃ W, w5.alloc (.cells #[.int .i64 G.dir, .string (bA G.name), .int .i64 G.node] 90) = W := ⟨_, rfl⟩
    obtain ⟨x, hxx⟩ : ∃ y, w5.heap.size = y := ⟨_, rfl⟩
    rw [hW5] at hbx hg5
    rw [hxx] at hg5
    have HB5 := Lib.hid (bt hbx HB4.out)
    have H5 := Lib.hid hg5
    have H45 := Lib.hid (H4.out.below hbx)
    clear hb5 hbx hg5 HRS k0' k1' k2' t0 H4
    by_cases q1 : E1 = 0
    · have y1 : (E1 != 0) = false := by simpa using q1
      have hx := HX1.out
      rw [if_neg (fun z => z q1)] at hx
      have HX2 := Lib.hid hx
      have t0 := (H1.out.below HB5.out).cell 0
      simp at t0
      obtain ⟨k0', k1', k2'⟩ := (H2.out.below HB5.out).c3
      obtain ⟨f0, f1, f2⟩ := H45.out.c3
      obtain ⟨g0, g1, g2⟩ := H5.out.c3
      clear q1 hx HX1
      go_wp2_with fail
      clear hW5 hxx
      refine (HMY.out W5 HB5.out).mono ?_
      rintro e w6 ⟨rfl, hb6⟩
      have J6 := Lib.hid hb6
      have HB6 := Lib.hid (bt hb6 HB5.out)
      clear hb6 t0 k0' k1' k2' f0 f1 f2 g0 g1 g2 HMY
      obtain ⟨f0, f1, f2⟩ := (H45.out.below J6.out).c3
      obtain ⟨g0, g1, g2⟩ := (H5.out.below J6.out).c3
      by_cases q2 : M = 0
      · have y2 : (M != 0) = false := by simpa using q2
        by_cases q3 : G.node = F.node
        · have y3 : (G.node == F.node) = true := by simpa using q3
          have HX := Lib.hid (show X = M ∧ T2 = t from ⟨HX2.out, by rw [HTT.out, if_pos (.inr q3)]⟩)
          clear q2 q3
          have hr := H3.out.below HB6.out
          have t0 := (H1.out.below HB6.out).cell 0
          simp at t0
          have r0 := hr.cell 0
          have r1 := hr.frozen 0
          simp at r0
          have s0 : ∀ u, (w6.setCell ⟨R, 0, none⟩ u).cell? ⟨R, 0, none⟩ = some u := fun u => (hr.set_ 0 u).cell 0
          have HE := Lib.hid (HEX.out w6 HB6.out)
          clear hr
          go_wp2
          exact bodyPost_ret (v := .tuple #[.agg #[.slice (some ⟨g, 0, none⟩) t.length cc], .int .i64 M]) (by simp [results, Tryz.results22, go_sem, s0]) rfl ⟨g, cc, by rw [HX.out.1, HX.out.2], by rw [HX.out.2]; exact HE.out.1, HE.out.2⟩
        have y3 : (G.node == F.node) = false := by simpa using q3
        have HXZ := Lib.hid (show X = 0 from HX2.out.trans q2)
        have HT2 := Lib.hid (show T2 = frT (mv3 t F.dir F.name F.node G.dir G.name G.node) G.node op from by rw [HTT.out, if_neg (fun z => z.elim (fun u => u HXZ.out) q3)])
        obtain ⟨⟨EF, hFn⟩, EG, hroom⟩ := HMF.out HXZ.out q3
        have HQ3 := Lib.hid q3
        have hi1 : 1 ≤ F.node := by
          have h1 := ok_fnd HO.out (i := F.dir) (n := F.name) (by rw [EF.found]; exact hFn)
          rw [EF.found] at h1
          exact h1
        have hgn : G.node = 0 ∨ 1 ≤ G.node := by
          by_cases z : G.node = 0
          · exact .inl z
          · have h1 := ok_fnd HO.out (i := G.dir) (n := G.name) (by rw [EG.found]; exact z)
            rw [EG.found] at h1
            exact .inr h1
        obtain ⟨-, hw⟩ := mv3_is HO.out EF.kind EF.found hFn EG.kind EG.found q3 EG.nam hroom
        have c1 := cut_is HO.out EF.kind EF.found hFn
        have hne : ¬ (G.dir = F.dir ∧ G.name = F.name) := fun z => q3 (by rw [← EG.found, ← EF.found, z.1, z.2])
        have c2 : G.node ≠ 0 → Cut (cutT t F.dir F.name) (cutT (cutT t F.dir F.name) G.dir G.name) G.dir G.name G.node := fun z => by
          refine cut_is c1.ok (by rw [kind_noE (c1.head G.dir)]; exact EG.kind) ?_ z
          rw [c1.get]
          by_cases z1 : G.dir = F.dir
          · rw [if_pos z1]
            show fnd (del (tget t F.dir).ents F.name) G.name = G.node
            rw [fnd_del_ne (fun z2 => hne ⟨z1, z2⟩), ← z1]
            exact EG.found
          · rw [if_neg z1]
            exact EG.found
        have hm2 : okT (mv2 t F.dir F.name G.dir G.name G.node) ∧ (mv2 t F.dir F.name G.dir G.name G.node).length = t.length := by
          unfold mv2
          split
          · rename_i z
            exact ⟨(c2 z).ok, (c2 z).len.trans c1.len⟩
          · exact ⟨c1.ok, c1.len⟩
        have a3 := add_is hm2.1 hw
        have hFin := tis_in (kind_tis EF.kind)
        have hGin := tis_in (kind_tis EG.kind)
        obtain ⟨T1, hT1⟩ : ∃ T1, cutT t F.dir F.name = T1 := ⟨_, rfl⟩
        obtain ⟨TM, hTM⟩ : ∃ TM, mv2 t F.dir F.name G.dir G.name G.node = TM := ⟨_, rfl⟩
        obtain ⟨TA, hTA⟩ : ∃ TA, mv3 t F.dir F.name F.node G.dir G.name G.node = TA := ⟨_, rfl⟩
        have eA : TA = setT TM G.dir (withM (tget TM G.dir) G.name F.node) := by rw [← hTA, ← hTM]; rfl
        have eM : TM = if G.node ≠ 0 then cutT T1 G.dir G.name else T1 := by rw [← hTM, ← hT1]; rfl
        have a3' : okT TA ∧ TA.length = t.length := by rw [← hTA]; exact ⟨a3.ok, a3.len.trans hm2.2⟩
        rw [hTM] at hm2 hw
        rw [hTA] at HT2
        rw [hT1] at c1
        have HEA := Lib.hid eA
        have HEM := Lib.hid eM
        have HTA := Lib.hid a3'
        have HTM := Lib.hid hm2
        have HT1 := Lib.hid (And.intro c1.ok c1.len)
        have HGI := Lib.hid hGin
        have HGN := Lib.hid hgn
        have HFE := Lib.hid EF
        have HNG := Lib.hid (show (bA G.name).size ≤ 1000 from by rw [size_bA]; have := (nok_nok EG.nam).len; omega)
        have HSZ := Lib.hid (show ∀ b, w6.heap.size ≤ b → P b ∧ b ≠ R from fun b q => by
          have h1 := HB6.out.size
          have h2 := HRL.out
          have h3 := HB3.out.size
          exact ⟨HP.out b (by omega), by omega⟩)
        have HCT := Lib.hid (show Calls Tryz.prog 42 #[.agg #[.slice (some ⟨g, 0, none⟩) t.length cc], .int .i64 F.dir, .string (bA F.name)] w6 (TbA (fun b => P b ∧ b ≠ R) w6 T1) from by rw [← hT1]; exact rcut_any (P := fun b => P b ∧ b ≠ R) _ t F.dir F.name w6 (HN.out.below HB6.out) HL.out hFin (ok_few HO.out F.dir) HSZ.out)
        have t0 := (H1.out.below HB6.out).cell 0
        simp at t0
        clear q2 hi1 hgn hne hw c1 c2 hm2 a3 a3' hFin hGin hT1 hTM hTA eA eM EF hFn EG hroom HMF HTT HX2
        go_wp2_with fail
        refine HCT.out.mono ?_
        rintro e w7 ⟨g7, c7, rfl, hn7, hb7⟩
        have hbx := al hb7 (.cells #[.slice (some ⟨g7, 0, none⟩) T1.length c7] 35)
        have hu7 := Blk.new w7 35 #[.slice (some ⟨g7, 0, none⟩) T1.length c7]
        obtain ⟨W7, hW7⟩ : ∃ W, w7.alloc (.cells #[.slice (some ⟨g7, 0, none⟩) T1.length c7] 35) = W := ⟨_, rfl⟩
        have hnu := (hn7.mono (fun b q z => (show (P b ∧ b ≠ R) ∧ b ≠ w7.heap.size from ⟨q, Nat.ne_of_lt z⟩))).below (ba w7 (.cells #[.slice (some ⟨g7, 0, none⟩) T1.length c7] 35))
        rw [hW7] at hbx hu7 hnu
        have hdl : w6.heap.size ≤ w7.heap.size := hb7.size
        obtain ⟨d, hd⟩ : ∃ d, w7.heap.size = d := ⟨_, rfl⟩
        rw [hd] at hu7 hnu hdl
        have HDL := Lib.hid hdl
        have J7 := Lib.hid hbx
        have HU7 := Lib.hid hu7
        have HN7 := Lib.hid hnu
        have HDD := Lib.hid hu7.lt
        have HXD := Lib.hid (show x ≠ d from by have h1 := ((H5.out.below J6.out).below hb7).lt; omega)
        clear hn7 hb7 hbx hu7 hnu hdl t0 f0 f1 f2 g0 g1 g2 HCT
        obtain ⟨g0, g1, g2⟩ := (H5.out.below (bt J7.out J6.out)).c3
        -- the second cut
        have u0 := HU7.out.cell 0
        have u1 := HU7.out.frozen 0
        simp at u0
        go_upto_if 69 with fail
        go_cut [15] (fun s15 wx => s15 = .pointer (some ⟨d, 0, none⟩) ∧ ∃ g' c' : Nat, Blk wx d 35 #[.slice (some ⟨g', 0, none⟩) TM.length c'] ∧ NsR (fun b => (P b ∧ b ≠ R) ∧ b ≠ d) wx (.slice (some ⟨g', 0, none⟩) TM.length c') TM ∧ Below w6.heap.size w6 wx)
        case first =>
          by_cases q4 : G.node = 0
          · have y4 : ¬ G.node > 0 := by omega
            have hem : TM = T1 := by rw [HEM.out, if_neg (fun z => z q4)]
            have HM := Lib.hid hem
            clear q4 hem
            go_wp2
            go_meet
            exact ⟨rfl, g7, c7, by rw [HM.out]; exact HU7.out, by rw [HM.out]; exact HN7.out, J7.out⟩
          · have y4 : G.node > 0 := by have := HGN.out; omega
            have hem : TM = cutT T1 G.dir G.name := by rw [HEM.out, if_pos q4]
            have HC2 := Lib.hid (show Calls Tryz.prog 42 #[.agg #[.slice (some ⟨g7, 0, none⟩) T1.length c7], .int .i64 G.dir, .string (bA G.name)] W7 (TbA (fun b => (P b ∧ b ≠ R) ∧ b ≠ d) W7 TM) from by
              rw [hem]
              exact rcut_any (P := fun b => (P b ∧ b ≠ R) ∧ b ≠ d) _ T1 G.dir G.name W7 HN7.out (by rw [HT1.out.2]; exact HL.out) (by rw [HT1.out.2]; exact HGI.out) (ok_few HT1.out.1 G.dir) (fun b q => ⟨HSZ.out b (Nat.le_trans J7.out.size q), by have := HDD.out; omega⟩))
            clear q4 hem
            go_wp2_with fail
            refine HC2.out.mono ?_
            rintro e w8 ⟨g8, c8, rfl, hn8, hb8⟩
            have hu := HU7.out.below hb8
            have v0 := hu.cell 0
            have v1 := hu.frozen 0
            simp at v0
            have HE8 := Lib.hid (show Blk (w8.setCell ⟨d, 0, none⟩ (.slice (some ⟨g8, 0, none⟩) TM.length c8)) d 35 #[.slice (some ⟨g8, 0, none⟩) TM.length c8] ∧ NsR (fun b => (P b ∧ b ≠ R) ∧ b ≠ d) (w8.setCell ⟨d, 0, none⟩ (.slice (some ⟨g8, 0, none⟩) TM.length c8)) (.slice (some ⟨g8, 0, none⟩) TM.length c8) TM ∧ Below w6.heap.size w6 (w8.setCell ⟨d, 0, none⟩ (.slice (some ⟨g8, 0, none⟩) TM.length c8)) from
              ⟨hu.set_ 0 _, hn8.other (grown_setCell _ ⟨d, 0, none⟩ _) (fun _ q => q.2), below_grown (bt hb8 J7.out) (grown_setCell _ _ _) HDL.out⟩)
            clear hn8 hb8 hu u0 u1
            go_wp2
            go_meet
            exact ⟨rfl, g8, c8, HE8.out.1, HE8.out.2.1, HE8.out.2.2⟩
        case rest =>
        obtain ⟨rfl, g9, c9, hu9, hn9, hb9⟩ := hcut
        obtain ⟨w9, hw9⟩ : ∃ W, wc = W := ⟨_, rfl⟩
        rw [hw9] at hu9 hn9 hb9 ⊢
        have J9 := Lib.hid hb9
        have HU9 := Lib.hid hu9
        have HN9 := Lib.hid hn9
        have HF9 := Lib.hid ((H45.out.below J6.out).below hb9)
        have HG9 := Lib.hid ((H5.out.below J6.out).below hb9)
        clear hw9 hu9 hn9 hb9 g0 g1 g2 u0 u1 HU7 HN7 J7 HEM HT1 HDD
        -- the entry more
        obtain ⟨N, hN⟩ : ∃ N, tget TM G.dir = N := ⟨_, rfl⟩
        obtain ⟨M', hM'⟩ : ∃ M', withM N G.name F.node = M' := ⟨_, rfl⟩
        have hEA := HEA.out
        rw [hN, hM'] at hEA
        have HGT := Lib.hid (fun (W : World) (hb : Below w9.heap.size w9 W) => show Calls Tryz.prog 41 #[.agg #[.slice (some ⟨g9, 0, none⟩) TM.length c9], .int .i64 G.dir] W fun e w' => ∃ A5 k5 A6 k6, e = .returned (.agg (rfC N (.slice A5 N.ents.length k5) (.slice A6 N.ents.length k6))) ∧ (StrsR w' (.slice A5 N.ents.length k5) (nmA (nmE N.ents)) ∧ IntsR w' (.slice A6 N.ents.length k6) (idE N.ents)) ∧ Below W.heap.size W w' from by
          have h1 := rget_rf _ TM G.dir W (HN9.out.below hb) (by rw [HTM.out.2]; exact HL.out)
          rw [hN] at h1
          refine h1.mono ?_
          rintro e w' ⟨vn, vk, rfl, h2, h3, h4⟩
          obtain ⟨A5, k5, rfl⟩ := strs_form h2 (nm_len _)
          obtain ⟨A6, k6, rfl⟩ := ints_form h3 (idE_len _)
          exact ⟨A5, k5, A6, k6, rfl, ⟨h2, h3⟩, h4⟩)
        have HFW := Lib.hid (show Few N from by rw [← hN]; exact ok_few HTM.out.1 G.dir)
        obtain ⟨XE, hXE⟩ : ∃ XE, withE N G.name F.node = XE := ⟨_, rfl⟩
        have HWI := Lib.hid (fun (W : World) (A5 A6 : Option Addr) (k5 k6 : Nat) (h2 : StrsR W (.slice A5 N.ents.length k5) (nmA (nmE N.ents)) ∧ IntsR W (.slice A6 N.ents.length k6) (idE N.ents)) => show Calls Tryz.prog 55 #[.agg (rfC N (.slice A5 N.ents.length k5) (.slice A6 N.ents.length k6)), .string (bA G.name), .int .i64 F.node] W fun e w' => ∃ A7 k7 A8 k8, e = .returned (.tuple #[.agg (rfC M' (.slice A7 M'.ents.length k7) (.slice A8 M'.ents.length k8)), .int .i64 XE]) ∧ (StrsR w' (.slice A7 M'.ents.length k7) (nmA (nmE M'.ents)) ∧ IntsR w' (.slice A8 M'.ents.length k8) (idE M'.ents)) ∧ (LP (fun b => W.heap.size ≤ b ∧ b < w'.heap.size) (.slice A7 M'.ents.length k7) ∧ LP (fun b => W.heap.size ≤ b ∧ b < w'.heap.size) (.slice A8 M'.ents.length k8)) ∧ Below W.heap.size W w' from by
          have h1 := ref_with N _ _ G.name F.node W h2.1 h2.2 HFW.out.ents HFW.out.names (by have h3 := HNG.out; rw [size_bA] at h3; exact h3)
          rw [hM', hXE] at h1
          refine h1.mono ?_
          rintro e w' ⟨v, rfl, ⟨vn, vk, rfl, h3, h4, h5, h6⟩, h7⟩
          obtain ⟨A7, k7, rfl⟩ := strs_form h3 (nm_len _)
          obtain ⟨A8, k8, rfl⟩ := ints_form h4 (idE_len _)
          exact ⟨A7, k7, A8, k8, rfl, ⟨h3, h4⟩, ⟨h5, h6⟩, h7⟩)
        have HEA2 := Lib.hid hEA
        have HS9 := Lib.hid (show ∀ b, w9.heap.size ≤ b → (P b ∧ b ≠ R) ∧ b ≠ d from fun b q => by
          have h1 := J9.out.size
          have h2 := HU9.out.lt
          exact ⟨HSZ.out b (by omega), by omega⟩)
        have HPQ := Lib.hid (fun (W : World) (hb : Below w9.heap.size w9 W) => show W.cell? ⟨d, 0, none⟩ = some (.slice (some ⟨g9, 0, none⟩) TM.length c9) ∧ W.cell? ⟨x, 0, none⟩ = some (.int .i64 G.dir) ∧ W.cell? ⟨x, 1, none⟩ = some (.string (bA G.name)) ∧ W.cell? ⟨y, 2, none⟩ = some (.int .i64 F.node) from ⟨(HU9.out.below hb).cell 0, (HG9.out.below hb).c3.1, (HG9.out.below hb).c3.2.1, (HF9.out.below hb).c3.2.2⟩)
        have HDR := Lib.hid (show Below w9.heap.size w9 w9.drew from (Below.refl _ _).drew)
        have HAD := Lib.hid (show Below w9.heap.size w9 (w9.alloc (.cells rfZ 87)).drew from (ba w9 _).drew)
        clear hN hM' hXE hEA
        go_upto_region 13 with fail
        clear hW7 hd
        go_cut [16] (fun s16 wx => ∃ (d16 : Nat) (A7 : Option Addr) (k7 : Nat) (A8 : Option Addr) (k8 : Nat), s16 = .pointer (some ⟨d16, 0, none⟩) ∧ Nx w9 wx d16 M' A7 k7 A8 k8 (fun b => (P b ∧ b ≠ R) ∧ b ≠ d))
        case first =>
          go_region_held3 (fun W => W.cell? ⟨d, 0, none⟩ = some (.slice (some ⟨g9, 0, none⟩) TM.length c9) ∧ W.cell? ⟨x, 0, none⟩ = some (.int .i64 G.dir) ∧ W.cell? ⟨x, 1, none⟩ = some (.string (bA G.name)) ∧ W.cell? ⟨y, 2, none⟩ = some (.int .i64 F.node))
            (first | (with_reducible exact HPQ.out _ HDR.out) | (with_reducible exact HPQ.out _ HAD.out) | (with_reducible exact HPQ.out _ HB10.out) | (with_reducible exact HPQ.out _ (al HB10.out _)) | (with_reducible exact HPQ.out _ HBA.out) | (with_reducible exact HPQ.out _ HB12.out) | (with_reducible exact HPQ.out _ (al HB12.out _)) | (with_reducible exact ⟨t0, t1, t2, t3⟩))
            (first
            | (go_at_call 41; (with_reducible refine (HGT.out w9.drew HDR.out).mono ?_); rintro e1 w10 ⟨A5, k5, A6, k6, rfl, hl10, hb10⟩; have HL10 := Lib.hid hl10; have HB10 := Lib.hid (bt hb10 HDR.out); clear hl10 hb10)
            | (go_at_call 41; (with_reducible refine (HGT.out (w9.alloc (.cells rfZ 87)).drew HAD.out).mono ?_); rintro e1 w10 ⟨A5, k5, A6, k6, rfl, hl10, hb10⟩; have HLA := Lib.hid hl10; have HBA := Lib.hid (bt hb10 HAD.out); have HXA := Lib.hid (show Blk w10 w9.heap.size 87 rfZ from Blk.below (w := (w9.alloc (.cells rfZ 87)).drew) (Blk.new w9 87 _) hb10); clear hl10 hb10)
            | (go_at_call 55; (with_reducible refine (HWI.out w10 A5 A6 k5 k6 HLA.out).mono ?_); rintro e3 w12 ⟨A7, k7, A8, k8, rfl, hl12, hp12, hb12⟩; have HB12 := Lib.hid (bt hb12 HBA.out); have HL12 := Lib.hid hl12; have HP12 := Lib.hid hp12; have hx12 := Blk.below (HXA.out) hb12; have HX12 := Lib.hid hx12; obtain ⟨x0, x1, x2, x3, x4, x5, x6, x7⟩ := (show Blk w12 w9.heap.size 87 rfZ from hx12).c8; obtain ⟨y0', y1', y2', y3', y4', y5', y6', y7'⟩ := (show Blk w12 w9.heap.size 87 rfZ from hx12).f8; obtain ⟨t0, t1, t2, t3⟩ := HPQ.out (put8 w12 w9.heap.size (.int .i64 M'.kind) (.int .i64 M'.mode) (.int .i64 M'.uid) (.int .i64 M'.gid) (.string (bA M'.data)) (.slice A7 M'.ents.length k7) (.slice A8 M'.ents.length k8) (.string (bA M'.target))) (below_grown HB12.out (grown8 _ _ _ _ _ _ _ _ _ _) (Nat.le_refl _)); simp only [put8, put7] at t0 t1 t2 t3; clear hl12 hp12 hb12 hx12)
            | (go_at_call 55; (with_reducible refine (HWI.out w10 A5 A6 k5 k6 HL10.out).mono ?_); rintro e3 w12 ⟨A7, k7, A8, k8, rfl, hl12, hp12, hb12⟩; have HB12 := Lib.hid (bt hb12 HB10.out); have HL12 := Lib.hid hl12; have HP12 := Lib.hid hp12; clear hl12 hp12 hb12)
            | (go_at_call 55; (with_reducible refine (HWI.out (w10.alloc (.cells rfZ 87)) A5 A6 k5 k6 ⟨HL10.out.1.below (ba w10 _), HL10.out.2.below (ba w10 _)⟩).mono ?_); rintro e3 w12 ⟨A7, k7, A8, k8, rfl, hl12, hp12, hb12⟩; have HB12 := Lib.hid (bt hb12 (al HB10.out _)); have HL12 := Lib.hid hl12; have HP12 := Lib.hid hp12; have hx12 := Blk.below (Blk.new w10 87 rfZ) hb12; have HX12 := Lib.hid hx12; obtain ⟨x0, x1, x2, x3, x4, x5, x6, x7⟩ := (show Blk w12 w10.heap.size 87 rfZ from hx12).c8; obtain ⟨y0', y1', y2', y3', y4', y5', y6', y7'⟩ := (show Blk w12 w10.heap.size 87 rfZ from hx12).f8; obtain ⟨t0, t1, t2, t3⟩ := HPQ.out (put8 w12 w10.heap.size (.int .i64 M'.kind) (.int .i64 M'.mode) (.int .i64 M'.uid) (.int .i64 M'.gid) (.string (bA M'.data)) (.slice A7 M'.ents.length k7) (.slice A8 M'.ents.length k8) (.string (bA M'.target))) (below_grown HB12.out (grown8 _ _ _ _ _ _ _ _ _ _) HB10.out.size); simp only [put8, put7] at t0 t1 t2 t3; clear hl12 hp12 hb12 hx12))
          all_goals (
            go_wp2
            go_meet
            first
              | with_reducible exact ⟨_, _, _, _, _, rfl, Nx.put HX12.out HL12.out HP12.out HB12.out (Nat.le_refl _) HXA.out.lt HS9.out⟩
              | with_reducible exact ⟨_, _, _, _, _, rfl, Nx.put HX12.out HL12.out HP12.out HB12.out HB10.out.size (Nat.lt_of_lt_of_le (Nat.lt_succ_self _) (by simp)) HS9.out⟩
              | exact ⟨_, _, _, _, _, rfl, Nx.fresh HL12.out HP12.out HB12.out HB10.out.size HS9.out⟩)
        case rest =>
        obtain ⟨z, A7, k7, A8, k8, rfl, hx⟩ := hcut
        obtain ⟨w13, hw13⟩ : ∃ W, wc = W := ⟨_, rfl⟩
        rw [hw13] at hx ⊢
        have J13 := Lib.hid hx.below
        obtain ⟨kk, hkk⟩ : ∃ kk : Nat, G.dir = (kk : Int) + 1 := ⟨(G.dir - 1).toNat, by have := HGI.out; omega⟩
        have HWT := Lib.hid (show Calls Tryz.prog 38 #[.agg #[.slice (some ⟨g9, 0, none⟩) TM.length c9], .int .i64 G.dir, .agg (rfC M' (.slice A7 M'.ents.length k7) (.slice A8 M'.ents.length k8))] w13 (TbA (fun b => (P b ∧ b ≠ R) ∧ b ≠ d) w13 TA) from by
          have h1 := rwith_any (P := fun b => (P b ∧ b ≠ R) ∧ b ≠ d) _ TM kk M' _ _ w13 w13 (HN9.out.below hx.below) (Below.refl _ _) (by rw [HTM.out.2]; exact HL.out) (by have h2 := HGI.out; have h3 := HTM.out.2; omega) hx.ls.1 hx.ls.2 hx.lp.1 hx.lp.2
          rw [← hkk, ← HEA2.out] at h1
          refine h1.mono ?_
          rintro e w' ⟨v', rfl, h2, h3⟩
          have hns := h2.ns h3 (fun b q => HS9.out b (Nat.le_trans hx.below.size q))
          obtain ⟨g', c', rfl⟩ := ns_form hns
          exact ⟨g', c', rfl, hns, h3⟩)
        obtain ⟨o0, o1, o2, o3, o4, o5, o6, o7⟩ := hx.blk.c8
        obtain ⟨t0, t1, -, -⟩ := HPQ.out w13 hx.below
        have HU13 := Lib.hid (HU9.out.below hx.below)
        have HG13 := Lib.hid (HG9.out.below hx.below)
        clear hx hkk hw13 HPQ HGT HWI HN9 HDR HAD HEA2
        go_wp2_with fail
        refine HWT.out.mono ?_
        rintro e w14 ⟨g14, c14, rfl, hn14, hb14⟩
        have hu := HU13.out.below hb14
        have hg := (HG13.out.below hb14).kept (grown_setCell w14 ⟨d, 0, none⟩ (.slice (some ⟨g14, 0, none⟩) TA.length c14)) (some_ne HXD.out)
        have x0 := hu.cell 0
        have x1 := hu.frozen 0
        simp at x0
        have s0 := (hu.set_ 0 (.slice (some ⟨g14, 0, none⟩) TA.length c14)).cell 0
        simp at s0
        obtain ⟨-, -, y2'⟩ := hg.c3
        have hbe := below_grown (bt (bt hb14 J13.out) J9.out) (grown_setCell w14 ⟨d, 0, none⟩ (.slice (some ⟨g14, 0, none⟩) TA.length c14)) HDL.out
        have HFR := Lib.hid (rfree_any (P := fun b => P b ∧ b ≠ R) (.slice (some ⟨g14, 0, none⟩) TA.length c14) TA G.node op A1 n1 k1 _ ((hn14.other (grown_setCell w14 ⟨d, 0, none⟩ (.slice (some ⟨g14, 0, none⟩) TA.length c14)) (fun _ q => q.2)).mono (fun _ q _ => q.1)) (by rw [HTA.out.2]; exact HL.out) HTA.out.1 (HOP.out.below (bt hbe HB6.out)) hol (fun b q => HSZ.out b (Nat.le_trans hbe.size q)))
        rw [← HT2.out] at HFR
        obtain ⟨BB, hBB⟩ : ∃ BB, frB TA G.node op = BB := ⟨_, rfl⟩
        rw [hBB] at HFR
        have HBE := Lib.hid (bt hbe HB6.out)
        clear hn14 hb14 hu hg hbe hBB o0 o1 o2 o3 o4 o5 o6 o7 t0 t1 HU13 HG13 HWT
        go_wp2_with fail
        refine HFR.out.mono ?_
        rintro e w16 ⟨g16, c16, rfl, hn16, hb16⟩
        have hbx := al hb16 (.cells #[.slice (some ⟨g16, 0, none⟩) T2.length c16] 35)
        have hu := Blk.new w16 35 #[.slice (some ⟨g16, 0, none⟩) T2.length c16]
        have hn17 := hn16.below (ba w16 (.cells #[.slice (some ⟨g16, 0, none⟩) T2.length c16] 35))
        obtain ⟨W17, hW17⟩ : ∃ W, w16.alloc (.cells #[.slice (some ⟨g16, 0, none⟩) T2.length c16] 35) = W := ⟨_, rfl⟩
        rw [hW17] at hbx hu hn17
        have hr := H3.out.below (bt hbx HBE.out)
        have x0 := hu.cell 0
        simp at x0
        have r0 := hr.cell 0
        have r1 := hr.frozen 0
        simp at r0
        have s0 : ∀ u, (W17.setCell ⟨R, 0, none⟩ u).cell? ⟨R, 0, none⟩ = some u := fun u => (hr.set_ 0 u).cell 0
        have HE := Lib.hid (ns_put hn17 (.slice (some ⟨g16, 0, none⟩) T2.length c16) (bt (bt hbx HBE.out) HB3.out) HLR.out)
        clear hn16 hb16 hbx hu hn17 hr y2' x1 HFR
        go_wp2
        exact bodyPost_ret (v := .tuple #[.agg #[.slice (some ⟨g16, 0, none⟩) T2.length c16], .int .i64 0]) (by simp [results, Tryz.results22, go_sem, s0]) rfl ⟨g16, c16, by rw [HXZ.out], HE.out.1, HE.out.2⟩
      · have y2 : (M != 0) = true := by simpa using q2
        have HX := Lib.hid (show X = M ∧ T2 = t from ⟨HX2.out, by rw [HTT.out, HX2.out, if_pos (.inl q2)]⟩)
        clear q2
        have hr := H3.out.below HB6.out
        have t0 := (H1.out.below HB6.out).cell 0
        simp at t0
        have r0 := hr.cell 0
        have r1 := hr.frozen 0
        simp at r0
        have s0 : ∀ u, (w6.setCell ⟨R, 0, none⟩ u).cell? ⟨R, 0, none⟩ = some u := fun u => (hr.set_ 0 u).cell 0
        have HE := Lib.hid (HEX.out w6 HB6.out)
        clear hr
        go_wp2
        exact bodyPost_ret (v := .tuple #[.agg #[.slice (some ⟨g, 0, none⟩) t.length cc], .int .i64 M]) (by simp [results, Tryz.results22, go_sem, s0]) rfl ⟨g, cc, by rw [HX.out.1, HX.out.2], by rw [HX.out.2]; exact HE.out.1, HE.out.2⟩
    · have y1 : (E1 != 0) = true := by simpa using q1
      have HX := Lib.hid (show X = E1 ∧ T2 = t from by
        have e : X = E1 := by rw [HX1.out, if_pos q1]
        exact ⟨e, by rw [HTT.out, e, if_pos (.inl q1)]⟩)
      clear q1
      have hr := H3.out.below HB5.out
      have t0 := (H1.out.below HB5.out).cell 0
      simp at t0
      have r0 := hr.cell 0
      have r1 := hr.frozen 0
      simp at r0
      have s0 : ∀ u, (W5.setCell ⟨R, 0, none⟩ u).cell? ⟨R, 0, none⟩ = some u := fun u => (hr.set_ 0 u).cell 0
      have HE := Lib.hid (HEX.out W5 HB5.out)
      clear hr
      go_wp2
      exact bodyPost_ret (v := .tuple #[.agg #[.slice (some ⟨g, 0, none⟩) t.length cc], .int .i64 E1]) (by simp [results, Tryz.results22, go_sem, s0]) rfl ⟨g, cc, by rw [HX.out.1, HX.out.2], by rw [HX.out.2]; exact HE.out.1, HE.out.2⟩
  · have y0 : (Y != 0) = true := by simpa using q0
    have HX := Lib.hid (show X = Y ∧ T2 = t from by
      obtain ⟨hx, ht⟩ := HXT.out
      have e : X = Y := by rw [hx, if_pos q0]
      exact ⟨e, by rw [ht, e, if_pos (.inl q0)]⟩)
    clear q0
    have hr := H3.out.below HB4.out
    have t0 := (H1.out.below HB4.out).cell 0
    simp at t0
    have r0 := hr.cell 0
    have r1 := hr.frozen 0
    simp at r0
    have s0 : ∀ u, (W4.setCell ⟨R, 0, none⟩ u).cell? ⟨R, 0, none⟩ = some u := fun u => (hr.set_ 0 u).cell 0
    have HE := Lib.hid (HEX.out W4 HB4.out)
    clear hr
    go_wp2
    exact bodyPost_ret (v := .tuple #[.agg #[.slice (some ⟨g, 0, none⟩) t.length cc], .int .i64 Y]) (by simp [results, Tryz.results22, go_sem, s0]) rfl ⟨g, cc, by rw [HX.out.1, HX.out.2], by rw [HX.out.2]; exact HE.out.1, HE.out.2⟩
end Go.Proofs.YtiimdmbalnhmmaaGreat
