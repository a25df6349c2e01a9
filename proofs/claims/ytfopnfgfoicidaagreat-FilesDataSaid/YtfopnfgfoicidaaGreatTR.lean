/-
  The statements' model and tree, in memory of their own. The conditions are said at each.
-/
import Derived.Test.YtfopnfgfoicidaaGreatBS
namespace Go.Proofs.YtfopnfgfoicidaaGreat
open Go Go.RowKit
set_option maxRecDepth 100000

attribute [local go_sem] cell_off4 cell_blk4
set_option maxRecDepth 100000 in
set_option maxHeartbeats 8000000 in
theorem model11_any (n : Nd) (vd ve : Value) (w : World) (hd : BytesR w vd n.data) (he : EntsR w ve n.ents) (hn : n.ents.length ≤ 1000) :
    Calls Tryz.prog 35 #[nodeV n vd ve] w fun e w' => ∃ v, e = .returned v ∧ NrP w w' v n ∧ Below w.heap.size w w' := by
  obtain ⟨A1, c1, rfl⟩ := bytes_form hd rfl
  obtain ⟨A2, c2, rfl⟩ := ents_form he rfl
  obtain ⟨wB, hwB⟩ : ∃ wB, wB = (w.alloc (.cells (ndC n (.slice A1 n.data.length c1) (.slice A2 n.ents.length c2)) 56)).alloc (.cells rfZ 82) := ⟨_, rfl⟩
  have hbB : Below w.heap.size w wB := by rw [hwB]; exact al (ba _ _) _
  have hzB : wB.heap.size = w.heap.size + 2 := by rw [hwB]; simp
  have hkb : Blk wB w.heap.size 56 (ndC n (.slice A1 n.data.length c1) (.slice A2 n.ents.length c2)) := by rw [hwB]; exact (Blk.new _ _ _).alloc _
  have hkr : Blk wB (w.heap.size + 1) 82 rfZ := by rw [hwB]; have := Blk.new (w.alloc (.cells (ndC n (.slice A1 n.data.length c1) (.slice A2 n.ents.length c2)) 56)) 82 rfZ; simpa using this
  have hcv := bytes_back (hd.below hbB)
  have hcv' : ∀ W, W = wB → (convert 43 9 (.slice A1 n.data.length c1)).run Tryz.prog W = .ok (.string (bA n.data)) W := fun W h => by rw [h]; exact hcv
  have hcv2 := hcv' _ hwB.symm
  have HE := Lib.hid (he.below hbB)
  have HBB := Lib.hid hbB
  have HZB := Lib.hid hzB
  have HKB := Lib.hid hkb
  have HKR := Lib.hid hkr
  have HMS := Lib.hid (show MS wB (wB.alloc (.cells (rfC n (.slice none 0 0) (.slice none 0 0)) 82)) n (.slice none 0 0) (.slice none 0 0) [] [] from
    ⟨⟨ba _ _, World.ownsRow_nil _ _ _ _, World.ownsRow_nil _ _ _ _⟩, Blk.new _ _ _⟩)
  have HWB := Lib.hid hwB
  clear hd he hbB hzB hkb hkr hcv hcv' hwB
  unfold nodeV
  go_enter Tryz.func35, Tryz.ntmps35
  go_wp2
  rw [← HWB.out, show w.heap.size + 1 + 1 = wB.heap.size from HZB.out.symm]
  go_loopg [4] n.ents.length (fun g s4 wr => ∃ (k : Nat) (An : Option Addr) (cn : Nat) (Ak : Option Addr) (ck : Nat), s4 = .int .i64 k ∧ k ≤ n.ents.length ∧ g = n.ents.length - k ∧ MS wB wr n (.slice An k cn) (.slice Ak k ck) (nmA (nmE (n.ents.take k))) (idE (n.ents.take k)))
  case atStart => exact ⟨0, none, 0, none, 0, rfl, Nat.zero_le _, rfl, HMS.out⟩
  case round =>
    clear HMS hcv2
    obtain ⟨k, An, cn, Ak, ck, rfl, hk, rfl, hS⟩ := hrel
    have HS := Lib.hid hS
    have hkb2 := HKB.out.below hS.rows.below
    have b5 : wr.cell? ⟨w.heap.size, 5, none⟩ = some (.slice A2 n.ents.length c2) := hkb2.cell 5
    have m5 : wr.cell? ⟨wB.heap.size, 5, none⟩ = some (.slice An k cn) := hS.box.cell 5
    have hzb : wB.heap.size < wr.heap.size := hS.box.lt
    have hzw : w.heap.size < wr.heap.size := hkb2.lt
    have hzn : w.heap.size ≠ wB.heap.size := by have := HZB.out; omega
    clear hS hkb2
    by_cases hlt : k < n.ents.length
    · obtain ⟨e, hke⟩ : ∃ e, n.ents[k]? = some e := ⟨_, List.getElem?_eq_getElem hlt⟩
      obtain ⟨ad, hA, c0, d0⟩ := ents_get (HE.out.below HS.out.rows.below) hke
      subst hA
      have z0 : (ad.add (k * 2)).block < wr.heap.size := World.block_lt_of_cell? _ _ c0
      have hlt' : (k : Int) < (n.ents.length : Int) := by omega
      have HTN := Lib.hid (show nmA (nmE (n.ents.take (k + 1))) = nmA (nmE (n.ents.take k)) ++ [bA e.1] by rw [take_snoc' hke, nmA_app]; rfl)
      have HTK := Lib.hid (show idE (n.ents.take (k + 1)) = idE (n.ents.take k) ++ [e.2] by rw [take_snoc' hke, idE_app]; rfl)
      have hl1 : (nmA (nmE (n.ents.take k))).length = k := by rw [nm_len, List.length_take]; omega
      have hl2 : (idE (n.ents.take k)).length = k := by rw [idE_len, List.length_take]; omega
      have HKE := Lib.hid hke
      clear hke
      generalize nmA (nmE (n.ents.take k)) = LN at HS HTN hl1
      generalize idE (n.ents.take k) = LK at HS HTK hl2
      obtain ⟨i0, hi0, hz0, hz1, hz2⟩ := info_parts info_str
      obtain ⟨j0, hj0, hy0, hy1, hy2⟩ := info_parts info_int
      have HOWN := Lib.hid (show ((wr.alloc (.cells #[.string (bA e.1)] 9)).drew).ownsRow wB.heap.size 9 1 (.slice An k cn) k (sCells LN) by have := (HS.out.mid (.cells #[.string (bA e.1)] 9)).nm; rw [hl1] at this; exact this)
      have HNEW := Lib.hid (show ∀ (j : Nat) (u : Value), [Value.string (bA e.1)][j]? = some u → ((wr.alloc (.cells #[.string (bA e.1)] 9)).drew).cell? ((⟨wr.heap.size, 0, none⟩ : Addr).add j) = some u from
        fun j u hj => World.news_of_block (heap_alloc_new wr (.cells #[.string (bA e.1)] 9)) j u (by simpa using hj))
      have HBS := Lib.hid (show wB.heap.size ≤ ((wr.alloc (.cells #[.string (bA e.1)] 9)).drew).heap.size from (HS.out.mid (.cells #[.string (bA e.1)] 9)).below.size)
      have HL1 := Lib.hid hl1
      have HL2 := Lib.hid hl2
      clear hl1 hl2
      go_wp2
      go_region_law (refine step_append_lies _ rfl (.tmp 27) (.tmp 34) 80 rfl wB.heap.size 9 i0 _ 1 16 Tryz.underlying80 hi0 hz0 hz1 hz2 rfl (by decide) (.slice An k cn) k (sCells LN) (by simp [Act.eval]) HOWN.out ⟨wr.heap.size, 0, none⟩ 1 1 [.string (bA e.1)] (by simp [Act.eval]) rfl HNEW.out (str_one _) (by decide) (by unfold maxLen; omega) (by omega) HBS.out _ rfl ?_; intro g1 cap1 w2 ho1 hg1 hat1 hlt1; have hbx := HS.out.boxN hg1; have kk0 := hbx.cell 5; have ff0 := hbx.frozen 5; have HST := Lib.hid (HS.out.storedN (s := bA e.1) hg1 (by rw [HL1.out]; exact ho1)); clear ho1 hg1 hat1 hlt1 hbx)
      all_goals (
        with_reducible change Exit.then _ _ _ _ (w2.setCell ⟨wB.heap.size, 5, none⟩ (.slice (some ⟨g1, 0, none⟩) (k + 1) cap1))
        obtain ⟨W3, hW3⟩ : ∃ W3, W3 = w2.setCell ⟨wB.heap.size, 5, none⟩ (.slice (some ⟨g1, 0, none⟩) (k + 1) cap1) := ⟨_, rfl⟩
        rw [← hW3] at HST ⊢
        clear hW3 kk0 ff0 b5 m5 hzb hzw z0 c0 d0
        have hkb3 := HKB.out.below HST.out.rows.below
        have b5 : W3.cell? ⟨w.heap.size, 5, none⟩ = some (.slice (some ad) n.ents.length c2) := hkb3.cell 5
        have m6 : W3.cell? ⟨wB.heap.size, 6, none⟩ = some (.slice Ak k ck) := HST.out.box.cell 6
        have hzb : wB.heap.size < W3.heap.size := HST.out.box.lt
        have hzw : w.heap.size < W3.heap.size := hkb3.lt
        obtain ⟨ad3, hA3, c0, d0⟩ := ents_get (HE.out.below HST.out.rows.below) HKE.out
        injection hA3 with hA3
        subst hA3
        have z0 : (ad.add (k * 2)).block < W3.heap.size := World.block_lt_of_cell? _ _ c0
        have HOWN2 := Lib.hid (show ((W3.alloc (.cells #[.int .i64 e.2] 3)).drew).ownsRow wB.heap.size 3 1 (.slice Ak k ck) k (iCells LK) by have := (HST.out.mid (.cells #[.int .i64 e.2] 3)).kd; rw [HL2.out] at this; exact this)
        have HNEW2 := Lib.hid (show ∀ (j : Nat) (u : Value), [Value.int .i64 e.2][j]? = some u → ((W3.alloc (.cells #[.int .i64 e.2] 3)).drew).cell? ((⟨W3.heap.size, 0, none⟩ : Addr).add j) = some u from
          fun j u hj => World.news_of_block (heap_alloc_new W3 (.cells #[.int .i64 e.2] 3)) j u (by simpa using hj))
        have HBS2 := Lib.hid (show wB.heap.size ≤ ((W3.alloc (.cells #[.int .i64 e.2] 3)).drew).heap.size from (HST.out.mid (.cells #[.int .i64 e.2] 3)).below.size)
        clear hkb3 HS HOWN HNEW HBS
        go_wp2
        go_region_law (refine step_append_lies _ rfl (.tmp 38) (.tmp 45) 23 rfl wB.heap.size 3 j0 _ 1 8 Tryz.underlying23 hj0 hy0 hy1 hy2 rfl (by decide) (.slice Ak k ck) k (iCells LK) (by simp [Act.eval]) HOWN2.out ⟨W3.heap.size, 0, none⟩ 1 1 [.int .i64 e.2] (by simp [Act.eval]) rfl HNEW2.out (int_one _) (by decide) (by unfold maxLen; omega) (by omega) HBS2.out _ rfl ?_; intro g2 cap2 w4 ho2 hg2 hat2 hlt2; have hbx := HST.out.boxK hg2; have kk0 := hbx.cell 6; have ff0 := hbx.frozen 6; have HST2 := Lib.hid (HST.out.storedK (i := e.2) hg2 (by rw [HL2.out]; exact ho2)); clear ho2 hg2 hat2 hlt2 hbx)
        all_goals (
          go_wp2
          go_roundg (n.ents.length - (k + 1))
          case measure => omega
          case rel => exact ⟨k + 1, _, _, _, _, by go_num, by omega, rfl, by rw [HTN.out, HTK.out]; exact HST2.out⟩))
    · have hlt' : ¬ (k : Int) < (n.ents.length : Int) := by omega
      have hke : n.ents.take k = n.ents := List.take_of_length_le (by omega)
      rw [hke] at HS
      clear hke
      have HKR2 := Lib.hid (HKR.out.below HS.out.rows.below)
      obtain ⟨p0, p1, p2, p3, p4, p5, p6, p7⟩ := HS.out.box.c8
      obtain ⟨r0, r1, r2, r3, r4, r5, r6, r7⟩ := HKR2.out.c8
      obtain ⟨g0, g1, g2, g3, g4, g5, g6, g7⟩ := HKR2.out.f8
      obtain ⟨s0, s1, s2, s3, s4, s5, s6, s7⟩ := HKR2.out.s8
      have hzr : w.heap.size + 1 ≠ wB.heap.size := by have := HZB.out; omega
      go_wp2
      have HG8 := grown8 wr (w.heap.size + 1) (.int .i64 n.kind) (.int .i64 n.mode) (.int .i64 n.uid) (.int .i64 n.gid) (.string (bA n.data)) (.slice An k cn) (.slice Ak k ck) (.string (bA n.target))
      exact bodyPost_ret (v := refV n (.slice An k cn) (.slice Ak k ck)) (by simp [results, Tryz.results35, go_sem, refV, s0, s1, s2, s3, s4, s5, s6, s7]) rfl (modelp_end HS.out HKR2.out (bt HS.out.rows.below HBB.out) (Nat.le_succ _) HG8 HBB.out.size)
theorem model11_at {W : World} (n : Nd) (vd ve : Value) (hd : BytesR W vd n.data) (he : EntsR W ve n.ents) (hf : Few n) : Calls Tryz.prog 35 #[.agg (ndC n vd ve)] W fun e w' => ∃ A c A' c', e = .returned (.agg (rfC n (.slice A n.ents.length c) (.slice A' n.ents.length c'))) ∧ StrsR w' (.slice A n.ents.length c) (nmA (nmE n.ents)) ∧ IntsR w' (.slice A' n.ents.length c') (idE n.ents) ∧ LP (fun b => W.heap.size ≤ b ∧ b < w'.heap.size) (.slice A n.ents.length c) ∧ LP (fun b => W.heap.size ≤ b ∧ b < w'.heap.size) (.slice A' n.ents.length c') ∧ Below W.heap.size W w' := by
  refine (model11_any n vd ve W hd he hf.ents).mono ?_
  rintro e w' ⟨v, rfl, ⟨vn, vk, rfl, hn, hk, hp, hq⟩, hb⟩
  obtain ⟨A, c, rfl⟩ := strs_form hn (nm_len _)
  obtain ⟨A', c', rfl⟩ := ints_form hk (idE_len _)
  exact ⟨A, c, A', c', rfl, hn, hk, hp, hq, hb⟩
theorem get_at11 {g : Nat} {T : List Nd} {P : Nat → Prop} {W : World} (h : TabR W g T P) (i : Int) : Calls Tryz.prog 21 #[.pointer (some ⟨g, 0, none⟩), .int .i64 i] W fun e w' => ∃ vd ve, e = .returned (.tuple #[nodeV (tget T i) vd ve, .bool (tis T i)]) ∧ BytesT w' vd (tget T i).data ∧ EntsT w' ve (tget T i).ents ∧ Below W.heap.size W w' := by
  refine (get_any _ T i W h.ptr).mono ?_
  rintro e w' ⟨vd, ve, rfl, h1, h2, -, -, hb⟩
  exact ⟨vd, ve, rfl, h1, h2, hb⟩
/-- The next node is laid, in a world behind the model's; B: where new blocks begin. -/
theorem with_next11 {P : Nat → Prop} {W1 : World} {v : Value} {C : List Nd} {B k L : Nat} {n : Nd} {vn vk : Value} (h : NsR P W1 v C) (hP : ∀ x, B ≤ x → P x) (hB : B ≤ W1.heap.size) (hl : C.length = L) (hL : L ≤ 24) (hk : k < L) (hN : StrsR W1 vn (nmA (nmE n.ents))) (hK : IntsR W1 vk (idE n.ents)) (hp : LP (fun x => B ≤ x ∧ x < W1.heap.size) vn) (hq : LP (fun x => B ≤ x ∧ x < W1.heap.size) vk) :
    Calls Tryz.prog 32 #[.agg #[v], .int .i64 ((k : Int) + 1), .agg (rfC n vn vk)] W1 fun e w' => ∃ g' c', e = .returned (.agg #[.slice (some ⟨g', 0, none⟩) L c']) ∧ NsR P w' (.slice (some ⟨g', 0, none⟩) L c') (setT C ((k : Int) + 1) n) ∧ Below W1.heap.size W1 w' := by
  refine (rwith_any v C k n vn vk W1 W1 h (Below.refl _ _) (by omega) (by omega) hN hK (hp.mono (fun x hx => ⟨hP x hx.1, hx.2⟩)) (hq.mono (fun x hx => ⟨hP x hx.1, hx.2⟩))).mono ?_
  rintro e w' ⟨v', rfl, hn, hb⟩
  have hns := hn.ns hb (fun x hx => hP x (Nat.le_trans hB hx))
  obtain ⟨g', c', rfl⟩ := ns_form hns
  rw [len_setT, hl] at hns ⊢
  exact ⟨g', c', rfl, hns, hb⟩
/-- A table, and the reference's in a box, with the result's. -/
structure TT (w W : World) (g b r : Nat) (T : List Nd) (v : Value) (C : List Nd) : Prop where
  tt : TabR W g T (fun _ => True)
  ns : NsR (fun x => w.heap.size < x ∧ x ≠ b ∧ x ≠ r) W v C
  box : Blk W b 32 #[v]
  res : Blk W r 32 #[.slice none 0 0]
  below : Below w.heap.size w W
  hb : w.heap.size ≤ b
  hr : w.heap.size ≤ r
  ne : b ≠ r
section
variable {w W W' : World} {g b r : Nat} {T C C' : List Nd} {v v' : Value}
theorem TT.later (h : TT w W g b r T v C) (hb : Below W.heap.size W W') : TT w W' g b r T v C :=
  ⟨h.tt.below hb, h.ns.below hb, h.box.below hb, h.res.below hb, bt hb h.below, h.hb, h.hr, h.ne⟩
theorem TT.above (h : TT w W g b r T v C) : ∀ x, W.heap.size ≤ x → w.heap.size < x ∧ x ≠ b ∧ x ≠ r := fun x hx => by
  have h1 := h.box.lt
  have h2 := h.res.lt
  have h3 := h.hb
  exact ⟨by omega, by omega, by omega⟩
theorem TT.boxed (h : TT w W g b r T v C) (hn : NsR (fun x => w.heap.size < x ∧ x ≠ b ∧ x ≠ r) W v' C') : TT w (W.setCell ⟨b, 0, none⟩ v') g b r T v' C' := by
  obtain ⟨cs, hk, -⟩ := h.tt.blk
  exact ⟨h.tt.kind (grown_setCell W ⟨b, 0, none⟩ v') (blk_ne hk h.box (by decide)) h.box (by decide) (by decide), hn.other (grown_setCell W ⟨b, 0, none⟩ v') (fun x hx => hx.2.1), h.box.set_ 0 v', h.res.kept (grown_setCell W ⟨b, 0, none⟩ v') (by intro e; injection e with e; exact h.ne e.symm), below_grown h.below (grown_setCell W ⟨b, 0, none⟩ v') h.hb, h.hb, h.hr, h.ne⟩
end
/-- Where there is no node the table is as it was. -/
theorem upT_skip {t : List Nd} {k : Nat} {n : Nd} (h : t[k]? = some n) (hn : n = Nd.zero) : upT t k = upT t (k + 1) := by
  rw [← upT_set h, hn]
  have hk : k < t.length := (List.getElem?_eq_some_iff.1 h).1
  apply List.ext_getElem?
  intro m
  rw [List.getElem?_set]
  split
  · rename_i hm
    subst hm
    rw [if_pos (by rw [len_upT (by omega)]; exact hk)]
    unfold upT
    rw [List.getElem?_append_right (by rw [List.length_take]; omega), List.getElem?_replicate, if_pos (by rw [List.length_take]; omega)]
  · rfl
set_option maxHeartbeats 16000000 in
/-- A table as the model has it, in memory of its own. -/
theorem tree11_any (g : Nat) (T : List Nd) (w : World) (h : TabR w g T (fun _ => True)) :
    Calls Tryz.prog 11 #[.pointer (some ⟨g, 0, none⟩)] w fun e w' => ∃ g' c', e = .returned (.agg #[.slice (some ⟨g', 0, none⟩) T.length c']) ∧ NsR (fun x => w.heap.size < x) w' (.slice (some ⟨g', 0, none⟩) T.length c') T ∧ Below w.heap.size w w' := by
  have HT := Lib.hid h
  have HLO := Lib.hid h.lo
  have HHI := Lib.hid h.hi
  have hb0 := ba w (.cells #[.slice none 0 0] 32)
  have HB0 := Lib.hid hb0
  have HR0 := Lib.hid (Blk.new w 32 #[.slice none 0 0])
  obtain ⟨r, hr⟩ : ∃ r, w.heap.size = r := ⟨_, rfl⟩
  have HRS := Lib.hid hr
  obtain ⟨W1, hW1⟩ : ∃ W1, w.alloc (.cells #[.slice none 0 0] 32) = W1 := ⟨_, rfl⟩
  rw [hW1] at HB0 HR0
  clear h hb0
  go_enter Tryz.func11, Tryz.ntmps11
  go_wp2_with fail
  clear hW1
  refine (room_any _ T W1 (HT.out.below HB0.out).ptr).mono ?_
  rintro e w1 ⟨rfl, rfl⟩
  go_wp2_with fail
  refine (rnew_any (T.length : Int) W1).mono ?_
  rintro e w2 ⟨v1, rfl, hn2, hb2, hz2⟩
  have hns := hn2 (fun x => w.heap.size < x ∧ x ≠ w2.heap.size ∧ x ≠ r) ⟨by have := HR0.out.lt; have := HRS.out; omega, by omega, by have := HR0.out.lt; have := HRS.out; omega⟩
  have hnl : newL (T.length : Int) = T.length := by have h1 := HLO.out; have h2 := HHI.out; unfold newL; rw [if_neg (by omega), if_neg (by omega)]; omega
  rw [hnl] at hns
  have hbl := ba w2 (.cells #[v1] 32)
  have HTT := Lib.hid (show TT w (w2.alloc (.cells #[v1] 32)) g w2.heap.size r T v1 (List.replicate T.length Nd.zero) from
    ⟨((HT.out.below HB0.out).below hb2).below hbl, hns.below hbl, Blk.new _ _ _, by rw [← HRS.out]; exact (HR0.out.below hb2).below hbl, bt hbl (bt hb2 HB0.out), (bt hb2 HB0.out).size, by have := HRS.out; omega, by have := HR0.out.lt; have := HRS.out; have := hb2.size; omega⟩)
  obtain ⟨g1, k1, rfl⟩ := ns_form hns
  rw [List.length_replicate] at HTT ⊢
  obtain ⟨b, hb⟩ : ∃ b, w2.heap.size = b := ⟨_, rfl⟩
  rw [hb] at HTT
  rw [← upT_zero T] at HTT
  clear hn2 hb2 hz2 hns hbl HT HR0 HB0 hnl
  go_wp2
  clear hb
  go_loopg [4] T.length (fun gh s4 wr => ∃ k g1 k1 : Nat, s4 = .int .i64 ((k : Int) + 1) ∧ k ≤ T.length ∧ gh = T.length - k ∧ TT w wr g b r T (.slice (some ⟨g1, 0, none⟩) T.length k1) (upT T k))
  case atStart => exact ⟨0, g1, k1, by rfl, Nat.zero_le _, rfl, HTT.out⟩
  case round =>
    clear HTT
    obtain ⟨k, g1, k1, rfl, hk, rfl, hs⟩ := hrel
    have HQ := Lib.hid hs
    clear hs
    go_wp2_with fail
    refine (room_any _ T wr HQ.out.tt.ptr).mono ?_
    rintro e w9 ⟨rfl, rfl⟩
    have hT24 : T.length ≤ 24 := HHI.out
    by_cases hlt : k < T.length
    · have hlt' : (k : Int) + 1 ≤ (T.length : Int) := by omega
      obtain ⟨n9, hn9⟩ : ∃ n, T[k]? = some n := ⟨_, List.getElem?_eq_getElem hlt⟩
      have hn9t : tget T ((k : Int) + 1) = n9 := by rw [tget_at hlt]; exact (List.getElem?_eq_some_iff.1 hn9).2
      have HTF := Lib.hid (ok_few HQ.out.tt.ok ((k : Int) + 1))
      have HGT := Lib.hid (get_at11 HQ.out.tt ((k : Int) + 1))
      have HST := Lib.hid (show setT (upT T k) ((k : Int) + 1) (tget T ((k : Int) + 1)) = upT T (k + 1) from by rw [setT_at, hn9t]; exact upT_set hn9)
      have HSK := Lib.hid (show tis T ((k : Int) + 1) = false → upT T k = upT T (k + 1) from fun h => upT_skip hn9 (by rw [← hn9t]; exact tis_not HQ.out.tt.ok h))
      have HCL := Lib.hid (len_upT (t := T) (k := k) (by omega))
      clear hn9 hn9t
      generalize upT T k = C at HQ HST HSK HCL
      generalize tget T ((k : Int) + 1) = n at HGT HTF HST
      go_wp2_with fail
      refine HGT.out.mono ?_
      rintro e w10 ⟨vd, ve, rfl, hd10, he10, hb10⟩
      have hq10 := (HQ.out.later hb10).later (ba w10 (.cells (ndC n vd ve) 56))
      have hd11 := hd10.below (ba w10 (.cells (ndC n vd ve) 56))
      have he11 := he10.below (ba w10 (.cells (ndC n vd ve) 56))
      have hkn := Blk.new w10 56 (ndC n vd ve)
      obtain ⟨A5, k5, hv5⟩ := bytesT_form hd10
      obtain ⟨A6, k6, hv6⟩ := entsT_form he10
      subst hv5 hv6
      obtain ⟨W11, hW11⟩ : ∃ W11, w10.alloc (.cells (ndC n (.slice A5 n.data.length k5) (.slice A6 n.ents.length k6)) 56) = W11 := ⟨_, rfl⟩
      rw [hW11] at hq10 hd11 he11 hkn
      unfold nodeV
      cases hX : tis T ((k : Int) + 1)
      · have HC2 := Lib.hid (HSK.out hX)
        have HQ11 := Lib.hid hq10
        clear hX hkn hd11 he11 hd10 he10 hb10 hq10 HTF HST HSK
        go_wp2
        clear hW11
        go_roundg (T.length - (k + 1))
        case measure => omega
        case rel => exact ⟨k + 1, g1, k1, by go_num, by omega, rfl, by rw [← HC2.out]; exact HQ11.out⟩
      · clear hX HSK
        have HQ11 := Lib.hid (hq10.later (Below.refl _ _).drew)
        have HD11 := Lib.hid (show BytesR _ _ _ from (hd11.below (Below.refl _ _).drew).1)
        have HE11 := Lib.hid (show EntsR _ _ _ from (he11.below (Below.refl _ _).drew).1)
        have HMD := Lib.hid (model11_at n _ _ HD11.out HE11.out HTF.out)
        obtain ⟨p0, p1, p2, p3, p4, p5, p6⟩ := (hkn.below (Below.refl _ _).drew).c7
        have p8 : W11.drew.cell? ⟨b, 0, none⟩ = some (.slice (some ⟨g1, 0, none⟩) T.length k1) := HQ11.out.box.cell 0
        clear hkn hd11 he11 hd10 he10 hb10 hq10
        go_upto_region 7 with fail
        clear hW11
        go_region_with (first
          | (go_at_call 35; (with_reducible refine HMD.out.mono ?_); rintro e1 x1 ⟨C2, i2, D2, j2, rfl, sn2, sk2, ln2, lk2, h1⟩; have HQ12 := Lib.hid (HQ11.out.later h1); have p9 : x1.cell? ⟨b, 0, none⟩ = some (.slice (some ⟨g1, 0, none⟩) T.length k1) := HQ12.out.box.cell 0; have HSN := Lib.hid sn2; have HSI := Lib.hid sk2; have HLN := Lib.hid ln2; have HLK := Lib.hid lk2; clear sn2 sk2 ln2 lk2)
          | (go_at_call 32; (with_reducible refine (with_next11 (n := n) HQ12.out.ns (fun x hx => HQ11.out.above x hx) h1.size HCL.out hT24 hlt HSN.out HSI.out HLN.out HLK.out).mono ?_); rintro e2 x2 ⟨g2, k2, rfl, hn2, h2⟩; rw [HST.out] at hn2; have HQ13 := Lib.hid ((HQ12.out.later h2).boxed hn2); have p10 : x2.cell? ⟨b, 0, none⟩ = some (.slice (some ⟨g1, 0, none⟩) T.length k1) := (HQ12.out.later h2).box.cell 0; have p11 : x2.frozen? ⟨b, 0, none⟩ = false := (HQ12.out.later h2).box.frozen 0; clear hn2))
        all_goals (
          go_wp2
          go_roundg (T.length - (k + 1))
          case measure => omega
          case rel => exact ⟨k + 1, g2, k2, by go_num, by omega, rfl, HQ13.out⟩)
    · have hle : ¬ (k : Int) + 1 ≤ (T.length : Int) := by omega
      have HQE := Lib.hid (show TT w wr g b r T (.slice (some ⟨g1, 0, none⟩) T.length k1) T from by have h := HQ.out; rw [show k = T.length by omega, upT_all] at h; exact h)
      have p8 : wr.cell? ⟨b, 0, none⟩ = some (.slice (some ⟨g1, 0, none⟩) T.length k1) := HQ.out.box.cell 0
      have r8 : wr.cell? ⟨r, 0, none⟩ = some (.slice none 0 0) := HQ.out.res.cell 0
      have r9 : wr.frozen? ⟨r, 0, none⟩ = false := HQ.out.res.frozen 0
      have s0 : ∀ u, (wr.setCell ⟨r, 0, none⟩ u).cell? ⟨r, 0, none⟩ = some u := fun u => (HQ.out.res.set_ 0 u).cell 0
      have HG := Lib.hid (grown_setCell wr ⟨r, 0, none⟩ (.slice (some ⟨g1, 0, none⟩) T.length k1))
      have HE := Lib.hid (show ∃ g' c', Ending.returned (.agg #[.slice (some ⟨g1, 0, none⟩) T.length k1]) = .returned (.agg #[.slice (some ⟨g', 0, none⟩) T.length c']) ∧ NsR (fun x => w.heap.size < x) (wr.setCell ⟨r, 0, none⟩ (.slice (some ⟨g1, 0, none⟩) T.length k1)) (.slice (some ⟨g', 0, none⟩) T.length c') T ∧ Below w.heap.size w (wr.setCell ⟨r, 0, none⟩ (.slice (some ⟨g1, 0, none⟩) T.length k1)) from
        ⟨g1, k1, rfl, (HQE.out.ns.other HG.out (fun x hx => hx.2.2)).mono (fun x hx _ => hx.1), below_grown HQ.out.below HG.out HQ.out.hr⟩)
      go_wp2
      exact bodyPost_ret (v := .agg #[.slice (some ⟨g1, 0, none⟩) T.length k1]) (by simp [results, Tryz.results11, go_sem, s0]) rfl (by first | exact HE.out | (have h := HE.out; rw [HRS.out] at h; exact h))
end Go.Proofs.YtfopnfgfoicidaaGreat
