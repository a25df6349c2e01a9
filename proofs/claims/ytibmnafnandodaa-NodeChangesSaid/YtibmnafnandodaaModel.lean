/-
  A node as the model has it: model. The conditions: no list is longer than a thousand.
-/
import Derived.Test.YtibmnafnandodaaRefB
import Derived.Laws.IdiomStrings
namespace Go.Proofs.Ytibmnafnandodaa
open Go Go.RowKit

/-- The model's node, as it is built. -/
structure MS (wB wr : World) (n : Nd) (vn vk : Value) (ln : List ByteArray) (lk : List Int) : Prop where
  rows : RX wB wr vn vk ln lk
  box : Blk wr wB.heap.size 31 (rfC n vn vk)
section
variable {wB wr w1 : World} {n : Nd} {vn vk v' : Value} {ln : List ByteArray} {lk : List Int} {o : Obj}
theorem MS.mid (h : MS wB wr n vn vk ln lk) (o : Obj) : RX wB (wr.alloc o).drew vn vk ln lk := (h.rows.later (ba wr o)).later (Below.refl _ _).drew
theorem MS.boxN (h : MS wB wr n vn vk ln lk) (hg : (wr.alloc o).drew.grownBy w1 vn.ownBlock) : Blk w1 wB.heap.size 31 (rfC n vn vk) :=
  Blk.kept (w := (wr.alloc o).drew) (h.box.alloc o) hg (own_blk_ne h.rows.nm h.box (by decide)).symm
theorem MS.boxK (h : MS wB wr n vn vk ln lk) (hg : (wr.alloc o).drew.grownBy w1 vk.ownBlock) : Blk w1 wB.heap.size 31 (rfC n vn vk) :=
  Blk.kept (w := (wr.alloc o).drew) (h.box.alloc o) hg (own_blk_ne h.rows.kd h.box (by decide)).symm
theorem MS.storedN (h : MS wB wr n vn vk ln lk) (hg : (wr.alloc o).drew.grownBy w1 vn.ownBlock) {s : ByteArray} (ho : w1.ownsRow wB.heap.size 9 1 v' (ln.length + 1) (sCells ln ++ [.string s])) : MS wB (w1.setCell ⟨wB.heap.size, 5, none⟩ v') n v' vk (ln ++ [s]) lk := by
  obtain ⟨A, c, rfl, hx⟩ := (h.mid o).nmApp ho hg
  have hk := h.boxN hg
  have hG := grown_setCell w1 ⟨wB.heap.size, 5, none⟩ (.slice A (ln.length + 1) c)
  exact ⟨⟨hx.below.grown hG hx.below.size (fun q hq => by injection hq with hq; have h0 : wB.heap.size = q := hq; omega), hx.nm.kept hG (.inr (own_blk_ne hx.nm hk (by decide))), hx.kd.kept hG (.inr (own_blk_ne hx.kd hk (by decide)))⟩, hk.set8_5 _⟩
theorem MS.storedK (h : MS wB wr n vn vk ln lk) (hg : (wr.alloc o).drew.grownBy w1 vk.ownBlock) {i : Int} (ho : w1.ownsRow wB.heap.size 3 1 v' (lk.length + 1) (iCells lk ++ [.int .i64 i])) : MS wB (w1.setCell ⟨wB.heap.size, 6, none⟩ v') n vn v' ln (lk ++ [i]) := by
  obtain ⟨A, c, rfl, hx⟩ := (h.mid o).kdApp ho hg
  have hk := h.boxK hg
  have hG := grown_setCell w1 ⟨wB.heap.size, 6, none⟩ (.slice A (lk.length + 1) c)
  exact ⟨⟨hx.below.grown hG hx.below.size (fun q hq => by injection hq with hq; have h0 : wB.heap.size = q := hq; omega), hx.nm.kept hG (.inr (own_blk_ne hx.nm hk (by decide))), hx.kd.kept hG (.inr (own_blk_ne hx.kd hk (by decide)))⟩, hk.set8_6 _⟩
end
theorem bytes_back {w : World} {A : Option Addr} {c : Nat} {l : List UInt8} (h : BytesR w (.slice A l.length c) l) : (convert 22 9 (.slice A l.length c)).run Try.prog w = .ok (.string (bA l)) w := by
  cases A with
  | none =>
    have hl : l = [] := by
      cases l with
      | nil => rfl
      | cons b r =>
        obtain ⟨ad, hA, -⟩ := bytes_get h (show (b :: r)[0]? = some b from rfl)
        cases hA
    subst hl
    rw [run_convert_bytes_string w 22 9 5 none _ c Try.underlying22 Try.underlying5 Try.underlying9]
    rfl
  | some ad =>
    refine run_convert_bytes_back w 22 9 5 ad c l Try.underlying22 Try.underlying5 Try.underlying9 (fun j hj => ?_)
    obtain ⟨ad', hA, h0⟩ := bytes_get h (List.getElem?_eq_getElem hj)
    injection hA with hA
    subst hA
    exact h0
attribute [local go_sem] cell_off4 cell_blk4
theorem model_end {w wB wr w8 : World} {n : Nd} {vn vk : Value} {r : Nat} (hS : MS wB wr n vn vk (nmA (nmE n.ents)) (idE n.ents)) (hkr : Blk wr r 31 rfZ) (hb : Below w.heap.size w wr) (hr : w.heap.size ≤ r) (hg : wr.grownBy w8 (some r)) :
    ∃ v, Ending.returned (refV n vn vk) = .returned v ∧ NrR w8 v n ∧ Below w.heap.size w w8 :=
  ⟨_, rfl, ⟨vn, vk, rfl, StrsR.of_own (hS.rows.nm.kept hg (.inr (own_blk_ne hS.rows.nm hkr (by decide)))), IntsR.of_own (hS.rows.kd.kept hg (.inr (own_blk_ne hS.rows.kd hkr (by decide))))⟩, below_grown hb hg hr⟩
set_option maxRecDepth 100000 in
set_option maxHeartbeats 8000000 in
theorem model_any (n : Nd) (vd ve : Value) (w : World) (hd : BytesR w vd n.data) (he : EntsR w ve n.ents) (hn : n.ents.length ≤ 1000) :
    Calls Try.prog 9 #[nodeV n vd ve] w fun e w' => ∃ v, e = .returned v ∧ NrR w' v n ∧ Below w.heap.size w w' := by
  obtain ⟨A1, c1, rfl⟩ := bytes_form hd rfl
  obtain ⟨A2, c2, rfl⟩ := ents_form he rfl
  obtain ⟨wB, hwB⟩ : ∃ wB, wB = (w.alloc (.cells (ndC n (.slice A1 n.data.length c1) (.slice A2 n.ents.length c2)) 25)).alloc (.cells rfZ 31) := ⟨_, rfl⟩
  have hbB : Below w.heap.size w wB := by rw [hwB]; exact al (ba _ _) _
  have hzB : wB.heap.size = w.heap.size + 2 := by rw [hwB]; simp
  have hkb : Blk wB w.heap.size 25 (ndC n (.slice A1 n.data.length c1) (.slice A2 n.ents.length c2)) := by rw [hwB]; exact (Blk.new _ _ _).alloc _
  have hkr : Blk wB (w.heap.size + 1) 31 rfZ := by rw [hwB]; have := Blk.new (w.alloc (.cells (ndC n (.slice A1 n.data.length c1) (.slice A2 n.ents.length c2)) 25)) 31 rfZ; simpa using this
  have hcv := bytes_back (hd.below hbB)
  have hcv' : ∀ W, W = wB → (convert 22 9 (.slice A1 n.data.length c1)).run Try.prog W = .ok (.string (bA n.data)) W := fun W h => by rw [h]; exact hcv
  have hcv2 := hcv' _ hwB.symm
  have HE := Lib.hid (he.below hbB)
  have HBB := Lib.hid hbB
  have HZB := Lib.hid hzB
  have HKB := Lib.hid hkb
  have HKR := Lib.hid hkr
  have HMS := Lib.hid (show MS wB (wB.alloc (.cells (rfC n (.slice none 0 0) (.slice none 0 0)) 31)) n (.slice none 0 0) (.slice none 0 0) [] [] from
    ⟨⟨ba _ _, World.ownsRow_nil _ _ _ _, World.ownsRow_nil _ _ _ _⟩, Blk.new _ _ _⟩)
  have HWB := Lib.hid hwB
  clear hd he hbB hzB hkb hkr hcv hcv' hwB
  unfold nodeV
  go_enter Try.func9, Try.ntmps9
  go_wp2
  rw [← HWB.out, show w.heap.size + 1 + 1 = wB.heap.size from HZB.out.symm]
  go_loopg [4] n.ents.length (fun g s4 wr => ∃ (k : Nat) (An : Option Addr) (cn : Nat) (Ak : Option Addr) (ck : Nat), s4 = .int .i64 k ∧ k ≤ n.ents.length ∧ g = n.ents.length - k ∧ MS wB wr n (.slice An k cn) (.slice Ak k ck) (nmA (nmE (n.ents.take k))) (idE (n.ents.take k)))
  case atStart => exact ⟨0, none, 0, none, 0, rfl, Nat.zero_le _, rfl, HMS.out⟩
  case round =>
    clear HMS hcv2
    obtain ⟨k, An, cn, Ak, ck, rfl, hk, rfl, hS⟩ := hrel
    have HS := Lib.hid hS
    have hkb2 := HKB.out.below hS.rows.below
    have b5 : wr.cell? ⟨w.heap.size, 5, none⟩ = some (.slice A2 n.ents.length c2) := hkb2.cell 5
    have m5 : wr.cell? ⟨wB.heap.size, 5, none⟩ = some (.slice An k cn) := hS.box.cell 5
    have hzb : wB.heap.size < wr.heap.size := hS.box.lt
    have hzw : w.heap.size < wr.heap.size := hkb2.lt
    have hzn : w.heap.size ≠ wB.heap.size := by have := HZB.out; omega
    clear hS hkb2
    by_cases hlt : k < n.ents.length
    · obtain ⟨e, hke⟩ : ∃ e, n.ents[k]? = some e := ⟨_, List.getElem?_eq_getElem hlt⟩
      obtain ⟨ad, hA, c0, d0⟩ := ents_get (HE.out.below HS.out.rows.below) hke
      subst hA
      have z0 : (ad.add (k * 2)).block < wr.heap.size := World.block_lt_of_cell? _ _ c0
      have hlt' : (k : Int) < (n.ents.length : Int) := by omega
      have HTN := Lib.hid (show nmA (nmE (n.ents.take (k + 1))) = nmA (nmE (n.ents.take k)) ++ [bA e.1] by rw [take_snoc' hke, nmA_app]; rfl)
      have HTK := Lib.hid (show idE (n.ents.take (k + 1)) = idE (n.ents.take k) ++ [e.2] by rw [take_snoc' hke, idE_app]; rfl)
      have hl1 : (nmA (nmE (n.ents.take k))).length = k := by rw [nm_len, List.length_take]; omega
      have hl2 : (idE (n.ents.take k)).length = k := by rw [idE_len, List.length_take]; omega
      have HKE := Lib.hid hke
      clear hke
      generalize nmA (nmE (n.ents.take k)) = LN at HS HTN hl1
      generalize idE (n.ents.take k) = LK at HS HTK hl2
      obtain ⟨i0, hi0, hz0, hz1, hz2⟩ := info_parts info_str
      obtain ⟨j0, hj0, hy0, hy1, hy2⟩ := info_parts info_int
      have HOWN := Lib.hid (show ((wr.alloc (.cells #[.string (bA e.1)] 9)).drew).ownsRow wB.heap.size 9 1 (.slice An k cn) k (sCells LN) by have := (HS.out.mid (.cells #[.string (bA e.1)] 9)).nm; rw [hl1] at this; exact this)
      have HNEW := Lib.hid (show ∀ (j : Nat) (u : Value), [Value.string (bA e.1)][j]? = some u → ((wr.alloc (.cells #[.string (bA e.1)] 9)).drew).cell? ((⟨wr.heap.size, 0, none⟩ : Addr).add j) = some u from
        fun j u hj => World.news_of_block (heap_alloc_new wr (.cells #[.string (bA e.1)] 9)) j u (by simpa using hj))
      have HBS := Lib.hid (show wB.heap.size ≤ ((wr.alloc (.cells #[.string (bA e.1)] 9)).drew).heap.size from (HS.out.mid (.cells #[.string (bA e.1)] 9)).below.size)
      have HL1 := Lib.hid hl1
      have HL2 := Lib.hid hl2
      clear hl1 hl2
      go_wp2
      go_region_law (refine step_append_lies _ rfl (.tmp 27) (.tmp 34) 28 rfl wB.heap.size 9 i0 _ 1 16 Try.underlying28 hi0 hz0 hz1 hz2 rfl (by decide) (.slice An k cn) k (sCells LN) (by simp [Act.eval]) HOWN.out ⟨wr.heap.size, 0, none⟩ 1 1 [.string (bA e.1)] (by simp [Act.eval]) rfl HNEW.out (str_one _) (by decide) (by unfold maxLen; omega) (by omega) HBS.out _ rfl ?_; intro g1 cap1 w2 ho1 hg1 hat1 hlt1; have hbx := HS.out.boxN hg1; have kk0 := hbx.cell 5; have ff0 := hbx.frozen 5; have HST := Lib.hid (HS.out.storedN (s := bA e.1) hg1 (by rw [HL1.out]; exact ho1)); clear ho1 hg1 hat1 hlt1 hbx)
      all_goals (
        with_reducible change Exit.then _ _ _ _ (w2.setCell ⟨wB.heap.size, 5, none⟩ (.slice (some ⟨g1, 0, none⟩) (k + 1) cap1))
        obtain ⟨W3, hW3⟩ : ∃ W3, W3 = w2.setCell ⟨wB.heap.size, 5, none⟩ (.slice (some ⟨g1, 0, none⟩) (k + 1) cap1) := ⟨_, rfl⟩
        rw [← hW3] at HST ⊢
        clear hW3 kk0 ff0 b5 m5 hzb hzw z0 c0 d0
        have hkb3 := HKB.out.below HST.out.rows.below
        have b5 : W3.cell? ⟨w.heap.size, 5, none⟩ = some (.slice (some ad) n.ents.length c2) := hkb3.cell 5
        have m6 : W3.cell? ⟨wB.heap.size, 6, none⟩ = some (.slice Ak k ck) := HST.out.box.cell 6
        have hzb : wB.heap.size < W3.heap.size := HST.out.box.lt
        have hzw : w.heap.size < W3.heap.size := hkb3.lt
        obtain ⟨ad3, hA3, c0, d0⟩ := ents_get (HE.out.below HST.out.rows.below) HKE.out
        injection hA3 with hA3
        subst hA3
        have z0 : (ad.add (k * 2)).block < W3.heap.size := World.block_lt_of_cell? _ _ c0
        have HOWN2 := Lib.hid (show ((W3.alloc (.cells #[.int .i64 e.2] 3)).drew).ownsRow wB.heap.size 3 1 (.slice Ak k ck) k (iCells LK) by have := (HST.out.mid (.cells #[.int .i64 e.2] 3)).kd; rw [HL2.out] at this; exact this)
        have HNEW2 := Lib.hid (show ∀ (j : Nat) (u : Value), [Value.int .i64 e.2][j]? = some u → ((W3.alloc (.cells #[.int .i64 e.2] 3)).drew).cell? ((⟨W3.heap.size, 0, none⟩ : Addr).add j) = some u from
          fun j u hj => World.news_of_block (heap_alloc_new W3 (.cells #[.int .i64 e.2] 3)) j u (by simpa using hj))
        have HBS2 := Lib.hid (show wB.heap.size ≤ ((W3.alloc (.cells #[.int .i64 e.2] 3)).drew).heap.size from (HST.out.mid (.cells #[.int .i64 e.2] 3)).below.size)
        clear hkb3 HS HOWN HNEW HBS
        go_wp2
        go_region_law (refine step_append_lies _ rfl (.tmp 38) (.tmp 45) 29 rfl wB.heap.size 3 j0 _ 1 8 Try.underlying29 hj0 hy0 hy1 hy2 rfl (by decide) (.slice Ak k ck) k (iCells LK) (by simp [Act.eval]) HOWN2.out ⟨W3.heap.size, 0, none⟩ 1 1 [.int .i64 e.2] (by simp [Act.eval]) rfl HNEW2.out (int_one _) (by decide) (by unfold maxLen; omega) (by omega) HBS2.out _ rfl ?_; intro g2 cap2 w4 ho2 hg2 hat2 hlt2; have hbx := HST.out.boxK hg2; have kk0 := hbx.cell 6; have ff0 := hbx.frozen 6; have HST2 := Lib.hid (HST.out.storedK (i := e.2) hg2 (by rw [HL2.out]; exact ho2)); clear ho2 hg2 hat2 hlt2 hbx)
        all_goals (
          go_wp2
          go_roundg (n.ents.length - (k + 1))
          case measure => omega
          case rel => exact ⟨k + 1, _, _, _, _, by go_num, by omega, rfl, by rw [HTN.out, HTK.out]; exact HST2.out⟩))
    · have hlt' : ¬ (k : Int) < (n.ents.length : Int) := by omega
      have hke : n.ents.take k = n.ents := List.take_of_length_le (by omega)
      rw [hke] at HS
      clear hke
      have HKR2 := Lib.hid (HKR.out.below HS.out.rows.below)
      obtain ⟨p0, p1, p2, p3, p4, p5, p6, p7⟩ := HS.out.box.c8
      obtain ⟨r0, r1, r2, r3, r4, r5, r6, r7⟩ := HKR2.out.c8
      obtain ⟨g0, g1, g2, g3, g4, g5, g6, g7⟩ := HKR2.out.f8
      obtain ⟨s0, s1, s2, s3, s4, s5, s6, s7⟩ := HKR2.out.s8
      have hzr : w.heap.size + 1 ≠ wB.heap.size := by have := HZB.out; omega
      go_wp2
      have HG8 := grown8 wr (w.heap.size + 1) (.int .i64 n.kind) (.int .i64 n.mode) (.int .i64 n.uid) (.int .i64 n.gid) (.string (bA n.data)) (.slice An k cn) (.slice Ak k ck) (.string (bA n.target))
      exact bodyPost_ret (v := refV n (.slice An k cn) (.slice Ak k ck)) (by simp [results, Try.results9, go_sem, refV, s0, s1, s2, s3, s4, s5, s6, s7]) rfl (model_end HS.out HKR2.out (bt HS.out.rows.below HBB.out) (Nat.le_succ _) HG8)
end Go.Proofs.Ytibmnafnandodaa
