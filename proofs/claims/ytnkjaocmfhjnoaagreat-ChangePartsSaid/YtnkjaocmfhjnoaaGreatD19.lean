/-
  Package change: differenceOf, step by step. The conditions: the tables are such as may be. Package change: differenceOf. The condition: the tables are such as may be. Package change: alone. The conditions: tables and lists are as DfR has them. Package change: none, free, attr. The conditions: tables and lists are as DfR has them.
-/
import Derived.Test.YtnkjaocmfhjnoaaGreatD18
import Derived.Deep.AppendLies
import Derived.RegionTactic
namespace Go.Proofs.YtnkjaocmfhjnoaaGreat
open Go Go.RowKit
set_option maxRecDepth 100000

theorem fate_lt (a b : Nd) : fateN a b < 5 := by
  unfold fateN
  split
  · decide
  · split
    · decide
    · split
      · decide
      · split <;> decide
theorem idx24_len : idx24.length = 24 := by unfold idx24; simp
theorem idx24_at {k : Nat} (h : k < 24) : idx24[k]? = some ((k : Int) + 1) := by
  unfold idx24
  rw [List.getElem?_map, List.getElem?_range h]
  rfl
theorem num_snoc {t u : List Nd} {f k : Nat} (h : k < 24) : numL t u f (idx24.take (k + 1)) = numL t u f (idx24.take k) ++ if fateN (tget t ((k : Int) + 1)) (tget u ((k : Int) + 1)) = f then [(k : Int) + 1] else [] := by
  unfold numL
  rw [take_snoc' (idx24_at h), List.filter_append]
  congr 1
  split
  · rename_i q
    exact List.filter_cons_of_pos (p := fun i => toB (fateN (tget t i) (tget u i) = f)) (toB_true q)
  · rename_i q
    exact List.filter_cons_of_neg (p := fun i => toB (fateN (tget t i) (tget u i) = f)) (by rw [toB_false q]; decide)
theorem num_le (t u : List Nd) (f k : Nat) : (numL t u f (idx24.take k)).length ≤ 24 := by
  unfold numL
  refine Nat.le_trans (List.length_filter_le _ _) ?_
  rw [List.length_take, idx24_len]
  omega
noncomputable abbrev nkL (t u : List Nd) (k f : Nat) : List Int := numL t u f (idx24.take k)
structure FS (w wr : World) (g : Nat) (vb va : Value) (A : Nat → Option Addr) (C : Nat → Nat) (t u : List Nd) (k : Nat) : Prop where
  box : Blk wr g 87 (dfC vb va A C (nkL t u k) none 0 [] none 0 [])
  rows : ∀ f, f < 5 → wr.ownsRow w.heap.size 3 1 (.slice (A f) (nkL t u k f).length (C f)) (nkL t u k f).length (iCells (nkL t u k f))
  apart : ∀ f f', f < 5 → f' < 5 → f ≠ f' → ∀ a a', A f = some a → A f' = some a' → a.block ≠ a'.block
  below : Below w.heap.size w wr
  hg : w.heap.size ≤ g
section
variable {w wr w' : World} {g : Nat} {vb va : Value} {A : Nat → Option Addr} {C : Nat → Nat} {t u : List Nd} {k : Nat}
theorem FS.dfr (h : FS w wr g vb va A C t u k) (hb : TabP w vb t) (ha : TabP w va u) : DfR wr vb va A C (nkL t u k) none 0 [] none 0 [] t u :=
  ⟨hb.below h.below, ha.below h.below, fun f hf => IntsR.of_own (h.rows f hf), fun f _ => num_le t u f k, EchR.nil _, EchR.nil _, by decide, by decide⟩
theorem FS.later (h : FS w wr g vb va A C t u k) (hb : Below wr.heap.size wr w') : FS w w' g vb va A C t u k :=
  ⟨h.box.below hb, fun f hf => own_below (h.rows f hf) hb, h.apart, bt hb h.below, h.hg⟩
theorem own_addr {B n c : Nat} {A : Option Addr} {e : TypeId} {s : Nat} {xs : List Value} (h : wr.ownsRow B e s (.slice A n c) n xs) : A = none ∨ ∃ q, A = some ⟨q, 0, none⟩ ∧ (Value.slice A n c).ownBlock = some q := by
  rcases h.2 with ⟨e, -⟩ | ⟨q, cap, cur, e, -⟩
  · injection e with e
    exact .inl e
  · injection e with e
    subst e
    exact .inr ⟨q, rfl, rfl⟩
theorem FS.step (h : FS w wr g vb va A C t u k) (hk : k < 24) {F : Nat} (hF : fateN (tget t ((k : Int) + 1)) (tget u ((k : Int) + 1)) = F) (hF5 : F < 5) {g1 cap : Nat} {w2 : World}
    (ho : w2.ownsRow w.heap.size 3 1 (.slice (some ⟨g1, 0, none⟩) ((nkL t u k F).length + 1) cap) ((nkL t u k F).length + 1) (iCells (nkL t u k F) ++ [.int .i64 ((k : Int) + 1)])) (hgr : wr.grownBy w2 (Value.slice (A F) (nkL t u k F).length (C F)).ownBlock) (hat : (Value.slice (A F) (nkL t u k F).length (C F)).ownBlock = some g1 ∨ g1 = wr.heap.size) :
    FS w (w2.setCell ⟨g, 2 + F, none⟩ (.slice (some ⟨g1, 0, none⟩) ((nkL t u k F).length + 1) cap)) g vb va (fun f => if f = F then some ⟨g1, 0, none⟩ else A f) (fun f => if f = F then cap else C f) t u (k + 1) := by
  have hN : ∀ f, nkL t u (k + 1) f = if f = F then nkL t u k F ++ [(k : Int) + 1] else nkL t u k f := fun f => by
    show numL t u f (idx24.take (k + 1)) = _
    rw [num_snoc hk, hF]
    by_cases q : f = F
    · subst q
      rw [if_pos rfl, if_pos rfl]
    · rw [if_neg (fun z => q z.symm), if_neg q, List.append_nil]
  have hbx : Blk w2 g 87 (dfC vb va A C (nkL t u k) none 0 [] none 0 []) := h.box.kept hgr (fun q => by
    rcases own_addr (h.rows F hF5) with q2 | ⟨x, q2, q3⟩
    · rw [q2] at q
      cases q
    · exact own_blk_ne (h.rows F hF5) h.box (by decide) q.symm)
  have hg2 := grown_setCell w2 ⟨g, 2 + F, none⟩ (.slice (some ⟨g1, 0, none⟩) ((nkL t u k F).length + 1) cap)
  have hb2 : Below w.heap.size w w2 := h.below.grown hgr h.below.size (fun q hq => ((h.rows F hF5).lt q hq).1)
  refine ⟨?_, fun f hf => ?_, fun f f' hf hf' hne a a' hA hA' => ?_, below_grown hb2 hg2 h.hg, h.hg⟩
  · have hs := hbx.set_ (2 + F) (.slice (some ⟨g1, 0, none⟩) ((nkL t u k F).length + 1) cap)
    have h6 : F = 0 ∨ F = 1 ∨ F = 2 ∨ F = 3 ∨ F = 4 := by omega
    have hl : ((nkL t u k F).length + 1) = (nkL t u (k + 1) F).length := by rw [hN, if_pos rfl, List.length_append]; rfl
    rw [hl] at hs ⊢
    have hO : ∀ f, f ≠ F → nkL t u k f = nkL t u (k + 1) f := fun f hf => by rw [hN, if_neg hf]
    rcases h6 with rfl | rfl | rfl | rfl | rfl
    · rw [show dfC vb va A C (nkL t u k) none 0 [] none 0 [] = #[vb, va, .slice (A 0) (nkL t u k 0).length (C 0), .slice (A 1) (nkL t u k 1).length (C 1), .slice (A 2) (nkL t u k 2).length (C 2), .slice (A 3) (nkL t u k 3).length (C 3), .slice (A 4) (nkL t u k 4).length (C 4), .slice none 0 0, .slice none 0 0] from rfl, hO 1 (by decide), hO 2 (by decide), hO 3 (by decide), hO 4 (by decide)] at hs
      exact hs
    · rw [show dfC vb va A C (nkL t u k) none 0 [] none 0 [] = #[vb, va, .slice (A 0) (nkL t u k 0).length (C 0), .slice (A 1) (nkL t u k 1).length (C 1), .slice (A 2) (nkL t u k 2).length (C 2), .slice (A 3) (nkL t u k 3).length (C 3), .slice (A 4) (nkL t u k 4).length (C 4), .slice none 0 0, .slice none 0 0] from rfl, hO 0 (by decide), hO 2 (by decide), hO 3 (by decide), hO 4 (by decide)] at hs
      exact hs
    · rw [show dfC vb va A C (nkL t u k) none 0 [] none 0 [] = #[vb, va, .slice (A 0) (nkL t u k 0).length (C 0), .slice (A 1) (nkL t u k 1).length (C 1), .slice (A 2) (nkL t u k 2).length (C 2), .slice (A 3) (nkL t u k 3).length (C 3), .slice (A 4) (nkL t u k 4).length (C 4), .slice none 0 0, .slice none 0 0] from rfl, hO 0 (by decide), hO 1 (by decide), hO 3 (by decide), hO 4 (by decide)] at hs
      exact hs
    · rw [show dfC vb va A C (nkL t u k) none 0 [] none 0 [] = #[vb, va, .slice (A 0) (nkL t u k 0).length (C 0), .slice (A 1) (nkL t u k 1).length (C 1), .slice (A 2) (nkL t u k 2).length (C 2), .slice (A 3) (nkL t u k 3).length (C 3), .slice (A 4) (nkL t u k 4).length (C 4), .slice none 0 0, .slice none 0 0] from rfl, hO 0 (by decide), hO 1 (by decide), hO 2 (by decide), hO 4 (by decide)] at hs
      exact hs
    · rw [show dfC vb va A C (nkL t u k) none 0 [] none 0 [] = #[vb, va, .slice (A 0) (nkL t u k 0).length (C 0), .slice (A 1) (nkL t u k 1).length (C 1), .slice (A 2) (nkL t u k 2).length (C 2), .slice (A 3) (nkL t u k 3).length (C 3), .slice (A 4) (nkL t u k 4).length (C 4), .slice none 0 0, .slice none 0 0] from rfl, hO 0 (by decide), hO 1 (by decide), hO 2 (by decide), hO 3 (by decide)] at hs
      exact hs
  · by_cases q : f = F
    · subst q
      rw [hN f, if_pos rfl, if_pos rfl, if_pos rfl, ← iCells_snoc, List.length_append]
      exact ho.kept hg2 (.inr (own_blk_ne ho hbx (by decide)))
    · rw [hN f, if_neg q, if_neg q, if_neg q]
      have h1 := h.rows f hf
      have h2 : w2.ownsRow w.heap.size 3 1 (.slice (A f) (nkL t u k f).length (C f)) (nkL t u k f).length (iCells (nkL t u k f)) := h1.kept hgr (by
        rcases own_addr h1 with q1 | ⟨x, q1, q2⟩
        · left
          rw [q1]
          rfl
        · right
          rw [q2]
          rcases own_addr (h.rows F hF5) with q3 | ⟨y, q3, q4⟩
          · rw [q3]
            exact fun z => by cases z
          · rw [q4]
            intro z
            injection z with z
            exact h.apart f F hf hF5 q _ _ q1 q3 z)
      exact h2.kept hg2 (.inr (own_blk_ne h2 hbx (by decide)))
  · have hnew : ∀ f, f < 5 → f ≠ F → ∀ a, A f = some a → a.block ≠ g1 := fun f hf hne a hA => by
      rcases own_addr (h.rows f hf) with q1 | ⟨x, q1, q2⟩
      · rw [q1] at hA
        cases hA
      · rw [q1] at hA
        injection hA with hA
        subst hA
        rcases hat with q | q
        · rcases own_addr (h.rows F hF5) with q3 | ⟨y, q3, q4⟩
          · rw [q3] at q
            cases q
          · rw [q4] at q
            injection q with q
            subst q
            exact h.apart f F hf hF5 hne _ _ q1 q3
        · have h3 := ((h.rows f hf).lt x q2).2
          show x ≠ g1
          omega
    by_cases q : f = F
    · have q' : f' ≠ F := fun z => hne (q.trans z.symm)
      rw [if_pos q] at hA
      rw [if_neg q'] at hA'
      injection hA with hA
      subst hA
      exact fun z => hnew f' hf' q' a' hA' z.symm
    · rw [if_neg q] at hA
      by_cases q' : f' = F
      · rw [if_pos q'] at hA'
        injection hA' with hA'
        subst hA'
        exact hnew f hf q a hA
      · rw [if_neg q'] at hA'
        exact h.apart f f' hf hf' hne a a' hA hA'
end
end Go.Proofs.YtnkjaocmfhjnoaaGreat
namespace Go.Proofs.YtnkjaocmfhjnoaaGreat
open Go Go.RowKit
set_option maxRecDepth 100000

attribute [local go_sem] cell_off4 cell_blk4
abbrev dfZ (vb va : Value) : Array Value := #[vb, va, .slice none 0 0, .slice none 0 0, .slice none 0 0, .slice none 0 0, .slice none 0 0, .slice none 0 0, .slice none 0 0]
def DfP (w : World) (vb va : Value) (t u : List Nd) (e : Ending) (w' : World) : Prop :=
  ∃ (A : Nat → Option Addr) (C : Nat → Nat) (A5 : Option Addr) (c5 : Nat) (A6 : Option Addr) (c6 : Nat), e = .returned (dfV vb va A C (nkL t u 24) A5 c5 (justL t u (nkL t u 24 3)) A6 c6 (justL u t (nkL t u 24 3))) ∧ DfR w' vb va A C (nkL t u 24) A5 c5 (justL t u (nkL t u 24 3)) A6 c6 (justL u t (nkL t u 24 3)) t u ∧ Below w.heap.size w w'
set_option maxHeartbeats 16000000 in
theorem differenceOf_any (pb pa : Option Addr) (t u : List Nd) (w : World) (hb : TabP w (.pointer pb) t) (ha : TabP w (.pointer pa) u) :
    Calls Tryz.prog 28 #[.pointer pb, .pointer pa] w (DfP w (.pointer pb) (.pointer pa) t u) := by
  have hmf : ∀ (fn : Fn) (first cap : Array Value) (w : World), (Instr.makeFunc fn first cap).run Tryz.prog w = .ok (.func fn first cap) w := fun _ _ _ _ => rfl
  obtain ⟨i0, hi0, hz0, hz1, hz2⟩ := info_parts info_int
  have hb0 := ba w (.cells (dfZ (.pointer none) (.pointer none)) 87)
  have hkr := Blk.new w 87 (dfZ (.pointer none) (.pointer none))
  obtain ⟨W1, hW1⟩ : ∃ W, w.alloc (.cells (dfZ (.pointer none) (.pointer none)) 87) = W := ⟨_, rfl⟩
  rw [hW1] at hb0 hkr
  have hz : W1.heap.size = w.heap.size + 1 := by rw [← hW1]; simp
  have HTB := Lib.hid (hb.below hb0)
  have HTA := Lib.hid (ha.below hb0)
  have HTB0 := Lib.hid hb
  have HTA0 := Lib.hid ha
  have HB0 := Lib.hid hb0
  have HKR := Lib.hid hkr
  have HZ1 := Lib.hid hz
  obtain ⟨g, hg⟩ : ∃ g, W1.heap.size = g := ⟨_, rfl⟩
  have HGZ := Lib.hid hg
  have HFS := Lib.hid (show FS W1 (W1.alloc (.cells (dfZ (.pointer pb) (.pointer pa)) 87)) g (.pointer pb) (.pointer pa) (fun _ => none) (fun _ => 0) t u 0 from
    ⟨by rw [← hg]; exact Blk.new W1 _ _, fun f _ => World.ownsRow_nil _ _ _ _, fun f f' _ _ _ a a' q _ => (by cases q), ba _ _, by omega⟩)
  have hgs : w.heap.size + 1 = g := by omega
  clear hb ha hb0 hkr hz
  go_enter Tryz.func28, Tryz.ntmps28
  go_wp2
  clear hgs
  obtain ⟨W2, hW2⟩ : ∃ W, W1.alloc (.cells (dfZ (.pointer pb) (.pointer pa)) 87) = W := ⟨_, rfl⟩
  rw [hW2] at HFS ⊢
  clear hW2 hg
  go_loopg [12] 24 (fun gh s12 wr => ∃ (k : Nat) (A : Nat → Option Addr) (C : Nat → Nat), s12 = .int .i64 k ∧ k ≤ 24 ∧ gh = 24 - k ∧ FS W1 wr g (.pointer pb) (.pointer pa) A C t u k)
  case atStart => exact ⟨0, _, _, rfl, Nat.zero_le _, rfl, HFS.out⟩
  case round =>
    clear HFS
    obtain ⟨k, A, C, rfl, hk, rfl, hs⟩ := hrel
    have HS := Lib.hid hs
    clear hs
    by_cases hlt : k < 24
    · have hlt' : (k : Int) < 24 := by omega
      obtain ⟨x0, x1, x2, x3, x4, x5, x6, x7, x8⟩ := HS.out.box.c9
      have HFT := fateOf_any ((k : Int) + 1) wr (HS.out.dfr HTB.out HTA.out)
      have HST := Lib.hid (fun F hF hF5 g1 cap wx w2 ho hgr hat hbx => @FS.step W1 wx g (.pointer pb) (.pointer pa) A C t u k (HS.out.later hbx) hlt F hF hF5 g1 cap w2 ho hgr hat)
      have h5 := fate_lt (tget t ((k : Int) + 1)) (tget u ((k : Int) + 1))
      obtain ⟨F, hF⟩ : ∃ F, fateN (tget t ((k : Int) + 1)) (tget u ((k : Int) + 1)) = F := ⟨_, rfl⟩
      rw [hF] at HFT h5
      have HF := Lib.hid hF
      have h6 : F = 0 ∨ F = 1 ∨ F = 2 ∨ F = 3 ∨ F = 4 := by omega
      clear h5 hF
      rcases h6 with rfl | rfl | rfl | rfl | rfl
      · rw [show ((0 : Nat) : Int) = 0 from rfl] at HFT
        have HFD := Lib.hid HFT
        have hn24 : (nkL t u k 0).length ≤ 24 := num_le t u 0 k
        clear HFT
        go_wp2_with fail
        refine HFD.out.mono ?_
        rintro e w3 ⟨rfl, hb3⟩
        have HS3 := Lib.hid (HS.out.later hb3)
        have HBX := Lib.hid (bt (ba w3 (.cells #[.int .i64 ((k : Int) + 1)] 3)) (Below.refl w3.heap.size w3))
        have HS4 := Lib.hid (HS3.out.later HBX.out)
        have HB4 := Lib.hid (bt HBX.out hb3)
        have HNEW := Lib.hid (show ∀ (j : Nat) (u : Value), [Value.int .i64 ((k : Int) + 1)][j]? = some u → (w3.alloc (.cells #[.int .i64 ((k : Int) + 1)] 3)).cell? ((⟨w3.heap.size, 0, none⟩ : Addr).add j) = some u from
          fun j u hj => World.news_of_block (heap_alloc_new w3 (.cells #[.int .i64 ((k : Int) + 1)] 3)) j u (by simpa using hj))
        have y0 : w3.cell? ⟨g, 2, none⟩ = some (.slice (A 0) (nkL t u k 0).length (C 0)) := HS3.out.box.cell 2
        clear hb3 x0 x1 x2 x3 x4 x5 x6 x7 x8
        go_wp2_with (at_builtin; refine wpList_append_lies _ rfl (.tmp 23) (.tmp 26) 28 rfl W1.heap.size 3 i0 _ 1 8 Tryz.underlying28 hi0 hz0 hz1 hz2 rfl (by decide) (.slice (A 0) (nkL t u k 0).length (C 0)) (nkL t u k 0).length (iCells (nkL t u k 0)) rfl (HS4.out.rows 0 (by decide)) ⟨w3.heap.size, 0, none⟩ 1 1 [.int .i64 ((k : Int) + 1)] rfl rfl HNEW.out (int_one _) (by decide) (by unfold maxLen; omega) (by omega) HS4.out.below.size _ rfl ?_; intro g1 cap1 w5 ho1 hg1 hat1 hlt1; have hbx5 := HS4.out.box.kept hg1 (fun q => own_blk_ne (HS4.out.rows 0 (by decide)) HS4.out.box (by decide) q.symm); have kk0 := hbx5.cell 2; have ff0 := hbx5.frozen 2; have HS5 := Lib.hid (HST.out 0 HF.out (by decide) g1 cap1 _ w5 ho1 hg1 hat1 HB4.out); clear ho1 hg1 hat1 hlt1 hbx5; simp at kk0)
        go_roundg (24 - (k + 1))
        case measure => omega
        case rel => exact ⟨k + 1, _, _, by go_num, by omega, rfl, HS5.out⟩
      · rw [show ((1 : Nat) : Int) = 1 from rfl] at HFT
        have HFD := Lib.hid HFT
        have hn24 : (nkL t u k 1).length ≤ 24 := num_le t u 1 k
        clear HFT
        go_wp2_with fail
        refine HFD.out.mono ?_
        rintro e w3 ⟨rfl, hb3⟩
        have HS3 := Lib.hid (HS.out.later hb3)
        have HBX := Lib.hid (bt (ba w3 (.cells #[.int .i64 ((k : Int) + 1)] 3)) (Below.refl w3.heap.size w3))
        have HS4 := Lib.hid (HS3.out.later HBX.out)
        have HB4 := Lib.hid (bt HBX.out hb3)
        have HNEW := Lib.hid (show ∀ (j : Nat) (u : Value), [Value.int .i64 ((k : Int) + 1)][j]? = some u → (w3.alloc (.cells #[.int .i64 ((k : Int) + 1)] 3)).cell? ((⟨w3.heap.size, 0, none⟩ : Addr).add j) = some u from
          fun j u hj => World.news_of_block (heap_alloc_new w3 (.cells #[.int .i64 ((k : Int) + 1)] 3)) j u (by simpa using hj))
        have y1 : w3.cell? ⟨g, 3, none⟩ = some (.slice (A 1) (nkL t u k 1).length (C 1)) := HS3.out.box.cell 3
        clear hb3 x0 x1 x2 x3 x4 x5 x6 x7 x8
        go_wp2_with (at_builtin; refine wpList_append_lies _ rfl (.tmp 23) (.tmp 26) 28 rfl W1.heap.size 3 i0 _ 1 8 Tryz.underlying28 hi0 hz0 hz1 hz2 rfl (by decide) (.slice (A 1) (nkL t u k 1).length (C 1)) (nkL t u k 1).length (iCells (nkL t u k 1)) rfl (HS4.out.rows 1 (by decide)) ⟨w3.heap.size, 0, none⟩ 1 1 [.int .i64 ((k : Int) + 1)] rfl rfl HNEW.out (int_one _) (by decide) (by unfold maxLen; omega) (by omega) HS4.out.below.size _ rfl ?_; intro g1 cap1 w5 ho1 hg1 hat1 hlt1; have hbx5 := HS4.out.box.kept hg1 (fun q => own_blk_ne (HS4.out.rows 1 (by decide)) HS4.out.box (by decide) q.symm); have kk0 := hbx5.cell 3; have ff0 := hbx5.frozen 3; have HS5 := Lib.hid (HST.out 1 HF.out (by decide) g1 cap1 _ w5 ho1 hg1 hat1 HB4.out); clear ho1 hg1 hat1 hlt1 hbx5; simp at kk0)
        go_roundg (24 - (k + 1))
        case measure => omega
        case rel => exact ⟨k + 1, _, _, by go_num, by omega, rfl, HS5.out⟩
      · rw [show ((2 : Nat) : Int) = 2 from rfl] at HFT
        have HFD := Lib.hid HFT
        have hn24 : (nkL t u k 2).length ≤ 24 := num_le t u 2 k
        clear HFT
        go_wp2_with fail
        refine HFD.out.mono ?_
        rintro e w3 ⟨rfl, hb3⟩
        have HS3 := Lib.hid (HS.out.later hb3)
        have HBX := Lib.hid (bt (ba w3 (.cells #[.int .i64 ((k : Int) + 1)] 3)) (Below.refl w3.heap.size w3))
        have HS4 := Lib.hid (HS3.out.later HBX.out)
        have HB4 := Lib.hid (bt HBX.out hb3)
        have HNEW := Lib.hid (show ∀ (j : Nat) (u : Value), [Value.int .i64 ((k : Int) + 1)][j]? = some u → (w3.alloc (.cells #[.int .i64 ((k : Int) + 1)] 3)).cell? ((⟨w3.heap.size, 0, none⟩ : Addr).add j) = some u from
          fun j u hj => World.news_of_block (heap_alloc_new w3 (.cells #[.int .i64 ((k : Int) + 1)] 3)) j u (by simpa using hj))
        have y2 : w3.cell? ⟨g, 4, none⟩ = some (.slice (A 2) (nkL t u k 2).length (C 2)) := HS3.out.box.cell 4
        clear hb3 x0 x1 x2 x3 x4 x5 x6 x7 x8
        go_wp2_with (at_builtin; refine wpList_append_lies _ rfl (.tmp 23) (.tmp 26) 28 rfl W1.heap.size 3 i0 _ 1 8 Tryz.underlying28 hi0 hz0 hz1 hz2 rfl (by decide) (.slice (A 2) (nkL t u k 2).length (C 2)) (nkL t u k 2).length (iCells (nkL t u k 2)) rfl (HS4.out.rows 2 (by decide)) ⟨w3.heap.size, 0, none⟩ 1 1 [.int .i64 ((k : Int) + 1)] rfl rfl HNEW.out (int_one _) (by decide) (by unfold maxLen; omega) (by omega) HS4.out.below.size _ rfl ?_; intro g1 cap1 w5 ho1 hg1 hat1 hlt1; have hbx5 := HS4.out.box.kept hg1 (fun q => own_blk_ne (HS4.out.rows 2 (by decide)) HS4.out.box (by decide) q.symm); have kk0 := hbx5.cell 4; have ff0 := hbx5.frozen 4; have HS5 := Lib.hid (HST.out 2 HF.out (by decide) g1 cap1 _ w5 ho1 hg1 hat1 HB4.out); clear ho1 hg1 hat1 hlt1 hbx5; simp at kk0)
        go_roundg (24 - (k + 1))
        case measure => omega
        case rel => exact ⟨k + 1, _, _, by go_num, by omega, rfl, HS5.out⟩
      · rw [show ((3 : Nat) : Int) = 3 from rfl] at HFT
        have HFD := Lib.hid HFT
        have hn24 : (nkL t u k 3).length ≤ 24 := num_le t u 3 k
        clear HFT
        go_wp2_with fail
        refine HFD.out.mono ?_
        rintro e w3 ⟨rfl, hb3⟩
        have HS3 := Lib.hid (HS.out.later hb3)
        have HBX := Lib.hid (bt (ba w3 (.cells #[.int .i64 ((k : Int) + 1)] 3)) (Below.refl w3.heap.size w3))
        have HS4 := Lib.hid (HS3.out.later HBX.out)
        have HB4 := Lib.hid (bt HBX.out hb3)
        have HNEW := Lib.hid (show ∀ (j : Nat) (u : Value), [Value.int .i64 ((k : Int) + 1)][j]? = some u → (w3.alloc (.cells #[.int .i64 ((k : Int) + 1)] 3)).cell? ((⟨w3.heap.size, 0, none⟩ : Addr).add j) = some u from
          fun j u hj => World.news_of_block (heap_alloc_new w3 (.cells #[.int .i64 ((k : Int) + 1)] 3)) j u (by simpa using hj))
        have y3 : w3.cell? ⟨g, 5, none⟩ = some (.slice (A 3) (nkL t u k 3).length (C 3)) := HS3.out.box.cell 5
        clear hb3 x0 x1 x2 x3 x4 x5 x6 x7 x8
        go_wp2_with (at_builtin; refine wpList_append_lies _ rfl (.tmp 23) (.tmp 26) 28 rfl W1.heap.size 3 i0 _ 1 8 Tryz.underlying28 hi0 hz0 hz1 hz2 rfl (by decide) (.slice (A 3) (nkL t u k 3).length (C 3)) (nkL t u k 3).length (iCells (nkL t u k 3)) rfl (HS4.out.rows 3 (by decide)) ⟨w3.heap.size, 0, none⟩ 1 1 [.int .i64 ((k : Int) + 1)] rfl rfl HNEW.out (int_one _) (by decide) (by unfold maxLen; omega) (by omega) HS4.out.below.size _ rfl ?_; intro g1 cap1 w5 ho1 hg1 hat1 hlt1; have hbx5 := HS4.out.box.kept hg1 (fun q => own_blk_ne (HS4.out.rows 3 (by decide)) HS4.out.box (by decide) q.symm); have kk0 := hbx5.cell 5; have ff0 := hbx5.frozen 5; have HS5 := Lib.hid (HST.out 3 HF.out (by decide) g1 cap1 _ w5 ho1 hg1 hat1 HB4.out); clear ho1 hg1 hat1 hlt1 hbx5; simp at kk0)
        go_roundg (24 - (k + 1))
        case measure => omega
        case rel => exact ⟨k + 1, _, _, by go_num, by omega, rfl, HS5.out⟩
      · rw [show ((4 : Nat) : Int) = 4 from rfl] at HFT
        have HFD := Lib.hid HFT
        have hn24 : (nkL t u k 4).length ≤ 24 := num_le t u 4 k
        clear HFT
        go_wp2_with fail
        refine HFD.out.mono ?_
        rintro e w3 ⟨rfl, hb3⟩
        have HS3 := Lib.hid (HS.out.later hb3)
        have HBX := Lib.hid (bt (ba w3 (.cells #[.int .i64 ((k : Int) + 1)] 3)) (Below.refl w3.heap.size w3))
        have HS4 := Lib.hid (HS3.out.later HBX.out)
        have HB4 := Lib.hid (bt HBX.out hb3)
        have HNEW := Lib.hid (show ∀ (j : Nat) (u : Value), [Value.int .i64 ((k : Int) + 1)][j]? = some u → (w3.alloc (.cells #[.int .i64 ((k : Int) + 1)] 3)).cell? ((⟨w3.heap.size, 0, none⟩ : Addr).add j) = some u from
          fun j u hj => World.news_of_block (heap_alloc_new w3 (.cells #[.int .i64 ((k : Int) + 1)] 3)) j u (by simpa using hj))
        have y4 : w3.cell? ⟨g, 6, none⟩ = some (.slice (A 4) (nkL t u k 4).length (C 4)) := HS3.out.box.cell 6
        clear hb3 x0 x1 x2 x3 x4 x5 x6 x7 x8
        go_wp2_with (at_builtin; refine wpList_append_lies _ rfl (.tmp 23) (.tmp 26) 28 rfl W1.heap.size 3 i0 _ 1 8 Tryz.underlying28 hi0 hz0 hz1 hz2 rfl (by decide) (.slice (A 4) (nkL t u k 4).length (C 4)) (nkL t u k 4).length (iCells (nkL t u k 4)) rfl (HS4.out.rows 4 (by decide)) ⟨w3.heap.size, 0, none⟩ 1 1 [.int .i64 ((k : Int) + 1)] rfl rfl HNEW.out (int_one _) (by decide) (by unfold maxLen; omega) (by omega) HS4.out.below.size _ rfl ?_; intro g1 cap1 w5 ho1 hg1 hat1 hlt1; have hbx5 := HS4.out.box.kept hg1 (fun q => own_blk_ne (HS4.out.rows 4 (by decide)) HS4.out.box (by decide) q.symm); have kk0 := hbx5.cell 6; have ff0 := hbx5.frozen 6; have HS5 := Lib.hid (HST.out 4 HF.out (by decide) g1 cap1 _ w5 ho1 hg1 hat1 HB4.out); clear ho1 hg1 hat1 hlt1 hbx5; simp at kk0)
        go_roundg (24 - (k + 1))
        case measure => omega
        case rel => exact ⟨k + 1, _, _, by go_num, by omega, rfl, HS5.out⟩
    · have hlt' : ¬ (k : Int) < 24 := by omega
      have hk24 : k = 24 := by omega
      subst hk24
      have HRW := Lib.hid (fun f hf => HS.out.rows f hf)
      have p5 : wr.cell? ⟨g, 5, none⟩ = some (.slice (A 3) (nkL t u 24 3).length (C 3)) := HS.out.box.cell 5
      have HJ1 := Lib.hid (justIn_any g (A 3) (C 3) (nkL t u 24 3) (.pointer pb) (.pointer pa) t u wr (HTB.out.below HS.out.below) (HTA.out.below HS.out.below) p5 (IntsR.of_own (HS.out.rows 3 (by decide))) (num_le t u 3 24))
      have HJ2 := Lib.hid (fun W (hw : Below wr.heap.size wr W) => justIn_any g (A 3) (C 3) (nkL t u 24 3) (.pointer pa) (.pointer pb) u t W ((HTA.out.below HS.out.below).below hw) ((HTB.out.below HS.out.below).below hw) (bc hw p5) ((IntsR.of_own (HS.out.rows 3 (by decide))).below hw) (num_le t u 3 24))
      have hl1 : (justL t u (nkL t u 24 3)).length ≤ 12 * (nkL t u 24 3).length := just_len (u := u) HTB.out.ok.1 (nkL t u 24 3)
      have hl2 : (justL u t (nkL t u 24 3)).length ≤ 12 * (nkL t u 24 3).length := just_len (u := t) HTA.out.ok.1 (nkL t u 24 3)
      have hn3 : (nkL t u 24 3).length ≤ 24 := num_le t u 3 24
      have HL := Lib.hid (show (justL t u (nkL t u 24 3)).length ≤ 1000 ∧ (justL u t (nkL t u 24 3)).length ≤ 1000 from ⟨by omega, by omega⟩)
      clear p5 hl1 hl2 hn3
      obtain ⟨lost, hlo⟩ : ∃ x, justL t u (nkL t u 24 3) = x := ⟨_, rfl⟩
      obtain ⟨won, hwo⟩ : ∃ x, justL u t (nkL t u 24 3) = x := ⟨_, rfl⟩
      rw [hlo] at HJ1 HL
      rw [hwo] at HJ2 HL
      have HLO := Lib.hid hlo
      have HWO := Lib.hid hwo
      clear hlo hwo
      go_wp2_with fail
      refine HJ1.out.mono ?_
      rintro e w3 ⟨A5, c5, rfl, ho5, hb3⟩
      have HO5 := Lib.hid ho5
      have HB3 := Lib.hid hb3
      have HJ3 := Lib.hid (HJ2.out w3 hb3)
      clear ho5 hb3 HJ1 HJ2
      go_wp2_with fail
      refine HJ3.out.mono ?_
      rintro e w4 ⟨A6, c6, rfl, ho6, hb4⟩
      have HS4 := Lib.hid ((HS.out.later HB3.out).later hb4)
      have ho5' := own_below HO5.out hb4
      have hbx := HS4.out.box
      have hkr4 := HKR.out.below HS4.out.below
      have hgr := HZ1.out
      have hgg := HGZ.out
      have f7 := hbx.frozen 7
      have f8 := hbx.frozen 8
      have p7 := hbx.cell 7
      have p8 := hbx.cell 8
      simp at p7 p8
      have hg7 := grown_setCell w4 ⟨g, 7, none⟩ (.slice A5 lost.length c5)
      have hg8 := grown_setCell (w4.setCell ⟨g, 7, none⟩ (.slice A5 lost.length c5)) ⟨g, 8, none⟩ (.slice A6 won.length c6)
      have hg78 := grown_trans hg7 hg8
      have hbx8 := (hbx.set9_7 (.slice A5 lost.length c5)).set9_8 (.slice A6 won.length c6)
      have hkr8 := hkr4.kept hg78 (some_ne (show w.heap.size ≠ g by omega))
      have HO8 := Lib.hid (And.intro (ho5'.kept hg78 (.inr (own_blk_ne ho5' hbx (by decide)))) (ho6.kept hg78 (.inr (own_blk_ne ho6 hbx (by decide)))))
      have HR8 := Lib.hid (fun f (hf : f < 5) => (HS4.out.rows f hf).kept hg78 (.inr (own_blk_ne (HS4.out.rows f hf) hbx (by decide))))
      have HB8 := Lib.hid (below_grown HS4.out.below hg78 HS4.out.hg)
      obtain ⟨W8, hW8⟩ : ∃ W, (w4.setCell ⟨g, 7, none⟩ (.slice A5 lost.length c5)).setCell ⟨g, 8, none⟩ (.slice A6 won.length c6) = W := ⟨_, rfl⟩
      rw [hW8] at HO8 HR8 HB8 hbx8 hkr8
      obtain ⟨x0, x1, x2, x3, x4, x5, x6, x7, x8⟩ := hbx8.c9
      obtain ⟨r0, r1, r2, r3, r4, r5, r6, r7, r8⟩ := hkr8.c9
      obtain ⟨q0, q1, q2, q3, q4, q5, q6, q7, q8⟩ := hkr8.f9
      obtain ⟨s0, s1, s2, s3, s4, s5, s6, s7, s8⟩ := hkr8.s9
      have HGR := Lib.hid (grown9 W8 w.heap.size (.pointer pb) (.pointer pa) (.slice (A 0) (nkL t u 24 0).length (C 0)) (.slice (A 1) (nkL t u 24 1).length (C 1)) (.slice (A 2) (nkL t u 24 2).length (C 2)) (.slice (A 3) (nkL t u 24 3).length (C 3)) (.slice (A 4) (nkL t u 24 4).length (C 4)) (.slice A5 lost.length c5) (.slice A6 won.length c6))
      have HK8 := Lib.hid hkr8
      clear ho5' ho6 hb4 hbx hkr4 hg7 hg8 hg78 hbx8 hkr8 hgr hgg HJ3
      go_wp2
      refine bodyPost_ret (v := dfV (.pointer pb) (.pointer pa) A C (nkL t u 24) A5 c5 lost A6 c6 won) (by simp [results, Tryz.results28, go_sem, s0, s1, s2, s3, s4, s5, s6, s7, s8]) rfl ?_
      unfold DfP
      rw [HLO.out, HWO.out]
      have hB := below_grown (bt HB8.out HB0.out) HGR.out (Nat.le_refl _)
      refine ⟨A, C, A5, c5, A6, c6, rfl, ⟨HTB0.out.below hB, HTA0.out.below hB, fun f hf => ?_, fun f _ => num_le t u f 24, ?_, ?_, HL.out.1, HL.out.2⟩, hB⟩
      · exact IntsR.of_own ((HR8.out f hf).kept HGR.out (.inr (own_blk_ne (HR8.out f hf) HK8.out (by decide))))
      · exact EchR.of_own (HO8.out.1.kept HGR.out (.inr (own_blk_ne HO8.out.1 HK8.out (by decide))))
      · exact EchR.of_own (HO8.out.2.kept HGR.out (.inr (own_blk_ne HO8.out.2 HK8.out (by decide))))
end Go.Proofs.YtnkjaocmfhjnoaaGreat
namespace Go.Proofs.YtnkjaocmfhjnoaaGreat
open Go Go.RowKit
set_option maxRecDepth 100000

attribute [local go_sem] cell_off4 cell_blk4
section
variable {w : World} {vb va : Value} {A : Nat → Option Addr} {C : Nat → Nat} {N : Nat → List Int} {A5 : Option Addr} {c5 : Nat} {lost : List Ech} {A6 : Option Addr} {c6 : Nat} {won : List Ech} {t u : List Nd}
theorem ints_lit (W : World) (l : List Int) : IntsR (W.alloc (.cells (iCells l).toArray 3)) (.slice (some ⟨W.heap.size, 0, none⟩) l.length l.length) l := by
  refine ⟨_, _, rfl, fun k n hk => ⟨_, rfl, ?_⟩⟩
  rw [add_lit, (Blk.new W 3 (iCells l).toArray).cell k, List.getElem?_toArray]
  exact iCells_at l k n hk
theorem tget_zero (t : List Nd) : tget t 0 = Nd.zero := tget_out (by omega)
set_option maxHeartbeats 8000000 in
theorem alone_any (w : World) (h : DfR w vb va A C N A5 c5 lost A6 c6 won t u) :
    Calls Tryz.prog 59 #[dfV vb va A C N A5 c5 lost A6 c6 won] w fun e w' => ∃ B1 k1 B2 k2 B3 k3 B4 k4, e = .returned (.tuple #[.int .i64 (alI (N 1) (N 2) (N 3) (N 4)), .agg (ndC (tget t (alI (N 1) (N 2) (N 3) (N 4))) (.slice B1 (tget t (alI (N 1) (N 2) (N 3) (N 4))).data.length k1) (.slice B2 (tget t (alI (N 1) (N 2) (N 3) (N 4))).ents.length k2)), .agg (ndC (tget u (alI (N 1) (N 2) (N 3) (N 4))) (.slice B3 (tget u (alI (N 1) (N 2) (N 3) (N 4))).data.length k3) (.slice B4 (tget u (alI (N 1) (N 2) (N 3) (N 4))).ents.length k4))]) ∧
      BytesT w' (.slice B1 (tget t (alI (N 1) (N 2) (N 3) (N 4))).data.length k1) (tget t (alI (N 1) (N 2) (N 3) (N 4))).data ∧ EntsT w' (.slice B2 (tget t (alI (N 1) (N 2) (N 3) (N 4))).ents.length k2) (tget t (alI (N 1) (N 2) (N 3) (N 4))).ents ∧ BytesT w' (.slice B3 (tget u (alI (N 1) (N 2) (N 3) (N 4))).data.length k3) (tget u (alI (N 1) (N 2) (N 3) (N 4))).data ∧ EntsT w' (.slice B4 (tget u (alI (N 1) (N 2) (N 3) (N 4))).ents.length k4) (tget u (alI (N 1) (N 2) (N 3) (N 4))).ents ∧ Below w.heap.size w w' := by
  obtain ⟨W1, hW1⟩ : ∃ W, ((w.alloc (.cells (dfC vb va A C N A5 c5 lost A6 c6 won) 87)).alloc (.cells ndZ 65)).alloc (.cells ndZ 65) = W := ⟨_, rfl⟩
  have hb1 : Below w.heap.size w W1 := by rw [← hW1]; exact al (al (ba _ _) _) _
  have hk1 : Blk W1 w.heap.size 87 (dfC vb va A C N A5 c5 lost A6 c6 won) := by rw [← hW1]; exact ((Blk.new _ _ _).alloc _).alloc _
  obtain ⟨z3, hz3⟩ : ∃ z, w.heap.size + 1 = z := ⟨_, rfl⟩
  obtain ⟨z4, hz4⟩ : ∃ z, z3 + 1 = z := ⟨_, rfl⟩
  have hk3 : Blk W1 z3 65 ndZ := by
    have h1 := (Blk.new (w.alloc (.cells (dfC vb va A C N A5 c5 lost A6 c6 won) 87)) 65 ndZ).alloc (.cells ndZ 65)
    rw [← hW1, ← hz3]
    simpa using h1
  have hk4 : Blk W1 z4 65 ndZ := by
    have h1 := Blk.new ((w.alloc (.cells (dfC vb va A C N A5 c5 lost A6 c6 won) 87)).alloc (.cells ndZ 65)) 65 ndZ
    rw [← hW1, ← hz4, ← hz3]
    simpa using h1
  have h34 : z3 ≠ z4 := by omega
  have HN34 := Lib.hid h34
  have HZ1 := Lib.hid (show w.heap.size + 1 = z3 from hz3)
  have HZ1 := Lib.hid (show w.heap.size + 1 = z3 from hz3)
  have HZ1 := Lib.hid (show w.heap.size + 1 = z3 from hz3)
  have HZ := Lib.hid (show w.heap.size ≤ z3 ∧ w.heap.size ≤ z4 from ⟨by omega, by omega⟩)
  have HD := Lib.hid (h.below hb1)
  have HB := Lib.hid hb1
  have HK3 := Lib.hid hk3
  have HK4 := Lib.hid hk4
  have HO := Lib.hid (only_any 4 (.inr (.inr rfl)) W1 (h.below hb1))
  rw [show ((4 : Nat) : Int) = 4 from rfl] at HO
  obtain ⟨x0, x1, x2, x3, x4, x5, x6, x7, x8⟩ := hk1.c9
  have HK1 := Lib.hid hk1
  have HNO := Lib.hid (fun W (hw : Below W1.heap.size W1 W) => nothing_any (C := C) (A := A) (N := N) (vb := vb) (va := va) (A5 := A5) (c5 := c5) (lost := lost) (A6 := A6) (c6 := c6) (won := won) [1, 2, 3] (by decide) (.slice (some ⟨W.heap.size, 0, none⟩) 3 3) (W.alloc (.cells (iCells [1, 2, 3]).toArray 3)) (ints_lit W [1, 2, 3]) (by decide))
  by_cases h0 : onlyI (N 4) = 0 ∨ ¬ (N 1 = [] ∧ N 2 = [] ∧ N 3 = [])
  · have HI := alI_zero (f := N 1) (g := N 2) (e := N 3) h0
    rw [HI, tget_zero, tget_zero]
    by_cases h00 : onlyI (N 4) = 0
    · rw [h00] at HO
      clear h hb1 hk1 hk3 hk4 h0 HI h00 HNO
      go_enter Tryz.func59, Tryz.ntmps59
      go_wp2_with fail
      clear hW1 hz3 hz4
      refine HO.out.mono ?_
      rintro e wz ⟨rfl, hb2⟩
      clear x0 x1 x2 x3 x4 x5 x6 x7 x8
      have hk3' := HK3.out.below hb2
      have hk4' := HK4.out.below hb2
      have hB2 := bt hb2 HB.out
      obtain ⟨p0, p1, p2, p3, p4, p5, p6⟩ := hk3'.c7
      obtain ⟨f0, f1, f2, f3, f4, f5, f6⟩ := hk3'.f7
      obtain ⟨s0, s1, s2, s3, s4, s5, s6⟩ := hk3'.s7
      obtain ⟨q0, q1, q2, q3, q4, q5, q6⟩ := hk4'.c7
      obtain ⟨g0, g1, g2, g3, g4, g5, g6⟩ := hk4'.f7
      have hgz := grown7 wz z3 (.int .i64 0) (.int .i64 0) (.int .i64 0) (.int .i64 0) (.slice none 0 0) (.slice none 0 0) (.string ⟨#[]⟩)
      have hk4z := hk4'.kept hgz (some_ne (fun q => HN34.out q.symm))
      unfold put7 at hk4z
      obtain ⟨t0, t1, t2, t3, t4, t5, t6⟩ := hk4z.s7
      have HBZ := Lib.hid (below_grown (below_grown hB2 hgz HZ.out.1) (grown7 _ z4 (.int .i64 0) (.int .i64 0) (.int .i64 0) (.int .i64 0) (.slice none 0 0) (.slice none 0 0) (.string ⟨#[]⟩)) HZ.out.2)
      clear hk3' hk4' hB2 hgz hk4z hb2
      go_wp2
      exact bodyPost_ret (v := .tuple #[.int .i64 0, .agg ndZ, .agg ndZ]) (by simp [results, Tryz.results59, go_sem, s0, s1, s2, s3, s4, s5, s6, t0, t1, t2, t3, t4, t5, t6]) rfl ⟨none, 0, none, 0, none, 0, none, 0, rfl, BytesT.nil _, EntsT.nil _, BytesT.nil _, EntsT.nil _, HBZ.out⟩
    · have hq : [1, 2, 3].all (fun f => (N f).isEmpty) = false := by
        rw [← Bool.not_eq_true, List.all_eq_true]
        intro q
        refine h0.elim h00 (fun z => z ⟨?_, ?_, ?_⟩)
        · simpa using q 1 (by decide)
        · simpa using q 2 (by decide)
        · simpa using q 3 (by decide)
      rw [hq] at HNO
      have h1 : (onlyI (N 4) == 0) = false := by simpa using h00
      clear h hb1 hk1 hk3 hk4 h0 HI h00 hq
      generalize onlyI (N 4) = O at HO h1
      go_enter Tryz.func59, Tryz.ntmps59
      go_wp2_with fail
      clear hW1 hz3 hz4
      refine HO.out.mono ?_
      rintro e w2 ⟨rfl, hb2⟩
      have HNO2 := Lib.hid (HNO.out w2 hb2)
      have HB2 := Lib.hid hb2
      obtain ⟨x0, x1, x2, x3, x4, x5, x6, x7, x8⟩ := (HK1.out.below hb2).c9
      clear hb2 HO
      go_wp2_with fail
      refine HNO2.out.mono ?_
      rintro e wz ⟨rfl, hb3⟩
      have hb4 := bt (bt hb3 (ba w2 _)) HB2.out
      clear x0 x1 x2 x3 x4 x5 x6 x7 x8 hb3
      have hk3' := HK3.out.below hb4
      have hk4' := HK4.out.below hb4
      have hB2 := bt hb4 HB.out
      obtain ⟨p0, p1, p2, p3, p4, p5, p6⟩ := hk3'.c7
      obtain ⟨f0, f1, f2, f3, f4, f5, f6⟩ := hk3'.f7
      obtain ⟨s0, s1, s2, s3, s4, s5, s6⟩ := hk3'.s7
      obtain ⟨q0, q1, q2, q3, q4, q5, q6⟩ := hk4'.c7
      obtain ⟨g0, g1, g2, g3, g4, g5, g6⟩ := hk4'.f7
      have hgz := grown7 wz z3 (.int .i64 0) (.int .i64 0) (.int .i64 0) (.int .i64 0) (.slice none 0 0) (.slice none 0 0) (.string ⟨#[]⟩)
      have hk4z := hk4'.kept hgz (some_ne (fun q => HN34.out q.symm))
      unfold put7 at hk4z
      obtain ⟨t0, t1, t2, t3, t4, t5, t6⟩ := hk4z.s7
      have HBZ := Lib.hid (below_grown (below_grown hB2 hgz HZ.out.1) (grown7 _ z4 (.int .i64 0) (.int .i64 0) (.int .i64 0) (.int .i64 0) (.slice none 0 0) (.slice none 0 0) (.string ⟨#[]⟩)) HZ.out.2)
      clear hk3' hk4' hB2 hgz hk4z hb4
      go_wp2
      exact bodyPost_ret (v := .tuple #[.int .i64 0, .agg ndZ, .agg ndZ]) (by simp [results, Tryz.results59, go_sem, s0, s1, s2, s3, s4, s5, s6, t0, t1, t2, t3, t4, t5, t6]) rfl ⟨none, 0, none, 0, none, 0, none, 0, rfl, BytesT.nil _, EntsT.nil _, BytesT.nil _, EntsT.nil _, HBZ.out⟩
  · have h00 : ¬ onlyI (N 4) = 0 := fun q => h0 (.inl q)
    have hE : N 1 = [] ∧ N 2 = [] ∧ N 3 = [] := Classical.byContradiction (fun q => h0 (.inr q))
    have hI : alI (N 1) (N 2) (N 3) (N 4) = onlyI (N 4) := by unfold alI; rw [if_pos hE]
    rw [hI]
    have hq : [1, 2, 3].all (fun f => (N f).isEmpty) = true := by
      rw [List.all_eq_true]
      intro f hf
      simp only [List.mem_cons, List.not_mem_nil, or_false] at hf
      rcases hf with rfl | rfl | rfl
      · rw [hE.1]; rfl
      · rw [hE.2.1]; rfl
      · rw [hE.2.2]; rfl
    rw [hq] at HNO
    have h1 : (onlyI (N 4) == 0) = false := by simpa using h00
    have HGB := Lib.hid (fun W (hw : Below w.heap.size w W) => get_any vb t (onlyI (N 4)) W (h.tb.below hw))
    have HGA := Lib.hid (fun W (hw : Below w.heap.size w W) => get_any va u (onlyI (N 4)) W (h.ta.below hw))
    clear h hb1 hk1 hk3 hk4 h0 hI h00 hq hE
    generalize onlyI (N 4) = O at HO h1 HGB HGA ⊢
    generalize tis t O = X1 at HGB
    generalize tis u O = X2 at HGA
    generalize tget t O = n at HGB ⊢
    generalize tget u O = m at HGA ⊢
    unfold nodeV at HGB HGA
    go_enter Tryz.func59, Tryz.ntmps59
    go_wp2_with fail
    clear hW1 hz3 hz4
    refine HO.out.mono ?_
    rintro e w2 ⟨rfl, hb2⟩
    have HNO2 := Lib.hid (HNO.out w2 hb2)
    have HB2 := Lib.hid hb2
    obtain ⟨x0, x1, x2, x3, x4, x5, x6, x7, x8⟩ := (HK1.out.below hb2).c9
    clear hb2 HO
    go_wp2_with fail
    refine HNO2.out.mono ?_
    rintro e w3 ⟨rfl, hb3⟩
    have hb4 := bt (bt hb3 (ba w2 _)) HB2.out
    have HB4 := Lib.hid hb4
    have x0' := (HK1.out.below hb4).cell 0
    simp at x0'
    have HG1 := Lib.hid (HGB.out w3 (bt hb4 HB.out))
    clear x0 x1 x2 x3 x4 x5 x6 x7 x8 hb3 hb4 HNO HNO2 HB2 HGB
    go_wp2_with fail
    refine HG1.out.mono ?_
    rintro e w4 ⟨vd, ve, rfl, hd, he, -, -, hb5⟩
    obtain ⟨B1, k1, rfl⟩ := bytesT_form hd
    obtain ⟨B2, k2, rfl⟩ := entsT_form he
    have hb6 := bt hb5 HB4.out
    have hk3' := HK3.out.below hb6
    have hk4' := HK4.out.below hb6
    have hk1' := HK1.out.below hb6
    have hg7 := grown7 w4 z3 (.int .i64 n.kind) (.int .i64 n.mode) (.int .i64 n.uid) (.int .i64 n.gid) (.slice B1 n.data.length k1) (.slice B2 n.ents.length k2) (.string (bA n.target))
    have hk3n := hk3'.put7 (.int .i64 n.kind) (.int .i64 n.mode) (.int .i64 n.uid) (.int .i64 n.gid) (.slice B1 n.data.length k1) (.slice B2 n.ents.length k2) (.string (bA n.target))
    have hk4n := hk4'.kept hg7 (some_ne (fun q => HN34.out q.symm))
    have hk1n := hk1'.kept hg7 (some_ne (show w.heap.size ≠ z3 by have := HZ1.out; omega))
    have hd7 := hd.other hg7 (fun ad _ _ hv => by obtain ⟨cs, hk⟩ := hd.2 ad _ _ hv; exact blk_ne hk hk3' (by decide))
    have he7 := he.other hg7 (fun ad _ _ hv => by obtain ⟨cs, hk⟩ := he.2 ad _ _ hv; exact blk_ne hk hk3' (by decide))
    have hb7 := below_grown (bt hb6 HB.out) hg7 HZ.out.1
    obtain ⟨p0, p1, p2, p3, p4, p5, p6⟩ := hk3'.c7
    obtain ⟨f0, f1, f2, f3, f4, f5, f6⟩ := hk3'.f7
    clear hd he hb5 hb6 hk4' hk1' hk3' hg7 x0' HG1
    go_upto_region 5 with fail
    unfold put7 at hk3n hk4n hk1n hd7 he7 hb7
    obtain ⟨W5, hW5⟩ : ∃ W, (((((((w4.setCell ⟨z3, 0, none⟩ (.int .i64 n.kind)).setCell ⟨z3, 1, none⟩ (.int .i64 n.mode)).setCell ⟨z3, 2, none⟩ (.int .i64 n.uid)).setCell ⟨z3, 3, none⟩ (.int .i64 n.gid)).setCell ⟨z3, 4, none⟩ (.slice B1 n.data.length k1)).setCell ⟨z3, 5, none⟩ (.slice B2 n.ents.length k2)).setCell ⟨z3, 6, none⟩ (.string (bA n.target))) = W := ⟨_, rfl⟩
    rw [hW5] at hk3n hk4n hk1n hd7 he7 hb7 ⊢
    clear hW5 p0 p1 p2 p3 p4 p5 p6 f0 f1 f2 f3 f4 f5 f6
    have x1' := hk1n.cell 1
    simp at x1'
    have HG2 := Lib.hid (HGA.out W5 hb7)
    have HK3N := Lib.hid hk3n
    have HK4N := Lib.hid hk4n
    have HD7 := Lib.hid hd7
    have HE7 := Lib.hid he7
    have HB7 := Lib.hid hb7
    clear hk3n hk4n hk1n hd7 he7 hb7 HGA
    go_wp2_with fail
    refine HG2.out.mono ?_
    rintro e w6 ⟨vd, ve, rfl, hd, he, -, -, hb8⟩
    obtain ⟨B3, k3, rfl⟩ := bytesT_form hd
    obtain ⟨B4, k4, rfl⟩ := entsT_form he
    have hk3' := HK3N.out.below hb8
    have hk4' := HK4N.out.below hb8
    have hg9 := grown7 w6 z4 (.int .i64 m.kind) (.int .i64 m.mode) (.int .i64 m.uid) (.int .i64 m.gid) (.slice B3 m.data.length k3) (.slice B4 m.ents.length k4) (.string (bA m.target))
    have hk4m := hk4'.put7 (.int .i64 m.kind) (.int .i64 m.mode) (.int .i64 m.uid) (.int .i64 m.gid) (.slice B3 m.data.length k3) (.slice B4 m.ents.length k4) (.string (bA m.target))
    have hk3m := hk3'.kept hg9 (some_ne HN34.out)
    have hd8 := HD7.out.below hb8
    have he8 := HE7.out.below hb8
    have hd9 := hd.other hg9 (fun ad _ _ hv => by obtain ⟨cs, hk⟩ := hd.2 ad _ _ hv; exact blk_ne hk hk4' (by decide))
    have he9 := he.other hg9 (fun ad _ _ hv => by obtain ⟨cs, hk⟩ := he.2 ad _ _ hv; exact blk_ne hk hk4' (by decide))
    have hd10 := hd8.other hg9 (fun ad _ _ hv => by obtain ⟨cs, hk⟩ := hd8.2 ad _ _ hv; exact blk_ne hk hk4' (by decide))
    have he10 := he8.other hg9 (fun ad _ _ hv => by obtain ⟨cs, hk⟩ := he8.2 ad _ _ hv; exact blk_ne hk hk4' (by decide))
    have hb9 := below_grown (bt hb8 HB7.out) hg9 HZ.out.2
    obtain ⟨p0, p1, p2, p3, p4, p5, p6⟩ := hk4'.c7
    obtain ⟨f0, f1, f2, f3, f4, f5, f6⟩ := hk4'.f7
    clear hd he hb8 hk4' hk3' hg9 x1' HG2 hd8 he8
    go_upto_region 6 with fail
    unfold put7 at hk4m hk3m hd9 he9 hd10 he10 hb9
    obtain ⟨W7, hW7⟩ : ∃ W, (((((((w6.setCell ⟨z4, 0, none⟩ (.int .i64 m.kind)).setCell ⟨z4, 1, none⟩ (.int .i64 m.mode)).setCell ⟨z4, 2, none⟩ (.int .i64 m.uid)).setCell ⟨z4, 3, none⟩ (.int .i64 m.gid)).setCell ⟨z4, 4, none⟩ (.slice B3 m.data.length k3)).setCell ⟨z4, 5, none⟩ (.slice B4 m.ents.length k4)).setCell ⟨z4, 6, none⟩ (.string (bA m.target))) = W := ⟨_, rfl⟩
    rw [hW7] at hk4m hk3m hd9 he9 hd10 he10 hb9 ⊢
    clear hW7 p0 p1 p2 p3 p4 p5 p6 f0 f1 f2 f3 f4 f5 f6
    have HK3M := Lib.hid hk3m
    have HK4M := Lib.hid hk4m
    have HX := Lib.hid (And.intro hd10 (And.intro he10 (And.intro hd9 he9)))
    have HB9 := Lib.hid hb9
    obtain ⟨p0, p1, p2, p3, p4, p5, p6⟩ := hk3m.c7
    obtain ⟨f0, f1, f2, f3, f4, f5, f6⟩ := hk3m.f7
    obtain ⟨q0, q1, q2, q3, q4, q5, q6⟩ := hk4m.c7
    obtain ⟨g0, g1, g2, g3, g4, g5, g6⟩ := hk4m.f7
    have h43 : z4 ≠ z3 := fun q => HN34.out q.symm
    have hgA := grown7 W7 z3 (.int .i64 n.kind) (.int .i64 n.mode) (.int .i64 n.uid) (.int .i64 n.gid) (.slice B1 n.data.length k1) (.slice B2 n.ents.length k2) (.string (bA n.target))
    have hkA := hk3m.put7 (.int .i64 n.kind) (.int .i64 n.mode) (.int .i64 n.uid) (.int .i64 n.gid) (.slice B1 n.data.length k1) (.slice B2 n.ents.length k2) (.string (bA n.target))
    have hkB := hk4m.kept hgA (some_ne h43)
    have hgB := grown7 (put7 W7 z3 (.int .i64 n.kind) (.int .i64 n.mode) (.int .i64 n.uid) (.int .i64 n.gid) (.slice B1 n.data.length k1) (.slice B2 n.ents.length k2) (.string (bA n.target))) z4 (.int .i64 m.kind) (.int .i64 m.mode) (.int .i64 m.uid) (.int .i64 m.gid) (.slice B3 m.data.length k3) (.slice B4 m.ents.length k4) (.string (bA m.target))
    obtain ⟨s0, s1, s2, s3, s4, s5, s6⟩ := hk3m.s7
    have hkB' := hkB
    unfold put7 at hkB'
    obtain ⟨t0, t1, t2, t3, t4, t5, t6⟩ := hkB'.s7
    have HKA := Lib.hid (And.intro hk3m hkB)
    have HGA2 := Lib.hid (And.intro hgA hgB)
    clear hk3m hk4m hd9 he9 hd10 he10 hb9 HK3 HK4 HK1 HK3N HK4N HD7 HE7 HB7 HB4 HB HD hgA hkA hkB hgB hkB'
    go_region
    go_wp2
    refine bodyPost_ret (v := .tuple #[.int .i64 O, .agg (ndC n (.slice B1 n.data.length k1) (.slice B2 n.ents.length k2)), .agg (ndC m (.slice B3 m.data.length k3) (.slice B4 m.ents.length k4))]) (by simp [results, Tryz.results59, go_sem, s0, s1, s2, s3, s4, s5, s6, t0, t1, t2, t3, t4, t5, t6]) rfl ⟨B1, k1, B2, k2, B3, k3, B4, k4, rfl, ?_⟩
    obtain ⟨d1, e1, d2, e2⟩ := HX.out
    have key : ∀ W W' (g : Nat) (cs : Array Value), Blk W g 65 cs → W.grownBy W' (some g) → BytesT W (.slice B1 n.data.length k1) n.data ∧ EntsT W (.slice B2 n.ents.length k2) n.ents ∧ BytesT W (.slice B3 m.data.length k3) m.data ∧ EntsT W (.slice B4 m.ents.length k4) m.ents → BytesT W' (.slice B1 n.data.length k1) n.data ∧ EntsT W' (.slice B2 n.ents.length k2) n.ents ∧ BytesT W' (.slice B3 m.data.length k3) m.data ∧ EntsT W' (.slice B4 m.ents.length k4) m.ents := fun W W' g cs hk hg hx =>
      ⟨hx.1.other hg (fun ad _ _ hv => by obtain ⟨cs, hb⟩ := hx.1.2 ad _ _ hv; exact blk_ne hb hk (by decide)), hx.2.1.other hg (fun ad _ _ hv => by obtain ⟨cs, hb⟩ := hx.2.1.2 ad _ _ hv; exact blk_ne hb hk (by decide)), hx.2.2.1.other hg (fun ad _ _ hv => by obtain ⟨cs, hb⟩ := hx.2.2.1.2 ad _ _ hv; exact blk_ne hb hk (by decide)), hx.2.2.2.other hg (fun ad _ _ hv => by obtain ⟨cs, hb⟩ := hx.2.2.2.2 ad _ _ hv; exact blk_ne hb hk (by decide))⟩
    have hy := key _ _ _ _ HKA.out.2 HGA2.out.2 (key _ _ _ _ HKA.out.1 HGA2.out.1 ⟨d1, e1, d2, e2⟩)
    have hB := below_grown (below_grown HB9.out HGA2.out.1 HZ.out.1) HGA2.out.2 HZ.out.2
    exact ⟨hy.1.below (Below.refl _ _).drew, hy.2.1.below (Below.refl _ _).drew, hy.2.2.1.below (Below.refl _ _).drew, hy.2.2.2.below (Below.refl _ _).drew, hB.drew⟩
end
end Go.Proofs.YtnkjaocmfhjnoaaGreat
namespace Go.Proofs.YtnkjaocmfhjnoaaGreat
open Go Go.RowKit
set_option maxRecDepth 100000

attribute [local go_sem] cell_off4 cell_blk4
def KdA (w : World) (P : Chg × Bool) (e : Ending) (w' : World) : Prop := e = .returned (.tuple #[.agg (chC P.1), .bool P.2]) ∧ Below w.heap.size w w'
theorem grown_ch (w : World) (g : Nat) (c : Chg) : w.grownBy (put7 w g (.int .i64 c.kind) (.int .i64 c.node) (.int .i64 c.dir) (.string (bA c.name)) (.int .i64 c.to) (.string (bA c.other)) (.int .i64 c.over)) (some g) := grown7 _ _ _ _ _ _ _ _ _
theorem isE_toB {l : List Int} : l.isEmpty = toB (l = []) := by
  cases l with
  | nil => rw [toB_true rfl]; rfl
  | cons x l => rw [toB_false (by simp)]; rfl
theorem nothB4 (f g e s : List Int) (N : Nat → List Int) (h1 : N 1 = f) (h2 : N 2 = g) (h3 : N 3 = e) (h4 : N 4 = s) : nonB f g e s = [1, 2, 3, 4].all (fun f => (N f).isEmpty) := by
  unfold nonB
  simp only [List.all_cons, List.all_nil, Bool.and_true, h1, h2, h3, h4, isE_toB, toB_and]
theorem nothB3 (f e s : List Int) (N : Nat → List Int) (h1 : N 1 = f) (h3 : N 3 = e) (h4 : N 4 = s) : toB (f = [] ∧ e = [] ∧ s = []) = [1, 3, 4].all (fun f => (N f).isEmpty) := by
  simp only [List.all_cons, List.all_nil, Bool.and_true, h1, h3, h4, isE_toB, toB_and]
theorem nothB2 {a b : Nat} (N : Nat → List Int) : toB (N a = [] ∧ N b = []) = [a, b].all (fun f => (N f).isEmpty) := by
  simp only [List.all_cons, List.all_nil, Bool.and_true, isE_toB, toB_and]
section
variable {w : World} {vb va : Value} {A : Nat → Option Addr} {C : Nat → Nat} {N : Nat → List Int} {A5 : Option Addr} {c5 : Nat} {lost : List Ech} {A6 : Option Addr} {c6 : Nat} {won : List Ech} {t u : List Nd}
theorem noth_lit (fs : List Nat) (hf : ∀ f ∈ fs, f < 5) (hl : fs.length ≤ 1000) (W : World) :
    Calls Tryz.prog 58 #[dfV vb va A C N A5 c5 lost A6 c6 won, .slice (some ⟨W.heap.size, 0, none⟩) fs.length fs.length] (W.alloc (.cells (iCells (fs.map (fun (f : Nat) => (f : Int)))).toArray 3)) fun e w' => e = .returned (.bool (fs.all (fun f => (N f).isEmpty))) ∧ Below W.heap.size W w' := by
  have h1 := ints_lit W (fs.map (fun (f : Nat) => (f : Int)))
  rw [List.length_map] at h1
  refine (nothing_any fs hf _ _ h1 hl).mono ?_
  rintro e w' ⟨rfl, hb⟩
  exact ⟨rfl, bt hb (ba _ _)⟩
set_option maxHeartbeats 4000000 in
theorem none_any (w : World) (h : DfR w vb va A C N A5 c5 lost A6 c6 won t u) :
    Calls Tryz.prog 29 #[dfV vb va A C N A5 c5 lost A6 c6 won] w (KdA w (Chg.zero, nonB (N 1) (N 2) (N 3) (N 4))) := by
  obtain ⟨W1, hW1⟩ : ∃ W, (w.alloc (.cells (dfC vb va A C N A5 c5 lost A6 c6 won) 87)).alloc (.cells chZ 36) = W := ⟨_, rfl⟩
  have hb1 : Below w.heap.size w W1 := by rw [← hW1]; exact al (ba _ _) _
  have hk1 : Blk W1 w.heap.size 87 (dfC vb va A C N A5 c5 lost A6 c6 won) := by rw [← hW1]; exact (Blk.new _ _ _).alloc _
  obtain ⟨z2, hz2⟩ : ∃ z, w.heap.size + 1 = z := ⟨_, rfl⟩
  have hk2 : Blk W1 z2 36 chZ := by
    have h1 := Blk.new (w.alloc (.cells (dfC vb va A C N A5 c5 lost A6 c6 won) 87)) 36 chZ
    rw [← hW1, ← hz2]
    simpa using h1
  have HZ := Lib.hid (show w.heap.size ≤ z2 ∧ w.heap.size ≠ z2 from ⟨by omega, by omega⟩)
  have HD := Lib.hid (h.below hb1)
  have HB := Lib.hid hb1
  have HK1 := Lib.hid hk1
  have HK2 := Lib.hid hk2
  obtain ⟨x0, x1, x2, x3, x4, x5, x6, x7, x8⟩ := hk1.c9
  clear h hb1 hk1 hk2
  have HNO := Lib.hid (fun W => noth_lit (C := C) (A := A) (N := N) (vb := vb) (va := va) (A5 := A5) (c5 := c5) (lost := lost) (A6 := A6) (c6 := c6) (won := won) [1, 2, 3, 4] (by decide) (by decide) W)
  have HQ := Lib.hid (show nonB (N 1) (N 2) (N 3) (N 4) = [1, 2, 3, 4].all (fun f => (N f).isEmpty) from nothB4 _ _ _ _ _ rfl rfl rfl rfl)
  generalize [1, 2, 3, 4].all (fun f => (N f).isEmpty) = q at HNO HQ
  go_enter Tryz.func29, Tryz.ntmps29
  go_wp2_with fail
  clear hz2
  refine (HNO.out W1).mono ?_
  rintro e wz ⟨rfl, hb2⟩
  clear x0 x1 x2 x3 x4 x5 x6 x7 x8 hW1
  have hk2' := HK2.out.below hb2
  obtain ⟨p0, p1, p2, p3, p4, p5, p6⟩ := hk2'.c7
  obtain ⟨f0, f1, f2, f3, f4, f5, f6⟩ := hk2'.f7
  obtain ⟨s0, s1, s2, s3, s4, s5, s6⟩ := hk2'.s7
  have HBZ := Lib.hid (below_grown (bt hb2 HB.out) (grown7 wz z2 (.int .i64 0) (.int .i64 0) (.int .i64 0) (.string ⟨#[]⟩) (.int .i64 0) (.string ⟨#[]⟩) (.int .i64 0)) HZ.out.1)
  clear hk2' hb2
  go_wp2
  refine bodyPost_ret (v := .tuple #[.agg #[.int .i64 0, .int .i64 0, .int .i64 0, .string ⟨#[]⟩, .int .i64 0, .string ⟨#[]⟩, .int .i64 0], .bool q]) (by simp [results, Tryz.results29, go_sem, s0, s1, s2, s3, s4, s5, s6]) rfl ?_
  exact ⟨by rw [HQ.out]; rfl, HBZ.out⟩
set_option maxHeartbeats 4000000 in
theorem free_any (w : World) (h : DfR w vb va A C N A5 c5 lost A6 c6 won t u) :
    Calls Tryz.prog 33 #[dfV vb va A C N A5 c5 lost A6 c6 won] w (KdA w (Chg.n 6 (onlyI (N 2)), freB (N 1) (N 2) (N 3) (N 4))) := by
  obtain ⟨W1, hW1⟩ : ∃ W, (w.alloc (.cells (dfC vb va A C N A5 c5 lost A6 c6 won) 87)).alloc (.cells chZ 36) = W := ⟨_, rfl⟩
  have hb1 : Below w.heap.size w W1 := by rw [← hW1]; exact al (ba _ _) _
  have hk1 : Blk W1 w.heap.size 87 (dfC vb va A C N A5 c5 lost A6 c6 won) := by rw [← hW1]; exact (Blk.new _ _ _).alloc _
  obtain ⟨z2, hz2⟩ : ∃ z, w.heap.size + 1 = z := ⟨_, rfl⟩
  have hk2 : Blk W1 z2 36 chZ := by
    have h1 := Blk.new (w.alloc (.cells (dfC vb va A C N A5 c5 lost A6 c6 won) 87)) 36 chZ
    rw [← hW1, ← hz2]
    simpa using h1
  have HZ := Lib.hid (show w.heap.size ≤ z2 ∧ w.heap.size ≠ z2 from ⟨by omega, by omega⟩)
  have HD := Lib.hid (h.below hb1)
  have HB := Lib.hid hb1
  have HK1 := Lib.hid hk1
  have HK2 := Lib.hid hk2
  obtain ⟨x0, x1, x2, x3, x4, x5, x6, x7, x8⟩ := hk1.c9
  clear h hb1 hk1 hk2
  have HNO := Lib.hid (fun W => noth_lit (C := C) (A := A) (N := N) (vb := vb) (va := va) (A5 := A5) (c5 := c5) (lost := lost) (A6 := A6) (c6 := c6) (won := won) [1, 3, 4] (by decide) (by decide) W)
  have HO := Lib.hid (only_any 2 (.inr (.inl rfl)) W1 HD.out)
  rw [show ((2 : Nat) : Int) = 2 from rfl] at HO
  have HQ := Lib.hid (show freB (N 1) (N 2) (N 3) (N 4) = (onlyI (N 2) != 0 && [1, 3, 4].all (fun f => (N f).isEmpty)) from by unfold freB; rw [nothB3 _ _ _ _ rfl rfl rfl])
  generalize [1, 3, 4].all (fun f => (N f).isEmpty) = q at HNO HQ
  generalize onlyI (N 2) = O at HO HQ ⊢
  by_cases h0 : O = 0
  · have h1 : (O != 0) = false := by simpa using h0
    have HQ2 := Lib.hid (show freB (N 1) (N 2) (N 3) (N 4) = false by rw [HQ.out, h1]; rfl)
    clear h0 HNO
    go_enter Tryz.func33, Tryz.ntmps33
    go_wp2_with fail
    clear hz2 hW1
    refine HO.out.mono ?_
    rintro e wz ⟨rfl, hb2⟩
    clear x0 x1 x2 x3 x4 x5 x6 x7 x8
    have hk2' := HK2.out.below hb2
    obtain ⟨p0, p1, p2, p3, p4, p5, p6⟩ := hk2'.c7
    obtain ⟨f0, f1, f2, f3, f4, f5, f6⟩ := hk2'.f7
    obtain ⟨s0, s1, s2, s3, s4, s5, s6⟩ := hk2'.s7
    have HBZ := Lib.hid (below_grown (bt hb2 HB.out) (grown7 wz z2 (.int .i64 6) (.int .i64 O) (.int .i64 0) (.string ⟨#[]⟩) (.int .i64 0) (.string ⟨#[]⟩) (.int .i64 0)) HZ.out.1)
    clear hk2' hb2
    go_wp2
    refine bodyPost_ret (v := .tuple #[.agg #[.int .i64 6, .int .i64 O, .int .i64 0, .string ⟨#[]⟩, .int .i64 0, .string ⟨#[]⟩, .int .i64 0], .bool false]) (by simp [results, Tryz.results33, go_sem, s0, s1, s2, s3, s4, s5, s6]) rfl ?_
    exact ⟨by rw [HQ2.out]; rfl, HBZ.out⟩
  · have h1 : (O != 0) = true := by simpa using h0
    have HQ2 := Lib.hid (show freB (N 1) (N 2) (N 3) (N 4) = q by rw [HQ.out, h1]; rfl)
    clear h0
    go_enter Tryz.func33, Tryz.ntmps33
    go_wp2_with fail
    clear hz2 hW1
    refine HO.out.mono ?_
    rintro e w2 ⟨rfl, hb2⟩
    have HB2 := Lib.hid hb2
    obtain ⟨x0, x1, x2, x3, x4, x5, x6, x7, x8⟩ := (HK1.out.below hb2).c9
    clear hb2
    go_wp2_with fail
    refine (HNO.out w2).mono ?_
    rintro e wz ⟨rfl, hb3⟩
    have hb4 := bt hb3 HB2.out
    clear x0 x1 x2 x3 x4 x5 x6 x7 x8 hb3
    have hk2' := HK2.out.below hb4
    obtain ⟨p0, p1, p2, p3, p4, p5, p6⟩ := hk2'.c7
    obtain ⟨f0, f1, f2, f3, f4, f5, f6⟩ := hk2'.f7
    obtain ⟨s0, s1, s2, s3, s4, s5, s6⟩ := hk2'.s7
    have HBZ := Lib.hid (below_grown (bt hb4 HB.out) (grown7 wz z2 (.int .i64 6) (.int .i64 O) (.int .i64 0) (.string ⟨#[]⟩) (.int .i64 0) (.string ⟨#[]⟩) (.int .i64 0)) HZ.out.1)
    clear hk2' hb4
    go_wp2
    refine bodyPost_ret (v := .tuple #[.agg #[.int .i64 6, .int .i64 O, .int .i64 0, .string ⟨#[]⟩, .int .i64 0, .string ⟨#[]⟩, .int .i64 0], .bool q]) (by simp [results, Tryz.results33, go_sem, s0, s1, s2, s3, s4, s5, s6]) rfl ?_
    exact ⟨by rw [HQ2.out]; rfl, HBZ.out⟩
end
end Go.Proofs.YtnkjaocmfhjnoaaGreat
