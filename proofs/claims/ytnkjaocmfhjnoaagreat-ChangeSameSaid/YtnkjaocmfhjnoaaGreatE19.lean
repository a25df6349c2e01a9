/-
  Package change: the closure of differenceOf that gathers entries. The conditions: tables and lists are as DfR has them. Package change: differenceOf, step by step. The conditions: the tables are such as may be. Package change: differenceOf. The condition: the tables are such as may be. Package change: alone. The conditions: tables and lists are as DfR has them.
-/
import Derived.Test.YtnkjaocmfhjnoaaGreatE18
import Derived.Deep.AppendLies
import Derived.RegionTactic
namespace Go.Proofs.YtnkjaocmfhjnoaaGreat
open Go Go.RowKit
set_option maxRecDepth 100000

attribute [local go_sem] cell_off4 cell_blk4
theorem info_entry : (Tryz.prog.info? 131).map (fun i => (i.zero, i.size, i.bytes)) = some (some (.agg #[.int .i64 0, .string ⟨#[]⟩, .int .i64 0]), 3, 32) := by kernel_rfl
structure JS (w wr : World) (vl : Value) (out : List Ech) : Prop where
  own : wr.ownsRow w.heap.size 131 3 vl out.length (xCells out)
  below : Below w.heap.size w wr
theorem JS.nil (w : World) : JS w w (.slice none 0 0) [] := ⟨World.ownsRow_nil _ _ _ _, Below.refl _ _⟩
theorem JS.later {w wr w' : World} {vl : Value} {out : List Ech} (h : JS w wr vl out) (hb : Below wr.heap.size wr w') : JS w w' vl out := ⟨own_below h.own hb, bt hb h.below⟩
theorem JS.app {w wr w' : World} {vl v' : Value} {out : List Ech} (e : Ech) (h : JS w wr vl out) (ho : w'.ownsRow w.heap.size 131 3 v' (out.length + 1) (xCells out ++ [.int .i64 e.dir, .string (bA e.name), .int .i64 e.node])) (hg : wr.grownBy w' vl.ownBlock) : ∃ A c, v' = .slice A (out.length + 1) c ∧ JS w w' (.slice A (out.length + 1) c) (out ++ [e]) := by
  obtain ⟨A, c, rfl⟩ := own_slice ho
  rw [xCells_snoc] at ho
  exact ⟨A, c, rfl, by rw [List.length_append]; exact ho, h.below.grown hg h.below.size (fun q hq => (h.own.lt q hq).1)⟩
theorem just_snoc {t u : List Nd} {l : List Int} {k : Nat} {i : Int} (h : l[k]? = some i) : justL t u (l.take (k + 1)) = justL t u (l.take k) ++ lessE i (tget t i) (tget u i) := by
  unfold justL
  rw [take_snoc' h, List.flatMap_append]
  simp
theorem lessE_len (i : Int) (a b : Nd) : (lessE i a b).length ≤ a.ents.length := by
  unfold lessE
  rw [List.length_map]
  exact List.length_filter_le _ _
theorem ok_len12 {t : List Nd} (h : okT t) (i : Int) : (tget t i).ents.length ≤ 12 := by
  rcases ok_tget h i with q | q
  · rw [q]
    exact Nat.zero_le _
  · obtain ⟨-, ⟨-, q, -⟩ | ⟨-, -, -, q⟩ | ⟨-, -, q, -⟩⟩ := q
    · rw [q]
      exact Nat.zero_le _
    · have := q.2.2
      omega
    · rw [q]
      exact Nat.zero_le _
theorem ents_row {W w' : World} {B s n : Nat} {e : TypeId} {vl v : Value} {xs : List Value} {es : List En} (h : EntsT W v es) (ho : W.ownsRow B e s vl n xs) (hne : e ≠ 126) (hg : W.grownBy w' vl.ownBlock) : EntsT w' v es := by
  rcases ho.2 with ⟨rfl, -⟩ | ⟨q, cap, cur, rfl, -, hh, -⟩
  · exact h.below ((Below.refl _ _).grown hg (Nat.le_refl _) (fun q hq => by cases hq))
  · exact h.other hg (fun ad n c hv => by obtain ⟨cs, hb⟩ := h.2 ad n c hv; exact blk_ne hb hh (fun q => hne q.symm))
theorem just_len {t u : List Nd} (h : okT t) : ∀ (l : List Int), (justL t u l).length ≤ 12 * l.length
  | [] => Nat.le_refl _
  | i :: l => by
    have h1 := just_len (u := u) h l
    have h2 := lessE_len i (tget t i) (tget u i)
    have h3 := ok_len12 h i
    show ((i :: l).flatMap (fun i => lessE i (tget t i) (tget u i))).length ≤ _
    rw [List.flatMap_cons, List.length_append]
    show _ + (justL t u l).length ≤ 12 * (l.length + 1)
    omega
set_option maxHeartbeats 8000000 in
theorem justIn_any (g0 : Nat) (A3 : Option Addr) (c3 : Nat) (l : List Int) (v v' : Value) (t u : List Nd) (w : World) (h : TabP w v t) (h' : TabP w v' u) (hc : w.cell? ⟨g0, 5, none⟩ = some (.slice A3 l.length c3)) (hl : IntsR w (.slice A3 l.length c3) l) (hn : l.length ≤ 24) :
    Calls Tryz.prog 56 #[v, v', .pointer (some ⟨g0, 0, none⟩)] w fun e w' => ∃ A c, e = .returned (.slice A (justL t u l).length c) ∧ w'.ownsRow w.heap.size 131 3 (.slice A (justL t u l).length c) (justL t u l).length (xCells (justL t u l)) ∧ Below w.heap.size w w' := by
  have HT := Lib.hid h
  have HU := Lib.hid h'
  have HL := Lib.hid hl
  have HO := Lib.hid h.ok.1
  have HJ := Lib.hid (fun k => just_len (u := u) h.ok.1 (l.take k))
  clear h h' hl
  go_enter Tryz.func56, Tryz.ntmps56
  go_wp2
  clear hc
  go_loopg [6, 15] l.length (fun gh s6 s15 wr => ∃ (k : Nat) (A : Option Addr) (c : Nat) (out : List Ech), s6 = .slice A out.length c ∧ s15 = .int .i64 k ∧ k ≤ l.length ∧ gh = l.length - k ∧ out = justL t u (l.take k) ∧ JS w wr (.slice A out.length c) out)
  case atStart => exact ⟨0, none, 0, [], rfl, rfl, Nat.zero_le _, rfl, rfl, JS.nil w⟩
  case round =>
    obtain ⟨k, A, c, out, rfl, rfl, hk, rfl, ho, hs⟩ := hrel
    have HS := Lib.hid hs
    have HQ := Lib.hid ho
    have hol : out.length ≤ 12 * 24 := by
      have := HJ.out k
      rw [← ho, List.length_take] at this
      omega
    clear hs ho
    by_cases hlt : k < l.length
    · have hlt' : (k : Int) < (l.length : Int) := by omega
      obtain ⟨i, hki⟩ : ∃ i, l[k]? = some i := ⟨_, List.getElem?_eq_getElem hlt⟩
      obtain ⟨ad, rfl, c0⟩ := ints_get (HL.out.below HS.out.below) hki
      have HQ2 := Lib.hid (show justL t u (l.take (k + 1)) = out ++ lessE i (tget t i) (tget u i) by rw [just_snoc hki, HQ.out])
      have HL12 := Lib.hid (lessE_len i (tget t i) (tget u i))
      have h12 := ok_len12 HO.out i
      have HEB := Lib.hid (entsBut_any v v' t u i wr (HT.out.below HS.out.below) (HU.out.below HS.out.below))
      have HLE := Lib.hid (show lessE i (tget t i) (tget u i) = ((tget t i).ents.filter (fun e => !inE (tget u i).ents e)).map (fun e => ⟨i, e.1, e.2⟩) from rfl)
      clear hki
      generalize lessE i (tget t i) (tget u i) = le at HQ2 HLE HL12
      have hfl : ((tget t i).ents.filter (fun e => !inE (tget u i).ents e)).length ≤ 12 := Nat.le_trans (List.length_filter_le _ _) h12
      generalize (tget t i).ents.filter (fun e => !inE (tget u i).ents e) = es at HEB HLE hfl
      clear HL12 h12
      go_wp2_with fail
      refine HEB.out.mono ?_
      rintro e w2 ⟨A2, c2, rfl, he2, hb2⟩
      have HE2 := Lib.hid he2
      have HS2 := Lib.hid (HS.out.later hb2)
      have HLE2 := Lib.hid (show out ++ (es.take 0).map (fun e => (⟨i, e.1, e.2⟩ : Ech)) = out by simp)
      clear he2 hb2 c0 HS HEB
      go_wp2
      go_loopg [6, 24] es.length (fun gh s6 s24 wi => ∃ (j : Nat) (B : Option Addr) (d : Nat) (o2 : List Ech), s6 = .slice B o2.length d ∧ s24 = .int .i64 j ∧ j ≤ es.length ∧ gh = es.length - j ∧ o2 = out ++ (es.take j).map (fun e => (⟨i, e.1, e.2⟩ : Ech)) ∧ JS w wi (.slice B o2.length d) o2 ∧ EntsT wi (.slice A2 es.length c2) es)
      case atStart => exact ⟨0, A, c, out, rfl, rfl, Nat.zero_le _, rfl, HLE2.out.symm, HS2.out, HE2.out⟩
      case round =>
        clear HLE2 HS2
        obtain ⟨j, B, d, o2, rfl, rfl, hj, rfl, ho2, hs2, hbi⟩ := hrel
        have HS3 := Lib.hid hs2
        have HQ3 := Lib.hid ho2
        have HBI := Lib.hid hbi
        have hol2 : o2.length ≤ 12 * 24 + 12 := by
          rw [ho2, List.length_append, List.length_map, List.length_take]
          omega
        clear hs2 ho2 hbi
        by_cases hjl : j < es.length
        · have hjl' : (j : Int) < (es.length : Int) := by omega
          obtain ⟨e, hje⟩ : ∃ e, es[j]? = some e := ⟨_, List.getElem?_eq_getElem hjl⟩
          obtain ⟨ad2, rfl, d0, d1⟩ := ents_get HBI.out.1 hje
          have HQ4 := Lib.hid (show o2 ++ [(⟨i, e.1, e.2⟩ : Ech)] = out ++ (es.take (j + 1)).map (fun e => (⟨i, e.1, e.2⟩ : Ech)) by rw [HQ3.out, take_snoc' hje, List.map_append, List.append_assoc]; rfl)
          have HB4 := Lib.hid (fun W : World => ba W (.cells #[.string (bA e.1), .int .i64 e.2] 126))
          have HS4 := Lib.hid (HS3.out.later (HB4.out _))
          have HZ4 := Lib.hid (show (wr.alloc (.cells #[.string (bA e.1), .int .i64 e.2] 126)).heap.size = wr.heap.size + 1 by simp)
          clear hje
          go_wp2_with (at_builtin; refine wpList_append_one rfl (.tmp 28) (.tmp 32) _ rfl w.heap.size 131 _ 3 32 Tryz.underlying85 info_entry rfl (by decide) (.slice B o2.length d) o2.length (xCells o2) rfl _ [.int .i64 i, .string (bA e.1), .int .i64 e.2] rfl (ech_one ⟨i, e.1, e.2⟩) HS4.out.own (by rw [HZ4.out]; rfl) (by omega) (by omega) HS4.out.below.size ?_; intro v5 w5 ho hg; obtain ⟨A5, c5, hv5, hs5⟩ := HS4.out.app ⟨i, e.1, e.2⟩ ho hg; subst hv5; have HS5 := Lib.hid hs5; have HB5 := Lib.hid (ents_row (HBI.out.below (HB4.out _)) HS4.out.own (by decide) hg); clear ho hg hs5)
          go_roundg (es.length - (j + 1))
          case measure => omega
          case rel => exact ⟨j + 1, A5, c5, o2 ++ [⟨i, e.1, e.2⟩], by rw [List.length_append]; rfl, by go_num, by omega, rfl, HQ4.out, by rw [List.length_append]; exact HS5.out, HB5.out⟩
        · have hjl' : ¬ (j : Int) < (es.length : Int) := by omega
          have HQ5 := Lib.hid (show o2 = justL t u (l.take (k + 1)) by rw [HQ2.out, HLE.out, HQ3.out, List.take_of_length_le (by omega)])
          go_wp2
          go_roundg (l.length - (k + 1))
          case measure => omega
          case rel => exact ⟨k + 1, B, d, o2, rfl, by go_num, by omega, rfl, HQ5.out, HS3.out⟩
    · have hlt' : ¬ (k : Int) < (l.length : Int) := by omega
      have HQ6 := Lib.hid (show out = justL t u l by rw [HQ.out, List.take_of_length_le (by omega)])
      go_wp2
      go_ret
      have hq := HQ6.out
      subst hq
      exact ⟨A, c, rfl, HS.out.own, HS.out.below⟩
end Go.Proofs.YtnkjaocmfhjnoaaGreat
namespace Go.Proofs.YtnkjaocmfhjnoaaGreat
open Go Go.RowKit
set_option maxRecDepth 100000

theorem fate_lt (a b : Nd) : fateN a b < 5 := by
  unfold fateN
  split
  · decide
  · split
    · decide
    · split
      · decide
      · split <;> decide
theorem idx24_len : idx24.length = 24 := by unfold idx24; simp
theorem idx24_at {k : Nat} (h : k < 24) : idx24[k]? = some ((k : Int) + 1) := by
  unfold idx24
  rw [List.getElem?_map, List.getElem?_range h]
  rfl
theorem num_snoc {t u : List Nd} {f k : Nat} (h : k < 24) : numL t u f (idx24.take (k + 1)) = numL t u f (idx24.take k) ++ if fateN (tget t ((k : Int) + 1)) (tget u ((k : Int) + 1)) = f then [(k : Int) + 1] else [] := by
  unfold numL
  rw [take_snoc' (idx24_at h), List.filter_append]
  congr 1
  split
  · rename_i q
    exact List.filter_cons_of_pos (p := fun i => toB (fateN (tget t i) (tget u i) = f)) (toB_true q)
  · rename_i q
    exact List.filter_cons_of_neg (p := fun i => toB (fateN (tget t i) (tget u i) = f)) (by rw [toB_false q]; decide)
theorem num_le (t u : List Nd) (f k : Nat) : (numL t u f (idx24.take k)).length ≤ 24 := by
  unfold numL
  refine Nat.le_trans (List.length_filter_le _ _) ?_
  rw [List.length_take, idx24_len]
  omega
noncomputable abbrev nkL (t u : List Nd) (k f : Nat) : List Int := numL t u f (idx24.take k)
structure FS (w wr : World) (g : Nat) (vb va : Value) (A : Nat → Option Addr) (C : Nat → Nat) (t u : List Nd) (k : Nat) : Prop where
  box : Blk wr g 87 (dfC vb va A C (nkL t u k) none 0 [] none 0 [])
  rows : ∀ f, f < 5 → wr.ownsRow w.heap.size 3 1 (.slice (A f) (nkL t u k f).length (C f)) (nkL t u k f).length (iCells (nkL t u k f))
  apart : ∀ f f', f < 5 → f' < 5 → f ≠ f' → ∀ a a', A f = some a → A f' = some a' → a.block ≠ a'.block
  below : Below w.heap.size w wr
  hg : w.heap.size ≤ g
section
variable {w wr w' : World} {g : Nat} {vb va : Value} {A : Nat → Option Addr} {C : Nat → Nat} {t u : List Nd} {k : Nat}
theorem FS.dfr (h : FS w wr g vb va A C t u k) (hb : TabP w vb t) (ha : TabP w va u) : DfR wr vb va A C (nkL t u k) none 0 [] none 0 [] t u :=
  ⟨hb.below h.below, ha.below h.below, fun f hf => IntsR.of_own (h.rows f hf), fun f _ => num_le t u f k, EchR.nil _, EchR.nil _, by decide, by decide⟩
theorem FS.later (h : FS w wr g vb va A C t u k) (hb : Below wr.heap.size wr w') : FS w w' g vb va A C t u k :=
  ⟨h.box.below hb, fun f hf => own_below (h.rows f hf) hb, h.apart, bt hb h.below, h.hg⟩
theorem own_addr {B n c : Nat} {A : Option Addr} {e : TypeId} {s : Nat} {xs : List Value} (h : wr.ownsRow B e s (.slice A n c) n xs) : A = none ∨ ∃ q, A = some ⟨q, 0, none⟩ ∧ (Value.slice A n c).ownBlock = some q := by
  rcases h.2 with ⟨e, -⟩ | ⟨q, cap, cur, e, -⟩
  · injection e with e
    exact .inl e
  · injection e with e
    subst e
    exact .inr ⟨q, rfl, rfl⟩
theorem FS.step (h : FS w wr g vb va A C t u k) (hk : k < 24) {F : Nat} (hF : fateN (tget t ((k : Int) + 1)) (tget u ((k : Int) + 1)) = F) (hF5 : F < 5) {g1 cap : Nat} {w2 : World}
    (ho : w2.ownsRow w.heap.size 3 1 (.slice (some ⟨g1, 0, none⟩) ((nkL t u k F).length + 1) cap) ((nkL t u k F).length + 1) (iCells (nkL t u k F) ++ [.int .i64 ((k : Int) + 1)])) (hgr : wr.grownBy w2 (Value.slice (A F) (nkL t u k F).length (C F)).ownBlock) (hat : (Value.slice (A F) (nkL t u k F).length (C F)).ownBlock = some g1 ∨ g1 = wr.heap.size) :
    FS w (w2.setCell ⟨g, 2 + F, none⟩ (.slice (some ⟨g1, 0, none⟩) ((nkL t u k F).length + 1) cap)) g vb va (fun f => if f = F then some ⟨g1, 0, none⟩ else A f) (fun f => if f = F then cap else C f) t u (k + 1) := by
  have hN : ∀ f, nkL t u (k + 1) f = if f = F then nkL t u k F ++ [(k : Int) + 1] else nkL t u k f := fun f => by
    show numL t u f (idx24.take (k + 1)) = _
    rw [num_snoc hk, hF]
    by_cases q : f = F
    · subst q
      rw [if_pos rfl, if_pos rfl]
    · rw [if_neg (fun z => q z.symm), if_neg q, List.append_nil]
  have hbx : Blk w2 g 87 (dfC vb va A C (nkL t u k) none 0 [] none 0 []) := h.box.kept hgr (fun q => by
    rcases own_addr (h.rows F hF5) with q2 | ⟨x, q2, q3⟩
    · rw [q2] at q
      cases q
    · exact own_blk_ne (h.rows F hF5) h.box (by decide) q.symm)
  have hg2 := grown_setCell w2 ⟨g, 2 + F, none⟩ (.slice (some ⟨g1, 0, none⟩) ((nkL t u k F).length + 1) cap)
  have hb2 : Below w.heap.size w w2 := h.below.grown hgr h.below.size (fun q hq => ((h.rows F hF5).lt q hq).1)
  refine ⟨?_, fun f hf => ?_, fun f f' hf hf' hne a a' hA hA' => ?_, below_grown hb2 hg2 h.hg, h.hg⟩
  · have hs := hbx.set_ (2 + F) (.slice (some ⟨g1, 0, none⟩) ((nkL t u k F).length + 1) cap)
    have h6 : F = 0 ∨ F = 1 ∨ F = 2 ∨ F = 3 ∨ F = 4 := by omega
    have hl : ((nkL t u k F).length + 1) = (nkL t u (k + 1) F).length := by rw [hN, if_pos rfl, List.length_append]; rfl
    rw [hl] at hs ⊢
    have hO : ∀ f, f ≠ F → nkL t u k f = nkL t u (k + 1) f := fun f hf => by rw [hN, if_neg hf]
    rcases h6 with rfl | rfl | rfl | rfl | rfl
    · rw [show dfC vb va A C (nkL t u k) none 0 [] none 0 [] = #[vb, va, .slice (A 0) (nkL t u k 0).length (C 0), .slice (A 1) (nkL t u k 1).length (C 1), .slice (A 2) (nkL t u k 2).length (C 2), .slice (A 3) (nkL t u k 3).length (C 3), .slice (A 4) (nkL t u k 4).length (C 4), .slice none 0 0, .slice none 0 0] from rfl, hO 1 (by decide), hO 2 (by decide), hO 3 (by decide), hO 4 (by decide)] at hs
      exact hs
    · rw [show dfC vb va A C (nkL t u k) none 0 [] none 0 [] = #[vb, va, .slice (A 0) (nkL t u k 0).length (C 0), .slice (A 1) (nkL t u k 1).length (C 1), .slice (A 2) (nkL t u k 2).length (C 2), .slice (A 3) (nkL t u k 3).length (C 3), .slice (A 4) (nkL t u k 4).length (C 4), .slice none 0 0, .slice none 0 0] from rfl, hO 0 (by decide), hO 2 (by decide), hO 3 (by decide), hO 4 (by decide)] at hs
      exact hs
    · rw [show dfC vb va A C (nkL t u k) none 0 [] none 0 [] = #[vb, va, .slice (A 0) (nkL t u k 0).length (C 0), .slice (A 1) (nkL t u k 1).length (C 1), .slice (A 2) (nkL t u k 2).length (C 2), .slice (A 3) (nkL t u k 3).length (C 3), .slice (A 4) (nkL t u k 4).length (C 4), .slice none 0 0, .slice none 0 0] from rfl, hO 0 (by decide), hO 1 (by decide), hO 3 (by decide), hO 4 (by decide)] at hs
      exact hs
    · rw [show dfC vb va A C (nkL t u k) none 0 [] none 0 [] = #[vb, va, .slice (A 0) (nkL t u k 0).length (C 0), .slice (A 1) (nkL t u k 1).length (C 1), .slice (A 2) (nkL t u k 2).length (C 2), .slice (A 3) (nkL t u k 3).length (C 3), .slice (A 4) (nkL t u k 4).length (C 4), .slice none 0 0, .slice none 0 0] from rfl, hO 0 (by decide), hO 1 (by decide), hO 2 (by decide), hO 4 (by decide)] at hs
      exact hs
    · rw [show dfC vb va A C (nkL t u k) none 0 [] none 0 [] = #[vb, va, .slice (A 0) (nkL t u k 0).length (C 0), .slice (A 1) (nkL t u k 1).length (C 1), .slice (A 2) (nkL t u k 2).length (C 2), .slice (A 3) (nkL t u k 3).length (C 3), .slice (A 4) (nkL t u k 4).length (C 4), .slice none 0 0, .slice none 0 0] from rfl, hO 0 (by decide), hO 1 (by decide), hO 2 (by decide), hO 3 (by decide)] at hs
      exact hs
  · by_cases q : f = F
    · subst q
      rw [hN f, if_pos rfl, if_pos rfl, if_pos rfl, ← iCells_snoc, List.length_append]
      exact ho.kept hg2 (.inr (own_blk_ne ho hbx (by decide)))
    · rw [hN f, if_neg q, if_neg q, if_neg q]
      have h1 := h.rows f hf
      have h2 : w2.ownsRow w.heap.size 3 1 (.slice (A f) (nkL t u k f).length (C f)) (nkL t u k f).length (iCells (nkL t u k f)) := h1.kept hgr (by
        rcases own_addr h1 with q1 | ⟨x, q1, q2⟩
        · left
          rw [q1]
          rfl
        · right
          rw [q2]
          rcases own_addr (h.rows F hF5) with q3 | ⟨y, q3, q4⟩
          · rw [q3]
            exact fun z => by cases z
          · rw [q4]
            intro z
            injection z with z
            exact h.apart f F hf hF5 q _ _ q1 q3 z)
      exact h2.kept hg2 (.inr (own_blk_ne h2 hbx (by decide)))
  · have hnew : ∀ f, f < 5 → f ≠ F → ∀ a, A f = some a → a.block ≠ g1 := fun f hf hne a hA => by
      rcases own_addr (h.rows f hf) with q1 | ⟨x, q1, q2⟩
      · rw [q1] at hA
        cases hA
      · rw [q1] at hA
        injection hA with hA
        subst hA
        rcases hat with q | q
        · rcases own_addr (h.rows F hF5) with q3 | ⟨y, q3, q4⟩
          · rw [q3] at q
            cases q
          · rw [q4] at q
            injection q with q
            subst q
            exact h.apart f F hf hF5 hne _ _ q1 q3
        · have h3 := ((h.rows f hf).lt x q2).2
          show x ≠ g1
          omega
    by_cases q : f = F
    · have q' : f' ≠ F := fun z => hne (q.trans z.symm)
      rw [if_pos q] at hA
      rw [if_neg q'] at hA'
      injection hA with hA
      subst hA
      exact fun z => hnew f' hf' q' a' hA' z.symm
    · rw [if_neg q] at hA
      by_cases q' : f' = F
      · rw [if_pos q'] at hA'
        injection hA' with hA'
        subst hA'
        exact hnew f hf q a hA
      · rw [if_neg q'] at hA'
        exact h.apart f f' hf hf' hne a a' hA hA'
end
end Go.Proofs.YtnkjaocmfhjnoaaGreat
namespace Go.Proofs.YtnkjaocmfhjnoaaGreat
open Go Go.RowKit
set_option maxRecDepth 100000

attribute [local go_sem] cell_off4 cell_blk4
abbrev dfZ (vb va : Value) : Array Value := #[vb, va, .slice none 0 0, .slice none 0 0, .slice none 0 0, .slice none 0 0, .slice none 0 0, .slice none 0 0, .slice none 0 0]
def DfP (w : World) (vb va : Value) (t u : List Nd) (e : Ending) (w' : World) : Prop :=
  ∃ (A : Nat → Option Addr) (C : Nat → Nat) (A5 : Option Addr) (c5 : Nat) (A6 : Option Addr) (c6 : Nat), e = .returned (dfV vb va A C (nkL t u 24) A5 c5 (justL t u (nkL t u 24 3)) A6 c6 (justL u t (nkL t u 24 3))) ∧ DfR w' vb va A C (nkL t u 24) A5 c5 (justL t u (nkL t u 24 3)) A6 c6 (justL u t (nkL t u 24 3)) t u ∧ Below w.heap.size w w'
set_option maxHeartbeats 16000000 in
theorem differenceOf_any (pb pa : Option Addr) (t u : List Nd) (w : World) (hb : TabP w (.pointer pb) t) (ha : TabP w (.pointer pa) u) :
    Calls Tryz.prog 28 #[.pointer pb, .pointer pa] w (DfP w (.pointer pb) (.pointer pa) t u) := by
  have hmf : ∀ (fn : Fn) (first cap : Array Value) (w : World), (Instr.makeFunc fn first cap).run Tryz.prog w = .ok (.func fn first cap) w := fun _ _ _ _ => rfl
  obtain ⟨i0, hi0, hz0, hz1, hz2⟩ := info_parts info_int
  have hb0 := ba w (.cells (dfZ (.pointer none) (.pointer none)) 87)
  have hkr := Blk.new w 87 (dfZ (.pointer none) (.pointer none))
  obtain ⟨W1, hW1⟩ : ∃ W, w.alloc (.cells (dfZ (.pointer none) (.pointer none)) 87) = W := ⟨_, rfl⟩
  rw [hW1] at hb0 hkr
  have hz : W1.heap.size = w.heap.size + 1 := by rw [← hW1]; simp
  have HTB := Lib.hid (hb.below hb0)
  have HTA := Lib.hid (ha.below hb0)
  have HTB0 := Lib.hid hb
  have HTA0 := Lib.hid ha
  have HB0 := Lib.hid hb0
  have HKR := Lib.hid hkr
  have HZ1 := Lib.hid hz
  obtain ⟨g, hg⟩ : ∃ g, W1.heap.size = g := ⟨_, rfl⟩
  have HGZ := Lib.hid hg
  have HFS := Lib.hid (show FS W1 (W1.alloc (.cells (dfZ (.pointer pb) (.pointer pa)) 87)) g (.pointer pb) (.pointer pa) (fun _ => none) (fun _ => 0) t u 0 from
    ⟨by rw [← hg]; exact Blk.new W1 _ _, fun f _ => World.ownsRow_nil _ _ _ _, fun f f' _ _ _ a a' q _ => (by cases q), ba _ _, by omega⟩)
  have hgs : w.heap.size + 1 = g := by omega
  clear hb ha hb0 hkr hz
  go_enter Tryz.func28, Tryz.ntmps28
  go_wp2
  clear hgs
  obtain ⟨W2, hW2⟩ : ∃ W, W1.alloc (.cells (dfZ (.pointer pb) (.pointer pa)) 87) = W := ⟨_, rfl⟩
  rw [hW2] at HFS ⊢
  clear hW2 hg
  go_loopg [12] 24 (fun gh s12 wr => ∃ (k : Nat) (A : Nat → Option Addr) (C : Nat → Nat), s12 = .int .i64 k ∧ k ≤ 24 ∧ gh = 24 - k ∧ FS W1 wr g (.pointer pb) (.pointer pa) A C t u k)
  case atStart => exact ⟨0, _, _, rfl, Nat.zero_le _, rfl, HFS.out⟩
  case round =>
    clear HFS
    obtain ⟨k, A, C, rfl, hk, rfl, hs⟩ := hrel
    have HS := Lib.hid hs
    clear hs
    by_cases hlt : k < 24
    · have hlt' : (k : Int) < 24 := by omega
      obtain ⟨x0, x1, x2, x3, x4, x5, x6, x7, x8⟩ := HS.out.box.c9
      have HFT := fateOf_any ((k : Int) + 1) wr (HS.out.dfr HTB.out HTA.out)
      have HST := Lib.hid (fun F hF hF5 g1 cap wx w2 ho hgr hat hbx => @FS.step W1 wx g (.pointer pb) (.pointer pa) A C t u k (HS.out.later hbx) hlt F hF hF5 g1 cap w2 ho hgr hat)
      have h5 := fate_lt (tget t ((k : Int) + 1)) (tget u ((k : Int) + 1))
      obtain ⟨F, hF⟩ : ∃ F, fateN (tget t ((k : Int) + 1)) (tget u ((k : Int) + 1)) = F := ⟨_, rfl⟩
      rw [hF] at HFT h5
      have HF := Lib.hid hF
      have h6 : F = 0 ∨ F = 1 ∨ F = 2 ∨ F = 3 ∨ F = 4 := by omega
      clear h5 hF
      rcases h6 with rfl | rfl | rfl | rfl | rfl
      · rw [show ((0 : Nat) : Int) = 0 from rfl] at HFT
        have HFD := Lib.hid HFT
        have hn24 : (nkL t u k 0).length ≤ 24 := num_le t u 0 k
        clear HFT
        go_wp2_with fail
        refine HFD.out.mono ?_
        rintro e w3 ⟨rfl, hb3⟩
        have HS3 := Lib.hid (HS.out.later hb3)
        have HBX := Lib.hid (bt (ba w3 (.cells #[.int .i64 ((k : Int) + 1)] 3)) (Below.refl w3.heap.size w3))
        have HS4 := Lib.hid (HS3.out.later HBX.out)
        have HB4 := Lib.hid (bt HBX.out hb3)
        have HNEW := Lib.hid (show ∀ (j : Nat) (u : Value), [Value.int .i64 ((k : Int) + 1)][j]? = some u → (w3.alloc (.cells #[.int .i64 ((k : Int) + 1)] 3)).cell? ((⟨w3.heap.size, 0, none⟩ : Addr).add j) = some u from
          fun j u hj => World.news_of_block (heap_alloc_new w3 (.cells #[.int .i64 ((k : Int) + 1)] 3)) j u (by simpa using hj))
        have y0 : w3.cell? ⟨g, 2, none⟩ = some (.slice (A 0) (nkL t u k 0).length (C 0)) := HS3.out.box.cell 2
        clear hb3 x0 x1 x2 x3 x4 x5 x6 x7 x8
        go_wp2_with (at_builtin; refine wpList_append_lies _ rfl (.tmp 23) (.tmp 26) 28 rfl W1.heap.size 3 i0 _ 1 8 Tryz.underlying28 hi0 hz0 hz1 hz2 rfl (by decide) (.slice (A 0) (nkL t u k 0).length (C 0)) (nkL t u k 0).length (iCells (nkL t u k 0)) rfl (HS4.out.rows 0 (by decide)) ⟨w3.heap.size, 0, none⟩ 1 1 [.int .i64 ((k : Int) + 1)] rfl rfl HNEW.out (int_one _) (by decide) (by unfold maxLen; omega) (by omega) HS4.out.below.size _ rfl ?_; intro g1 cap1 w5 ho1 hg1 hat1 hlt1; have hbx5 := HS4.out.box.kept hg1 (fun q => own_blk_ne (HS4.out.rows 0 (by decide)) HS4.out.box (by decide) q.symm); have kk0 := hbx5.cell 2; have ff0 := hbx5.frozen 2; have HS5 := Lib.hid (HST.out 0 HF.out (by decide) g1 cap1 _ w5 ho1 hg1 hat1 HB4.out); clear ho1 hg1 hat1 hlt1 hbx5; simp at kk0)
        go_roundg (24 - (k + 1))
        case measure => omega
        case rel => exact ⟨k + 1, _, _, by go_num, by omega, rfl, HS5.out⟩
      · rw [show ((1 : Nat) : Int) = 1 from rfl] at HFT
        have HFD := Lib.hid HFT
        have hn24 : (nkL t u k 1).length ≤ 24 := num_le t u 1 k
        clear HFT
        go_wp2_with fail
        refine HFD.out.mono ?_
        rintro e w3 ⟨rfl, hb3⟩
        have HS3 := Lib.hid (HS.out.later hb3)
        have HBX := Lib.hid (bt (ba w3 (.cells #[.int .i64 ((k : Int) + 1)] 3)) (Below.refl w3.heap.size w3))
        have HS4 := Lib.hid (HS3.out.later HBX.out)
        have HB4 := Lib.hid (bt HBX.out hb3)
        have HNEW := Lib.hid (show ∀ (j : Nat) (u : Value), [Value.int .i64 ((k : Int) + 1)][j]? = some u → (w3.alloc (.cells #[.int .i64 ((k : Int) + 1)] 3)).cell? ((⟨w3.heap.size, 0, none⟩ : Addr).add j) = some u from
          fun j u hj => World.news_of_block (heap_alloc_new w3 (.cells #[.int .i64 ((k : Int) + 1)] 3)) j u (by simpa using hj))
        have y1 : w3.cell? ⟨g, 3, none⟩ = some (.slice (A 1) (nkL t u k 1).length (C 1)) := HS3.out.box.cell 3
        clear hb3 x0 x1 x2 x3 x4 x5 x6 x7 x8
        go_wp2_with (at_builtin; refine wpList_append_lies _ rfl (.tmp 23) (.tmp 26) 28 rfl W1.heap.size 3 i0 _ 1 8 Tryz.underlying28 hi0 hz0 hz1 hz2 rfl (by decide) (.slice (A 1) (nkL t u k 1).length (C 1)) (nkL t u k 1).length (iCells (nkL t u k 1)) rfl (HS4.out.rows 1 (by decide)) ⟨w3.heap.size, 0, none⟩ 1 1 [.int .i64 ((k : Int) + 1)] rfl rfl HNEW.out (int_one _) (by decide) (by unfold maxLen; omega) (by omega) HS4.out.below.size _ rfl ?_; intro g1 cap1 w5 ho1 hg1 hat1 hlt1; have hbx5 := HS4.out.box.kept hg1 (fun q => own_blk_ne (HS4.out.rows 1 (by decide)) HS4.out.box (by decide) q.symm); have kk0 := hbx5.cell 3; have ff0 := hbx5.frozen 3; have HS5 := Lib.hid (HST.out 1 HF.out (by decide) g1 cap1 _ w5 ho1 hg1 hat1 HB4.out); clear ho1 hg1 hat1 hlt1 hbx5; simp at kk0)
        go_roundg (24 - (k + 1))
        case measure => omega
        case rel => exact ⟨k + 1, _, _, by go_num, by omega, rfl, HS5.out⟩
      · rw [show ((2 : Nat) : Int) = 2 from rfl] at HFT
        have HFD := Lib.hid HFT
        have hn24 : (nkL t u k 2).length ≤ 24 := num_le t u 2 k
        clear HFT
        go_wp2_with fail
        refine HFD.out.mono ?_
        rintro e w3 ⟨rfl, hb3⟩
        have HS3 := Lib.hid (HS.out.later hb3)
        have HBX := Lib.hid (bt (ba w3 (.cells #[.int .i64 ((k : Int) + 1)] 3)) (Below.refl w3.heap.size w3))
        have HS4 := Lib.hid (HS3.out.later HBX.out)
        have HB4 := Lib.hid (bt HBX.out hb3)
        have HNEW := Lib.hid (show ∀ (j : Nat) (u : Value), [Value.int .i64 ((k : Int) + 1)][j]? = some u → (w3.alloc (.cells #[.int .i64 ((k : Int) + 1)] 3)).cell? ((⟨w3.heap.size, 0, none⟩ : Addr).add j) = some u from
          fun j u hj => World.news_of_block (heap_alloc_new w3 (.cells #[.int .i64 ((k : Int) + 1)] 3)) j u (by simpa using hj))
        have y2 : w3.cell? ⟨g, 4, none⟩ = some (.slice (A 2) (nkL t u k 2).length (C 2)) := HS3.out.box.cell 4
        clear hb3 x0 x1 x2 x3 x4 x5 x6 x7 x8
        go_wp2_with (at_builtin; refine wpList_append_lies _ rfl (.tmp 23) (.tmp 26) 28 rfl W1.heap.size 3 i0 _ 1 8 Tryz.underlying28 hi0 hz0 hz1 hz2 rfl (by decide) (.slice (A 2) (nkL t u k 2).length (C 2)) (nkL t u k 2).length (iCells (nkL t u k 2)) rfl (HS4.out.rows 2 (by decide)) ⟨w3.heap.size, 0, none⟩ 1 1 [.int .i64 ((k : Int) + 1)] rfl rfl HNEW.out (int_one _) (by decide) (by unfold maxLen; omega) (by omega) HS4.out.below.size _ rfl ?_; intro g1 cap1 w5 ho1 hg1 hat1 hlt1; have hbx5 := HS4.out.box.kept hg1 (fun q => own_blk_ne (HS4.out.rows 2 (by decide)) HS4.out.box (by decide) q.symm); have kk0 := hbx5.cell 4; have ff0 := hbx5.frozen 4; have HS5 := Lib.hid (HST.out 2 HF.out (by decide) g1 cap1 _ w5 ho1 hg1 hat1 HB4.out); clear ho1 hg1 hat1 hlt1 hbx5; simp at kk0)
        go_roundg (24 - (k + 1))
        case measure => omega
        case rel => exact ⟨k + 1, _, _, by go_num, by omega, rfl, HS5.out⟩
      · rw [show ((3 : Nat) : Int) = 3 from rfl] at HFT
        have HFD := Lib.hid HFT
        have hn24 : (nkL t u k 3).length ≤ 24 := num_le t u 3 k
        clear HFT
        go_wp2_with fail
        refine HFD.out.mono ?_
        rintro e w3 ⟨rfl, hb3⟩
        have HS3 := Lib.hid (HS.out.later hb3)
        have HBX := Lib.hid (bt (ba w3 (.cells #[.int .i64 ((k : Int) + 1)] 3)) (Below.refl w3.heap.size w3))
        have HS4 := Lib.hid (HS3.out.later HBX.out)
        have HB4 := Lib.hid (bt HBX.out hb3)
        have HNEW := Lib.hid (show ∀ (j : Nat) (u : Value), [Value.int .i64 ((k : Int) + 1)][j]? = some u → (w3.alloc (.cells #[.int .i64 ((k : Int) + 1)] 3)).cell? ((⟨w3.heap.size, 0, none⟩ : Addr).add j) = some u from
          fun j u hj => World.news_of_block (heap_alloc_new w3 (.cells #[.int .i64 ((k : Int) + 1)] 3)) j u (by simpa using hj))
        have y3 : w3.cell? ⟨g, 5, none⟩ = some (.slice (A 3) (nkL t u k 3).length (C 3)) := HS3.out.box.cell 5
        clear hb3 x0 x1 x2 x3 x4 x5 x6 x7 x8
        go_wp2_with (at_builtin; refine wpList_append_lies _ rfl (.tmp 23) (.tmp 26) 28 rfl W1.heap.size 3 i0 _ 1 8 Tryz.underlying28 hi0 hz0 hz1 hz2 rfl (by decide) (.slice (A 3) (nkL t u k 3).length (C 3)) (nkL t u k 3).length (iCells (nkL t u k 3)) rfl (HS4.out.rows 3 (by decide)) ⟨w3.heap.size, 0, none⟩ 1 1 [.int .i64 ((k : Int) + 1)] rfl rfl HNEW.out (int_one _) (by decide) (by unfold maxLen; omega) (by omega) HS4.out.below.size _ rfl ?_; intro g1 cap1 w5 ho1 hg1 hat1 hlt1; have hbx5 := HS4.out.box.kept hg1 (fun q => own_blk_ne (HS4.out.rows 3 (by decide)) HS4.out.box (by decide) q.symm); have kk0 := hbx5.cell 5; have ff0 := hbx5.frozen 5; have HS5 := Lib.hid (HST.out 3 HF.out (by decide) g1 cap1 _ w5 ho1 hg1 hat1 HB4.out); clear ho1 hg1 hat1 hlt1 hbx5; simp at kk0)
        go_roundg (24 - (k + 1))
        case measure => omega
        case rel => exact ⟨k + 1, _, _, by go_num, by omega, rfl, HS5.out⟩
      · rw [show ((4 : Nat) : Int) = 4 from rfl] at HFT
        have HFD := Lib.hid HFT
        have hn24 : (nkL t u k 4).length ≤ 24 := num_le t u 4 k
        clear HFT
        go_wp2_with fail
        refine HFD.out.mono ?_
        rintro e w3 ⟨rfl, hb3⟩
        have HS3 := Lib.hid (HS.out.later hb3)
        have HBX := Lib.hid (bt (ba w3 (.cells #[.int .i64 ((k : Int) + 1)] 3)) (Below.refl w3.heap.size w3))
        have HS4 := Lib.hid (HS3.out.later HBX.out)
        have HB4 := Lib.hid (bt HBX.out hb3)
        have HNEW := Lib.hid (show ∀ (j : Nat) (u : Value), [Value.int .i64 ((k : Int) + 1)][j]? = some u → (w3.alloc (.cells #[.int .i64 ((k : Int) + 1)] 3)).cell? ((⟨w3.heap.size, 0, none⟩ : Addr).add j) = some u from
          fun j u hj => World.news_of_block (heap_alloc_new w3 (.cells #[.int .i64 ((k : Int) + 1)] 3)) j u (by simpa using hj))
        have y4 : w3.cell? ⟨g, 6, none⟩ = some (.slice (A 4) (nkL t u k 4).length (C 4)) := HS3.out.box.cell 6
        clear hb3 x0 x1 x2 x3 x4 x5 x6 x7 x8
        go_wp2_with (at_builtin; refine wpList_append_lies _ rfl (.tmp 23) (.tmp 26) 28 rfl W1.heap.size 3 i0 _ 1 8 Tryz.underlying28 hi0 hz0 hz1 hz2 rfl (by decide) (.slice (A 4) (nkL t u k 4).length (C 4)) (nkL t u k 4).length (iCells (nkL t u k 4)) rfl (HS4.out.rows 4 (by decide)) ⟨w3.heap.size, 0, none⟩ 1 1 [.int .i64 ((k : Int) + 1)] rfl rfl HNEW.out (int_one _) (by decide) (by unfold maxLen; omega) (by omega) HS4.out.below.size _ rfl ?_; intro g1 cap1 w5 ho1 hg1 hat1 hlt1; have hbx5 := HS4.out.box.kept hg1 (fun q => own_blk_ne (HS4.out.rows 4 (by decide)) HS4.out.box (by decide) q.symm); have kk0 := hbx5.cell 6; have ff0 := hbx5.frozen 6; have HS5 := Lib.hid (HST.out 4 HF.out (by decide) g1 cap1 _ w5 ho1 hg1 hat1 HB4.out); clear ho1 hg1 hat1 hlt1 hbx5; simp at kk0)
        go_roundg (24 - (k + 1))
        case measure => omega
        case rel => exact ⟨k + 1, _, _, by go_num, by omega, rfl, HS5.out⟩
    · have hlt' : ¬ (k : Int) < 24 := by omega
      have hk24 : k = 24 := by omega
      subst hk24
      have HRW := Lib.hid (fun f hf => HS.out.rows f hf)
      have p5 : wr.cell? ⟨g, 5, none⟩ = some (.slice (A 3) (nkL t u 24 3).length (C 3)) := HS.out.box.cell 5
      have HJ1 := Lib.hid (justIn_any g (A 3) (C 3) (nkL t u 24 3) (.pointer pb) (.pointer pa) t u wr (HTB.out.below HS.out.below) (HTA.out.below HS.out.below) p5 (IntsR.of_own (HS.out.rows 3 (by decide))) (num_le t u 3 24))
      have HJ2 := Lib.hid (fun W (hw : Below wr.heap.size wr W) => justIn_any g (A 3) (C 3) (nkL t u 24 3) (.pointer pa) (.pointer pb) u t W ((HTA.out.below HS.out.below).below hw) ((HTB.out.below HS.out.below).below hw) (bc hw p5) ((IntsR.of_own (HS.out.rows 3 (by decide))).below hw) (num_le t u 3 24))
      have hl1 : (justL t u (nkL t u 24 3)).length ≤ 12 * (nkL t u 24 3).length := just_len (u := u) HTB.out.ok.1 (nkL t u 24 3)
      have hl2 : (justL u t (nkL t u 24 3)).length ≤ 12 * (nkL t u 24 3).length := just_len (u := t) HTA.out.ok.1 (nkL t u 24 3)
      have hn3 : (nkL t u 24 3).length ≤ 24 := num_le t u 3 24
      have HL := Lib.hid (show (justL t u (nkL t u 24 3)).length ≤ 1000 ∧ (justL u t (nkL t u 24 3)).length ≤ 1000 from ⟨by omega, by omega⟩)
      clear p5 hl1 hl2 hn3
      obtain ⟨lost, hlo⟩ : ∃ x, justL t u (nkL t u 24 3) = x := ⟨_, rfl⟩
      obtain ⟨won, hwo⟩ : ∃ x, justL u t (nkL t u 24 3) = x := ⟨_, rfl⟩
      rw [hlo] at HJ1 HL
      rw [hwo] at HJ2 HL
      have HLO := Lib.hid hlo
      have HWO := Lib.hid hwo
      clear hlo hwo
      go_wp2_with fail
      refine HJ1.out.mono ?_
      rintro e w3 ⟨A5, c5, rfl, ho5, hb3⟩
      have HO5 := Lib.hid ho5
      have HB3 := Lib.hid hb3
      have HJ3 := Lib.hid (HJ2.out w3 hb3)
      clear ho5 hb3 HJ1 HJ2
      go_wp2_with fail
      refine HJ3.out.mono ?_
      rintro e w4 ⟨A6, c6, rfl, ho6, hb4⟩
      have HS4 := Lib.hid ((HS.out.later HB3.out).later hb4)
      have ho5' := own_below HO5.out hb4
      have hbx := HS4.out.box
      have hkr4 := HKR.out.below HS4.out.below
      have hgr := HZ1.out
      have hgg := HGZ.out
      have f7 := hbx.frozen 7
      have f8 := hbx.frozen 8
      have p7 := hbx.cell 7
      have p8 := hbx.cell 8
      simp at p7 p8
      have hg7 := grown_setCell w4 ⟨g, 7, none⟩ (.slice A5 lost.length c5)
      have hg8 := grown_setCell (w4.setCell ⟨g, 7, none⟩ (.slice A5 lost.length c5)) ⟨g, 8, none⟩ (.slice A6 won.length c6)
      have hg78 := grown_trans hg7 hg8
      have hbx8 := (hbx.set9_7 (.slice A5 lost.length c5)).set9_8 (.slice A6 won.length c6)
      have hkr8 := hkr4.kept hg78 (some_ne (show w.heap.size ≠ g by omega))
      have HO8 := Lib.hid (And.intro (ho5'.kept hg78 (.inr (own_blk_ne ho5' hbx (by decide)))) (ho6.kept hg78 (.inr (own_blk_ne ho6 hbx (by decide)))))
      have HR8 := Lib.hid (fun f (hf : f < 5) => (HS4.out.rows f hf).kept hg78 (.inr (own_blk_ne (HS4.out.rows f hf) hbx (by decide))))
      have HB8 := Lib.hid (below_grown HS4.out.below hg78 HS4.out.hg)
      obtain ⟨W8, hW8⟩ : ∃ W, (w4.setCell ⟨g, 7, none⟩ (.slice A5 lost.length c5)).setCell ⟨g, 8, none⟩ (.slice A6 won.length c6) = W := ⟨_, rfl⟩
      rw [hW8] at HO8 HR8 HB8 hbx8 hkr8
      obtain ⟨x0, x1, x2, x3, x4, x5, x6, x7, x8⟩ := hbx8.c9
      obtain ⟨r0, r1, r2, r3, r4, r5, r6, r7, r8⟩ := hkr8.c9
      obtain ⟨q0, q1, q2, q3, q4, q5, q6, q7, q8⟩ := hkr8.f9
      obtain ⟨s0, s1, s2, s3, s4, s5, s6, s7, s8⟩ := hkr8.s9
      have HGR := Lib.hid (grown9 W8 w.heap.size (.pointer pb) (.pointer pa) (.slice (A 0) (nkL t u 24 0).length (C 0)) (.slice (A 1) (nkL t u 24 1).length (C 1)) (.slice (A 2) (nkL t u 24 2).length (C 2)) (.slice (A 3) (nkL t u 24 3).length (C 3)) (.slice (A 4) (nkL t u 24 4).length (C 4)) (.slice A5 lost.length c5) (.slice A6 won.length c6))
      have HK8 := Lib.hid hkr8
      clear ho5' ho6 hb4 hbx hkr4 hg7 hg8 hg78 hbx8 hkr8 hgr hgg HJ3
      go_wp2
      refine bodyPost_ret (v := dfV (.pointer pb) (.pointer pa) A C (nkL t u 24) A5 c5 lost A6 c6 won) (by simp [results, Tryz.results28, go_sem, s0, s1, s2, s3, s4, s5, s6, s7, s8]) rfl ?_
      unfold DfP
      rw [HLO.out, HWO.out]
      have hB := below_grown (bt HB8.out HB0.out) HGR.out (Nat.le_refl _)
      refine ⟨A, C, A5, c5, A6, c6, rfl, ⟨HTB0.out.below hB, HTA0.out.below hB, fun f hf => ?_, fun f _ => num_le t u f 24, ?_, ?_, HL.out.1, HL.out.2⟩, hB⟩
      · exact IntsR.of_own ((HR8.out f hf).kept HGR.out (.inr (own_blk_ne (HR8.out f hf) HK8.out (by decide))))
      · exact EchR.of_own (HO8.out.1.kept HGR.out (.inr (own_blk_ne HO8.out.1 HK8.out (by decide))))
      · exact EchR.of_own (HO8.out.2.kept HGR.out (.inr (own_blk_ne HO8.out.2 HK8.out (by decide))))
end Go.Proofs.YtnkjaocmfhjnoaaGreat
namespace Go.Proofs.YtnkjaocmfhjnoaaGreat
open Go Go.RowKit
set_option maxRecDepth 100000

attribute [local go_sem] cell_off4 cell_blk4
section
variable {w : World} {vb va : Value} {A : Nat → Option Addr} {C : Nat → Nat} {N : Nat → List Int} {A5 : Option Addr} {c5 : Nat} {lost : List Ech} {A6 : Option Addr} {c6 : Nat} {won : List Ech} {t u : List Nd}
theorem ints_lit (W : World) (l : List Int) : IntsR (W.alloc (.cells (iCells l).toArray 3)) (.slice (some ⟨W.heap.size, 0, none⟩) l.length l.length) l := by
  refine ⟨_, _, rfl, fun k n hk => ⟨_, rfl, ?_⟩⟩
  rw [add_lit, (Blk.new W 3 (iCells l).toArray).cell k, List.getElem?_toArray]
  exact iCells_at l k n hk
theorem tget_zero (t : List Nd) : tget t 0 = Nd.zero := tget_out (by omega)
set_option maxHeartbeats 8000000 in
theorem alone_any (w : World) (h : DfR w vb va A C N A5 c5 lost A6 c6 won t u) :
    Calls Tryz.prog 59 #[dfV vb va A C N A5 c5 lost A6 c6 won] w fun e w' => ∃ B1 k1 B2 k2 B3 k3 B4 k4, e = .returned (.tuple #[.int .i64 (alI (N 1) (N 2) (N 3) (N 4)), .agg (ndC (tget t (alI (N 1) (N 2) (N 3) (N 4))) (.slice B1 (tget t (alI (N 1) (N 2) (N 3) (N 4))).data.length k1) (.slice B2 (tget t (alI (N 1) (N 2) (N 3) (N 4))).ents.length k2)), .agg (ndC (tget u (alI (N 1) (N 2) (N 3) (N 4))) (.slice B3 (tget u (alI (N 1) (N 2) (N 3) (N 4))).data.length k3) (.slice B4 (tget u (alI (N 1) (N 2) (N 3) (N 4))).ents.length k4))]) ∧
      BytesT w' (.slice B1 (tget t (alI (N 1) (N 2) (N 3) (N 4))).data.length k1) (tget t (alI (N 1) (N 2) (N 3) (N 4))).data ∧ EntsT w' (.slice B2 (tget t (alI (N 1) (N 2) (N 3) (N 4))).ents.length k2) (tget t (alI (N 1) (N 2) (N 3) (N 4))).ents ∧ BytesT w' (.slice B3 (tget u (alI (N 1) (N 2) (N 3) (N 4))).data.length k3) (tget u (alI (N 1) (N 2) (N 3) (N 4))).data ∧ EntsT w' (.slice B4 (tget u (alI (N 1) (N 2) (N 3) (N 4))).ents.length k4) (tget u (alI (N 1) (N 2) (N 3) (N 4))).ents ∧ Below w.heap.size w w' := by
  obtain ⟨W1, hW1⟩ : ∃ W, ((w.alloc (.cells (dfC vb va A C N A5 c5 lost A6 c6 won) 87)).alloc (.cells ndZ 65)).alloc (.cells ndZ 65) = W := ⟨_, rfl⟩
  have hb1 : Below w.heap.size w W1 := by rw [← hW1]; exact al (al (ba _ _) _) _
  have hk1 : Blk W1 w.heap.size 87 (dfC vb va A C N A5 c5 lost A6 c6 won) := by rw [← hW1]; exact ((Blk.new _ _ _).alloc _).alloc _
  obtain ⟨z3, hz3⟩ : ∃ z, w.heap.size + 1 = z := ⟨_, rfl⟩
  obtain ⟨z4, hz4⟩ : ∃ z, z3 + 1 = z := ⟨_, rfl⟩
  have hk3 : Blk W1 z3 65 ndZ := by
    have h1 := (Blk.new (w.alloc (.cells (dfC vb va A C N A5 c5 lost A6 c6 won) 87)) 65 ndZ).alloc (.cells ndZ 65)
    rw [← hW1, ← hz3]
    simpa using h1
  have hk4 : Blk W1 z4 65 ndZ := by
    have h1 := Blk.new ((w.alloc (.cells (dfC vb va A C N A5 c5 lost A6 c6 won) 87)).alloc (.cells ndZ 65)) 65 ndZ
    rw [← hW1, ← hz4, ← hz3]
    simpa using h1
  have h34 : z3 ≠ z4 := by omega
  have HN34 := Lib.hid h34
  have HZ1 := Lib.hid (show w.heap.size + 1 = z3 from hz3)
  have HZ1 := Lib.hid (show w.heap.size + 1 = z3 from hz3)
  have HZ1 := Lib.hid (show w.heap.size + 1 = z3 from hz3)
  have HZ := Lib.hid (show w.heap.size ≤ z3 ∧ w.heap.size ≤ z4 from ⟨by omega, by omega⟩)
  have HD := Lib.hid (h.below hb1)
  have HB := Lib.hid hb1
  have HK3 := Lib.hid hk3
  have HK4 := Lib.hid hk4
  have HO := Lib.hid (only_any 4 (.inr (.inr rfl)) W1 (h.below hb1))
  rw [show ((4 : Nat) : Int) = 4 from rfl] at HO
  obtain ⟨x0, x1, x2, x3, x4, x5, x6, x7, x8⟩ := hk1.c9
  have HK1 := Lib.hid hk1
  have HNO := Lib.hid (fun W (hw : Below W1.heap.size W1 W) => nothing_any (C := C) (A := A) (N := N) (vb := vb) (va := va) (A5 := A5) (c5 := c5) (lost := lost) (A6 := A6) (c6 := c6) (won := won) [1, 2, 3] (by decide) (.slice (some ⟨W.heap.size, 0, none⟩) 3 3) (W.alloc (.cells (iCells [1, 2, 3]).toArray 3)) (ints_lit W [1, 2, 3]) (by decide))
  by_cases h0 : onlyI (N 4) = 0 ∨ ¬ (N 1 = [] ∧ N 2 = [] ∧ N 3 = [])
  · have HI := alI_zero (f := N 1) (g := N 2) (e := N 3) h0
    rw [HI, tget_zero, tget_zero]
    by_cases h00 : onlyI (N 4) = 0
    · rw [h00] at HO
      clear h hb1 hk1 hk3 hk4 h0 HI h00 HNO
      go_enter Tryz.func59, Tryz.ntmps59
      go_wp2_with fail
      clear hW1 hz3 hz4
      refine HO.out.mono ?_
      rintro e wz ⟨rfl, hb2⟩
      clear x0 x1 x2 x3 x4 x5 x6 x7 x8
      have hk3' := HK3.out.below hb2
      have hk4' := HK4.out.below hb2
      have hB2 := bt hb2 HB.out
      obtain ⟨p0, p1, p2, p3, p4, p5, p6⟩ := hk3'.c7
      obtain ⟨f0, f1, f2, f3, f4, f5, f6⟩ := hk3'.f7
      obtain ⟨s0, s1, s2, s3, s4, s5, s6⟩ := hk3'.s7
      obtain ⟨q0, q1, q2, q3, q4, q5, q6⟩ := hk4'.c7
      obtain ⟨g0, g1, g2, g3, g4, g5, g6⟩ := hk4'.f7
      have hgz := grown7 wz z3 (.int .i64 0) (.int .i64 0) (.int .i64 0) (.int .i64 0) (.slice none 0 0) (.slice none 0 0) (.string ⟨#[]⟩)
      have hk4z := hk4'.kept hgz (some_ne (fun q => HN34.out q.symm))
      unfold put7 at hk4z
      obtain ⟨t0, t1, t2, t3, t4, t5, t6⟩ := hk4z.s7
      have HBZ := Lib.hid (below_grown (below_grown hB2 hgz HZ.out.1) (grown7 _ z4 (.int .i64 0) (.int .i64 0) (.int .i64 0) (.int .i64 0) (.slice none 0 0) (.slice none 0 0) (.string ⟨#[]⟩)) HZ.out.2)
      clear hk3' hk4' hB2 hgz hk4z hb2
      go_wp2
      exact bodyPost_ret (v := .tuple #[.int .i64 0, .agg ndZ, .agg ndZ]) (by simp [results, Tryz.results59, go_sem, s0, s1, s2, s3, s4, s5, s6, t0, t1, t2, t3, t4, t5, t6]) rfl ⟨none, 0, none, 0, none, 0, none, 0, rfl, BytesT.nil _, EntsT.nil _, BytesT.nil _, EntsT.nil _, HBZ.out⟩
    · have hq : [1, 2, 3].all (fun f => (N f).isEmpty) = false := by
        rw [← Bool.not_eq_true, List.all_eq_true]
        intro q
        refine h0.elim h00 (fun z => z ⟨?_, ?_, ?_⟩)
        · simpa using q 1 (by decide)
        · simpa using q 2 (by decide)
        · simpa using q 3 (by decide)
      rw [hq] at HNO
      have h1 : (onlyI (N 4) == 0) = false := by simpa using h00
      clear h hb1 hk1 hk3 hk4 h0 HI h00 hq
      generalize onlyI (N 4) = O at HO h1
      go_enter Tryz.func59, Tryz.ntmps59
      go_wp2_with fail
      clear hW1 hz3 hz4
      refine HO.out.mono ?_
      rintro e w2 ⟨rfl, hb2⟩
      have HNO2 := Lib.hid (HNO.out w2 hb2)
      have HB2 := Lib.hid hb2
      obtain ⟨x0, x1, x2, x3, x4, x5, x6, x7, x8⟩ := (HK1.out.below hb2).c9
      clear hb2 HO
      go_wp2_with fail
      refine HNO2.out.mono ?_
      rintro e wz ⟨rfl, hb3⟩
      have hb4 := bt (bt hb3 (ba w2 _)) HB2.out
      clear x0 x1 x2 x3 x4 x5 x6 x7 x8 hb3
      have hk3' := HK3.out.below hb4
      have hk4' := HK4.out.below hb4
      have hB2 := bt hb4 HB.out
      obtain ⟨p0, p1, p2, p3, p4, p5, p6⟩ := hk3'.c7
      obtain ⟨f0, f1, f2, f3, f4, f5, f6⟩ := hk3'.f7
      obtain ⟨s0, s1, s2, s3, s4, s5, s6⟩ := hk3'.s7
      obtain ⟨q0, q1, q2, q3, q4, q5, q6⟩ := hk4'.c7
      obtain ⟨g0, g1, g2, g3, g4, g5, g6⟩ := hk4'.f7
      have hgz := grown7 wz z3 (.int .i64 0) (.int .i64 0) (.int .i64 0) (.int .i64 0) (.slice none 0 0) (.slice none 0 0) (.string ⟨#[]⟩)
      have hk4z := hk4'.kept hgz (some_ne (fun q => HN34.out q.symm))
      unfold put7 at hk4z
      obtain ⟨t0, t1, t2, t3, t4, t5, t6⟩ := hk4z.s7
      have HBZ := Lib.hid (below_grown (below_grown hB2 hgz HZ.out.1) (grown7 _ z4 (.int .i64 0) (.int .i64 0) (.int .i64 0) (.int .i64 0) (.slice none 0 0) (.slice none 0 0) (.string ⟨#[]⟩)) HZ.out.2)
      clear hk3' hk4' hB2 hgz hk4z hb4
      go_wp2
      exact bodyPost_ret (v := .tuple #[.int .i64 0, .agg ndZ, .agg ndZ]) (by simp [results, Tryz.results59, go_sem, s0, s1, s2, s3, s4, s5, s6, t0, t1, t2, t3, t4, t5, t6]) rfl ⟨none, 0, none, 0, none, 0, none, 0, rfl, BytesT.nil _, EntsT.nil _, BytesT.nil _, EntsT.nil _, HBZ.out⟩
  · have h00 : ¬ onlyI (N 4) = 0 := fun q => h0 (.inl q)
    have hE : N 1 = [] ∧ N 2 = [] ∧ N 3 = [] := Classical.byContradiction (fun q => h0 (.inr q))
    have hI : alI (N 1) (N 2) (N 3) (N 4) = onlyI (N 4) := by unfold alI; rw [if_pos hE]
    rw [hI]
    have hq : [1, 2, 3].all (fun f => (N f).isEmpty) = true := by
      rw [List.all_eq_true]
      intro f hf
      simp only [List.mem_cons, List.not_mem_nil, or_false] at hf
      rcases hf with rfl | rfl | rfl
      · rw [hE.1]; rfl
      · rw [hE.2.1]; rfl
      · rw [hE.2.2]; rfl
    rw [hq] at HNO
    have h1 : (onlyI (N 4) == 0) = false := by simpa using h00
    have HGB := Lib.hid (fun W (hw : Below w.heap.size w W) => get_any vb t (onlyI (N 4)) W (h.tb.below hw))
    have HGA := Lib.hid (fun W (hw : Below w.heap.size w W) => get_any va u (onlyI (N 4)) W (h.ta.below hw))
    clear h hb1 hk1 hk3 hk4 h0 hI h00 hq hE
    generalize onlyI (N 4) = O at HO h1 HGB HGA ⊢
    generalize tis t O = X1 at HGB
    generalize tis u O = X2 at HGA
    generalize tget t O = n at HGB ⊢
    generalize tget u O = m at HGA ⊢
    unfold nodeV at HGB HGA
    go_enter Tryz.func59, Tryz.ntmps59
    go_wp2_with fail
    clear hW1 hz3 hz4
    refine HO.out.mono ?_
    rintro e w2 ⟨rfl, hb2⟩
    have HNO2 := Lib.hid (HNO.out w2 hb2)
    have HB2 := Lib.hid hb2
    obtain ⟨x0, x1, x2, x3, x4, x5, x6, x7, x8⟩ := (HK1.out.below hb2).c9
    clear hb2 HO
    go_wp2_with fail
    refine HNO2.out.mono ?_
    rintro e w3 ⟨rfl, hb3⟩
    have hb4 := bt (bt hb3 (ba w2 _)) HB2.out
    have HB4 := Lib.hid hb4
    have x0' := (HK1.out.below hb4).cell 0
    simp at x0'
    have HG1 := Lib.hid (HGB.out w3 (bt hb4 HB.out))
    clear x0 x1 x2 x3 x4 x5 x6 x7 x8 hb3 hb4 HNO HNO2 HB2 HGB
    go_wp2_with fail
    refine HG1.out.mono ?_
    rintro e w4 ⟨vd, ve, rfl, hd, he, -, -, hb5⟩
    obtain ⟨B1, k1, rfl⟩ := bytesT_form hd
    obtain ⟨B2, k2, rfl⟩ := entsT_form he
    have hb6 := bt hb5 HB4.out
    have hk3' := HK3.out.below hb6
    have hk4' := HK4.out.below hb6
    have hk1' := HK1.out.below hb6
    have hg7 := grown7 w4 z3 (.int .i64 n.kind) (.int .i64 n.mode) (.int .i64 n.uid) (.int .i64 n.gid) (.slice B1 n.data.length k1) (.slice B2 n.ents.length k2) (.string (bA n.target))
    have hk3n := hk3'.put7 (.int .i64 n.kind) (.int .i64 n.mode) (.int .i64 n.uid) (.int .i64 n.gid) (.slice B1 n.data.length k1) (.slice B2 n.ents.length k2) (.string (bA n.target))
    have hk4n := hk4'.kept hg7 (some_ne (fun q => HN34.out q.symm))
    have hk1n := hk1'.kept hg7 (some_ne (show w.heap.size ≠ z3 by have := HZ1.out; omega))
    have hd7 := hd.other hg7 (fun ad _ _ hv => by obtain ⟨cs, hk⟩ := hd.2 ad _ _ hv; exact blk_ne hk hk3' (by decide))
    have he7 := he.other hg7 (fun ad _ _ hv => by obtain ⟨cs, hk⟩ := he.2 ad _ _ hv; exact blk_ne hk hk3' (by decide))
    have hb7 := below_grown (bt hb6 HB.out) hg7 HZ.out.1
    obtain ⟨p0, p1, p2, p3, p4, p5, p6⟩ := hk3'.c7
    obtain ⟨f0, f1, f2, f3, f4, f5, f6⟩ := hk3'.f7
    clear hd he hb5 hb6 hk4' hk1' hk3' hg7 x0' HG1
    go_upto_region 5 with fail
    unfold put7 at hk3n hk4n hk1n hd7 he7 hb7
    obtain ⟨W5, hW5⟩ : ∃ W, (((((((w4.setCell ⟨z3, 0, none⟩ (.int .i64 n.kind)).setCell ⟨z3, 1, none⟩ (.int .i64 n.mode)).setCell ⟨z3, 2, none⟩ (.int .i64 n.uid)).setCell ⟨z3, 3, none⟩ (.int .i64 n.gid)).setCell ⟨z3, 4, none⟩ (.slice B1 n.data.length k1)).setCell ⟨z3, 5, none⟩ (.slice B2 n.ents.length k2)).setCell ⟨z3, 6, none⟩ (.string (bA n.target))) = W := ⟨_, rfl⟩
    rw [hW5] at hk3n hk4n hk1n hd7 he7 hb7 ⊢
    clear hW5 p0 p1 p2 p3 p4 p5 p6 f0 f1 f2 f3 f4 f5 f6
    have x1' := hk1n.cell 1
    simp at x1'
    have HG2 := Lib.hid (HGA.out W5 hb7)
    have HK3N := Lib.hid hk3n
    have HK4N := Lib.hid hk4n
    have HD7 := Lib.hid hd7
    have HE7 := Lib.hid he7
    have HB7 := Lib.hid hb7
    clear hk3n hk4n hk1n hd7 he7 hb7 HGA
    go_wp2_with fail
    refine HG2.out.mono ?_
    rintro e w6 ⟨vd, ve, rfl, hd, he, -, -, hb8⟩
    obtain ⟨B3, k3, rfl⟩ := bytesT_form hd
    obtain ⟨B4, k4, rfl⟩ := entsT_form he
    have hk3' := HK3N.out.below hb8
    have hk4' := HK4N.out.below hb8
    have hg9 := grown7 w6 z4 (.int .i64 m.kind) (.int .i64 m.mode) (.int .i64 m.uid) (.int .i64 m.gid) (.slice B3 m.data.length k3) (.slice B4 m.ents.length k4) (.string (bA m.target))
    have hk4m := hk4'.put7 (.int .i64 m.kind) (.int .i64 m.mode) (.int .i64 m.uid) (.int .i64 m.gid) (.slice B3 m.data.length k3) (.slice B4 m.ents.length k4) (.string (bA m.target))
    have hk3m := hk3'.kept hg9 (some_ne HN34.out)
    have hd8 := HD7.out.below hb8
    have he8 := HE7.out.below hb8
    have hd9 := hd.other hg9 (fun ad _ _ hv => by obtain ⟨cs, hk⟩ := hd.2 ad _ _ hv; exact blk_ne hk hk4' (by decide))
    have he9 := he.other hg9 (fun ad _ _ hv => by obtain ⟨cs, hk⟩ := he.2 ad _ _ hv; exact blk_ne hk hk4' (by decide))
    have hd10 := hd8.other hg9 (fun ad _ _ hv => by obtain ⟨cs, hk⟩ := hd8.2 ad _ _ hv; exact blk_ne hk hk4' (by decide))
    have he10 := he8.other hg9 (fun ad _ _ hv => by obtain ⟨cs, hk⟩ := he8.2 ad _ _ hv; exact blk_ne hk hk4' (by decide))
    have hb9 := below_grown (bt hb8 HB7.out) hg9 HZ.out.2
    obtain ⟨p0, p1, p2, p3, p4, p5, p6⟩ := hk4'.c7
    obtain ⟨f0, f1, f2, f3, f4, f5, f6⟩ := hk4'.f7
    clear hd he hb8 hk4' hk3' hg9 x1' HG2 hd8 he8
    go_upto_region 6 with fail
    unfold put7 at hk4m hk3m hd9 he9 hd10 he10 hb9
    obtain ⟨W7, hW7⟩ : ∃ W, (((((((w6.setCell ⟨z4, 0, none⟩ (.int .i64 m.kind)).setCell ⟨z4, 1, none⟩ (.int .i64 m.mode)).setCell ⟨z4, 2, none⟩ (.int .i64 m.uid)).setCell ⟨z4, 3, none⟩ (.int .i64 m.gid)).setCell ⟨z4, 4, none⟩ (.slice B3 m.data.length k3)).setCell ⟨z4, 5, none⟩ (.slice B4 m.ents.length k4)).setCell ⟨z4, 6, none⟩ (.string (bA m.target))) = W := ⟨_, rfl⟩
    rw [hW7] at hk4m hk3m hd9 he9 hd10 he10 hb9 ⊢
    clear hW7 p0 p1 p2 p3 p4 p5 p6 f0 f1 f2 f3 f4 f5 f6
    have HK3M := Lib.hid hk3m
    have HK4M := Lib.hid hk4m
    have HX := Lib.hid (And.intro hd10 (And.intro he10 (And.intro hd9 he9)))
    have HB9 := Lib.hid hb9
    obtain ⟨p0, p1, p2, p3, p4, p5, p6⟩ := hk3m.c7
    obtain ⟨f0, f1, f2, f3, f4, f5, f6⟩ := hk3m.f7
    obtain ⟨q0, q1, q2, q3, q4, q5, q6⟩ := hk4m.c7
    obtain ⟨g0, g1, g2, g3, g4, g5, g6⟩ := hk4m.f7
    have h43 : z4 ≠ z3 := fun q => HN34.out q.symm
    have hgA := grown7 W7 z3 (.int .i64 n.kind) (.int .i64 n.mode) (.int .i64 n.uid) (.int .i64 n.gid) (.slice B1 n.data.length k1) (.slice B2 n.ents.length k2) (.string (bA n.target))
    have hkA := hk3m.put7 (.int .i64 n.kind) (.int .i64 n.mode) (.int .i64 n.uid) (.int .i64 n.gid) (.slice B1 n.data.length k1) (.slice B2 n.ents.length k2) (.string (bA n.target))
    have hkB := hk4m.kept hgA (some_ne h43)
    have hgB := grown7 (put7 W7 z3 (.int .i64 n.kind) (.int .i64 n.mode) (.int .i64 n.uid) (.int .i64 n.gid) (.slice B1 n.data.length k1) (.slice B2 n.ents.length k2) (.string (bA n.target))) z4 (.int .i64 m.kind) (.int .i64 m.mode) (.int .i64 m.uid) (.int .i64 m.gid) (.slice B3 m.data.length k3) (.slice B4 m.ents.length k4) (.string (bA m.target))
    obtain ⟨s0, s1, s2, s3, s4, s5, s6⟩ := hk3m.s7
    have hkB' := hkB
    unfold put7 at hkB'
    obtain ⟨t0, t1, t2, t3, t4, t5, t6⟩ := hkB'.s7
    have HKA := Lib.hid (And.intro hk3m hkB)
    have HGA2 := Lib.hid (And.intro hgA hgB)
    clear hk3m hk4m hd9 he9 hd10 he10 hb9 HK3 HK4 HK1 HK3N HK4N HD7 HE7 HB7 HB4 HB HD hgA hkA hkB hgB hkB'
    go_region
    go_wp2
    refine bodyPost_ret (v := .tuple #[.int .i64 O, .agg (ndC n (.slice B1 n.data.length k1) (.slice B2 n.ents.length k2)), .agg (ndC m (.slice B3 m.data.length k3) (.slice B4 m.ents.length k4))]) (by simp [results, Tryz.results59, go_sem, s0, s1, s2, s3, s4, s5, s6, t0, t1, t2, t3, t4, t5, t6]) rfl ⟨B1, k1, B2, k2, B3, k3, B4, k4, rfl, ?_⟩
    obtain ⟨d1, e1, d2, e2⟩ := HX.out
    have key : ∀ W W' (g : Nat) (cs : Array Value), Blk W g 65 cs → W.grownBy W' (some g) → BytesT W (.slice B1 n.data.length k1) n.data ∧ EntsT W (.slice B2 n.ents.length k2) n.ents ∧ BytesT W (.slice B3 m.data.length k3) m.data ∧ EntsT W (.slice B4 m.ents.length k4) m.ents → BytesT W' (.slice B1 n.data.length k1) n.data ∧ EntsT W' (.slice B2 n.ents.length k2) n.ents ∧ BytesT W' (.slice B3 m.data.length k3) m.data ∧ EntsT W' (.slice B4 m.ents.length k4) m.ents := fun W W' g cs hk hg hx =>
      ⟨hx.1.other hg (fun ad _ _ hv => by obtain ⟨cs, hb⟩ := hx.1.2 ad _ _ hv; exact blk_ne hb hk (by decide)), hx.2.1.other hg (fun ad _ _ hv => by obtain ⟨cs, hb⟩ := hx.2.1.2 ad _ _ hv; exact blk_ne hb hk (by decide)), hx.2.2.1.other hg (fun ad _ _ hv => by obtain ⟨cs, hb⟩ := hx.2.2.1.2 ad _ _ hv; exact blk_ne hb hk (by decide)), hx.2.2.2.other hg (fun ad _ _ hv => by obtain ⟨cs, hb⟩ := hx.2.2.2.2 ad _ _ hv; exact blk_ne hb hk (by decide))⟩
    have hy := key _ _ _ _ HKA.out.2 HGA2.out.2 (key _ _ _ _ HKA.out.1 HGA2.out.1 ⟨d1, e1, d2, e2⟩)
    have hB := below_grown (below_grown HB9.out HGA2.out.1 HZ.out.1) HGA2.out.2 HZ.out.2
    exact ⟨hy.1.below (Below.refl _ _).drew, hy.2.1.below (Below.refl _ _).drew, hy.2.2.1.below (Below.refl _ _).drew, hy.2.2.2.below (Below.refl _ _).drew, hB.drew⟩
end
end Go.Proofs.YtnkjaocmfhjnoaaGreat
