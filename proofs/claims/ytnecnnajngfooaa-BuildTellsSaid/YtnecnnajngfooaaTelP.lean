/-
  Tell, of any table: what the closure puts behind, and the loop. The condition: a table's nodes may be, and it has room for 24 at most.
-/
import Derived.Test.YtnecnnajngfooaaTelM
import Derived.Test.YtnecnnajngfooaaRaw
import Derived.Deep.RegionHeld3
import Derived.Deep.RegionWith
namespace Go.Proofs.Ytnecnnajngfooaa
open Go Go.RowKit
set_option maxRecDepth 100000

attribute [local go_sem] cell_off4 cell_blk4
/-- The cells of a row of Raws. -/
def rCells (l : List (Rw × Value)) : List Value := l.flatMap (fun q => (rwC q.1 q.2).toList)
theorem rCells_snoc (l : List (Rw × Value)) (r : Rw) (v : Value) : rCells l ++ (rwC r v).toList = rCells (l ++ [(r, v)]) := by simp [rCells]
theorem rCells_len : ∀ l : List (Rw × Value), (rCells l).length = l.length * 9
  | [] => rfl
  | q :: l => by
    have ih := rCells_len l
    have e : rCells (q :: l) = (rwC q.1 q.2).toList ++ rCells l := rfl
    rw [e, List.length_append, ih, List.length_cons]
    show 9 + l.length * 9 = (l.length + 1) * 9
    omega
theorem rCells_at : ∀ (l : List (Rw × Value)) (k j : Nat) (q : Rw × Value), l[k]? = some q → j < 9 → (rCells l)[k * 9 + j]? = (rwC q.1 q.2).toList[j]?
  | [], k, j, q, h, _ => by simp at h
  | p :: l, 0, j, q, h, hj => by
    have : p = q := by simpa using h
    subst this
    have e : rCells (p :: l) = (rwC p.1 p.2).toList ++ rCells l := rfl
    rw [e, Nat.zero_mul, Nat.zero_add, List.getElem?_append_left (by show j < 9; exact hj)]
  | p :: l, k + 1, j, q, h, hj => by
    have e : rCells (p :: l) = (rwC p.1 p.2).toList ++ rCells l := rfl
    rw [e, List.getElem?_append_right (by show 9 ≤ _; omega)]
    have := rCells_at l k j q (by simpa using h) hj
    rw [← this]
    congr 1
    show (k + 1) * 9 + j - 9 = k * 9 + j
    omega
/-- A row of Raws of the call's own. -/
def RawsX (w : World) (B : Nat) (v : Value) (l : List Rw) : Prop := ∃ ps : List (Rw × Value), ps.map Prod.fst = l ∧ w.ownsRow B 115 9 v l.length (rCells ps) ∧ ∀ q ∈ ps, BytesT w q.2 q.1.data
theorem RawsX.below {w w' : World} {B : Nat} {v : Value} {l : List Rw} (h : RawsX w B v l) (hb : Below w.heap.size w w') : RawsX w' B v l := by
  obtain ⟨ps, h1, h2, h3⟩ := h
  exact ⟨ps, h1, own_below h2 hb, fun q hq => (h3 q hq).below hb⟩
theorem RawsX.nil (w : World) (B : Nat) : RawsX w B (.slice none 0 0) [] := ⟨[], rfl, World.ownsRow_nil _ _ _ _, fun q hq => by cases hq⟩
theorem RawsX.raws {w : World} {B : Nat} {v : Value} {l : List Rw} (h : RawsX w B v l) : RawsR w v l := by
  obtain ⟨ps, rfl, h2, h3⟩ := h
  rcases h2.2 with ⟨rfl, h0⟩ | ⟨g, cap, cur, rfl, hB, hh, hx⟩
  · have hz : ps = [] := by
      rw [List.length_map] at h0
      exact List.length_eq_zero_iff.1 h0
    subst hz
    exact RawsR.nil w
  · refine ⟨some ⟨g, 0, none⟩, cap, rfl, fun k r hk => ?_⟩
    rw [List.getElem?_map] at hk
    obtain ⟨q, hq, rfl⟩ := Option.map_eq_some_iff.1 hk
    have key : ∀ j u, j < 9 → (rwC q.1 q.2).toList[j]? = some u → w.cell? ⟨g, k * 9 + j, none⟩ = some u := fun j u hj hu =>
      row_at h2 _ _ (by rw [rCells_at ps k j q hq hj]; exact hu)
    have e0 : (⟨g, 0, none⟩ : Addr).add (k * 9) = ⟨g, k * 9, none⟩ := add_lit _ _
    refine ⟨⟨g, 0, none⟩, q.2, rfl, ?_, ?_, (h3 q (List.mem_of_getElem? hq)).1⟩
    · rw [e0]; exact key 0 _ (by decide) rfl
    · rw [e0]
      exact ⟨key 1 _ (by decide) rfl, key 2 _ (by decide) rfl, key 3 _ (by decide) rfl, key 4 _ (by decide) rfl, key 5 _ (by decide) rfl, key 6 _ (by decide) rfl, key 7 _ (by decide) rfl, key 8 _ (by decide) rfl⟩
theorem BytesT.row {w w' : World} {row : Option Nat} {v : Value} {l : List UInt8} (h : BytesT w v l) (hg : w.grownBy w' row) (hne : ∀ (b : Nat) (cs : Array Value), Blk w b 5 cs → some b ≠ row) : BytesT w' v l := by
  obtain ⟨⟨A, c, rfl, hc⟩, h2⟩ := h
  refine ⟨⟨A, c, rfl, fun k e hk => ?_⟩, fun ad n c' hv => ?_⟩
  · obtain ⟨ad, hA, h0⟩ := hc k e hk
    refine ⟨ad, hA, ?_⟩
    subst hA
    obtain ⟨cs, hb⟩ := h2 ad _ _ rfl
    have e1 : (ad.add k).block = ad.block := by unfold Addr.add; split <;> rfl
    rw [← h0]
    exact World.cell?_of_block (hg.block _ (World.block_lt_of_cell? _ _ h0) (by rw [e1]; exact hne _ _ hb))
  · obtain ⟨cs, hb⟩ := h2 ad n c' hv
    exact ⟨cs, hb.kept hg (hne _ _ hb)⟩
theorem EntsT.row {w w' : World} {row : Option Nat} {v : Value} {l : List En} (h : EntsT w v l) (hg : w.grownBy w' row) (hne : ∀ (b : Nat) (cs : Array Value), Blk w b 106 cs → some b ≠ row) : EntsT w' v l := by
  obtain ⟨⟨A, c, rfl, hc⟩, h2⟩ := h
  refine ⟨⟨A, c, rfl, fun k e hk => ?_⟩, fun ad n c' hv => ?_⟩
  · obtain ⟨ad, hA, h0, h1⟩ := hc k e hk
    refine ⟨ad, hA, ?_⟩
    subst hA
    obtain ⟨cs, hb⟩ := h2 ad _ _ rfl
    have e1 : (ad.add (k * 2)).block = ad.block := by unfold Addr.add; split <;> rfl
    have key : ∀ (p : Addr) (u : Value), p.block = ad.block → w.cell? p = some u → w'.cell? p = some u := by
      intro p u hp hu
      rw [← hu]
      exact World.cell?_of_block (hg.block _ (World.block_lt_of_cell? _ _ hu) (by rw [hp]; exact hne _ _ hb))
    exact ⟨key _ _ e1 h0, key _ _ e1 h1⟩
  · obtain ⟨cs, hb⟩ := h2 ad n c' hv
    exact ⟨cs, hb.kept hg (hne _ _ hb)⟩
theorem RawsX.kept {w w' : World} {row : Option Nat} {B : Nat} {v : Value} {l : List Rw} (h : RawsX w B v l) (hg : w.grownBy w' row) (h1 : v.ownBlock = none ∨ v.ownBlock ≠ row) (h2 : ∀ (b : Nat) (cs : Array Value), Blk w b 5 cs → some b ≠ row) : RawsX w' B v l := by
  obtain ⟨ps, e, h3, h4⟩ := h
  exact ⟨ps, e, h3.kept hg h1, fun q hq => (h4 q hq).row hg h2⟩
/-- What the closure has caught. -/
structure TS (w0 W : World) (jt jr jg : Nat) (v vt vr : Value) (s : Tl) : Prop where
  below : Below w0.heap.size w0 W
  kt : Blk W jt 32 #[vt]
  kr : Blk W jr 71 #[vr]
  kg : Blk W jg 54 #[.func (.func 22) #[v] #[]]
  ot : W.ownsRow w0.heap.size 3 1 vt s.1.length (iCells s.1)
  or_ : RawsX W w0.heap.size vr s.2
  ht : w0.heap.size ≤ jt
  hr : w0.heap.size ≤ jr
section
variable {w0 W W' : World} {jt jr jg : Nat} {v vt vr v' : Value} {s : Tl}
theorem TS.later (h : TS w0 W jt jr jg v vt vr s) (hb : Below W.heap.size W W') : TS w0 W' jt jr jg v vt vr s :=
  ⟨bt hb h.below, h.kt.below hb, h.kr.below hb, h.kg.below hb, own_below h.ot hb, h.or_.below hb, h.ht, h.hr⟩
theorem own_no_u8 {w : World} {B : Nat} {e : TypeId} {size n : Nat} {v : Value} {xs : List Value} (h : w.ownsRow B e size v n xs) (hne : e ≠ 5) : ∀ (b : Nat) (cs : Array Value), Blk w b 5 cs → some b ≠ v.ownBlock := fun _ _ hb e2 => own_blk_ne h hb hne e2.symm
/-- A number more. -/
theorem TS.putT {i : Int} (h : TS w0 W jt jr jg v vt vr s) (ho : W'.ownsRow w0.heap.size 3 1 v' (s.1.length + 1) (iCells s.1 ++ [.int .i64 i])) (hg : W.grownBy W' vt.ownBlock) : TS w0 (W'.setCell ⟨jt, 0, none⟩ v') jt jr jg v v' vr (s.1 ++ [i], s.2) ∧ W'.cell? ⟨jt, 0, none⟩ = some vt ∧ W'.frozen? ⟨jt, 0, none⟩ = false := by
  have k1 := h.kt.kept hg (own_blk_ne h.ot h.kt (by decide)).symm
  have k2 := h.kr.kept hg (own_blk_ne h.ot h.kr (by decide)).symm
  have k3 := h.kg.kept hg (own_blk_ne h.ot h.kg (by decide)).symm
  obtain ⟨ps, e1, h3, h4⟩ := h.or_
  have o1 : RawsX W' w0.heap.size vr s.2 := RawsX.kept ⟨ps, e1, h3, h4⟩ hg (own_apart h.ot h3 (by decide)) (own_no_u8 h.ot (by decide))
  have b1 := h.below.grown hg h.below.size (fun q hq => (h.ot.lt q hq).1)
  have hs := grown_setCell W' ⟨jt, 0, none⟩ v'
  refine ⟨⟨below_grown b1 hs h.ht, k1.set_ 0 v', k2.kept hs (by intro e; injection e with e; exact blk_ne k2 k1 (by decide) e), k3.kept hs (by intro e; injection e with e; exact blk_ne k3 k1 (by decide) e), ?_, ?_, h.ht, h.hr⟩, k1.cell 0, k1.frozen 0⟩
  · rw [iCells_snoc] at ho
    rw [List.length_append]
    exact ho.kept hs (.inr (own_blk_ne ho k1 (by decide)))
  · obtain ⟨ps, e1, h3, h4⟩ := o1
    exact RawsX.kept ⟨ps, e1, h3, h4⟩ hs (.inr (own_blk_ne h3 k1 (by decide))) (fun b cs hb e => by injection e with e; exact blk_ne hb k1 (by decide) e)
/-- A Raw more. -/
theorem TS.putR {r : Rw} {vd : Value} (h : TS w0 W jt jr jg v vt vr s) {ps : List (Rw × Value)} (e1 : ps.map Prod.fst = s.2) (h3 : W.ownsRow w0.heap.size 115 9 vr s.2.length (rCells ps)) (h4 : ∀ q ∈ ps, BytesT W q.2 q.1.data) (hd : BytesT W vd r.data) (ho1 : W'.ownsRow w0.heap.size 115 9 v' (s.2.length + 1) (rCells ps ++ (rwC r vd).toList)) (hg : W.grownBy W' vr.ownBlock) : TS w0 (W'.setCell ⟨jr, 0, none⟩ v') jt jr jg v vt v' (s.1, s.2 ++ [r]) ∧ W'.cell? ⟨jr, 0, none⟩ = some vr ∧ W'.frozen? ⟨jr, 0, none⟩ = false := by
  have k1 := h.kt.kept hg (own_blk_ne h3 h.kt (by decide)).symm
  have k2 := h.kr.kept hg (own_blk_ne h3 h.kr (by decide)).symm
  have k3 := h.kg.kept hg (own_blk_ne h3 h.kg (by decide)).symm
  have o1 := h.ot.kept hg (own_apart h3 h.ot (by decide))
  have b1 := h.below.grown hg h.below.size (fun q hq => (h3.lt q hq).1)
  have hs := grown_setCell W' ⟨jr, 0, none⟩ v'
  refine ⟨⟨below_grown b1 hs h.hr, k1.kept hs (by intro e; injection e with e; exact blk_ne k1 k2 (by decide) e), k2.set_ 0 v', k3.kept hs (by intro e; injection e with e; exact blk_ne k3 k2 (by decide) e), o1.kept hs (.inr (own_blk_ne o1 k2 (by decide))), ?_, h.ht, h.hr⟩, k2.cell 0, k2.frozen 0⟩
  rw [rCells_snoc] at ho1
  have hx : RawsX W' w0.heap.size v' (s.2 ++ [r]) := by
    refine ⟨ps ++ [(r, vd)], by rw [List.map_append, e1]; rfl, by rw [List.length_append]; exact ho1, fun q hq => ?_⟩
    rcases List.mem_append.1 hq with hq | hq
    · exact (h4 q hq).row hg (own_no_u8 h3 (by decide))
    · rw [List.mem_singleton] at hq
      subst hq
      exact hd.row hg (own_no_u8 h3 (by decide))
  obtain ⟨ps2, e2, h5, h6⟩ := hx
  exact RawsX.kept ⟨ps2, e2, h5, h6⟩ hs (.inr (own_blk_ne h5 k2 (by decide))) (fun b cs hb e => by injection e with e; exact blk_ne hb k2 (by decide) e)
/-- Entries that lie elsewhere stay. -/
theorem TS.entsT {ve : Value} {le : List En} (h : TS w0 W jt jr jg v vt vr s) (hg : W.grownBy W' vt.ownBlock) (he : EntsT W ve le) : EntsT (W'.setCell ⟨jt, 0, none⟩ v') ve le :=
  (he.row hg (fun _ _ hb e => own_blk_ne h.ot hb (by decide) e.symm)).row (grown_setCell W' ⟨jt, 0, none⟩ v') (fun b cs hb e => by injection e with e; exact blk_ne hb (h.kt.kept hg (own_blk_ne h.ot h.kt (by decide)).symm) (by decide) e)
theorem TS.entsR {ve : Value} {le : List En} {ps : List (Rw × Value)} (h : TS w0 W jt jr jg v vt vr s) (h3 : W.ownsRow w0.heap.size 115 9 vr s.2.length (rCells ps)) (hg : W.grownBy W' vr.ownBlock) (he : EntsT W ve le) : EntsT (W'.setCell ⟨jr, 0, none⟩ v') ve le :=
  (he.row hg (fun _ _ hb e => own_blk_ne h3 hb (by decide) e.symm)).row (grown_setCell W' ⟨jr, 0, none⟩ v') (fun b cs hb e => by injection e with e; exact blk_ne hb (h.kr.kept hg (own_blk_ne h3 h.kr (by decide)).symm) (by decide) e)
end
theorem info_raw : (Try.prog.info? 115).map (fun i => (i.zero, i.size, i.bytes)) = some (some (.agg rwZ), 9, 104) := by kernel_rfl
theorem raw_one (r : Rw) (A : Option Addr) (n c : Nat) : ∀ u ∈ (rwC r (.slice A n c)).toList, u.oneCell' = true := by
  intro u hu
  simp only [List.mem_cons, List.not_mem_nil, or_false] at hu
  rcases hu with rfl | rfl | rfl | rfl | rfl | rfl | rfl | rfl | rfl <;> rfl
theorem idx_first {n : Int} : ∀ {l : List Int} {k : Nat} (hk : k < l.length), (∀ j (hj : j < k), ¬ l[j] = n) → l[k] = n → l.idxOf n = k
  | [], k, hk, _, _ => absurd hk (Nat.not_lt_zero _)
  | a :: l, 0, _, _, h2 => by
    have : a = n := h2
    rw [this, List.idxOf_cons_self]
  | a :: l, k + 1, hk, h1, h2 => by
    have h0 : ¬ a = n := h1 0 (Nat.succ_pos _)
    have ih := idx_first (l := l) (k := k) (by rw [List.length_cons] at hk; omega) (fun j hj => h1 (j + 1) (by omega)) (by simpa using h2)
    rw [List.idxOf_cons, show (a == n) = false by simpa using h0, cond_false, ih]
set_option maxHeartbeats 4000000 in
/-- Where a number stands. -/
theorem sidx_any (v : Value) (l : List Int) (n : Int) (w : World) (h : IntsR w v l) (hl : l.length ≤ 1000) :
    Calls Try.prog 71 #[v, .int .i64 n] w fun e w' => e = .returned (.int .i64 (ixI l n)) ∧ w = w' := by
  obtain ⟨X, hX⟩ : ∃ X, ixI l n = X := ⟨_, rfl⟩
  rw [hX]
  have HY := Lib.hid (fun (k : Nat) (hk : k < l.length) (h1 : ∀ j (hj : j < k), ¬ l[j] = n) (h2 : l[k] = n) => show (k : Int) = X by
    rw [← hX]
    have hm : n ∈ l := h2 ▸ List.getElem_mem hk
    unfold ixI
    rw [if_pos hm]
    congr 1
    exact (idx_first hk h1 h2).symm)
  have HN := Lib.hid (fun (h1 : ∀ j (hj : j < l.length), ¬ l[j] = n) => show (-1 : Int) = X by
    rw [← hX]
    unfold ixI
    rw [if_neg]
    intro hm
    obtain ⟨j, hj, hj2⟩ := List.getElem_of_mem hm
    exact h1 j hj hj2)
  obtain ⟨A, c, rfl⟩ := ints_form h rfl
  have HE := Lib.hid h
  clear h hX
  go_enter Try.func71, Try.ntmps71
  go_wp2
  go_loopg [8] l.length (fun gh s8 wr => ∃ k : Nat, s8 = .int .i64 k ∧ k ≤ l.length ∧ gh = l.length - k ∧ (∀ j (hj : j < k) (hl : j < l.length), ¬ l[j] = n) ∧ w = wr)
  case atStart => exact ⟨0, rfl, Nat.zero_le _, rfl, fun j hj => absurd hj (Nat.not_lt_zero _), rfl⟩
  case round =>
    obtain ⟨k, rfl, hk, rfl, hx, rfl⟩ := hrel
    have HX := Lib.hid hx
    clear hx
    by_cases hlt : k < l.length
    · have hlt' : (k : Int) < (l.length : Int) := by omega
      obtain ⟨a, hka⟩ : ∃ a, l[k]? = some a := ⟨_, List.getElem?_eq_getElem hlt⟩
      obtain ⟨ad, hA, d0⟩ := ints_get HE.out hka
      subst hA
      have hka2 : l[k] = a := (List.getElem?_eq_some_iff.1 hka).2
      by_cases q : a = n
      · have q2 : (n == a) = true := by simpa using q.symm
        have HF := Lib.hid (HY.out k hlt (fun j hj => HX.out j hj (by omega)) (by rw [hka2]; exact q))
        clear q hka hka2
        go_wp2
        go_ret
        exact ⟨ret_int HF.out, rfl⟩
      · have q2 : (n == a) = false := by
          rw [Bool.eq_false_iff]
          simp only [ne_eq, beq_iff_eq]
          exact fun h => q h.symm
        have HQ := Lib.hid (show ¬ l[k] = n by rw [hka2]; exact q)
        clear q hka hka2
        go_wp2
        go_roundg (l.length - (k + 1))
        case measure => omega
        case rel => exact ⟨k + 1, by go_num, by omega, rfl, (fun j hj hl => by
          by_cases e : j = k
          · subst e; exact HQ.out
          · exact HX.out j (by omega) hl), rfl⟩
    · have hlt' : ¬ (k : Int) < (l.length : Int) := by omega
      have HF := Lib.hid (HN.out (fun j hj => HX.out j (by omega) hj))
      go_wp2
      go_ret
      exact ⟨ret_int HF.out, rfl⟩
/-- Just as long as the closure has caught what it has. -/
theorem TS.toldR {w0 W : World} {jt jr jg : Nat} {v vt vr : Value} {s : Tl} (h : TS w0 W jt jr jg v vt vr s) : IntsR W vt s.1 := IntsR.of_own h.ot
theorem ts_form {w0 W : World} {jt jr jg : Nat} {v vt vr : Value} {s : Tl} (h : TS w0 W jt jr jg v vt vr s) : ∃ A c A' c', vt = .slice A s.1.length c ∧ vr = .slice A' s.2.length c' := by
  obtain ⟨A, c, rfl⟩ := own_slice h.ot
  obtain ⟨ps, e1, h3, h4⟩ := h.or_
  obtain ⟨A', c', rfl⟩ := own_slice h3
  exact ⟨A, c, A', c', rfl, rfl⟩
set_option maxHeartbeats 16000000 in
theorem tellC_any (w0 : World) (t : List Nd) (jt jr jg : Nat) (v vt vr : Value) (s : Tl) (i p : Int) (nm : Nm) (W : World) (h : TS w0 W jt jr jg v vt vr s) (hT : TabP w0 v t) (h1 : s.1.length ≤ 1000) (h2 : s.2.length ≤ 1000) :
    Calls Try.prog 70 #[.int .i64 i, .int .i64 p, .string (bA nm), .pointer (some ⟨jt, 0, none⟩), .pointer (some ⟨jr, 0, none⟩), .pointer (some ⟨jg, 0, none⟩)] W fun e w' => e = .returned (.tuple #[]) ∧ (∃ vt' vr', TS w0 w' jt jr jg v vt' vr' (tlE t p s i nm)) ∧ ∀ ve le, EntsT W ve le → EntsT w' ve le := by
  obtain ⟨A1, c1, A2, c2, rfl, rfl⟩ := ts_form h
  have HS := Lib.hid h
  have HI := Lib.hid (sidx_any _ s.1 i W h.toldR h1)
  have HG := Lib.hid (fun X (hX : Below w0.heap.size w0 X) => get_any v t i X (hT.below hX))
  have p0 : W.cell? ⟨jt, 0, none⟩ = some (.slice A1 s.1.length c1) := h.kt.cell 0
  have p1 : W.cell? ⟨jr, 0, none⟩ = some (.slice A2 s.2.length c2) := h.kr.cell 0
  have p2 : W.cell? ⟨jg, 0, none⟩ = some (.func (.func 22) #[v] #[]) := h.kg.cell 0
  have f1 := h.kr.frozen 0
  have f0 := h.kt.frozen 0
  obtain ⟨PS, e1, h3, h4⟩ := h.or_
  have HOWN := Lib.hid h3
  have HPS := Lib.hid (show PS.map Prod.fst = s.2 ∧ ∀ q ∈ PS, BytesT W q.2 q.1.data from ⟨e1, h4⟩)
  have HBW := Lib.hid h.below.size
  clear h hT e1 h3 h4
  by_cases hm : i ∈ s.1
  · have hx : ixI s.1 i = (s.1.idxOf i : Int) := if_pos hm
    rw [hx] at HI
    have hlt : s.1.idxOf i < s.1.length := List.idxOf_lt_length_of_mem hm
    have HE := Lib.hid (show tlE t p s i nm = (s.1, s.2 ++ [rwA p nm ((s.1.idxOf i : Int) + 1)]) from if_pos hm)
    rw [HE.out]
    generalize s.1.idxOf i = K at HI hlt ⊢
    have hk0 : (0 : Int) ≤ (K : Int) := by omega
    have hkw : IntKind.i64.wrap ((K : Int) + 1) = (K : Int) + 1 := by rw [IntKind.wrap_i64] <;> omega
    clear hm hx HE HG
    go_enter Try.func70, Try.ntmps70
    go_wp2_with fail
    refine HI.out.mono ?_
    rintro e w1 ⟨rfl, rfl⟩
    clear HI
    go_wp2_with (at_builtin; refine wpList_append_one rfl (.tmp 17) (.tmp 23) _ rfl w0.heap.size 115 _ 9 104 Try.underlying71 info_raw rfl (by decide) (.slice A2 s.2.length c2) s.2.length (rCells PS) rfl W [.int .i64 4, .int .i64 0, .int .i64 0, .int .i64 0, .int .i64 p, .string (bA nm), .slice none 0 0, .string ⟨#[]⟩, .int .i64 ((K : Int) + 1)] rfl (raw_one (rwA p nm ((K : Int) + 1)) none 0 0) HOWN.out rfl (by omega) (by omega) HBW.out ?_; intro v5 w5 ho hg; obtain ⟨hts, q1, q2⟩ := TS.putR (r := rwA p nm ((K : Int) + 1)) HS.out HPS.out.1 HOWN.out HPS.out.2 (BytesT.nil _) ho hg; have HTS := Lib.hid hts; obtain ⟨A9, c9, hv9⟩ := own_slice ho; subst hv9; have HEN := Lib.hid (fun ve le (he : EntsT W ve le) => TS.entsR (v' := .slice A9 (s.2.length + 1) c9) HS.out HOWN.out hg he); clear ho hg hts)
    refine bodyPost_ret (results_none rfl _ _ _) rfl ?_
    exact ⟨rfl, ⟨_, _, HTS.out⟩, HEN.out⟩
  · have hx : ixI s.1 i = -1 := if_neg hm
    rw [hx] at HI
    have HE := Lib.hid (show tlE t p s i nm = (s.1 ++ [i], s.2 ++ [rwN (tget t i) p nm]) from if_neg hm)
    rw [HE.out]
    generalize tget t i = n at HG ⊢
    clear hm hx HE HOWN HPS
    go_enter Try.func70, Try.ntmps70
    go_wp2_with fail
    refine HI.out.mono ?_
    rintro e w1 ⟨rfl, rfl⟩
    clear HI
    go_wp2_with fail
    refine (HG.out _ HS.out.below).mono ?_
    rintro e w2 ⟨vd, ve, rfl, hd2, he2, -, -, hb2⟩
    obtain ⟨A5, k5, rfl⟩ := bytesT_form hd2
    obtain ⟨A6, k6, rfl⟩ := entsT_form he2
    have hts2 := (HS.out.later hb2).later (ba w2 (.cells (ndC n (.slice A5 n.data.length k5) (.slice A6 n.ents.length k6)) 39))
    have hkn := Blk.new w2 39 (ndC n (.slice A5 n.data.length k5) (.slice A6 n.ents.length k6))
    have hd3 := hd2.below (ba w2 (.cells (ndC n (.slice A5 n.data.length k5) (.slice A6 n.ents.length k6)) 39))
    obtain ⟨d, hdz⟩ : ∃ d, w2.heap.size = d := ⟨_, rfl⟩
    obtain ⟨W3, hW3⟩ : ∃ W3, w2.alloc (.cells (ndC n (.slice A5 n.data.length k5) (.slice A6 n.ents.length k6)) 39) = W3 := ⟨_, rfl⟩
    rw [hW3] at hts2 hkn hd3
    rw [hdz] at hkn
    have HTS3 := Lib.hid hts2
    have HKN3 := Lib.hid hkn
    have HD3 := Lib.hid hd3
    have HBW3 := Lib.hid hts2.below.size
    clear p0 p1 p2 f0 f1
    have p0 : W3.cell? ⟨jt, 0, none⟩ = some (.slice A1 s.1.length c1) := hts2.kt.cell 0
    have HEN3 := Lib.hid (show ∀ ve le, EntsT W ve le → EntsT W3 ve le from fun ve le he => by rw [← hW3]; exact (he.below hb2).below (ba w2 _))
    clear hts2 hkn hd3 hd2 he2 hb2 HS HG HBW
    unfold nodeV
    go_wp2_with (at_builtin; refine wpList_append_one rfl (.tmp 31) (.tmp 33) _ rfl w0.heap.size 3 _ 1 8 Try.underlying32 info_int rfl (by decide) (.slice A1 s.1.length c1) s.1.length (iCells s.1) rfl W3 [.int .i64 i] rfl (int_one i) HTS3.out.ot rfl (by omega) (by omega) HBW3.out ?_; intro v5 w5 ho hg; obtain ⟨hts, q1, q2⟩ := TS.putT HTS3.out ho hg; have HTS5 := Lib.hid hts; have HKN5 := Lib.hid ((HKN3.out.kept hg (own_blk_ne HTS3.out.ot HKN3.out (by decide)).symm).kept (grown_setCell w5 ⟨jt, 0, none⟩ v5) (by intro e; injection e with e; exact blk_ne (HKN3.out.kept hg (own_blk_ne HTS3.out.ot HKN3.out (by decide)).symm) (HTS3.out.kt.kept hg (own_blk_ne HTS3.out.ot HTS3.out.kt (by decide)).symm) (by decide) e)); have HD5 := Lib.hid ((HD3.out.row hg (own_no_u8 HTS3.out.ot (by decide))).row (grown_setCell w5 ⟨jt, 0, none⟩ v5) (fun b cs hb e => by injection e with e; exact blk_ne hb (HTS3.out.kt.kept hg (own_blk_ne HTS3.out.ot HTS3.out.kt (by decide)).symm) (by decide) e)); obtain ⟨A9, c9, hv9⟩ := own_slice ho; subst hv9; have HEN5 := Lib.hid (fun ve le (he : EntsT W ve le) => TS.entsT (v' := .slice A9 (s.1.length + 1) c9) HTS3.out hg (HEN3.out ve le he)); clear ho hg hts)
    obtain ⟨W6, hW6⟩ : ∃ W6, w5.setCell ⟨jt, 0, none⟩ (.slice A9 (s.1.length + 1) c9) = W6 := ⟨_, rfl⟩
    rw [hW6] at HTS5 HKN5 HD5 HEN5 ⊢
    clear hW6 q1 q2 p0 hW3 hdz HTS3 HKN3 HD3 HBW3
    have HTD := Lib.hid (HTS5.out.later (Below.refl _ _).drew)
    have HDD := Lib.hid (HD5.out.below (Below.refl _ _).drew)
    have hkd := HKN5.out.below (Below.refl _ _).drew
    have HKD := Lib.hid hkd
    obtain ⟨n0, n1, n2, n3, n4, n5, n6⟩ := hkd.c7
    have r1 : W6.drew.cell? ⟨jr, 0, none⟩ = some (.slice A2 s.2.length c2) := HTD.out.kr.cell 0
    have HRW := Lib.hid (rawOf_any n A5 A6 n.data.length k5 n.ents.length k6 p nm W6.drew)
    unfold nodeV at HRW
    obtain ⟨i0, hi0, hz0, hz1, hz2⟩ := info_parts info_raw
    clear hkd HTS5 HKN5 HD5
    go_upto_region 5 with fail
    go_region_law (first
      | (go_simp; go_at_call 72; (with_reducible refine HRW.out.mono ?_); rintro e x7 ⟨rfl, h1⟩; have h1x := Lib.hid h1; have HTS7 := Lib.hid (HTD.out.later h1); have z7 : jr < x7.heap.size := HTS7.out.kr.lt; have r2 : x7.cell? ⟨jr, 0, none⟩ = some (.slice A2 s.2.length c2) := HTS7.out.kr.cell 0; have HTSA := Lib.hid (HTS7.out.later (ba x7 (.cells (List.toArray [.int .i64 n.kind, .int .i64 n.mode, .int .i64 n.uid, .int .i64 n.gid, .int .i64 p, .string (bA nm), .slice A5 n.data.length k5, .string (bA n.target), .int .i64 0]) 115))); have HDA := Lib.hid ((HDD.out.below h1).below (ba x7 (.cells (List.toArray [.int .i64 n.kind, .int .i64 n.mode, .int .i64 n.uid, .int .i64 n.gid, .int .i64 p, .string (bA nm), .slice A5 n.data.length k5, .string (bA n.target), .int .i64 0]) 115))); have HKA := Lib.hid ((HKD.out.below h1).below (ba x7 (.cells (List.toArray [.int .i64 n.kind, .int .i64 n.mode, .int .i64 n.uid, .int .i64 n.gid, .int .i64 p, .string (bA nm), .slice A5 n.data.length k5, .string (bA n.target), .int .i64 0]) 115))); obtain ⟨PS2, e1, h3, h4⟩ := HTSA.out.or_; have HOWN2 := Lib.hid h3; have HPS2 := Lib.hid (show PS2.map Prod.fst = s.2 ∧ _ from ⟨e1, h4⟩); have HNEW := Lib.hid (fun j u (hj : ([.int .i64 n.kind, .int .i64 n.mode, .int .i64 n.uid, .int .i64 n.gid, .int .i64 p, .string (bA nm), .slice A5 n.data.length k5, .string (bA n.target), .int .i64 0] : List Value)[j]? = some u) => World.news_of_block (heap_alloc_new x7 (.cells (List.toArray [.int .i64 n.kind, .int .i64 n.mode, .int .i64 n.uid, .int .i64 n.gid, .int .i64 p, .string (bA nm), .slice A5 n.data.length k5, .string (bA n.target), .int .i64 0]) 115)) j u (by simpa using hj)); have HBS := Lib.hid (HTSA.out.below.size); clear e1 h3 h4)
      | (refine step_append_lies _ rfl (.tmp 35) (.tmp 40) 71 rfl w0.heap.size 115 i0 _ 9 104 Try.underlying71 hi0 hz0 hz1 hz2 rfl (by decide) (.slice A2 s.2.length c2) s.2.length (rCells PS2) (by simp [Act.eval]) HOWN2.out ⟨x7.heap.size, 0, none⟩ 1 1 [.int .i64 n.kind, .int .i64 n.mode, .int .i64 n.uid, .int .i64 n.gid, .int .i64 p, .string (bA nm), .slice A5 n.data.length k5, .string (bA n.target), .int .i64 0] (by simp [Act.eval]) rfl HNEW.out (raw_one (rwN n p nm) A5 n.data.length k5) (by decide) (by unfold maxLen; omega) (by omega) HBS.out _ rfl ?_; intro g1 cap1 w8 ho1 hg1 hat1 hlt1; obtain ⟨hts, q1, q2⟩ := TS.putR (r := rwN n p nm) HTSA.out HPS2.out.1 HOWN2.out HPS2.out.2 HDA.out ho1 hg1; have HTS8 := Lib.hid hts; have HEN8 := Lib.hid (fun ve le (he : EntsT W ve le) => TS.entsR (v' := .slice (some ⟨g1, 0, none⟩) (s.2.length + 1) cap1) HTSA.out HOWN2.out hg1 ((((HEN5.out ve le he).below (Below.refl _ _).drew).below h1x.out).below (ba x7 _))); clear hts ho1 hg1 hat1 hlt1))
    all_goals (
      go_wp2
      go_end0
      exact ⟨rfl, ⟨_, _, HTS8.out⟩, HEN8.out⟩)
end Go.Proofs.Ytnecnnajngfooaa
