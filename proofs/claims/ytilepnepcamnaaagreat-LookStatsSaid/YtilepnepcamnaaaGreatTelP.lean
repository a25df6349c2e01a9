/-
  Tell, of any table: what the closure puts behind, and the loop. The condition: a table's nodes may be, and it has room for 24 at most.
-/
import Derived.Test.YtilepnepcamnaaaGreatTelM
import Derived.Test.YtilepnepcamnaaaGreatRaw
import Derived.Deep.RegionHeld3
import Derived.Deep.RegionWith
namespace Go.Proofs.YtilepnepcamnaaaGreat
open Go Go.RowKit
set_option maxRecDepth 100000

attribute [local go_sem] cell_off4 cell_blk4
/-- The cells of a row of Raws. -/
def rCells (l : List (Rw × Value)) : List Value := l.flatMap (fun q => (rwC q.1 q.2).toList)
theorem rCells_snoc (l : List (Rw × Value)) (r : Rw) (v : Value) : rCells l ++ (rwC r v).toList = rCells (l ++ [(r, v)]) := by simp [rCells]
theorem rCells_len : ∀ l : List (Rw × Value), (rCells l).length = l.length * 9
  | [] => rfl
  | q :: l => by
    have ih := rCells_len l
    have e : rCells (q :: l) = (rwC q.1 q.2).toList ++ rCells l := rfl
    rw [e, List.length_append, ih, List.length_cons]
    show 9 + l.length * 9 = (l.length + 1) * 9
    omega
theorem rCells_at : ∀ (l : List (Rw × Value)) (k j : Nat) (q : Rw × Value), l[k]? = some q → j < 9 → (rCells l)[k * 9 + j]? = (rwC q.1 q.2).toList[j]?
  | [], k, j, q, h, _ => by simp at h
  | p :: l, 0, j, q, h, hj => by
    have : p = q := by simpa using h
    subst this
    have e : rCells (p :: l) = (rwC p.1 p.2).toList ++ rCells l := rfl
    rw [e, Nat.zero_mul, Nat.zero_add, List.getElem?_append_left (by show j < 9; exact hj)]
  | p :: l, k + 1, j, q, h, hj => by
    have e : rCells (p :: l) = (rwC p.1 p.2).toList ++ rCells l := rfl
    rw [e, List.getElem?_append_right (by show 9 ≤ _; omega)]
    have := rCells_at l k j q (by simpa using h) hj
    rw [← this]
    congr 1
    show (k + 1) * 9 + j - 9 = k * 9 + j
    omega
/-- A row of Raws of the call's own. -/
def RawsX (w : World) (B : Nat) (v : Value) (l : List Rw) : Prop := ∃ ps : List (Rw × Value), ps.map Prod.fst = l ∧ w.ownsRow B 65 9 v l.length (rCells ps) ∧ ∀ q ∈ ps, BytesT w q.2 q.1.data
theorem RawsX.below {w w' : World} {B : Nat} {v : Value} {l : List Rw} (h : RawsX w B v l) (hb : Below w.heap.size w w') : RawsX w' B v l := by
  obtain ⟨ps, h1, h2, h3⟩ := h
  exact ⟨ps, h1, own_below h2 hb, fun q hq => (h3 q hq).below hb⟩
theorem RawsX.nil (w : World) (B : Nat) : RawsX w B (.slice none 0 0) [] := ⟨[], rfl, World.ownsRow_nil _ _ _ _, fun q hq => by cases hq⟩
theorem RawsX.raws {w : World} {B : Nat} {v : Value} {l : List Rw} (h : RawsX w B v l) : RawsR w v l := by
  obtain ⟨ps, rfl, h2, h3⟩ := h
  rcases h2.2 with ⟨rfl, h0⟩ | ⟨g, cap, cur, rfl, hB, hh, hx⟩
  · have hz : ps = [] := by
      rw [List.length_map] at h0
      exact List.length_eq_zero_iff.1 h0
    subst hz
    exact RawsR.nil w
  · refine ⟨some ⟨g, 0, none⟩, cap, rfl, fun k r hk => ?_⟩
    rw [List.getElem?_map] at hk
    obtain ⟨q, hq, rfl⟩ := Option.map_eq_some_iff.1 hk
    have key : ∀ j u, j < 9 → (rwC q.1 q.2).toList[j]? = some u → w.cell? ⟨g, k * 9 + j, none⟩ = some u := fun j u hj hu =>
      row_at h2 _ _ (by rw [rCells_at ps k j q hq hj]; exact hu)
    have e0 : (⟨g, 0, none⟩ : Addr).add (k * 9) = ⟨g, k * 9, none⟩ := add_lit _ _
    refine ⟨⟨g, 0, none⟩, q.2, rfl, ?_, ?_, (h3 q (List.mem_of_getElem? hq)).1⟩
    · rw [e0]; exact key 0 _ (by decide) rfl
    · rw [e0]
      exact ⟨key 1 _ (by decide) rfl, key 2 _ (by decide) rfl, key 3 _ (by decide) rfl, key 4 _ (by decide) rfl, key 5 _ (by decide) rfl, key 6 _ (by decide) rfl, key 7 _ (by decide) rfl, key 8 _ (by decide) rfl⟩
theorem BytesT.row {w w' : World} {row : Option Nat} {v : Value} {l : List UInt8} (h : BytesT w v l) (hg : w.grownBy w' row) (hne : ∀ (b : Nat) (cs : Array Value), Blk w b 5 cs → some b ≠ row) : BytesT w' v l := by
  obtain ⟨⟨A, c, rfl, hc⟩, h2⟩ := h
  refine ⟨⟨A, c, rfl, fun k e hk => ?_⟩, fun ad n c' hv => ?_⟩
  · obtain ⟨ad, hA, h0⟩ := hc k e hk
    refine ⟨ad, hA, ?_⟩
    subst hA
    obtain ⟨cs, hb⟩ := h2 ad _ _ rfl
    have e1 : (ad.add k).block = ad.block := by unfold Addr.add; split <;> rfl
    rw [← h0]
    exact World.cell?_of_block (hg.block _ (World.block_lt_of_cell? _ _ h0) (by rw [e1]; exact hne _ _ hb))
  · obtain ⟨cs, hb⟩ := h2 ad n c' hv
    exact ⟨cs, hb.kept hg (hne _ _ hb)⟩
theorem EntsT.row {w w' : World} {row : Option Nat} {v : Value} {l : List En} (h : EntsT w v l) (hg : w.grownBy w' row) (hne : ∀ (b : Nat) (cs : Array Value), Blk w b 103 cs → some b ≠ row) : EntsT w' v l := by
  obtain ⟨⟨A, c, rfl, hc⟩, h2⟩ := h
  refine ⟨⟨A, c, rfl, fun k e hk => ?_⟩, fun ad n c' hv => ?_⟩
  · obtain ⟨ad, hA, h0, h1⟩ := hc k e hk
    refine ⟨ad, hA, ?_⟩
    subst hA
    obtain ⟨cs, hb⟩ := h2 ad _ _ rfl
    have e1 : (ad.add (k * 2)).block = ad.block := by unfold Addr.add; split <;> rfl
    have key : ∀ (p : Addr) (u : Value), p.block = ad.block → w.cell? p = some u → w'.cell? p = some u := by
      intro p u hp hu
      rw [← hu]
      exact World.cell?_of_block (hg.block _ (World.block_lt_of_cell? _ _ hu) (by rw [hp]; exact hne _ _ hb))
    exact ⟨key _ _ e1 h0, key _ _ e1 h1⟩
  · obtain ⟨cs, hb⟩ := h2 ad n c' hv
    exact ⟨cs, hb.kept hg (hne _ _ hb)⟩
theorem RawsX.kept {w w' : World} {row : Option Nat} {B : Nat} {v : Value} {l : List Rw} (h : RawsX w B v l) (hg : w.grownBy w' row) (h1 : v.ownBlock = none ∨ v.ownBlock ≠ row) (h2 : ∀ (b : Nat) (cs : Array Value), Blk w b 5 cs → some b ≠ row) : RawsX w' B v l := by
  obtain ⟨ps, e, h3, h4⟩ := h
  exact ⟨ps, e, h3.kept hg h1, fun q hq => (h4 q hq).row hg h2⟩
/-- What the closure has caught. -/
structure TS (w0 W : World) (jt jr jg : Nat) (v vt vr : Value) (s : Tl) : Prop where
  below : Below w0.heap.size w0 W
  kt : Blk W jt 23 #[vt]
  kr : Blk W jr 22 #[vr]
  kg : Blk W jg 72 #[.func (.func 30) #[v] #[]]
  ot : W.ownsRow w0.heap.size 3 1 vt s.1.length (iCells s.1)
  or_ : RawsX W w0.heap.size vr s.2
  ht : w0.heap.size ≤ jt
  hr : w0.heap.size ≤ jr
section
variable {w0 W W' : World} {jt jr jg : Nat} {v vt vr v' : Value} {s : Tl}
theorem TS.later (h : TS w0 W jt jr jg v vt vr s) (hb : Below W.heap.size W W') : TS w0 W' jt jr jg v vt vr s :=
  ⟨bt hb h.below, h.kt.below hb, h.kr.below hb, h.kg.below hb, own_below h.ot hb, h.or_.below hb, h.ht, h.hr⟩
theorem own_no_u8 {w : World} {B : Nat} {e : TypeId} {size n : Nat} {v : Value} {xs : List Value} (h : w.ownsRow B e size v n xs) (hne : e ≠ 5) : ∀ (b : Nat) (cs : Array Value), Blk w b 5 cs → some b ≠ v.ownBlock := fun _ _ hb e2 => own_blk_ne h hb hne e2.symm
/-- A number more. -/
theorem TS.putT {i : Int} (h : TS w0 W jt jr jg v vt vr s) (ho : W'.ownsRow w0.heap.size 3 1 v' (s.1.length + 1) (iCells s.1 ++ [.int .i64 i])) (hg : W.grownBy W' vt.ownBlock) : TS w0 (W'.setCell ⟨jt, 0, none⟩ v') jt jr jg v v' vr (s.1 ++ [i], s.2) ∧ W'.cell? ⟨jt, 0, none⟩ = some vt ∧ W'.frozen? ⟨jt, 0, none⟩ = false := by
  have k1 := h.kt.kept hg (own_blk_ne h.ot h.kt (by decide)).symm
  have k2 := h.kr.kept hg (own_blk_ne h.ot h.kr (by decide)).symm
  have k3 := h.kg.kept hg (own_blk_ne h.ot h.kg (by decide)).symm
  obtain ⟨ps, e1, h3, h4⟩ := h.or_
  have o1 : RawsX W' w0.heap.size vr s.2 := RawsX.kept ⟨ps, e1, h3, h4⟩ hg (own_apart h.ot h3 (by decide)) (own_no_u8 h.ot (by decide))
  have b1 := h.below.grown hg h.below.size (fun q hq => (h.ot.lt q hq).1)
  have hs := grown_setCell W' ⟨jt, 0, none⟩ v'
  refine ⟨⟨below_grown b1 hs h.ht, k1.set_ 0 v', k2.kept hs (by intro e; injection e with e; exact blk_ne k2 k1 (by decide) e), k3.kept hs (by intro e; injection e with e; exact blk_ne k3 k1 (by decide) e), ?_, ?_, h.ht, h.hr⟩, k1.cell 0, k1.frozen 0⟩
  · rw [iCells_snoc] at ho
    rw [List.length_append]
    exact ho.kept hs (.inr (own_blk_ne ho k1 (by decide)))
  · obtain ⟨ps, e1, h3, h4⟩ := o1
    exact RawsX.kept ⟨ps, e1, h3, h4⟩ hs (.inr (own_blk_ne h3 k1 (by decide))) (fun b cs hb e => by injection e with e; exact blk_ne hb k1 (by decide) e)
/-- A Raw more. -/
theorem TS.putR {r : Rw} {vd : Value} (h : TS w0 W jt jr jg v vt vr s) {ps : List (Rw × Value)} (e1 : ps.map Prod.fst = s.2) (h3 : W.ownsRow w0.heap.size 65 9 vr s.2.length (rCells ps)) (h4 : ∀ q ∈ ps, BytesT W q.2 q.1.data) (hd : BytesT W vd r.data) (ho1 : W'.ownsRow w0.heap.size 65 9 v' (s.2.length + 1) (rCells ps ++ (rwC r vd).toList)) (hg : W.grownBy W' vr.ownBlock) : TS w0 (W'.setCell ⟨jr, 0, none⟩ v') jt jr jg v vt v' (s.1, s.2 ++ [r]) ∧ W'.cell? ⟨jr, 0, none⟩ = some vr ∧ W'.frozen? ⟨jr, 0, none⟩ = false := by
  have k1 := h.kt.kept hg (own_blk_ne h3 h.kt (by decide)).symm
  have k2 := h.kr.kept hg (own_blk_ne h3 h.kr (by decide)).symm
  have k3 := h.kg.kept hg (own_blk_ne h3 h.kg (by decide)).symm
  have o1 := h.ot.kept hg (own_apart h3 h.ot (by decide))
  have b1 := h.below.grown hg h.below.size (fun q hq => (h3.lt q hq).1)
  have hs := grown_setCell W' ⟨jr, 0, none⟩ v'
  refine ⟨⟨below_grown b1 hs h.hr, k1.kept hs (by intro e; injection e with e; exact blk_ne k1 k2 (by decide) e), k2.set_ 0 v', k3.kept hs (by intro e; injection e with e; exact blk_ne k3 k2 (by decide) e), o1.kept hs (.inr (own_blk_ne o1 k2 (by decide))), ?_, h.ht, h.hr⟩, k2.cell 0, k2.frozen 0⟩
  rw [rCells_snoc] at ho1
  have hx : RawsX W' w0.heap.size v' (s.2 ++ [r]) := by
    refine ⟨ps ++ [(r, vd)], by rw [List.map_append, e1]; rfl, by rw [List.length_append]; exact ho1, fun q hq => ?_⟩
    rcases List.mem_append.1 hq with hq | hq
    · exact (h4 q hq).row hg (own_no_u8 h3 (by decide))
    · rw [List.mem_singleton] at hq
      subst hq
      exact hd.row hg (own_no_u8 h3 (by decide))
  obtain ⟨ps2, e2, h5, h6⟩ := hx
  exact RawsX.kept ⟨ps2, e2, h5, h6⟩ hs (.inr (own_blk_ne h5 k2 (by decide))) (fun b cs hb e => by injection e with e; exact blk_ne hb k2 (by decide) e)
/-- Entries that lie elsewhere stay. -/
theorem TS.entsT {ve : Value} {le : List En} (h : TS w0 W jt jr jg v vt vr s) (hg : W.grownBy W' vt.ownBlock) (he : EntsT W ve le) : EntsT (W'.setCell ⟨jt, 0, none⟩ v') ve le :=
  (he.row hg (fun _ _ hb e => own_blk_ne h.ot hb (by decide) e.symm)).row (grown_setCell W' ⟨jt, 0, none⟩ v') (fun b cs hb e => by injection e with e; exact blk_ne hb (h.kt.kept hg (own_blk_ne h.ot h.kt (by decide)).symm) (by decide) e)
theorem TS.entsR {ve : Value} {le : List En} {ps : List (Rw × Value)} (h : TS w0 W jt jr jg v vt vr s) (h3 : W.ownsRow w0.heap.size 65 9 vr s.2.length (rCells ps)) (hg : W.grownBy W' vr.ownBlock) (he : EntsT W ve le) : EntsT (W'.setCell ⟨jr, 0, none⟩ v') ve le :=
  (he.row hg (fun _ _ hb e => own_blk_ne h3 hb (by decide) e.symm)).row (grown_setCell W' ⟨jr, 0, none⟩ v') (fun b cs hb e => by injection e with e; exact blk_ne hb (h.kr.kept hg (own_blk_ne h3 h.kr (by decide)).symm) (by decide) e)
end
theorem info_raw : (Tryz.prog.info? 65).map (fun i => (i.zero, i.size, i.bytes)) = some (some (.agg rwZ), 9, 104) := by kernel_rfl
theorem raw_one (r : Rw) (A : Option Addr) (n c : Nat) : ∀ u ∈ (rwC r (.slice A n c)).toList, u.oneCell' = true := by
  intro u hu
  simp only [List.mem_cons, List.not_mem_nil, or_false] at hu
  rcases hu with rfl | rfl | rfl | rfl | rfl | rfl | rfl | rfl | rfl <;> rfl
theorem idx_first {n : Int} : ∀ {l : List Int} {k : Nat} (hk : k < l.length), (∀ j (hj : j < k), ¬ l[j] = n) → l[k] = n → l.idxOf n = k
  | [], k, hk, _, _ => absurd hk (Nat.not_lt_zero _)
  | a :: l, 0, _, _, h2 => by
    have : a = n := h2
    rw [this, List.idxOf_cons_self]
  | a :: l, k + 1, hk, h1, h2 => by
    have h0 : ¬ a = n := h1 0 (Nat.succ_pos _)
    have ih := idx_first (l := l) (k := k) (by rw [List.length_cons] at hk; omega) (fun j hj => h1 (j + 1) (by omega)) (by simpa using h2)
    rw [List.idxOf_cons, show (a == n) = false by simpa using h0, cond_false, ih]
set_option maxHeartbeats 4000000 in
/-- Where a number stands. -/
theorem sidx_any (v : Value) (l : List Int) (n : Int) (w : World) (h : IntsR w v l) (hl : l.length ≤ 1000) :
    Calls Tryz.prog 144 #[v, .int .i64 n] w fun e w' => e = .returned (.int .i64 (ixI l n)) ∧ w = w' := by
  obtain ⟨X, hX⟩ : ∃ X, ixI l n = X := ⟨_, rfl⟩
  rw [hX]
  have HY := Lib.hid (fun (k : Nat) (hk : k < l.length) (h1 : ∀ j (hj : j < k), ¬ l[j] = n) (h2 : l[k] = n) => show (k : Int) = X by
    rw [← hX]
    have hm : n ∈ l := h2 ▸ List.getElem_mem hk
    unfold ixI
    rw [if_pos hm]
    congr 1
    exact (idx_first hk h1 h2).symm)
  have HN := Lib.hid (fun (h1 : ∀ j (hj : j < l.length), ¬ l[j] = n) => show (-1 : Int) = X by
    rw [← hX]
    unfold ixI
    rw [if_neg]
    intro hm
    obtain ⟨j, hj, hj2⟩ := List.getElem_of_mem hm
    exact h1 j hj hj2)
  obtain ⟨A, c, rfl⟩ := ints_form h rfl
  have HE := Lib.hid h
  clear h hX
  go_enter Tryz.func144, Tryz.ntmps144
  go_wp2
  go_loopg [8] l.length (fun gh s8 wr => ∃ k : Nat, s8 = .int .i64 k ∧ k ≤ l.length ∧ gh = l.length - k ∧ (∀ j (hj : j < k) (hl : j < l.length), ¬ l[j] = n) ∧ w = wr)
  case atStart => exact ⟨0, rfl, Nat.zero_le _, rfl, fun j hj => absurd hj (Nat.not_lt_zero _), rfl⟩
  case round =>
    obtain ⟨k, rfl, hk, rfl, hx, rfl⟩ := hrel
    have HX := Lib.hid hx
    clear hx
    by_cases hlt : k < l.length
    · have hlt' : (k : Int) < (l.length : Int) := by omega
      obtain ⟨a, hka⟩ : ∃ a, l[k]? = some a := ⟨_, List.getElem?_eq_getElem hlt⟩
      obtain ⟨ad, hA, d0⟩ := ints_get HE.out hka
      subst hA
      have hka2 : l[k] = a := (List.getElem?_eq_some_iff.1 hka).2
      by_cases q : a = n
      · have q2 : (n == a) = true := by simpa using q.symm
        have HF := Lib.hid (HY.out k hlt (fun j hj => HX.out j hj (by omega)) (by rw [hka2]; exact q))
        clear q hka hka2
        go_wp2
        go_ret
        exact ⟨ret_int HF.out, rfl⟩
      · have q2 : (n == a) = false := by
          rw [Bool.eq_false_iff]
          simp only [ne_eq, beq_iff_eq]
          exact fun h => q h.symm
        have HQ := Lib.hid (show ¬ l[k] = n by rw [hka2]; exact q)
        clear q hka hka2
        go_wp2
        go_roundg (l.length - (k + 1))
        case measure => omega
        case rel => exact ⟨k + 1, by go_num, by omega, rfl, (fun j hj hl => by
          by_cases e : j = k
          · subst e; exact HQ.out
          · exact HX.out j (by omega) hl), rfl⟩
    · have hlt' : ¬ (k : Int) < (l.length : Int) := by omega
      have HF := Lib.hid (HN.out (fun j hj => HX.out j (by omega) hj))
      go_wp2
      go_ret
      exact ⟨ret_int HF.out, rfl⟩
/-- Just as long as the closure has caught what it has. -/
theorem TS.toldR {w0 W : World} {jt jr jg : Nat} {v vt vr : Value} {s : Tl} (h : TS w0 W jt jr jg v vt vr s) : IntsR W vt s.1 := IntsR.of_own h.ot
theorem ts_form {w0 W : World} {jt jr jg : Nat} {v vt vr : Value} {s : Tl} (h : TS w0 W jt jr jg v vt vr s) : ∃ A c A' c', vt = .slice A s.1.length c ∧ vr = .slice A' s.2.length c' := by
  obtain ⟨A, c, rfl⟩ := own_slice h.ot
  obtain ⟨ps, e1, h3, h4⟩ := h.or_
  obtain ⟨A', c', rfl⟩ := own_slice h3
  exact ⟨A, c, A', c', rfl, rfl⟩
end Go.Proofs.YtilepnepcamnaaaGreat
