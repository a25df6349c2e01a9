/-
  What clause.Parse answers of any text of a million bytes at most: the clauses, in new memory, or EINVAL.
-/
import Derived.Test.YtbjajipeiigodaaDoorRight
namespace Go.Proofs.YtbjajipeiigodaaDoor
open Go Go.RowKit

/-- Clauses as cells, each with the slice of its acts. -/
def cCells (l : List (CC × Value)) : List Value := l.flatMap fun p => [.int .i64 p.1.who, p.2]
theorem cCells_len (l : List (CC × Value)) : (cCells l).length = l.length * 2 := by
  unfold cCells
  rw [List.length_flatMap]
  induction l with
  | nil => rfl
  | cons a l ih => simp at ih ⊢; omega
theorem cCells_snoc (l : List (CC × Value)) (p : CC × Value) : cCells (l ++ [p]) = cCells l ++ [.int .i64 p.1.who, p.2] := by simp [cCells]
theorem cCells_at : ∀ (l : List (CC × Value)) (k : Nat) (p : CC × Value), l[k]? = some p → (cCells l)[k * 2]? = some (.int .i64 p.1.who) ∧ (cCells l)[k * 2 + 1]? = some p.2
  | [], k, p, h => by simp at h
  | q :: l, 0, p, h => by
    simp only [List.getElem?_cons_zero, Option.some.injEq] at h
    subst h
    simp [cCells]
  | q :: l, k + 1, p, h => by
    simp only [List.getElem?_cons_succ] at h
    have ih := cCells_at l k p h
    have e : cCells (q :: l) = .int .i64 q.1.who :: q.2 :: cCells l := by simp [cCells]
    rw [e, show (k + 1) * 2 = k * 2 + 1 + 1 by omega, show k * 2 + 1 + 1 + 1 = (k * 2 + 1) + 1 + 1 by omega]
    simpa using ih
theorem aCells_at : ∀ (l : List CA) (k : Nat) (p : CA), l[k]? = some p → (aCells l)[k * 3]? = some (.int .u8 (co p.op)) ∧ (aCells l)[k * 3 + 1]? = some (.int .i64 p.perms) ∧ (aCells l)[k * 3 + 2]? = some (.int .i64 p.copy)
  | [], k, p, h => by simp at h
  | q :: l, 0, p, h => by
    simp only [List.getElem?_cons_zero, Option.some.injEq] at h
    subst h
    simp [aCells]
  | q :: l, k + 1, p, h => by
    simp only [List.getElem?_cons_succ] at h
    have ih := aCells_at l k p h
    have e : aCells (q :: l) = .int .u8 (co q.op) :: .int .i64 q.perms :: .int .i64 q.copy :: aCells l := by simp [aCells]
    rw [e, show (k + 1) * 3 = k * 3 + 1 + 1 + 1 by omega, show k * 3 + 1 + 1 + 1 + 1 = (k * 3 + 1) + 1 + 1 + 1 by omega, show k * 3 + 1 + 1 + 1 + 2 = (k * 3 + 2) + 1 + 1 + 1 by omega]
    simpa using ih
theorem row_at {w : World} {B : Nat} {e : TypeId} {size n g cap : Nat} {xs : List Value} (h : w.ownsRow B e size (.slice (some ⟨g, 0, none⟩) n cap) n xs) (i : Nat) (u : Value) (hu : xs[i]? = some u) : w.cell? ⟨g, i, none⟩ = some u := by
  have := h.cells (g := g) rfl i u hu
  unfold Addr.add at this
  split at this
  · rename_i hi; subst hi; exact this
  · simpa using this
theorem add_lit (g k : Nat) : (⟨g, 0, none⟩ : Addr).add k = ⟨g, k, none⟩ := by unfold Addr.add; split <;> simp_all
theorem ActsR.of_own {w : World} {B : Nat} {e : TypeId} {v : Value} {al : List CA} (h : w.ownsRow B e 3 v al.length (aCells al)) : ActsR w v al := by
  rcases h.2 with ⟨rfl, hn⟩ | ⟨g, cap, cur, rfl, _⟩
  · have : al = [] := List.eq_nil_of_length_eq_zero hn
    subst this
    exact ⟨none, 0, rfl, fun k a hk => by simp at hk⟩
  · refine ⟨some ⟨g, 0, none⟩, cap, rfl, fun k a hk => ⟨_, rfl, ?_⟩⟩
    obtain ⟨h0, h1, h2⟩ := aCells_at al k a hk
    rw [add_lit]
    exact ⟨row_at h _ _ h0, row_at h _ _ h1, row_at h _ _ h2⟩
theorem ClsR.of_own {w : World} {B : Nat} {e : TypeId} {v : Value} {l : List (CC × Value)} (h : w.ownsRow B e 2 v l.length (cCells l)) (ha : ∀ p ∈ l, ActsR w p.2 p.1.acts) : ClsR w v (l.map (·.1)) := by
  rcases h.2 with ⟨rfl, hn⟩ | ⟨g, cap, cur, rfl, _⟩
  · have : l = [] := List.eq_nil_of_length_eq_zero hn
    subst this
    exact ⟨none, 0, rfl, fun k a hk => by simp at hk⟩
  · refine ⟨some ⟨g, 0, none⟩, cap, by rw [List.length_map], fun k x hk => ?_⟩
    rw [List.getElem?_map] at hk
    cases hp : l[k]? with
    | none => rw [hp] at hk; cases hk
    | some p =>
      rw [hp] at hk
      simp only [Option.map_some, Option.some.injEq] at hk
      subst hk
      obtain ⟨h0, h1⟩ := cCells_at l k p hp
      refine ⟨_, p.2, rfl, ?_⟩
      rw [add_lit]
      exact ⟨row_at h _ _ h0, row_at h _ _ h1, ha p (List.mem_of_getElem? hp)⟩
theorem info_cl : (Tryd.prog.info? 34).map (fun i => (i.zero, i.size, i.bytes)) = some (some (.agg #[.int .i64 0, .slice none 0 0]), 2, 32) := by kernel_rfl

theorem own_one {w : World} {B : Nat} {e : TypeId} {size n : Nat} {v : Value} {xs : List Value} (h : w.ownsRow B e size v n xs) : v.oneCell' = true := by
  rcases h.2 with ⟨rfl, _⟩ | ⟨g', cap, cur, rfl, _⟩ <;> rfl
/-- A slice of clauses that a call made. -/
def ClsO (w : World) (v : Value) (cs : List CC) : Prop := ∃ (l : List (CC × Value)) (B : Nat), l.map (·.1) = cs ∧ w.ownsRow B 34 2 v l.length (cCells l) ∧ ∀ p ∈ l, ActsR w p.2 p.1.acts ∧ p.2.oneCell' = true
theorem ClsO.cls {w : World} {v : Value} {cs : List CC} (h : ClsO w v cs) : ClsR w v cs := by
  obtain ⟨l, B, rfl, ho, ha⟩ := h
  exact ClsR.of_own ho (fun p hp => (ha p hp).1)
theorem ClsO.below {w w' : World} {v : Value} {cs : List CC} (h : ClsO w v cs) (hb : Below w.heap.size w w') : ClsO w' v cs := by
  obtain ⟨l, B, hl, ho, ha⟩ := h
  exact ⟨l, B, hl, ho.kept (grown_of_below hb none) (by cases hv : v.ownBlock <;> simp), fun p hp => ⟨(ha p hp).1.below hb, (ha p hp).2⟩⟩
/-- What Parse answers. -/
def ParsePost (o : Option (List CC)) (w : World) (e : Ending) (w' : World) : Prop := ∃ v, Below w.heap.size w w' ∧ match o with
  | none => v = .slice none 0 0 ∧ e = .returned (.tuple #[v, .int .i64 22])
  | some cs => ClsO w' v cs ∧ e = .returned (.tuple #[v, .int .i64 0])

theorem below_first {w wr : World} {o : Obj} (h : Below (w.heap.size + 1) (w.alloc o) wr) : Below w.heap.size w wr :=
  ((Below.refl _ _).alloc (Nat.le_refl _) o).trans (h.mono (Nat.le_succ _))
theorem own_ne {w : World} {B B' : Nat} {e e' : TypeId} {size size' n n' : Nat} {v v' : Value} {xs xs' : List Value} (h : w.ownsRow B e size v n xs) (h' : w.ownsRow B' e' size' v' n' xs') (hne : e ≠ e') : v.ownBlock = none ∨ v.ownBlock ≠ v'.ownBlock := by
  rcases h.2 with ⟨rfl, _⟩ | ⟨g, cap, cur, rfl, _, hh, _⟩
  · exact .inl rfl
  · rcases h'.2 with ⟨rfl, _⟩ | ⟨g', cap', cur', rfl, _, hh', _⟩
    · exact .inr (by simp [Value.ownBlock])
    · refine .inr (fun e => ?_)
      have : g = g' := by simpa [Value.ownBlock] using e
      subst this
      rw [hh] at hh'
      injection hh' with hh'
      injection hh' with _ ht
      exact hne ht
theorem acts_len {q : ByteArray} {al : List CA} (h : acts q.data.toList = some al) (hq : q.size ≤ 1000000) : al.length ≤ 1000001 := by
  cases hl : q.data.toList with
  | nil => rw [hl] at h; cases h
  | cons c r =>
    have h3 : q.data.toList.length = r.length + 1 := by rw [hl]; rfl
    rw [hl, acts] at h
    split at h
    · have := actsF_len _ _ _ h
      simp at h3
      omega
    · cases h
/-- Ahead of a round. -/
def PR (s : ByteArray) (w : World) (k : Nat) (v : Value) (l : List (CC × Value)) (wr : World) : Prop :=
  Below (w.heap.size + 1) (w.alloc (.cells ((spl s).map Value.string).toArray 9)) wr ∧ wr.ownsRow (w.heap.size + 1) 34 2 v l.length (cCells l) ∧ l.length = k ∧
    (∀ p ∈ l, ∃ B, wr.ownsRow B 60 3 p.2 p.1.acts.length (aCells p.1.acts)) ∧ parseC s.data.toList = (allC ((pieces s.data.toList).drop k)).map (l.map (·.1) ++ ·)
set_option maxHeartbeats 2000000 in
theorem parse_any (s : ByteArray) (w : World) (hs : s.size ≤ 1000000) : Calls Tryd.prog 15 #[.string s] w (ParsePost (parseC s.data.toList) w) := by
  have HS := Lib.hid hs
  have hsl : (spl s).length ≤ 1000001 := by
    have h1 := congrArg List.length (spl_pieces s)
    rw [List.length_map] at h1
    rw [h1]
    have h2 := pieces_count s.data.toList
    simp at h2
    omega
  clear hs
  go_enter Tryd.func15, Tryd.ntmps15
  go_wp2_with fail
  refine (split_call s _ HS.out).mono ?_
  rintro e w' ⟨rfl, hw⟩
  rw [hw]
  clear hw
  go_wp2
  go_loopg [4, 13] (spl s).length (fun g s4 s13 wr => ∃ (k : Nat) (l : List (CC × Value)), s13 = .int .i64 k ∧ k ≤ (spl s).length ∧ g = (spl s).length - k ∧ PR s w k s4 l wr)
  case atStart => exact ⟨0, [], rfl, Nat.zero_le _, rfl, Below.refl _ _, World.ownsRow_nil _ _ _ _, rfl, by simp, by rw [List.drop_zero, parseC]; simp⟩
  case round =>
    obtain ⟨k, l, rfl, hk, rfl, hR⟩ := hrel
    obtain ⟨v, rfl⟩ : ∃ v, v = u4 := ⟨_, rfl⟩
    have HR := Lib.hid hR
    have hsz : w.heap.size + 1 ≤ wr.heap.size := by have := hR.1.size; simpa using this
    clear hR
    by_cases hlt : k < (spl s).length
    · obtain ⟨p, hp⟩ : ∃ p, (spl s)[k]? = some p := ⟨_, List.getElem?_eq_getElem hlt⟩
      have hcell : wr.cell? ⟨w.heap.size, k, none⟩ = some (.string p) := by
        rw [HR.out.1.cell (p := ⟨w.heap.size, k, none⟩) (Nat.lt_succ_self _)]
        simp [go_sem, hp]
      have HP := Lib.hid hp
      clear hp
      have hpl : (pieces s.data.toList)[k]? = some p.data.toList := by rw [← spl_pieces, List.getElem?_map, HP.out]; rfl
      have hps : p.size ≤ 1000000 := by
        have h1 := piece_len _ _ (List.mem_of_getElem? hpl)
        have := HS.out
        simp at h1
        omega
      have hqs : (pw p).2.size ≤ 1000000 := by
        obtain ⟨pre, hpre⟩ := whoF_suffix p.data.toList 0
        have h1 := congrArg List.length hpre
        rw [List.length_append] at h1
        show ((whoF 0 p.data.toList).2.toArray).size ≤ _
        simp at h1 ⊢
        omega
      have hone : oneC p.data.toList = (acts (pw p).2.data.toList).map fun a => ⟨(pw p).1, a⟩ := rfl
      have hdrop : (pieces s.data.toList).drop k = p.data.toList :: (pieces s.data.toList).drop (k + 1) := by
        rw [List.drop_eq_getElem?_toList_append, hpl]; rfl
      obtain ⟨u, hu⟩ : ∃ u, (pw p).1 = u := ⟨_, rfl⟩
      obtain ⟨q, hq⟩ : ∃ q, (pw p).2 = q := ⟨_, rfl⟩
      rw [hu, hq] at hone
      rw [hq] at hqs
      have HW := Lib.hid (parseWho_any p)
      rw [hu, hq] at HW
      have HA := Lib.hid (fun w => parseActs_any q w hqs)
      unfold PAPost at HA
      have HO := Lib.hid hone
      have HD := Lib.hid hdrop
      have HRS := Lib.hid (show l.length = k from HR.out.2.2.1)
      clear hu hq hone hdrop hpl
      cases hacts : acts q.data.toList with
      | none =>
        rw [hacts] at HA HO
        have HN := Lib.hid (show parseC s.data.toList = none by rw [HR.out.2.2.2.2, HD.out, allC, HO.out]; rfl)
        clear hacts
        go_wp2_with fail
        refine (HW.out _).mono ?_
        rintro e w2 ⟨rfl, hb2⟩
        have HB2 := Lib.hid hb2
        clear hb2
        go_wp2_with fail
        refine (HA.out _).mono ?_
        rintro e w3 ⟨v3, rfl, hpa, hb3⟩
        simp only [PA] at hpa
        subst hpa
        have HB3 := Lib.hid hb3
        clear hb3
        go_wp2
        go_ret2
        refine ⟨_, ?_, by rw [HN.out]; exact ⟨rfl, rfl⟩⟩
        exact below_first (HR.out.1.trans ((HB2.out.trans (HB3.out.mono HB2.out.size)).mono hsz))
      | some al =>
        have hne := acts_ne hacts
        have hal : al.length ≤ 1000001 := acts_len hacts hqs
        rw [hacts] at HA HO
        clear hacts
        go_wp2_with fail
        refine (HW.out _).mono ?_
        rintro e w2 ⟨rfl, hb2⟩
        have HB2 := Lib.hid hb2
        clear hb2
        go_wp2_with fail
        refine (HA.out _).mono ?_
        rintro e w3 ⟨v3, rfl, hpa, hb3⟩
        simp only [PA] at hpa
        have HB3 := Lib.hid (HB2.out.trans (hb3.mono HB2.out.size))
        clear hb3
        have HPA := Lib.hid hpa
        obtain ⟨g, cap, rfl, hg1, hg2⟩ : ∃ g cap, v3 = .slice (some ⟨g, 0, none⟩) al.length cap ∧ w2.heap.size ≤ g ∧ g < w3.heap.size := by
          rcases hpa.2 with ⟨_, h0⟩ | ⟨g, cap, cur, h, hb, hh, _⟩
          · exact absurd (List.eq_nil_of_length_eq_zero h0) hne
          · exact ⟨g, cap, h, hb, (Array.getElem?_eq_some_iff.1 hh).1⟩
        have hz : ((al.length : Int) == 0) = false := by
          rw [beq_eq_false_iff_ne]
          intro h
          exact hne (List.eq_nil_of_length_eq_zero (by omega))
        clear hpa
        have HX2 := Lib.hid (HR.out.2.1.kept (grown_of_below HB3.out none) (by cases hv : v.ownBlock <;> simp))
        have HX1 := Lib.hid (HR.out.1.trans (HB3.out.mono hsz))
        go_wp2_with (at_builtin; refine wpList_append_one rfl (.tmp 27) (.tmp 31) _ rfl (w.heap.size + 1) 34 _ 2 32 Tryd.underlying23 info_cl rfl (by decide) v l.length (cCells l) rfl w3 [.int .i64 u, .slice (some ⟨g, 0, none⟩) al.length cap] rfl (by intro u hu; simp only [List.mem_cons, List.mem_nil_iff, or_false] at hu; rcases hu with rfl | rfl <;> rfl) HX2.out rfl (by have := HRS.out; omega) (by have := HRS.out; omega) (Nat.le_trans hsz HB3.out.size) ?_; intro v' w' ho hg)
        go_roundg ((spl s).length - (k + 1))
        case measure => omega
        case rel =>
          refine ⟨k + 1, l ++ [(⟨u, al⟩, .slice (some ⟨g, 0, none⟩) al.length cap)], by go_num, by omega, rfl, ?_, ?_, ?_, ?_, ?_⟩
          · exact HX1.out.grown hg (Nat.le_trans hsz HB3.out.size) (fun k hk => (HX2.out.lt k hk).1)
          · rw [cCells_snoc, List.length_append]; exact ho
          · rw [List.length_append, HRS.out]; rfl
          · intro p hp
            have far : ∀ B x n xs, w3.ownsRow B 60 3 x n xs → w'.ownsRow B 60 3 x n xs := fun B x n xs hx => hx.kept hg (own_ne hx HX2.out (by decide))
            rcases List.mem_append.1 hp with hp | hp
            · obtain ⟨B, hB⟩ := HR.out.2.2.2.1 p hp
              exact ⟨B, far _ _ _ _ (hB.kept (grown_of_below HB3.out none) (by cases hv : p.2.ownBlock <;> simp))⟩
            · rw [List.mem_singleton] at hp
              subst hp
              exact ⟨_, far _ _ _ _ HPA.out⟩
          · rw [HR.out.2.2.2.2, HD.out, allC, HO.out]
            simp only [Option.map_some, Option.map_map]
            congr 1
            funext y
            simp
    · have HE := Lib.hid (show parseC s.data.toList = some (l.map (·.1)) by
        rw [HR.out.2.2.2.2, List.drop_of_length_le, allC]
        · simp
        · rw [← spl_pieces, List.length_map]; omega)
      go_wp2
      go_ret2
      refine ⟨v, below_first HR.out.1, ?_⟩
      rw [HE.out]
      exact ⟨⟨l, _, rfl, HR.out.2.1, fun p hp => by obtain ⟨B, hB⟩ := HR.out.2.2.2.1 p hp; exact ⟨ActsR.of_own hB, own_one hB⟩⟩, rfl⟩
end Go.Proofs.YtbjajipeiigodaaDoor
