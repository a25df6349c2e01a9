/-
  What the statements' functions same and model answer: same is true of two slices that read as the same clauses; model makes a slice that reads as the clauses that came in.
-/
import Derived.Test.YtbjajipeiigodaaDoorShow
namespace Go.Proofs.YtbjajipeiigodaaDoor
open Go Go.RowKit

set_option maxRecDepth 100000 in
set_option maxHeartbeats 4000000 in
theorem same_any (v v' : Value) (cs : List CC) (w : World) (h : ClsR w v cs) (h' : ClsR w v' cs) (hn : cs.length ≤ 1000) (hl : ∀ c ∈ cs, c.acts.length ≤ 10000) : Calls Tryd.prog 17 #[v, v'] w fun e w' => e = .returned (.bool true) ∧ Below w.heap.size w w' := by
  have HL := Lib.hid hl
  obtain ⟨A, c, rfl, hc⟩ := h
  obtain ⟨A', c', rfl, hc'⟩ := h'
  have HC := Lib.hid hc
  have HC' := Lib.hid hc'
  clear hc hc' hl
  go_enter Tryd.func17, Tryd.ntmps17
  go_wp2
  go_loopg [5] cs.length (fun g s5 wr => ∃ k : Nat, s5 = .int .i64 k ∧ k ≤ cs.length ∧ g = cs.length - k ∧ Below w.heap.size w wr)
  case atStart => exact ⟨0, rfl, Nat.zero_le _, rfl, Below.refl _ _⟩
  case round =>
    obtain ⟨k, rfl, hk, rfl, hb⟩ := hrel
    have HB := Lib.hid hb
    clear hb
    by_cases hlt : k < cs.length
    · obtain ⟨x, hx⟩ : ∃ x, cs[k]? = some x := ⟨_, List.getElem?_eq_getElem hlt⟩
      obtain ⟨ad, va, rfl, c0, c1, hA⟩ := HC.out k x hx
      obtain ⟨ad', va', rfl, c0', c1', hA'⟩ := HC'.out k x hx
      obtain ⟨who, acts⟩ := x
      simp only at c0 hA c0' hA'
      have d0 := (HB.out.cell (World.block_lt_of_cell? _ _ c0)).trans c0
      have d1 := (HB.out.cell (World.block_lt_of_cell? _ _ c1)).trans c1
      have d0' := (HB.out.cell (World.block_lt_of_cell? _ _ c0')).trans c0'
      have d1' := (HB.out.cell (World.block_lt_of_cell? _ _ c1')).trans c1'
      have hal : acts.length ≤ 10000 := HL.out _ (List.mem_of_getElem? hx)
      obtain ⟨Aa, ca, rfl, hAa⟩ := hA
      obtain ⟨Ab, cb, rfl, hAb⟩ := hA'
      have HA := Lib.hid hAa
      have HA' := Lib.hid hAb
      have f1 := World.block_lt_of_cell? _ _ c0
      have f2 := World.block_lt_of_cell? _ _ c1
      have f3 := World.block_lt_of_cell? _ _ c0'
      have f4 := World.block_lt_of_cell? _ _ c1'
      have hq : ((who : Int) != who) = false := by simp
      clear c0 c1 c0' c1' hx hAa hAb
      go_wp2
      go_quiet (fail)
      go_wp2
      have HD1 := Lib.hid d1
      have HD1' := Lib.hid d1'
      clear d0 d0' d1 d1' hq f1 f3
      go_loopg [6] acts.length (fun g s6 wq => ∃ m : Nat, s6 = .int .i64 m ∧ m ≤ acts.length ∧ g = acts.length - m ∧ Below wr.heap.size wr wq)
      case atStart => exact ⟨0, rfl, Nat.zero_le _, rfl, below_drewN (Below.refl _ _) _⟩
      case round =>
        obtain ⟨m, rfl, hm, rfl, hb2⟩ := hrel
        have HB2 := Lib.hid hb2
        have d1 := (HB2.out.cell (World.block_lt_of_cell? _ _ HD1.out)).trans HD1.out
        have d1' := (HB2.out.cell (World.block_lt_of_cell? _ _ HD1'.out)).trans HD1'.out
        have HBW := Lib.hid (HB.out.trans (hb2.mono HB.out.size))
        clear hb2
        by_cases hlt2 : m < acts.length
        · obtain ⟨a, ha⟩ : ∃ a, acts[m]? = some a := ⟨_, List.getElem?_eq_getElem hlt2⟩
          obtain ⟨ae, rfl, e0, e1, e2⟩ := HA.out m a ha
          obtain ⟨af, rfl, e0', e1', e2'⟩ := HA'.out m a ha
          have b0 := World.block_lt_of_cell? _ _ (((HBW.out.cell (World.block_lt_of_cell? _ _ e0)).trans e0))
          have b0' := World.block_lt_of_cell? _ _ (((HBW.out.cell (World.block_lt_of_cell? _ _ e0')).trans e0'))
          have b1' := World.block_lt_of_cell? _ _ d1'
          have g0 := (HBW.out.cell (World.block_lt_of_cell? _ _ e0)).trans e0
          have g1 := (HBW.out.cell (World.block_lt_of_cell? _ _ e1)).trans e1
          have g2 := (HBW.out.cell (World.block_lt_of_cell? _ _ e2)).trans e2
          have g0' := fun o => (World.cell?_alloc_lt wr o _ b0').trans ((HBW.out.cell (World.block_lt_of_cell? _ _ e0')).trans e0')
          have g1' := fun o => (World.cell?_alloc_lt wr o _ (World.block_lt_of_cell? _ _ (((HBW.out.cell (World.block_lt_of_cell? _ _ e1')).trans e1')))).trans ((HBW.out.cell (World.block_lt_of_cell? _ _ e1')).trans e1')
          have g2' := fun o => (World.cell?_alloc_lt wr o _ (World.block_lt_of_cell? _ _ (((HBW.out.cell (World.block_lt_of_cell? _ _ e2')).trans e2')))).trans ((HBW.out.cell (World.block_lt_of_cell? _ _ e2')).trans e2')
          have q1' := fun o => (World.cell?_alloc_lt wr o _ b1').trans d1'
          obtain ⟨op, perms, copy⟩ := a
          simp only at g0 g1 g2 g0' g1' g2'
          clear e0 e1 e2 e0' e1' e2' ha b0 b0' b1'
          go_wp2
          go_roundg (acts.length - (m + 1))
          case measure => omega
          case rel => exact ⟨m + 1, by go_num, by omega, rfl, (HB2.out.alloc HB2.out.size _).alloc (by simp; have := HB2.out.size; omega) _⟩
        · go_wp2
          go_roundg (cs.length - (k + 1))
          case measure => omega
          case rel => exact ⟨k + 1, by go_num, by omega, rfl, HBW.out⟩
    · go_wp2
      go_ret
      exact ⟨rfl, HB.out⟩

theorem info_A : (Tryd.prog.info? 76).map (fun i => (i.zero, i.size, i.bytes)) = some (some (.agg #[.int .u8 0, .int .i64 0, .int .i64 0]), 3, 24) := by kernel_rfl
theorem info_C : (Tryd.prog.info? 73).map (fun i => (i.zero, i.size, i.bytes)) = some (some (.agg #[.int .i64 0, .slice none 0 0]), 2, 32) := by kernel_rfl
def ModelPost (cs : List CC) (w : World) (e : Ending) (w' : World) : Prop := ∃ v, e = .returned v ∧ ClsR w' v cs ∧ Below w.heap.size w w'
/-- Ahead of a round of model. -/
def MR (w : World) (cs : List CC) (k : Nat) (v : Value) (l : List (CC × Value)) (wr : World) : Prop :=
  Below w.heap.size w wr ∧ wr.ownsRow w.heap.size 73 2 v l.length (cCells l) ∧ l.map (·.1) = cs.take k ∧ (∀ p ∈ l, ∃ B, wr.ownsRow B 76 3 p.2 p.1.acts.length (aCells p.1.acts))
/-- In the middle of a clause. -/
def MI (w : World) (l : List (CC × Value)) (v : Value) (who : Int) (acts : List CA) (g : Nat) (m : Nat) (va : Value) (wq : World) : Prop :=
  Below w.heap.size w wq ∧ wq.ownsRow w.heap.size 73 2 v l.length (cCells l) ∧ (∀ p ∈ l, ∃ B, wq.ownsRow B 76 3 p.2 p.1.acts.length (aCells p.1.acts)) ∧
    Blk wq g 73 #[.int .i64 who, va] ∧ wq.ownsRow g 76 3 va m (aCells (acts.take m))
theorem cl_one (who : Int) (va : Value) (h : va.oneCell' = true) : ∀ u ∈ [Value.int .i64 who, va], u.oneCell' = true := by
  intro u hu
  rcases List.mem_cons.1 hu with e | hu
  · rw [e]; rfl
  · rw [List.mem_singleton.1 hu]; exact h
theorem own_blk_ne' {w : World} {B g : Nat} {e t : TypeId} {size n : Nat} {v : Value} {xs : List Value} {cs : Array Value} (h : w.ownsRow B e size v n xs) (hk : Blk w g t cs) (hne : e ≠ t) : v.ownBlock ≠ some g := by
  rcases h.2 with ⟨rfl, _⟩ | ⟨g', cap, cur, rfl, _, hh, _⟩
  · simp [Value.ownBlock]
  · intro he
    have : g' = g := by simpa [Value.ownBlock] using he
    subst this
    unfold Blk at hk
    rw [hk] at hh
    injection hh with hh
    injection hh with _ ht
    exact hne ht.symm
set_option maxRecDepth 100000 in
set_option maxHeartbeats 4000000 in
theorem model_any (v : Value) (cs : List CC) (w : World) (h : ClsR w v cs) (hn : cs.length ≤ 1000) (hl : ∀ c ∈ cs, c.acts.length ≤ 10000) : Calls Tryd.prog 18 #[v] w (ModelPost cs w) := by
  have HL := Lib.hid hl
  obtain ⟨A, c, rfl, hc⟩ := h
  have HC := Lib.hid hc
  clear hc hl
  go_enter Tryd.func18, Tryd.ntmps18
  go_wp2
  go_loopg [3, 4] cs.length (fun g s3 s4 wr => ∃ (k : Nat) (l : List (CC × Value)), s4 = .int .i64 k ∧ k ≤ cs.length ∧ g = cs.length - k ∧ MR w cs k s3 l wr)
  case atStart => exact ⟨0, [], rfl, Nat.zero_le _, rfl, Below.refl _ _, World.ownsRow_nil _ _ _ _, rfl, by simp⟩
  case round =>
    obtain ⟨k, l, rfl, hk, rfl, hR⟩ := hrel
    obtain ⟨v, rfl⟩ : ∃ v, v = u3 := ⟨_, rfl⟩
    obtain ⟨wo, rfl⟩ : ∃ wo, wo = wr := ⟨_, rfl⟩
    have HR := Lib.hid hR
    have hll : l.length ≤ 1000 := by
      have := congrArg List.length hR.2.2.1
      rw [List.length_map, List.length_take] at this
      omega
    have hw0 : w.heap.size ≤ wo.heap.size := hR.1.size
    clear hR
    by_cases hlt : k < cs.length
    · obtain ⟨x, hx⟩ : ∃ x, cs[k]? = some x := ⟨_, List.getElem?_eq_getElem hlt⟩
      obtain ⟨ad, va, rfl, c0, c1, hA⟩ := HC.out k x hx
      obtain ⟨who, acts⟩ := x
      simp only at c0 hA
      have d0 := (HR.out.1.cell (World.block_lt_of_cell? _ _ c0)).trans c0
      have hal : acts.length ≤ 10000 := HL.out _ (List.mem_of_getElem? hx)
      obtain ⟨Aa, ca, rfl, hAa⟩ := hA
      have HA := Lib.hid hAa
      have HC1 := Lib.hid c1
      have HX := Lib.hid hx
      clear c0 c1 hx hAa
      go_wp2
      clear d0
      go_loopg [6] acts.length (fun g s6 wq => ∃ (m : Nat) (va : Value), s6 = .int .i64 m ∧ m ≤ acts.length ∧ g = acts.length - m ∧ MI w l v who acts wo.heap.size m va wq)
      case atStart =>
        exact ⟨0, .slice none 0 0, rfl, Nat.zero_le _, rfl, HR.out.1.alloc hw0 _, HR.out.2.1.alloc _, fun p hp => by obtain ⟨B, hB⟩ := HR.out.2.2.2 p hp; exact ⟨B, hB.alloc _⟩, Blk.new _ _ _, World.ownsRow_nil _ _ _ _⟩
      case round =>
        obtain ⟨m, va, rfl, hm, rfl, hI⟩ := hrel
        have HI := Lib.hid hI
        have d1 := (hI.1.cell (World.block_lt_of_cell? _ _ HC1.out)).trans HC1.out
        have k0 := hI.2.2.2.1.cell 0
        have k1 := hI.2.2.2.1.cell 1
        simp at k0 k1
        have hgl := hI.2.2.2.1.lt
        clear hI
        by_cases hlt2 : m < acts.length
        · obtain ⟨a, ha⟩ : ∃ a, acts[m]? = some a := ⟨_, List.getElem?_eq_getElem hlt2⟩
          obtain ⟨ae, rfl, e0, e1, e2⟩ := HA.out m a ha
          have g0 := (HI.out.1.cell (World.block_lt_of_cell? _ _ e0)).trans e0
          have g1 := (HI.out.1.cell (World.block_lt_of_cell? _ _ e1)).trans e1
          have g2 := (HI.out.1.cell (World.block_lt_of_cell? _ _ e2)).trans e2
          have HXA := Lib.hid ha
          obtain ⟨op, perms, copy⟩ := a
          simp only at g0 g1 g2
          clear e0 e1 e2 ha
          have hml : (acts.take m).length = m := by rw [List.length_take]; omega
          have HML := Lib.hid hml
          clear hml
          have HOV := Lib.hid (HI.out.2.2.2.2.alloc (.cells #[.int .u8 (co op), .int .i64 perms, .int .i64 copy] 60))
          have HBK0 := Lib.hid (HI.out.2.2.2.1.alloc (.cells #[.int .u8 (co op), .int .i64 perms, .int .i64 copy] 60))
          go_wp2_with (at_builtin; refine wpList_append_one rfl (.tmp 39) (.tmp 47) _ rfl wo.heap.size 76 _ 3 24 Tryd.underlying71 info_A rfl (by decide) va m (aCells (acts.take m)) rfl (wr.alloc _) [.int .u8 (co op), .int .i64 perms, .int .i64 copy] rfl (act_one ⟨op, perms, copy⟩) HOV.out (slice_next wr _) (by omega) (by omega) (by simp; omega) ?_; intro v' w' ho hg; obtain ⟨gv, cv, hv', hv1, hv2⟩ := ho.form (Nat.succ_pos _); subst hv'; have hbk := HBK0.out.kept hg (own_blk_ne' HOV.out HBK0.out (by decide)).symm; have kk1 := hbk.cell 1; have ff1 := hbk.frozen 1; simp at kk1; have HBK := Lib.hid hbk; have HO := Lib.hid ho; have HG := Lib.hid hg; clear ho hg hbk)
          have hov : ∀ q, va.ownBlock = some q → wo.heap.size ≤ q := fun q hq => (HI.out.2.2.2.2.lt q hq).1
          have hwm : w.heap.size ≤ wr.heap.size := HI.out.1.size
          have G1 : wr.grownBy w' va.ownBlock := grown_trans (World.grownBy_alloc wr _ _) HG.out
          have GS := grown_setCell w' ⟨wo.heap.size, 1, none⟩ (.slice (some ⟨gv, 0, none⟩) (m + 1) cv)
          go_roundg (acts.length - (m + 1))
          case measure => omega
          case rel =>
            refine ⟨m + 1, .slice (some ⟨gv, 0, none⟩) (m + 1) cv, by go_num, by omega, rfl, ?_, ?_, ?_, ?_, ?_⟩
            · exact (HI.out.1.grown G1 hwm (fun q hq => Nat.le_trans hw0 (hov q hq))).setCell hw0 _
            · refine (HI.out.2.1.kept G1 (own_ne HI.out.2.1 HI.out.2.2.2.2 (by decide))).kept GS (.inr (fun e => ?_))
              have := (HR.out.2.1.lt _ e).2
              simp at this
            · intro p hp
              obtain ⟨B, hB⟩ := HI.out.2.2.1 p hp
              obtain ⟨B', hB'⟩ := HR.out.2.2.2 p hp
              refine ⟨B, (hB.kept G1 ?_).kept GS (.inr fun e => ?_)⟩
              · cases hq : p.2.ownBlock with
                | none => exact .inl rfl
                | some q =>
                  refine .inr (fun e => ?_)
                  have h1 := (hB'.lt q hq).2
                  have h2 := hov q e.symm
                  omega
              · have := (hB'.lt _ e).2
                simp at this
            · exact HBK.out.set_ 1 _
            · rw [take_snoc' HXA.out, aCells_snoc]
              exact HO.out.kept GS (.inr (own_blk_ne' HO.out HBK.out (by decide)))
        · have HE := Lib.hid (show m = acts.length by omega)
          have HTK := Lib.hid (show acts.take m = acts from List.take_of_length_le (by omega))
          have HIB := Lib.hid (show wr.ownsRow w.heap.size 73 2 v l.length (cCells l) from HI.out.2.1)
          have hwm : w.heap.size ≤ wr.heap.size := HI.out.1.size
          have HVO := Lib.hid (own_one HI.out.2.2.2.2)
          go_wp2_with (at_builtin; refine wpList_append_one rfl (.tmp 50) (.tmp 52) _ rfl w.heap.size 73 _ 2 32 Tryd.underlying27 info_C rfl (by decide) v l.length (cCells l) rfl wr [.int .i64 who, va] rfl (cl_one who va HVO.out) HIB.out rfl (by omega) (by omega) hwm ?_; intro v' w' ho hg; have HO := Lib.hid ho; have HG := Lib.hid hg; clear ho hg)
          go_roundg (cs.length - (k + 1))
          case measure => omega
          case rel =>
            refine ⟨k + 1, l ++ [(⟨who, acts⟩, va)], by go_num, by omega, rfl, ?_, ?_, ?_, ?_⟩
            · exact HI.out.1.grown HG.out hwm (fun q hq => (HIB.out.lt q hq).1)
            · rw [cCells_snoc, List.length_append]; exact HO.out
            · rw [List.map_append, HR.out.2.2.1, take_snoc' HX.out]; rfl
            · intro p hp
              have far : ∀ B x n xs, wr.ownsRow B 76 3 x n xs → w'.ownsRow B 76 3 x n xs := fun B x n xs hx => hx.kept HG.out (own_ne hx HIB.out (by decide))
              rcases List.mem_append.1 hp with hp | hp
              · obtain ⟨B, hB⟩ := HI.out.2.2.1 p hp
                exact ⟨B, far _ _ _ _ hB⟩
              · rw [List.mem_singleton] at hp
                subst hp
                have h9 := HI.out.2.2.2.2
                rw [HTK.out, HE.out] at h9
                exact ⟨_, far _ _ _ _ h9⟩
    · have HE := Lib.hid (show l.map (·.1) = cs by rw [HR.out.2.2.1, List.take_of_length_le (by omega)])
      go_wp2
      go_ret
      refine ⟨v, rfl, ?_, HR.out.1⟩
      rw [← HE.out]
      exact ClsR.of_own HR.out.2.1 (fun p hp => by obtain ⟨B, hB⟩ := HR.out.2.2.2 p hp; exact ActsR.of_own hB)
end Go.Proofs.YtbjajipeiigodaaDoor
