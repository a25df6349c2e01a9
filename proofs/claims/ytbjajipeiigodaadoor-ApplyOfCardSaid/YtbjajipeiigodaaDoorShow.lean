/-
  What clause.Show answers of clauses, however they lie in memory, if they are no more than a thousand, each of ten thousand acts at most.
-/
import Derived.Test.YtbjajipeiigodaaDoorApp
namespace Go.Proofs.YtbjajipeiigodaaDoor
open Go Go.RowKit

/-- A clause's letters. -/
def clL (c : CC) : List UInt8 := whoL c.who ++ c.acts.flatMap actL
def showT : Bool → List CC → List UInt8
  | _, [] => []
  | b, c :: r => (if b then [] else [44]) ++ clL c ++ showT false r
theorem showT_snoc (l : List CC) (c : CC) : ∀ b, showT b (l ++ [c]) = showT b l ++ (if b && l.isEmpty then [] else [44]) ++ clL c := by
  induction l with
  | nil => intro b; cases b <;> simp [showT]
  | cons d l ih =>
    intro b
    rw [List.cons_append, showT, ih false, showT]
    simp
def showC (cs : List CC) : List UInt8 := if rightC cs = true then showT true cs else []
theorem whoL_len (n : Int) : (whoL n).length ≤ 3 := by
  unfold whoL
  split
  · simp
  · exact whoP_len n 3
theorem actL_len (a : CA) : (actL a).length ≤ 7 := by
  unfold actL
  have := perP_len a.perms 6
  split <;> simp
  omega
theorem sep_of (cs : List CC) (k : Nat) (hk : k < cs.length) : (if true && (cs.take k).isEmpty then ([] : List UInt8) else [44]) = if k = 0 then [] else [44] := by
  by_cases h : k = 0
  · subst h; simp
  · have : (cs.take k).isEmpty = false := by
      rw [List.isEmpty_eq_false_iff]
      intro e
      have := congrArg List.length e
      simp at this
      rcases this with h1 | h1
      · omega
      · rw [h1] at hk; simp at hk
    rw [this, if_neg h]; rfl

theorem own_ne_blk2 {w : World} {B g : Nat} {v : Value} {l : List UInt8} {cs : Array Value} (h : Buf w B v l) (hk : Blk w g 34 cs) : v.ownBlock ≠ some g := by
  rcases h.2 with ⟨rfl, _⟩ | ⟨g', cap, cur, rfl, _, hh, _⟩
  · simp [Value.ownBlock]
  · intro e
    have : g' = g := by simpa [Value.ownBlock] using e
    subst this
    unfold Blk at hk
    rw [hk] at hh
    injection hh with hh
    injection hh with _ ht
    cases ht
theorem ract_copy {a : CA} (h : ract a = true) : 0 ≤ a.copy ∧ a.copy ≤ 3 := by
  simp only [ract, Bool.and_eq_true, decide_eq_true_eq] at h
  exact ⟨h.1.1.2, h.1.2⟩
theorem show_wrong (v : Value) (cs : List CC) (w : World) (h : ClsR w v cs) (hn : cs.length ≤ 1000) (hl : ∀ c ∈ cs, c.acts.length ≤ 10000) (hr : rightC cs = false) : Calls Tryd.prog 21 #[v] w fun e w' => e = .returned (.string ⟨#[]⟩) ∧ Below w.heap.size w w' := by
  have HC := Lib.hid (right_any v cs w h (by omega) (fun c hc => Nat.le_trans (hl c hc) (by decide)))
  rw [hr] at HC
  clear h hn hl hr
  go_enter Tryd.func21, Tryd.ntmps21
  go_wp2_with fail
  refine HC.out.mono ?_
  rintro e w' ⟨rfl, hb⟩
  go_wp2
  go_ret
  exact ⟨rfl, hb⟩

set_option maxRecDepth 100000 in
set_option maxHeartbeats 4000000 in
theorem show_right (v : Value) (cs : List CC) (w : World) (h : ClsR w v cs) (hn : cs.length ≤ 1000) (hl : ∀ c ∈ cs, c.acts.length ≤ 10000) (hr : rightC cs = true) : Calls Tryd.prog 21 #[v] w fun e w' => e = .returned (.string ⟨(showT true cs).toArray⟩) ∧ Below w.heap.size w w' := by
  have HRC := Lib.hid (right_any v cs w h (by omega) (fun c hc => Nat.le_trans (hl c hc) (by decide)))
  rw [hr] at HRC
  have HL := Lib.hid hl
  obtain ⟨A, c, rfl, hc⟩ := h
  have HC := Lib.hid hc
  have HOK := Lib.hid hr
  clear hc hl hr
  obtain ⟨T, hT⟩ : ∃ T, showT true cs = T := ⟨_, rfl⟩
  have HT := Lib.hid hT
  rw [hT]
  clear hT
  go_enter Tryd.func21, Tryd.ntmps21
  go_wp2_with fail
  refine HRC.out.mono ?_
  rintro e w0 ⟨rfl, hb0⟩
  have HB0 := Lib.hid hb0
  clear hb0
  go_wp2
  go_loopg [3, 13] cs.length (fun g s3 s13 wr => ∃ k : Nat, s13 = .int .i64 k ∧ k ≤ cs.length ∧ g = cs.length - k ∧ Buf wr w0.heap.size s3 (showT true (cs.take k)) ∧ (showT true (cs.take k)).length ≤ k * 70004 ∧ Below w0.heap.size w0 wr)
  case atStart => exact ⟨0, rfl, Nat.zero_le _, rfl, World.ownsRow_nil _ _ _ _, by simp [showT], Below.refl _ _⟩
  case round =>
    obtain ⟨k, rfl, hk, rfl, hR, hlen, hb⟩ := hrel
    obtain ⟨v, rfl⟩ : ∃ v, v = u3 := ⟨_, rfl⟩
    have HR := Lib.hid hR
    have HB := Lib.hid hb
    clear hR hb
    by_cases hlt : k < cs.length
    · obtain ⟨x, hx⟩ : ∃ x, cs[k]? = some x := ⟨_, List.getElem?_eq_getElem hlt⟩
      have HBW := Lib.hid (HB0.out.trans (HB.out.mono HB0.out.size))
      obtain ⟨ad, va, rfl, c0, c1, hA⟩ := HC.out k x hx
      obtain ⟨who, acts⟩ := x
      simp only at c0 hA
      have d0 := (HBW.out.cell (World.block_lt_of_cell? _ _ c0)).trans c0
      have d1 := (HBW.out.cell (World.block_lt_of_cell? _ _ c1)).trans c1
      have HX := Lib.hid hx
      have HS := Lib.hid (show showT true (cs.take (k + 1)) = showT true (cs.take k) ++ (if k = 0 then [] else [44]) ++ (whoL who ++ acts.flatMap actL) by rw [take_snoc' hx, showT_snoc, sep_of cs k hlt]; rfl)
      have hal : acts.length ≤ 10000 := HL.out _ (List.mem_of_getElem? hx)
      have HOA := Lib.hid (show acts.all ract = true by
        have h1 := HOK.out
        rw [rightC, Bool.and_eq_true] at h1
        have h2 := List.all_eq_true.1 h1.1 _ (List.mem_of_getElem? hx)
        simp only [clOk, Bool.and_eq_true] at h2
        exact h2.2)
      obtain ⟨A', c', rfl, hA'⟩ := hA
      have HA' := Lib.hid hA'
      clear c0 c1 hx hA'
      have hw0 : w0.heap.size ≤ wr.heap.size := HB.out.size
      by_cases hk0 : k = 0
      · have hkz : ¬ (0 : Int) < (k : Int) := by omega
        have hwhl := whoL_len who
        obtain ⟨pre, hpre⟩ : ∃ pre, showT true (cs.take k) = pre := ⟨_, rfl⟩
        have HPRE := Lib.hid (show showT true (cs.take k) ++ (if k = 0 then [] else [44]) = pre by rw [if_pos hk0, List.append_nil, hpre])
        have hpl : pre.length ≤ k * 70004 + 1 := Nat.le_succ_of_le (hpre ▸ hlen)
        rw [hpre] at HR
        clear hk0 hpre hlen
        have HBF := Lib.hid (HR.out.alloc (.cells #[.int .i64 who, .slice A' acts.length c'] 34))
        have HBL := Lib.hid (HB.out.alloc hw0 (.cells #[.int .i64 who, .slice A' acts.length c'] 34))
        have HBK := Lib.hid (Blk.new wr 34 #[.int .i64 who, .slice A' acts.length c'])
        go_wp2_with fail
        refine (appendWho_any v pre who w0.heap.size (wr.alloc _) HBF.out (by simp; omega) (by omega)).mono ?_
        rintro e w2 ⟨v2, rfl, hbf2, hbl2, hot2⟩
        have HBF2 := Lib.hid hbf2
        have HBL2 := Lib.hid (HBL.out.trans hbl2)
        have hbk2 := hot2 _ _ HBK.out (by intro c fz e; injection e with _ e; cases e)
        have k1 := Blk.cell hbk2 1
        simp at k1
        clear hbf2 hbl2 hbk2 hot2
        go_wp2
        go_loopg [3, 30] acts.length (fun g s3 s30 wq => ∃ m : Nat, s30 = .int .i64 m ∧ m ≤ acts.length ∧ g = acts.length - m ∧ Buf wq w0.heap.size s3 (pre ++ whoL who ++ (acts.take m).flatMap actL) ∧ ((acts.take m).flatMap actL).length ≤ m * 7 ∧ Below w0.heap.size w0 wq)
        case atStart => exact ⟨0, rfl, Nat.zero_le _, rfl, by simpa using HBF2.out, by simp, HBL2.out⟩
        case round =>
          obtain ⟨m, rfl, hm, rfl, hR3, hlen3, hb3⟩ := hrel
          obtain ⟨v3, rfl⟩ : ∃ v, v = u3 := ⟨_, rfl⟩
          have HR3 := Lib.hid hR3
          have HB3 := Lib.hid hb3
          clear hR3 hb3
          by_cases hlt2 : m < acts.length
          · obtain ⟨a, ha⟩ : ∃ a, acts[m]? = some a := ⟨_, List.getElem?_eq_getElem hlt2⟩
            obtain ⟨ad', rfl, e0, e1, e2⟩ := HA'.out m a ha
            have HBW3 := Lib.hid (HB0.out.trans (HB3.out.mono HB0.out.size))
            have g0 := (HBW3.out.cell (World.block_lt_of_cell? _ _ e0)).trans e0
            have g1 := (HBW3.out.cell (World.block_lt_of_cell? _ _ e1)).trans e1
            have g2 := (HBW3.out.cell (World.block_lt_of_cell? _ _ e2)).trans e2
            have HXA := Lib.hid ha
            have hra := List.all_eq_true.1 HOA.out _ (List.mem_of_getElem? ha)
            have hcp := ract_copy hra
            have hcp0 := hcp.1
            have hcp1 := hcp.2
            have hal3 := actL_len a
            have HAA := Lib.hid (fun w => appendAct_any v3 (pre ++ whoL who ++ (acts.take m).flatMap actL) a w0.heap.size w)
            clear e0 e1 e2 ha hra hcp
            have HS3 := Lib.hid (show (acts.take (m + 1)).flatMap actL = (acts.take m).flatMap actL ++ actL a by rw [take_snoc' HXA.out, List.flatMap_append]; simp)
            have hb4 : (pre ++ whoL who ++ (acts.take m).flatMap actL).length ≤ 90000000 := by rw [List.length_append, List.length_append]; omega
            obtain ⟨op, perms, copy⟩ := a
            have HBF3 := Lib.hid (HR3.out.alloc (.cells #[.int .u8 (co op), .int .i64 perms, .int .i64 copy] 60))
            have HBL3 := Lib.hid (HB3.out.alloc HB3.out.size (.cells #[.int .u8 (co op), .int .i64 perms, .int .i64 copy] 60))
            go_wp2_with fail
            refine (HAA.out (wr.alloc _) HBF3.out HBL3.out.size hb4 hcp0 hcp1).mono ?_
            rintro e w4 ⟨v4, rfl, hbf4, hbl4, -⟩
            have HBF4 := Lib.hid hbf4
            have HBL4 := Lib.hid (HBL3.out.trans hbl4)
            clear hbf4 hbl4
            go_wp2
            go_roundg (acts.length - (m + 1))
            case measure => omega
            case rel => exact ⟨m + 1, by go_num, by omega, rfl, by rw [HS3.out, ← List.append_assoc]; exact HBF4.out, by rw [HS3.out, List.length_append]; omega, HBL4.out⟩
          · have HE3 := Lib.hid (show acts.take m = acts from List.take_of_length_le (by omega))
            go_wp2
            go_roundg (cs.length - (k + 1))
            case measure => omega
            case rel =>
              have h5 := HR3.out
              have h6 := hlen3
              rw [HE3.out] at h5 h6
              refine ⟨k + 1, by go_num, by omega, rfl, ?_, ?_, HB3.out⟩
              · rw [HS.out, HPRE.out, ← List.append_assoc]; exact h5
              · rw [HS.out, HPRE.out, List.length_append, List.length_append]; omega
      · have hkz : (0 : Int) < (k : Int) := by omega
        have hwhl := whoL_len who
        obtain ⟨pre0, hpre0⟩ : ∃ pre0, showT true (cs.take k) = pre0 := ⟨_, rfl⟩
        obtain ⟨pre, hpre⟩ : ∃ pre, pre0 ++ [44] = pre := ⟨_, rfl⟩
        have HPRE := Lib.hid (show showT true (cs.take k) ++ (if k = 0 then [] else [44]) = pre by rw [if_neg hk0, hpre0, hpre])
        have hpl0 : pre0.length ≤ k * 70004 := hpre0 ▸ hlen
        have hpl : pre.length ≤ k * 70004 + 1 := by have h9 := congrArg List.length hpre; rw [List.length_append] at h9; simp only [List.length_cons, List.length_nil] at h9; omega
        rw [hpre0] at HR
        have HPP := Lib.hid hpre
        clear hk0 hpre hpre0 hlen
        have HBF0 := Lib.hid (HR.out.alloc (.cells #[.int .i64 who, .slice A' acts.length c'] 34))
        have HBL0 := Lib.hid (HB.out.alloc hw0 (.cells #[.int .i64 who, .slice A' acts.length c'] 34))
        have HBK0 := Lib.hid (Blk.new wr 34 #[.int .i64 who, .slice A' acts.length c'])
        go_wp2_with (at_builtin; refine wpList_append_byte rfl (.tmp 20) (.tmp 21) rfl w0.heap.size v pre0 rfl (wr.alloc _) _ 44 rfl HBF0.out (slice_next wr _) (by omega) (by simp; omega) ?_; intro v1 w1 ho hg; have HBF := Lib.hid ho; have HBL := Lib.hid (HBL0.out.grown hg (by simp; omega) (fun k hk => (World.ownsRow.lt HBF0.out k hk).1)); have HBK := Lib.hid (HBK0.out.kept hg (own_ne_blk2 HBF0.out HBK0.out).symm); have k0 := HBK.out.cell 0; simp at k0; clear ho hg)
        rw [HPP.out] at HBF
        refine (appendWho_any v1 pre who w0.heap.size w1 HBF.out HBL.out.size (by omega)).mono ?_
        rintro e w2 ⟨v2, rfl, hbf2, hbl2, hot2⟩
        have HBF2 := Lib.hid hbf2
        have HBL2 := Lib.hid (HBL.out.trans hbl2)
        have hbk2 := hot2 _ _ HBK.out (by intro c fz e; injection e with _ e; cases e)
        have k1 := Blk.cell hbk2 1
        simp at k1
        clear hbf2 hbl2 hbk2 hot2
        go_wp2
        go_loopg [3, 30] acts.length (fun g s3 s30 wq => ∃ m : Nat, s30 = .int .i64 m ∧ m ≤ acts.length ∧ g = acts.length - m ∧ Buf wq w0.heap.size s3 (pre ++ whoL who ++ (acts.take m).flatMap actL) ∧ ((acts.take m).flatMap actL).length ≤ m * 7 ∧ Below w0.heap.size w0 wq)
        case atStart => exact ⟨0, rfl, Nat.zero_le _, rfl, by simpa using HBF2.out, by simp, HBL2.out⟩
        case round =>
          obtain ⟨m, rfl, hm, rfl, hR3, hlen3, hb3⟩ := hrel
          obtain ⟨v3, rfl⟩ : ∃ v, v = u3 := ⟨_, rfl⟩
          have HR3 := Lib.hid hR3
          have HB3 := Lib.hid hb3
          clear hR3 hb3
          by_cases hlt2 : m < acts.length
          · obtain ⟨a, ha⟩ : ∃ a, acts[m]? = some a := ⟨_, List.getElem?_eq_getElem hlt2⟩
            obtain ⟨ad', rfl, e0, e1, e2⟩ := HA'.out m a ha
            have HBW3 := Lib.hid (HB0.out.trans (HB3.out.mono HB0.out.size))
            have g0 := (HBW3.out.cell (World.block_lt_of_cell? _ _ e0)).trans e0
            have g1 := (HBW3.out.cell (World.block_lt_of_cell? _ _ e1)).trans e1
            have g2 := (HBW3.out.cell (World.block_lt_of_cell? _ _ e2)).trans e2
            have HXA := Lib.hid ha
            have hra := List.all_eq_true.1 HOA.out _ (List.mem_of_getElem? ha)
            have hcp := ract_copy hra
            have hcp0 := hcp.1
            have hcp1 := hcp.2
            have hal3 := actL_len a
            have HAA := Lib.hid (fun w => appendAct_any v3 (pre ++ whoL who ++ (acts.take m).flatMap actL) a w0.heap.size w)
            clear e0 e1 e2 ha hra hcp
            have HS3 := Lib.hid (show (acts.take (m + 1)).flatMap actL = (acts.take m).flatMap actL ++ actL a by rw [take_snoc' HXA.out, List.flatMap_append]; simp)
            have hb4 : (pre ++ whoL who ++ (acts.take m).flatMap actL).length ≤ 90000000 := by rw [List.length_append, List.length_append]; omega
            obtain ⟨op, perms, copy⟩ := a
            have HBF3 := Lib.hid (HR3.out.alloc (.cells #[.int .u8 (co op), .int .i64 perms, .int .i64 copy] 60))
            have HBL3 := Lib.hid (HB3.out.alloc HB3.out.size (.cells #[.int .u8 (co op), .int .i64 perms, .int .i64 copy] 60))
            go_wp2_with fail
            refine (HAA.out (wr.alloc _) HBF3.out HBL3.out.size hb4 hcp0 hcp1).mono ?_
            rintro e w4 ⟨v4, rfl, hbf4, hbl4, -⟩
            have HBF4 := Lib.hid hbf4
            have HBL4 := Lib.hid (HBL3.out.trans hbl4)
            clear hbf4 hbl4
            go_wp2
            go_roundg (acts.length - (m + 1))
            case measure => omega
            case rel => exact ⟨m + 1, by go_num, by omega, rfl, by rw [HS3.out, ← List.append_assoc]; exact HBF4.out, by rw [HS3.out, List.length_append]; omega, HBL4.out⟩
          · have HE3 := Lib.hid (show acts.take m = acts from List.take_of_length_le (by omega))
            go_wp2
            go_roundg (cs.length - (k + 1))
            case measure => omega
            case rel =>
              have h5 := HR3.out
              have h6 := hlen3
              rw [HE3.out] at h5 h6
              refine ⟨k + 1, by go_num, by omega, rfl, ?_, ?_, HB3.out⟩
              · rw [HS.out, HPRE.out, ← List.append_assoc]; exact h5
              · rw [HS.out, HPRE.out, List.length_append, List.length_append]; omega
    · have HE := Lib.hid (show cs.take k = cs from List.take_of_length_le (by omega))
      have hcv := conv_buf HR.out
      rw [HE.out, HT.out] at hcv
      go_wp2
      go_ret
      exact ⟨rfl, HB0.out.trans (HB.out.mono HB0.out.size)⟩
theorem show_any (v : Value) (cs : List CC) (w : World) (h : ClsR w v cs) (hn : cs.length ≤ 1000) (hl : ∀ c ∈ cs, c.acts.length ≤ 10000) : Calls Tryd.prog 21 #[v] w fun e w' => e = .returned (.string ⟨(showC cs).toArray⟩) ∧ Below w.heap.size w w' := by
  cases hr : rightC cs with
  | true =>
    have := show_right v cs w h hn hl hr
    rw [showC, if_pos hr]
    exact this
  | false =>
    have := show_wrong v cs w h hn hl hr
    rw [showC, if_neg (by rw [hr]; decide)]
    exact this
end Go.Proofs.YtbjajipeiigodaaDoor
