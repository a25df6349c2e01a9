/-
  What the reference's Show answers of clauses, however they lie in memory: as the program's.
-/
import Derived.Test.YtbjajipeiigodaaDoorRLet
namespace Go.Proofs.YtbjajipeiigodaaDoor
open Go Go.RowKit

theorem cpy_at : ∀ c : Fin 4, c.val ≠ 0 → ((⟨#[117, 103, 111]⟩ : ByteArray).extract (c.val - 1) c.val).data.toList = [ugoC (c.val : Int)] := by decide +kernel
theorem cpy_run (c : Nat) (h0 : 0 < c) (h3 : c ≤ 3) : ∃ t : ByteArray, t.data.toList = [ugoC (c : Int)] ∧ ∀ w : World, (Instr.slice 9 (.string ⟨#[117, 103, 111]⟩) (some (.int .i64 ((c : Int) - 1))) (some (.int .i64 (c : Int))) none).run Tryd.prog w = .ok (.string t) w := by
  refine ⟨_, cpy_at ⟨c, by omega⟩ (by simp; omega), fun w => ?_⟩
  have e := run_slice_string w 9 ⟨#[117, 103, 111]⟩ .i64 .i64 ((c : Int) - 1) (c : Int) Tryd.underlying9 (by omega) (by omega) (by show _ ≤ (3 : Int); omega)
  rwa [show ((c : Int) - 1).toNat = c - 1 by omega, show ((c : Int)).toNat = c by omega] at e
theorem show_bd {cs : List CC} {k : Nat} (hn : cs.length ≤ 1000) (hl : ∀ c ∈ cs, c.acts.length ≤ 10000) : (showT true (cs.take k)).length ≤ 70004000 := by
  have key : ∀ (l : List CC) (b : Bool), (∀ c ∈ l, c.acts.length ≤ 10000) → (showT b l).length ≤ l.length * 70004 := by
    intro l
    induction l with
    | nil => intro b _; simp [showT]
    | cons c l ih =>
      intro b h
      have h1 := ih false (fun d hd => h d (List.mem_cons_of_mem _ hd))
      have h2 := whoL_len c.who
      have h3 : (c.acts.flatMap actL).length ≤ 7 * c.acts.length := by
        generalize c.acts = al
        induction al with
        | nil => simp
        | cons a al ih =>
          have := actL_len a
          rw [List.flatMap_cons, List.length_append, List.length_cons]
          omega
      have h4 := h c (List.mem_cons_self ..)
      have h5 : (if b = true then ([] : List UInt8) else [44]).length ≤ 1 := by split <;> simp
      simp only [showT, clL, List.length_append, List.length_cons]
      omega
  have h1 := key (cs.take k) true (fun c hc => hl c (List.mem_of_mem_take hc))
  have h2 : (cs.take k).length ≤ 1000 := Nat.le_trans (List.length_take_le' ..) hn
  omega
def ShowPost (l : List UInt8) (w : World) (e : Ending) (w' : World) : Prop := ∃ t : ByteArray, e = .returned (.string t) ∧ t.data.toList = l ∧ Below w.heap.size w w'
theorem rshow_no (v : Value) (cs : List CC) (w : World) (h : ClsR w v cs) (hn : cs.length ≤ 1000) (hl : ∀ c ∈ cs, c.acts.length ≤ 10000) (hr : rightC cs = false) : Calls Tryd.prog 22 #[v] w (ShowPost [] w) := by
  have HR := Lib.hid (rright_any v cs w h (by omega) (fun c hc => Nat.le_trans (hl c hc) (by decide)))
  rw [hr] at HR
  clear hr
  obtain ⟨A, c, rfl, -⟩ := h
  by_cases hz : (0 : Nat) < cs.length
  all_goals
    go_enter Tryd.func22, Tryd.ntmps22
    go_wp2_with fail
    refine HR.out.mono ?_
    rintro e w1 ⟨rfl, hb1⟩
    have HB1 := Lib.hid hb1
    clear hb1
    go_wp2
    refine wp_loop_rounds 1 ?_
    rw [rounds_succ]
    go_wp2
    go_ret
    exact ⟨_, rfl, rfl, HB1.out⟩
set_option maxRecDepth 100000 in
set_option maxHeartbeats 8000000 in
theorem rshow_yes (v : Value) (cs : List CC) (w : World) (h : ClsR w v cs) (hn : cs.length ≤ 1000) (hl : ∀ c ∈ cs, c.acts.length ≤ 10000) (hr : rightC cs = true) : Calls Tryd.prog 22 #[v] w (ShowPost (showT true cs) w) := by
  have HR := Lib.hid (rright_any v cs w h (by omega) (fun c hc => Nat.le_trans (hl c hc) (by decide)))
  rw [hr] at HR
  have HL := Lib.hid hl
  have HRC := Lib.hid hr
  have HBD := Lib.hid (fun k => show_bd (k := k) hn hl)
  clear hl hr
  obtain ⟨A, c, rfl, hc⟩ := h
  have HC := Lib.hid hc
  clear hc
  obtain ⟨R, hR⟩ : ∃ R, showT true cs = R := ⟨_, rfl⟩
  have HV := Lib.hid hR
  rw [hR]
  clear hR
  go_enter Tryd.func22, Tryd.ntmps22
  go_wp2_with fail
  refine HR.out.mono ?_
  rintro e w1 ⟨rfl, hb1⟩
  have HB1 := Lib.hid hb1
  clear hb1
  go_wp2
  go_loopg [4, 5] cs.length (fun g s4 s5 wr => ∃ (k : Nat) (t : ByteArray), s5 = .int .i64 k ∧ s4 = .string t ∧ k ≤ cs.length ∧ g = cs.length - k ∧ t.data.toList = showT true (cs.take k) ∧ Below w.heap.size w wr)
  case atStart => exact ⟨0, ⟨#[]⟩, rfl, rfl, Nat.zero_le _, rfl, rfl, HB1.out⟩
  case round =>
    obtain ⟨k, t, rfl, rfl, hk, rfl, ht, hb⟩ := hrel
    have HT := Lib.hid ht
    have HB := Lib.hid hb
    have zt : t.size ≤ 70004000 := by rw [len_of ht]; exact HBD.out k
    clear ht hb
    by_cases hlt : k < cs.length
    · obtain ⟨x, hx⟩ : ∃ x, cs[k]? = some x := ⟨_, List.getElem?_eq_getElem hlt⟩
      obtain ⟨ad, va, rfl, c0, c1, hA⟩ := HC.out k x hx
      have hcl := HRC.out
      rw [rightC, Bool.and_eq_true] at hcl
      have hok := List.all_eq_true.1 hcl.1 x (List.mem_of_getElem? hx)
      simp only [clOk, Bool.and_eq_true, decide_eq_true_eq] at hok
      obtain ⟨⟨⟨hw0, hw7⟩, -⟩, hra⟩ := hok
      have HSN := Lib.hid (show showT true (cs.take (k + 1)) = showT true (cs.take k) ++ (if k = 0 then [] else [44]) ++ clL x by
        rw [take_snoc' hx, showT_snoc]
        congr 2
        exact sep_of cs k hlt)
      obtain ⟨who, acts⟩ := x
      simp only at c0 hA hw0 hw7 hra
      obtain ⟨who, rfl⟩ := Int.eq_ofNat_of_zero_le hw0
      have d0 := (HB.out.cell (World.block_lt_of_cell? _ _ c0)).trans c0
      have d1 := (HB.out.cell (World.block_lt_of_cell? _ _ c1)).trans c1
      have HD1 := Lib.hid d1
      have HA := Lib.hid (hA.below HB.out)
      have HX := Lib.hid hx
      have HRA := Lib.hid hra
      clear c0 c1 hx hA hra hw0 hcl
      obtain ⟨A', c', rfl, hA'⟩ := HA.out
      have HA' := Lib.hid hA'
      clear hA'
      have hal : (acts.length : Int) ≤ 10000 := by have := HL.out _ (List.mem_of_getElem? HX.out); simp only at this; omega
      have HLW := Lib.hid (fun w h => letters_who who w h)
      by_cases hk0 : (0 : Int) < k
      · by_cases h7 : who = 7
        · have hkn : decide (0 < k) = true := by simp; omega
          have h7' : ((who : Int) == 7) = true := by rw [beq_iff_eq]; omega
          have HWL := Lib.hid (show whoL (who : Int) = [97] by rw [show (who : Int) = 7 by omega]; rfl)
          go_wp2
          go_loopg [4, 6] acts.length (fun g s4 s6 wq => ∃ (m : Nat) (t' : ByteArray), s6 = .int .i64 m ∧ s4 = .string t' ∧ m ≤ acts.length ∧ g = acts.length - m ∧ t'.data.toList = showT true (cs.take k) ++ [44] ++ whoL (who : Int) ++ (acts.take m).flatMap actL ∧ Below wr.heap.size wr wq)
          case atStart => exact ⟨0, _, rfl, rfl, Nat.zero_le _, rfl, by simp only [ByteArray.data_append, Array.toList_append, HT.out, HWL.out, List.take_zero, List.flatMap_nil]; simp, Below.refl _ _⟩
          case round =>
            obtain ⟨m, t', rfl, rfl, hm, rfl, ht, hb⟩ := hrel
            have HT2 := Lib.hid ht
            have HB2 := Lib.hid hb
            have f1 := (hb.cell (World.block_lt_of_cell? _ _ HD1.out)).trans HD1.out
            have zt' : t'.size ≤ 70200000 := by
              have h1 := len_of ht
              have h2 := HBD.out k
              have h3 := whoL_len (who : Int)
              have h4 : ((acts.take m).flatMap actL).length ≤ 7 * (acts.take m).length := by
                generalize acts.take m = al
                induction al with
                | nil => simp
                | cons a al ih =>
                  have := actL_len a
                  rw [List.flatMap_cons, List.length_append, List.length_cons]
                  omega
              have h5 : (acts.take m).length ≤ acts.length := List.length_take_le' ..
              simp at h1
              have h6 : 7 * (min m acts.length) ≤ 70000 := by omega
              simp at h4 h5
              omega
            clear ht hb d0 d1
            by_cases hlt2 : m < acts.length
            · obtain ⟨a, ha⟩ : ∃ a, acts[m]? = some a := ⟨_, List.getElem?_eq_getElem hlt2⟩
              obtain ⟨ad', rfl, e0, e1, e2⟩ := HA'.out m a ha
              have g0 := (HB2.out.cell (World.block_lt_of_cell? _ _ e0)).trans e0
              have g1 := (HB2.out.cell (World.block_lt_of_cell? _ _ e1)).trans e1
              have g2 := (HB2.out.cell (World.block_lt_of_cell? _ _ e2)).trans e2
              have hr := (ract_iff a).1 (List.all_eq_true.1 HRA.out a (List.mem_of_getElem? ha))
              have HN := Lib.hid (show (acts.take (m + 1)).flatMap actL = (acts.take m).flatMap actL ++ actL a by rw [take_snoc' ha, List.flatMap_append]; simp)
              clear e0 e1 e2 ha
              obtain ⟨op, perms, copy⟩ := a
              simp only at hr g0 g1 g2
              obtain ⟨-, hp0, hp1, hq0, hq1, hpc⟩ := hr
              obtain ⟨p, rfl⟩ := Int.eq_ofNat_of_zero_le hp0
              obtain ⟨q, rfl⟩ := Int.eq_ofNat_of_zero_le hq0
              have hcv : (convert 42 9 (.slice (some ⟨wr.heap.size + 1, 0, none⟩) 1 1)).run Tryd.prog ((wr.alloc (.cells #[.int .u8 (co op), .int .i64 (p : Int), .int .i64 (q : Int)] 76)).alloc (.cells #[.int .u8 (co op)] 5)) = .ok (.string ⟨#[op]⟩) ((wr.alloc (.cells #[.int .u8 (co op), .int .i64 (p : Int), .int .i64 (q : Int)] 76)).alloc (.cells #[.int .u8 (co op)] 5)) := by
                have h := conv_one (wr.alloc (.cells #[.int .u8 (co op), .int .i64 (p : Int), .int .i64 (q : Int)] 76)) op 5 1
                rwa [show (wr.alloc (.cells #[.int .u8 (co op), .int .i64 (p : Int), .int .i64 (q : Int)] 76)).heap.size = wr.heap.size + 1 by simp] at h
              have zo : (⟨#[op]⟩ : ByteArray).size ≤ 1 := Nat.le_refl 1
              have HB3 := Lib.hid ((HB2.out.alloc HB2.out.size (.cells #[.int .u8 (co op), .int .i64 (p : Int), .int .i64 (q : Int)] 76)).alloc (by have := HB2.out.size; simp; omega) (.cells #[.int .u8 (co op)] 5))
              by_cases hq : 0 < q
              · have hq' : (0 : Int) < q := by omega
                obtain ⟨tc, htc, hrc⟩ := cpy_run q hq (by omega)
                have zc : tc.size ≤ 1 := by have := len_of htc; simp at this; omega
                have HTC := Lib.hid htc
                have HAL := Lib.hid (show actL ⟨op, (p : Int), (q : Int)⟩ = [op] ++ [ugoC (q : Int)] by simp only [actL]; rw [if_pos (by omega)]; rfl)
                clear htc hpc
                go_wp2
                go_roundg (acts.length - (m + 1))
                case measure => omega
                case rel => exact ⟨m + 1, _, by go_num, rfl, by omega, rfl, by simp only [ByteArray.data_append, Array.toList_append, HT2.out, HTC.out, HN.out, HAL.out]; simp, HB3.out⟩
              · have hq' : ¬ (0 : Int) < q := by omega
                have HLP := Lib.hid (fun w => letters_per p w (by omega))
                have HAL := Lib.hid (show actL ⟨op, (p : Int), (q : Int)⟩ = [op] ++ perP (p : Int) 6 by simp only [actL]; rw [if_neg (by omega)]; rfl)
                clear hpc
                go_wp2_with fail
                refine (HLP.out _).mono ?_
                rintro e w3 ⟨tl, rfl, htl, rfl⟩
                have HTP := Lib.hid htl
                have zp : tl.size ≤ 6 := by have h1 := len_of htl; have h2 := perP_len (p : Int) 6; omega
                clear htl
                go_wp2
                go_roundg (acts.length - (m + 1))
                case measure => omega
                case rel => exact ⟨m + 1, _, by go_num, rfl, by omega, rfl, by simp only [ByteArray.data_append, Array.toList_append, HT2.out, HTP.out, HN.out, HAL.out]; simp, HB3.out⟩
            · have HTE := Lib.hid (show t'.data.toList = showT true (cs.take (k + 1)) by
                rw [HT2.out, HSN.out, show acts.take m = acts from List.take_of_length_le (by omega)]
                simp [clL, show ¬ k = 0 by omega])
              go_wp2
              go_roundg (cs.length - (k + 1))
              case measure => omega
              case rel => exact ⟨k + 1, t', by go_num, rfl, by omega, rfl, HTE.out, HB.out.trans (HB2.out.mono HB.out.size)⟩
        · have hkn : decide (0 < k) = true := by simp; omega
          have h7' : ((who : Int) == 7) = false := by rw [beq_eq_false_iff_ne]; omega
          go_wp2_with fail
          refine (HLW.out _ (by omega)).mono ?_
          rintro e w2 ⟨tl, rfl, htl, rfl⟩
          have HTL := Lib.hid htl
          have zl : tl.size ≤ 3 := by have h1 := len_of htl; have h2 := whoL_len (who : Int); omega
          clear htl
          go_wp2
          go_loopg [4, 6] acts.length (fun g s4 s6 wq => ∃ (m : Nat) (t' : ByteArray), s6 = .int .i64 m ∧ s4 = .string t' ∧ m ≤ acts.length ∧ g = acts.length - m ∧ t'.data.toList = showT true (cs.take k) ++ [44] ++ whoL (who : Int) ++ (acts.take m).flatMap actL ∧ Below wr.heap.size wr wq)
          case atStart => exact ⟨0, _, rfl, rfl, Nat.zero_le _, rfl, by simp only [ByteArray.data_append, Array.toList_append, HT.out, HTL.out, List.take_zero, List.flatMap_nil]; simp, Below.refl _ _⟩
          case round =>
            obtain ⟨m, t', rfl, rfl, hm, rfl, ht, hb⟩ := hrel
            have HT2 := Lib.hid ht
            have HB2 := Lib.hid hb
            have f1 := (hb.cell (World.block_lt_of_cell? _ _ HD1.out)).trans HD1.out
            have zt' : t'.size ≤ 70200000 := by
              have h1 := len_of ht
              have h2 := HBD.out k
              have h3 := whoL_len (who : Int)
              have h4 : ((acts.take m).flatMap actL).length ≤ 7 * (acts.take m).length := by
                generalize acts.take m = al
                induction al with
                | nil => simp
                | cons a al ih =>
                  have := actL_len a
                  rw [List.flatMap_cons, List.length_append, List.length_cons]
                  omega
              have h5 : (acts.take m).length ≤ acts.length := List.length_take_le' ..
              simp at h1
              have h6 : 7 * (min m acts.length) ≤ 70000 := by omega
              simp at h4 h5
              omega
            clear ht hb d0 d1
            by_cases hlt2 : m < acts.length
            · obtain ⟨a, ha⟩ : ∃ a, acts[m]? = some a := ⟨_, List.getElem?_eq_getElem hlt2⟩
              obtain ⟨ad', rfl, e0, e1, e2⟩ := HA'.out m a ha
              have g0 := (HB2.out.cell (World.block_lt_of_cell? _ _ e0)).trans e0
              have g1 := (HB2.out.cell (World.block_lt_of_cell? _ _ e1)).trans e1
              have g2 := (HB2.out.cell (World.block_lt_of_cell? _ _ e2)).trans e2
              have hr := (ract_iff a).1 (List.all_eq_true.1 HRA.out a (List.mem_of_getElem? ha))
              have HN := Lib.hid (show (acts.take (m + 1)).flatMap actL = (acts.take m).flatMap actL ++ actL a by rw [take_snoc' ha, List.flatMap_append]; simp)
              clear e0 e1 e2 ha
              obtain ⟨op, perms, copy⟩ := a
              simp only at hr g0 g1 g2
              obtain ⟨-, hp0, hp1, hq0, hq1, hpc⟩ := hr
              obtain ⟨p, rfl⟩ := Int.eq_ofNat_of_zero_le hp0
              obtain ⟨q, rfl⟩ := Int.eq_ofNat_of_zero_le hq0
              have hcv : (convert 42 9 (.slice (some ⟨wr.heap.size + 1, 0, none⟩) 1 1)).run Tryd.prog ((wr.alloc (.cells #[.int .u8 (co op), .int .i64 (p : Int), .int .i64 (q : Int)] 76)).alloc (.cells #[.int .u8 (co op)] 5)) = .ok (.string ⟨#[op]⟩) ((wr.alloc (.cells #[.int .u8 (co op), .int .i64 (p : Int), .int .i64 (q : Int)] 76)).alloc (.cells #[.int .u8 (co op)] 5)) := by
                have h := conv_one (wr.alloc (.cells #[.int .u8 (co op), .int .i64 (p : Int), .int .i64 (q : Int)] 76)) op 5 1
                rwa [show (wr.alloc (.cells #[.int .u8 (co op), .int .i64 (p : Int), .int .i64 (q : Int)] 76)).heap.size = wr.heap.size + 1 by simp] at h
              have zo : (⟨#[op]⟩ : ByteArray).size ≤ 1 := Nat.le_refl 1
              have HB3 := Lib.hid ((HB2.out.alloc HB2.out.size (.cells #[.int .u8 (co op), .int .i64 (p : Int), .int .i64 (q : Int)] 76)).alloc (by have := HB2.out.size; simp; omega) (.cells #[.int .u8 (co op)] 5))
              by_cases hq : 0 < q
              · have hq' : (0 : Int) < q := by omega
                obtain ⟨tc, htc, hrc⟩ := cpy_run q hq (by omega)
                have zc : tc.size ≤ 1 := by have := len_of htc; simp at this; omega
                have HTC := Lib.hid htc
                have HAL := Lib.hid (show actL ⟨op, (p : Int), (q : Int)⟩ = [op] ++ [ugoC (q : Int)] by simp only [actL]; rw [if_pos (by omega)]; rfl)
                clear htc hpc
                go_wp2
                go_roundg (acts.length - (m + 1))
                case measure => omega
                case rel => exact ⟨m + 1, _, by go_num, rfl, by omega, rfl, by simp only [ByteArray.data_append, Array.toList_append, HT2.out, HTC.out, HN.out, HAL.out]; simp, HB3.out⟩
              · have hq' : ¬ (0 : Int) < q := by omega
                have HLP := Lib.hid (fun w => letters_per p w (by omega))
                have HAL := Lib.hid (show actL ⟨op, (p : Int), (q : Int)⟩ = [op] ++ perP (p : Int) 6 by simp only [actL]; rw [if_neg (by omega)]; rfl)
                clear hpc
                go_wp2_with fail
                refine (HLP.out _).mono ?_
                rintro e w3 ⟨tl, rfl, htl, rfl⟩
                have HTP := Lib.hid htl
                have zp : tl.size ≤ 6 := by have h1 := len_of htl; have h2 := perP_len (p : Int) 6; omega
                clear htl
                go_wp2
                go_roundg (acts.length - (m + 1))
                case measure => omega
                case rel => exact ⟨m + 1, _, by go_num, rfl, by omega, rfl, by simp only [ByteArray.data_append, Array.toList_append, HT2.out, HTP.out, HN.out, HAL.out]; simp, HB3.out⟩
            · have HTE := Lib.hid (show t'.data.toList = showT true (cs.take (k + 1)) by
                rw [HT2.out, HSN.out, show acts.take m = acts from List.take_of_length_le (by omega)]
                simp [clL, show ¬ k = 0 by omega])
              go_wp2
              go_roundg (cs.length - (k + 1))
              case measure => omega
              case rel => exact ⟨k + 1, t', by go_num, rfl, by omega, rfl, HTE.out, HB.out.trans (HB2.out.mono HB.out.size)⟩
      · by_cases h7 : who = 7
        · have hkn : decide (0 < k) = false := by simp; omega
          have h7' : ((who : Int) == 7) = true := by rw [beq_iff_eq]; omega
          have HWL := Lib.hid (show whoL (who : Int) = [97] by rw [show (who : Int) = 7 by omega]; rfl)
          go_wp2
          go_loopg [4, 6] acts.length (fun g s4 s6 wq => ∃ (m : Nat) (t' : ByteArray), s6 = .int .i64 m ∧ s4 = .string t' ∧ m ≤ acts.length ∧ g = acts.length - m ∧ t'.data.toList = showT true (cs.take k) ++ [] ++ whoL (who : Int) ++ (acts.take m).flatMap actL ∧ Below wr.heap.size wr wq)
          case atStart => exact ⟨0, _, rfl, rfl, Nat.zero_le _, rfl, by simp only [ByteArray.data_append, Array.toList_append, HT.out, HWL.out, List.take_zero, List.flatMap_nil]; simp, Below.refl _ _⟩
          case round =>
            obtain ⟨m, t', rfl, rfl, hm, rfl, ht, hb⟩ := hrel
            have HT2 := Lib.hid ht
            have HB2 := Lib.hid hb
            have f1 := (hb.cell (World.block_lt_of_cell? _ _ HD1.out)).trans HD1.out
            have zt' : t'.size ≤ 70200000 := by
              have h1 := len_of ht
              have h2 := HBD.out k
              have h3 := whoL_len (who : Int)
              have h4 : ((acts.take m).flatMap actL).length ≤ 7 * (acts.take m).length := by
                generalize acts.take m = al
                induction al with
                | nil => simp
                | cons a al ih =>
                  have := actL_len a
                  rw [List.flatMap_cons, List.length_append, List.length_cons]
                  omega
              have h5 : (acts.take m).length ≤ acts.length := List.length_take_le' ..
              simp at h1
              have h6 : 7 * (min m acts.length) ≤ 70000 := by omega
              simp at h4 h5
              omega
            clear ht hb d0 d1
            by_cases hlt2 : m < acts.length
            · obtain ⟨a, ha⟩ : ∃ a, acts[m]? = some a := ⟨_, List.getElem?_eq_getElem hlt2⟩
              obtain ⟨ad', rfl, e0, e1, e2⟩ := HA'.out m a ha
              have g0 := (HB2.out.cell (World.block_lt_of_cell? _ _ e0)).trans e0
              have g1 := (HB2.out.cell (World.block_lt_of_cell? _ _ e1)).trans e1
              have g2 := (HB2.out.cell (World.block_lt_of_cell? _ _ e2)).trans e2
              have hr := (ract_iff a).1 (List.all_eq_true.1 HRA.out a (List.mem_of_getElem? ha))
              have HN := Lib.hid (show (acts.take (m + 1)).flatMap actL = (acts.take m).flatMap actL ++ actL a by rw [take_snoc' ha, List.flatMap_append]; simp)
              clear e0 e1 e2 ha
              obtain ⟨op, perms, copy⟩ := a
              simp only at hr g0 g1 g2
              obtain ⟨-, hp0, hp1, hq0, hq1, hpc⟩ := hr
              obtain ⟨p, rfl⟩ := Int.eq_ofNat_of_zero_le hp0
              obtain ⟨q, rfl⟩ := Int.eq_ofNat_of_zero_le hq0
              have hcv : (convert 42 9 (.slice (some ⟨wr.heap.size + 1, 0, none⟩) 1 1)).run Tryd.prog ((wr.alloc (.cells #[.int .u8 (co op), .int .i64 (p : Int), .int .i64 (q : Int)] 76)).alloc (.cells #[.int .u8 (co op)] 5)) = .ok (.string ⟨#[op]⟩) ((wr.alloc (.cells #[.int .u8 (co op), .int .i64 (p : Int), .int .i64 (q : Int)] 76)).alloc (.cells #[.int .u8 (co op)] 5)) := by
                have h := conv_one (wr.alloc (.cells #[.int .u8 (co op), .int .i64 (p : Int), .int .i64 (q : Int)] 76)) op 5 1
                rwa [show (wr.alloc (.cells #[.int .u8 (co op), .int .i64 (p : Int), .int .i64 (q : Int)] 76)).heap.size = wr.heap.size + 1 by simp] at h
              have zo : (⟨#[op]⟩ : ByteArray).size ≤ 1 := Nat.le_refl 1
              have HB3 := Lib.hid ((HB2.out.alloc HB2.out.size (.cells #[.int .u8 (co op), .int .i64 (p : Int), .int .i64 (q : Int)] 76)).alloc (by have := HB2.out.size; simp; omega) (.cells #[.int .u8 (co op)] 5))
              by_cases hq : 0 < q
              · have hq' : (0 : Int) < q := by omega
                obtain ⟨tc, htc, hrc⟩ := cpy_run q hq (by omega)
                have zc : tc.size ≤ 1 := by have := len_of htc; simp at this; omega
                have HTC := Lib.hid htc
                have HAL := Lib.hid (show actL ⟨op, (p : Int), (q : Int)⟩ = [op] ++ [ugoC (q : Int)] by simp only [actL]; rw [if_pos (by omega)]; rfl)
                clear htc hpc
                go_wp2
                go_roundg (acts.length - (m + 1))
                case measure => omega
                case rel => exact ⟨m + 1, _, by go_num, rfl, by omega, rfl, by simp only [ByteArray.data_append, Array.toList_append, HT2.out, HTC.out, HN.out, HAL.out]; simp, HB3.out⟩
              · have hq' : ¬ (0 : Int) < q := by omega
                have HLP := Lib.hid (fun w => letters_per p w (by omega))
                have HAL := Lib.hid (show actL ⟨op, (p : Int), (q : Int)⟩ = [op] ++ perP (p : Int) 6 by simp only [actL]; rw [if_neg (by omega)]; rfl)
                clear hpc
                go_wp2_with fail
                refine (HLP.out _).mono ?_
                rintro e w3 ⟨tl, rfl, htl, rfl⟩
                have HTP := Lib.hid htl
                have zp : tl.size ≤ 6 := by have h1 := len_of htl; have h2 := perP_len (p : Int) 6; omega
                clear htl
                go_wp2
                go_roundg (acts.length - (m + 1))
                case measure => omega
                case rel => exact ⟨m + 1, _, by go_num, rfl, by omega, rfl, by simp only [ByteArray.data_append, Array.toList_append, HT2.out, HTP.out, HN.out, HAL.out]; simp, HB3.out⟩
            · have HTE := Lib.hid (show t'.data.toList = showT true (cs.take (k + 1)) by
                rw [HT2.out, HSN.out, show acts.take m = acts from List.take_of_length_le (by omega)]
                simp [clL, show k = 0 by omega])
              go_wp2
              go_roundg (cs.length - (k + 1))
              case measure => omega
              case rel => exact ⟨k + 1, t', by go_num, rfl, by omega, rfl, HTE.out, HB.out.trans (HB2.out.mono HB.out.size)⟩
        · have hkn : decide (0 < k) = false := by simp; omega
          have h7' : ((who : Int) == 7) = false := by rw [beq_eq_false_iff_ne]; omega
          go_wp2_with fail
          refine (HLW.out _ (by omega)).mono ?_
          rintro e w2 ⟨tl, rfl, htl, rfl⟩
          have HTL := Lib.hid htl
          have zl : tl.size ≤ 3 := by have h1 := len_of htl; have h2 := whoL_len (who : Int); omega
          clear htl
          go_wp2
          go_loopg [4, 6] acts.length (fun g s4 s6 wq => ∃ (m : Nat) (t' : ByteArray), s6 = .int .i64 m ∧ s4 = .string t' ∧ m ≤ acts.length ∧ g = acts.length - m ∧ t'.data.toList = showT true (cs.take k) ++ [] ++ whoL (who : Int) ++ (acts.take m).flatMap actL ∧ Below wr.heap.size wr wq)
          case atStart => exact ⟨0, _, rfl, rfl, Nat.zero_le _, rfl, by simp only [ByteArray.data_append, Array.toList_append, HT.out, HTL.out, List.take_zero, List.flatMap_nil]; simp, Below.refl _ _⟩
          case round =>
            obtain ⟨m, t', rfl, rfl, hm, rfl, ht, hb⟩ := hrel
            have HT2 := Lib.hid ht
            have HB2 := Lib.hid hb
            have f1 := (hb.cell (World.block_lt_of_cell? _ _ HD1.out)).trans HD1.out
            have zt' : t'.size ≤ 70200000 := by
              have h1 := len_of ht
              have h2 := HBD.out k
              have h3 := whoL_len (who : Int)
              have h4 : ((acts.take m).flatMap actL).length ≤ 7 * (acts.take m).length := by
                generalize acts.take m = al
                induction al with
                | nil => simp
                | cons a al ih =>
                  have := actL_len a
                  rw [List.flatMap_cons, List.length_append, List.length_cons]
                  omega
              have h5 : (acts.take m).length ≤ acts.length := List.length_take_le' ..
              simp at h1
              have h6 : 7 * (min m acts.length) ≤ 70000 := by omega
              simp at h4 h5
              omega
            clear ht hb d0 d1
            by_cases hlt2 : m < acts.length
            · obtain ⟨a, ha⟩ : ∃ a, acts[m]? = some a := ⟨_, List.getElem?_eq_getElem hlt2⟩
              obtain ⟨ad', rfl, e0, e1, e2⟩ := HA'.out m a ha
              have g0 := (HB2.out.cell (World.block_lt_of_cell? _ _ e0)).trans e0
              have g1 := (HB2.out.cell (World.block_lt_of_cell? _ _ e1)).trans e1
              have g2 := (HB2.out.cell (World.block_lt_of_cell? _ _ e2)).trans e2
              have hr := (ract_iff a).1 (List.all_eq_true.1 HRA.out a (List.mem_of_getElem? ha))
              have HN := Lib.hid (show (acts.take (m + 1)).flatMap actL = (acts.take m).flatMap actL ++ actL a by rw [take_snoc' ha, List.flatMap_append]; simp)
              clear e0 e1 e2 ha
              obtain ⟨op, perms, copy⟩ := a
              simp only at hr g0 g1 g2
              obtain ⟨-, hp0, hp1, hq0, hq1, hpc⟩ := hr
              obtain ⟨p, rfl⟩ := Int.eq_ofNat_of_zero_le hp0
              obtain ⟨q, rfl⟩ := Int.eq_ofNat_of_zero_le hq0
              have hcv : (convert 42 9 (.slice (some ⟨wr.heap.size + 1, 0, none⟩) 1 1)).run Tryd.prog ((wr.alloc (.cells #[.int .u8 (co op), .int .i64 (p : Int), .int .i64 (q : Int)] 76)).alloc (.cells #[.int .u8 (co op)] 5)) = .ok (.string ⟨#[op]⟩) ((wr.alloc (.cells #[.int .u8 (co op), .int .i64 (p : Int), .int .i64 (q : Int)] 76)).alloc (.cells #[.int .u8 (co op)] 5)) := by
                have h := conv_one (wr.alloc (.cells #[.int .u8 (co op), .int .i64 (p : Int), .int .i64 (q : Int)] 76)) op 5 1
                rwa [show (wr.alloc (.cells #[.int .u8 (co op), .int .i64 (p : Int), .int .i64 (q : Int)] 76)).heap.size = wr.heap.size + 1 by simp] at h
              have zo : (⟨#[op]⟩ : ByteArray).size ≤ 1 := Nat.le_refl 1
              have HB3 := Lib.hid ((HB2.out.alloc HB2.out.size (.cells #[.int .u8 (co op), .int .i64 (p : Int), .int .i64 (q : Int)] 76)).alloc (by have := HB2.out.size; simp; omega) (.cells #[.int .u8 (co op)] 5))
              by_cases hq : 0 < q
              · have hq' : (0 : Int) < q := by omega
                obtain ⟨tc, htc, hrc⟩ := cpy_run q hq (by omega)
                have zc : tc.size ≤ 1 := by have := len_of htc; simp at this; omega
                have HTC := Lib.hid htc
                have HAL := Lib.hid (show actL ⟨op, (p : Int), (q : Int)⟩ = [op] ++ [ugoC (q : Int)] by simp only [actL]; rw [if_pos (by omega)]; rfl)
                clear htc hpc
                go_wp2
                go_roundg (acts.length - (m + 1))
                case measure => omega
                case rel => exact ⟨m + 1, _, by go_num, rfl, by omega, rfl, by simp only [ByteArray.data_append, Array.toList_append, HT2.out, HTC.out, HN.out, HAL.out]; simp, HB3.out⟩
              · have hq' : ¬ (0 : Int) < q := by omega
                have HLP := Lib.hid (fun w => letters_per p w (by omega))
                have HAL := Lib.hid (show actL ⟨op, (p : Int), (q : Int)⟩ = [op] ++ perP (p : Int) 6 by simp only [actL]; rw [if_neg (by omega)]; rfl)
                clear hpc
                go_wp2_with fail
                refine (HLP.out _).mono ?_
                rintro e w3 ⟨tl, rfl, htl, rfl⟩
                have HTP := Lib.hid htl
                have zp : tl.size ≤ 6 := by have h1 := len_of htl; have h2 := perP_len (p : Int) 6; omega
                clear htl
                go_wp2
                go_roundg (acts.length - (m + 1))
                case measure => omega
                case rel => exact ⟨m + 1, _, by go_num, rfl, by omega, rfl, by simp only [ByteArray.data_append, Array.toList_append, HT2.out, HTP.out, HN.out, HAL.out]; simp, HB3.out⟩
            · have HTE := Lib.hid (show t'.data.toList = showT true (cs.take (k + 1)) by
                rw [HT2.out, HSN.out, show acts.take m = acts from List.take_of_length_le (by omega)]
                simp [clL, show k = 0 by omega])
              go_wp2
              go_roundg (cs.length - (k + 1))
              case measure => omega
              case rel => exact ⟨k + 1, t', by go_num, rfl, by omega, rfl, HTE.out, HB.out.trans (HB2.out.mono HB.out.size)⟩
    · have HF := Lib.hid (show t.data.toList = R by rw [HT.out, List.take_of_length_le (by omega), HV.out])
      go_wp2
      go_ret
      exact ⟨t, rfl, HF.out, HB.out⟩
theorem rshow_any (v : Value) (cs : List CC) (w : World) (h : ClsR w v cs) (hn : cs.length ≤ 1000) (hl : ∀ c ∈ cs, c.acts.length ≤ 10000) : Calls Tryd.prog 22 #[v] w (ShowPost (showC cs) w) := by
  cases hr : rightC cs with
  | true =>
    rw [show showC cs = showT true cs by rw [showC, if_pos hr]]
    exact rshow_yes v cs w h hn hl hr
  | false =>
    rw [show showC cs = [] by rw [showC, hr]; rfl]
    exact rshow_no v cs w h hn hl hr
end Go.Proofs.YtbjajipeiigodaaDoor
