/-
  The walk of ClauseBack: it answers true of every slice of clauses and every text.
-/
import Derived.Test.YtbjajipeiigodaaDoorAwake
import Derived.Test.YtbjajipeiigodaaDoorBackM2
namespace Go.Proofs.YtbjajipeiigodaaDoor
open Go Go.RowKit

theorem showT_len (n : Nat) : ∀ (cs : List CC) (b : Bool), (∀ c ∈ cs, c.acts.length ≤ n) → (showT b cs).length ≤ cs.length * (4 + 7 * n)
  | [], b, _ => by simp [showT]
  | c :: cs, b, h => by
    have ih := showT_len n cs false (fun d hd => h d (List.mem_cons_of_mem _ hd))
    have h1 := whoL_len c.who
    have h2 : (c.acts.flatMap actL).length ≤ 7 * c.acts.length := by
      generalize c.acts = al
      induction al with
      | nil => simp
      | cons a al ih =>
        have := actL_len a
        rw [List.flatMap_cons, List.length_append, List.length_cons]
        omega
    have h3 := h c (List.mem_cons_self ..)
    have h4 : (if b = true then ([] : List UInt8) else [44]).length ≤ 1 := by split <;> simp
    simp only [showT, clL, List.length_append, List.length_cons]
    rw [Nat.succ_mul]
    have h5 : 7 * c.acts.length ≤ 7 * n := Nat.mul_le_mul_left 7 h3
    omega
theorem showC_len {cs : List CC} (h0 : cs.length ≤ 40) (h : ∀ c ∈ cs, c.acts.length ≤ 40) : (showC cs).length ≤ 20000 := by
  unfold showC
  split
  · have h1 := showT_len 40 cs true h
    have h2 : cs.length * (4 + 7 * 40) ≤ 40 * (4 + 7 * 40) := Nat.mul_le_mul_right _ h0
    omega
  · simp
theorem parse_few {s : ByteArray} {cs : List CC} (h : parseC s.data.toList = some cs) (hs : s.size ≤ 300) : cs.length ≤ 301 ∧ ∀ c ∈ cs, c.acts.length ≤ 300 := by
  have h1 := allC_len h
  have h2 := pieces_count s.data.toList
  have h3 := allC_acts h (n := 300) (fun p hp => by
    have := piece_len _ p hp
    simp at this
    omega)
  simp at h2
  exact ⟨by omega, h3⟩
theorem list_size (l : List UInt8) : (⟨l.toArray⟩ : ByteArray).size = l.length := by simp [ByteArray.size]
/-- A text of letters, parsed. -/
theorem parse_list (l : List UInt8) (w : World) (h : l.length ≤ 1000000) : Calls Tryd.prog 15 #[.string ⟨l.toArray⟩] w (ParsePost (parseC l) w) := by
  have := parse_any ⟨l.toArray⟩ w (by simpa [ByteArray.size] using h)
  simpa using this
set_option maxRecDepth 100000 in
theorem back_far (v : Value) (cs : List CC) (s : ByteArray) (w : World) (h : ClsR w v cs) (hn : cs.length ≤ maxLen) (_hl : ∀ c ∈ cs, c.acts.length ≤ maxLen) (hs : s.size ≤ maxLen) (hc : 40 < cs.length ∨ 300 < s.size) : Calls Tryd.prog 5 #[v, .string s] w fun e w' => e = .returned (.bool true) ∧ Below w.heap.size w w' := by
  unfold maxLen at hn hs
  obtain ⟨A, c, rfl, -⟩ := h
  clear _hl
  by_cases h1 : (40 : Int) < cs.length
  · clear hc
    go_enter Tryd.func5, Tryd.ntmps5
    go_wp2_with fail
    refine (awake_any _).mono ?_
    rintro e w1 ⟨rfl, hb1⟩
    have B1 := Lib.hid hb1
    clear hb1
    go_wp2
    go_ret
    exact ⟨rfl, B1.out⟩
  · have h2 : (300 : Int) < s.size := by omega
    clear hc
    go_enter Tryd.func5, Tryd.ntmps5
    go_wp2_with fail
    refine (awake_any _).mono ?_
    rintro e w1 ⟨rfl, hb1⟩
    have B1 := Lib.hid hb1
    clear hb1
    go_wp2
    go_ret
    exact ⟨rfl, B1.out⟩
set_option maxRecDepth 100000 in
set_option maxHeartbeats 4000000 in
theorem back_nn (v : Value) (cs : List CC) (s : ByteArray) (w : World) (h : ClsR w v cs) (_hn : cs.length ≤ maxLen) (hl : ∀ c ∈ cs, c.acts.length ≤ maxLen) (_hs : s.size ≤ maxLen) (hc : cs.length ≤ 40) (hc2 : s.size ≤ 300) (hr : rightC cs = false) (hp : parseC s.data.toList = none) : Calls Tryd.prog 5 #[v, .string s] w fun e w' => e = .returned (.bool true) ∧ Below w.heap.size w w' := by
  have n1 : ¬ (40 : Int) < cs.length := by omega
  have n2 : ¬ (300 : Int) < s.size := by omega
  have HRT := Lib.hid (fun w h hl => right_any v cs w h (by omega) hl)
  rw [hr] at HRT
  have HPS := Lib.hid (fun w => parse_any s w (by omega))
  rw [hp] at HPS
  unfold ParsePost at HPS
  simp only at HPS
  have HC := Lib.hid h
  have HL := Lib.hid hl
  obtain ⟨A, c, rfl, hcc⟩ := h
  have HCC := Lib.hid hcc
  clear hcc hl _hn _hs hr hp
  go_enter Tryd.func5, Tryd.ntmps5
  go_wp2_with fail
  refine (awake_any _).mono ?_
  rintro e w1 ⟨rfl, hb1⟩
  have B1 := Lib.hid hb1
  have C1 := Lib.hid (HC.out.below hb1)
  clear hb1
  go_wp2
  go_loop [6] (fun i => ∃ k : Nat, k ≤ cs.length ∧ i = .int .i64 k ∧ ∀ c ∈ cs.take k, c.acts.length ≤ 40) (fun i => cs.length - (intOf i).toNat)
  case atStart => exact ⟨0, Nat.zero_le _, rfl, by simp⟩
  case round =>
    obtain ⟨k, hk, rfl, hall⟩ := hrel
    have HALL := Lib.hid hall
    clear hall
    by_cases hlt : k < cs.length
    · obtain ⟨x, hx⟩ : ∃ x, cs[k]? = some x := ⟨_, List.getElem?_eq_getElem hlt⟩
      obtain ⟨A2, c2, e2, hcc⟩ := C1.out
      injection e2 with e2 _ _
      subst e2
      obtain ⟨ad, va, rfl, c0, c1, hA⟩ := hcc k x hx
      have HX := Lib.hid hx
      clear hcc c0 hx
      obtain ⟨who, acts⟩ := x
      obtain ⟨A', c', rfl, -⟩ := hA
      simp only at c1
      have hal : acts.length ≤ 9223372036854775807 := by have := HL.out _ (List.mem_of_getElem? HX.out); unfold maxLen at this; simpa using this
      by_cases hq : (40 : Int) < acts.length
      · go_wp2
        go_ret
        exact ⟨rfl, B1.out⟩
      · have HN := Lib.hid (show ∀ c ∈ cs.take (k + 1), c.acts.length ≤ 40 by
          intro c hc
          rw [take_snoc' HX.out] at hc
          rcases List.mem_append.1 hc with hc | hc
          · exact HALL.out c hc
          · rw [List.mem_singleton] at hc
            rw [hc]
            simp only
            omega)
        go_wp2
        go_round
        case rel => exact ⟨k + 1, by omega, by go_num, HN.out⟩
        case measure => simp [intOf]; omega
    · have hall := HALL.out
      rw [List.take_of_length_le (by omega)] at hall
      have H40 := Lib.hid hall
      have HL6 := Lib.hid (show ∀ c ∈ cs, c.acts.length ≤ 1000000 from fun c hc => Nat.le_trans (hall c hc) (by decide))
      have HL4 := Lib.hid (show ∀ c ∈ cs, c.acts.length ≤ 10000 from fun c hc => Nat.le_trans (hall c hc) (by decide))
      clear hall
      go_wp2_with fail
      refine (HRT.out _ C1.out HL6.out).mono ?_
      rintro e w2 ⟨rfl, hb2⟩
      have B2 := Lib.hid (B1.out.trans (hb2.mono B1.out.size))
      have C2 := Lib.hid (C1.out.below hb2)
      clear hb2
      go_wp2_with fail
      refine (HPS.out _).mono ?_
      rintro e w7 ⟨v7, hb7, rfl, rfl⟩
      have B7 := Lib.hid (B2.out.trans (hb7.mono B2.out.size))
      clear hb7
      go_wp2
      go_ret
      exact ⟨rfl, B7.out⟩
set_option maxRecDepth 100000 in
set_option maxHeartbeats 4000000 in
theorem back_ns (v : Value) (cs : List CC) (s : ByteArray) (w : World) (h : ClsR w v cs) (_hn : cs.length ≤ maxLen) (hl : ∀ c ∈ cs, c.acts.length ≤ maxLen) (_hs : s.size ≤ maxLen) (hc : cs.length ≤ 40) (hc2 : s.size ≤ 300) (hr : rightC cs = false) (ys : List CC) (hp : parseC s.data.toList = some ys) : Calls Tryd.prog 5 #[v, .string s] w fun e w' => e = .returned (.bool true) ∧ Below w.heap.size w w' := by
  have n1 : ¬ (40 : Int) < cs.length := by omega
  have n2 : ¬ (300 : Int) < s.size := by omega
  have HRT := Lib.hid (fun w h hl => right_any v cs w h (by omega) hl)
  rw [hr] at HRT
  have HPS := Lib.hid (fun w => parse_any s w (by omega))
  rw [hp] at HPS
  unfold ParsePost at HPS
  simp only at HPS
  have HYR := Lib.hid (parse_right hp)
  have hyl := parse_len hp
  have HBY := Lib.hid (back_show (parse_right hp))
  have hyf := parse_few hp hc2
  have y1 := hyf.1
  have HYL := Lib.hid hyf.2
  simp at hyl
  have HC := Lib.hid h
  have HL := Lib.hid hl
  obtain ⟨A, c, rfl, hcc⟩ := h
  have HCC := Lib.hid hcc
  clear hcc hl _hn _hs hr hp hyf
  go_enter Tryd.func5, Tryd.ntmps5
  go_wp2_with fail
  refine (awake_any _).mono ?_
  rintro e w1 ⟨rfl, hb1⟩
  have B1 := Lib.hid hb1
  have C1 := Lib.hid (HC.out.below hb1)
  clear hb1
  go_wp2
  go_loop [6] (fun i => ∃ k : Nat, k ≤ cs.length ∧ i = .int .i64 k ∧ ∀ c ∈ cs.take k, c.acts.length ≤ 40) (fun i => cs.length - (intOf i).toNat)
  case atStart => exact ⟨0, Nat.zero_le _, rfl, by simp⟩
  case round =>
    obtain ⟨k, hk, rfl, hall⟩ := hrel
    have HALL := Lib.hid hall
    clear hall
    by_cases hlt : k < cs.length
    · obtain ⟨x, hx⟩ : ∃ x, cs[k]? = some x := ⟨_, List.getElem?_eq_getElem hlt⟩
      obtain ⟨A2, c2, e2, hcc⟩ := C1.out
      injection e2 with e2 _ _
      subst e2
      obtain ⟨ad, va, rfl, c0, c1, hA⟩ := hcc k x hx
      have HX := Lib.hid hx
      clear hcc c0 hx
      obtain ⟨who, acts⟩ := x
      obtain ⟨A', c', rfl, -⟩ := hA
      simp only at c1
      have hal : acts.length ≤ 9223372036854775807 := by have := HL.out _ (List.mem_of_getElem? HX.out); unfold maxLen at this; simpa using this
      by_cases hq : (40 : Int) < acts.length
      · go_wp2
        go_ret
        exact ⟨rfl, B1.out⟩
      · have HN := Lib.hid (show ∀ c ∈ cs.take (k + 1), c.acts.length ≤ 40 by
          intro c hc
          rw [take_snoc' HX.out] at hc
          rcases List.mem_append.1 hc with hc | hc
          · exact HALL.out c hc
          · rw [List.mem_singleton] at hc
            rw [hc]
            simp only
            omega)
        go_wp2
        go_round
        case rel => exact ⟨k + 1, by omega, by go_num, HN.out⟩
        case measure => simp [intOf]; omega
    · have hall := HALL.out
      rw [List.take_of_length_le (by omega)] at hall
      have H40 := Lib.hid hall
      have HL6 := Lib.hid (show ∀ c ∈ cs, c.acts.length ≤ 1000000 from fun c hc => Nat.le_trans (hall c hc) (by decide))
      have HL4 := Lib.hid (show ∀ c ∈ cs, c.acts.length ≤ 10000 from fun c hc => Nat.le_trans (hall c hc) (by decide))
      clear hall
      go_wp2_with fail
      refine (HRT.out _ C1.out HL6.out).mono ?_
      rintro e w2 ⟨rfl, hb2⟩
      have B2 := Lib.hid (B1.out.trans (hb2.mono B1.out.size))
      have C2 := Lib.hid (C1.out.below hb2)
      clear hb2
      have HYL4 := Lib.hid (show ∀ c ∈ ys, c.acts.length ≤ 10000 from fun c hc => Nat.le_trans (HYL.out c hc) (by decide))
      have HYL6 := Lib.hid (show ∀ c ∈ ys, c.acts.length ≤ 1000000 from fun c hc => Nat.le_trans (HYL.out c hc) (by decide))
      go_wp2_with fail
      refine (HPS.out _).mono ?_
      rintro e w7 ⟨v7, hb7, ho7, rfl⟩
      have B7 := Lib.hid (B2.out.trans (hb7.mono B2.out.size))
      have Y7 := Lib.hid ho7.cls
      clear hb7 ho7
      go_wp2_with fail
      refine (show_any _ ys w7 Y7.out (by omega) HYL4.out).mono ?_
      rintro e w8 ⟨rfl, hb8⟩
      have B8 := Lib.hid (B7.out.trans (hb8.mono B7.out.size))
      have Y8 := Lib.hid (Y7.out.below hb8)
      clear hb8
      have HP9 := Lib.hid (fun w => parse_list (showC ys) w (by omega))
      rw [HBY.out] at HP9
      unfold ParsePost at HP9
      simp only at HP9
      go_wp2_with fail
      refine (HP9.out _).mono ?_
      rintro e w9 ⟨v9, hb9, ho9, rfl⟩
      have B9 := Lib.hid (B8.out.trans (hb9.mono B8.out.size))
      have Y9 := Lib.hid (Y8.out.below hb9)
      have Z9 := Lib.hid ho9.cls
      clear hb9 ho9
      have HRY := Lib.hid (right_any v7 ys w9 Y9.out (by omega) HYL6.out)
      rw [HYR.out] at HRY
      go_wp2_with fail
      refine HRY.out.mono ?_
      rintro e wa ⟨rfl, hba⟩
      have Ba := Lib.hid (B9.out.trans (hba.mono B9.out.size))
      have Ya := Lib.hid (Y9.out.below hba)
      have Za := Lib.hid (Z9.out.below hba)
      clear hba
      go_wp2_with fail
      refine (model_any v7 ys wa Ya.out (by omega) HYL4.out).mono ?_
      rintro e wb ⟨vb, rfl, hcb, hbb⟩
      have Bb := Lib.hid (Ba.out.trans (hbb.mono Ba.out.size))
      have Yb := Lib.hid (Ya.out.below hbb)
      have Zb := Lib.hid (Za.out.below hbb)
      have Mb := Lib.hid hcb
      clear hbb hcb
      go_wp2_with fail
      refine (same_any v9 vb ys wb Zb.out Mb.out (by omega) HYL4.out).mono ?_
      rintro e wc ⟨rfl, hbc⟩
      have Bc := Lib.hid (Bb.out.trans (hbc.mono Bb.out.size))
      have Yc := Lib.hid (Yb.out.below hbc)
      clear hbc
      go_wp2_with fail
      refine (show_any v7 ys wc Yc.out (by omega) HYL4.out).mono ?_
      rintro e wd ⟨rfl, hbd⟩
      have Bd := Lib.hid (Bc.out.trans (hbd.mono Bc.out.size))
      clear hbd
      have hsz : (((⟨(showC ys).toArray⟩ : ByteArray).size : Nat) : Int) ≤ s.size := by rw [list_size]; omega
      go_wp2
      go_ret
      exact ⟨rfl, Bd.out⟩
set_option maxRecDepth 100000 in
set_option maxHeartbeats 4000000 in
theorem back_sn (v : Value) (cs : List CC) (s : ByteArray) (w : World) (h : ClsR w v cs) (_hn : cs.length ≤ maxLen) (hl : ∀ c ∈ cs, c.acts.length ≤ maxLen) (_hs : s.size ≤ maxLen) (hc : cs.length ≤ 40) (hc2 : s.size ≤ 300) (hr : rightC cs = true) (hp : parseC s.data.toList = none) : Calls Tryd.prog 5 #[v, .string s] w fun e w' => e = .returned (.bool true) ∧ Below w.heap.size w w' := by
  have n1 : ¬ (40 : Int) < cs.length := by omega
  have n2 : ¬ (300 : Int) < s.size := by omega
  have HRT := Lib.hid (fun w h hl => right_any v cs w h (by omega) hl)
  rw [hr] at HRT
  have HPS := Lib.hid (fun w => parse_any s w (by omega))
  rw [hp] at HPS
  unfold ParsePost at HPS
  simp only at HPS
  have HBS := Lib.hid (back_show hr)
  have HC := Lib.hid h
  have HL := Lib.hid hl
  obtain ⟨A, c, rfl, hcc⟩ := h
  have HCC := Lib.hid hcc
  clear hcc hl _hn _hs hr hp
  go_enter Tryd.func5, Tryd.ntmps5
  go_wp2_with fail
  refine (awake_any _).mono ?_
  rintro e w1 ⟨rfl, hb1⟩
  have B1 := Lib.hid hb1
  have C1 := Lib.hid (HC.out.below hb1)
  clear hb1
  go_wp2
  go_loop [6] (fun i => ∃ k : Nat, k ≤ cs.length ∧ i = .int .i64 k ∧ ∀ c ∈ cs.take k, c.acts.length ≤ 40) (fun i => cs.length - (intOf i).toNat)
  case atStart => exact ⟨0, Nat.zero_le _, rfl, by simp⟩
  case round =>
    obtain ⟨k, hk, rfl, hall⟩ := hrel
    have HALL := Lib.hid hall
    clear hall
    by_cases hlt : k < cs.length
    · obtain ⟨x, hx⟩ : ∃ x, cs[k]? = some x := ⟨_, List.getElem?_eq_getElem hlt⟩
      obtain ⟨A2, c2, e2, hcc⟩ := C1.out
      injection e2 with e2 _ _
      subst e2
      obtain ⟨ad, va, rfl, c0, c1, hA⟩ := hcc k x hx
      have HX := Lib.hid hx
      clear hcc c0 hx
      obtain ⟨who, acts⟩ := x
      obtain ⟨A', c', rfl, -⟩ := hA
      simp only at c1
      have hal : acts.length ≤ 9223372036854775807 := by have := HL.out _ (List.mem_of_getElem? HX.out); unfold maxLen at this; simpa using this
      by_cases hq : (40 : Int) < acts.length
      · go_wp2
        go_ret
        exact ⟨rfl, B1.out⟩
      · have HN := Lib.hid (show ∀ c ∈ cs.take (k + 1), c.acts.length ≤ 40 by
          intro c hc
          rw [take_snoc' HX.out] at hc
          rcases List.mem_append.1 hc with hc | hc
          · exact HALL.out c hc
          · rw [List.mem_singleton] at hc
            rw [hc]
            simp only
            omega)
        go_wp2
        go_round
        case rel => exact ⟨k + 1, by omega, by go_num, HN.out⟩
        case measure => simp [intOf]; omega
    · have hall := HALL.out
      rw [List.take_of_length_le (by omega)] at hall
      have H40 := Lib.hid hall
      have HL6 := Lib.hid (show ∀ c ∈ cs, c.acts.length ≤ 1000000 from fun c hc => Nat.le_trans (hall c hc) (by decide))
      have HL4 := Lib.hid (show ∀ c ∈ cs, c.acts.length ≤ 10000 from fun c hc => Nat.le_trans (hall c hc) (by decide))
      clear hall
      go_wp2_with fail
      refine (HRT.out _ C1.out HL6.out).mono ?_
      rintro e w2 ⟨rfl, hb2⟩
      have B2 := Lib.hid (B1.out.trans (hb2.mono B1.out.size))
      have C2 := Lib.hid (C1.out.below hb2)
      clear hb2
      go_wp2_with fail
      refine (show_any _ cs w2 C2.out (by omega) HL4.out).mono ?_
      rintro e w3 ⟨rfl, hb3⟩
      have B3 := Lib.hid (B2.out.trans (hb3.mono B2.out.size))
      have C3 := Lib.hid (C2.out.below hb3)
      clear hb3
      have HP4 := Lib.hid (fun w => parse_list (showC cs) w (Nat.le_trans (showC_len hc H40.out) (by decide)))
      rw [HBS.out] at HP4
      unfold ParsePost at HP4
      simp only at HP4
      go_wp2_with fail
      refine (HP4.out _).mono ?_
      rintro e w4 ⟨v4, hb4, ho4, rfl⟩
      have B4 := Lib.hid (B3.out.trans (hb4.mono B3.out.size))
      have C4 := Lib.hid (C3.out.below hb4)
      have X4 := Lib.hid ho4.cls
      clear hb4 ho4
      go_wp2_with fail
      refine (model_any _ cs w4 C4.out (by omega) HL4.out).mono ?_
      rintro e w5 ⟨v5, rfl, hc5, hb5⟩
      have B5 := Lib.hid (B4.out.trans (hb5.mono B4.out.size))
      have X5 := Lib.hid (X4.out.below hb5)
      have M5 := Lib.hid hc5
      clear hb5 hc5
      go_wp2_with fail
      refine (same_any v4 v5 cs w5 X5.out M5.out (by omega) HL4.out).mono ?_
      rintro e w6 ⟨rfl, hb6⟩
      have B6 := Lib.hid (B5.out.trans (hb6.mono B5.out.size))
      clear hb6
      go_wp2_with fail
      refine (HPS.out _).mono ?_
      rintro e w7 ⟨v7, hb7, rfl, rfl⟩
      have B7 := Lib.hid (B6.out.trans (hb7.mono B6.out.size))
      clear hb7
      go_wp2
      go_ret
      exact ⟨rfl, B7.out⟩
set_option maxRecDepth 100000 in
set_option maxHeartbeats 4000000 in
theorem back_ss (v : Value) (cs : List CC) (s : ByteArray) (w : World) (h : ClsR w v cs) (_hn : cs.length ≤ maxLen) (hl : ∀ c ∈ cs, c.acts.length ≤ maxLen) (_hs : s.size ≤ maxLen) (hc : cs.length ≤ 40) (hc2 : s.size ≤ 300) (hr : rightC cs = true) (ys : List CC) (hp : parseC s.data.toList = some ys) : Calls Tryd.prog 5 #[v, .string s] w fun e w' => e = .returned (.bool true) ∧ Below w.heap.size w w' := by
  have n1 : ¬ (40 : Int) < cs.length := by omega
  have n2 : ¬ (300 : Int) < s.size := by omega
  have HRT := Lib.hid (fun w h hl => right_any v cs w h (by omega) hl)
  rw [hr] at HRT
  have HPS := Lib.hid (fun w => parse_any s w (by omega))
  rw [hp] at HPS
  unfold ParsePost at HPS
  simp only at HPS
  have HBS := Lib.hid (back_show hr)
  have HYR := Lib.hid (parse_right hp)
  have hyl := parse_len hp
  have HBY := Lib.hid (back_show (parse_right hp))
  have hyf := parse_few hp hc2
  have y1 := hyf.1
  have HYL := Lib.hid hyf.2
  simp at hyl
  have HC := Lib.hid h
  have HL := Lib.hid hl
  obtain ⟨A, c, rfl, hcc⟩ := h
  have HCC := Lib.hid hcc
  clear hcc hl _hn _hs hr hp hyf
  go_enter Tryd.func5, Tryd.ntmps5
  go_wp2_with fail
  refine (awake_any _).mono ?_
  rintro e w1 ⟨rfl, hb1⟩
  have B1 := Lib.hid hb1
  have C1 := Lib.hid (HC.out.below hb1)
  clear hb1
  go_wp2
  go_loop [6] (fun i => ∃ k : Nat, k ≤ cs.length ∧ i = .int .i64 k ∧ ∀ c ∈ cs.take k, c.acts.length ≤ 40) (fun i => cs.length - (intOf i).toNat)
  case atStart => exact ⟨0, Nat.zero_le _, rfl, by simp⟩
  case round =>
    obtain ⟨k, hk, rfl, hall⟩ := hrel
    have HALL := Lib.hid hall
    clear hall
    by_cases hlt : k < cs.length
    · obtain ⟨x, hx⟩ : ∃ x, cs[k]? = some x := ⟨_, List.getElem?_eq_getElem hlt⟩
      obtain ⟨A2, c2, e2, hcc⟩ := C1.out
      injection e2 with e2 _ _
      subst e2
      obtain ⟨ad, va, rfl, c0, c1, hA⟩ := hcc k x hx
      have HX := Lib.hid hx
      clear hcc c0 hx
      obtain ⟨who, acts⟩ := x
      obtain ⟨A', c', rfl, -⟩ := hA
      simp only at c1
      have hal : acts.length ≤ 9223372036854775807 := by have := HL.out _ (List.mem_of_getElem? HX.out); unfold maxLen at this; simpa using this
      by_cases hq : (40 : Int) < acts.length
      · go_wp2
        go_ret
        exact ⟨rfl, B1.out⟩
      · have HN := Lib.hid (show ∀ c ∈ cs.take (k + 1), c.acts.length ≤ 40 by
          intro c hc
          rw [take_snoc' HX.out] at hc
          rcases List.mem_append.1 hc with hc | hc
          · exact HALL.out c hc
          · rw [List.mem_singleton] at hc
            rw [hc]
            simp only
            omega)
        go_wp2
        go_round
        case rel => exact ⟨k + 1, by omega, by go_num, HN.out⟩
        case measure => simp [intOf]; omega
    · have hall := HALL.out
      rw [List.take_of_length_le (by omega)] at hall
      have H40 := Lib.hid hall
      have HL6 := Lib.hid (show ∀ c ∈ cs, c.acts.length ≤ 1000000 from fun c hc => Nat.le_trans (hall c hc) (by decide))
      have HL4 := Lib.hid (show ∀ c ∈ cs, c.acts.length ≤ 10000 from fun c hc => Nat.le_trans (hall c hc) (by decide))
      clear hall
      go_wp2_with fail
      refine (HRT.out _ C1.out HL6.out).mono ?_
      rintro e w2 ⟨rfl, hb2⟩
      have B2 := Lib.hid (B1.out.trans (hb2.mono B1.out.size))
      have C2 := Lib.hid (C1.out.below hb2)
      clear hb2
      go_wp2_with fail
      refine (show_any _ cs w2 C2.out (by omega) HL4.out).mono ?_
      rintro e w3 ⟨rfl, hb3⟩
      have B3 := Lib.hid (B2.out.trans (hb3.mono B2.out.size))
      have C3 := Lib.hid (C2.out.below hb3)
      clear hb3
      have HP4 := Lib.hid (fun w => parse_list (showC cs) w (Nat.le_trans (showC_len hc H40.out) (by decide)))
      rw [HBS.out] at HP4
      unfold ParsePost at HP4
      simp only at HP4
      go_wp2_with fail
      refine (HP4.out _).mono ?_
      rintro e w4 ⟨v4, hb4, ho4, rfl⟩
      have B4 := Lib.hid (B3.out.trans (hb4.mono B3.out.size))
      have C4 := Lib.hid (C3.out.below hb4)
      have X4 := Lib.hid ho4.cls
      clear hb4 ho4
      go_wp2_with fail
      refine (model_any _ cs w4 C4.out (by omega) HL4.out).mono ?_
      rintro e w5 ⟨v5, rfl, hc5, hb5⟩
      have B5 := Lib.hid (B4.out.trans (hb5.mono B4.out.size))
      have X5 := Lib.hid (X4.out.below hb5)
      have M5 := Lib.hid hc5
      clear hb5 hc5
      go_wp2_with fail
      refine (same_any v4 v5 cs w5 X5.out M5.out (by omega) HL4.out).mono ?_
      rintro e w6 ⟨rfl, hb6⟩
      have B6 := Lib.hid (B5.out.trans (hb6.mono B5.out.size))
      clear hb6
      have HYL4 := Lib.hid (show ∀ c ∈ ys, c.acts.length ≤ 10000 from fun c hc => Nat.le_trans (HYL.out c hc) (by decide))
      have HYL6 := Lib.hid (show ∀ c ∈ ys, c.acts.length ≤ 1000000 from fun c hc => Nat.le_trans (HYL.out c hc) (by decide))
      go_wp2_with fail
      refine (HPS.out _).mono ?_
      rintro e w7 ⟨v7, hb7, ho7, rfl⟩
      have B7 := Lib.hid (B6.out.trans (hb7.mono B6.out.size))
      have Y7 := Lib.hid ho7.cls
      clear hb7 ho7
      go_wp2_with fail
      refine (show_any _ ys w7 Y7.out (by omega) HYL4.out).mono ?_
      rintro e w8 ⟨rfl, hb8⟩
      have B8 := Lib.hid (B7.out.trans (hb8.mono B7.out.size))
      have Y8 := Lib.hid (Y7.out.below hb8)
      clear hb8
      have HP9 := Lib.hid (fun w => parse_list (showC ys) w (by omega))
      rw [HBY.out] at HP9
      unfold ParsePost at HP9
      simp only at HP9
      go_wp2_with fail
      refine (HP9.out _).mono ?_
      rintro e w9 ⟨v9, hb9, ho9, rfl⟩
      have B9 := Lib.hid (B8.out.trans (hb9.mono B8.out.size))
      have Y9 := Lib.hid (Y8.out.below hb9)
      have Z9 := Lib.hid ho9.cls
      clear hb9 ho9
      have HRY := Lib.hid (right_any v7 ys w9 Y9.out (by omega) HYL6.out)
      rw [HYR.out] at HRY
      go_wp2_with fail
      refine HRY.out.mono ?_
      rintro e wa ⟨rfl, hba⟩
      have Ba := Lib.hid (B9.out.trans (hba.mono B9.out.size))
      have Ya := Lib.hid (Y9.out.below hba)
      have Za := Lib.hid (Z9.out.below hba)
      clear hba
      go_wp2_with fail
      refine (model_any v7 ys wa Ya.out (by omega) HYL4.out).mono ?_
      rintro e wb ⟨vb, rfl, hcb, hbb⟩
      have Bb := Lib.hid (Ba.out.trans (hbb.mono Ba.out.size))
      have Yb := Lib.hid (Ya.out.below hbb)
      have Zb := Lib.hid (Za.out.below hbb)
      have Mb := Lib.hid hcb
      clear hbb hcb
      go_wp2_with fail
      refine (same_any v9 vb ys wb Zb.out Mb.out (by omega) HYL4.out).mono ?_
      rintro e wc ⟨rfl, hbc⟩
      have Bc := Lib.hid (Bb.out.trans (hbc.mono Bb.out.size))
      have Yc := Lib.hid (Yb.out.below hbc)
      clear hbc
      go_wp2_with fail
      refine (show_any v7 ys wc Yc.out (by omega) HYL4.out).mono ?_
      rintro e wd ⟨rfl, hbd⟩
      have Bd := Lib.hid (Bc.out.trans (hbd.mono Bc.out.size))
      clear hbd
      have hsz : (((⟨(showC ys).toArray⟩ : ByteArray).size : Nat) : Int) ≤ s.size := by rw [list_size]; omega
      go_wp2
      go_ret
      exact ⟨rfl, Bd.out⟩
theorem backLaw (v : Value) (cs : List CC) (s : ByteArray) (w : World) (h : ClsR w v cs) (hn : cs.length ≤ maxLen) (hl : ∀ c ∈ cs, c.acts.length ≤ maxLen) (hs : s.size ≤ maxLen) : Calls Tryd.prog 5 #[v, .string s] w fun e w' => e = .returned (.bool true) ∧ Below w.heap.size w w' := by
  by_cases hc : 40 < cs.length ∨ 300 < s.size
  · exact back_far v cs s w h hn hl hs hc
  · cases hr : rightC cs with
    | false =>
      cases hp : parseC s.data.toList with
      | none => exact back_nn v cs s w h hn hl hs (by omega) (by omega) hr hp
      | some ys => exact back_ns v cs s w h hn hl hs (by omega) (by omega) hr ys hp
    | true =>
      cases hp : parseC s.data.toList with
      | none => exact back_sn v cs s w h hn hl hs (by omega) (by omega) hr hp
      | some ys => exact back_ss v cs s w h hn hl hs (by omega) (by omega) hr ys hp
end Go.Proofs.YtbjajipeiigodaaDoor
