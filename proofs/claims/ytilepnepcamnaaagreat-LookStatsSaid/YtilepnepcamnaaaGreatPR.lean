/-
  The reference's Split. The condition: a path has a million bytes at most.
-/
import Derived.Test.YtilepnepcamnaaaGreatPA
namespace Go.Proofs.YtilepnepcamnaaaGreat
open Go Go.RowKit
set_option maxRecDepth 100000

theorem ref_abs (p : ByteArray) (w : World) :
    Calls Tryz.prog 75 #[.string p] w fun e w' => e = .returned (.bool (absP (tl p))) ∧ w = w' := by
  obtain ⟨R, hR⟩ : ∃ R, absP (tl p) = R := ⟨_, rfl⟩
  rw [hR]
  have HR := Lib.hid hR
  clear hR
  by_cases h0 : 0 < p.size
  · have n0 := neq_empty p
    rw [decide_eq_true h0] at n0
    have i0 := empty_false (s := p) (by omega)
    obtain ⟨b, hb⟩ : ∃ b, p[0] = b := ⟨_, rfl⟩
    have HB := Lib.hid (show R = (b == 47) by
      rw [← HR.out, absP, List.head?_eq_getElem?, tl_at h0, hb]
      simp)
    go_enter Tryz.func75, Tryz.ntmps75
    go_wp2
    go_ret
    exact ⟨ret_bool (by
      rw [HB.out]
      by_cases h : b = 47
      · rw [h]; rfl
      · rw [beq_eq_false_iff_ne.2 h]; exact co_ne (a := b) (b := 47) h), rfl⟩
  · have i0 : p.toList = [] := (empty_iff p).2 (by omega)
    have HB := Lib.hid (show R = false by
      rw [← HR.out, absP, List.head?_eq_getElem?, List.getElem?_eq_none (by rw [tl_len]; omega)]
      rfl)
    go_enter Tryz.func75, Tryz.ntmps75
    go_wp2
    go_ret
    exact ⟨ret_bool HB.out.symm, rfl⟩
/-- A text's last byte. -/
theorem plast_at {p : ByteArray} {n : Nat} (h : p.size = n + 1) (hn : n < p.size) : (tl p).getLast? = some p[n] := by
  have e : p.size - 1 = n := by omega
  rw [List.getLast?_eq_getElem?, tl_len, e, tl_at hn]
end Go.Proofs.YtilepnepcamnaaaGreat
namespace Go.Proofs.YtilepnepcamnaaaGreat
open Go Go.RowKit
set_option maxRecDepth 100000

theorem bare_snoc (a : List UInt8) : bareP (a ++ [47]) = bareP a := by simp [bareP]
theorem cut_snoc (a : List UInt8) {c : UInt8} (h : ¬ c = 47) : cutP (a ++ [c]) = cutP a := by simp [cutP, h]
theorem cut_same {a : List UInt8} (h : a = [] ∨ a.getLast? = some 47) : cutP a = a := by
  have := cut_app (a := a) (n := []) (fun c hc => by cases hc) (fun c hc => by
    rcases h with h | h
    · rw [h] at hc; cases hc
    · rw [h] at hc; injection hc with hc; exact hc.symm)
  simpa using this
/-- A text without its last byte. -/
theorem but_last {q : ByteArray} {n : Nat} (h : q.size = n + 1) (hn : n < q.size) : tl q = tl (q.extract 0 n) ++ [q[n]] := by
  rw [tl_ext, List.drop_zero, ← take_snoc' (tl_at hn), ← h, ← tl_len, List.take_length]
theorem but_size {q : ByteArray} {n : Nat} (h : q.size = n + 1) : (q.extract 0 n).size = n := by
  rw [← tl_len, tl_ext, List.drop_zero, List.length_take, tl_len]
  omega
theorem nil_of {q : ByteArray} (h : ¬ 0 < q.size) : tl q = [] := List.eq_nil_of_length_eq_zero (by rw [tl_len]; omega)
end Go.Proofs.YtilepnepcamnaaaGreat
namespace Go.Proofs.YtilepnepcamnaaaGreat
open Go Go.RowKit
set_option maxRecDepth 100000

theorem nmF_end (cur r : List UInt8) : npF cur (r ++ [47]) = npF cur r := by
  rw [nmF_slash, nms_nil, List.append_nil]
/-- Names so far: those that are there, the one that is being begun, and what is left of the path and a slash. -/
structure NS (W wr : World) (p t : ByteArray) (k : Nat) (cur : ByteArray) (v : Value) (out : List ByteArray) : Prop where
  below : Below W.heap.size W wr
  own : wr.ownsRow W.heap.size 9 1 v out.length (sCells out)
  so : out ++ bAs (npF (tl cur) ((tl t).drop k)) = bAs (nms (tl p))
  fin : k = t.size → tl cur = []
  small : cur.size ≤ k
theorem NS.len {W wr : World} {p t : ByteArray} {k : Nat} {cur : ByteArray} {v : Value} {out : List ByteArray} (h : NS W wr p t k cur v out) : out.length ≤ p.size + 1 := by
  have h1 := congrArg List.length h.so
  have h2 := nms_len (tl p)
  rw [List.length_append, bAs_len (nms (tl p))] at h1
  rw [tl_len] at h2
  omega
theorem drop_at {t : ByteArray} {k : Nat} (h : k < t.size) : (tl t).drop k = t[k] :: (tl t).drop (k + 1) := by
  have hl : k < (tl t).length := by rw [tl_len]; exact h
  rw [List.drop_eq_getElem_cons hl]
  congr 1
theorem pone_at {t : ByteArray} {k : Nat} (h : k < t.size) : tl (t.extract k (k + 1)) = [t[k]] := by
  rw [tl_ext, take_snoc' (tl_at h), List.drop_append_of_le_length (by rw [List.length_take, tl_len]; omega), List.drop_eq_nil_of_le (by rw [List.length_take]; omega)]
  rfl
theorem psl_run (s : ByteArray) (n : Nat) (h : n + 1 ≤ s.size) (w : World) : (Instr.slice 9 (.string s) (some (.int .i64 (n : Int))) (some (.int .i64 ((n : Int) + 1))) none).run Tryz.prog w = .ok (.string (s.extract n (n + 1))) w := by
  have e := run_slice_string w 9 s .i64 .i64 (n : Int) ((n : Int) + 1) Tryz.underlying9 (by omega) (by omega) (by omega)
  rwa [show ((n : Int)).toNat = n by omega, show ((n : Int) + 1).toNat = n + 1 by omega] at e
set_option maxRecDepth 100000 in
set_option maxHeartbeats 8000000 in
theorem ref_names (p : ByteArray) (w : World) (hp : p.size ≤ 1000000) :
    Calls Tryz.prog 74 #[.string p] w fun e w' => ∃ v, e = .returned v ∧ w'.ownsRow w.heap.size 9 1 v (bAs (nms (tl p))).length (sCells (bAs (nms (tl p)))) ∧ Below w.heap.size w w' := by
  obtain ⟨t, ht⟩ : ∃ t, (p ++ ⟨#[47]⟩ : ByteArray) = t := ⟨_, rfl⟩
  have HT := Lib.hid (show tl t = tl p ++ [47] by rw [← ht, tl_app]; rfl)
  have htz : t.size = p.size + 1 := by rw [← tl_len, HT.out, List.length_append, tl_len]; rfl
  have H0 := Lib.hid (show bAs (npF (tl ⟨#[]⟩) ((tl t).drop 0)) = bAs (nms (tl p)) by
    rw [List.drop_zero, HT.out]
    show bAs (npF [] (tl p ++ [47])) = _
    rw [nmF_end]
    rfl)
  go_enter Tryz.func74, Tryz.ntmps74
  go_wp2
  go_loopg [3, 4, 6] t.size (fun g s3 s4 s6 wr => ∃ (k : Nat) (cur : ByteArray) (out : List ByteArray), s6 = .int .i64 k ∧ s4 = .string cur ∧ k ≤ t.size ∧ g = t.size - k ∧ NS w wr p t k cur s3 out)
  case atStart => exact ⟨0, _, [], rfl, rfl, Nat.zero_le _, rfl, Below.refl _ _, own_nil_str _, H0.out, fun h => absurd h (by omega), Nat.le_refl _⟩
  case round =>
    obtain ⟨k, cur, out, rfl, rfl, hk, rfl, hS⟩ := hrel
    obtain ⟨vl, rfl⟩ : ∃ vl, vl = u3 := ⟨_, rfl⟩
    have hln := hS.len
    have hcz := hS.small
    have hB0 := hS.below.size
    have HS := Lib.hid hS
    clear hS
    by_cases hlt : k < t.size
    · have hd := drop_at hlt
      have ho := pone_at hlt
      obtain ⟨b, hb⟩ : ∃ b, t[k] = b := ⟨_, rfl⟩
      rw [hb] at hd ho
      have hso := HS.out.so
      rw [hd] at hso
      by_cases hl : b = 47
      · subst hl
        have hso2 : out ++ bAs (if tl cur = [] then npF [] ((tl t).drop (k + 1)) else tl cur :: npF [] ((tl t).drop (k + 1))) = bAs (nms (tl p)) := by rw [← hso, npF, if_pos rfl]
        clear hd ho hso
        by_cases h0 : 0 < cur.size
        · have n0 := neq_empty cur
          rw [decide_eq_true h0] at n0
          have i0 := empty_false (s := cur) (by omega)
          rw [if_neg (by intro e; rw [← tl_len, e] at h0; exact absurd h0 (by decide))] at hso2
          have HSO := Lib.hid (show (out ++ [cur]) ++ bAs (npF (tl ⟨#[]⟩) ((tl t).drop (k + 1))) = bAs (nms (tl p)) by
            rw [← hso2, List.append_assoc]
            show out ++ _ = out ++ (bA (tl cur) :: bAs (npF [] ((tl t).drop (k + 1))))
            rw [bA_tl]
            rfl)
          clear hso2
          go_wp2_with (at_builtin; refine wpList_append_one rfl (.tmp 28) (.tmp 30) _ rfl w.heap.size 9 _ 1 16 Tryz.underlying51 info_str rfl (by decide) vl out.length (sCells out) rfl wr [.string cur] rfl (str_one _) HS.out.own rfl (by omega) (by omega) hB0 ?_; intro v5 w5 ho hg; obtain ⟨A5, c5, hv5, ho5, hb5⟩ := app_one HS.out.below hB0 HS.out.own ho hg; subst hv5; have HO5 := Lib.hid ho5; have HB5 := Lib.hid hb5; clear ho hg ho5 hb5)
          go_roundg (t.size - (k + 1))
          case measure => omega
          case rel => exact ⟨k + 1, _, out ++ [cur], by go_num, rfl, by omega, rfl, HB5.out, HO5.out, HSO.out, fun _ => rfl, Nat.zero_le _⟩
        · have i0 : cur.toList = [] := (empty_iff cur).2 (by omega)
          rw [if_pos (nil_of h0)] at hso2
          have HSO := Lib.hid (show out ++ bAs (npF (tl ⟨#[]⟩) ((tl t).drop (k + 1))) = bAs (nms (tl p)) from hso2)
          clear hso2
          go_wp2
          go_roundg (t.size - (k + 1))
          case measure => omega
          case rel => exact ⟨k + 1, _, out, by go_num, rfl, by omega, rfl, HS.out.below, HS.out.own, HSO.out, fun _ => rfl, Nat.zero_le _⟩
      · have hqb : ((b.toNat : Int) == 47) = false := co_ne (a := b) (b := 47) hl
        obtain ⟨x, hx⟩ : ∃ x, t.extract k (k + 1) = x := ⟨_, rfl⟩
        have hrun := psl_run t k (by omega)
        rw [hx] at ho hrun
        have hxz : x.size = 1 := by rw [← tl_len, ho]; rfl
        have hxz' : x.size ≤ 1 := by omega
        have hcz' : cur.size ≤ 2000000 := by omega
        have HSO := Lib.hid (show out ++ bAs (npF (tl (cur ++ x)) ((tl t).drop (k + 1))) = bAs (nms (tl p)) by
          rw [← hso, npF, if_neg hl, tl_app, ho])
        have HFI := Lib.hid (show ¬ k + 1 = t.size by
          intro e
          have h1 : (tl t)[k]? = some 47 := by
            rw [HT.out, List.getElem?_append_right (by rw [tl_len]; omega), tl_len, show k - p.size = 0 by omega]
            rfl
          rw [tl_at hlt, hb] at h1
          injection h1 with h1
          exact hl h1)
        have HSZ := Lib.hid (show (cur ++ x).size ≤ k + 1 by rw [← tl_len, tl_app, List.length_append, tl_len, tl_len]; omega)
        clear hd ho hso hl
        go_wp2
        go_roundg (t.size - (k + 1))
        case measure => omega
        case rel => exact ⟨k + 1, cur ++ x, out, by go_num, rfl, by omega, rfl, HS.out.below, HS.out.own, HSO.out, fun e => absurd e HFI.out, HSZ.out⟩
    · have hke : k = t.size := by omega
      have HR := Lib.hid (show wr.ownsRow w.heap.size 9 1 vl (bAs (nms (tl p))).length (sCells (bAs (nms (tl p)))) by
        have h := HS.out.so
        rw [HS.out.fin hke, List.drop_eq_nil_of_le (by rw [tl_len]; omega), show bAs (npF [] []) = [] from rfl, List.append_nil] at h
        rw [← h]
        exact HS.out.own)
      go_wp2
      go_ret
      exact ⟨_, rfl, HR.out, HS.out.below⟩
set_option maxRecDepth 100000 in
set_option maxHeartbeats 8000000 in
theorem ref_split (p : ByteArray) (w : World) (hp : p.size ≤ 1000000) :
    Calls Tryz.prog 56 #[.string p] w fun e w' => ∃ v, e = .returned (.tuple #[.bool (absP (tl p)), v]) ∧ StrsR w' v (bAs (splitP (tl p))) ∧ Below w.heap.size w w' := by
  have HN := Lib.hid (ref_names p w hp)
  have HA := Lib.hid (fun w1 => ref_abs p w1)
  have HSP := Lib.hid (show splitP (tl p) = if nms (tl p) ≠ [] ∧ (tl p).getLast? = some 47 then nms (tl p) ++ [[46]] else nms (tl p) from rfl)
  have HPOS := Lib.hid (fun h => pos_of_nms (p := p) h)
  have hnl := nms_len (tl p)
  rw [tl_len] at hnl
  have hbl := bAs_len (nms (tl p))
  generalize nms (tl p) = ns at HN HSP HPOS hnl hbl
  generalize splitP (tl p) = R at HSP ⊢
  generalize absP (tl p) = ap at HA ⊢
  by_cases h0 : 0 < ns.length
  · have hps := HPOS.out h0
    have hne : ¬ ns = [] := by intro e; rw [e] at h0; exact absurd h0 (by decide)
    have h0' : (0 : Int) < (ns.length : Int) := by omega
    obtain ⟨m, hm⟩ : ∃ m, p.size = m + 1 := ⟨p.size - 1, by omega⟩
    have hml : m < p.size := by omega
    have hla := plast_at hm hml
    obtain ⟨b, hb⟩ : ∃ b, p[m] = b := ⟨_, rfl⟩
    rw [hb] at hla
    have hi : ((p.size : Int) - 1) = (m : Int) := by omega
    by_cases hl : b = 47
    · subst hl
      rw [if_pos ⟨hne, hla⟩] at HSP
      have HR := Lib.hid (show bAs R = bAs ns ++ [⟨#[46]⟩] by rw [HSP.out, bAs_snoc]; rfl)
      clear hla hne HSP
      go_enter Tryz.func56, Tryz.ntmps56
      go_wp2_with fail
      refine HN.out.mono ?_
      rintro e w2 ⟨v, rfl, ho, hb2⟩
      have HO := Lib.hid ho
      have HB2 := Lib.hid hb2
      obtain ⟨A, c, rfl⟩ := own_slice ho
      clear ho hb2 HN
      go_wp2_with (first | (at_builtin; refine wpList_append_one rfl (.tmp 18) (.tmp 19) _ rfl w.heap.size 9 _ 1 16 Tryz.underlying51 info_str rfl (by decide) (.slice A (bAs ns).length c) (bAs ns).length (sCells (bAs ns)) (by first | rfl | (rw [hbl]; rfl)) w2 [.string ⟨#[46]⟩] rfl (str_one _) HO.out rfl (by omega) (by omega) HB2.out.size ?_; intro v5 w5 ho hg; obtain ⟨A5, c5, hv5, ho5, hb5⟩ := app_one HB2.out HB2.out.size HO.out ho hg; subst hv5; have HO5 := Lib.hid ho5; have HB5 := Lib.hid hb5; clear ho hg ho5 hb5) | fail)
      refine (HA.out _).mono ?_
      rintro e w' ⟨rfl, rfl⟩
      go_wp2
      go_ret2
      exact ⟨_, rfl, by rw [HR.out]; have h := StrsR.of_own HO5.out; rw [hbl] at h; exact h, HB5.out⟩
    · have hqb : ((b.toNat : Int) == 47) = false := co_ne (a := b) (b := 47) hl
      rw [if_neg (fun e => hl (by have h := e.2; rw [hla] at h; injection h))] at HSP
      clear hla hne hl
      go_enter Tryz.func56, Tryz.ntmps56
      go_wp2_with fail
      refine HN.out.mono ?_
      rintro e w2 ⟨v, rfl, ho, hb2⟩
      have HO := Lib.hid ho
      have HB2 := Lib.hid hb2
      obtain ⟨A, c, rfl⟩ := own_slice ho
      clear ho hb2 HN
      go_wp2_with fail
      refine (HA.out _).mono ?_
      rintro e w' ⟨rfl, rfl⟩
      go_wp2
      go_ret2
      exact ⟨_, rfl, by rw [HSP.out]; have h := StrsR.of_own HO.out; first | exact h | (rw [hbl] at h; exact h), HB2.out⟩
  · have hn0 : ns.length = 0 := by omega
    have hns : ns = [] := List.eq_nil_of_length_eq_zero hn0
    rw [if_neg (fun e => e.1 hns)] at HSP
    rw [hn0] at hbl
    clear hns h0
    go_enter Tryz.func56, Tryz.ntmps56
    go_wp2_with fail
    refine HN.out.mono ?_
    rintro e w2 ⟨v, rfl, ho, hb2⟩
    have HO := Lib.hid ho
    have HB2 := Lib.hid hb2
    obtain ⟨A, c, rfl⟩ := own_slice ho
    clear ho hb2 HN
    go_wp2_with fail
    refine (HA.out _).mono ?_
    rintro e w' ⟨rfl, rfl⟩
    go_wp2
    go_ret2
    exact ⟨_, rfl, by rw [HSP.out]; have h := StrsR.of_own HO.out; first | exact h | (rw [hbl] at h; exact h), HB2.out⟩
end Go.Proofs.YtilepnepcamnaaaGreat
