/-
  The reference's resolve. The conditions are said at each.
-/
import Derived.Test.YtfopnfgfoicidaaGreatPA
import Derived.Test.YtfopnfgfoicidaaGreatWB
import Derived.Test.YtfopnfgfoicidaaGreatBS
import Derived.Test.YtfopnfgfoicidaaGreatRR
import Derived.Test.YtfopnfgfoicidaaGreatCC
import Derived.Test.YtfopnfgfoicidaaGreatBR
import Derived.Test.YtfopnfgfoicidaaGreatRM
namespace Go.Proofs.YtfopnfgfoicidaaGreat
open Go Go.RowKit
set_option maxRecDepth 100000

theorem ref_abs (p : ByteArray) (w : World) :
    Calls Tryz.prog 80 #[.string p] w fun e w' => e = .returned (.bool (absP (tl p))) ∧ w = w' := by
  obtain ⟨R, hR⟩ : ∃ R, absP (tl p) = R := ⟨_, rfl⟩
  rw [hR]
  have HR := Lib.hid hR
  clear hR
  by_cases h0 : 0 < p.size
  · have n0 := neq_empty p
    rw [decide_eq_true h0] at n0
    have i0 := empty_false (s := p) (by omega)
    obtain ⟨b, hb⟩ : ∃ b, p[0] = b := ⟨_, rfl⟩
    have HB := Lib.hid (show R = (b == 47) by
      rw [← HR.out, absP, List.head?_eq_getElem?, tl_at h0, hb]
      simp)
    go_enter Tryz.func80, Tryz.ntmps80
    go_wp2
    go_ret
    exact ⟨ret_bool (by
      rw [HB.out]
      by_cases h : b = 47
      · rw [h]; rfl
      · rw [beq_eq_false_iff_ne.2 h]; exact co_ne (a := b) (b := 47) h), rfl⟩
  · have i0 : p.toList = [] := (empty_iff p).2 (by omega)
    have HB := Lib.hid (show R = false by
      rw [← HR.out, absP, List.head?_eq_getElem?, List.getElem?_eq_none (by rw [tl_len]; omega)]
      rfl)
    go_enter Tryz.func80, Tryz.ntmps80
    go_wp2
    go_ret
    exact ⟨ret_bool HB.out.symm, rfl⟩
/-- A text's last byte. -/
theorem plast_at {p : ByteArray} {n : Nat} (h : p.size = n + 1) (hn : n < p.size) : (tl p).getLast? = some p[n] := by
  have e : p.size - 1 = n := by omega
  rw [List.getLast?_eq_getElem?, tl_len, e, tl_at hn]
end Go.Proofs.YtfopnfgfoicidaaGreat
namespace Go.Proofs.YtfopnfgfoicidaaGreat
open Go Go.RowKit
set_option maxRecDepth 100000

theorem bare_snoc (a : List UInt8) : bareP (a ++ [47]) = bareP a := by simp [bareP]
theorem cut_snoc (a : List UInt8) {c : UInt8} (h : ¬ c = 47) : cutP (a ++ [c]) = cutP a := by simp [cutP, h]
theorem cut_same {a : List UInt8} (h : a = [] ∨ a.getLast? = some 47) : cutP a = a := by
  have := cut_app (a := a) (n := []) (fun c hc => by cases hc) (fun c hc => by
    rcases h with h | h
    · rw [h] at hc; cases hc
    · rw [h] at hc; injection hc with hc; exact hc.symm)
  simpa using this
/-- A text without its last byte. -/
theorem but_last {q : ByteArray} {n : Nat} (h : q.size = n + 1) (hn : n < q.size) : tl q = tl (q.extract 0 n) ++ [q[n]] := by
  rw [tl_ext, List.drop_zero, ← take_snoc' (tl_at hn), ← h, ← tl_len, List.take_length]
theorem but_size {q : ByteArray} {n : Nat} (h : q.size = n + 1) : (q.extract 0 n).size = n := by
  rw [← tl_len, tl_ext, List.drop_zero, List.length_take, tl_len]
  omega
theorem nil_of {q : ByteArray} (h : ¬ 0 < q.size) : tl q = [] := List.eq_nil_of_length_eq_zero (by rw [tl_len]; omega)
end Go.Proofs.YtfopnfgfoicidaaGreat
namespace Go.Proofs.YtfopnfgfoicidaaGreat
open Go Go.RowKit
set_option maxRecDepth 100000

theorem nmF_end (cur r : List UInt8) : npF cur (r ++ [47]) = npF cur r := by
  rw [nmF_slash, nms_nil, List.append_nil]
/-- Names so far: those that are there, the one that is being begun, and what is left of the path and a slash. -/
structure NS (W wr : World) (p t : ByteArray) (k : Nat) (cur : ByteArray) (v : Value) (out : List ByteArray) : Prop where
  below : Below W.heap.size W wr
  own : wr.ownsRow W.heap.size 9 1 v out.length (sCells out)
  so : out ++ bAs (npF (tl cur) ((tl t).drop k)) = bAs (nms (tl p))
  fin : k = t.size → tl cur = []
  small : cur.size ≤ k
theorem NS.len {W wr : World} {p t : ByteArray} {k : Nat} {cur : ByteArray} {v : Value} {out : List ByteArray} (h : NS W wr p t k cur v out) : out.length ≤ p.size + 1 := by
  have h1 := congrArg List.length h.so
  have h2 := nms_len (tl p)
  rw [List.length_append, bAs_len (nms (tl p))] at h1
  rw [tl_len] at h2
  omega
theorem drop_at {t : ByteArray} {k : Nat} (h : k < t.size) : (tl t).drop k = t[k] :: (tl t).drop (k + 1) := by
  have hl : k < (tl t).length := by rw [tl_len]; exact h
  rw [List.drop_eq_getElem_cons hl]
  congr 1
theorem pone_at {t : ByteArray} {k : Nat} (h : k < t.size) : tl (t.extract k (k + 1)) = [t[k]] := by
  rw [tl_ext, take_snoc' (tl_at h), List.drop_append_of_le_length (by rw [List.length_take, tl_len]; omega), List.drop_eq_nil_of_le (by rw [List.length_take]; omega)]
  rfl
theorem psl_run (s : ByteArray) (n : Nat) (h : n + 1 ≤ s.size) (w : World) : (Instr.slice 9 (.string s) (some (.int .i64 (n : Int))) (some (.int .i64 ((n : Int) + 1))) none).run Tryz.prog w = .ok (.string (s.extract n (n + 1))) w := by
  have e := run_slice_string w 9 s .i64 .i64 (n : Int) ((n : Int) + 1) Tryz.underlying9 (by omega) (by omega) (by omega)
  rwa [show ((n : Int)).toNat = n by omega, show ((n : Int) + 1).toNat = n + 1 by omega] at e
set_option maxRecDepth 100000 in
set_option maxHeartbeats 8000000 in
theorem ref_names (p : ByteArray) (w : World) (hp : p.size ≤ 1000000) :
    Calls Tryz.prog 79 #[.string p] w fun e w' => ∃ v, e = .returned v ∧ w'.ownsRow w.heap.size 9 1 v (bAs (nms (tl p))).length (sCells (bAs (nms (tl p)))) ∧ Below w.heap.size w w' := by
  obtain ⟨t, ht⟩ : ∃ t, (p ++ ⟨#[47]⟩ : ByteArray) = t := ⟨_, rfl⟩
  have HT := Lib.hid (show tl t = tl p ++ [47] by rw [← ht, tl_app]; rfl)
  have htz : t.size = p.size + 1 := by rw [← tl_len, HT.out, List.length_append, tl_len]; rfl
  have H0 := Lib.hid (show bAs (npF (tl ⟨#[]⟩) ((tl t).drop 0)) = bAs (nms (tl p)) by
    rw [List.drop_zero, HT.out]
    show bAs (npF [] (tl p ++ [47])) = _
    rw [nmF_end]
    rfl)
  go_enter Tryz.func79, Tryz.ntmps79
  go_wp2
  go_loopg [3, 4, 6] t.size (fun g s3 s4 s6 wr => ∃ (k : Nat) (cur : ByteArray) (out : List ByteArray), s6 = .int .i64 k ∧ s4 = .string cur ∧ k ≤ t.size ∧ g = t.size - k ∧ NS w wr p t k cur s3 out)
  case atStart => exact ⟨0, _, [], rfl, rfl, Nat.zero_le _, rfl, Below.refl _ _, own_nil_str _, H0.out, fun h => absurd h (by omega), Nat.le_refl _⟩
  case round =>
    obtain ⟨k, cur, out, rfl, rfl, hk, rfl, hS⟩ := hrel
    obtain ⟨vl, rfl⟩ : ∃ vl, vl = u3 := ⟨_, rfl⟩
    have hln := hS.len
    have hcz := hS.small
    have hB0 := hS.below.size
    have HS := Lib.hid hS
    clear hS
    by_cases hlt : k < t.size
    · have hd := drop_at hlt
      have ho := pone_at hlt
      obtain ⟨b, hb⟩ : ∃ b, t[k] = b := ⟨_, rfl⟩
      rw [hb] at hd ho
      have hso := HS.out.so
      rw [hd] at hso
      by_cases hl : b = 47
      · subst hl
        have hso2 : out ++ bAs (if tl cur = [] then npF [] ((tl t).drop (k + 1)) else tl cur :: npF [] ((tl t).drop (k + 1))) = bAs (nms (tl p)) := by rw [← hso, npF, if_pos rfl]
        clear hd ho hso
        by_cases h0 : 0 < cur.size
        · have n0 := neq_empty cur
          rw [decide_eq_true h0] at n0
          have i0 := empty_false (s := cur) (by omega)
          rw [if_neg (by intro e; rw [← tl_len, e] at h0; exact absurd h0 (by decide))] at hso2
          have HSO := Lib.hid (show (out ++ [cur]) ++ bAs (npF (tl ⟨#[]⟩) ((tl t).drop (k + 1))) = bAs (nms (tl p)) by
            rw [← hso2, List.append_assoc]
            show out ++ _ = out ++ (bA (tl cur) :: bAs (npF [] ((tl t).drop (k + 1))))
            rw [bA_tl]
            rfl)
          clear hso2
          go_wp2_with (at_builtin; refine wpList_append_one rfl (.tmp 28) (.tmp 30) _ rfl w.heap.size 9 _ 1 16 Tryz.underlying80 info_str rfl (by decide) vl out.length (sCells out) rfl wr [.string cur] rfl (str_one _) HS.out.own rfl (by omega) (by omega) hB0 ?_; intro v5 w5 ho hg; obtain ⟨A5, c5, hv5, ho5, hb5⟩ := app_one HS.out.below hB0 HS.out.own ho hg; subst hv5; have HO5 := Lib.hid ho5; have HB5 := Lib.hid hb5; clear ho hg ho5 hb5)
          go_roundg (t.size - (k + 1))
          case measure => omega
          case rel => exact ⟨k + 1, _, out ++ [cur], by go_num, rfl, by omega, rfl, HB5.out, HO5.out, HSO.out, fun _ => rfl, Nat.zero_le _⟩
        · have i0 : cur.toList = [] := (empty_iff cur).2 (by omega)
          rw [if_pos (nil_of h0)] at hso2
          have HSO := Lib.hid (show out ++ bAs (npF (tl ⟨#[]⟩) ((tl t).drop (k + 1))) = bAs (nms (tl p)) from hso2)
          clear hso2
          go_wp2
          go_roundg (t.size - (k + 1))
          case measure => omega
          case rel => exact ⟨k + 1, _, out, by go_num, rfl, by omega, rfl, HS.out.below, HS.out.own, HSO.out, fun _ => rfl, Nat.zero_le _⟩
      · have hqb : ((b.toNat : Int) == 47) = false := co_ne (a := b) (b := 47) hl
        obtain ⟨x, hx⟩ : ∃ x, t.extract k (k + 1) = x := ⟨_, rfl⟩
        have hrun := psl_run t k (by omega)
        rw [hx] at ho hrun
        have hxz : x.size = 1 := by rw [← tl_len, ho]; rfl
        have hxz' : x.size ≤ 1 := by omega
        have hcz' : cur.size ≤ 2000000 := by omega
        have HSO := Lib.hid (show out ++ bAs (npF (tl (cur ++ x)) ((tl t).drop (k + 1))) = bAs (nms (tl p)) by
          rw [← hso, npF, if_neg hl, tl_app, ho])
        have HFI := Lib.hid (show ¬ k + 1 = t.size by
          intro e
          have h1 : (tl t)[k]? = some 47 := by
            rw [HT.out, List.getElem?_append_right (by rw [tl_len]; omega), tl_len, show k - p.size = 0 by omega]
            rfl
          rw [tl_at hlt, hb] at h1
          injection h1 with h1
          exact hl h1)
        have HSZ := Lib.hid (show (cur ++ x).size ≤ k + 1 by rw [← tl_len, tl_app, List.length_append, tl_len, tl_len]; omega)
        clear hd ho hso hl
        go_wp2
        go_roundg (t.size - (k + 1))
        case measure => omega
        case rel => exact ⟨k + 1, cur ++ x, out, by go_num, rfl, by omega, rfl, HS.out.below, HS.out.own, HSO.out, fun e => absurd e HFI.out, HSZ.out⟩
    · have hke : k = t.size := by omega
      have HR := Lib.hid (show wr.ownsRow w.heap.size 9 1 vl (bAs (nms (tl p))).length (sCells (bAs (nms (tl p)))) by
        have h := HS.out.so
        rw [HS.out.fin hke, List.drop_eq_nil_of_le (by rw [tl_len]; omega), show bAs (npF [] []) = [] from rfl, List.append_nil] at h
        rw [← h]
        exact HS.out.own)
      go_wp2
      go_ret
      exact ⟨_, rfl, HR.out, HS.out.below⟩
set_option maxRecDepth 100000 in
set_option maxHeartbeats 8000000 in
theorem ref_split (p : ByteArray) (w : World) (hp : p.size ≤ 1000000) :
    Calls Tryz.prog 57 #[.string p] w fun e w' => ∃ v, e = .returned (.tuple #[.bool (absP (tl p)), v]) ∧ StrsR w' v (bAs (splitP (tl p))) ∧ Below w.heap.size w w' := by
  have HN := Lib.hid (ref_names p w hp)
  have HA := Lib.hid (fun w1 => ref_abs p w1)
  have HSP := Lib.hid (show splitP (tl p) = if nms (tl p) ≠ [] ∧ (tl p).getLast? = some 47 then nms (tl p) ++ [[46]] else nms (tl p) from rfl)
  have HPOS := Lib.hid (fun h => pos_of_nms (p := p) h)
  have hnl := nms_len (tl p)
  rw [tl_len] at hnl
  have hbl := bAs_len (nms (tl p))
  generalize nms (tl p) = ns at HN HSP HPOS hnl hbl
  generalize splitP (tl p) = R at HSP ⊢
  generalize absP (tl p) = ap at HA ⊢
  by_cases h0 : 0 < ns.length
  · have hps := HPOS.out h0
    have hne : ¬ ns = [] := by intro e; rw [e] at h0; exact absurd h0 (by decide)
    have h0' : (0 : Int) < (ns.length : Int) := by omega
    obtain ⟨m, hm⟩ : ∃ m, p.size = m + 1 := ⟨p.size - 1, by omega⟩
    have hml : m < p.size := by omega
    have hla := plast_at hm hml
    obtain ⟨b, hb⟩ : ∃ b, p[m] = b := ⟨_, rfl⟩
    rw [hb] at hla
    have hi : ((p.size : Int) - 1) = (m : Int) := by omega
    by_cases hl : b = 47
    · subst hl
      rw [if_pos ⟨hne, hla⟩] at HSP
      have HR := Lib.hid (show bAs R = bAs ns ++ [⟨#[46]⟩] by rw [HSP.out, bAs_snoc]; rfl)
      clear hla hne HSP
      go_enter Tryz.func57, Tryz.ntmps57
      go_wp2_with fail
      refine HN.out.mono ?_
      rintro e w2 ⟨v, rfl, ho, hb2⟩
      have HO := Lib.hid ho
      have HB2 := Lib.hid hb2
      obtain ⟨A, c, rfl⟩ := own_slice ho
      clear ho hb2 HN
      go_wp2_with (first | (at_builtin; refine wpList_append_one rfl (.tmp 18) (.tmp 19) _ rfl w.heap.size 9 _ 1 16 Tryz.underlying80 info_str rfl (by decide) (.slice A (bAs ns).length c) (bAs ns).length (sCells (bAs ns)) (by first | rfl | (rw [hbl]; rfl)) w2 [.string ⟨#[46]⟩] rfl (str_one _) HO.out rfl (by omega) (by omega) HB2.out.size ?_; intro v5 w5 ho hg; obtain ⟨A5, c5, hv5, ho5, hb5⟩ := app_one HB2.out HB2.out.size HO.out ho hg; subst hv5; have HO5 := Lib.hid ho5; have HB5 := Lib.hid hb5; clear ho hg ho5 hb5) | fail)
      refine (HA.out _).mono ?_
      rintro e w' ⟨rfl, rfl⟩
      go_wp2
      go_ret2
      exact ⟨_, rfl, by rw [HR.out]; have h := StrsR.of_own HO5.out; rw [hbl] at h; exact h, HB5.out⟩
    · have hqb : ((b.toNat : Int) == 47) = false := co_ne (a := b) (b := 47) hl
      rw [if_neg (fun e => hl (by have h := e.2; rw [hla] at h; injection h))] at HSP
      clear hla hne hl
      go_enter Tryz.func57, Tryz.ntmps57
      go_wp2_with fail
      refine HN.out.mono ?_
      rintro e w2 ⟨v, rfl, ho, hb2⟩
      have HO := Lib.hid ho
      have HB2 := Lib.hid hb2
      obtain ⟨A, c, rfl⟩ := own_slice ho
      clear ho hb2 HN
      go_wp2_with fail
      refine (HA.out _).mono ?_
      rintro e w' ⟨rfl, rfl⟩
      go_wp2
      go_ret2
      exact ⟨_, rfl, by rw [HSP.out]; have h := StrsR.of_own HO.out; first | exact h | (rw [hbl] at h; exact h), HB2.out⟩
  · have hn0 : ns.length = 0 := by omega
    have hns : ns = [] := List.eq_nil_of_length_eq_zero hn0
    rw [if_neg (fun e => e.1 hns)] at HSP
    rw [hn0] at hbl
    clear hns h0
    go_enter Tryz.func57, Tryz.ntmps57
    go_wp2_with fail
    refine HN.out.mono ?_
    rintro e w2 ⟨v, rfl, ho, hb2⟩
    have HO := Lib.hid ho
    have HB2 := Lib.hid hb2
    obtain ⟨A, c, rfl⟩ := own_slice ho
    clear ho hb2 HN
    go_wp2_with fail
    refine (HA.out _).mono ?_
    rintro e w' ⟨rfl, rfl⟩
    go_wp2
    go_ret2
    exact ⟨_, rfl, by rw [HSP.out]; have h := StrsR.of_own HO.out; first | exact h | (rw [hbl] at h; exact h), HB2.out⟩
end Go.Proofs.YtfopnfgfoicidaaGreat
namespace Go.Proofs.YtfopnfgfoicidaaGreat
open Go Go.RowKit
set_option maxRecDepth 100000

set_option maxRecDepth 100000 in
set_option maxHeartbeats 4000000 in
theorem ref_place (n : Nd) (vn vk : Value) (name : Nm) (w : World) (hN : StrsR w vn (nmA (nmE n.ents))) (hK : IntsR w vk (idE n.ents)) (hn : n.ents.length ≤ 1000) :
    Calls Tryz.prog 115 #[.agg (rfC n vn vk), .string (bA name)] w fun e w' => e = .returned (.int .i64 (plcI (isN name) n.ents)) ∧ Below w.heap.size w w' := by
  have HB1 := Lib.hid (ba w (.cells (rfC n vn vk) 82))
  have HNN := Lib.hid (hN.below (ba w (.cells (rfC n vn vk) 82)))
  obtain ⟨A1, c1, rfl⟩ := strs_form hN (nm_len _)
  obtain ⟨A2, c2, rfl⟩ := ints_form hK (idE_len _)
  have hFl : n.ents.findIdx (isN name) ≤ n.ents.length := List.findIdx_le_length
  have HLT := Lib.hid (fun (k : Nat) (e : En) (hk : n.ents[k]? = some e) (h : k < n.ents.findIdx (isN name)) => show isN name e = false by
    have h2 := List.not_of_lt_findIdx h
    obtain ⟨h3, h4⟩ := List.getElem?_eq_some_iff.1 hk
    rw [h4] at h2
    simpa using h2)
  have HEQ := Lib.hid (fun (k : Nat) (e : En) (hk : n.ents[k]? = some e) (h : k = n.ents.findIdx (isN name)) => show isN name e = true by
    subst h
    obtain ⟨h3, h4⟩ := List.getElem?_eq_some_iff.1 hk
    have h2 := List.findIdx_getElem (w := h3)
    rw [h4] at h2
    exact h2)
  have HX := Lib.hid (show plcI (isN name) n.ents = if n.ents.findIdx (isN name) < n.ents.length then (n.ents.findIdx (isN name) : Int) else -1 from rfl)
  generalize plcI (isN name) n.ents = X at HX ⊢
  generalize n.ents.findIdx (isN name) = F at hFl HLT HEQ HX
  clear hN hK
  go_enter Tryz.func115, Tryz.ntmps115
  go_wp2
  go_loopg [5] n.ents.length (fun g s5 wr => ∃ k : Nat, s5 = .int .i64 k ∧ k ≤ F ∧ g = n.ents.length - k ∧ w.alloc (.cells (rfC n (.slice A1 n.ents.length c1) (.slice A2 n.ents.length c2)) 82) = wr)
  case atStart => exact ⟨0, rfl, Nat.zero_le _, rfl, rfl⟩
  case round =>
    obtain ⟨k, rfl, hk, rfl, rfl⟩ := hrel
    by_cases hlt : k < n.ents.length
    · have hlt' : (k : Int) < (n.ents.length : Int) := by omega
      obtain ⟨e, he⟩ : ∃ e, n.ents[k]? = some e := ⟨_, List.getElem?_eq_getElem hlt⟩
      obtain ⟨ad, rfl, c0⟩ := strs_get HNN.out (nmA_at (nmE_at he))
      have HE := Lib.hid he
      clear he
      by_cases hkF : k = F
      · have hp : ((bA e.1).toList == (bA name).toList) = true := by rw [bA_list, bA_list]; exact HEQ.out k e HE.out hkF
        have HX2 := Lib.hid (show X = (k : Int) by rw [HX.out, if_pos (by omega), hkF])
        clear hkF
        go_wp2
        go_ret
        exact ⟨ret_int HX2.out.symm, HB1.out⟩
      · have hp : ((bA e.1).toList == (bA name).toList) = false := by rw [bA_list, bA_list]; exact HLT.out k e HE.out (by omega)
        have hkF2 : k + 1 ≤ F := by omega
        clear hkF
        go_wp2
        go_roundg (n.ents.length - (k + 1))
        case measure => omega
        case rel => exact ⟨k + 1, by go_num, by omega, rfl, rfl⟩
    · have hlt' : ¬ (k : Int) < (n.ents.length : Int) := by omega
      have HX2 := Lib.hid (show X = -1 by rw [HX.out, if_neg (by omega)])
      go_wp2
      go_ret
      exact ⟨ret_int HX2.out.symm, HB1.out⟩
end Go.Proofs.YtfopnfgfoicidaaGreat
namespace Go.Proofs.YtfopnfgfoicidaaGreat
open Go Go.RowKit
set_option maxRecDepth 100000

attribute [local go_sem] cell_off4 cell_blk4
theorem kind_ofr (x : Int) (a1 a2 a3 a4 a5 a6 a7 : Value) (w : World) : (Instr.field 82 (.agg #[.int .i64 x, a1, a2, a3, a4, a5, a6, a7]) 0).run Tryz.prog w = .ok (.int .i64 x) w := by kernel_rfl
attribute [local go_sem] kind_ofr
set_option maxHeartbeats 4000000 in
theorem rfind_any (n : Nd) (vn vk : Value) (name : Nm) (w : World) (hN : StrsR w vn (nmA (nmE n.ents))) (hK : IntsR w vk (idE n.ents)) (hn : n.ents.length ≤ 1000) :
    Calls Tryz.prog 83 #[.agg (rfC n vn vk), .string (bA name)] w fun e w' => e = .returned (.int .i64 (fnd n.ents name)) ∧ Below w.heap.size w w' := by
  have hb1 := ba w (.cells (rfC n vn vk) 82)
  have HP := Lib.hid (ref_place n vn vk name _ (hN.below hb1) (hK.below hb1) hn)
  have hk1 := Blk.new w 82 (rfC n vn vk)
  have HB1 := Lib.hid hb1
  have HK1 := Lib.hid hk1
  have HI := Lib.hid (hK.below hb1)
  obtain ⟨A1, c1, rfl⟩ := strs_form hN (nm_len _)
  obtain ⟨A2, c2, rfl⟩ := ints_form hK (idE_len _)
  clear hN hK hb1 hk1
  unfold plcI at HP
  by_cases hf : n.ents.findIdx (isN name) < n.ents.length
  · rw [if_pos hf] at HP
    obtain ⟨e, hke⟩ : ∃ e, n.ents[n.ents.findIdx (isN name)]? = some e := ⟨_, List.getElem?_eq_getElem hf⟩
    have HF := Lib.hid (plc_fnd n.ents name e hke)
    have HKE := Lib.hid hke
    clear hke
    generalize n.ents.findIdx (isN name) = k at HP HKE hf
    have hk2 : (k : Int) < (n.ents.length : Int) := by omega
    have hk0 : ¬ (k : Int) < 0 := by omega
    go_enter Tryz.func83, Tryz.ntmps83
    go_wp2_with fail
    refine HP.out.mono ?_
    rintro e2 w2 ⟨rfl, hb2⟩
    have hk3 := HK1.out.below hb2
    obtain ⟨p0, p1, p2, p3, p4, p5, p6, p7⟩ := hk3.c8
    obtain ⟨ad, rfl, c0⟩ := ints_get (HI.out.below hb2) (idE_at HKE.out)
    have HB2 := Lib.hid (bt hb2 HB1.out)
    clear hb2 hk3
    go_wp2
    go_ret
    exact ⟨ret_int HF.out.symm, HB2.out⟩
  · rw [if_neg hf] at HP
    have HF := Lib.hid (show fnd n.ents name = 0 from fnd_none (fun h => hf ((plc_mem name n.ents).2 h)))
    clear hf
    go_enter Tryz.func83, Tryz.ntmps83
    go_wp2_with fail
    refine HP.out.mono ?_
    rintro e2 w2 ⟨rfl, hb2⟩
    have HB2 := Lib.hid (bt hb2 HB1.out)
    clear hb2
    go_wp2
    go_ret
    exact ⟨ret_int HF.out.symm, HB2.out⟩
theorem tis_kind (t : List Nd) (i : Int) : tis t i = ((tget t i).kind != 0) := by
  unfold tis
  by_cases h : (tget t i).kind = 0 <;> simp [h]
set_option maxHeartbeats 4000000 in
theorem rrcan_any {P : Nat → Prop} (v : Value) (t : List Nd) (c : Wh) (A : Option Addr) (m k : Nat) (i want : Int) (w : World) (h : NsR P w v t) (hl : t.length ≤ 24) (hc : CrR w c A m k) :
    Calls Tryz.prog 31 #[.agg #[v], .agg #[.int .i64 c.u, .int .i64 c.g, .slice A m k], .int .i64 i, .int .i64 want] w fun e w' => e = .returned (.bool (canT t c i want)) ∧ Below w.heap.size w w' := by
  obtain ⟨g, k0, rfl⟩ := ns_form h
  have hb1 := al (ba w (.cells #[.slice (some ⟨g, 0, none⟩) t.length k0] 32)) (.cells #[.int .i64 c.u, .int .i64 c.g, .slice A m k] 37)
  have HG := Lib.hid (rget_any _ t i _ (h.below hb1) hl)
  have HC := Lib.hid (fun W hb (n : Nd) => rcan_any c.u c.g A m k c.gs n.uid n.gid n.mode want W ((hc.ints.below hb1).below hb) hc.few)
  have hk := Blk.new (w.alloc (.cells #[.slice (some ⟨g, 0, none⟩) t.length k0] 32)) 37 #[.int .i64 c.u, .int .i64 c.g, .slice A m k]
  have ez : (w.alloc (.cells #[.slice (some ⟨g, 0, none⟩) t.length k0] 32)).heap.size = w.heap.size + 1 := by simp
  rw [ez] at hk
  have HK := Lib.hid hk
  have HB := Lib.hid hb1
  obtain ⟨R, hR⟩ : ∃ R, canT t c i want = R := ⟨_, rfl⟩
  have HR := Lib.hid (show R = (((tget t i).kind != 0) && canN c (tget t i) want) from by rw [← hR, ← tis_kind]; rfl)
  rw [hR]
  generalize tget t i = n at HG HR
  clear h hc hb1 hk hR ez
  go_enter Tryz.func31, Tryz.ntmps31
  go_wp2_with fail
  refine HG.out.mono ?_
  rintro e w2 ⟨u, rfl, ⟨vn, vk, rfl, hN, hI⟩, hb2⟩
  obtain ⟨A5, k5, rfl⟩ := strs_form hN (nm_len _)
  obtain ⟨A6, k6, rfl⟩ := ints_form hI (idE_len _)
  unfold refV
  have hbx := al hb2 (.cells (rfC n (.slice A5 n.ents.length k5) (.slice A6 n.ents.length k6)) 82)
  have hk2 := HK.out.below hbx
  have HC2 := Lib.hid (HC.out _ hbx n)
  have HB2 := Lib.hid (bt hbx HB.out)
  clear hN hI hb2 hbx
  cases hq : (n.kind != 0) with
  | false =>
    have HZ := Lib.hid (show false = R from by rw [HR.out, hq]; rfl)
    clear hk2
    go_wp2
    go_ret
    exact ⟨ret_bool HZ.out, HB2.out⟩
  | true =>
    have HZ := Lib.hid (show canN c n want = R by rw [HR.out, hq, Bool.true_and])
    obtain ⟨p0, p1, p2⟩ := hk2.c3
    clear hk2
    go_wp2_with fail
    refine HC2.out.mono ?_
    rintro e w3 ⟨rfl, hb3⟩
    have HB3 := Lib.hid (bt hb3 HB2.out)
    clear hb3
    go_wp2
    go_ret
    exact ⟨ret_bool HZ.out, HB3.out⟩
end Go.Proofs.YtfopnfgfoicidaaGreat
namespace Go.Proofs.YtfopnfgfoicidaaGreat
open Go Go.RowKit
set_option maxRecDepth 100000

attribute [local go_sem] cell_off4 cell_blk4
/-- A state of the reference's walk, by value. -/
abbrev TkV (vl : Value) (i g : Int) (dn : Bool) (d : Int) (nm : ByteArray) (n e : Int) : Array Value := #[vl, .int .i64 i, .int .i64 g, .bool dn, .int .i64 d, .string nm, .int .i64 n, .int .i64 e]
abbrev TkZ : Array Value := #[.slice none 0 0, .int .i64 0, .int .i64 0, .bool false, .int .i64 0, .string ⟨#[]⟩, .int .i64 0, .int .i64 0]
theorem fail_any (x : Int) (w : World) :
    Calls Tryz.prog 81 #[.int .i64 x] w fun e w' => e = .returned (.agg #[.slice none 0 0, .int .i64 0, .int .i64 0, .bool true, .int .i64 0, .string ⟨#[]⟩, .int .i64 0, .int .i64 x]) ∧ Below w.heap.size w w' := by
  have HB := Lib.hid (ba w (.cells #[.slice none 0 0, .int .i64 0, .int .i64 0, .bool true, .int .i64 0, .string ⟨#[]⟩, .int .i64 0, .int .i64 x] 117))
  go_enter Tryz.func81, Tryz.ntmps81
  go_wp2
  exact bodyPost_ret (v := .agg #[.slice none 0 0, .int .i64 0, .int .i64 0, .bool true, .int .i64 0, .string ⟨#[]⟩, .int .i64 0, .int .i64 x]) (by simp [results, Tryz.results81, go_sem]) rfl ⟨rfl, HB.out⟩
/-- What link answers. -/
def LkPost (tg : Nm) (l : List Nm) (i : Int) (g : Nat) (w : World) (e : Ending) (w' : World) : Prop :=
  ((g = 8 ∧ e = .returned (.agg #[.slice none 0 0, .int .i64 0, .int .i64 0, .bool true, .int .i64 0, .string ⟨#[]⟩, .int .i64 0, .int .i64 40])) ∨
   (g ≠ 8 ∧ ∃ A n c, e = .returned (.agg #[.slice A n c, .int .i64 (if absP tg = true then 1 else i), .int .i64 ((g : Int) + 1), .bool false, .int .i64 0, .string ⟨#[]⟩, .int .i64 0, .int .i64 0]) ∧ StrsT w' (.slice A n c) (bAs (splitP tg ++ l)))) ∧ Below w.heap.size w w'
set_option maxHeartbeats 8000000 in
theorem link_any (tg : Nm) (l : List Nm) (Av : Option Addr) (nv cv : Nat) (i : Int) (g : Nat) (w : World) (hs : StrsT w (.slice Av nv cv) (bAs l)) (ht : tg.length ≤ 1000) (hl : l.length ≤ 10000) (hg : g ≤ 8) :
    Calls Tryz.prog 84 #[.agg #[.slice Av nv cv, .int .i64 i, .int .i64 (g : Int), .bool false, .int .i64 0, .string ⟨#[]⟩, .int .i64 0, .int .i64 0], .string (bA tg)] w (LkPost tg l i g w) := by
  have hb1 := al (ba w (.cells #[.slice Av nv cv, .int .i64 i, .int .i64 (g : Int), .bool false, .int .i64 0, .string ⟨#[]⟩, .int .i64 0, .int .i64 0] 117)) (.cells TkZ 117)
  have hk1 := (Blk.new w 117 #[.slice Av nv cv, .int .i64 i, .int .i64 (g : Int), .bool false, .int .i64 0, .string ⟨#[]⟩, .int .i64 0, .int .i64 0]).alloc (.cells TkZ 117)
  have hr1 := Blk.new (w.alloc (.cells #[.slice Av nv cv, .int .i64 i, .int .i64 (g : Int), .bool false, .int .i64 0, .string ⟨#[]⟩, .int .i64 0, .int .i64 0] 117)) 117 TkZ
  have ez : (w.alloc (.cells #[.slice Av nv cv, .int .i64 i, .int .i64 (g : Int), .bool false, .int .i64 0, .string ⟨#[]⟩, .int .i64 0, .int .i64 0] 117)).heap.size = w.heap.size + 1 := by simp
  rw [ez] at hr1
  have HB1 := Lib.hid hb1
  have HK1 := Lib.hid hk1
  have HR1 := Lib.hid hr1
  have HS1 := Lib.hid (hs.below hb1)
  clear ez hb1 hs
  obtain ⟨W1, hW1⟩ : ∃ W1, (w.alloc (.cells #[.slice Av nv cv, .int .i64 i, .int .i64 (g : Int), .bool false, .int .i64 0, .string ⟨#[]⟩, .int .i64 0, .int .i64 0] 117)).alloc (.cells TkZ 117) = W1 := ⟨_, rfl⟩
  rw [hW1] at hk1 hr1 HB1 HK1 HR1 HS1
  obtain ⟨p0, p1, p2, p3, p4, p5, p6, p7⟩ := hk1.c8
  clear hk1 hr1
  have HPF := Lib.hid (show ∀ w', g = 8 → Below w.heap.size w w' → LkPost tg l i g w (.returned (.agg #[.slice none 0 0, .int .i64 0, .int .i64 0, .bool true, .int .i64 0, .string ⟨#[]⟩, .int .i64 0, .int .i64 40])) w' from fun w' h hb => ⟨.inl ⟨h, rfl⟩, hb⟩)
  have HPG := Lib.hid (show ∀ w' A n c, g ≠ 8 → StrsT w' (.slice A n c) (bAs (splitP tg ++ l)) → Below w.heap.size w w' → LkPost tg l i g w (.returned (.agg #[.slice A n c, .int .i64 (if absP tg = true then 1 else i), .int .i64 ((g : Int) + 1), .bool false, .int .i64 0, .string ⟨#[]⟩, .int .i64 0, .int .i64 0])) w' from fun w' A n c h hn hb => ⟨.inr ⟨h, A, n, c, rfl, hn⟩, hb⟩)
  obtain ⟨LP9, hLP⟩ : ∃ LP9, LkPost tg l i g w = LP9 := ⟨_, rfl⟩
  rw [hLP] at HPF HPG ⊢
  clear hLP
  by_cases hg8 : g = 8
  · have e8 : ((g : Int) == 8) = true := by rw [hg8]; rfl
    have HG8 := Lib.hid hg8
    clear hg8
    go_enter Tryz.func84, Tryz.ntmps84
    go_wp2_with fail
    clear hW1
    refine (fail_any 40 W1).mono ?_
    rintro e w2 ⟨rfl, hb2⟩
    have hr2 := HR1.out.below hb2
    obtain ⟨y0, y1, y2, y3, y4, y5, y6, y7⟩ := hr2.c8
    obtain ⟨f0, f1, f2, f3, f4, f5, f6, f7⟩ := hr2.f8
    obtain ⟨s0, s1, s2, s3, s4, s5, s6, s7⟩ := hr2.s8
    have HB2 := Lib.hid (below_grown (bt hb2 HB1.out) (grown8 w2 (w.heap.size + 1) (.slice none 0 0) (.int .i64 0) (.int .i64 0) (.bool true) (.int .i64 0) (.string ⟨#[]⟩) (.int .i64 0) (.int .i64 40)) (Nat.le_succ _))
    clear hb2 hr2 p0 p1 p2 p3 p4 p5 p6 p7
    go_wp2
    exact bodyPost_ret (v := .agg #[.slice none 0 0, .int .i64 0, .int .i64 0, .bool true, .int .i64 0, .string ⟨#[]⟩, .int .i64 0, .int .i64 40]) (by simp [results, Tryz.results84, go_sem, s0, s1, s2, s3, s4, s5, s6, s7]) rfl (HPF.out _ HG8.out HB2.out)
  · have e8 : ((g : Int) == 8) = false := by rw [beq_eq_false_iff_ne]; omega
    have HG8 := Lib.hid hg8
    have HSP := Lib.hid (ref_split (bA tg) W1 (by rw [size_bA]; omega))
    rw [tl_bA] at HSP
    have hsl := spl_len tg
    have hbl := bAs_len (splitP tg)
    have hb2 : (bAs l).length = l.length := bAs_len l
    obtain ⟨S, hS⟩ : ∃ S, splitP tg = S := ⟨_, rfl⟩
    rw [hS] at HSP hsl hbl HPG
    have HAP := Lib.hid (show bAs (S ++ l) = bAs S ++ bAs l by simp [bAs])
    have HLN := Lib.hid (show (bAs S).length + (bAs l).length ≤ 100000000 ∧ (bAs S).length ≤ 100000000 by constructor <;> omega)
    have hfw : IntKind.i64.wrap ((g : Int) + 1) = (g : Int) + 1 := by rw [IntKind.wrap_i64] <;> omega
    generalize absP tg = ab at HSP HPG
    clear hg8 hS hsl hbl hb2 hl ht
    cases ab with
    | false =>
      go_enter Tryz.func84, Tryz.ntmps84
      go_wp2_with fail
      clear hW1
      refine HSP.out.mono ?_
      rintro e w2 ⟨v2, rfl, hv2, hb2⟩
      have HV2 := Lib.hid hv2
      have HB2 := Lib.hid hb2
      have hk2 := HK1.out.below hb2
      have HK2 := Lib.hid hk2
      have HR2 := Lib.hid (HR1.out.below hb2)
      have HS2 := Lib.hid (HS1.out.below hb2)
      have HLO := Lib.hid (show W1.heap.size ≤ w2.heap.size from hb2.size)
      clear p0 p1 p2 p3 p4 p5 p6 p7 hv2 hb2
      obtain ⟨p0, p1, p2, p3, p4, p5, p6, p7⟩ := hk2.c8
      clear hk2
      have hown0 : w2.ownsRow w2.heap.size 9 1 (.slice none 0 0) ([] : List ByteArray).length (sCells []) := own_nil_str w2
      have HNE := Lib.hid (show ¬ w.heap.size + 1 = w.heap.size by omega)
      go_wp2_with (first
        | (at_builtin; refine wpList_append_strs rfl (.tmp 17) (.tmp 18) rfl w2.heap.size (.slice none 0 0) [] rfl hown0 v2 (bAs S) rfl HV2.out (by have h := HLN.out.2; simpa using h) (Nat.le_refl _) ?_; intro v3 w3 ho3 hg3; rw [List.nil_append] at ho3; obtain ⟨A3, c3, hv3⟩ := own_slice ho3; subst hv3; have hb3 : Below w2.heap.size w2 w3 := (Below.refl _ _).grown hg3 (Nat.le_refl _) (fun q hq => by cases hq); have HO3 := Lib.hid ho3; have HB3 := Lib.hid hb3; clear p0 p1 p2 p3 p4 p5 p6 p7; obtain ⟨p0, p1, p2, p3, p4, p5, p6, p7⟩ := (HK2.out.below hb3).c8; clear ho3 hg3 hb3 hown0)
        | (at_builtin; refine wpList_append_strs rfl (.tmp 20) (.tmp 22) rfl w2.heap.size (.slice A3 (bAs S).length c3) (bAs S) rfl HO3.out (.slice Av nv cv) (bAs l) rfl (HS2.out.below HB3.out).1 HLN.out.1 HB3.out.size ?_; intro v4 w4 ho4 hg4; obtain ⟨A4, c4, hv4⟩ := own_slice ho4; subst hv4; have hn4 : StrsT w4 (.slice A4 (bAs S ++ bAs l).length c4) (bAs (S ++ l)) := (by rw [HAP.out]; exact StrsT.of_own ho4); have hb4 := HB3.out.grown hg4 HB3.out.size (fun q hq => (HO3.out.lt q hq).1); have hk4 := HK2.out.below hb4; have hr4 := HR2.out.below hb4; have HB4 := Lib.hid (bt hb4 (bt HB2.out HB1.out)); clear p0 p1 p2 p3 p4 p5 p6 p7 hb4; generalize (bAs S ++ bAs l).length = N9 at hn4 ⊢; obtain ⟨p0, p1, p2, p3, p4, p5, p6, p7⟩ := hk4.c8; have hk5 := hk4.set8_0 (.slice A4 N9 c4); have hr5 := hr4.kept (grown_setCell w4 ⟨w.heap.size, 0, none⟩ (.slice A4 N9 c4)) (fun e => by injection e with e; exact HNE.out e); obtain ⟨fa0, fb0, fc0, -⟩ := hk4.f8; have hk6 := hk5.set8_2 (.int .i64 ((g : Int) + 1)); have hr6 := hr5.kept (grown_setCell (w4.setCell ⟨w.heap.size, 0, none⟩ (.slice A4 N9 c4)) ⟨w.heap.size, 2, none⟩ (.int .i64 ((g : Int) + 1))) (fun e => by injection e with e; exact HNE.out e); obtain ⟨fa1, fb1, fc1, -⟩ := hk5.f8; obtain ⟨m0, m1, m2, m3, m4, m5, m6, m7⟩ := hk6.c8; obtain ⟨y0, y1, y2, y3, y4, y5, y6, y7⟩ := hr6.c8; obtain ⟨f0, f1, f2, f3, f4, f5, f6, f7⟩ := hr6.f8; obtain ⟨s0, s1, s2, s3, s4, s5, s6, s7⟩ := hr6.s8; have HBF := Lib.hid (below_grown (below_grown (below_grown HB4.out (grown_setCell w4 ⟨w.heap.size, 0, none⟩ (.slice A4 N9 c4)) (Nat.le_refl _)) (grown_setCell (w4.setCell ⟨w.heap.size, 0, none⟩ (.slice A4 N9 c4)) ⟨w.heap.size, 2, none⟩ (.int .i64 ((g : Int) + 1))) (Nat.le_refl _)) (grown8 ((w4.setCell ⟨w.heap.size, 0, none⟩ (.slice A4 N9 c4)).setCell ⟨w.heap.size, 2, none⟩ (.int .i64 ((g : Int) + 1))) (w.heap.size + 1) (.slice A4 N9 c4) (.int .i64 i) (.int .i64 ((g : Int) + 1)) (.bool false) (.int .i64 0) (.string ⟨#[]⟩) (.int .i64 0) (.int .i64 0)) (Nat.le_succ _)); have HNF := Lib.hid ((StrsT.other (StrsT.other (StrsT.other hn4 (grown_setCell w4 ⟨w.heap.size, 0, none⟩ (.slice A4 N9 c4)) hk4 (by decide)) (grown_setCell (w4.setCell ⟨w.heap.size, 0, none⟩ (.slice A4 N9 c4)) ⟨w.heap.size, 2, none⟩ (.int .i64 ((g : Int) + 1))) hk5 (by decide)) (grown8 ((w4.setCell ⟨w.heap.size, 0, none⟩ (.slice A4 N9 c4)).setCell ⟨w.heap.size, 2, none⟩ (.int .i64 ((g : Int) + 1))) (w.heap.size + 1) (.slice A4 N9 c4) (.int .i64 i) (.int .i64 ((g : Int) + 1)) (.bool false) (.int .i64 0) (.string ⟨#[]⟩) (.int .i64 0) (.int .i64 0)) hr6 (by decide))); clear ho4 hg4 hn4 hk4 hr4 hk5 hr5 hk6 hr6)
        | fail)
      exact bodyPost_ret (v := .agg #[.slice A4 N9 c4, .int .i64 i, .int .i64 ((g : Int) + 1), .bool false, .int .i64 0, .string ⟨#[]⟩, .int .i64 0, .int .i64 0]) (by simp [results, Tryz.results84, go_sem, s0, s1, s2, s3, s4, s5, s6, s7]) rfl (HPG.out _ A4 N9 c4 HG8.out HNF.out HBF.out)
    | true =>
      go_enter Tryz.func84, Tryz.ntmps84
      go_wp2_with fail
      clear hW1
      refine HSP.out.mono ?_
      rintro e w2 ⟨v2, rfl, hv2, hb2⟩
      have HV2 := Lib.hid hv2
      have HB2 := Lib.hid hb2
      have hk2 := HK1.out.below hb2
      have HK2 := Lib.hid hk2
      have HR2 := Lib.hid (HR1.out.below hb2)
      have HS2 := Lib.hid (HS1.out.below hb2)
      have HLO := Lib.hid (show W1.heap.size ≤ w2.heap.size from hb2.size)
      clear p0 p1 p2 p3 p4 p5 p6 p7 hv2 hb2
      obtain ⟨p0, p1, p2, p3, p4, p5, p6, p7⟩ := hk2.c8
      clear hk2
      have hown0 : w2.ownsRow w2.heap.size 9 1 (.slice none 0 0) ([] : List ByteArray).length (sCells []) := own_nil_str w2
      have HNE := Lib.hid (show ¬ w.heap.size + 1 = w.heap.size by omega)
      go_wp2_with (first
        | (at_builtin; refine wpList_append_strs rfl (.tmp 17) (.tmp 18) rfl w2.heap.size (.slice none 0 0) [] rfl hown0 v2 (bAs S) rfl HV2.out (by have h := HLN.out.2; simpa using h) (Nat.le_refl _) ?_; intro v3 w3 ho3 hg3; rw [List.nil_append] at ho3; obtain ⟨A3, c3, hv3⟩ := own_slice ho3; subst hv3; have hb3 : Below w2.heap.size w2 w3 := (Below.refl _ _).grown hg3 (Nat.le_refl _) (fun q hq => by cases hq); have HO3 := Lib.hid ho3; have HB3 := Lib.hid hb3; clear p0 p1 p2 p3 p4 p5 p6 p7; obtain ⟨p0, p1, p2, p3, p4, p5, p6, p7⟩ := (HK2.out.below hb3).c8; clear ho3 hg3 hb3 hown0)
        | (at_builtin; refine wpList_append_strs rfl (.tmp 20) (.tmp 22) rfl w2.heap.size (.slice A3 (bAs S).length c3) (bAs S) rfl HO3.out (.slice Av nv cv) (bAs l) rfl (HS2.out.below HB3.out).1 HLN.out.1 HB3.out.size ?_; intro v4 w4 ho4 hg4; obtain ⟨A4, c4, hv4⟩ := own_slice ho4; subst hv4; have hn4 : StrsT w4 (.slice A4 (bAs S ++ bAs l).length c4) (bAs (S ++ l)) := (by rw [HAP.out]; exact StrsT.of_own ho4); have hb4 := HB3.out.grown hg4 HB3.out.size (fun q hq => (HO3.out.lt q hq).1); have hk4 := HK2.out.below hb4; have hr4 := HR2.out.below hb4; have HB4 := Lib.hid (bt hb4 (bt HB2.out HB1.out)); clear p0 p1 p2 p3 p4 p5 p6 p7 hb4; generalize (bAs S ++ bAs l).length = N9 at hn4 ⊢; obtain ⟨p0, p1, p2, p3, p4, p5, p6, p7⟩ := hk4.c8; have hk5 := hk4.set8_0 (.slice A4 N9 c4); have hr5 := hr4.kept (grown_setCell w4 ⟨w.heap.size, 0, none⟩ (.slice A4 N9 c4)) (fun e => by injection e with e; exact HNE.out e); obtain ⟨fa0, fb0, fc0, -⟩ := hk4.f8; have hk6 := hk5.set8_2 (.int .i64 ((g : Int) + 1)); have hr6 := hr5.kept (grown_setCell (w4.setCell ⟨w.heap.size, 0, none⟩ (.slice A4 N9 c4)) ⟨w.heap.size, 2, none⟩ (.int .i64 ((g : Int) + 1))) (fun e => by injection e with e; exact HNE.out e); obtain ⟨fa1, fb1, fc1, -⟩ := hk5.f8; have hk7 := hk6.set8_1 (.int .i64 1); have hr7 := hr6.kept (grown_setCell ((w4.setCell ⟨w.heap.size, 0, none⟩ (.slice A4 N9 c4)).setCell ⟨w.heap.size, 2, none⟩ (.int .i64 ((g : Int) + 1))) ⟨w.heap.size, 1, none⟩ (.int .i64 1)) (fun e => by injection e with e; exact HNE.out e); obtain ⟨fa2, fb2, fc2, -⟩ := hk6.f8; obtain ⟨m0, m1, m2, m3, m4, m5, m6, m7⟩ := hk7.c8; obtain ⟨y0, y1, y2, y3, y4, y5, y6, y7⟩ := hr7.c8; obtain ⟨f0, f1, f2, f3, f4, f5, f6, f7⟩ := hr7.f8; obtain ⟨s0, s1, s2, s3, s4, s5, s6, s7⟩ := hr7.s8; have HBF := Lib.hid (below_grown (below_grown (below_grown (below_grown HB4.out (grown_setCell w4 ⟨w.heap.size, 0, none⟩ (.slice A4 N9 c4)) (Nat.le_refl _)) (grown_setCell (w4.setCell ⟨w.heap.size, 0, none⟩ (.slice A4 N9 c4)) ⟨w.heap.size, 2, none⟩ (.int .i64 ((g : Int) + 1))) (Nat.le_refl _)) (grown_setCell ((w4.setCell ⟨w.heap.size, 0, none⟩ (.slice A4 N9 c4)).setCell ⟨w.heap.size, 2, none⟩ (.int .i64 ((g : Int) + 1))) ⟨w.heap.size, 1, none⟩ (.int .i64 1)) (Nat.le_refl _)) (grown8 (((w4.setCell ⟨w.heap.size, 0, none⟩ (.slice A4 N9 c4)).setCell ⟨w.heap.size, 2, none⟩ (.int .i64 ((g : Int) + 1))).setCell ⟨w.heap.size, 1, none⟩ (.int .i64 1)) (w.heap.size + 1) (.slice A4 N9 c4) (.int .i64 1) (.int .i64 ((g : Int) + 1)) (.bool false) (.int .i64 0) (.string ⟨#[]⟩) (.int .i64 0) (.int .i64 0)) (Nat.le_succ _)); have HNF := Lib.hid ((StrsT.other (StrsT.other (StrsT.other (StrsT.other hn4 (grown_setCell w4 ⟨w.heap.size, 0, none⟩ (.slice A4 N9 c4)) hk4 (by decide)) (grown_setCell (w4.setCell ⟨w.heap.size, 0, none⟩ (.slice A4 N9 c4)) ⟨w.heap.size, 2, none⟩ (.int .i64 ((g : Int) + 1))) hk5 (by decide)) (grown_setCell ((w4.setCell ⟨w.heap.size, 0, none⟩ (.slice A4 N9 c4)).setCell ⟨w.heap.size, 2, none⟩ (.int .i64 ((g : Int) + 1))) ⟨w.heap.size, 1, none⟩ (.int .i64 1)) hk6 (by decide)) (grown8 (((w4.setCell ⟨w.heap.size, 0, none⟩ (.slice A4 N9 c4)).setCell ⟨w.heap.size, 2, none⟩ (.int .i64 ((g : Int) + 1))).setCell ⟨w.heap.size, 1, none⟩ (.int .i64 1)) (w.heap.size + 1) (.slice A4 N9 c4) (.int .i64 1) (.int .i64 ((g : Int) + 1)) (.bool false) (.int .i64 0) (.string ⟨#[]⟩) (.int .i64 0) (.int .i64 0)) hr7 (by decide))); clear ho4 hg4 hn4 hk4 hr4 hk5 hr5 hk6 hr6 hk7 hr7)
        | fail)
      exact bodyPost_ret (v := .agg #[.slice A4 N9 c4, .int .i64 1, .int .i64 ((g : Int) + 1), .bool false, .int .i64 0, .string ⟨#[]⟩, .int .i64 0, .int .i64 0]) (by simp [results, Tryz.results84, go_sem, s0, s1, s2, s3, s4, s5, s6, s7]) rfl (HPG.out _ A4 N9 c4 HG8.out HNF.out HBF.out)
end Go.Proofs.YtfopnfgfoicidaaGreat
namespace Go.Proofs.YtfopnfgfoicidaaGreat
open Go Go.RowKit
set_option maxRecDepth 100000

attribute [local go_sem] cell_off4 cell_blk4
/-- What take answers: it is done, or other names are left. -/
def TkPost (t : List Nd) (c : Wh) (f : Bool) (g : Nat) (l : List Nm) (i : Int) (w : World) (e : Ending) (w' : World) : Prop :=
  ∃ (A : Option Addr) (n0 c0 : Nat) (i' : Int) (g' : Nat) (dn : Bool) (F : Fo) (E : Int), e = .returned (.agg #[.slice A n0 c0, .int .i64 i', .int .i64 (g' : Int), .bool dn, .int .i64 F.dir, .string (bA F.name), .int .i64 F.node, .int .i64 E]) ∧
    (dn = true → wlk t c f (8 - g) l i = (F, E)) ∧
    (dn = false → (F = Fo.zero ∧ E = 0) ∧ ∃ l', StrsT w' (.slice A n0 c0) (bAs l') ∧ wlk t c f (8 - g) l i = wlk t c f (8 - g') l' i' ∧ g' ≤ 8 ∧ (8 - g') * 1000 + l'.length < (8 - g) * 1000 + l.length ∧ l'.length ≤ 1002 + 66 * g') ∧ Below w.heap.size w w'
/-- The boxes of take. -/
structure TkB (w W : World) (v : Value) (c : Wh) (A0 : Option Addr) (m k : Nat) (sv : Array Value) : Prop where
  kt : Blk W w.heap.size 32 #[v]
  kc : Blk W (w.heap.size + 1) 37 #[.int .i64 c.u, .int .i64 c.g, .slice A0 m k]
  ks : Blk W (w.heap.size + 1 + 1) 117 sv
  kr : Blk W (w.heap.size + 1 + 1 + 1) 117 TkZ
  below : Below w.heap.size w W
section
variable {w W W' : World} {v : Value} {c : Wh} {A0 : Option Addr} {m k : Nat} {sv : Array Value} {a0 a1 a2 a3 a4 a5 a6 a7 : Value}
theorem TkB.later (h : TkB w W v c A0 m k sv) (hb : Below W.heap.size W W') : TkB w W' v c A0 m k sv := ⟨h.kt.below hb, h.kc.below hb, h.ks.below hb, h.kr.below hb, bt hb h.below⟩
theorem TkB.set0 (h : TkB w W v c A0 m k #[a0, a1, a2, a3, a4, a5, a6, a7]) (u : Value) : TkB w (W.setCell ⟨w.heap.size + 1 + 1, 0, none⟩ u) v c A0 m k #[u, a1, a2, a3, a4, a5, a6, a7] :=
  have hg := grown_setCell W ⟨w.heap.size + 1 + 1, 0, none⟩ u
  ⟨h.kt.kept hg (fun e => by injection e with e; have e : w.heap.size = w.heap.size + 1 + 1 := e; omega), h.kc.kept hg (fun e => by injection e with e; have e : w.heap.size + 1 = w.heap.size + 1 + 1 := e; omega), h.ks.set8_0 u, h.kr.kept hg (fun e => by injection e with e; have e : w.heap.size + 1 + 1 + 1 = w.heap.size + 1 + 1 := e; omega), below_grown h.below hg (show w.heap.size ≤ w.heap.size + 1 + 1 by omega)⟩
theorem TkB.set1 (h : TkB w W v c A0 m k #[a0, a1, a2, a3, a4, a5, a6, a7]) (u : Value) : TkB w (W.setCell ⟨w.heap.size + 1 + 1, 1, none⟩ u) v c A0 m k #[a0, u, a2, a3, a4, a5, a6, a7] :=
  have hg := grown_setCell W ⟨w.heap.size + 1 + 1, 1, none⟩ u
  ⟨h.kt.kept hg (fun e => by injection e with e; have e : w.heap.size = w.heap.size + 1 + 1 := e; omega), h.kc.kept hg (fun e => by injection e with e; have e : w.heap.size + 1 = w.heap.size + 1 + 1 := e; omega), h.ks.set8_1 u, h.kr.kept hg (fun e => by injection e with e; have e : w.heap.size + 1 + 1 + 1 = w.heap.size + 1 + 1 := e; omega), below_grown h.below hg (show w.heap.size ≤ w.heap.size + 1 + 1 by omega)⟩
theorem TkB.out (h : TkB w W v c A0 m k sv) (u0 u1 u2 u3 u4 u5 u6 u7 : Value) : Below w.heap.size w (put8 W (w.heap.size + 1 + 1 + 1) u0 u1 u2 u3 u4 u5 u6 u7) := below_grown h.below (grown8 W _ u0 u1 u2 u3 u4 u5 u6 u7) (show w.heap.size ≤ w.heap.size + 1 + 1 + 1 by omega)
theorem TkB.names (h : TkB w W v c A0 m k sv) {x : Value} {l : List ByteArray} (hn : StrsT W x l) (u0 u1 u2 u3 u4 u5 u6 u7 : Value) : StrsT (put8 W (w.heap.size + 1 + 1 + 1) u0 u1 u2 u3 u4 u5 u6 u7) x l := hn.other (grown8 W _ u0 u1 u2 u3 u4 u5 u6 u7) h.kr (by decide)
theorem tk_start (w : World) (v : Value) (c : Wh) (A0 : Option Addr) (m k : Nat) (sv : Array Value) : TkB w ((((w.alloc (.cells #[v] 32)).alloc (.cells #[.int .i64 c.u, .int .i64 c.g, .slice A0 m k] 37)).alloc (.cells sv 117)).alloc (.cells TkZ 117)) v c A0 m k sv := by
  have b1 := ba w (.cells #[v] 32)
  have k1 := Blk.new w 32 #[v]
  have e1 : (w.alloc (.cells #[v] 32)).heap.size = w.heap.size + 1 := by simp
  generalize w.alloc (.cells #[v] 32) = x1 at b1 k1 e1 ⊢
  have b2 := ba x1 (.cells #[.int .i64 c.u, .int .i64 c.g, .slice A0 m k] 37)
  have k2 := Blk.new x1 37 #[.int .i64 c.u, .int .i64 c.g, .slice A0 m k]
  have e2 : (x1.alloc (.cells #[.int .i64 c.u, .int .i64 c.g, .slice A0 m k] 37)).heap.size = w.heap.size + 1 + 1 := by simp [e1]
  rw [e1] at k2
  generalize x1.alloc (.cells #[.int .i64 c.u, .int .i64 c.g, .slice A0 m k] 37) = x2 at b2 k2 e2 ⊢
  have b3 := ba x2 (.cells sv 117)
  have k3 := Blk.new x2 117 sv
  have e3 : (x2.alloc (.cells sv 117)).heap.size = w.heap.size + 1 + 1 + 1 := by simp [e2]
  rw [e2] at k3
  generalize x2.alloc (.cells sv 117) = x3 at b3 k3 e3 ⊢
  have b4 := ba x3 (.cells TkZ 117)
  have k4 := Blk.new x3 117 TkZ
  rw [e3] at k4
  exact ⟨((k1.below b2).below b3).below b4, (k2.below b3).below b4, k3.below b4, k4, bt b4 (bt b3 (bt b2 b1))⟩
end
theorem wlk_sr20 {t : List Nd} {c : Wh} {f : Bool} {k : Nat} {n : Nm} {r : List Nm} {i : Int} (h : (tget t i).kind ≠ 2) : wlk t c f k (n :: r) i = (Fo.zero, 20) := by
  have h1 : srE t c i = 20 := by unfold srE; rw [if_pos h]
  rw [wlk_sr (by rw [h1]; decide), h1]
theorem wlk_sr13 {t : List Nd} {c : Wh} {f : Bool} {k : Nat} {n : Nm} {r : List Nm} {i : Int} (h : (tget t i).kind = 2) (hc : canT t c i 1 = false) : wlk t c f k (n :: r) i = (Fo.zero, 13) := by
  have h1 : srE t c i = 13 := by unfold srE; rw [if_neg (fun q => q h), if_pos hc]
  rw [wlk_sr (by rw [h1]; decide), h1]
set_option maxHeartbeats 8000000 in
theorem take_any {P : Nat → Prop} (v : Value) (t : List Nd) (c : Wh) (A0 : Option Addr) (m k : Nat) (Av : Option Addr) (nv cv : Nat) (n : Nm) (r : List Nm) (i : Int) (g : Nat) (f : Bool) (w : World) (h : NsR P w v t) (hl : t.length ≤ 24) (ho : okT t) (hc : CrR w c A0 m k) (hs : StrsT w (.slice Av nv cv) (bAs (n :: r))) (hg : g ≤ 8) (hr : r.length + 1 ≤ 1002 + 66 * g) :
    Calls Tryz.prog 58 #[.agg #[v], .agg #[.int .i64 c.u, .int .i64 c.g, .slice A0 m k], .agg #[.slice Av nv cv, .int .i64 i, .int .i64 (g : Int), .bool false, .int .i64 0, .string ⟨#[]⟩, .int .i64 0, .int .i64 0], .bool f] w (TkPost t c f g (n :: r) i w) := by
  obtain ⟨g0, k0, rfl⟩ := ns_form h
  obtain ⟨ad, c1, c2, A2, hv, h0, hT, hrun⟩ := tail_run (show StrsT w (.slice Av nv cv) (bA n :: bAs r) from hs)
  have hbr : (bAs r).length = r.length := bAs_len r
  generalize (bAs r).length = N at hv hT hrun hbr
  have HBR := Lib.hid hbr
  injection hv with hv1 hv2 hv3
  subst hv1 hv2 hv3
  have HN0 := Lib.hid hT
  have H0 := Lib.hid h0
  have HNS := Lib.hid h
  have HOK := Lib.hid ho
  have HCR := Lib.hid hc
  have h4 := tk_start w (.slice (some ⟨g0, 0, none⟩) t.length k0) c A0 m k #[.slice (some ad) (N + 1) cv, .int .i64 i, .int .i64 (g : Int), .bool false, .int .i64 0, .string ⟨#[]⟩, .int .i64 0, .int .i64 0]
  clear h hc hs h0 hT hbr ho
  go_enter Tryz.func58, Tryz.ntmps58
  go_upto_region 1 with fail
  obtain ⟨W4, hW4⟩ : ∃ W4, (((w.alloc (.cells #[.slice (some ⟨g0, 0, none⟩) t.length k0] 32)).alloc (.cells #[.int .i64 c.u, .int .i64 c.g, .slice A0 m k] 37)).alloc (.cells #[.slice (some ad) (N + 1) cv, .int .i64 i, .int .i64 (g : Int), .bool false, .int .i64 0, .string ⟨#[]⟩, .int .i64 0, .int .i64 0] 117)).alloc (.cells TkZ 117) = W4 := ⟨_, rfl⟩
  rw [hW4] at h4 ⊢
  clear hW4
  have h5 := h4.set0 (.slice A2 N c2)
  have H5 := Lib.hid h5
  have j0 := bc h4.below H0.out
  obtain ⟨p0, p1, p2, p3, p4, p5, p6, p7⟩ := h4.ks.c8
  obtain ⟨f0, f1, f2, f3, f4, f5, f6, f7⟩ := h4.ks.f8
  have q0 : (W4.setCell ⟨w.heap.size + 1 + 1, 0, none⟩ (.slice A2 N c2)).cell? ⟨w.heap.size, 0, none⟩ = some (.slice (some ⟨g0, 0, none⟩) t.length k0) := h5.kt.cell 0
  have q1 : (W4.setCell ⟨w.heap.size + 1 + 1, 0, none⟩ (.slice A2 N c2)).cell? ⟨w.heap.size + 1 + 1, 1, none⟩ = some (.int .i64 i) := h5.ks.cell 1
  have HG := Lib.hid (rget_any _ t i _ (HNS.out.below h5.below) hl)
  obtain ⟨n1, hn1⟩ : ∃ n1, tget t i = n1 := ⟨_, rfl⟩
  rw [hn1] at HG
  have HN1 := Lib.hid hn1
  clear h4 h5 hn1
  go_wp2_with fail
  refine HG.out.mono ?_
  rintro e w6 ⟨u, rfl, ⟨vn, vk, rfl, hN, hI⟩, hb6⟩
  obtain ⟨A5, k5, rfl⟩ := strs_form hN (nm_len _)
  obtain ⟨A6, k6, rfl⟩ := ints_form hI (idE_len _)
  have hbw := ba w6 (.cells (rfC n1 (.slice A5 n1.ents.length k5) (.slice A6 n1.ents.length k6)) 82)
  have hn6 := Blk.new w6 82 (rfC n1 (.slice A5 n1.ents.length k5) (.slice A6 n1.ents.length k6))
  have h6 := H5.out.later (al hb6 (.cells (rfC n1 (.slice A5 n1.ents.length k5) (.slice A6 n1.ents.length k6)) 82))
  have HN6 := Lib.hid (hN.below hbw)
  have HI6 := Lib.hid (hI.below hbw)
  unfold refV
  obtain ⟨d, hd⟩ : ∃ d, w6.heap.size = d := ⟨_, rfl⟩
  obtain ⟨W6, hW6⟩ : ∃ W6, w6.alloc (.cells (rfC n1 (.slice A5 n1.ents.length k5) (.slice A6 n1.ents.length k6)) 82) = W6 := ⟨_, rfl⟩
  rw [hW6] at hn6 h6 HN6 HI6
  rw [hd] at hn6
  have H6 := Lib.hid h6
  have HD6 := Lib.hid hn6
  clear p0 p1 p2 p3 p4 p5 p6 p7 f0 f1 f2 f3 f4 f5 f6 f7 q0 q1 j0 hN hI hb6 hbw HG H5 hrun
  obtain ⟨d0, d1, d2, d3, d4, d5, d6, d7⟩ := hn6.c8
  obtain ⟨p0, p1, p2, p3, p4, p5, p6, p7⟩ := h6.ks.c8
  have q0 : W6.cell? ⟨w.heap.size, 0, none⟩ = some (.slice (some ⟨g0, 0, none⟩) t.length k0) := h6.kt.cell 0
  obtain ⟨r0, r1, r2⟩ := h6.kc.c3
  clear hn6 h6
  by_cases q2 : n1.kind ≠ 2
  · have e2 : (n1.kind != 2) = true := by simpa using q2
    have HZ := Lib.hid (show wlk t c f (8 - g) (n :: r) i = (Fo.zero, 20) from wlk_sr20 (by rw [HN1.out]; exact q2))
    clear q2
    go_wp2_with fail
    refine (fail_any 20 W6).mono ?_
    rintro e x9 ⟨rfl, hb9⟩
    have h9 := H6.out.later hb9
    have H9 := Lib.hid h9
    clear d0 d1 d2 d3 d4 d5 d6 d7 p0 p1 p2 p3 p4 p5 p6 p7 q0 r0 r1 r2
    obtain ⟨y0, y1, y2, y3, y4, y5, y6, y7⟩ := h9.kr.c8
    obtain ⟨f0, f1, f2, f3, f4, f5, f6, f7⟩ := h9.kr.f8
    obtain ⟨s0, s1, s2, s3, s4, s5, s6, s7⟩ := h9.kr.s8
    clear h9 hb9
    go_wp2
    exact bodyPost_ret (v := .agg #[.slice none 0 0, .int .i64 0, .int .i64 0, .bool true, .int .i64 0, .string ⟨#[]⟩, .int .i64 0, .int .i64 20]) (by simp [results, Tryz.results58, go_sem, s0, s1, s2, s3, s4, s5, s6, s7]) rfl ⟨none, 0, 0, 0, 0, true, Fo.zero, 20, rfl, fun _ => HZ.out, fun h => (by cases h), H9.out.out _ _ _ _ _ _ _ _⟩
  replace q2 : n1.kind = 2 := Classical.byContradiction q2
  have e2 : (n1.kind != 2) = false := by simpa using q2
  have HK2 := Lib.hid (show (tget t i).kind = 2 from by rw [HN1.out]; exact q2)
  have HC := Lib.hid (rrcan_any _ t c A0 m k i 1 W6 (HNS.out.below H6.out.below) hl (HCR.out.below H6.out.below))
  obtain ⟨cn, hcn⟩ : ∃ cn, canT t c i 1 = cn := ⟨_, rfl⟩
  rw [hcn] at HC
  have HCN := Lib.hid hcn
  clear q2 hcn
  go_wp2_with fail
  clear hW6 hd
  refine HC.out.mono ?_
  rintro e w7 ⟨rfl, hb7⟩
  have H7 := Lib.hid (H6.out.later hb7)
  have HD7 := Lib.hid (HD6.out.below hb7)
  have HN7 := Lib.hid (HN6.out.below hb7)
  have HI7 := Lib.hid (HI6.out.below hb7)
  clear d0 d1 d2 d3 d4 d5 d6 d7 p0 p1 p2 p3 p4 p5 p6 p7 q0 r0 r1 r2
  clear hb7 HC H6 HD6 HN6 HI6
  obtain ⟨d0, d1, d2, d3, d4, d5, d6, d7⟩ := HD7.out.c8
  obtain ⟨p0, p1, p2, p3, p4, p5, p6, p7⟩ := H7.out.ks.c8
  have q0 : w7.cell? ⟨w.heap.size, 0, none⟩ = some (.slice (some ⟨g0, 0, none⟩) t.length k0) := H7.out.kt.cell 0
  obtain ⟨r0, r1, r2⟩ := H7.out.kc.c3
  cases cn with
  | false =>
    have HZ := Lib.hid (show wlk t c f (8 - g) (n :: r) i = (Fo.zero, 13) from wlk_sr13 HK2.out HCN.out)
    go_wp2_with fail
    refine (fail_any 13 w7).mono ?_
    rintro e x9 ⟨rfl, hb9⟩
    have h9 := H7.out.later hb9
    have H9 := Lib.hid h9
    clear d0 d1 d2 d3 d4 d5 d6 d7 p0 p1 p2 p3 p4 p5 p6 p7 q0 r0 r1 r2
    obtain ⟨y0, y1, y2, y3, y4, y5, y6, y7⟩ := h9.kr.c8
    obtain ⟨f0, f1, f2, f3, f4, f5, f6, f7⟩ := h9.kr.f8
    obtain ⟨s0, s1, s2, s3, s4, s5, s6, s7⟩ := h9.kr.s8
    clear h9 hb9
    go_wp2
    exact bodyPost_ret (v := .agg #[.slice none 0 0, .int .i64 0, .int .i64 0, .bool true, .int .i64 0, .string ⟨#[]⟩, .int .i64 0, .int .i64 13]) (by simp [results, Tryz.results58, go_sem, s0, s1, s2, s3, s4, s5, s6, s7]) rfl ⟨none, 0, 0, 0, 0, true, Fo.zero, 13, rfl, fun _ => HZ.out, fun h => (by cases h), H9.out.out _ _ _ _ _ _ _ _⟩
  | true =>
  have HSR := Lib.hid (show srE t c i = 0 from sr_zero.2 ⟨HK2.out, HCN.out⟩)
  by_cases m1 : n = [46]
  · have e1 : ((bA n).toList == ([46] : List UInt8)) = true := by rw [bA_list, m1]; rfl
    have HW := Lib.hid (show wlk t c f (8 - g) (n :: r) i = wlk t c f (8 - g) r i from wlk_dot HSR.out m1)
    clear m1
    obtain ⟨y0, y1, y2, y3, y4, y5, y6, y7⟩ := H7.out.kr.c8
    obtain ⟨f0, f1, f2, f3, f4, f5, f6, f7⟩ := H7.out.kr.f8
    obtain ⟨s0, s1, s2, s3, s4, s5, s6, s7⟩ := H7.out.kr.s8
    go_wp2
    exact bodyPost_ret (v := .agg #[.slice A2 N c2, .int .i64 i, .int .i64 (g : Int), .bool false, .int .i64 0, .string ⟨#[]⟩, .int .i64 0, .int .i64 0]) (by simp [results, Tryz.results58, go_sem, s0, s1, s2, s3, s4, s5, s6, s7]) rfl ⟨A2, N, c2, i, g, false, Fo.zero, 0, rfl, fun h => (by cases h), fun _ => ⟨⟨rfl, rfl⟩, r, H7.out.names (HN0.out.below H7.out.below) _ _ _ _ _ _ _ _, HW.out, hg, by rw [List.length_cons]; omega, by omega⟩, H7.out.out _ _ _ _ _ _ _ _⟩
  have e1 : ((bA n).toList == ([46] : List UInt8)) = false := by rw [bA_list]; simpa using m1
  by_cases m2 : n = [46, 46]
  · have e3 : ((bA n).toList == ([46, 46] : List UInt8)) = true := by rw [bA_list, m2]; rfl
    have HW := Lib.hid (show wlk t c f (8 - g) (n :: r) i = wlk t c f (8 - g) r (upI t i) from wlk_up HSR.out m2)
    have HU := Lib.hid (show upI t i = if parT t 0 i ≠ 0 then (parT t 0 i : Int) else i from rfl)
    have HP := Lib.hid (fun W (hb : Below w.heap.size w W) => rparent_any _ t i W (HNS.out.below hb) hl HOK.out)
    generalize upI t i = up at HW HU
    generalize parT t 0 i = pp at HU HP
    clear m1 m2
    go_wp2_with fail
    refine (HP.out _ H7.out.below).mono ?_
    rintro e w8 ⟨rfl, hb8⟩
    have H8 := Lib.hid (H7.out.later hb8)
    clear d0 d1 d2 d3 d4 d5 d6 d7 p0 p1 p2 p3 p4 p5 p6 p7 q0 r0 r1 r2
    clear hb8
    obtain ⟨p0, p1, p2, p3, p4, p5, p6, p7⟩ := H8.out.ks.c8
    have q0 : w8.cell? ⟨w.heap.size, 0, none⟩ = some (.slice (some ⟨g0, 0, none⟩) t.length k0) := H8.out.kt.cell 0
    by_cases qp : pp = 0
    · have ep : ¬ (pp : Int) > 0 := by omega
      have HZU := Lib.hid (show up = i from by rw [HU.out, if_neg (fun q => q qp)])
      clear qp
      obtain ⟨y0, y1, y2, y3, y4, y5, y6, y7⟩ := H8.out.kr.c8
      obtain ⟨f0, f1, f2, f3, f4, f5, f6, f7⟩ := H8.out.kr.f8
      obtain ⟨s0, s1, s2, s3, s4, s5, s6, s7⟩ := H8.out.kr.s8
      go_wp2
      exact bodyPost_ret (v := .agg #[.slice A2 N c2, .int .i64 i, .int .i64 (g : Int), .bool false, .int .i64 0, .string ⟨#[]⟩, .int .i64 0, .int .i64 0]) (by simp [results, Tryz.results58, go_sem, s0, s1, s2, s3, s4, s5, s6, s7]) rfl ⟨A2, N, c2, i, g, false, Fo.zero, 0, rfl, fun h => (by cases h), fun _ => ⟨⟨rfl, rfl⟩, r, H8.out.names (HN0.out.below H8.out.below) _ _ _ _ _ _ _ _, (by rw [HW.out, HZU.out]), hg, by rw [List.length_cons]; omega, by omega⟩, H8.out.out _ _ _ _ _ _ _ _⟩
    · have ep : (pp : Int) > 0 := by omega
      have HZU := Lib.hid (show up = (pp : Int) from by rw [HU.out, if_pos qp])
      clear qp
      go_wp2_with fail
      refine (HP.out _ H8.out.below).mono ?_
      rintro e w9 ⟨rfl, hb9⟩
      have h9 := H8.out.later hb9
      have h10 := h9.set1 (.int .i64 (pp : Int))
      have H10 := Lib.hid h10
      have HNN := Lib.hid ((HN0.out.below h9.below).other (grown_setCell w9 ⟨w.heap.size + 1 + 1, 1, none⟩ (.int .i64 (pp : Int))) h9.ks (by decide))
      clear p0 p1 p2 p3 p4 p5 p6 p7 q0 hb9
      obtain ⟨p0, p1, p2, p3, p4, p5, p6, p7⟩ := h9.ks.c8
      obtain ⟨x0, x1, x2, x3, x4, x5, x6, x7⟩ := h9.ks.f8
      obtain ⟨z0, z1, z2, z3, z4, z5, z6, z7⟩ := h10.ks.c8
      clear h9 h10
      obtain ⟨y0, y1, y2, y3, y4, y5, y6, y7⟩ := H10.out.kr.c8
      obtain ⟨f0, f1, f2, f3, f4, f5, f6, f7⟩ := H10.out.kr.f8
      obtain ⟨s0, s1, s2, s3, s4, s5, s6, s7⟩ := H10.out.kr.s8
      go_wp2
      exact bodyPost_ret (v := .agg #[.slice A2 N c2, .int .i64 (pp : Int), .int .i64 (g : Int), .bool false, .int .i64 0, .string ⟨#[]⟩, .int .i64 0, .int .i64 0]) (by simp [results, Tryz.results58, go_sem, s0, s1, s2, s3, s4, s5, s6, s7]) rfl ⟨A2, N, c2, (pp : Int), g, false, Fo.zero, 0, rfl, fun h => (by cases h), fun _ => ⟨⟨rfl, rfl⟩, r, H10.out.names HNN.out _ _ _ _ _ _ _ _, (by rw [HW.out, HZU.out]), hg, by rw [List.length_cons]; omega, by omega⟩, H10.out.out _ _ _ _ _ _ _ _⟩
  have e3 : ((bA n).toList == ([46, 46] : List UInt8)) = false := by rw [bA_list]; simpa using m2
  have HM := Lib.hid (show n ≠ [46] ∧ n ≠ [46, 46] from ⟨m1, m2⟩)
  have hsz := size_bA n
  clear m1 m2
  by_cases h12 : 12 < n.length
  · have e4 : ((bA n).size : Int) > 12 := by rw [hsz]; omega
    have HZ := Lib.hid (show wlk t c f (8 - g) (n :: r) i = (Fo.zero, 36) from wlk_long HSR.out HM.out.1 HM.out.2 h12)
    clear h12 hsz
    go_wp2_with fail
    refine (fail_any 36 w7).mono ?_
    rintro e x9 ⟨rfl, hb9⟩
    have h9 := H7.out.later hb9
    have H9 := Lib.hid h9
    clear d0 d1 d2 d3 d4 d5 d6 d7 p0 p1 p2 p3 p4 p5 p6 p7 q0 r0 r1 r2
    obtain ⟨y0, y1, y2, y3, y4, y5, y6, y7⟩ := h9.kr.c8
    obtain ⟨f0, f1, f2, f3, f4, f5, f6, f7⟩ := h9.kr.f8
    obtain ⟨s0, s1, s2, s3, s4, s5, s6, s7⟩ := h9.kr.s8
    clear h9 hb9
    go_wp2
    exact bodyPost_ret (v := .agg #[.slice none 0 0, .int .i64 0, .int .i64 0, .bool true, .int .i64 0, .string ⟨#[]⟩, .int .i64 0, .int .i64 36]) (by simp [results, Tryz.results58, go_sem, s0, s1, s2, s3, s4, s5, s6, s7]) rfl ⟨none, 0, 0, 0, 0, true, Fo.zero, 36, rfl, fun _ => HZ.out, fun h => (by cases h), H9.out.out _ _ _ _ _ _ _ _⟩
  have e4 : ¬ ((bA n).size : Int) > 12 := by rw [hsz]; omega
  have H12 := Lib.hid h12
  clear h12 hsz
  have HFW := Lib.hid (show n1.ents.length ≤ 1000 from by rw [← HN1.out]; have := (ok_few HOK.out i).ents; omega)
  have HFD := Lib.hid (rfind_any n1 _ _ n w7 HN7.out HI7.out HFW.out)
  obtain ⟨id, hid⟩ : ∃ id, fnd n1.ents n = id := ⟨_, rfl⟩
  rw [hid] at HFD
  have HID := Lib.hid (show fnd (tget t i).ents n = id from by rw [HN1.out]; exact hid)
  clear hid
  go_wp2_with fail
  refine HFD.out.mono ?_
  rintro e w8 ⟨rfl, hb8⟩
  have H8 := Lib.hid (H7.out.later hb8)
  clear d0 d1 d2 d3 d4 d5 d6 d7 p0 p1 p2 p3 p4 p5 p6 p7 q0 r0 r1 r2
  clear hb8 HFD H7 HD7 HN7 HI7
  obtain ⟨p0, p1, p2, p3, p4, p5, p6, p7⟩ := H8.out.ks.c8
  have q0 : w8.cell? ⟨w.heap.size, 0, none⟩ = some (.slice (some ⟨g0, 0, none⟩) t.length k0) := H8.out.kt.cell 0
  have HBN := HBR.out
  have HG2 := Lib.hid (fun W (hb : Below w.heap.size w W) => rget_any _ t id W (HNS.out.below hb) hl)
  obtain ⟨n2, hn2⟩ : ∃ n2, tget t id = n2 := ⟨_, rfl⟩
  rw [hn2] at HG2
  have HN2 := Lib.hid hn2
  clear hn2
  by_cases hr0 : r = []
  · have eN : ((N : Int) == 0) = true := by rw [HBN, hr0]; rfl
    have HR0 := Lib.hid hr0
    clear hr0 HBN
    by_cases hz : id = 0
    · have eI : (id == 0) = true := by simpa using hz
      have HKZ := Lib.hid (show n2.kind = 0 from by rw [← HN2.out, hz]; exact zero_kindM)
      clear hz
      go_wp2_with fail
      refine (HG2.out _ H8.out.below).mono ?_
      rintro e w9 ⟨u, rfl, ⟨vn, vk, rfl, hN, hI⟩, hb9⟩
      obtain ⟨A7, k7, rfl⟩ := strs_form hN (nm_len _)
      obtain ⟨A8, k8, rfl⟩ := ints_form hI (idE_len _)
      have h10 := H8.out.later (al hb9 (.cells (rfC n2 (.slice A7 n2.ents.length k7) (.slice A8 n2.ents.length k8)) 82))
      have hx10 := Blk.new w9 82 (rfC n2 (.slice A7 n2.ents.length k7) (.slice A8 n2.ents.length k8))
      unfold refV
      obtain ⟨d', hd'⟩ : ∃ d', w9.heap.size = d' := ⟨_, rfl⟩
      obtain ⟨W10, hW10⟩ : ∃ W10, w9.alloc (.cells (rfC n2 (.slice A7 n2.ents.length k7) (.slice A8 n2.ents.length k8)) 82) = W10 := ⟨_, rfl⟩
      rw [hW10] at h10 hx10
      rw [hd'] at hx10
      have H10 := Lib.hid h10
      clear p0 p1 p2 p3 p4 p5 p6 p7 q0
      obtain ⟨d0, d1, d2, d3, d4, d5, d6, d7⟩ := hx10.c8
      obtain ⟨p0, p1, p2, p3, p4, p5, p6, p7⟩ := h10.ks.c8
      clear hN hI hb9 h10 hx10
      have eK : (n2.kind == 3) = false := by rw [HKZ.out]; rfl
      have HZ := Lib.hid (show wlk t c f (8 - g) (n :: r) i = (⟨i, n, id⟩, 0) from by rw [wlk_last HSR.out HM.out.1 HM.out.2 H12.out (fun q => by have h := q.1; rw [HID.out, HN2.out, HKZ.out] at h; exact absurd h (by decide)) HR0.out, HID.out])
      obtain ⟨y0, y1, y2, y3, y4, y5, y6, y7⟩ := H10.out.kr.c8
      obtain ⟨f0, f1, f2, f3, f4, f5, f6, f7⟩ := H10.out.kr.f8
      obtain ⟨s0, s1, s2, s3, s4, s5, s6, s7⟩ := H10.out.kr.s8
      go_wp2
      exact bodyPost_ret (v := .agg #[.slice none 0 0, .int .i64 0, .int .i64 0, .bool true, .int .i64 i, .string (bA n), .int .i64 id, .int .i64 0]) (by simp [results, Tryz.results58, go_sem, s0, s1, s2, s3, s4, s5, s6, s7]) rfl ⟨none, 0, 0, 0, 0, true, ⟨i, n, id⟩, 0, rfl, fun _ => HZ.out, fun h => (by cases h), H10.out.out _ _ _ _ _ _ _ _⟩
    · have eI : (id == 0) = false := by simpa using hz
      have HIZ := Lib.hid hz
      clear hz
      go_wp2_with fail
      refine (HG2.out _ H8.out.below).mono ?_
      rintro e w9 ⟨u, rfl, ⟨vn, vk, rfl, hN, hI⟩, hb9⟩
      obtain ⟨A7, k7, rfl⟩ := strs_form hN (nm_len _)
      obtain ⟨A8, k8, rfl⟩ := ints_form hI (idE_len _)
      have h10 := H8.out.later (al hb9 (.cells (rfC n2 (.slice A7 n2.ents.length k7) (.slice A8 n2.ents.length k8)) 82))
      have hx10 := Blk.new w9 82 (rfC n2 (.slice A7 n2.ents.length k7) (.slice A8 n2.ents.length k8))
      unfold refV
      obtain ⟨d', hd'⟩ : ∃ d', w9.heap.size = d' := ⟨_, rfl⟩
      obtain ⟨W10, hW10⟩ : ∃ W10, w9.alloc (.cells (rfC n2 (.slice A7 n2.ents.length k7) (.slice A8 n2.ents.length k8)) 82) = W10 := ⟨_, rfl⟩
      rw [hW10] at h10 hx10
      rw [hd'] at hx10
      have H10 := Lib.hid h10
      clear p0 p1 p2 p3 p4 p5 p6 p7 q0
      obtain ⟨d0, d1, d2, d3, d4, d5, d6, d7⟩ := hx10.c8
      obtain ⟨p0, p1, p2, p3, p4, p5, p6, p7⟩ := h10.ks.c8
      clear hN hI hb9 h10 hx10
      by_cases hk : n2.kind = 3
      · have eK : (n2.kind == 3) = true := by simpa using hk
        have HKK := Lib.hid hk
        clear hk
        cases f with
        | true =>
          have HLK := Lib.hid (link_any n2.target r A2 N c2 i g W10 (HN0.out.below H10.out.below) (by have := target_len HOK.out id; rw [HN2.out] at this; omega) (by omega) hg)
          have HTL := Lib.hid (show n2.target.length ≤ 64 from by rw [← HN2.out]; exact target_len HOK.out id)
          have HL0 := Lib.hid (show g = 8 → wlk t c true (8 - g) (n :: r) i = (Fo.zero, 40) from fun hq => by rw [hq]; exact wlk_loop HSR.out HM.out.1 HM.out.2 H12.out (fun q => HIZ.out (by rw [← HID.out]; exact q.1)) ⟨by rw [HID.out, HN2.out]; exact HKK.out, .inl rfl⟩)
          have HL1 := Lib.hid (show g ≠ 8 → wlk t c true (8 - g) (n :: r) i = wlk t c true (8 - (g + 1)) (splitP n2.target ++ r) (if absP n2.target = true then 1 else i) from fun hq => by
            obtain ⟨j, hj⟩ : ∃ j, 8 - g = j + 1 := ⟨7 - g, by omega⟩
            rw [hj, wlk_link HSR.out HM.out.1 HM.out.2 H12.out (fun q => HIZ.out (by rw [← HID.out]; exact q.1)) ⟨by rw [HID.out, HN2.out]; exact HKK.out, .inl rfl⟩, HID.out, HN2.out, show 8 - (g + 1) = j by omega])
          go_wp2_with fail
          clear hW10 hd'
          refine HLK.out.mono ?_
          rintro e x9 ⟨⟨hq, rfl⟩ | ⟨hq, A9, n9, c9, rfl, hn9⟩, hb9⟩
          · have HZ := Lib.hid (HL0.out hq)
            have h9 := H10.out.later hb9
            have H9 := Lib.hid h9
            clear hq hb9 d0 d1 d2 d3 d4 d5 d6 d7 p0 p1 p2 p3 p4 p5 p6 p7
            obtain ⟨y0, y1, y2, y3, y4, y5, y6, y7⟩ := h9.kr.c8
            obtain ⟨f0, f1, f2, f3, f4, f5, f6, f7⟩ := h9.kr.f8
            obtain ⟨s0, s1, s2, s3, s4, s5, s6, s7⟩ := h9.kr.s8
            clear h9
            go_wp2
            exact bodyPost_ret (v := .agg #[.slice none 0 0, .int .i64 0, .int .i64 0, .bool true, .int .i64 0, .string ⟨#[]⟩, .int .i64 0, .int .i64 40]) (by simp [results, Tryz.results58, go_sem, s0, s1, s2, s3, s4, s5, s6, s7]) rfl ⟨none, 0, 0, 0, 0, true, Fo.zero, 40, rfl, fun _ => HZ.out, fun h => (by cases h), H9.out.out _ _ _ _ _ _ _ _⟩
          · have HZ := Lib.hid (HL1.out hq)
            have HQ8 := Lib.hid hq
            have HSP := Lib.hid (spl_len n2.target)
            have h9 := H10.out.later hb9
            have H9 := Lib.hid h9
            have HNN := Lib.hid hn9
            generalize splitP n2.target = sp at HZ HSP HNN
            generalize (if absP n2.target = true then 1 else i) = i9 at HZ ⊢
            clear hq hb9 hn9 d0 d1 d2 d3 d4 d5 d6 d7 p0 p1 p2 p3 p4 p5 p6 p7
            obtain ⟨y0, y1, y2, y3, y4, y5, y6, y7⟩ := h9.kr.c8
            obtain ⟨f0, f1, f2, f3, f4, f5, f6, f7⟩ := h9.kr.f8
            obtain ⟨s0, s1, s2, s3, s4, s5, s6, s7⟩ := h9.kr.s8
            clear h9
            go_wp2
            exact bodyPost_ret (v := .agg #[.slice A9 n9 c9, .int .i64 i9, .int .i64 ((g : Int) + 1), .bool false, .int .i64 0, .string ⟨#[]⟩, .int .i64 0, .int .i64 0]) (by simp [results, Tryz.results58, go_sem, s0, s1, s2, s3, s4, s5, s6, s7]) rfl ⟨A9, n9, c9, i9, g + 1, false, Fo.zero, 0, rfl, fun h => (by cases h), fun _ => ⟨⟨rfl, rfl⟩, sp ++ r, H9.out.names HNN.out _ _ _ _ _ _ _ _, HZ.out, by have := HQ8.out; omega, by have h1 := HSP.out; have h2 := HTL.out; have h3 := HQ8.out; rw [List.length_append, List.length_cons]; omega, by have h1 := HSP.out; have h2 := HTL.out; rw [List.length_append]; omega⟩, H9.out.out _ _ _ _ _ _ _ _⟩
        | false =>
          have HZ := Lib.hid (show wlk t c false (8 - g) (n :: r) i = (⟨i, n, id⟩, 0) from by rw [wlk_last HSR.out HM.out.1 HM.out.2 H12.out (fun q => q.2.elim (fun q => by cases q) (fun q => q HR0.out)) HR0.out, HID.out])
          obtain ⟨y0, y1, y2, y3, y4, y5, y6, y7⟩ := H10.out.kr.c8
          obtain ⟨f0, f1, f2, f3, f4, f5, f6, f7⟩ := H10.out.kr.f8
          obtain ⟨s0, s1, s2, s3, s4, s5, s6, s7⟩ := H10.out.kr.s8
          go_wp2
          exact bodyPost_ret (v := .agg #[.slice none 0 0, .int .i64 0, .int .i64 0, .bool true, .int .i64 i, .string (bA n), .int .i64 id, .int .i64 0]) (by simp [results, Tryz.results58, go_sem, s0, s1, s2, s3, s4, s5, s6, s7]) rfl ⟨none, 0, 0, 0, 0, true, ⟨i, n, id⟩, 0, rfl, fun _ => HZ.out, fun h => (by cases h), H10.out.out _ _ _ _ _ _ _ _⟩
      · have eK : (n2.kind == 3) = false := by simpa using hk
        have HKK := Lib.hid hk
        clear hk
        have HZ := Lib.hid (show wlk t c f (8 - g) (n :: r) i = (⟨i, n, id⟩, 0) from by rw [wlk_last HSR.out HM.out.1 HM.out.2 H12.out (fun q => HKK.out (by have h := q.1; rw [HID.out, HN2.out] at h; exact h)) HR0.out, HID.out])
        obtain ⟨y0, y1, y2, y3, y4, y5, y6, y7⟩ := H10.out.kr.c8
        obtain ⟨f0, f1, f2, f3, f4, f5, f6, f7⟩ := H10.out.kr.f8
        obtain ⟨s0, s1, s2, s3, s4, s5, s6, s7⟩ := H10.out.kr.s8
        go_wp2
        exact bodyPost_ret (v := .agg #[.slice none 0 0, .int .i64 0, .int .i64 0, .bool true, .int .i64 i, .string (bA n), .int .i64 id, .int .i64 0]) (by simp [results, Tryz.results58, go_sem, s0, s1, s2, s3, s4, s5, s6, s7]) rfl ⟨none, 0, 0, 0, 0, true, ⟨i, n, id⟩, 0, rfl, fun _ => HZ.out, fun h => (by cases h), H10.out.out _ _ _ _ _ _ _ _⟩
  have eN : ((N : Int) == 0) = false := by rw [HBN, beq_eq_false_iff_ne]; intro q; exact hr0 (List.length_eq_zero_iff.1 (by omega))
  have HR0 := Lib.hid hr0
  clear hr0 HBN
  by_cases hz : id = 0
  · have eI : (id == 0) = true := by simpa using hz
    have HZ := Lib.hid (show wlk t c f (8 - g) (n :: r) i = (Fo.zero, 2) from wlk_gone HSR.out HM.out.1 HM.out.2 H12.out (by rw [HID.out]; exact hz) HR0.out)
    clear hz
    go_wp2_with fail
    refine (fail_any 2 w8).mono ?_
    rintro e x9 ⟨rfl, hb9⟩
    have h9 := H8.out.later hb9
    have H9 := Lib.hid h9
    clear p0 p1 p2 p3 p4 p5 p6 p7 q0
    obtain ⟨y0, y1, y2, y3, y4, y5, y6, y7⟩ := h9.kr.c8
    obtain ⟨f0, f1, f2, f3, f4, f5, f6, f7⟩ := h9.kr.f8
    obtain ⟨s0, s1, s2, s3, s4, s5, s6, s7⟩ := h9.kr.s8
    clear h9 hb9
    go_wp2
    exact bodyPost_ret (v := .agg #[.slice none 0 0, .int .i64 0, .int .i64 0, .bool true, .int .i64 0, .string ⟨#[]⟩, .int .i64 0, .int .i64 2]) (by simp [results, Tryz.results58, go_sem, s0, s1, s2, s3, s4, s5, s6, s7]) rfl ⟨none, 0, 0, 0, 0, true, Fo.zero, 2, rfl, fun _ => HZ.out, fun h => (by cases h), H9.out.out _ _ _ _ _ _ _ _⟩
  have eI : (id == 0) = false := by simpa using hz
  have HIZ := Lib.hid hz
  clear hz
  go_wp2_with fail
  refine (HG2.out _ H8.out.below).mono ?_
  rintro e w9 ⟨u, rfl, ⟨vn, vk, rfl, hN, hI⟩, hb9⟩
  obtain ⟨A7, k7, rfl⟩ := strs_form hN (nm_len _)
  obtain ⟨A8, k8, rfl⟩ := ints_form hI (idE_len _)
  have h10 := H8.out.later (al hb9 (.cells (rfC n2 (.slice A7 n2.ents.length k7) (.slice A8 n2.ents.length k8)) 82))
  have hx10 := Blk.new w9 82 (rfC n2 (.slice A7 n2.ents.length k7) (.slice A8 n2.ents.length k8))
  unfold refV
  obtain ⟨d', hd'⟩ : ∃ d', w9.heap.size = d' := ⟨_, rfl⟩
  obtain ⟨W10, hW10⟩ : ∃ W10, w9.alloc (.cells (rfC n2 (.slice A7 n2.ents.length k7) (.slice A8 n2.ents.length k8)) 82) = W10 := ⟨_, rfl⟩
  rw [hW10] at h10 hx10
  rw [hd'] at hx10
  have H10 := Lib.hid h10
  clear p0 p1 p2 p3 p4 p5 p6 p7 q0
  obtain ⟨d0, d1, d2, d3, d4, d5, d6, d7⟩ := hx10.c8
  obtain ⟨p0, p1, p2, p3, p4, p5, p6, p7⟩ := h10.ks.c8
  clear hN hI hb9 h10 hx10
  by_cases hk : n2.kind = 3
  · have eK : (n2.kind == 3) = true := by simpa using hk
    have HKK := Lib.hid hk
    clear hk
    have HLK := Lib.hid (link_any n2.target r A2 N c2 i g W10 (HN0.out.below H10.out.below) (by have := target_len HOK.out id; rw [HN2.out] at this; omega) (by omega) hg)
    have HTL := Lib.hid (show n2.target.length ≤ 64 from by rw [← HN2.out]; exact target_len HOK.out id)
    have HL0 := Lib.hid (show g = 8 → wlk t c f (8 - g) (n :: r) i = (Fo.zero, 40) from fun hq => by rw [hq]; exact wlk_loop HSR.out HM.out.1 HM.out.2 H12.out (fun q => HIZ.out (by rw [← HID.out]; exact q.1)) ⟨by rw [HID.out, HN2.out]; exact HKK.out, .inr HR0.out⟩)
    have HL1 := Lib.hid (show g ≠ 8 → wlk t c f (8 - g) (n :: r) i = wlk t c f (8 - (g + 1)) (splitP n2.target ++ r) (if absP n2.target = true then 1 else i) from fun hq => by
      obtain ⟨j, hj⟩ : ∃ j, 8 - g = j + 1 := ⟨7 - g, by omega⟩
      rw [hj, wlk_link HSR.out HM.out.1 HM.out.2 H12.out (fun q => HIZ.out (by rw [← HID.out]; exact q.1)) ⟨by rw [HID.out, HN2.out]; exact HKK.out, .inr HR0.out⟩, HID.out, HN2.out, show 8 - (g + 1) = j by omega])
    go_wp2_with fail
    clear hW10 hd'
    refine HLK.out.mono ?_
    rintro e x9 ⟨⟨hq, rfl⟩ | ⟨hq, A9, n9, c9, rfl, hn9⟩, hb9⟩
    · have HZ := Lib.hid (HL0.out hq)
      have h9 := H10.out.later hb9
      have H9 := Lib.hid h9
      clear hq hb9 d0 d1 d2 d3 d4 d5 d6 d7 p0 p1 p2 p3 p4 p5 p6 p7
      obtain ⟨y0, y1, y2, y3, y4, y5, y6, y7⟩ := h9.kr.c8
      obtain ⟨f0, f1, f2, f3, f4, f5, f6, f7⟩ := h9.kr.f8
      obtain ⟨s0, s1, s2, s3, s4, s5, s6, s7⟩ := h9.kr.s8
      clear h9
      go_wp2
      exact bodyPost_ret (v := .agg #[.slice none 0 0, .int .i64 0, .int .i64 0, .bool true, .int .i64 0, .string ⟨#[]⟩, .int .i64 0, .int .i64 40]) (by simp [results, Tryz.results58, go_sem, s0, s1, s2, s3, s4, s5, s6, s7]) rfl ⟨none, 0, 0, 0, 0, true, Fo.zero, 40, rfl, fun _ => HZ.out, fun h => (by cases h), H9.out.out _ _ _ _ _ _ _ _⟩
    · have HZ := Lib.hid (HL1.out hq)
      have HQ8 := Lib.hid hq
      have HSP := Lib.hid (spl_len n2.target)
      have h9 := H10.out.later hb9
      have H9 := Lib.hid h9
      have HNN := Lib.hid hn9
      generalize splitP n2.target = sp at HZ HSP HNN
      generalize (if absP n2.target = true then 1 else i) = i9 at HZ ⊢
      clear hq hb9 hn9 d0 d1 d2 d3 d4 d5 d6 d7 p0 p1 p2 p3 p4 p5 p6 p7
      obtain ⟨y0, y1, y2, y3, y4, y5, y6, y7⟩ := h9.kr.c8
      obtain ⟨f0, f1, f2, f3, f4, f5, f6, f7⟩ := h9.kr.f8
      obtain ⟨s0, s1, s2, s3, s4, s5, s6, s7⟩ := h9.kr.s8
      clear h9
      go_wp2
      exact bodyPost_ret (v := .agg #[.slice A9 n9 c9, .int .i64 i9, .int .i64 ((g : Int) + 1), .bool false, .int .i64 0, .string ⟨#[]⟩, .int .i64 0, .int .i64 0]) (by simp [results, Tryz.results58, go_sem, s0, s1, s2, s3, s4, s5, s6, s7]) rfl ⟨A9, n9, c9, i9, g + 1, false, Fo.zero, 0, rfl, fun h => (by cases h), fun _ => ⟨⟨rfl, rfl⟩, sp ++ r, H9.out.names HNN.out _ _ _ _ _ _ _ _, HZ.out, by have := HQ8.out; omega, by have h1 := HSP.out; have h2 := HTL.out; have h3 := HQ8.out; rw [List.length_append, List.length_cons]; omega, by have h1 := HSP.out; have h2 := HTL.out; rw [List.length_append]; omega⟩, H9.out.out _ _ _ _ _ _ _ _⟩
  · have eK : (n2.kind == 3) = false := by simpa using hk
    have HW := Lib.hid (show wlk t c f (8 - g) (n :: r) i = wlk t c f (8 - g) r id from by rw [wlk_on HSR.out HM.out.1 HM.out.2 H12.out (by rw [HID.out]; exact HIZ.out) (fun q => hk (by have h := q.1; rw [HID.out, HN2.out] at h; exact h)) HR0.out, HID.out])
    have h11 := H10.out.set1 (.int .i64 id)
    have H11 := Lib.hid h11
    have HNN := Lib.hid ((HN0.out.below H10.out.below).other (grown_setCell W10 ⟨w.heap.size + 1 + 1, 1, none⟩ (.int .i64 id)) H10.out.ks (by decide))
    obtain ⟨x0, x1, x2, x3, x4, x5, x6, x7⟩ := H10.out.ks.f8
    obtain ⟨z0, z1, z2, z3, z4, z5, z6, z7⟩ := h11.ks.c8
    clear hk h11
    obtain ⟨y0, y1, y2, y3, y4, y5, y6, y7⟩ := H11.out.kr.c8
    obtain ⟨f0, f1, f2, f3, f4, f5, f6, f7⟩ := H11.out.kr.f8
    obtain ⟨s0, s1, s2, s3, s4, s5, s6, s7⟩ := H11.out.kr.s8
    go_wp2
    exact bodyPost_ret (v := .agg #[.slice A2 N c2, .int .i64 id, .int .i64 (g : Int), .bool false, .int .i64 0, .string ⟨#[]⟩, .int .i64 0, .int .i64 0]) (by simp [results, Tryz.results58, go_sem, s0, s1, s2, s3, s4, s5, s6, s7]) rfl ⟨A2, N, c2, id, g, false, Fo.zero, 0, rfl, fun h => (by cases h), fun _ => ⟨⟨rfl, rfl⟩, r, H11.out.names HNN.out _ _ _ _ _ _ _ _, HW.out, hg, by rw [List.length_cons]; omega, by omega⟩, H11.out.out _ _ _ _ _ _ _ _⟩
end Go.Proofs.YtfopnfgfoicidaaGreat
namespace Go.Proofs.YtfopnfgfoicidaaGreat
open Go Go.RowKit
set_option maxRecDepth 100000

attribute [local go_sem] cell_off4 cell_blk4
attribute [local go_sem] kind_ofr
theorem who_any (c : Wh) (A0 : Option Addr) (m k : Nat) (w : World) :
    Calls Tryz.prog 12 #[.agg #[.int .i64 c.u, .int .i64 c.g, .slice A0 m k]] w fun e w' => e = .returned (.agg #[.int .i64 c.u, .int .i64 c.g, .slice A0 m k]) ∧ Below w.heap.size w w' := by
  have hb1 := al (ba w (.cells #[.int .i64 c.u, .int .i64 c.g, .slice A0 m k] 25)) (.cells #[.int .i64 0, .int .i64 0, .slice none 0 0] 37)
  have hk1 := (Blk.new w 25 #[.int .i64 c.u, .int .i64 c.g, .slice A0 m k]).alloc (.cells #[.int .i64 0, .int .i64 0, .slice none 0 0] 37)
  have hr1 := Blk.new (w.alloc (.cells #[.int .i64 c.u, .int .i64 c.g, .slice A0 m k] 25)) 37 #[.int .i64 0, .int .i64 0, .slice none 0 0]
  have ez : (w.alloc (.cells #[.int .i64 c.u, .int .i64 c.g, .slice A0 m k] 25)).heap.size = w.heap.size + 1 := by simp
  rw [ez] at hr1
  obtain ⟨W1, hW1⟩ : ∃ W1, (w.alloc (.cells #[.int .i64 c.u, .int .i64 c.g, .slice A0 m k] 25)).alloc (.cells #[.int .i64 0, .int .i64 0, .slice none 0 0] 37) = W1 := ⟨_, rfl⟩
  rw [hW1] at hb1 hk1 hr1
  obtain ⟨p0, p1, p2⟩ := hk1.c3
  obtain ⟨q0, q1, q2⟩ := hr1.c3
  obtain ⟨f0, f1, f2⟩ := hr1.f3
  obtain ⟨s0, s1, s2⟩ := hr1.s3
  have HB := Lib.hid (below_grown hb1 (grown3 W1 (w.heap.size + 1) (.int .i64 c.u) (.int .i64 c.g) (.slice A0 m k)) (Nat.le_succ _))
  clear hb1 hk1 hr1 ez
  go_enter Tryz.func12, Tryz.ntmps12
  go_wp2
  exact bodyPost_ret (v := .agg #[.int .i64 c.u, .int .i64 c.g, .slice A0 m k]) (by simp [results, Tryz.results12, go_sem, s0, s1, s2]) rfl ⟨rfl, HB.out⟩
/-- What is wrong with a path by itself, where node 1 is of some kind. -/
def fitK (kd : Int) (p : Nm) : Int := if p = [] then 2 else if 64 < p.length then 36 else if p.contains 0 = true then 22 else if kd = 0 then 2 else 0
theorem fitK_eq (t : List Nd) (p : Nm) : fitE t p = fitK (tget t 1).kind p := by
  unfold fitE fitK tis
  by_cases h : (tget t 1).kind = 0 <;> simp [h]
set_option maxHeartbeats 4000000 in
theorem rfits_any (A : Option Addr) (n c : Nat) (n0 : Nd) (p : Nm) (w : World) (hp : p.length ≤ 1000000) (HG : ∀ W, Below w.heap.size w W → Calls Tryz.prog 30 #[.agg #[.slice A n c], .int .i64 1] W fun e w' => ∃ u, e = .returned u ∧ NrR w' u n0 ∧ Below W.heap.size W w') :
    Calls Tryz.prog 56 #[.agg #[.slice A n c], .string (bA p)] w fun e w' => e = .returned (.int .i64 (fitK n0.kind p)) ∧ Below w.heap.size w w' := by
  have HB0 := Lib.hid (ba w (.cells #[.slice A n c] 32))
  have HGG := Lib.hid HG
  have HH := Lib.hid (fun W => show Calls Tryz.prog 78 #[.string (bA p), .int .u8 0] W fun e w' => e = .returned (.bool (p.contains 0)) ∧ W = w' from ref_has (bA p) 0 W (by rw [size_bA]; exact hp))
  have hs := size_bA p
  have HE := Lib.hid (show fitK n0.kind p = if p = [] then 2 else if 64 < p.length then 36 else if p.contains 0 = true then 22 else if n0.kind = 0 then 2 else 0 from rfl)
  generalize fitK n0.kind p = E at HE ⊢
  clear HG
  by_cases h1 : p = []
  · have e1 : ((bA p).toList == ([] : List UInt8)) = true := (len0_iff p).2 h1
    have HZ := Lib.hid (show E = 2 by rw [HE.out, if_pos h1])
    clear h1 HE
    go_enter Tryz.func56, Tryz.ntmps56
    go_wp2
    go_ret
    exact ⟨ret_int HZ.out.symm, HB0.out⟩
  have e1 : ((bA p).toList == ([] : List UInt8)) = false := ne_nil_of p h1
  by_cases h64 : 64 < p.length
  · have e2 : ((bA p).size : Int) > 64 := by rw [hs]; omega
    have HZ := Lib.hid (show E = 36 by rw [HE.out, if_neg h1, if_pos h64])
    clear h1 h64 HE
    go_enter Tryz.func56, Tryz.ntmps56
    go_wp2
    go_ret
    exact ⟨ret_int HZ.out.symm, HB0.out⟩
  have e2 : ¬ ((bA p).size : Int) > 64 := by rw [hs]; omega
  cases hc : p.contains 0 with
  | true =>
    have HZ := Lib.hid (show E = 22 by rw [HE.out, if_neg h1, if_neg h64, if_pos hc])
    rw [hc] at HH
    clear h1 h64 HE hc
    go_enter Tryz.func56, Tryz.ntmps56
    go_wp2_with fail
    refine (HH.out _).mono ?_
    rintro e w1 ⟨rfl, rfl⟩
    go_wp2
    go_ret
    exact ⟨ret_int HZ.out.symm, HB0.out⟩
  | false =>
    have HZ := Lib.hid (show E = if n0.kind = 0 then 2 else 0 by rw [HE.out, if_neg h1, if_neg h64, if_neg (by rw [hc]; decide)])
    rw [hc] at HH
    clear h1 h64 HE hc
    go_enter Tryz.func56, Tryz.ntmps56
    go_wp2_with fail
    refine (HH.out _).mono ?_
    rintro e w1 ⟨rfl, rfl⟩
    go_wp2_with fail
    refine (HGG.out _ HB0.out).mono ?_
    rintro e w2 ⟨u, rfl, ⟨vn, vk, rfl, -, -⟩, hb2⟩
    have HB2 := Lib.hid (bt hb2 HB0.out)
    unfold refV
    clear hb2
    by_cases h0 : n0.kind = 0
    · have e3 : (n0.kind == 0) = true := by simpa using h0
      have HZ2 := Lib.hid (show E = 2 by rw [HZ.out, if_pos h0])
      clear h0
      go_wp2
      go_ret
      exact ⟨ret_int HZ2.out.symm, HB2.out⟩
    · have e3 : (n0.kind == 0) = false := by simpa using h0
      have HZ2 := Lib.hid (show E = 0 by rw [HZ.out, if_neg h0])
      clear h0
      go_wp2
      go_ret
      exact ⟨ret_int HZ2.out.symm, HB2.out⟩
end Go.Proofs.YtfopnfgfoicidaaGreat
namespace Go.Proofs.YtfopnfgfoicidaaGreat
open Go Go.RowKit
set_option maxRecDepth 100000

set_option maxRecDepth 100000 in
set_option maxHeartbeats 8000000 in
theorem ref_splitT (p : ByteArray) (w : World) (hp : p.size ≤ 1000000) :
    Calls Tryz.prog 57 #[.string p] w fun e w' => ∃ v, e = .returned (.tuple #[.bool (absP (tl p)), v]) ∧ StrsT w' v (bAs (splitP (tl p))) ∧ Below w.heap.size w w' := by
  have HN := Lib.hid (ref_names p w hp)
  have HA := Lib.hid (fun w1 => ref_abs p w1)
  have HSP := Lib.hid (show splitP (tl p) = if nms (tl p) ≠ [] ∧ (tl p).getLast? = some 47 then nms (tl p) ++ [[46]] else nms (tl p) from rfl)
  have HPOS := Lib.hid (fun h => pos_of_nms (p := p) h)
  have hnl := nms_len (tl p)
  rw [tl_len] at hnl
  have hbl := bAs_len (nms (tl p))
  generalize nms (tl p) = ns at HN HSP HPOS hnl hbl
  generalize splitP (tl p) = R at HSP ⊢
  generalize absP (tl p) = ap at HA ⊢
  by_cases h0 : 0 < ns.length
  · have hps := HPOS.out h0
    have hne : ¬ ns = [] := by intro e; rw [e] at h0; exact absurd h0 (by decide)
    have h0' : (0 : Int) < (ns.length : Int) := by omega
    obtain ⟨m, hm⟩ : ∃ m, p.size = m + 1 := ⟨p.size - 1, by omega⟩
    have hml : m < p.size := by omega
    have hla := plast_at hm hml
    obtain ⟨b, hb⟩ : ∃ b, p[m] = b := ⟨_, rfl⟩
    rw [hb] at hla
    have hi : ((p.size : Int) - 1) = (m : Int) := by omega
    by_cases hl : b = 47
    · subst hl
      rw [if_pos ⟨hne, hla⟩] at HSP
      have HR := Lib.hid (show bAs R = bAs ns ++ [⟨#[46]⟩] by rw [HSP.out, bAs_snoc]; rfl)
      clear hla hne HSP
      go_enter Tryz.func57, Tryz.ntmps57
      go_wp2_with fail
      refine HN.out.mono ?_
      rintro e w2 ⟨v, rfl, ho, hb2⟩
      have HO := Lib.hid ho
      have HB2 := Lib.hid hb2
      obtain ⟨A, c, rfl⟩ := own_slice ho
      clear ho hb2 HN
      go_wp2_with (first | (at_builtin; refine wpList_append_one rfl (.tmp 18) (.tmp 19) _ rfl w.heap.size 9 _ 1 16 Tryz.underlying80 info_str rfl (by decide) (.slice A (bAs ns).length c) (bAs ns).length (sCells (bAs ns)) (by first | rfl | (rw [hbl]; rfl)) w2 [.string ⟨#[46]⟩] rfl (str_one _) HO.out rfl (by omega) (by omega) HB2.out.size ?_; intro v5 w5 ho hg; obtain ⟨A5, c5, hv5, ho5, hb5⟩ := app_one HB2.out HB2.out.size HO.out ho hg; subst hv5; have HO5 := Lib.hid ho5; have HB5 := Lib.hid hb5; clear ho hg ho5 hb5) | fail)
      refine (HA.out _).mono ?_
      rintro e w' ⟨rfl, rfl⟩
      go_wp2
      go_ret2
      exact ⟨_, rfl, by rw [HR.out]; have h := StrsT.of_own HO5.out; rw [hbl] at h; exact h, HB5.out⟩
    · have hqb : ((b.toNat : Int) == 47) = false := co_ne (a := b) (b := 47) hl
      rw [if_neg (fun e => hl (by have h := e.2; rw [hla] at h; injection h))] at HSP
      clear hla hne hl
      go_enter Tryz.func57, Tryz.ntmps57
      go_wp2_with fail
      refine HN.out.mono ?_
      rintro e w2 ⟨v, rfl, ho, hb2⟩
      have HO := Lib.hid ho
      have HB2 := Lib.hid hb2
      obtain ⟨A, c, rfl⟩ := own_slice ho
      clear ho hb2 HN
      go_wp2_with fail
      refine (HA.out _).mono ?_
      rintro e w' ⟨rfl, rfl⟩
      go_wp2
      go_ret2
      exact ⟨_, rfl, by rw [HSP.out]; have h := StrsT.of_own HO.out; first | exact h | (rw [hbl] at h; exact h), HB2.out⟩
  · have hn0 : ns.length = 0 := by omega
    have hns : ns = [] := List.eq_nil_of_length_eq_zero hn0
    rw [if_neg (fun e => e.1 hns)] at HSP
    rw [hn0] at hbl
    clear hns h0
    go_enter Tryz.func57, Tryz.ntmps57
    go_wp2_with fail
    refine HN.out.mono ?_
    rintro e w2 ⟨v, rfl, ho, hb2⟩
    have HO := Lib.hid ho
    have HB2 := Lib.hid hb2
    obtain ⟨A, c, rfl⟩ := own_slice ho
    clear ho hb2 HN
    go_wp2_with fail
    refine (HA.out _).mono ?_
    rintro e w' ⟨rfl, rfl⟩
    go_wp2
    go_ret2
    exact ⟨_, rfl, by rw [HSP.out]; have h := StrsT.of_own HO.out; first | exact h | (rw [hbl] at h; exact h), HB2.out⟩

attribute [local go_sem] cell_off4 cell_blk4
attribute [local go_sem] kind_ofr
/-- The boxes of Resolve. -/
structure RrB (w W : World) (v : Value) (c : Wh) (A0 : Option Addr) (m k : Nat) : Prop where
  kt : Blk W w.heap.size 32 #[v]
  kc : Blk W (w.heap.size + 1) 37 #[.int .i64 c.u, .int .i64 c.g, .slice A0 m k]
  kr : Blk W (w.heap.size + 1 + 1) 76 #[.int .i64 0, .string ⟨#[]⟩, .int .i64 0]
  below : Below w.heap.size w W
section
variable {w W W' : World} {v : Value} {c : Wh} {A0 : Option Addr} {m k S : Nat} {sv : Array Value}
theorem RrB.later (h : RrB w W v c A0 m k) (hb : Below W.heap.size W W') : RrB w W' v c A0 m k := ⟨h.kt.below hb, h.kc.below hb, h.kr.below hb, bt hb h.below⟩
theorem RrB.put (h : RrB w W v c A0 m k) (ks : Blk W S 117 sv) (hS : w.heap.size ≤ S) (u0 u1 u2 u3 u4 u5 u6 u7 : Value) : RrB w (put8 W S u0 u1 u2 u3 u4 u5 u6 u7) v c A0 m k :=
  have hg := grown8 W S u0 u1 u2 u3 u4 u5 u6 u7
  ⟨h.kt.kept hg (some_ne (blk_ne h.kt ks (by decide))), h.kc.kept hg (some_ne (blk_ne h.kc ks (by decide))), h.kr.kept hg (some_ne (blk_ne h.kr ks (by decide))), below_grown h.below hg hS⟩
theorem RrB.out (h : RrB w W v c A0 m k) (u0 u1 u2 : Value) : Below w.heap.size w (put3 W (w.heap.size + 1 + 1) u0 u1 u2) := below_grown h.below (grown3 W _ u0 u1 u2) (show w.heap.size ≤ w.heap.size + 1 + 1 by omega)
theorem rr_start (w : World) (v : Value) (c : Wh) (A0 : Option Addr) (m k : Nat) : RrB w (((w.alloc (.cells #[v] 32)).alloc (.cells #[.int .i64 c.u, .int .i64 c.g, .slice A0 m k] 37)).alloc (.cells #[.int .i64 0, .string ⟨#[]⟩, .int .i64 0] 76)) v c A0 m k := by
  have b1 := ba w (.cells #[v] 32)
  have k1 := Blk.new w 32 #[v]
  have e1 : (w.alloc (.cells #[v] 32)).heap.size = w.heap.size + 1 := by simp
  generalize w.alloc (.cells #[v] 32) = x1 at b1 k1 e1 ⊢
  have b2 := ba x1 (.cells #[.int .i64 c.u, .int .i64 c.g, .slice A0 m k] 37)
  have k2 := Blk.new x1 37 #[.int .i64 c.u, .int .i64 c.g, .slice A0 m k]
  have e2 : (x1.alloc (.cells #[.int .i64 c.u, .int .i64 c.g, .slice A0 m k] 37)).heap.size = w.heap.size + 1 + 1 := by simp [e1]
  rw [e1] at k2
  generalize x1.alloc (.cells #[.int .i64 c.u, .int .i64 c.g, .slice A0 m k] 37) = x2 at b2 k2 e2 ⊢
  have b3 := ba x2 (.cells #[.int .i64 0, .string ⟨#[]⟩, .int .i64 0] 76)
  have k3 := Blk.new x2 76 #[.int .i64 0, .string ⟨#[]⟩, .int .i64 0]
  rw [e2] at k3
  exact ⟨(k1.below b2).below b3, k2.below b3, k3, bt b3 (bt b2 b1)⟩
end
/-- Resolve where the path itself isn't fit. -/
theorem rres_bad (A : Option Addr) (nT cT : Nat) (n0 : Nd) (c : Wh) (A0 : Option Addr) (m k : Nat) (p : Nm) (f : Bool) (w : World) (hp : p.length ≤ 1000000) (HG : ∀ W, Below w.heap.size w W → Calls Tryz.prog 30 #[.agg #[.slice A nT cT], .int .i64 1] W fun e w' => ∃ u, e = .returned u ∧ NrR w' u n0 ∧ Below W.heap.size W w') (hq : fitK n0.kind p ≠ 0) :
    Calls Tryz.prog 28 #[.agg #[.slice A nT cT], .agg #[.int .i64 c.u, .int .i64 c.g, .slice A0 m k], .string (bA p), .bool f] w fun e w' => e = .returned (.tuple #[.agg #[.int .i64 0, .string ⟨#[]⟩, .int .i64 0], .int .i64 (fitK n0.kind p)]) ∧ Below w.heap.size w w' := by
  have h3 := rr_start w (.slice A nT cT) c A0 m k
  obtain ⟨W3, hW3⟩ : ∃ W3, (((w.alloc (.cells #[.slice A nT cT] 32)).alloc (.cells #[.int .i64 c.u, .int .i64 c.g, .slice A0 m k] 37)).alloc (.cells #[.int .i64 0, .string ⟨#[]⟩, .int .i64 0] 76)) = W3 := ⟨_, rfl⟩
  rw [hW3] at h3
  have H3 := Lib.hid h3
  have HF := Lib.hid (rfits_any A nT cT n0 p W3 hp (fun W hb => HG W (bt hb h3.below)))
  have q0 : W3.cell? ⟨w.heap.size, 0, none⟩ = some (.slice A nT cT) := h3.kt.cell 0
  generalize fitK n0.kind p = E at HF hq ⊢
  have q1 : (E != 0) = true := by simpa using hq
  clear h3 HG hq
  go_enter Tryz.func28, Tryz.ntmps28
  go_wp2_with fail
  clear hW3
  refine HF.out.mono ?_
  rintro e w4 ⟨rfl, hb4⟩
  have h4 := H3.out.later hb4
  have H4 := Lib.hid h4
  obtain ⟨p0, p1, p2⟩ := h4.kr.c3
  obtain ⟨f0, f1, f2⟩ := h4.kr.f3
  obtain ⟨s0, s1, s2⟩ := h4.kr.s3
  clear q0 h4 hb4
  go_wp2
  exact bodyPost_ret (v := .tuple #[.agg #[.int .i64 0, .string ⟨#[]⟩, .int .i64 0], .int .i64 E]) (by simp [results, Tryz.results28, go_sem, s0, s1, s2]) rfl ⟨rfl, H4.out.out _ _ _⟩
set_option maxHeartbeats 8000000 in
theorem rres_any {P : Nat → Prop} (v : Value) (t : List Nd) (c : Wh) (A0 : Option Addr) (m k : Nat) (p : Nm) (f : Bool) (w : World) (h : NsR P w v t) (hl : t.length ≤ 24) (ho : okT t) (hc : CrR w c A0 m k) (hp : p.length ≤ 1000) (X : Fo × Int) (hX : resM t c p f = X) :
    Calls Tryz.prog 28 #[.agg #[v], .agg #[.int .i64 c.u, .int .i64 c.g, .slice A0 m k], .string (bA p), .bool f] w fun e w' => e = .returned (.tuple #[.agg #[.int .i64 X.1.dir, .string (bA X.1.name), .int .i64 X.1.node], .int .i64 X.2]) ∧ Below w.heap.size w w' := by
  obtain ⟨g0, k0, rfl⟩ := ns_form h
  have HG := fun W (hb : Below w.heap.size w W) => rget_any _ t 1 W (h.below hb) hl
  have hX' : (if fitE t p ≠ 0 then (Fo.zero, fitE t p) else wlk t c f 8 (splitP p) 1) = X := hX
  rw [fitK_eq] at hX'
  by_cases hq : fitK (tget t 1).kind p ≠ 0
  · rw [if_pos hq] at hX'
    subst hX'
    exact rres_bad _ _ _ _ c A0 m k p f w (by omega) HG hq
  rw [if_neg hq] at hX'
  replace hq : fitK (tget t 1).kind p = 0 := Classical.byContradiction hq
  have h3 := rr_start w (.slice (some ⟨g0, 0, none⟩) t.length k0) c A0 m k
  obtain ⟨W3, hW3⟩ : ∃ W3, (((w.alloc (.cells #[.slice (some ⟨g0, 0, none⟩) t.length k0] 32)).alloc (.cells #[.int .i64 c.u, .int .i64 c.g, .slice A0 m k] 37)).alloc (.cells #[.int .i64 0, .string ⟨#[]⟩, .int .i64 0] 76)) = W3 := ⟨_, rfl⟩
  rw [hW3] at h3
  have H3 := Lib.hid h3
  have HF := Lib.hid (rfits_any (some ⟨g0, 0, none⟩) t.length k0 _ p W3 (by omega) (fun W hb => HG W (bt hb h3.below)))
  have q0 : W3.cell? ⟨w.heap.size, 0, none⟩ = some (.slice (some ⟨g0, 0, none⟩) t.length k0) := h3.kt.cell 0
  rw [hq] at HF
  have HS := Lib.hid (fun W => ref_splitT (bA p) W (by rw [size_bA]; omega))
  rw [tl_bA] at HS
  have HSL := Lib.hid (spl_len p)
  have HWK := Lib.hid hX'
  have HNS := Lib.hid h
  have HOK := Lib.hid ho
  have HCR := Lib.hid hc
  generalize splitP p = S at HS HSL HWK
  generalize absP p = ap at HS
  clear h3 HG hq hX hX' h ho hc
  go_enter Tryz.func28, Tryz.ntmps28
  go_wp2_with fail
  clear hW3
  refine HF.out.mono ?_
  rintro e w4 ⟨rfl, hb4⟩
  have H4 := Lib.hid (H3.out.later hb4)
  clear q0 hb4 HF H3
  go_wp2_with fail
  refine (HS.out w4).mono ?_
  rintro e w5 ⟨v5, rfl, hn5, hb5⟩
  obtain ⟨A5, c5, rfl⟩ := strs_form hn5.1 (bAs_len S)
  have h5 := H4.out.later hb5
  have ks6 := Blk.new w5 117 #[.slice A5 S.length c5, .int .i64 1, .int .i64 0, .bool false, .int .i64 0, .string ⟨#[]⟩, .int .i64 0, .int .i64 0]
  have h6 := h5.later (ba w5 (.cells #[.slice A5 S.length c5, .int .i64 1, .int .i64 0, .bool false, .int .i64 0, .string ⟨#[]⟩, .int .i64 0, .int .i64 0] 117))
  have hn6 := hn5.below (ba w5 (.cells #[.slice A5 S.length c5, .int .i64 1, .int .i64 0, .bool false, .int .i64 0, .string ⟨#[]⟩, .int .i64 0, .int .i64 0] 117))
  have H6 := Lib.hid (And.intro h6 (And.intro hn6 (And.intro ks6 h5.below.size)))
  clear h5 h6 hn6 ks6 hn5 hb5 H4 HS
  go_wp2
  generalize w5.heap.size = B at H6 ⊢
  have HSl := Lib.hid (show S.length ≤ 1002 by have := HSL.out; omega)
  clear HSL
  go_loopg [] (8000 + S.length + 1) (fun gh wr => ∃ (Av : Option Addr) (nv cv : Nat) (i : Int) (g : Nat) (dn : Bool) (F : Fo) (E : Int), RrB w wr (.slice (some ⟨g0, 0, none⟩) t.length k0) c A0 m k ∧ Blk wr B 117 #[.slice Av nv cv, .int .i64 i, .int .i64 (g : Int), .bool dn, .int .i64 F.dir, .string (bA F.name), .int .i64 F.node, .int .i64 E] ∧ w.heap.size ≤ B ∧ (dn = true → (F, E) = X ∧ gh = 0) ∧ (dn = false → (F = Fo.zero ∧ E = 0) ∧ ∃ l : List Nm, nv = l.length ∧ StrsT wr (.slice Av nv cv) (bAs l) ∧ wlk t c f (8 - g) l i = X ∧ g ≤ 8 ∧ l.length ≤ 1002 + 66 * g ∧ gh = (8 - g) * 1000 + l.length + 1))
  case atStart =>
    have h1 := HSl.out
    exact ⟨_, _, _, 1, 0, false, Fo.zero, 0, H6.out.1, H6.out.2.2.1, H6.out.2.2.2, fun h => (by cases h), fun _ => ⟨⟨rfl, rfl⟩, S, rfl, H6.out.2.1, HWK.out, by omega, by omega, by omega⟩⟩
  case round =>
    clear H6 HSl HWK
    obtain ⟨Av, nv, cv, i, g, dn, F, E, hR, hk, hB, hd, hu⟩ := hrel
    have HR := Lib.hid hR
    have HK := Lib.hid hk
    have HBB := Lib.hid hB
    have HU := Lib.hid hu
    have HD := Lib.hid hd
    have q0 : wr.cell? ⟨w.heap.size, 0, none⟩ = some (.slice (some ⟨g0, 0, none⟩) t.length k0) := hR.kt.cell 0
    obtain ⟨r0, r1, r2⟩ := hR.kc.c3
    obtain ⟨x0, x1, x2⟩ := hR.kr.c3
    obtain ⟨z0, z1, z2⟩ := hR.kr.f3
    obtain ⟨u0, u1, u2⟩ := hR.kr.s3
    obtain ⟨y0, y1, y2, y3, y4, y5, y6, y7⟩ := hk.c8
    clear hd hu hR hk hB
    cases dn with
    | true =>
      have HX := Lib.hid (HD.out rfl).1
      by_cases qn : nv = 0
      · have en : ¬ (nv : Int) > 0 := by omega
        clear qn
        go_wp2
        have HRd := Lib.hid (HR.out.later (Below.refl _ _).drew)
        have HKd := Lib.hid (HK.out.below ((Below.refl _ _).drew : Below wr.heap.size wr wr.drew))
        have hkp : Blk (((wr.setCell ⟨w.heap.size + 1 + 1, 0, none⟩ (.int .i64 F.dir)).setCell ⟨w.heap.size + 1 + 1, 1, none⟩ (.string (bA F.name))).setCell ⟨w.heap.size + 1 + 1, 2, none⟩ (.int .i64 F.node)) B 117 _ := HK.out.kept (grown3 wr (w.heap.size + 1 + 1) (.int .i64 F.dir) (.string (bA F.name)) (.int .i64 F.node)) (some_ne (blk_ne HK.out HR.out.kr (by decide)))
        obtain ⟨-, -, -, -, m4, m5, m6, m7⟩ := hkp.c8
        clear hkp q0 r0 r1 r2 y0 y1 y2 y3 y4 y5 y6 y7
        obtain ⟨-, -, -, -, y4, y5, y6, y7⟩ := HKd.out.c8
        go_region_held3 (fun w' => w'.cell? ⟨B, 4, none⟩ = some (.int .i64 F.dir) ∧ w'.cell? ⟨B, 5, none⟩ = some (.string (bA F.name)) ∧ w'.cell? ⟨B, 6, none⟩ = some (.int .i64 F.node) ∧ w'.cell? ⟨B, 7, none⟩ = some (.int .i64 E))
          (first | (with_reducible exact ⟨y4, y5, y6, y7⟩) | exact ⟨m4, m5, m6, m7⟩)
          (fail)
        all_goals (
          go_wp2
          exact bodyPost_ret (v := .tuple #[.agg #[.int .i64 F.dir, .string (bA F.name), .int .i64 F.node], .int .i64 E]) (by simp [results, Tryz.results28, go_sem, u0, u1, u2]) rfl ⟨by rw [← HX.out], by first | exact HR.out.out _ _ _ | exact (HR.out.out _ _ _).drew | exact HRd.out.out _ _ _⟩)
      · have en : (nv : Int) > 0 := by omega
        clear qn
        go_wp2
        have HRd := Lib.hid (HR.out.later (Below.refl _ _).drew)
        have HKd := Lib.hid (HK.out.below ((Below.refl _ _).drew : Below wr.heap.size wr wr.drew))
        have hkp : Blk (((wr.setCell ⟨w.heap.size + 1 + 1, 0, none⟩ (.int .i64 F.dir)).setCell ⟨w.heap.size + 1 + 1, 1, none⟩ (.string (bA F.name))).setCell ⟨w.heap.size + 1 + 1, 2, none⟩ (.int .i64 F.node)) B 117 _ := HK.out.kept (grown3 wr (w.heap.size + 1 + 1) (.int .i64 F.dir) (.string (bA F.name)) (.int .i64 F.node)) (some_ne (blk_ne HK.out HR.out.kr (by decide)))
        obtain ⟨-, -, -, -, m4, m5, m6, m7⟩ := hkp.c8
        clear hkp q0 r0 r1 r2 y0 y1 y2 y3 y4 y5 y6 y7
        obtain ⟨-, -, -, -, y4, y5, y6, y7⟩ := HKd.out.c8
        go_region_held3 (fun w' => w'.cell? ⟨B, 4, none⟩ = some (.int .i64 F.dir) ∧ w'.cell? ⟨B, 5, none⟩ = some (.string (bA F.name)) ∧ w'.cell? ⟨B, 6, none⟩ = some (.int .i64 F.node) ∧ w'.cell? ⟨B, 7, none⟩ = some (.int .i64 E))
          (first | (with_reducible exact ⟨y4, y5, y6, y7⟩) | exact ⟨m4, m5, m6, m7⟩)
          (fail)
        all_goals (
          go_wp2
          exact bodyPost_ret (v := .tuple #[.agg #[.int .i64 F.dir, .string (bA F.name), .int .i64 F.node], .int .i64 E]) (by simp [results, Tryz.results28, go_sem, u0, u1, u2]) rfl ⟨by rw [← HX.out], by first | exact HR.out.out _ _ _ | exact (HR.out.out _ _ _).drew | exact HRd.out.out _ _ _⟩)
    | false =>
      obtain ⟨⟨hF, hE⟩, l, hnl, hln, hw, hg, hll, hgh⟩ := HU.out rfl
      subst hF hE hnl hgh
      have HLN := Lib.hid hln
      have HW := Lib.hid hw
      clear hln hw HU HD
      cases l with
      | nil =>
        have HX := Lib.hid (show ((⟨i, [], i⟩ : Fo), (0 : Int)) = X from by rw [← HW.out, wlk_nil])
        go_wp2
        exact bodyPost_ret (v := .tuple #[.agg #[.int .i64 i, .string ⟨#[]⟩, .int .i64 i], .int .i64 0]) (by simp [results, Tryz.results28, go_sem, u0, u1, u2]) rfl ⟨by rw [← HX.out]; rfl, HR.out.out _ _ _⟩
      | cons n r =>
        have hlr : r.length + 1 ≤ 1002 + 66 * g := by simpa using hll
        have en : ((n :: r).length : Int) > 0 := by rw [List.length_cons]; omega
        have HTK := Lib.hid (take_any (.slice (some ⟨g0, 0, none⟩) t.length k0) t c A0 m k Av (n :: r).length cv n r i g f wr (HNS.out.below HR.out.below) hl HOK.out (HCR.out.below HR.out.below) HLN.out hg hlr)
        obtain ⟨N, hN⟩ : ∃ N, (n :: r).length = N := ⟨_, rfl⟩
        simp only [hN] at HTK en HK y0 ⊢
        have HN := Lib.hid hN
        clear hN hll HLN z0 z1 z2 u0 u1 u2 x0 x1 x2
        go_wp2_with fail
        refine HTK.out.mono ?_
        rintro e w7 ⟨A7, n7, c7, i7, g7, d7, F7, E7, rfl, hd7, hu7, hb7⟩
        have HR7 := Lib.hid (HR.out.later hb7)
        have HK7 := Lib.hid (HK.out.below hb7)
        have HD7 := Lib.hid hd7
        have HU7 := Lib.hid hu7
        clear q0 r0 r1 r2 y0 y1 y2 y3 y4 y5 y6 y7 hb7 hd7 hu7
        obtain ⟨y0, y1, y2, y3, y4, y5, y6, y7⟩ := HK7.out.c8
        obtain ⟨f0, f1, f2, f3, f4, f5, f6, f7⟩ := HK7.out.f8
        obtain ⟨s0, s1, s2, s3, s4, s5, s6, s7⟩ := HK7.out.s8
        have HRN := Lib.hid (HR7.out.put HK7.out HBB.out (.slice A7 n7 c7) (.int .i64 i7) (.int .i64 (g7 : Int)) (.bool d7) (.int .i64 F7.dir) (.string (bA F7.name)) (.int .i64 F7.node) (.int .i64 E7))
        have HKN := Lib.hid (HK7.out.put8 (.slice A7 n7 c7) (.int .i64 i7) (.int .i64 (g7 : Int)) (.bool d7) (.int .i64 F7.dir) (.string (bA F7.name)) (.int .i64 F7.node) (.int .i64 E7))
        go_wp2
        cases d7 with
        | true =>
          go_roundg 0
          case measure => omega
          case rel => exact ⟨_, _, _, i7, g7, true, F7, E7, HRN.out, HKN.out, HBB.out, fun _ => ⟨by rw [← HW.out]; exact (HD7.out rfl).symm, rfl⟩, fun h => (by cases h)⟩
        | false =>
          obtain ⟨⟨rfl, rfl⟩, l', hn', hw', hg', hm', hl'⟩ := HU7.out rfl
          have e7 : n7 = l'.length := by rw [← bAs_len l']; exact (strs_len hn'.1).symm
          have hm2 : (8 - g7) * 1000 + l'.length + 1 < (8 - g) * 1000 + (n :: r).length + 1 := by omega
          go_roundg ((8 - g7) * 1000 + l'.length + 1)
          case measure => have h1 := HN.out; omega
          case rel => exact ⟨_, _, _, i7, g7, false, Fo.zero, 0, HRN.out, HKN.out, HBB.out, fun h => (by cases h), fun _ => ⟨⟨rfl, rfl⟩, l', e7, hn'.other (grown8 _ _ _ _ _ _ _ _ _ _) HK7.out (by decide), by rw [← hw']; exact HW.out, hg', hl', rfl⟩⟩
end Go.Proofs.YtfopnfgfoicidaaGreat
