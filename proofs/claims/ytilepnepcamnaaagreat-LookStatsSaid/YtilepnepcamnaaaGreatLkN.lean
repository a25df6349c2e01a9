/-
  A directory's names, where they rise: cmp.Less, slices.Sort and slices.Compact of texts that rise, Names. The conditions: there are 12 entries at most, and no text is longer than a thousand.
-/
import Derived.Test.YtilepnepcamnaaaGreatMC
import Derived.Test.YtilepnepcamnaaaGreatShelf
namespace Go.Proofs.YtilepnepcamnaaaGreat
open Go Go.RowKit

theorem nan_any (a : Nm) (w : World) : Calls Tryz.prog 138 #[.string (bA a)] w fun e w' => e = .returned (.bool false) ∧ w = w' := by
  have q : ((bA a).toList != (bA a).toList) = false := by simp
  go_enter Tryz.func138, Tryz.ntmps138
  go_wp2
  go_ret
  exact ⟨rfl, rfl⟩
theorem nless_any (a b : Nm) (w : World) : Calls Tryz.prog 110 #[.string (bA a), .string (bA b)] w fun e w' => e = .returned (.bool (lss a b)) ∧ w = w' := by
  have HN := Lib.hid (nan_any a w)
  have HX := Lib.hid (show Op.bytesLess (bA a).toList (bA b).toList = lss a b by rw [bA_list, bA_list])
  go_enter Tryz.func110, Tryz.ntmps110
  go_wp2_with fail
  refine HN.out.mono ?_
  rintro e w' ⟨rfl, rfl⟩
  go_wp2
  go_ret
  exact ⟨ret_bool HX.out, rfl⟩
theorem nless_false (a b : Nm) (w : World) (h : lss b a = true) : Calls Tryz.prog 110 #[.string (bA a), .string (bA b)] w fun e w' => e = .returned (.bool false) ∧ w = w' := by
  have := nless_any a b w
  rw [lss_asymm h] at this
  exact this
set_option maxRecDepth 100000 in
set_option maxHeartbeats 4000000 in
theorem isort_any (v : Value) (ns : List Nm) (w : World) (hR : StrsR w v (nmA ns)) (hr : rise ns) (hn : ns.length ≤ 12) :
    Calls Tryz.prog 104 #[v, .int .i64 0, .int .i64 (ns.length : Int)] w fun e w' => e = .returned (.tuple #[]) ∧ Below w.heap.size w w' := by
  obtain ⟨A, c, rfl⟩ := strs_form hR (nmA_len ns)
  have HR := Lib.hid hR
  have HA := Lib.hid (adj_rise hr)
  clear hR hr
  go_enter Tryz.func104, Tryz.ntmps104
  go_wp2
  go_loopg [6] (ns.length - 1) (fun g s6 wr => ∃ k : Nat, s6 = .int .i64 k ∧ 1 ≤ k ∧ g = ns.length - k ∧ Below w.heap.size w wr)
  case atStart => exact ⟨1, rfl, Nat.le_refl _, rfl, Below.refl _ _⟩
  case round =>
    obtain ⟨k, rfl, hk, hg, hbr⟩ := hrel
    have HB := Lib.hid hbr
    clear hbr
    by_cases hlt : k < ns.length
    · have hlt' : (k : Int) < (ns.length : Int) := by omega
      obtain ⟨j, hj⟩ : ∃ j, j = k - 1 := ⟨_, rfl⟩
      obtain ⟨x, hx⟩ : ∃ x, ns[k]? = some x := ⟨_, List.getElem?_eq_getElem hlt⟩
      obtain ⟨y, hy⟩ : ∃ y, ns[j]? = some y := ⟨_, List.getElem?_eq_getElem (by omega)⟩
      obtain ⟨ad, rfl, c0⟩ := strs_get HR.out (nmA_at hx)
      obtain ⟨ad', hA', c1⟩ := strs_get HR.out (nmA_at hy)
      injection hA' with hA'
      subst hA'
      have HL := Lib.hid (HA.out j y x hy (by rw [show j + 1 = k by omega]; exact hx))
      have kj1 : (k : Int) - 1 = (j : Int) := by omega
      have kj2 : IntKind.i64.wrap ((k : Int) - 1) = (j : Int) := by rw [IntKind.wrap_i64]; omega
      have kj5 : IntKind.i64.wrap (j : Int) = (j : Int) := by rw [IntKind.wrap_i64]; omega
      have kj3 : (j : Int) < (ns.length : Int) := by omega
      have kj4 : j < ns.length := by omega
      have hk0 : decide (0 < k) = true := by simp; omega
      have hk1 : (0 : Int) < (k : Int) := by omega
      clear hj hx hy
      go_wp2
      go_loopg [7] 0 (fun _ s7 wq => s7 = .int .i64 (k : Int) ∧ Below w.heap.size w wq)
      case atStart => exact ⟨rfl, HB.out⟩
      case round =>
        obtain ⟨rfl, hbq⟩ := hrel
        have d0 := bc hbq c0
        have d1 := bc hbq c1
        have HBQ := Lib.hid hbq
        clear hbq c0 c1
        go_wp2
        go_quiet ((go_at_call 110; refine Calls.quiet_of_same ((nless_false x y _ HL.out).mono fun _ _ h => ⟨h.1, h.2.symm⟩)))
        go_wp2
        go_roundg (ns.length - (k + 1))
        case measure => omega
        case rel => exact ⟨k + 1, by go_num, by omega, rfl, bdN HBQ.out _⟩
    · have hlt' : ¬ (k : Int) < (ns.length : Int) := by omega
      go_wp2
      go_end0
      exact ⟨rfl, HB.out⟩
set_option maxRecDepth 100000 in
set_option maxHeartbeats 4000000 in
theorem pdq_any (v : Value) (ns : List Nm) (lim : Int) (w : World) (hR : StrsR w v (nmA ns)) (hr : rise ns) (hn : ns.length ≤ 12) :
    Calls Tryz.prog 84 #[v, .int .i64 0, .int .i64 (ns.length : Int), .int .i64 lim] w fun e w' => e = .returned (.tuple #[]) ∧ Below w.heap.size w w' := by
  have HI := Lib.hid (isort_any v ns w hR hr hn)
  obtain ⟨A, c, rfl⟩ := strs_form hR (nmA_len ns)
  have q1 : (ns.length : Int) ≤ 12 := by omega
  clear hR hr
  go_enter Tryz.func84, Tryz.ntmps84
  go_wp2
  go_loopg [1, 2] 0 (fun _ s1 s2 wr => s1 = .int .i64 0 ∧ s2 = .int .i64 (ns.length : Int) ∧ w = wr)
  case atStart => exact ⟨rfl, rfl, rfl⟩
  case round =>
    obtain ⟨rfl, rfl, rfl⟩ := hrel
    go_wp2_with fail
    refine HI.out.mono ?_
    rintro e w2 ⟨rfl, hb2⟩
    have HB2 := Lib.hid hb2
    clear hb2
    go_wp2
    exact bodyPost_ret (v := .tuple #[]) (by simp [results, Tryz.results84, go_sem]) rfl ⟨rfl, HB2.out⟩
theorem nsort_any (v : Value) (ns : List Nm) (w : World) (hR : StrsR w v (nmA ns)) (hr : rise ns) (hn : ns.length ≤ 12) :
    Calls Tryz.prog 59 #[v] w fun e w' => e = .returned (.tuple #[]) ∧ Below w.heap.size w w' := by
  have HP := Lib.hid (fun lim => pdq_any v ns lim w hR hr hn)
  have HL := Lib.hid (Tryz.bits_Len (ns.length : Int) w (by omega) (by omega))
  obtain ⟨A, c, rfl⟩ := strs_form hR (nmA_len ns)
  clear hR hr
  generalize (Lib.bitLen (ns.length : Int).toNat : Int) = B at HL
  go_enter Tryz.func59, Tryz.ntmps59
  go_wp2_with fail
  refine HL.out.mono ?_
  rintro e w2 ⟨rfl, rfl⟩
  go_wp2_with fail
  refine (HP.out _).mono ?_
  rintro e w3 ⟨rfl, hb3⟩
  have HB3 := Lib.hid hb3
  clear hb3
  go_wp2
  go_end0
  exact ⟨rfl, HB3.out⟩
set_option maxRecDepth 100000 in
set_option maxHeartbeats 4000000 in
theorem ncompact_any (v : Value) (ns : List Nm) (w : World) (hR : StrsR w v (nmA ns)) (hr : rise ns) (hn : ns.length ≤ 12) :
    Calls Tryz.prog 60 #[v] w fun e w' => e = .returned v ∧ Below w.heap.size w w' := by
  obtain ⟨A, c, rfl⟩ := strs_form hR (nmA_len ns)
  have HR := Lib.hid hR
  have HA := Lib.hid (adj_rise hr)
  clear hR hr
  by_cases h2 : ns.length < 2
  · have h2' : (ns.length : Int) < 2 := by omega
    clear h2
    go_enter Tryz.func60, Tryz.ntmps60
    go_wp2
    go_ret
    exact ⟨rfl, Below.refl _ _⟩
  · have h2' : ¬ (ns.length : Int) < 2 := by omega
    clear h2
    go_enter Tryz.func60, Tryz.ntmps60
    go_wp2
    go_loopg [3] (ns.length - 1) (fun g s3 wr => ∃ k : Nat, s3 = .int .i64 k ∧ 1 ≤ k ∧ g = ns.length - k ∧ Below w.heap.size w wr)
    case atStart => exact ⟨1, rfl, Nat.le_refl _, rfl, Below.refl _ _⟩
    case round =>
      obtain ⟨k, rfl, hk, hg, hbr⟩ := hrel
      have HB := Lib.hid hbr
      clear hbr
      by_cases hlt : k < ns.length
      · have hlt' : (k : Int) < (ns.length : Int) := by omega
        obtain ⟨j, hj⟩ : ∃ j, j = k - 1 := ⟨_, rfl⟩
        obtain ⟨x, hx⟩ : ∃ x, ns[k]? = some x := ⟨_, List.getElem?_eq_getElem hlt⟩
        obtain ⟨y, hy⟩ : ∃ y, ns[j]? = some y := ⟨_, List.getElem?_eq_getElem (by omega)⟩
        obtain ⟨ad, rfl, c0⟩ := strs_get HR.out (nmA_at hx)
        obtain ⟨ad', hA', c1⟩ := strs_get HR.out (nmA_at hy)
        injection hA' with hA'
        subst hA'
        have hl := HA.out j y x hy (by rw [show j + 1 = k by omega]; exact hx)
        have hne : ((bA x).toList == (bA y).toList) = false := by rw [bA_list, bA_list, beq_eq_false_iff_ne]; exact fun e => lss_ne hl e.symm
        have kj1 : (k : Int) - 1 = (j : Int) := by omega
        have kj2 : IntKind.i64.wrap ((k : Int) - 1) = (j : Int) := by rw [IntKind.wrap_i64]; omega
        have kj5 : IntKind.i64.wrap (j : Int) = (j : Int) := by rw [IntKind.wrap_i64]; omega
        have kj3 : (j : Int) < (ns.length : Int) := by omega
        have kj4 : j < ns.length := by omega
        have d0 := bc HB.out c0
        have d1 := bc HB.out c1
        clear hj hx hy hl c0 c1
        go_wp2
        go_quiet (fail)
        go_wp2
        go_roundg (ns.length - (k + 1))
        case measure => omega
        case rel => exact ⟨k + 1, by go_num, by omega, rfl, bdN HB.out _⟩
      · have hlt' : ¬ (k : Int) < (ns.length : Int) := by omega
        go_wp2
        go_ret
        exact ⟨rfl, HB.out⟩
theorem nmE_take (l : List En) (k : Nat) : nmE (l.take k) = (nmE l).take k := List.map_take
set_option maxRecDepth 100000 in
set_option maxHeartbeats 4000000 in
theorem nnames_any (n : Nd) (vd ve : Value) (w : World) (hd : BytesR w vd n.data) (he : EntsR w ve n.ents) (hr : rise (nmE n.ents)) (hn : n.ents.length ≤ 12) :
    Calls Tryz.prog 42 #[nodeV n vd ve] w fun e w' => ∃ v, e = .returned v ∧ StrsR w' v (nmA (nmE n.ents)) ∧ Below w.heap.size w w' := by
  have HB1 := Lib.hid (ba w (.cells (ndC n vd ve) 70))
  have HE := Lib.hid (box_ents (vd := vd) he)
  have HS := Lib.hid (fun v W (h : StrsR W v (nmA (nmE n.ents))) => nsort_any v (nmE n.ents) W h hr (by rw [len_nmE]; exact hn))
  have HC := Lib.hid (fun v W (h : StrsR W v (nmA (nmE n.ents))) => ncompact_any v (nmE n.ents) W h hr (by rw [len_nmE]; exact hn))
  obtain ⟨A1, c1, rfl⟩ := bytes_form hd rfl
  obtain ⟨A2, c2, rfl⟩ := ents_form he rfl
  obtain ⟨W1, hW1⟩ : ∃ W1, W1 = w.alloc (.cells (ndC n (.slice A1 n.data.length c1) (.slice A2 n.ents.length c2)) 70) := ⟨_, rfl⟩
  have HN := Lib.hid (own_nil_str W1)
  have HW1 := Lib.hid hW1
  rw [← hW1] at HB1 HE
  clear hd he hr hW1
  unfold nodeV
  go_enter Tryz.func42, Tryz.ntmps42
  go_wp2
  go_loopg [3, 9] n.ents.length (fun g s3 s9 wr => ∃ k : Nat, s9 = .int .i64 k ∧ k ≤ n.ents.length ∧ g = n.ents.length - k ∧ wr.ownsRow W1.heap.size 9 1 s3 (nmA (nmE (n.ents.take k))).length (sCells (nmA (nmE (n.ents.take k)))) ∧ Below W1.heap.size W1 wr)
  case atStart => exact ⟨0, rfl, Nat.zero_le _, rfl, by rw [← HW1.out]; exact HN.out, by rw [← HW1.out]; exact Below.refl _ _⟩
  case round =>
    obtain ⟨k, rfl, hk, rfl, hown, hbr⟩ := hrel
    have HO := Lib.hid hown
    have HB := Lib.hid hbr
    have hkl : (nmA (nmE (n.ents.take k))).length = k := by rw [nmA_len, len_nmE, List.length_take]; omega
    obtain ⟨A, c, hv⟩ := own_slice hown
    rw [hkl] at hv
    subst hv
    clear hown hbr
    by_cases hlt : k < n.ents.length
    · obtain ⟨e, he⟩ : ∃ e, n.ents[k]? = some e := ⟨_, List.getElem?_eq_getElem hlt⟩
      obtain ⟨ad, rfl, c0, c1⟩ := ents_get (HE.out.below HB.out) he
      have hbA := ba wr (.cells #[.string (bA e.1), .int .i64 e.2] 103)
      have HBA := Lib.hid (bt hbA HB.out)
      have HOA := Lib.hid (own_below HO.out hbA)
      have HT := Lib.hid (show nmA (nmE (n.ents.take (k + 1))) = nmA (nmE (n.ents.take k)) ++ [bA e.1] by rw [take_snoc' he, nmE, List.map_append, nmA, List.map_append]; rfl)
      have hz2 : (wr.alloc (.cells #[.string (bA e.1), .int .i64 e.2] 103)).heap.size = wr.heap.size + 1 := by simp
      clear he hbA
      generalize nmA (nmE (n.ents.take k)) = L at HO HOA HT hkl
      go_wp2_with (at_builtin; refine wpList_append_one rfl (.tmp 13) (.tmp 16) _ rfl W1.heap.size 9 _ 1 16 Tryz.underlying51 info_str rfl (by decide) (.slice A k c) L.length (sCells L) rfl (wr.alloc (.cells #[.string (bA e.1), .int .i64 e.2] 103)) [.string (bA e.1)] rfl (str_one _) HOA.out (by rw [hz2]; rfl) (by omega) (by omega) HBA.out.size ?_; intro v5 w5 ho hg; obtain ⟨A5, c5, hv5, ho5, hb5⟩ := app_one HBA.out HBA.out.size HOA.out ho hg; subst hv5; have HO5 := Lib.hid ho5; have HB5 := Lib.hid hb5; clear ho hg ho5 hb5)
      go_roundg (n.ents.length - (k + 1))
      case measure => omega
      case rel => exact ⟨k + 1, by go_num, by omega, rfl, by rw [HT.out]; have h := HO5.out; rw [hkl] at h; exact h, HB5.out⟩
    · have hke : k = n.ents.length := by omega
      have HR := Lib.hid (show StrsR wr (.slice A k c) (nmA (nmE n.ents)) by
        have h := HO.out
        rw [List.take_of_length_le (by omega)] at h
        exact StrsR.of_own h)
      clear hke
      go_wp2_with fail
      refine (HS.out _ wr HR.out).mono ?_
      rintro e w2 ⟨rfl, hb2⟩
      have HR2 := Lib.hid (HR.out.below hb2)
      have HB2 := Lib.hid (bt hb2 HB.out)
      clear hb2
      go_wp2_with fail
      refine (HC.out _ w2 HR2.out).mono ?_
      rintro e w3 ⟨rfl, hb3⟩
      have HR3 := Lib.hid (HR2.out.below hb3)
      have HB3 := Lib.hid (bt hb3 HB2.out)
      clear hb3
      go_wp2
      go_ret
      exact ⟨_, rfl, HR3.out, bt HB3.out HB1.out⟩
end Go.Proofs.YtilepnepcamnaaaGreat
