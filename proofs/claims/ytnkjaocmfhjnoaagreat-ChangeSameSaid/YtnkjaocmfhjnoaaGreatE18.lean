/-
  The entries that another node hasn't: slices.Contains and slices.DeleteFunc of entries, change.entsBut. The conditions: no list is longer than a thousand; where DeleteFunc writes, the list's row begins its block. slices.DeleteFunc of entries, and change.entsBut. The conditions: a node's entries begin their block (Get's do), and are twelve at most. slices.DeleteFunc of entries, walked, and change.entsBut. The conditions: a node's entries begin their block (Get's do), and are twelve at most. change.entsBut; what is asked of numbers: only, nothing, goneBut. The conditions: tables and lists are as DfR has them. Package change: goneBut, nothing, only, sameButEnts, fateOf, alone. The conditions: tables and lists are as DfR has them. Package change: sameButEnts, fateOf. The conditions: tables and lists are as DfR has them.
-/
import Derived.Test.YtnkjaocmfhjnoaaGreatE8
import Derived.Test.YtnkjaocmfhjnoaaGreatE13
import Derived.Test.YtnkjaocmfhjnoaaGreatE17
import Derived.Deep.DeepCutAuto
import Derived.WalkMore
namespace Go.Proofs.YtnkjaocmfhjnoaaGreat
open Go Go.RowKit
set_option maxRecDepth 100000

attribute [local go_sem] cell_off4 cell_blk4
theorem any_mem (l : List En) (e : En) : l.any (fun x => toB (e = x)) = toB (e ∈ l) := by
  by_cases h : e ∈ l
  · rw [toB_true h, List.any_eq_true]
    exact ⟨e, h, toB_true rfl⟩
  · rw [toB_false h, List.any_eq_false]
    exact fun x hx q => h (by rw [toB_iff.1 q]; exact hx)
set_option maxHeartbeats 4000000 in
theorem eindex_any (v : Value) (l : List En) (e : En) (w : World) (h : EntsR w v l) (hl : l.length ≤ 1000) :
    Calls Tryz.prog 122 #[v, .agg #[.string (bA e.1), .int .i64 e.2]] w fun e' w' => (∃ r : Int, e' = .returned (.int .i64 r) ∧ decide (0 ≤ r) = toB (e ∈ l)) ∧ Below w.heap.size w w' := by
  obtain ⟨X, hX⟩ : ∃ X, toB (e ∈ l) = X := ⟨_, rfl⟩
  rw [hX]
  have HX0 := Lib.hid (show (l.drop 0).any (fun x => toB (e = x)) = X by rw [List.drop_zero, any_mem]; exact hX)
  have hb1 := ba w (.cells #[.string (bA e.1), .int .i64 e.2] 126)
  have hk1 := Blk.new w 126 #[.string (bA e.1), .int .i64 e.2]
  obtain ⟨W1, hW1⟩ : ∃ W, w.alloc (.cells #[.string (bA e.1), .int .i64 e.2] 126) = W := ⟨_, rfl⟩
  rw [hW1] at hb1 hk1
  obtain ⟨A, c, rfl⟩ := ents_form h rfl
  have HE := Lib.hid (h.below hb1)
  have HK := Lib.hid hk1
  have HB := Lib.hid hb1
  clear h hX hb1 hk1
  go_enter Tryz.func122, Tryz.ntmps122
  go_wp2
  clear hW1
  go_loopg [8] l.length (fun gh s8 wr => ∃ k nq : Nat, s8 = .int .i64 k ∧ k ≤ l.length ∧ gh = l.length - k ∧ (l.drop k).any (fun x => toB (e = x)) = X ∧ wr = W1.drewN nq)
  case atStart => exact ⟨0, 0, rfl, Nat.zero_le _, rfl, HX0.out, rfl⟩
  case round =>
    clear HX0
    obtain ⟨k, nq, rfl, hk, rfl, hx, rfl⟩ := hrel
    by_cases hlt : k < l.length
    · have hlt' : (k : Int) < (l.length : Int) := by omega
      obtain ⟨a, hka⟩ : ∃ a, l[k]? = some a := ⟨_, List.getElem?_eq_getElem hlt⟩
      obtain ⟨ad, hA, d0, d1⟩ := ents_get HE.out hka
      subst hA
      rw [any_drop hka] at hx
      have b0 : W1.cell? ⟨w.heap.size, 0, none⟩ = some (.string (bA e.1)) := HK.out.cell 0
      have b1 : W1.cell? ⟨w.heap.size, 1, none⟩ = some (.int .i64 e.2) := HK.out.cell 1
      clear hka
      by_cases hea : e = a
      · subst hea
        rw [toB_true rfl, Bool.true_or] at hx
        have HX := Lib.hid (show decide (0 ≤ (k : Int)) = X by rw [decide_eq_true (by omega)]; exact hx)
        have q1 : ((bA e.1).toList == (bA e.1).toList && e.2 == e.2) = true := by simp
        have q2 : ((bA e.1).toList == (bA e.1).toList) = true := by simp
        have q3 : (e.2 == e.2) = true := by simp
        clear hx
        go_wp2
        go_quiet (fail)
        go_wp2
        go_ret
        exact ⟨⟨_, rfl, HX.out⟩, bdN (bdN HB.out _) _⟩
      · have q1 : ((bA e.1).toList == (bA a.1).toList && e.2 == a.2) = false := by
          rw [bA_list, bA_list, Bool.and_eq_false_iff, beq_eq_false_iff_ne, beq_eq_false_iff_ne]
          by_cases h1 : e.1 = a.1
          · exact .inr (fun h2 => hea (Prod.ext h1 h2))
          · exact .inl h1
        rw [toB_false hea, Bool.false_or] at hx
        have HX := Lib.hid hx
        obtain ⟨B1, hB1⟩ : ∃ B1, ((bA e.1).toList == (bA a.1).toList) = B1 := ⟨_, rfl⟩
        obtain ⟨B2, hB2⟩ : ∃ B2, (e.2 == a.2) = B2 := ⟨_, rfl⟩
        rw [hB1, hB2] at q1
        clear hx hea
        cases B1 <;> cases B2
        case true.true => cases q1
        all_goals (
          clear q1
          go_wp2
          go_quiet (fail)
          go_wp2
          go_roundg (l.length - (k + 1))
          case measure => omega
          case rel => exact ⟨k + 1, _, by go_num, by omega, rfl, HX.out, rfl⟩)
    · have hlt' : ¬ (k : Int) < (l.length : Int) := by omega
      rw [List.drop_eq_nil_of_le (by omega)] at hx
      have HX := Lib.hid (show decide (0 ≤ (-1 : Int)) = X from hx)
      clear hx
      go_wp2
      go_ret
      exact ⟨⟨_, rfl, HX.out⟩, bdN HB.out _⟩
theorem econtains_any (v : Value) (l : List En) (e : En) (w : World) (h : EntsR w v l) (hl : l.length ≤ 1000) :
    Calls Tryz.prog 94 #[v, .agg #[.string (bA e.1), .int .i64 e.2]] w fun e' w' => e' = .returned (.bool (toB (e ∈ l))) ∧ Below w.heap.size w w' := by
  have hb1 := ba w (.cells #[.string (bA e.1), .int .i64 e.2] 126)
  have HI := Lib.hid (eindex_any v l e _ (h.below hb1) hl)
  have HB := Lib.hid hb1
  obtain ⟨A, c, rfl⟩ := ents_form h rfl
  clear h hl hb1
  go_enter Tryz.func94, Tryz.ntmps94
  go_wp2_with fail
  refine HI.out.mono ?_
  rintro e4 w4 ⟨⟨r, rfl, hr⟩, hb4⟩
  have HR := Lib.hid hr
  have HB4 := Lib.hid (bt hb4 HB.out)
  clear hr hb4
  go_wp2
  go_ret
  exact ⟨ret_bool HR.out, HB4.out⟩
structure CapE (W : World) (b : Nat) (o : List En) (A : Option Addr) (c : Nat) : Prop where
  box : ∃ cs, Blk W b 65 cs ∧ cs[5]? = some (.slice A o.length c)
  ents : EntsT W (.slice A o.length c) o
theorem CapE.below {W W' : World} {b : Nat} {o : List En} {A : Option Addr} {c : Nat} (h : CapE W b o A c) (hb : Below W.heap.size W W') : CapE W' b o A c := by
  obtain ⟨⟨cs, h1, h2⟩, h3⟩ := h
  exact ⟨⟨cs, h1.below hb, h2⟩, h3.below hb⟩
theorem CapE.other {W W' : World} {b g : Nat} {o : List En} {A : Option Addr} {c : Nat} (h : CapE W b o A c) (hg : W.grownBy W' (some g)) (hb : b ≠ g) (hA : ∀ ad, A = some ad → ad.block ≠ g) : CapE W' b o A c := by
  obtain ⟨⟨cs, h1, h2⟩, h3⟩ := h
  exact ⟨⟨cs, h1.kept hg (some_ne hb), h2⟩, h3.other hg (fun ad n c hv => by injection hv with hv; exact hA ad hv)⟩
theorem CapE.cell {W : World} {b : Nat} {o : List En} {A : Option Addr} {c : Nat} (h : CapE W b o A c) : W.cell? ⟨b, 5, none⟩ = some (.slice A o.length c) := by
  obtain ⟨⟨cs, h1, h2⟩, -⟩ := h
  rw [h1.cell 5]
  exact h2
noncomputable def inE (o : List En) (e : En) : Bool := toB (e ∈ o)
theorem clBut (o : List En) (A : Option Addr) (c : Nat) (b : Nat) (w : World) (h : CapE w b o A c) (ho : o.length ≤ 1000) (e : En) :
    Calls Tryz.prog 93 #[.agg #[.string (bA e.1), .int .i64 e.2], .pointer (some ⟨b, 0, none⟩)] w fun e' w' => e' = .returned (.bool (inE o e)) ∧ Below w.heap.size w w' := by
  have hb1 := ba w (.cells #[.string (bA e.1), .int .i64 e.2] 126)
  have x5 := (h.below hb1).cell
  have HC := Lib.hid (econtains_any _ o e _ (h.below hb1).ents.1 ho)
  have HB := Lib.hid hb1
  have HX := Lib.hid (show toB (e ∈ o) = inE o e from rfl)
  clear h hb1
  generalize inE o e = X at HX ⊢
  rw [HX.out] at HC
  go_enter Tryz.func93, Tryz.ntmps93
  go_wp2_with fail
  refine HC.out.mono ?_
  rintro e4 w4 ⟨rfl, hb4⟩
  have HB4 := Lib.hid (bt hb4 HB.out)
  clear hb4
  go_wp2
  go_ret
  exact ⟨rfl, HB4.out⟩
theorem ixBut (v : Value) (l o : List En) (A0 : Option Addr) (c0 : Nat) (b : Nat) (w : World) (hR : EntsR w v l) (hb : CapE w b o A0 c0) (ho : o.length ≤ 1000) (hn : l.length ≤ 1000000) :
    Calls Tryz.prog 121 #[v, .func (.func 93) #[] #[.pointer (some ⟨b, 0, none⟩)]] w fun e w' => e = .returned (.int .i64 (plcI (inE o) l)) ∧ Below w.heap.size w w' := by
  obtain ⟨A, c, rfl⟩ := ents_form hR rfl
  have HR := Lib.hid hR
  have HC := Lib.hid (fun W (hw : Below w.heap.size w W) (e : En) => clBut o A0 c0 b W (hb.below hw) ho e)
  clear hR hb
  have hFl : l.findIdx (inE o) ≤ l.length := List.findIdx_le_length
  have HLT := Lib.hid (fun (k : Nat) (e : En) (hk : l[k]? = some e) (h : k < l.findIdx (inE o)) => show inE o e = false by
    have h2 := List.not_of_lt_findIdx h
    obtain ⟨h3, h4⟩ := List.getElem?_eq_some_iff.1 hk
    rw [h4] at h2
    simpa using h2)
  have HEQ := Lib.hid (fun (k : Nat) (e : En) (hk : l[k]? = some e) (h : k = l.findIdx (inE o)) => show inE o e = true by
    subst h
    obtain ⟨h3, h4⟩ := List.getElem?_eq_some_iff.1 hk
    have h2 := List.findIdx_getElem (w := h3)
    rw [h4] at h2
    exact h2)
  have HX := Lib.hid (show plcI (inE o) l = if l.findIdx (inE o) < l.length then (l.findIdx (inE o) : Int) else -1 from rfl)
  generalize plcI (inE o) l = X at HX ⊢
  generalize l.findIdx (inE o) = F at hFl HLT HEQ HX
  go_enter Tryz.func121, Tryz.ntmps121
  go_wp2
  go_loopg [8] l.length (fun g s8 wr => ∃ k : Nat, s8 = .int .i64 k ∧ k ≤ F ∧ g = l.length - k ∧ Below w.heap.size w wr)
  case atStart => exact ⟨0, rfl, Nat.zero_le _, rfl, Below.refl _ _⟩
  case round =>
    obtain ⟨k, rfl, hk, rfl, hbr⟩ := hrel
    have HB := Lib.hid hbr
    clear hbr
    by_cases hlt : k < l.length
    · obtain ⟨e, he⟩ : ∃ e, l[k]? = some e := ⟨_, List.getElem?_eq_getElem hlt⟩
      obtain ⟨ad, rfl, c0, c1⟩ := ents_get (HR.out.below HB.out) he
      have HE := Lib.hid he
      clear he
      by_cases hkF : k = F
      · have HP := Lib.hid (HEQ.out k e HE.out hkF)
        have HX2 := Lib.hid (show X = (k : Int) by rw [HX.out, if_pos (by omega), hkF])
        clear hkF
        go_wp2_with fail
        refine (HC.out _ HB.out e).mono ?_
        rintro e3 w3 ⟨rfl, hb3⟩
        have HB3 := Lib.hid (bt hb3 HB.out)
        clear hb3 c0 c1
        rw [HP.out]
        go_wp2
        go_ret
        exact ⟨ret_int HX2.out.symm, HB3.out⟩
      · have HP := Lib.hid (HLT.out k e HE.out (by omega))
        have hkF2 : k + 1 ≤ F := by omega
        clear hkF
        go_wp2_with fail
        refine (HC.out _ HB.out e).mono ?_
        rintro e3 w3 ⟨rfl, hb3⟩
        have HB3 := Lib.hid (bt hb3 HB.out)
        clear hb3 c0 c1
        rw [HP.out]
        go_wp2
        go_roundg (l.length - (k + 1))
        case measure => omega
        case rel => exact ⟨k + 1, by go_num, by omega, rfl, HB3.out⟩
    · have HX2 := Lib.hid (show X = -1 by rw [HX.out, if_neg (by omega)])
      go_wp2
      go_ret
      exact ⟨ret_int HX2.out.symm, HB.out⟩
end Go.Proofs.YtnkjaocmfhjnoaaGreat
namespace Go.Proofs.YtnkjaocmfhjnoaaGreat
open Go Go.RowKit
set_option maxRecDepth 100000

attribute [local go_sem] cell_off4 cell_blk4
theorem eCells_set : ∀ (l : List En) (i : Nat) (e : En), eCells (l.set i e) = ((eCells l).set (i * 2) (.string (bA e.1))).set (i * 2 + 1) (.int .i64 e.2)
  | [], _, _ => rfl
  | x :: l, 0, e => rfl
  | x :: l, i + 1, e => by
    have h := eCells_set l i e
    show Value.string (bA x.1) :: .int .i64 x.2 :: eCells (l.set i e) = _
    rw [h, show (i + 1) * 2 = i * 2 + 2 by omega]
    rfl
structure EnsB (w : World) (g c : Nat) (L : List En) : Prop where
  cs : ∀ (j : Nat) (u : Value), (eCells L)[j]? = some u → w.cell? ⟨g, j, none⟩ = some u
  blk : ∃ ds, Blk w g 126 ds
theorem EnsB.below {w w' : World} {g c : Nat} {L : List En} (h : EnsB w g c L) (hb : Below w.heap.size w w') : EnsB w' g c L :=
  ⟨fun j u hj => bc hb (h.cs j u hj), by obtain ⟨ds, hk⟩ := h.blk; exact ⟨ds, hk.below hb⟩⟩
theorem EnsB.of {w : World} {g c n : Nat} {L : List En} (h : EntsT w (.slice (some ⟨g, 0, none⟩) n c) L) : EnsB w g c L := by
  refine ⟨fun j u hj => ?_, h.2 _ _ _ rfl⟩
  have hlt : j < L.length * 2 := by
    have := (List.getElem?_eq_some_iff.1 hj).1
    rwa [eCells_len] at this
  obtain ⟨e, he⟩ : ∃ e, L[j / 2]? = some e := ⟨_, List.getElem?_eq_getElem (by omega)⟩
  obtain ⟨ad', hA, h0, h1⟩ := ents_get h.1 he
  injection hA with hA
  subst hA
  rw [add_lit] at h0 h1
  obtain ⟨g0, g1⟩ := eCells_at L _ e he
  have h3 : j % 2 = 0 ∨ j % 2 = 1 := by omega
  rcases h3 with q | q
  · have e : j = j / 2 * 2 := by omega
    rw [e] at hj ⊢
    rw [g0] at hj
    injection hj with hj
    rw [← hj]
    exact h0
  · have e : j = j / 2 * 2 + 1 := by omega
    rw [e] at hj ⊢
    rw [g1] at hj
    injection hj with hj
    rw [← hj]
    exact h1
theorem EnsB.at_ {w : World} {g c : Nat} {L : List En} (h : EnsB w g c L) {k : Nat} {e : En} (hk : L[k]? = some e) : w.cell? ⟨g, k * 2, none⟩ = some (.string (bA e.1)) ∧ w.cell? ⟨g, k * 2 + 1, none⟩ = some (.int .i64 e.2) := by
  obtain ⟨g0, g1⟩ := eCells_at L k e hk
  exact ⟨h.cs _ _ g0, h.cs _ _ g1⟩
theorem EnsB.put {w : World} {g c : Nat} {L : List En} (h : EnsB w g c L) {i : Nat} (hi : i < L.length) (e : En) : EnsB ((w.setCell ⟨g, i * 2, none⟩ (.string (bA e.1))).setCell ⟨g, i * 2 + 1, none⟩ (.int .i64 e.2)) g c (L.set i e) := by
  obtain ⟨ds, hk⟩ := h.blk
  have h1 := (hk.set_ (i * 2) (.string (bA e.1))).set_ (i * 2 + 1) (.int .i64 e.2)
  refine ⟨fun j u hj => ?_, ⟨_, h1⟩⟩
  have hsz : ∀ j, j < L.length * 2 → j < ds.size := fun j hj => by
    have h2 := h.cs j _ (List.getElem?_eq_getElem (by rw [eCells_len]; exact hj))
    rw [hk.cell j] at h2
    exact (Array.getElem?_eq_some_iff.1 h2).1
  rw [h1.cell j]
  rw [eCells_set] at hj
  have s0 := hsz (i * 2) (by omega)
  have s1 := hsz (i * 2 + 1) (by omega)
  by_cases q1 : j = i * 2 + 1
  · subst q1
    rw [List.getElem?_set_self (by rw [List.length_set, eCells_len]; omega)] at hj
    rw [Array.getElem?_setIfInBounds_self_of_lt (by rw [Array.size_setIfInBounds]; exact s1)]
    exact hj
  · rw [List.getElem?_set_ne (by omega)] at hj
    rw [Array.getElem?_setIfInBounds_ne (by omega)]
    by_cases q0 : j = i * 2
    · subst q0
      rw [List.getElem?_set_self (by rw [eCells_len]; omega)] at hj
      rw [Array.getElem?_setIfInBounds_self_of_lt s0]
      exact hj
    · rw [List.getElem?_set_ne (by omega)] at hj
      rw [Array.getElem?_setIfInBounds_ne (by omega), ← hk.cell j]
      exact h.cs j u hj
theorem zcells_one (m : Nat) : ∀ v ∈ (Builtin.zeroCells #[Value.string ⟨#[]⟩, .int .i64 0] m).toList, v.oneCell' = true := fun v hv => by
  unfold Builtin.zeroCells at hv
  rw [Array.toList_map, List.mem_map] at hv
  obtain ⟨i, -, rfl⟩ := hv
  have h : i % 2 = 0 ∨ i % 2 = 1 := by omega
  show (#[Value.string ⟨#[]⟩, .int .i64 0][i % 2]!).oneCell' = true
  rcases h with h | h <;> rw [h] <;> rfl
theorem run_clear_ents (w : World) (ty : TypeId) (b o m c : Nat) (hm : m ≠ 0) (hc : ∀ j, j < m * 2 → (w.cell? ⟨b, o + j, none⟩).isSome = true) (hf : ∀ j, w.frozen? ⟨b, j, none⟩ = false) :
    (Builtin.clear_ #[63] ty #[.slice (some ⟨b, o, none⟩) m c]).run Tryz.prog w = .ok (.tuple #[]) (w.setCells b o (Builtin.zeroCells #[Value.string ⟨#[]⟩, .int .i64 0] m).toList) := by
  have hv : (zeroValue 126).run Tryz.prog w = .ok (.agg #[.string ⟨#[]⟩, .int .i64 0]) w := by kernel_rfl
  have hcl : (Value.agg #[Value.string ⟨#[]⟩, .int .i64 0]).cells = #[Value.string ⟨#[]⟩, .int .i64 0] := by kernel_rfl
  have hsz : (Builtin.zeroCells #[Value.string ⟨#[]⟩, .int .i64 0] m).toList.length = m * 2 := by rw [Array.length_toList, size_zeroCells]; rfl
  have hst := run_storeCells_cells (P := Tryz.prog) b o (Builtin.zeroCells #[Value.string ⟨#[]⟩, .int .i64 0] m).toList 0 w (by intro j hj; rw [hsz] at hj; exact hc j hj) (by intro j _; exact hf _) (zcells_one m)
  simp only [Nat.add_zero] at hst
  obtain ⟨m, rfl⟩ : ∃ k, m = k + 1 := ⟨m - 1, by omega⟩
  simp [Builtin.clear_, run_underlying Tryz.underlying63, hv, hcl, hst]
theorem size_es (w : World) : (sizeOf (Tryz.prog.elem 63)).run Tryz.prog w = .ok 2 w := by kernel_rfl
theorem slice_tail (g n c i : Nat) (hi : i < n) (hc : n ≤ c) (w : World) : (Instr.slice 63 (.slice (some ⟨g, 0, none⟩) n c) (some (.int .i64 (i : Int))) none none).run Tryz.prog w = .ok (.slice (some ⟨g, i * 2, none⟩) (n - i) (c - i)) w := by
  rw [run_slice_l w _ _ _ _ (by kernel_rfl) .i64 (i : Int) (by omega) (by omega), size_es]
  have h1 : ¬ (c = i) := by omega
  simp [Result.andThen, sliced, h1, add_lit]
theorem slice_head (g n c i : Nat) (hi : i < n) (hc : n ≤ c) (w : World) : (Instr.slice 63 (.slice (some ⟨g, 0, none⟩) n c) none (some (.int .i64 (i : Int))) none).run Tryz.prog w = .ok (.slice (some ⟨g, 0, none⟩) i c) w := by
  rw [run_slice_h w _ _ _ _ (by kernel_rfl) .i64 (i : Int) (by omega) (by omega), size_es]
  simp [Result.andThen, sliced, Addr.add]
structure DelS (w wr : World) (g c b : Nat) (o : List En) (A0 : Option Addr) (c0 : Nat) (l L : List En) (i j : Nat) : Prop where
  row : EnsB wr g c L
  cap : CapE wr b o A0 c0
  len : L.length = l.length
  hd : L.take i = (l.take j).filter (fun e => !inE o e)
  hi : i ≤ j
  tl : L.drop j = l.drop j
  gr : w.grownBy wr (some g)
theorem take_set_snoc {α : Type} : ∀ {L : List α} {i : Nat} {e : α}, i < L.length → (L.set i e).take (i + 1) = L.take i ++ [e]
  | x :: L, 0, e, _ => rfl
  | x :: L, i + 1, e, h => by
    show x :: ((L.set i e).take (i + 1)) = x :: (L.take i ++ [e])
    rw [take_set_snoc (by simpa using h)]
theorem drop_set {α : Type} : ∀ {L : List α} {i j : Nat} {e : α}, i < j → (L.set i e).drop j = L.drop j
  | [], _, _, _, _ => rfl
  | x :: L, 0, j + 1, e, _ => rfl
  | x :: L, i + 1, j + 1, e, h => by
    show (L.set i e).drop j = L.drop j
    exact drop_set (by omega)
theorem DelS.at_ {w wr : World} {g c b : Nat} {o : List En} {A0 : Option Addr} {c0 : Nat} {l L : List En} {i j : Nat} (h : DelS w wr g c b o A0 c0 l L i j) {e : En} (he : l[j]? = some e) : L[j]? = some e := by
  have h1 : (L.drop j)[0]? = (l.drop j)[0]? := by rw [h.tl]
  rw [List.getElem?_drop, List.getElem?_drop, Nat.add_zero] at h1
  rw [h1]
  exact he
theorem DelS.skip {w wr w' : World} {g c b : Nat} {o : List En} {A0 : Option Addr} {c0 : Nat} {l L : List En} {i j : Nat} (h : DelS w wr g c b o A0 c0 l L i j) {e : En} (he : l[j]? = some e) (hp : inE o e = true) (hb : Below wr.heap.size wr w') : DelS w w' g c b o A0 c0 l L i (j + 1) := by
  refine ⟨h.row.below hb, h.cap.below hb, h.len, ?_, by have := h.hi; omega, ?_, grown_trans h.gr (grown_below hb _)⟩
  · rw [take_snoc' he, List.filter_append, List.filter_cons_of_neg (by rw [hp]; decide), List.filter_nil, List.append_nil]
    exact h.hd
  · rw [← List.drop_drop, ← List.drop_drop, h.tl]
theorem DelS.keep {w wr w' : World} {g c b : Nat} {o : List En} {A0 : Option Addr} {c0 : Nat} {l L : List En} {i j : Nat} (h : DelS w wr g c b o A0 c0 l L i j) (hbg : b ≠ g) (hA : ∀ ad, A0 = some ad → ad.block ≠ g) {e : En} (he : l[j]? = some e) (hp : inE o e = false) (hij : i < j) (hb : Below wr.heap.size wr w') :
    DelS w ((w'.setCell ⟨g, i * 2, none⟩ (.string (bA e.1))).setCell ⟨g, i * 2 + 1, none⟩ (.int .i64 e.2)) g c b o A0 c0 l (L.set i e) (i + 1) (j + 1) := by
  have hjl := (List.getElem?_eq_some_iff.1 (h.at_ he)).1
  have hg := grown_trans (grown_setCell w' ⟨g, i * 2, none⟩ (.string (bA e.1))) (grown_setCell _ ⟨g, i * 2 + 1, none⟩ (.int .i64 e.2))
  refine ⟨(h.row.below hb).put (by omega) e, (h.cap.below hb).other hg hbg hA, by rw [List.length_set]; exact h.len, ?_, by omega, ?_, grown_trans (grown_trans h.gr (grown_below hb _)) hg⟩
  · rw [take_snoc' he, List.filter_append, List.filter_cons_of_pos (by rw [hp]; rfl), List.filter_nil, take_set_snoc (by omega), h.hd]
  · rw [drop_set (by omega), ← List.drop_drop, ← List.drop_drop, h.tl]
theorem DelS.done {w wr : World} {g c b : Nat} {o : List En} {A0 : Option Addr} {c0 : Nat} {l L : List En} {i : Nat} (h : DelS w wr g c b o A0 c0 l L i l.length) (vs : List Value) (hi : i < l.length) :
    (l.filter (fun e => !inE o e)).length = i ∧ EntsT (wr.setCells g (i * 2) vs) (.slice (some ⟨g, 0, none⟩) i c) (l.filter (fun e => !inE o e)) ∧ w.grownBy (wr.setCells g (i * 2) vs) (some g) := by
  have h1 := h.hd
  rw [List.take_length] at h1
  have h2 : (l.filter (fun e => !inE o e)).length = i := by
    rw [← h1, List.length_take, h.len]
    omega
  refine ⟨h2, ⟨EntsR.of_cells c h2 (fun j u hj => ?_), fun ad _ _ hv => by
    injection hv with hv
    injection hv with hv
    subst hv
    obtain ⟨ds, hk⟩ := h.row.blk
    exact blk_setCells vs _ _ ds hk⟩, grown_trans h.gr (grown_setCells g _ _ _)⟩
  rw [World.cell?_setCells_out _ _ _ _ _ (fun _ _ => .inl (by
    have := (List.getElem?_eq_some_iff.1 hj).1
    rw [eCells_len, h2] at this
    exact this))]
  refine h.row.cs j u ?_
  rw [← h1, ← eCells_take] at hj
  have h3 := (List.getElem?_eq_some_iff.1 hj).1
  rw [List.length_take] at h3
  rw [List.getElem?_take, if_pos (by omega)] at hj
  exact hj
end Go.Proofs.YtnkjaocmfhjnoaaGreat
namespace Go.Proofs.YtnkjaocmfhjnoaaGreat
open Go Go.RowKit
set_option maxRecDepth 100000

attribute [local go_sem] cell_off4 cell_blk4 add_lit
theorem delf_none (v : Value) (l o : List En) (A0 : Option Addr) (c0 b : Nat) (w : World) (hR : EntsR w v l) (hb : CapE w b o A0 c0) (ho : o.length ≤ 1000) (hl : l.length ≤ 1000) (hn : ∀ e ∈ l, inE o e = false) :
    Calls Tryz.prog 92 #[v, .func (.func 93) #[] #[.pointer (some ⟨b, 0, none⟩)]] w fun e w' => e = .returned v ∧ Below w.heap.size w w' := by
  have hf : l.findIdx (inE o) = l.length := List.findIdx_eq_length.2 (fun x hx => hn x hx)
  have HI := Lib.hid (ixBut v l o A0 c0 b w hR hb ho (by omega))
  unfold plcI at HI
  rw [if_neg (by omega)] at HI
  obtain ⟨A, c, rfl⟩ := ents_form hR rfl
  clear hR hb hn hf
  go_enter Tryz.func92, Tryz.ntmps92
  go_wp2_with fail
  refine HI.out.mono ?_
  rintro e w2 ⟨rfl, hb2⟩
  go_wp2
  go_ret
  exact ⟨rfl, hb2⟩
set_option maxHeartbeats 8000000 in
theorem delf_some (g c : Nat) (l o : List En) (A0 : Option Addr) (c0 b : Nat) (w : World) (hR : EntsT w (.slice (some ⟨g, 0, none⟩) l.length c) l) (hb : CapE w b o A0 c0) (ho : o.length ≤ 1000) (hl : l.length ≤ 1000) (hc : l.length ≤ c) (hbg : b ≠ g) (hA : ∀ ad, A0 = some ad → ad.block ≠ g) (F : Nat) (hF : l.findIdx (inE o) = F) (hFl : F < l.length) :
    Calls Tryz.prog 92 #[.slice (some ⟨g, 0, none⟩) l.length c, .func (.func 93) #[] #[.pointer (some ⟨b, 0, none⟩)]] w fun e w' => e = .returned (.slice (some ⟨g, 0, none⟩) (l.filter (fun e => !inE o e)).length c) ∧ EntsT w' (.slice (some ⟨g, 0, none⟩) (l.filter (fun e => !inE o e)).length c) (l.filter (fun e => !inE o e)) ∧ w.grownBy w' (some g) := by
  have HI := Lib.hid (ixBut _ l o A0 c0 b w hR.1 hb ho (by omega))
  unfold plcI at HI
  rw [hF, if_pos hFl] at HI
  have HBG := Lib.hid hbg
  have HAG := Lib.hid hA
  have HC := Lib.hid hc
  have HCL := Lib.hid (fun W (h : CapE W b o A0 c0) (e : En) => clBut o A0 c0 b W h ho e)
  have HS0 := Lib.hid (show ∀ W, Below w.heap.size w W → DelS w W g c b o A0 c0 l l F (F + 1) from fun W hW => by
    obtain ⟨e, he⟩ : ∃ e, l[F]? = some e := ⟨_, List.getElem?_eq_getElem hFl⟩
    have h1 : inE o e = true := by
      obtain ⟨h3, h4⟩ := List.getElem?_eq_some_iff.1 he
      have h2 := List.findIdx_getElem (p := inE o) (xs := l) (w := by rw [hF]; exact h3)
      simp only [hF, h4] at h2
      exact h2
    refine ⟨(EnsB.of hR).below hW, hb.below hW, rfl, ?_, by omega, rfl, grown_below hW _⟩
    rw [take_snoc' he, List.filter_append, List.filter_cons_of_neg (by rw [h1]; decide), List.filter_nil, List.append_nil]
    refine (List.filter_eq_self.2 (fun x hx => ?_)).symm
    obtain ⟨k, hk, h2⟩ := List.mem_take_iff_getElem.1 hx
    have h3 := List.not_of_lt_findIdx (p := inE o) (xs := l) (i := k) (by rw [hF]; omega)
    rw [h2] at h3
    simpa using h3)
  clear hR hb ho hF hbg hA
  go_enter Tryz.func92, Tryz.ntmps92
  go_wp2_with fail
  refine HI.out.mono ?_
  rintro e w2 ⟨rfl, hb2⟩
  have HS1 := Lib.hid (HS0.out w2 hb2)
  have e1 : ((F : Int) == -1) = false := by rw [beq_eq_false_iff_ne]; omega
  clear hb2 HS0 HI
  go_wp2
  clear e1
  go_loopg [5, 6] (l.length - (F + 1)) (fun gh s5 s6 wr => ∃ (i j : Nat) (L : List En), s5 = .int .i64 i ∧ s6 = .int .i64 j ∧ i < j ∧ j ≤ l.length ∧ gh = l.length - j ∧ DelS w wr g c b o A0 c0 l L i j)
  case atStart => exact ⟨F, F + 1, l, rfl, by go_num, by omega, by omega, rfl, HS1.out⟩
  case round =>
    clear HS1
    obtain ⟨i, j, L, rfl, rfl, hij, hj, rfl, hs⟩ := hrel
    have HS := Lib.hid hs
    clear hs
    by_cases hlt : j < l.length
    · have hlt' : (j : Int) < (l.length : Int) := by omega
      obtain ⟨e, he⟩ : ∃ e, l[j]? = some e := ⟨_, List.getElem?_eq_getElem hlt⟩
      obtain ⟨x0, x1⟩ := HS.out.row.at_ (HS.out.at_ he)
      have HE := Lib.hid he
      have hbx := ba wr (.cells #[.string (bA e.1), .int .i64 e.2] 126)
      have hkx := Blk.new wr 126 #[.string (bA e.1), .int .i64 e.2]
      have HBX := Lib.hid hbx
      have HKX := Lib.hid hkx
      obtain ⟨z, hz⟩ : ∃ z, wr.heap.size = z := ⟨_, rfl⟩
      have HZ := Lib.hid (show g ≠ z by
        obtain ⟨ds, hk⟩ := HS.out.row.blk
        have := hk.lt
        omega)
      rw [hz] at HKX
      clear he hbx hkx
      cases hp : inE o e
      · have HCX := Lib.hid (HCL.out _ (HS.out.cap.below HBX.out) e)
        rw [hp] at HCX
        have HP := Lib.hid hp
        clear hp
        go_wp2_with fail
        refine HCX.out.mono ?_
        rintro e3 w3 ⟨rfl, hb3⟩
        clear hz
        have HB3 := Lib.hid (bt hb3 HBX.out)
        have hk3 := HKX.out.below hb3
        have y0 : w3.cell? ⟨z, 0, none⟩ = some (.string (bA e.1)) := hk3.cell 0
        have y1 : w3.cell? ⟨z, 1, none⟩ = some (.int .i64 e.2) := hk3.cell 1
        obtain ⟨e', he'⟩ : ∃ e', L[i]? = some e' := ⟨_, List.getElem?_eq_getElem (by rw [HS.out.len]; omega)⟩
        obtain ⟨c1, c2⟩ := (HS.out.row.below HB3.out).at_ he'
        have f1 : w3.frozen? ⟨g, i * 2, none⟩ = false := by obtain ⟨ds, hk⟩ := (HS.out.row.below HB3.out).blk; exact hk.frozen _
        have f2 : w3.frozen? ⟨g, i * 2 + 1, none⟩ = false := by obtain ⟨ds, hk⟩ := (HS.out.row.below HB3.out).blk; exact hk.frozen _
        have HS2 := Lib.hid (HS.out.keep HBG.out HAG.out HE.out HP.out hij HB3.out)
        have hi' : (i : Int) < (l.length : Int) := by omega
        clear hb3 hk3 x0 x1 he'
        go_wp2
        go_roundg (l.length - (j + 1))
        case measure => omega
        case rel => exact ⟨i + 1, j + 1, _, by go_num, by go_num, by omega, by omega, rfl, HS2.out⟩
      · have HCX := Lib.hid (HCL.out _ (HS.out.cap.below HBX.out) e)
        rw [hp] at HCX
        have HP := Lib.hid hp
        clear hp
        go_wp2_with fail
        refine HCX.out.mono ?_
        rintro e3 w3 ⟨rfl, hb3⟩
        have HS2 := Lib.hid (HS.out.skip HE.out HP.out (bt hb3 HBX.out))
        clear hb3 hz
        go_wp2
        go_roundg (l.length - (j + 1))
        case measure => omega
        case rel => exact ⟨i, j + 1, L, rfl, by go_num, by omega, by omega, rfl, HS2.out⟩
    · have hlt' : ¬ (j : Int) < (l.length : Int) := by omega
      have hjl : j = l.length := by omega
      subst hjl
      have HD := Lib.hid (HS.out.done (Builtin.zeroCells #[Value.string ⟨#[]⟩, .int .i64 0] (l.length - i)).toList hij)
      have hsl := slice_tail g l.length c i hij HC.out
      have hsh := slice_head g l.length c i hij HC.out
      have hcl := fun ty => run_clear_ents wr ty g (i * 2) (l.length - i) (c - i) (by omega) (fun q hq => by
        obtain ⟨u, hu⟩ : ∃ u, (eCells L)[i * 2 + q]? = some u := ⟨_, List.getElem?_eq_getElem (by rw [eCells_len, HS.out.len]; omega)⟩
        rw [HS.out.row.cs _ _ hu]; rfl) (by obtain ⟨ds, hk⟩ := HS.out.row.blk; exact hk.frozen)
      go_wp2
      go_ret
      rw [HD.out.1]
      exact ⟨rfl, HD.out.2.1, HD.out.2.2⟩
end Go.Proofs.YtnkjaocmfhjnoaaGreat
namespace Go.Proofs.YtnkjaocmfhjnoaaGreat
open Go Go.RowKit
set_option maxRecDepth 100000

attribute [local go_sem] cell_off4 cell_blk4
set_option maxHeartbeats 4000000 in
theorem delf_any (v : Value) (l o : List En) (A0 : Option Addr) (c0 b B : Nat) (w : World) (hR : EntsT w v l) (hq : LQ (fun x => B ≤ x) v) (hb : CapE w b o A0 c0) (ho : o.length ≤ 1000) (hl : l.length ≤ 1000) (hbg : ∀ ad n c, v = .slice (some ad) n c → b ≠ ad.block) (hA : ∀ ad n c, v = .slice (some ad) n c → ∀ a, A0 = some a → a.block ≠ ad.block) :
    Calls Tryz.prog 92 #[v, .func (.func 93) #[] #[.pointer (some ⟨b, 0, none⟩)]] w fun e w' => ∃ A c, e = .returned (.slice A (l.filter (fun e => !inE o e)).length c) ∧ EntsT w' (.slice A (l.filter (fun e => !inE o e)).length c) (l.filter (fun e => !inE o e)) ∧ (∀ w0 : World, w0.heap.size ≤ B → Below w0.heap.size w0 w → Below w0.heap.size w0 w') := by
  obtain ⟨A, c, rfl⟩ := entsT_form hR
  by_cases hn : ∀ e ∈ l, inE o e = false
  · have e1 : l.filter (fun e => !inE o e) = l := List.filter_eq_self.2 (fun x hx => by rw [hn x hx]; rfl)
    rw [e1]
    refine (delf_none _ l o A0 c0 b w hR.1 hb ho hl hn).mono ?_
    rintro e w' ⟨rfl, hb'⟩
    exact ⟨A, c, rfl, hR.below hb', fun w0 _ h0 => bt hb' h0⟩
  · have hF : l.findIdx (inE o) < l.length := by
      rw [List.findIdx_lt_length]
      refine Classical.byContradiction (fun q => hn (fun e he => ?_))
      cases h : inE o e with
      | false => rfl
      | true => exact absurd ⟨e, he, h⟩ q
    obtain ⟨e, he⟩ : ∃ e, l[0]? = some e := ⟨_, List.getElem?_eq_getElem (by omega)⟩
    obtain ⟨ad, rfl, -⟩ := ents_get hR.1 he
    obtain ⟨q1, q2, q3⟩ := hq ad _ _ rfl
    have q4 := hbg ad _ _ rfl
    have q5 := hA ad _ _ rfl
    obtain ⟨g, hg⟩ : ∃ g, ad.block = g := ⟨_, rfl⟩
    rw [hg] at q1 q3 q4 q5
    subst q3
    refine (delf_some g c l o A0 c0 b w hR hb ho hl q2 q4 q5 _ rfl hF).mono ?_
    rintro e w' ⟨rfl, h1, h2⟩
    exact ⟨_, c, rfl, h1, fun w0 hw0 h0 => below_grown h0 h2 (Nat.le_trans hw0 q1)⟩
set_option maxHeartbeats 4000000 in
theorem entsBut_any (v v' : Value) (t u : List Nd) (i : Int) (w : World) (h : TabP w v t) (h' : TabP w v' u) :
    Calls Tryz.prog 57 #[v, v', .int .i64 i] w fun e w' => ∃ A c, e = .returned (.slice A ((tget t i).ents.filter (fun e => !inE (tget u i).ents e)).length c) ∧ EntsT w' (.slice A ((tget t i).ents.filter (fun e => !inE (tget u i).ents e)).length c) ((tget t i).ents.filter (fun e => !inE (tget u i).ents e)) ∧ Below w.heap.size w w' := by
  have hmf : ∀ (fn : Fn) (first cap : Array Value) (w : World), (Instr.makeFunc fn first cap).run Tryz.prog w = .ok (.func fn first cap) w := fun _ _ _ _ => rfl
  have HG := Lib.hid (get_anyC v t i w h)
  have HG' := Lib.hid (fun W (hw : Below w.heap.size w W) => get_anyC v' u i W (h'.below hw))
  have HF := Lib.hid (ok_few h.ok.1 i)
  have HF' := Lib.hid (ok_few h'.ok.1 i)
  generalize tis t i = X at HG
  generalize tis u i = X' at HG'
  generalize tget t i = n at HG HF ⊢
  generalize tget u i = m at HG' HF' ⊢
  clear h h'
  unfold nodeV at HG HG'
  go_enter Tryz.func57, Tryz.ntmps57
  go_wp2_with fail
  refine HG.out.mono ?_
  rintro e w2 ⟨vd, ve, rfl, hd, he, -, hq, hb2⟩
  obtain ⟨A5, k5, rfl⟩ := bytesT_form hd
  obtain ⟨A6, k6, rfl⟩ := entsT_form he
  have hbx := al hb2 (.cells (ndC n (.slice A5 n.data.length k5) (.slice A6 n.ents.length k6)) 65)
  have hkn := Blk.new w2 65 (ndC n (.slice A5 n.data.length k5) (.slice A6 n.ents.length k6))
  have he3 := he.below (ba w2 (.cells (ndC n (.slice A5 n.data.length k5) (.slice A6 n.ents.length k6)) 65))
  obtain ⟨z1, hz1⟩ : ∃ z, w2.heap.size = z := ⟨_, rfl⟩
  have HLT := Lib.hid (show ∀ ad, A6 = some ad → ad.block < z1 from fun ad q => by
    obtain ⟨cs, hk⟩ := he.2 ad _ _ (by rw [q])
    have := hk.lt
    omega)
  obtain ⟨W3, hW3⟩ : ∃ W, w2.alloc (.cells (ndC n (.slice A5 n.data.length k5) (.slice A6 n.ents.length k6)) 65) = W := ⟨_, rfl⟩
  rw [hW3] at hbx hkn he3
  rw [hz1] at hkn
  have HB3 := Lib.hid hbx
  have HK3 := Lib.hid hkn
  have HE3 := Lib.hid he3
  have HQ := Lib.hid hq
  have HG3 := Lib.hid (HG'.out W3 hbx)
  clear hd he hq hb2 hbx hkn he3 HG HG'
  go_wp2_with fail
  clear hW3 hz1
  refine HG3.out.mono ?_
  rintro e w4 ⟨vd', ve', rfl, hd, he, -, hq4, hb4⟩
  obtain ⟨A7, k7, rfl⟩ := bytesT_form hd
  obtain ⟨A8, k8, rfl⟩ := entsT_form he
  have hby := al hb4 (.cells (ndC m (.slice A7 m.data.length k7) (.slice A8 m.ents.length k8)) 65)
  have hkm := Blk.new w4 65 (ndC m (.slice A7 m.data.length k7) (.slice A8 m.ents.length k8))
  have he5 := he.below (ba w4 (.cells (ndC m (.slice A7 m.data.length k7) (.slice A8 m.ents.length k8)) 65))
  obtain ⟨z2, hz2⟩ : ∃ z, w4.heap.size = z := ⟨_, rfl⟩
  have hkn5 := HK3.out.below hby
  have hz12 : z1 < z2 := by
    have := (HK3.out.below hb4).lt
    omega
  obtain ⟨W5, hW5⟩ : ∃ W, w4.alloc (.cells (ndC m (.slice A7 m.data.length k7) (.slice A8 m.ents.length k8)) 65) = W := ⟨_, rfl⟩
  rw [hW5] at hby hkm he5 hkn5
  rw [hz2] at hkm
  have HDL := Lib.hid (delf_any _ n.ents m.ents A8 k8 z2 w.heap.size W5 (HE3.out.below hby) HQ.out ⟨⟨_, hkm, rfl⟩, he5⟩ (by have := HF'.out.ents; omega) (by have := HF.out.ents; omega)
    (fun ad _ _ q => by injection q with q; have := HLT.out ad q; omega)
    (fun ad _ _ q a q2 => by
      injection q with q
      have h1 := HLT.out ad q
      have h2 := (hq4 a _ _ (by rw [q2])).1
      have h3 := HK3.out.lt
      omega))
  have HB5 := Lib.hid (bt hby HB3.out)
  have p5 : W5.cell? ⟨z1, 5, none⟩ = some (.slice A6 n.ents.length k6) := hkn5.cell 5
  clear hd he hq4 hb4 hby hkm he5 hkn5 HG3
  go_wp2_with fail
  clear hW5 hz2
  refine HDL.out.mono ?_
  rintro e w6 ⟨A, c, rfl, h1, h2⟩
  have HR := Lib.hid h1
  have HB := Lib.hid (h2 w (Nat.le_refl _) HB5.out)
  clear h1 h2
  go_wp2
  go_ret
  exact ⟨A, c, rfl, HR.out, HB.out⟩
/-! Numbers. -/
theorem clGone (j i : Int) (b : Nat) (w : World) (hb : w.cell? ⟨b, 0, none⟩ = some (.int .i64 i)) :
    Calls Tryz.prog 96 #[.int .i64 j, .pointer (some ⟨b, 0, none⟩)] w fun e w' => e = .returned (.bool (j != i)) ∧ w = w' := by
  go_enter Tryz.func96, Tryz.ntmps96
  go_wp2
  go_ret
  exact ⟨rfl, rfl⟩
set_option maxHeartbeats 4000000 in
theorem ixGone (v : Value) (l : List Int) (i : Int) (b : Nat) (w : World) (h : IntsR w v l) (hb : w.cell? ⟨b, 0, none⟩ = some (.int .i64 i)) (hl : l.length ≤ 1000) :
    Calls Tryz.prog 123 #[v, .func (.func 96) #[] #[.pointer (some ⟨b, 0, none⟩)]] w fun e w' => (∃ r : Int, e = .returned (.int .i64 r) ∧ decide (0 ≤ r) = gbB l i) ∧ w = w' := by
  obtain ⟨X, hX⟩ : ∃ X, gbB l i = X := ⟨_, rfl⟩
  rw [hX]
  have HX0 := Lib.hid (show (l.drop 0).any (fun x => x != i) = X from hX)
  obtain ⟨A, c, rfl⟩ := ints_form h rfl
  have HE := Lib.hid h
  have HC := Lib.hid (fun j => clGone j i b w hb)
  clear h hX hb
  go_enter Tryz.func123, Tryz.ntmps123
  go_wp2
  go_loopg [8] l.length (fun gh s8 wr => ∃ k : Nat, s8 = .int .i64 k ∧ k ≤ l.length ∧ gh = l.length - k ∧ (l.drop k).any (fun x => x != i) = X ∧ w = wr)
  case atStart => exact ⟨0, rfl, Nat.zero_le _, rfl, HX0.out, rfl⟩
  case round =>
    clear HX0
    obtain ⟨k, rfl, hk, rfl, hx, rfl⟩ := hrel
    by_cases hlt : k < l.length
    · have hlt' : (k : Int) < (l.length : Int) := by omega
      obtain ⟨a, hka⟩ : ∃ a, l[k]? = some a := ⟨_, List.getElem?_eq_getElem hlt⟩
      obtain ⟨ad, hA, d0⟩ := ints_get HE.out hka
      subst hA
      rw [any_drop hka] at hx
      have HCA := Lib.hid (HC.out a)
      clear hka
      generalize (a != i) = q at hx HCA
      cases q
      · rw [Bool.false_or] at hx
        have HX := Lib.hid hx
        clear hx
        go_wp2_with fail
        refine HCA.out.mono ?_
        rintro e w3 ⟨rfl, rfl⟩
        go_wp2
        go_roundg (l.length - (k + 1))
        case measure => omega
        case rel => exact ⟨k + 1, by go_num, by omega, rfl, HX.out, rfl⟩
      · have HX := Lib.hid (show decide (0 ≤ (k : Int)) = X by rw [decide_eq_true (by omega)]; exact hx)
        clear hx
        go_wp2_with fail
        refine HCA.out.mono ?_
        rintro e w3 ⟨rfl, rfl⟩
        go_wp2
        go_ret
        exact ⟨⟨_, rfl, HX.out⟩, rfl⟩
    · have hlt' : ¬ (k : Int) < (l.length : Int) := by omega
      rw [List.drop_eq_nil_of_le (by omega)] at hx
      have HX := Lib.hid (show decide (0 ≤ (-1 : Int)) = X from hx)
      clear hx
      go_wp2
      go_ret
      exact ⟨⟨_, rfl, HX.out⟩, rfl⟩
theorem conGone (v : Value) (l : List Int) (i : Int) (b : Nat) (w : World) (h : IntsR w v l) (hb : w.cell? ⟨b, 0, none⟩ = some (.int .i64 i)) (hl : l.length ≤ 1000) :
    Calls Tryz.prog 95 #[v, .func (.func 96) #[] #[.pointer (some ⟨b, 0, none⟩)]] w fun e w' => e = .returned (.bool (gbB l i)) ∧ w = w' := by
  have HI := Lib.hid (ixGone v l i b w h hb hl)
  obtain ⟨A, c, rfl⟩ := ints_form h rfl
  clear h hl hb
  go_enter Tryz.func95, Tryz.ntmps95
  go_wp2_with fail
  refine HI.out.mono ?_
  rintro e w4 ⟨⟨r, rfl, hr⟩, rfl⟩
  have HR := Lib.hid hr
  clear hr
  go_wp2
  go_ret
  exact ⟨ret_bool HR.out, rfl⟩
end Go.Proofs.YtnkjaocmfhjnoaaGreat
namespace Go.Proofs.YtnkjaocmfhjnoaaGreat
open Go Go.RowKit
set_option maxRecDepth 100000

attribute [local go_sem] cell_off4 cell_blk4
section
variable {w : World} {vb va : Value} {A : Nat → Option Addr} {C : Nat → Nat} {N : Nat → List Int} {A5 : Option Addr} {c5 : Nat} {lost : List Ech} {A6 : Option Addr} {c6 : Nat} {won : List Ech} {t u : List Nd}
abbrev dfV (vb va : Value) (A : Nat → Option Addr) (C : Nat → Nat) (N : Nat → List Int) (A5 : Option Addr) (c5 : Nat) (lost : List Ech) (A6 : Option Addr) (c6 : Nat) (won : List Ech) : Value := .agg (dfC vb va A C N A5 c5 lost A6 c6 won)
set_option maxHeartbeats 4000000 in
theorem goneBut_any (i : Int) (w : World) (h : DfR w vb va A C N A5 c5 lost A6 c6 won t u) :
    Calls Tryz.prog 61 #[dfV vb va A C N A5 c5 lost A6 c6 won, .int .i64 i] w fun e w' => e = .returned (.bool (gbB (N 2) i)) ∧ Below w.heap.size w w' := by
  have hmf : ∀ (fn : Fn) (first cap : Array Value) (w : World), (Instr.makeFunc fn first cap).run Tryz.prog w = .ok (.func fn first cap) w := fun _ _ _ _ => rfl
  obtain ⟨W1, hW1⟩ : ∃ W, (w.alloc (.cells (dfC vb va A C N A5 c5 lost A6 c6 won) 87)).alloc (.cells #[.int .i64 i] 3) = W := ⟨_, rfl⟩
  have hb1 : Below w.heap.size w W1 := by rw [← hW1]; exact al (ba _ _) _
  have hk1 : Blk W1 w.heap.size 87 (dfC vb va A C N A5 c5 lost A6 c6 won) := by rw [← hW1]; exact (Blk.new _ _ _).alloc _
  have hk2 : Blk W1 (w.heap.size + 1) 3 #[.int .i64 i] := by
    have h1 := Blk.new (w.alloc (.cells (dfC vb va A C N A5 c5 lost A6 c6 won) 87)) 3 #[.int .i64 i]
    rw [← hW1]
    simpa using h1
  have p4 : W1.cell? ⟨w.heap.size, 4, none⟩ = some (.slice (A 2) (N 2).length (C 2)) := hk1.cell 4
  have HC := Lib.hid (conGone _ (N 2) i (w.heap.size + 1) W1 ((h.num 2 (by decide)).below hb1) (hk2.cell 0) (by have := h.few 2 (by decide); omega))
  have HB := Lib.hid hb1
  generalize gbB (N 2) i = X at HC ⊢
  clear h hb1 hk1 hk2
  go_enter Tryz.func61, Tryz.ntmps61
  go_wp2_with fail
  refine HC.out.mono ?_
  rintro e w2 ⟨rfl, rfl⟩
  clear hW1
  go_wp2
  go_ret
  exact ⟨rfl, HB.out⟩
set_option maxHeartbeats 4000000 in
theorem only_any (k : Nat) (hk : k = 1 ∨ k = 2 ∨ k = 4) (w : World) (h : DfR w vb va A C N A5 c5 lost A6 c6 won t u) :
    Calls Tryz.prog 60 #[dfV vb va A C N A5 c5 lost A6 c6 won, .int .i64 k] w fun e w' => e = .returned (.int .i64 (onlyI (N k))) ∧ Below w.heap.size w w' := by
  have hb1 := ba w (.cells (dfC vb va A C N A5 c5 lost A6 c6 won) 87)
  have hk1 := Blk.new w 87 (dfC vb va A C N A5 c5 lost A6 c6 won)
  obtain ⟨W1, hW1⟩ : ∃ W, w.alloc (.cells (dfC vb va A C N A5 c5 lost A6 c6 won) 87) = W := ⟨_, rfl⟩
  rw [hW1] at hb1 hk1
  have HB := Lib.hid hb1
  have HN := Lib.hid ((h.num k (by omega)).below hb1)
  have p3 := hk1.cell 3
  have p4 := hk1.cell 4
  have p6 := hk1.cell 6
  simp at p3 p4 p6
  clear h hb1 hk1
  by_cases hl : (N k).length = 1
  · obtain ⟨x, hx⟩ := one_of hl
    have HX := Lib.hid (show x = onlyI (N k) by rw [hx]; rfl)
    obtain ⟨ad, hA, c0⟩ := ints_get HN.out (show (N k)[0]? = some x by rw [hx]; rfl)
    rw [add_none] at c0
    have hz : ad.block < W1.heap.size := World.block_lt_of_cell? _ _ c0
    have hp : ∀ j, j = k + 2 → W1.cell? ⟨w.heap.size, j, none⟩ = some (.slice (some ad) 1 (C k)) := fun j hj => by
      subst hj
      rcases hk with rfl | rfl | rfl
      · rw [p3, hl, hA]
      · rw [p4, hl, hA]
      · rw [p6, hl, hA]
    generalize onlyI (N k) = X at HX ⊢
    clear p3 p4 p6
    rcases hk with rfl | rfl | rfl
    have p := hp 3 rfl
    rotate_left
    have p := hp 4 rfl
    rotate_left
    have p := hp 6 rfl
    rotate_left
    all_goals (
      clear hx HN hp hl hA
      go_enter Tryz.func60, Tryz.ntmps60
      go_wp2
      clear hW1
      go_ret
      exact ⟨ret_int HX.out, HB.out⟩)
  · have HX := Lib.hid (show 0 = onlyI (N k) from (only_nil hl).symm)
    have e1 : (((N k).length : Int) != 1) = true := by
      rw [bne_iff_ne]
      omega
    generalize onlyI (N k) = X at HX ⊢
    rcases hk with rfl | rfl | rfl
    all_goals (
      clear hl HN
      go_enter Tryz.func60, Tryz.ntmps60
      go_wp2
      go_ret
      exact ⟨ret_int HX.out, HB.out⟩)
set_option maxHeartbeats 4000000 in
theorem nothing_any (fs : List Nat) (hf : ∀ f ∈ fs, f < 5) (v : Value) (w : World) (hv : IntsR w v (fs.map (fun (f : Nat) => (f : Int)))) (hl : fs.length ≤ 1000) :
    Calls Tryz.prog 58 #[dfV vb va A C N A5 c5 lost A6 c6 won, v] w fun e w' => e = .returned (.bool (fs.all (fun f => (N f).isEmpty))) ∧ Below w.heap.size w w' := by
  obtain ⟨X, hX⟩ : ∃ X, (fs.all (fun f => (N f).isEmpty)) = X := ⟨_, rfl⟩
  rw [hX]
  have HX0 := Lib.hid (show (fs.drop 0).all (fun f => (N f).isEmpty) = X from hX)
  have hb1 := ba w (.cells (dfC vb va A C N A5 c5 lost A6 c6 won) 87)
  have hk1 := Blk.new w 87 (dfC vb va A C N A5 c5 lost A6 c6 won)
  obtain ⟨W1, hW1⟩ : ∃ W, w.alloc (.cells (dfC vb va A C N A5 c5 lost A6 c6 won) 87) = W := ⟨_, rfl⟩
  rw [hW1] at hb1 hk1
  have HB := Lib.hid hb1
  have HV := Lib.hid (hv.below hb1)
  have HF := Lib.hid hf
  have hml : (fs.map (fun (f : Nat) => (f : Int))).length = fs.length := List.length_map ..
  obtain ⟨A1, c1, rfl⟩ := ints_form hv rfl
  rw [hml] at HV ⊢
  have p2 := hk1.cell 2
  have p3 := hk1.cell 3
  have p4 := hk1.cell 4
  have p5 := hk1.cell 5
  have p6 := hk1.cell 6
  simp at p2 p3 p4 p5 p6
  clear hb1 hk1 hv hf hml hX
  go_enter Tryz.func58, Tryz.ntmps58
  go_wp2
  clear hW1
  go_loopg [9] fs.length (fun gh s9 wr => ∃ k : Nat, s9 = .int .i64 k ∧ k ≤ fs.length ∧ gh = fs.length - k ∧ (fs.drop k).all (fun f => (N f).isEmpty) = X ∧ wr = W1)
  case atStart => exact ⟨0, rfl, Nat.zero_le _, rfl, HX0.out, rfl⟩
  case round =>
    clear HX0
    obtain ⟨k, rfl, hk, rfl, hx, rfl⟩ := hrel
    by_cases hlt : k < fs.length
    · have hlt' : (k : Int) < (fs.length : Int) := by omega
      obtain ⟨f, hkf⟩ : ∃ f, fs[k]? = some f := ⟨_, List.getElem?_eq_getElem hlt⟩
      obtain ⟨ad, hA, d0⟩ := ints_get HV.out (show (fs.map (fun (f : Nat) => (f : Int)))[k]? = some (f : Int) by rw [List.getElem?_map, hkf]; rfl)
      subst hA
      have h5 := HF.out f (List.mem_of_getElem? hkf)
      have hx2 : ((N f).isEmpty && (fs.drop (k + 1)).all (fun f => (N f).isEmpty)) = X := by
        obtain ⟨h1, h2⟩ := List.getElem?_eq_some_iff.1 hkf
        rw [← hx, List.drop_eq_getElem_cons h1, List.all_cons, h2]
      clear hx hkf
      by_cases he : N f = []
      · have HX := Lib.hid (show (fs.drop (k + 1)).all (fun f => (N f).isEmpty) = X by rw [← hx2, he]; rfl)
        have hz : ¬ ((N f).length : Int) > 0 := by rw [he]; decide
        clear he hx2
        have h6 : f = 0 ∨ f = 1 ∨ f = 2 ∨ f = 3 ∨ f = 4 := by omega
        clear h5
        rcases h6 with rfl | rfl | rfl | rfl | rfl
        all_goals (
          go_wp2
          go_roundg (fs.length - (k + 1))
          case measure => omega
          case rel => exact ⟨k + 1, by go_num, by omega, rfl, HX.out, rfl⟩)
      · have HX := Lib.hid (show false = X by
          rw [← hx2]
          cases hq : N f with
          | nil => exact absurd hq he
          | cons y l => rfl)
        have hz : ((N f).length : Int) > 0 := by
          have := List.length_pos_iff.2 he
          omega
        clear he hx2
        have h6 : f = 0 ∨ f = 1 ∨ f = 2 ∨ f = 3 ∨ f = 4 := by omega
        clear h5
        rcases h6 with rfl | rfl | rfl | rfl | rfl
        all_goals (
          go_wp2
          go_ret
          exact ⟨ret_bool HX.out, HB.out⟩)
    · have hlt' : ¬ (k : Int) < (fs.length : Int) := by omega
      rw [List.drop_eq_nil_of_le (by omega)] at hx
      have HX := Lib.hid (show true = X from hx)
      clear hx
      go_wp2
      go_ret
      exact ⟨ret_bool HX.out, HB.out⟩
end
end Go.Proofs.YtnkjaocmfhjnoaaGreat
namespace Go.Proofs.YtnkjaocmfhjnoaaGreat
open Go Go.RowKit
set_option maxRecDepth 100000

attribute [local go_sem] cell_off4 cell_blk4
theorem bare_few {n : Nd} (h : Few n) : Few (bareN n) := ⟨h.data, by show 0 ≤ _; exact Nat.zero_le _, (fun e he => by cases he), h.target⟩
set_option maxHeartbeats 4000000 in
theorem sbe_any (a b : Nd) (vd ve vd' ve' : Value) (w : World) (hd : BytesR w vd a.data) (hd' : BytesR w vd' b.data) (hf : Few a) (hf' : Few b) :
    Calls Tryz.prog 91 #[.agg (ndC a vd ve), .agg (ndC b vd' ve')] w fun e w' => e = .returned (.bool (toB (bareN a = bareN b))) ∧ Below w.heap.size w w' := by
  obtain ⟨W1, hW1⟩ : ∃ W, (w.alloc (.cells (ndC a vd ve) 65)).alloc (.cells (ndC b vd' ve') 65) = W := ⟨_, rfl⟩
  have hb1 : Below w.heap.size w W1 := by rw [← hW1]; exact al (ba _ _) _
  have hk1 : Blk W1 w.heap.size 65 (ndC a vd ve) := by rw [← hW1]; exact (Blk.new _ _ _).alloc _
  obtain ⟨z, hz⟩ : ∃ z, w.heap.size + 1 = z := ⟨_, rfl⟩
  have hk2 : Blk W1 z 65 (ndC b vd' ve') := by
    have h1 := Blk.new (w.alloc (.cells (ndC a vd ve) 65)) 65 (ndC b vd' ve')
    rw [← hW1, ← hz]
    simpa using h1
  have hz1 : w.heap.size ≠ z := by omega
  have hg := grown_setCell W1 ⟨w.heap.size, 5, none⟩ (.slice none 0 0)
  have hk3 := hk1.set7_5 (.slice none 0 0)
  have hk4 := hk2.kept hg (some_ne (fun q => hz1 q.symm))
  have hg2 := grown_setCell (W1.setCell ⟨w.heap.size, 5, none⟩ (.slice none 0 0)) ⟨z, 5, none⟩ (.slice none 0 0)
  have hk5 := hk3.kept hg2 (some_ne hz1)
  have hk6 := hk4.set7_5 (.slice none 0 0)
  have hb2 := below_grown (below_grown hb1 hg (Nat.le_refl _)) hg2 (show w.heap.size ≤ z by omega)
  obtain ⟨W2, hW2⟩ : ∃ W, (W1.setCell ⟨w.heap.size, 5, none⟩ (.slice none 0 0)).setCell ⟨z, 5, none⟩ (.slice none 0 0) = W := ⟨_, rfl⟩
  rw [hW2] at hb2 hk5 hk6
  have HS := Lib.hid (same_any (bareN a) (bareN b) vd (.slice none 0 0) vd' (.slice none 0 0) W2 (hd.below hb2) (EntsR.nil _) (hd'.below hb2) (EntsR.nil _) (bare_few hf) (bare_few hf'))
  obtain ⟨x0, x1, x2, x3, x4, x5, x6⟩ := hk5.c7
  obtain ⟨y0, y1, y2, y3, y4, y5, y6⟩ := hk6.c7
  have p5 := hk1.cell 5
  have p6 := hk2.cell 5
  simp at p5 p6
  have f5 := hk1.frozen 5
  have f6 := hk2.frozen 5
  have HB2 := Lib.hid hb2
  generalize toB (bareN a = bareN b) = X at HS ⊢
  unfold nodeV bareN at HS
  clear hd hd' hf hf' hb1 hk1 hk2 hg hk3 hk4 hg2 hk5 hk6 hb2
  go_enter Tryz.func91, Tryz.ntmps91
  go_wp2_with fail
  refine HS.out.mono ?_
  rintro e w2 ⟨rfl, hb3⟩
  have HB3 := Lib.hid (bt hb3 HB2.out)
  clear hb3 hW1 hW2
  go_wp2
  go_ret
  exact ⟨rfl, HB3.out⟩
section
variable {w : World} {vb va : Value} {A : Nat → Option Addr} {C : Nat → Nat} {N : Nat → List Int} {A5 : Option Addr} {c5 : Nat} {lost : List Ech} {A6 : Option Addr} {c6 : Nat} {won : List Ech} {t u : List Nd}
theorem fate_new {a b : Nd} (h : a.kind = 0) (h2 : b.kind ≠ 0) : fateN a b = 1 := if_pos ⟨h, h2⟩
theorem fate_gone {a b : Nd} (h : a.kind ≠ 0) (h2 : b.kind = 0) : fateN a b = 2 := by unfold fateN; rw [if_neg (fun q => h q.1), if_pos ⟨h, h2⟩]
theorem fate_rest {a b : Nd} (h : (a.kind = 0 ∧ b.kind = 0) ∨ (a.kind ≠ 0 ∧ b.kind ≠ 0)) : fateN a b = if toB (a = b) = true then 0 else if toB (a.kind = 2 ∧ bareN a = bareN b) = true then 3 else 4 := by
  unfold fateN
  rw [if_neg (fun q => by rcases h with h | h; exact q.2 h.2; exact h.1 q.1), if_neg (fun q => by rcases h with h | h; exact q.1 h.1; exact h.2 q.2)]
set_option maxHeartbeats 8000000 in
theorem fateOf_any (i : Int) (w : World) (h : DfR w vb va A C N A5 c5 lost A6 c6 won t u) :
    Calls Tryz.prog 55 #[dfV vb va A C N A5 c5 lost A6 c6 won, .int .i64 i] w fun e w' => e = .returned (.int .i64 (fateN (tget t i) (tget u i) : Nat)) ∧ Below w.heap.size w w' := by
  have hb1 := ba w (.cells (dfC vb va A C N A5 c5 lost A6 c6 won) 87)
  have hk1 := Blk.new w 87 (dfC vb va A C N A5 c5 lost A6 c6 won)
  obtain ⟨W1, hW1⟩ : ∃ W, w.alloc (.cells (dfC vb va A C N A5 c5 lost A6 c6 won) 87) = W := ⟨_, rfl⟩
  rw [hW1] at hb1 hk1
  have p0 := hk1.cell 0
  simp at p0
  have HG := Lib.hid (get_any vb t i W1 (h.tb.below hb1))
  have HG' := Lib.hid (fun W (hb : Below W1.heap.size W1 W) => get_any va u i W ((h.ta.below hb1).below hb))
  have HF := Lib.hid (ok_few h.tb.ok.1 i)
  have HF' := Lib.hid (ok_few h.ta.ok.1 i)
  have hX : tis t i = decide ((tget t i).kind ≠ 0) := rfl
  have hX' : tis u i = decide ((tget u i).kind ≠ 0) := rfl
  have HB := Lib.hid hb1
  have HK := Lib.hid hk1
  obtain ⟨X, hx⟩ : ∃ X, tis t i = X := ⟨_, rfl⟩
  obtain ⟨X', hx'⟩ : ∃ X, tis u i = X := ⟨_, rfl⟩
  rw [hx] at hX HG
  rw [hx'] at hX' HG'
  obtain ⟨n, hn⟩ : ∃ n, tget t i = n := ⟨_, rfl⟩
  obtain ⟨m, hm⟩ : ∃ m, tget u i = m := ⟨_, rfl⟩
  rw [hn] at HG HF hX ⊢
  rw [hm] at HG' HF' hX' ⊢
  have HX := Lib.hid hX
  have HX' := Lib.hid hX'
  unfold nodeV at HG HG'
  clear h hb1 hk1 hx hx' hX hX' hn hm
  go_enter Tryz.func55, Tryz.ntmps55
  go_wp2_with fail
  clear hW1
  refine HG.out.mono ?_
  rintro e w2 ⟨vd, ve, rfl, hd, he, -, -, hb2⟩
  obtain ⟨B5, k5, rfl⟩ := bytesT_form hd
  obtain ⟨B6, k6, rfl⟩ := entsT_form he
  have hbx := al hb2 (.cells (ndC n (.slice B5 n.data.length k5) (.slice B6 n.ents.length k6)) 65)
  have hkn := Blk.new w2 65 (ndC n (.slice B5 n.data.length k5) (.slice B6 n.ents.length k6))
  have hd3 := hd.1.below (ba w2 (.cells (ndC n (.slice B5 n.data.length k5) (.slice B6 n.ents.length k6)) 65))
  have he3 := he.1.below (ba w2 (.cells (ndC n (.slice B5 n.data.length k5) (.slice B6 n.ents.length k6)) 65))
  obtain ⟨z1, hz1⟩ : ∃ z, w2.heap.size = z := ⟨_, rfl⟩
  obtain ⟨W3, hW3⟩ : ∃ W, w2.alloc (.cells (ndC n (.slice B5 n.data.length k5) (.slice B6 n.ents.length k6)) 65) = W := ⟨_, rfl⟩
  rw [hW3] at hbx hkn hd3 he3
  rw [hz1] at hkn
  have p1 : W3.cell? ⟨w.heap.size, 1, none⟩ = some va := (HK.out.below hbx).cell 1
  have HB3 := Lib.hid (bt hbx HB.out)
  have HKN := Lib.hid hkn
  have HD3 := Lib.hid hd3
  have HE3 := Lib.hid he3
  have HG3 := Lib.hid (HG'.out W3 hbx)
  clear hd he hb2 hbx hkn hd3 he3 HG HG' p0
  go_wp2_with fail
  clear hW3 hz1
  refine HG3.out.mono ?_
  rintro e w4 ⟨vd', ve', rfl, hd, he, -, -, hb4⟩
  obtain ⟨B7, k7, rfl⟩ := bytesT_form hd
  obtain ⟨B8, k8, rfl⟩ := entsT_form he
  have hby := al hb4 (.cells (ndC m (.slice B7 m.data.length k7) (.slice B8 m.ents.length k8)) 65)
  have hkm := Blk.new w4 65 (ndC m (.slice B7 m.data.length k7) (.slice B8 m.ents.length k8))
  have hd5 := hd.1.below (ba w4 (.cells (ndC m (.slice B7 m.data.length k7) (.slice B8 m.ents.length k8)) 65))
  have he5 := he.1.below (ba w4 (.cells (ndC m (.slice B7 m.data.length k7) (.slice B8 m.ents.length k8)) 65))
  obtain ⟨z2, hz2⟩ : ∃ z, w4.heap.size = z := ⟨_, rfl⟩
  have hkn5 := HKN.out.below hby
  obtain ⟨W5, hW5⟩ : ∃ W, w4.alloc (.cells (ndC m (.slice B7 m.data.length k7) (.slice B8 m.ents.length k8)) 65) = W := ⟨_, rfl⟩
  rw [hW5] at hby hkm hd5 he5 hkn5
  rw [hz2] at hkm
  have HSM := Lib.hid (same_any n m _ _ _ _ W5 (HD3.out.below hby) (HE3.out.below hby) hd5 he5 HF.out HF'.out)
  have HSB := Lib.hid (fun W (hb : Below W5.heap.size W5 W) => sbe_any n m (.slice B5 n.data.length k5) (.slice B6 n.ents.length k6) (.slice B7 m.data.length k7) (.slice B8 m.ents.length k8) W ((HD3.out.below hby).below hb) (hd5.below hb) HF.out HF'.out)
  have HK5 := Lib.hid (And.intro hkn5 hkm)
  have HB5 := Lib.hid (bt hby HB3.out)
  obtain ⟨x0, x1, x2, x3, x4, x5, x6⟩ := hkn5.c7
  obtain ⟨y0, y1, y2, y3, y4, y5, y6⟩ := hkm.c7
  unfold nodeV at HSM
  clear hd he hb4 hby hkm hd5 he5 hkn5 HG3 p1 HD3 HE3
  have hXX : (X = false ∧ X' = true) ∨ (X = true ∧ X' = false) ∨ (X = X') := by cases X <;> cases X' <;> simp
  rcases hXX with ⟨rfl, rfl⟩ | ⟨rfl, rfl⟩ | rfl
  · have HZ := Lib.hid (show (1 : Int) = (fateN n m : Nat) by
      rw [fate_new (by simpa using HX.out) (by simpa using HX'.out)]
      rfl)
    go_wp2
    clear hW5 hz2
    go_ret
    exact ⟨ret_int HZ.out, HB5.out⟩
  · have HZ := Lib.hid (show (2 : Int) = (fateN n m : Nat) by
      rw [fate_gone (by simpa using HX.out) (by simpa using HX'.out)]
      rfl)
    go_wp2
    clear hW5 hz2
    go_ret
    exact ⟨ret_int HZ.out, HB5.out⟩
  · have HZ := Lib.hid (show fateN n m = if toB (n = m) = true then 0 else if toB (n.kind = 2 ∧ bareN n = bareN m) = true then 3 else 4 from fate_rest (by
      have h1 := HX.out
      have h2 := HX'.out
      cases X
      · exact .inl ⟨by simpa using h1, by simpa using h2⟩
      · exact .inr ⟨by simpa using h1, by simpa using h2⟩))
    have hXT : (X && !X) = false := by cases X <;> rfl
    have hXF : (!X && X) = false := by cases X <;> rfl
    obtain ⟨q, hq⟩ : ∃ q, toB (n = m) = q := ⟨_, rfl⟩
    rw [hq] at HZ HSM
    clear hq
    clear HX HX'
    cases q
    · have HZ2 := Lib.hid (show fateN n m = if toB (n.kind = 2 ∧ bareN n = bareN m) = true then 3 else 4 from HZ.out)
      by_cases hk : n.kind = 2
      · have hkb : (n.kind == 2) = true := by simpa using hk
        have HZ3 := Lib.hid (show fateN n m = if toB (bareN n = bareN m) = true then 3 else 4 by
          rw [HZ2.out, toB_congr (q := bareN n = bareN m) ⟨fun h => h.2, fun h => ⟨hk, h⟩⟩])
        clear hk HZ HZ2
        cases X
        all_goals (
          go_wp2_with fail
          clear hW5 hz2
          refine HSM.out.mono ?_
          rintro e w6 ⟨rfl, hb6⟩
          have HSB6 := Lib.hid (HSB.out w6 hb6)
          obtain ⟨x0, x1, x2, x3, x4, x5, x6⟩ := (HK5.out.1.below hb6).c7
          obtain ⟨y0, y1, y2, y3, y4, y5, y6⟩ := (HK5.out.2.below hb6).c7
          have HB6 := Lib.hid (bt hb6 HB5.out)
          clear hb6 HSM HSB
          generalize toB (bareN n = bareN m) = r at HZ3 HSB6
          go_wp2_with fail
          refine HSB6.out.mono ?_
          rintro e w7 ⟨rfl, hb7⟩
          have HB7 := Lib.hid (bt hb7 HB6.out)
          clear hb7
          cases r
          · have HZ4 := Lib.hid (show (4 : Int) = (fateN n m : Nat) by rw [HZ3.out]; rfl)
            go_wp2
            go_ret
            exact ⟨ret_int HZ4.out, HB7.out⟩
          · have HZ4 := Lib.hid (show (3 : Int) = (fateN n m : Nat) by rw [HZ3.out]; rfl)
            go_wp2
            go_ret
            exact ⟨ret_int HZ4.out, HB7.out⟩)
      · have hkb : (n.kind == 2) = false := by simpa using hk
        have HZ3 := Lib.hid (show (4 : Int) = (fateN n m : Nat) by rw [HZ2.out, toB_false (fun h => hk h.1)]; rfl)
        clear hk HZ HZ2 HSB
        cases X
        all_goals (
          go_wp2_with fail
          clear hW5 hz2
          refine HSM.out.mono ?_
          rintro e w6 ⟨rfl, hb6⟩
          obtain ⟨x0, x1, x2, x3, x4, x5, x6⟩ := (HK5.out.1.below hb6).c7
          obtain ⟨y0, y1, y2, y3, y4, y5, y6⟩ := (HK5.out.2.below hb6).c7
          have HB6 := Lib.hid (bt hb6 HB5.out)
          clear hb6 HSM
          go_wp2
          go_ret
          exact ⟨ret_int HZ3.out, HB6.out⟩)
    · have HZ3 := Lib.hid (show (0 : Int) = (fateN n m : Nat) by rw [HZ.out]; rfl)
      clear HZ HSB
      cases X
      all_goals (
        go_wp2_with fail
        clear hW5 hz2
        refine HSM.out.mono ?_
        rintro e w6 ⟨rfl, hb6⟩
        have HB6 := Lib.hid (bt hb6 HB5.out)
        clear hb6 HSM
        go_wp2
        go_ret
        exact ⟨ret_int HZ3.out, HB6.out⟩)
end
end Go.Proofs.YtnkjaocmfhjnoaaGreat
