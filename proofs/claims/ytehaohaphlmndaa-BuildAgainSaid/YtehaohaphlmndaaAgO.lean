/-
  What is told of what is built of what is told is the same, as plain mathematics. No condition.
-/
import Derived.Test.YtehaohaphlmndaaAgN
namespace Go.Proofs.Ytehaohaphlmndaa
open Go Go.RowKit
set_option maxRecDepth 100000

section
variable {t U : List Nd} {F : List Int}
theorem al_E {p : Int} {s : Tl} {e : En} (hU : ∀ (q : Nat) (d : Int), F[q]? = some d → ∀ p nm, rwN (tget U ((q : Int) + 1)) p nm = rwN (tget t d) p nm) (hs : s.1 <+: F) (hs2 : (tlE t p s e.2 e.1).1 <+: F) :
    tlE U p (upN s.1.length, s.2) (rnE F e).2 (rnE F e).1 = (upN (tlE t p s e.2 e.1).1.length, (tlE t p s e.2 e.1).2) := by
  by_cases hm : e.2 ∈ s.1
  · have hE : tlE t p s e.2 e.1 = (s.1, s.2 ++ [rwA p e.1 ((s.1.idxOf e.2 : Int) + 1)]) := if_pos hm
    have hix := pre_idx hs hm
    have hil : s.1.idxOf e.2 < s.1.length := List.idxOf_lt_length_of_mem hm
    rw [hE]
    unfold tlE rnE
    rw [hix]
    show (if ((s.1.idxOf e.2 : Nat) : Int) + 1 ∈ upN s.1.length then _ else _) = _
    rw [if_pos (up_mem.2 ⟨by omega, by omega⟩)]
    show (upN s.1.length, s.2 ++ [rwA p e.1 (((upN s.1.length).idxOf (((s.1.idxOf e.2 : Nat) : Int) + 1) : Int) + 1)]) = _
    rw [up_idx hil]
  · have hE : tlE t p s e.2 e.1 = (s.1 ++ [e.2], s.2 ++ [rwN (tget t e.2) p e.1]) := if_neg hm
    rw [hE] at hs2 ⊢
    have hix : F.idxOf e.2 = s.1.length := by
      have h1 := pre_idx hs2 (i := e.2) (List.mem_append.2 (.inr (List.mem_singleton.2 rfl)))
      rw [h1, List.idxOf_append, if_neg hm]
      simp
    have hfp : F[s.1.length]? = some e.2 := by
      rw [pre_at hs2 (by rw [List.length_append]; exact Nat.lt_succ_self _), List.getElem?_append_right (Nat.le_refl _), Nat.sub_self]
      rfl
    have hr := hU s.1.length e.2 hfp p e.1
    unfold tlE rnE
    rw [hix]
    show (if (s.1.length : Int) + 1 ∈ upN s.1.length then _ else _) = _
    rw [if_neg (fun z => by have := up_mem.1 z; omega)]
    show (upN s.1.length ++ [(s.1.length : Int) + 1], s.2 ++ [rwN (tget U ((s.1.length : Int) + 1)) p e.1]) = _
    rw [up_snoc, hr, List.length_append]
    rfl
theorem al_D {k : Nat} {s : Tl} {l : List En} (hU : ∀ (q : Nat) (d : Int), F[q]? = some d → ∀ p nm, rwN (tget U ((q : Int) + 1)) p nm = rwN (tget t d) p nm) (hp : ∀ j, (tlD t k s (l.take j)).1 <+: F) :
    ∀ j, j ≤ l.length → tlD U k (upN s.1.length, s.2) ((l.map (rnE F)).take j) = (upN (tlD t k s (l.take j)).1.length, (tlD t k s (l.take j)).2)
  | 0, _ => by
    rw [List.take_zero, List.take_zero]
    rfl
  | j + 1, hj => by
    have ih := al_D hU hp j (by omega)
    obtain ⟨e, he⟩ : ∃ e, l[j]? = some e := ⟨_, List.getElem?_eq_getElem hj⟩
    have he2 : (l.map (rnE F))[j]? = some (rnE F e) := by rw [List.getElem?_map, he]; rfl
    have h1 := hp j
    have h2 := hp (j + 1)
    rw [tlD_snoc he] at h2 ⊢
    rw [tlD_snoc he2, ih]
    exact al_E hU h1 h2
end
section
variable {t : List Nd}
theorem re_raw (hT : Trx t) {F : List Int} (hFe : finT t = F) : ∀ (q : Nat) (d : Int), F[q]? = some d → ∀ p nm, rwN (tget (reT t) ((q : Int) + 1)) p nm = rwN (tget t d) p nm := by
  intro q d hd p nm
  have hq := (List.getElem?_eq_some_iff.1 hd).1
  rw [re_get hT (by rw [hFe]; exact hq), hFe]
  have : fN t F q = tget t d := by
    unfold fN
    rw [List.getD_eq_getElem?_getD, hd]
    rfl
  rw [this]
  rfl
theorem re_ents (hT : Trx t) {F : List Int} (hFe : finT t = F) {q : Nat} {d : Int} (hd : F[q]? = some d) : (tget (reT t) ((q : Int) + 1)).ents = (tget t d).ents.map (rnE F) := by
  have hq := (List.getElem?_eq_some_iff.1 hd).1
  rw [re_get hT (by rw [hFe]; exact hq), hFe]
  have : fN t F q = tget t d := by
    unfold fN
    rw [List.getD_eq_getElem?_getD, hd]
    rfl
  rw [this]
theorem up_get {n q : Nat} (h : q < n) : (upN n)[q]? = some ((q : Int) + 1) := by
  rw [List.getElem?_eq_getElem (by rw [up_len]; exact h)]
  unfold upN
  rw [List.getElem_map, List.getElem_range]
theorem re_tlS (hT : Trx t) {F : List Int} (hFe : finT t = F) (k : Nat) (hk : k ≤ 24) : tlS (reT t) k = (upN (tlS t k).1.length, (tlS t k).2) := by
  induction k with
  | zero =>
    have hp := pre_fin t (k := 0) (by omega)
    rw [hFe, tlS_zero] at hp
    have h0 : F[0]? = some (1 : Int) := by rw [pre_at hp (show 0 < ([(1 : Int)] : List Int).length by decide)]; rfl
    have h1 := re_raw hT hFe 0 1 h0 0 []
    have h2 : tget (reT t) (((0 : Nat) : Int) + 1) = tget (reT t) 1 := rfl
    rw [h2] at h1
    have h3 : upN ([(1 : Int)] : List Int).length = [1] := rfl
    rw [tlS_zero, tlS_zero, h1, h3]
  | succ k ih =>
    have ih := ih (by omega)
    cases hd : (tlS t k).1[k]? with
    | none =>
      have hle : (tlS t k).1.length ≤ k := List.getElem?_eq_none_iff.1 hd
      have hle2 : (tlS (reT t) k).1.length ≤ k := by
        rw [ih]
        show (upN (tlS t k).1.length).length ≤ k
        rw [up_len]
        exact hle
      rw [tlS_halt hle, tlS_halt hle2, ih]
    | some d =>
      have hkl := (List.getElem?_eq_some_iff.1 hd).1
      have hpk : (tlS t k).1 <+: F := by rw [← hFe]; exact pre_fin t (by omega)
      have hfd : F[k]? = some d := by rw [pre_at hpk hkl]; exact hd
      have hd2 : (tlS (reT t) k).1[k]? = some ((k : Int) + 1) := by
        rw [ih]
        exact up_get hkl
      have hal := al_D (U := reT t) (l := (tget t d).ents) (re_raw hT hFe) (fun j => by rw [← hFe]; exact pre_part (by omega) hd j) (tget t d).ents.length (Nat.le_refl _)
      rw [List.take_length, List.take_of_length_le (by rw [List.length_map]; exact Nat.le_refl _), ← tlS_go hd] at hal
      rw [tlS_go hd2, re_ents hT hFe hfd, ih]
      exact hal
theorem re_told (hT : Trx t) : tlT (reT t) = tlT t := by
  unfold tlT
  rw [re_tlS hT rfl 24 (Nat.le_refl _)]
/-- As many entries are told as there are. -/
theorem sum_take (g : Int → Nat) (F : List Int) : ∀ L, ((List.range L).map (fun q => if q < F.length then g (F.getD q 0) else 0)).sum = ((F.take L).map g).sum
  | 0 => rfl
  | L + 1 => by
    rw [List.range_succ, List.map_append, List.sum_append, sum_take g F L, List.take_add_one]
    by_cases h : L < F.length
    · rw [List.getElem?_eq_getElem h, List.map_append, List.sum_append, List.map_cons, List.map_nil, if_pos h, List.getD_eq_getElem?_getD, List.getElem?_eq_getElem h]
      rfl
    · rw [List.getElem?_eq_none (by omega), List.map_append, List.sum_append, List.map_cons, List.map_nil, if_neg h]
      rfl
theorem sum_up (g : Int → Nat) {u : Nat} (hz : ∀ i : Int, u < i → g i = 0) : ∀ n, u ≤ n → ((upN n).map g).sum = ((upN u).map g).sum
  | 0, h => by rw [show u = 0 by omega]
  | n + 1, h => by
    by_cases q : u = n + 1
    · rw [q]
    · rw [← up_snoc, List.map_append, List.sum_append, sum_up g hz n (by omega), List.map_cons, List.map_nil, hz ((n : Int) + 1) (by omega)]
      rfl
theorem ent_up (t : List Nd) : entT t = ((upN t.length).map (fun i => (tget t i).ents.length)).sum := by
  have h : t.map (fun n => n.ents.length) = (upN t.length).map (fun i => (tget t i).ents.length) := by
    refine List.ext_getElem (by rw [List.length_map, List.length_map, up_len]) (fun k h1 h2 => ?_)
    rw [List.length_map] at h1
    rw [List.getElem_map, List.getElem_map]
    have h3 : (upN t.length)[k]'(by rw [up_len]; exact h1) = (k : Int) + 1 := by
      unfold upN
      rw [List.getElem_map, List.getElem_range]
    rw [h3, tget_at h1]
  unfold entT
  rw [h]
theorem re_ent (hT : Trx t) : entT (reT t) = entT t := by
  have hp := fin_perm hT
  have hl := okS_len (okF hT)
  have hfl : (finT t).length ≤ t.length := hl
  have h24 := fin_24 hT
  have h1 : entT t = ((upN (usedT t)).map (fun i => (tget t i).ents.length)).sum := by
    rw [ent_up]
    refine sum_up _ (fun i hi => ?_) t.length (used_le t)
    have : tis t i = false := by
      rw [Bool.eq_false_iff]
      intro z
      have := (hT.num i).1 z
      omega
    show (tget t i).ents.length = 0
    rw [tis_not hT.ok this]
    rfl
  have h2 : ((finT t).map (fun i => (tget t i).ents.length)).sum = entT t := by
    rw [h1]
    exact (hp.map _).sum_nat
  rw [← h2]
  generalize hF : finT t = F at hfl h24
  have h3 := sum_take (fun i => (tget t i).ents.length) F t.length
  rw [List.take_of_length_le hfl] at h3
  rw [← h3]
  have h4 : reT t = prT t F t.length 24 0 F.length := by unfold reT; rw [hF]
  rw [h4]
  unfold entT prT
  rw [List.map_map]
  refine congrArg List.sum (List.map_congr_left (fun q hq => ?_))
  show (if q < F.length then prN t F 24 0 q else Nd.zero).ents.length = _
  by_cases h : q < F.length
  · rw [if_pos h, if_pos h]
    unfold prN
    rw [pe_full (by omega)]
    show ((fN t F q).ents.map (rnE F)).length = _
    rw [List.length_map]
    rfl
  · rw [if_neg h, if_neg h]
    rfl
/-- All of it. -/
theorem again_all {m : Int} {l : List Rw} (h : bldA m l = .good t) : ∃ U, bldA m (tellL t) = .good U ∧ usedT U = usedT t ∧ tellL U = tellL t ∧ (tellL t).length = l.length ∧ toB (sam24 U U) = true := by
  obtain ⟨hT, -, hE, hL⟩ := tre_all h
  have hb := re_bld (m := m) hT hL.symm
  obtain ⟨hU, -, hE2, -⟩ := tre_all hb
  have e1 : tellL t = tlT t := by unfold tellL; rw [toB_true (tre_all_right hT), if_pos rfl]
  have e2 : tellL (reT t) = tlT t := by unfold tellL; rw [toB_true (tre_all_right hU), if_pos rfl, re_told hT]
  refine ⟨reT t, by rw [e1]; exact hb, re_used hT hL.symm, by rw [e1, e2], ?_, toB_true (fun _ _ => rfl)⟩
  rw [e1, ← hE2, re_ent hT]
  exact hE
end
end Go.Proofs.Ytehaohaphlmndaa
