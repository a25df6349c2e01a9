/-
  What is told of a tree builds one that is told alike, as plain mathematics: second half. No condition.
-/
import Derived.Test.YtehaohaphlmndaaAgM
import Derived.Test.YtehaohaphlmndaaTelL
namespace Go.Proofs.Ytehaohaphlmndaa
open Go Go.RowKit
set_option maxRecDepth 100000

section
variable {t : List Nd} {F : List Int}
theorem pe_full {k j q : Nat} (h : q < k) : peE t F k j q = (fN t F q).ents := by unfold peE; rw [if_pos h]
theorem pr_same {L k j k' j' p : Nat} (h : ∀ q, q < p → peE t F k j q = peE t F k' j' q) : prT t F L k j p = prT t F L k' j' p := by
  unfold prT
  refine List.map_congr_left (fun q _ => ?_)
  by_cases hq : q < p
  · rw [if_pos hq, if_pos hq]
    unfold prN
    rw [h q hq]
  · rw [if_neg hq, if_neg hq]
/-- A directory's entries are built. -/
theorem ag_dir {m : Int} {L k : Nat} {d : Int} {s : Tl} (hT : Trx t) (hL : t.length = L) (hF : F.Nodup ∧ ∀ i ∈ F, tis t i = true) (hd : s.1[k]? = some d) (hp : ∀ j, (tlD t k s ((tget t d).ents.take j)).1 <+: F) (hr : rch t F s.1 k 0) (hb : bldA m s.2 = .good (prT t F L k 0 s.1.length)) :
    ∀ j, j ≤ (tget t d).ents.length → bldA m (tlD t k s ((tget t d).ents.take j)).2 = .good (prT t F L k j (tlD t k s ((tget t d).ents.take j)).1.length) ∧ rch t F (tlD t k s ((tget t d).ents.take j)).1 k j
  | 0, _ => by
    rw [List.take_zero]
    exact ⟨hb, hr⟩
  | j + 1, hj => by
    obtain ⟨h1, h2⟩ := ag_dir hT hL hF hd hp hr hb j (by omega)
    obtain ⟨e, he⟩ : ∃ e, (tget t d).ents[j]? = some e := ⟨_, List.getElem?_eq_getElem hj⟩
    have hpj := hp j
    have hpj1 := hp (j + 1)
    rw [tlD_snoc he] at hpj1 ⊢
    have hd2 : (tlD t k s ((tget t d).ents.take j)).1[k]? = some d := by
      rw [pre_at (pre_D t k _ s) (List.getElem?_eq_some_iff.1 hd).1]
      exact hd
    exact ag_step hT hL hF hpj hpj1 hd2 he h2 h1
end
section
variable {t : List Nd}
theorem tlS_zero (t : List Nd) : tlS t 0 = (([(1 : Int)] : List Int), ([rwN (tget t 1) 0 []] : List Rw)) := by
  rw [tlS]
  unfold tlE
  rw [if_neg (List.not_mem_nil), List.nil_append, List.nil_append]
theorem fin_zero {F : List Int} (h : [1] <+: F) : F.getD 0 0 = (1 : Int) := by
  obtain ⟨c, rfl⟩ := h
  rfl
theorem ag_all {m : Int} {F : List Int} (hT : Trx t) (hL : newL m = t.length) (hF : F.Nodup ∧ ∀ i ∈ F, tis t i = true) (hFe : finT t = F) (k : Nat) (hk : k ≤ 24) : bldA m (tlS t k).2 = .good (prT t F t.length k 0 (tlS t k).1.length) ∧ rch t F (tlS t k).1 k 0 := by
  induction k with
  | zero =>
    have h0 := tlS_zero t
    have hp := pre_fin t (k := 0) (by omega)
    rw [hFe, h0] at hp
    rw [h0]
    have hr : rightP (rwN (tget t 1) 0 []).nd := bare_right (tis_right hT.ok (by unfold tis; rw [hT.one]; rfl))
    have hz : rtE (newN m) (rwN (tget t 1) 0 []) = 0 := rt_zero.2 ⟨hT.one, rfl, rfl, hr, by rw [new_free]; decide⟩
    have hb := newL_bd m
    refine ⟨?_, fun i hi => .inl (List.mem_singleton.1 hi)⟩
    have hlen1 : ([(1 : Int)] : List Int).length = 1 := rfl
    rw [bldA, if_pos hz, bld, hlen1]
    refine congrArg BR.good ?_
    refine tget_ext (by rw [rt_len, pr_len, new_len, hL]) (fun q hq => ?_)
    rw [rt_len, new_len] at hq
    unfold rtT
    rw [new_free, tget_set (by rw [new_len]; omega), pr_get (by omega)]
    by_cases h1 : q = 0
    · subst h1
      rw [if_pos (by decide), if_pos (by decide)]
      unfold prN peE
      rw [if_neg (by decide), if_pos rfl, List.take_zero]
      unfold fN
      rw [fin_zero hp]
      rfl
    · rw [if_neg (by omega), if_neg (by omega)]
      unfold newN
      rw [tget_new]
  | succ k ih =>
    obtain ⟨h1, h2⟩ := ih (by omega)
    cases hd : (tlS t k).1[k]? with
    | none =>
      have hle : (tlS t k).1.length ≤ k := List.getElem?_eq_none_iff.1 hd
      rw [tlS_halt hle]
      refine ⟨?_, fun i hi => ?_⟩
      · rw [h1]
        refine congrArg BR.good ?_
        exact pr_same (fun q hq => by rw [pe_full (by omega), pe_full (by omega)])
      · rcases h2 i hi with h | ⟨p, hp, h⟩ | h
        · exact .inl h
        · exact .inr (.inl ⟨p, by omega, h⟩)
        · rw [List.take_zero] at h
          exact absurd rfl h
    | some d =>
      have hdir := ag_dir (m := m) (L := t.length) hT rfl hF hd (fun j => by rw [← hFe]; exact pre_part (by omega) hd j) h2 h1 (tget t d).ents.length (Nat.le_refl _)
      rw [List.take_length, ← tlS_go hd] at hdir
      have hpk : (tlS t k).1 <+: F := by rw [← hFe]; exact pre_fin t (by omega)
      have hfk : fN t F k = tget t d := by
        unfold fN
        obtain ⟨h3, h4⟩ := List.getElem?_eq_some_iff.1 hd
        rw [List.getD_eq_getElem?_getD, pre_at hpk h3, hd]
        rfl
      refine ⟨?_, fun i hi => ?_⟩
      · rw [hdir.1]
        refine congrArg BR.good ?_
        refine pr_same (fun q hq => ?_)
        unfold peE
        by_cases h3 : q < k
        · rw [if_pos h3, if_pos (by omega)]
        · rw [if_neg h3]
          by_cases h4 : q = k
          · rw [if_pos h4, if_pos (by omega), h4, hfk, List.take_length]
          · rw [if_neg h4, if_neg (by omega)]
            split
            · rw [List.take_zero]
            · rfl
      · rcases hdir.2 i hi with h | ⟨p, hp, h⟩ | h
        · exact .inl h
        · exact .inr (.inl ⟨p, by omega, h⟩)
        · refine .inr (.inl ⟨k, by omega, ?_⟩)
          rw [hfk, List.take_length] at h
          rw [hfk]
          exact h
theorem mem_tlE {p : Int} {s : Tl} {i : Int} {nm : Nm} : i ∈ (tlE t p s i nm).1 := by
  unfold tlE
  split
  · assumption
  · exact List.mem_append.2 (.inr (List.mem_singleton.2 rfl))
theorem mem_tlD (k : Nat) : ∀ (l : List En) (s : Tl) (e : En), e ∈ l → e.2 ∈ (tlD t k s l).1
  | [], _, _, h => by cases h
  | a :: l, s, e, h => by
    rcases List.mem_cons.1 h with rfl | h
    · exact (pre_D t k l _).subset mem_tlE
    · exact mem_tlD k l _ e h
/-- What a directory that is told has is told. -/
theorem fin_closed {q : Nat} {d : Int} (h24 : q < 24) (hd : (finT t)[q]? = some d) {e : En} (he : e ∈ (tget t d).ents) : e.2 ∈ finT t := by
  have hq := (List.getElem?_eq_some_iff.1 hd).1
  have hlt : q < (tlS t q).1.length := Classical.byContradiction (fun h => by
    have h1 := tlS_stay (t := t) (k := q) (by omega) (24 - q)
    rw [show q + (24 - q) = 24 by omega] at h1
    unfold finT at hq
    rw [h1] at hq
    omega)
  have hd2 : (tlS t q).1[q]? = some d := by rw [← pre_at (pre_fin t (by omega)) hlt]; exact hd
  have h1 : e.2 ∈ (tlS t (q + 1)).1 := by
    rw [tlS_go hd2]
    exact mem_tlD q _ _ e he
  exact (pre_fin t (k := q + 1) (by omega)).subset h1
theorem par_has {i : Int} : ∀ (t : List Nd) (d : Nat), parT t d i ≠ 0 → ∃ k, ∃ hk : k < t.length, parT t d i = d + k + 1 ∧ cntE (t[k]).ents i ≠ 0
  | [], _, h => absurd rfl h
  | n :: t, d, h => by
    rw [parT] at h ⊢
    split
    · rename_i q
      rw [if_pos q] at h
      obtain ⟨k, hk, e1, e2⟩ := par_has t (d + 1) h
      exact ⟨k + 1, by rw [List.length_cons]; omega, by omega, by simpa using e2⟩
    · rename_i q
      exact ⟨0, Nat.succ_pos _, by omega, by simpa using q⟩
theorem fin_dirs (hT : Trx t) (h24 : (finT t).length ≤ 24) : ∀ (n : Nat) (i : Int), i ≤ n → 1 ≤ i → i ≤ usedT t → (tget t i).kind = 2 → i ∈ finT t
  | 0, i, h1, h2, _, _ => by omega
  | n + 1, i, h1, h2, h3, h4 => by
    by_cases q : i = 1
    · rw [q]
      exact (pre_fin t (k := 0) (by omega)).subset (show (1 : Int) ∈ ([1] : List Int) from List.mem_singleton.2 rfl)
    · obtain ⟨h5, h6⟩ := hT.link i (by omega) h3
      have h7 := (h6 h4).2
      have h8 : parT t 0 i ≠ 0 := fun z => by rw [(par_zero t 0).1 z] at h5; omega
      obtain ⟨k, hk, e1, e2⟩ := par_has t 0 h8
      have hpi : (parT t 0 i : Int) = (k : Int) + 1 := by omega
      have hpk : (tget t ((k : Int) + 1)).kind = 2 := Classical.byContradiction (fun z => by
        rw [tget_at hk] at z
        rw [ok_ents hT.ok (List.getElem_mem hk) z] at e2
        exact e2 rfl)
      have ih := fin_dirs hT h24 n ((k : Int) + 1) (by omega) (by omega) (by omega) hpk
      obtain ⟨q', hq', hqe⟩ := List.getElem_of_mem ih
      obtain ⟨e, he, he2⟩ := cnt_pos.1 e2
      rw [← tget_at hk] at he
      rw [← he2]
      exact fin_closed (by omega) (List.getElem?_eq_some_iff.2 ⟨hq', hqe⟩) he
/-- All nodes are told. -/
theorem fin_mem (hT : Trx t) (h24 : (finT t).length ≤ 24) {i : Int} (hi : tis t i = true) : i ∈ finT t := by
  have hn := (hT.num i).1 hi
  by_cases hk : (tget t i).kind = 2
  · exact fin_dirs hT h24 i.toNat i (by omega) hn.1 hn.2 hk
  · by_cases q : i = 1
    · exact absurd (by rw [q]; exact hT.one) hk
    · have h5 := (hT.link i (by omega) hn.2).1
      obtain ⟨d, hd⟩ : ∃ d : Int, cntE (tget t d).ents i ≠ 0 := Classical.byContradiction (fun z => by
        have := link_zero.2 (fun j => Classical.byContradiction (fun y => z ⟨j, y⟩))
        omega)
      obtain ⟨e, he, he2⟩ := cnt_pos.1 hd
      have hdi : 1 ≤ d ∧ d ≤ t.length := Classical.byContradiction (fun z => by rw [tget_out z] at he; cases he)
      have hdk : (tget t d).kind = 2 := Classical.byContradiction (fun z => by
        have e1 : d = (((d - 1).toNat : Nat) : Int) + 1 := by omega
        rw [e1, tget_at (by omega)] at z he
        rw [ok_ents hT.ok (List.getElem_mem _) z] at he
        cases he)
      have hdt := (hT.num d).1 (by unfold tis; rw [hdk]; rfl)
      have hm := fin_dirs hT h24 d.toNat d (by omega) hdt.1 hdt.2 hdk
      obtain ⟨q', hq', hqe⟩ := List.getElem_of_mem hm
      rw [← he2]
      exact fin_closed (by omega) (List.getElem?_eq_some_iff.2 ⟨hq', hqe⟩) he
theorem okF (hT : Trx t) : okS t (tlS t 24) := okS_all hT.ok hT.le (tre_all_right hT) 24
theorem fin_24 (hT : Trx t) : (finT t).length ≤ 24 := Nat.le_trans (okS_len (okF hT)) hT.le
/-- The numbers from 1 on. -/
def upN (n : Nat) : List Int := (List.range n).map (fun k : Nat => (k : Int) + 1)
theorem up_len (n : Nat) : (upN n).length = n := by unfold upN; rw [List.length_map, List.length_range]
theorem up_mem {n : Nat} {i : Int} : i ∈ upN n ↔ 1 ≤ i ∧ i ≤ n := by
  unfold upN
  rw [List.mem_map]
  constructor
  · rintro ⟨k, hk, rfl⟩
    have := List.mem_range.1 hk
    omega
  · intro h
    exact ⟨(i - 1).toNat, List.mem_range.2 (by omega), by omega⟩
theorem up_nodup (n : Nat) : (upN n).Nodup := by
  unfold upN
  refine List.pairwise_map.2 (List.Pairwise.imp ?_ List.nodup_range)
  intro a b h
  omega
theorem up_snoc (n : Nat) : upN n ++ [(n : Int) + 1] = upN (n + 1) := by
  unfold upN
  rw [List.range_succ, List.map_append]
  rfl
theorem up_idx {n q : Nat} (h : q < n) : (upN n).idxOf ((q : Int) + 1) = q := by
  refine idx_first (by rw [up_len]; exact h) (fun j hj => ?_) ?_
  · unfold upN
    rw [List.getElem_map, List.getElem_range]
    omega
  · unfold upN
    rw [List.getElem_map, List.getElem_range]
theorem fin_perm (hT : Trx t) : (finT t).Perm (upN (usedT t)) :=
  (List.perm_ext_iff_of_nodup (okF hT).1 (up_nodup _)).2 (fun i => by
    rw [up_mem, ← hT.num i]
    exact ⟨fun h => (okF hT).2 i h, fun h => fin_mem hT (fin_24 hT) h⟩)
theorem fin_len (hT : Trx t) : (finT t).length = usedT t := by rw [(fin_perm hT).length_eq, up_len]
/-- The table that is built of what is told. -/
def reT (t : List Nd) : List Nd := prT t (finT t) t.length 24 0 (finT t).length
theorem re_bld {m : Int} (hT : Trx t) (hL : newL m = t.length) : bldA m (tlT t) = .good (reT t) := (ag_all hT hL (okF hT) rfl 24 (Nat.le_refl _)).1
theorem re_get {q : Nat} (hT : Trx t) (h : q < (finT t).length) : tget (reT t) ((q : Int) + 1) = { fN t (finT t) q with ents := (fN t (finT t) q).ents.map (rnE (finT t)) } := by
  have h1 := okS_len (okF hT)
  have h2 := fin_24 hT
  unfold reT
  rw [pr_get (Nat.lt_of_lt_of_le h h1), if_pos h]
  unfold prN
  rw [pe_full (by omega)]
theorem re_used {m : Int} (hT : Trx t) (hL : newL m = t.length) : usedT (reT t) = usedT t := by
  obtain ⟨hU, -, -, hUl⟩ := tre_all (re_bld hT hL)
  have h1 := okS_len (okF hT)
  have hl : (finT t).length ≤ t.length := h1
  have h3 : ∀ q : Nat, q < t.length → (tis (reT t) ((q : Int) + 1) = true ↔ q < (finT t).length) := fun q hq => by
    constructor
    · intro h
      refine Classical.byContradiction (fun z => ?_)
      unfold tis reT at h
      rw [pr_get hq, if_neg z] at h
      exact absurd rfl (of_decide_eq_true h)
    · intro h
      unfold tis
      rw [re_get hT h]
      obtain ⟨c, hc⟩ : ∃ c, (finT t)[q]? = some c := ⟨_, List.getElem?_eq_getElem h⟩
      have hcm := right_kind (tis_right hT.ok ((okF hT).2 c (List.mem_of_getElem? hc)))
      generalize finT t = F at hc ⊢
      have hfn : fN t F q = tget t c := by
        unfold fN
        rw [List.getD_eq_getElem?_getD, hc]
        rfl
      rw [hfn]
      exact decide_eq_true hcm
  have hul := used_le (reT t)
  have hlen : (reT t).length = t.length := pr_len ..
  rw [hlen] at hul
  rw [← fin_len hT]
  rcases Nat.lt_trichotomy (usedT (reT t)) (finT t).length with h2 | h2 | h2
  · have h4 := (h3 (usedT (reT t)) (by omega)).2 h2
    have := (hU.num _).1 h4
    omega
  · exact h2
  · have h4 := (hU.num (((finT t).length : Int) + 1)).2 ⟨by omega, by omega⟩
    have := (h3 (finT t).length (by omega)).1 h4
    omega
end
end Go.Proofs.Ytehaohaphlmndaa
