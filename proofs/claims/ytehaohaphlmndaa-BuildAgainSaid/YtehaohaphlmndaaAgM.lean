/-
  What is told of a tree builds one that is told alike, as plain mathematics: first half. No condition.
-/
import Derived.Test.YtehaohaphlmndaaTelP
import Derived.Test.YtehaohaphlmndaaBldB
namespace Go.Proofs.Ytehaohaphlmndaa
open Go Go.RowKit
set_option maxRecDepth 100000

/-- Numbers are told one behind the other. -/
theorem pre_E (t : List Nd) (p : Int) (s : Tl) (i : Int) (nm : Nm) : s.1 <+: (tlE t p s i nm).1 := by
  unfold tlE
  split
  · exact List.prefix_rfl
  · exact List.prefix_append _ _
theorem pre_D (t : List Nd) (k : Nat) : ∀ (l : List En) (s : Tl), s.1 <+: (tlD t k s l).1
  | [], _ => List.prefix_rfl
  | e :: l, s => (pre_E t ((k : Int) + 1) s e.2 e.1).trans (pre_D t k l _)
theorem pre_S (t : List Nd) (k : Nat) : (tlS t k).1 <+: (tlS t (k + 1)).1 := by
  rw [tlS]
  split
  · exact pre_D ..
  · exact List.prefix_rfl
theorem pre_up (t : List Nd) (k : Nat) : ∀ d, (tlS t k).1 <+: (tlS t (k + d)).1
  | 0 => List.prefix_rfl
  | d + 1 => (pre_up t k d).trans (pre_S t (k + d))
/-- All that are told, in their order. -/
def finT (t : List Nd) : List Int := (tlS t 24).1
theorem pre_fin (t : List Nd) {k : Nat} (hk : k ≤ 24) : (tlS t k).1 <+: finT t := by
  have := pre_up t k (24 - k)
  rwa [show k + (24 - k) = 24 by omega] at this
theorem pre_part {t : List Nd} {k : Nat} {d : Int} (hk : k < 24) (h : (tlS t k).1[k]? = some d) (j : Nat) : (tlD t k (tlS t k) ((tget t d).ents.take j)).1 <+: finT t := by
  have h1 : (tlD t k (tlS t k) ((tget t d).ents.take j)).1 <+: (tlS t (k + 1)).1 := by
    rw [tlS_go h]
    have : tlD t k (tlS t k) (tget t d).ents = tlD t k (tlD t k (tlS t k) ((tget t d).ents.take j)) ((tget t d).ents.drop j) := by
      unfold tlD
      rw [← List.foldl_append, List.take_append_drop]
    rw [this]
    exact pre_D ..
  exact h1.trans (pre_fin t (by omega))
theorem pre_at {a b : List Int} (h : a <+: b) {q : Nat} (hq : q < a.length) : b[q]? = a[q]? := by
  obtain ⟨c, rfl⟩ := h
  rw [List.getElem?_append_left hq]
theorem pre_idx {a b : List Int} (h : a <+: b) {i : Int} (hi : i ∈ a) : b.idxOf i = a.idxOf i := by
  obtain ⟨c, rfl⟩ := h
  rw [List.idxOf_append, if_pos hi]
theorem pre_idx_ge {a b : List Int} (h : a <+: b) {i : Int} (hi : ¬ i ∈ a) : a.length ≤ b.idxOf i := by
  obtain ⟨c, rfl⟩ := h
  rw [List.idxOf_append, if_neg hi]
  omega
/-- An entry, by the numbers that are told. -/
def rnE (F : List Int) (e : En) : En := (e.1, (F.idxOf e.2 : Int) + 1)
section
variable (t : List Nd) (F : List Int)
/-- The node that is told at a place; its entries, by the numbers that they are told by; those that are told so far. -/
def fN (q : Nat) : Nd := tget t (F.getD q 0)
def peE (k j q : Nat) : List En := if q < k then (fN t F q).ents else if q = k then (fN t F q).ents.take j else []
def prN (k j q : Nat) : Nd := { fN t F q with ents := (peE t F k j q).map (rnE F) }
def prT (L k j p : Nat) : List Nd := (List.range L).map (fun q => if q < p then prN t F k j q else Nd.zero)
end
variable {t : List Nd} {F : List Int}
theorem pr_len (L k j p : Nat) : (prT t F L k j p).length = L := by unfold prT; rw [List.length_map, List.length_range]
theorem pr_get {L k j p q : Nat} (h : q < L) : tget (prT t F L k j p) ((q : Int) + 1) = if q < p then prN t F k j q else Nd.zero := by
  rw [tget_at (by rw [pr_len]; exact h)]
  unfold prT
  rw [List.getElem_map, List.getElem_range]
theorem pr_out {L k j p : Nat} {i : Int} (h : ¬ (1 ≤ i ∧ i ≤ L)) : tget (prT t F L k j p) i = Nd.zero := tget_out (by rw [pr_len]; exact h)
theorem fin_at {s : List Int} {q : Nat} {d : Int} (h : s <+: F) (hq : s[q]? = some d) : F.getD q 0 = d := by
  obtain ⟨h1, -⟩ := List.getElem?_eq_some_iff.1 hq
  rw [List.getD_eq_getElem?_getD, pre_at h h1, hq]
  rfl
theorem fN_at {s : List Int} {q : Nat} {d : Int} (h : s <+: F) (hq : s[q]? = some d) : fN t F q = tget t d := by
  unfold fN; rw [fin_at h hq]
/-- A name above all others is put behind them. -/
theorem ins_last {x : En} : ∀ {l : List En}, (∀ y ∈ l, lss y.1 x.1 = true) → ins x l = l ++ [x]
  | [], _ => rfl
  | y :: l, h => by
    rw [ins, if_neg (by rw [lss_asymm (h y (List.mem_cons_self ..))]; decide), ins_last (fun z hz => h z (List.mem_cons_of_mem _ hz))]
    rfl
theorem link_ge {a : Int} (ha : 1 ≤ a ∧ a ≤ t.length) (i : Int) : cntE (tget t a).ents i ≤ linkT t i := by
  have := link_set ha Nd.zero i
  rw [cnt_zero] at this
  omega
theorem link_two {a b i : Int} (ha : 1 ≤ a ∧ a ≤ t.length) (hb : 1 ≤ b ∧ b ≤ t.length) (hab : a ≠ b) : cntE (tget t a).ents i + cntE (tget t b).ents i ≤ linkT t i := by
  have h1 := link_set ha Nd.zero i
  have h2 := link_ge (t := setT t a Nd.zero) (a := b) (by rw [len_setT]; exact hb) i
  rw [tget_set ha, if_neg (fun q => hab q.symm)] at h2
  rw [cnt_zero] at h1
  omega
theorem cnt_take {l : List En} {j : Nat} {e : En} (h : l[j]? = some e) : cntE (l.take j) e.2 + 1 ≤ cntE l e.2 := by
  have h1 : cntE (l.take (j + 1)) e.2 = cntE (l.take j) e.2 + 1 := by
    unfold cntE
    rw [List.take_add_one, h, List.countP_append]
    simp
  have h2 : cntE (l.take (j + 1)) e.2 ≤ cntE l e.2 := by
    unfold cntE
    exact List.Sublist.countP_le (List.take_sublist _ _)
  omega
/-- How what is told was come to. -/
def rch (t : List Nd) (F : List Int) (l : List Int) (k j : Nat) : Prop := ∀ i ∈ l, i = 1 ∨ (∃ p, p < k ∧ cntE (fN t F p).ents i ≠ 0) ∨ cntE ((fN t F k).ents.take j) i ≠ 0
theorem take_pos {l : List En} {j : Nat} {e : En} (h : l[j]? = some e) : cntE (l.take (j + 1)) e.2 ≠ 0 := by
  refine cnt_pos.2 ⟨e, ?_, rfl⟩
  rw [List.take_add_one, h]
  exact List.mem_append.2 (.inr (List.mem_singleton.2 rfl))
theorem take_mono {l : List En} {j : Nat} {i : Int} (h : cntE (l.take j) i ≠ 0) : cntE (l.take (j + 1)) i ≠ 0 := by
  obtain ⟨e, he, h2⟩ := cnt_pos.1 h
  exact cnt_pos.2 ⟨e, (List.take_subset_take_left l (Nat.le_succ j)) he, h2⟩
theorem rch_E {l : List Int} {k j : Nat} {e : En} (h : rch t F l k j) (he : (fN t F k).ents[j]? = some e) : rch t F (l ++ [e.2]) k (j + 1) ∧ rch t F l k (j + 1) := by
  have h1 : rch t F l k (j + 1) := fun i hi => by
    rcases h i hi with h | h | h
    · exact .inl h
    · exact .inr (.inl h)
    · exact .inr (.inr (take_mono h))
  refine ⟨fun i hi => ?_, h1⟩
  rcases List.mem_append.1 hi with hi | hi
  · exact h1 i hi
  · rw [List.mem_singleton] at hi
    subst hi
    exact .inr (.inr (take_pos he))
/-- A directory that is told isn't come to again. -/
theorem no_again {l : List Int} {k j : Nat} {d : Int} {e : En} (hT : Trx t) (hF : F.Nodup ∧ ∀ i ∈ F, tis t i = true) (hl : l <+: F) (hd : l[k]? = some d) (he : (tget t d).ents[j]? = some e) (hr : rch t F l k j) (hm : e.2 ∈ l) : (tget t e.2).kind ≠ 2 := by
  intro hk
  have hF' : F.Nodup := hF.1
  have hdk : fN t F k = tget t d := fN_at hl hd
  have hkl := (List.getElem?_eq_some_iff.1 hd).1
  have hdin : 1 ≤ d ∧ d ≤ t.length := tis_in (hF.2 d (hl.subset (List.mem_of_getElem? hd)))
  have hc : cntE (tget t d).ents e.2 ≠ 0 := cnt_pos.2 ⟨e, List.mem_of_getElem? he, rfl⟩
  have hge := link_ge (t := t) hdin e.2
  have hti := (hT.num e.2).1 (hF.2 e.2 (hl.subset hm))
  by_cases q1 : e.2 = 1
  · rw [q1] at hge hc
    have := hT.top
    omega
  · have h1 := ((hT.link e.2 (by omega) hti.2).2 hk).1
    rcases hr e.2 hm with h | ⟨p, hp, h⟩ | h
    · exact q1 h
    · have hpl : p < l.length := by omega
      obtain ⟨c, hcp⟩ : ∃ c, l[p]? = some c := ⟨_, List.getElem?_eq_getElem hpl⟩
      rw [fN_at hl hcp] at h
      have hcin : 1 ≤ c ∧ c ≤ t.length := tis_in (hF.2 c (hl.subset (List.mem_of_getElem? hcp)))
      by_cases q2 : c = d
      · have hln : l.Nodup := List.Sublist.nodup hl.sublist hF'
        obtain ⟨h3, h4⟩ := List.getElem?_eq_some_iff.1 hcp
        obtain ⟨h5, h6⟩ := List.getElem?_eq_some_iff.1 hd
        exact absurd (by rw [h4, h6, q2]) (List.pairwise_iff_getElem.1 hln p k h3 h5 hp)
      · have := link_two (t := t) hcin hdin q2 (i := e.2)
        omega
    · rw [hdk] at h
      have := cnt_take he
      omega
/-- One more. -/
theorem bld_snoc : ∀ (l : List Rw) (u : List Nd) (k : Nat) (U : List Nd) (r : Rw), bld u k l = .good U → blE U r = 0 → bld u k (l ++ [r]) = .good (blT U r)
  | [], u, k, U, r, h, hz => by
    rw [bld] at h
    injection h with h
    subst h
    rw [List.nil_append, bld, if_pos hz, bld]
  | a :: l, u, k, U, r, h, hz => by
    rw [bld] at h
    rw [List.cons_append, bld]
    split at h
    · rename_i q
      rw [if_pos q]
      exact bld_snoc l _ _ U r h hz
    · cases h
theorem bldA_snoc {m : Int} {l : List Rw} {U : List Nd} {r : Rw} (h : bldA m l = .good U) (hz : blE U r = 0) : bldA m (l ++ [r]) = .good (blT U r) := by
  cases l with
  | nil => cases h
  | cons a l =>
    rw [bldA] at h
    rw [List.cons_append, bldA]
    split at h
    · rename_i q
      rw [if_pos q]
      exact bld_snoc l _ _ U r h hz
    · cases h
theorem bare_right {n : Nd} (h : rightP n) : rightP { n with ents := [] } := by
  refine ⟨h.1, ?_⟩
  rcases h.2 with h | h | h
  · exact .inl ⟨h.1, rfl, h.2.2⟩
  · exact .inr (.inl ⟨h.1, h.2.1, h.2.2.1, (fun e he => by cases he), List.Pairwise.nil, Nat.zero_le _⟩)
  · exact .inr (.inr ⟨h.1, h.2.1, rfl, h.2.2.2⟩)
theorem pe_step {k j q : Nat} {e : En} (he : (fN t F k).ents[j]? = some e) : peE t F k (j + 1) q = if q = k then peE t F k j q ++ [e] else peE t F k j q := by
  unfold peE
  by_cases h1 : q < k
  · rw [if_pos h1, if_pos h1, if_neg (by omega)]
  · rw [if_neg h1, if_neg h1]
    by_cases h2 : q = k
    · rw [if_pos h2, if_pos h2, if_pos h2, h2, List.take_add_one, he]
      rfl
    · rw [if_neg h2, if_neg h2, if_neg h2]
set_option maxHeartbeats 1000000 in
/-- One entry more is built as it is told. -/
theorem ag_step {m : Int} {L k j : Nat} {d : Int} {e : En} {s : Tl} (hT : Trx t) (hL : t.length = L) (hF : F.Nodup ∧ ∀ i ∈ F, tis t i = true) (hl : s.1 <+: F) (hl2 : (tlE t ((k : Int) + 1) s e.2 e.1).1 <+: F) (hd : s.1[k]? = some d) (he : (tget t d).ents[j]? = some e) (hr : rch t F s.1 k j)
    (hb : bldA m s.2 = .good (prT t F L k j s.1.length)) : bldA m (tlE t ((k : Int) + 1) s e.2 e.1).2 = .good (prT t F L k (j + 1) (tlE t ((k : Int) + 1) s e.2 e.1).1.length) ∧ rch t F (tlE t ((k : Int) + 1) s e.2 e.1).1 k (j + 1) := by
  have hdk : fN t F k = tget t d := fN_at hl hd
  have hkl := (List.getElem?_eq_some_iff.1 hd).1
  have hdt := hF.2 d (hl.subset (List.mem_of_getElem? hd))
  have hdr := tis_right hT.ok hdt
  have he' : (fN t F k).ents[j]? = some e := by rw [hdk]; exact he
  have hk2 : (tget t d).kind = 2 := Classical.byContradiction (fun q => by
    rw [right_other hdr q] at he
    cases he)
  obtain ⟨-, -, -, hents⟩ := right_dir hdr hk2
  have hjl := (List.getElem?_eq_some_iff.1 he).1
  have hrow : (tget t d).ents.length ≤ 8 := hents.2.2
  obtain ⟨hU, hus, -, hUl⟩ := tre_all hb
  -- the table so far
  have hfl : F.length ≤ L := by rw [← hL]; exact okS_len (s := (F, [])) hF
  have hsl : s.1.length ≤ L := Nat.le_trans hl.length_le hfl
  have hget : ∀ q : Nat, q < L → tget (prT t F L k j s.1.length) ((q : Int) + 1) = if q < s.1.length then prN t F k j q else Nd.zero := fun q hq => pr_get hq
  have hgk : tget (prT t F L k j s.1.length) ((k : Int) + 1) = prN t F k j k := by rw [hget k (by omega), if_pos hkl]
  have hpk : prN t F k j k = { tget t d with ents := ((tget t d).ents.take j).map (rnE F) } := by
    unfold prN peE
    rw [if_neg (Nat.lt_irrefl k), if_pos rfl, hdk]
  have hp : tis (prT t F L k j s.1.length) ((k : Int) + 1) = true := by
    unfold tis
    rw [hgk, hpk]
    exact decide_eq_true (by show (tget t d).kind ≠ 0; omega)
  -- the name
  have hnames : ∀ y ∈ (tget t d).ents.take j, lss y.1 e.1 = true := by
    intro y hy
    obtain ⟨i, hi, rfl⟩ := List.getElem_of_mem hy
    rw [List.length_take] at hi
    have h1 := List.pairwise_iff_getElem.1 hents.2.1 i j (by rw [len_nmE]; omega) (by rw [len_nmE]; omega) (by omega)
    obtain ⟨h2, h3⟩ := List.getElem?_eq_some_iff.1 he
    have e1 : (nmE (tget t d).ents)[i]'(by rw [len_nmE]; omega) = ((tget t d).ents[i]'(by omega)).1 := by unfold nmE; rw [List.getElem_map]
    have e2 : (nmE (tget t d).ents)[j]'(by rw [len_nmE]; omega) = e.1 := by unfold nmE; rw [List.getElem_map, h3]
    rw [e1, e2] at h1
    rw [List.getElem_take]
    exact h1
  have hwith : ∀ id : Int, 1 ≤ id → withE (prN t F k j k) e.1 id = 0 ∧ withM (prN t F k j k) e.1 id = { prN t F k j k with ents := (prN t F k j k).ents ++ [(e.1, id)] } := by
    intro id hid
    have hz : withE (prN t F k j k) e.1 id = 0 := by
      refine withE_zero.2 ⟨by rw [hpk]; exact hk2, hid, (hents.1 e (List.mem_of_getElem? he)).1, ?_, ?_⟩
      · rw [hpk]
        intro hm
        obtain ⟨y, hy, hye⟩ := List.mem_map.1 hm
        obtain ⟨z, hz, rfl⟩ := List.mem_map.1 hy
        exact lss_ne (hnames z hz) hye
      · rw [hpk]
        show (((tget t d).ents.take j).map (rnE F)).length < 8
        rw [List.length_map, List.length_take]
        omega
    refine ⟨hz, ?_⟩
    unfold withM
    rw [if_pos hz, ins_last]
    intro y hy
    rw [hpk] at hy
    obtain ⟨z, hz, rfl⟩ := List.mem_map.1 hy
    exact hnames z hz
  have hstep : ∀ q : Nat, prN t F k (j + 1) q = if q = k then { prN t F k j k with ents := (prN t F k j k).ents ++ [(e.1, (F.idxOf e.2 : Int) + 1)] } else prN t F k j q := by
    intro q
    unfold prN
    rw [pe_step he']
    by_cases h1 : q = k
    · subst h1
      have e1 : List.map (rnE F) [e] = [(e.1, (F.idxOf e.2 : Int) + 1)] := by rw [List.map_cons, List.map_nil, rnE]
      rw [if_pos rfl, if_pos rfl, List.map_append, e1]
    · rw [if_neg h1, if_neg h1]
  by_cases hm : e.2 ∈ s.1
  · have hE : tlE t ((k : Int) + 1) s e.2 e.1 = (s.1, s.2 ++ [rwA ((k : Int) + 1) e.1 ((s.1.idxOf e.2 : Int) + 1)]) := if_pos hm
    rw [hE]
    have hix : F.idxOf e.2 = s.1.idxOf e.2 := pre_idx hl hm
    have hil : s.1.idxOf e.2 < s.1.length := List.idxOf_lt_length_of_mem hm
    obtain ⟨I, hI⟩ : ∃ I, s.1.idxOf e.2 = I := ⟨_, rfl⟩
    rw [hI] at hil hix ⊢
    have hsi : s.1[I]? = some e.2 := by
      rw [← hI, List.getElem?_eq_getElem (by rw [hI]; exact hil), List.getElem_idxOf]
    have hgi : tget (prT t F L k j s.1.length) ((I : Int) + 1) = prN t F k j I := by rw [hget I (by omega), if_pos hil]
    have hki : (prN t F k j I).kind = (tget t e.2).kind := by
      show (fN t F I).kind = _
      rw [fN_at hl hsi]
    obtain ⟨R, hR⟩ : ∃ R, rwA ((k : Int) + 1) e.1 ((I : Int) + 1) = R := ⟨_, rfl⟩
    have hR4 : R.kind = 4 := by rw [← hR]; rfl
    have hRp : R.parent = (k : Int) + 1 := by rw [← hR]; rfl
    have hRn : R.name = e.1 := by rw [← hR]; rfl
    have hRi : R.node = (I : Int) + 1 := by rw [← hR]; rfl
    rw [hR]
    clear hR
    have hkn : (tget t e.2).kind ≠ 0 := right_kind (tis_right hT.ok (hF.2 e.2 (hl.subset hm)))
    have hen : enE (prT t F L k j s.1.length) R = 0 := by
      refine en_zero.2 (.inl ⟨hR4, ?_, ?_⟩)
      · unfold tis
        rw [hRi, hgi, hki]
        exact decide_eq_true hkn
      · rw [hRi, hgi, hki]
        exact no_again hT hF hl hd he hr hm
    have hid : enI (prT t F L k j s.1.length) R = (I : Int) + 1 := by unfold enI; rw [if_pos hen, if_pos hR4, hRi]
    have hz : blE (prT t F L k j s.1.length) R = 0 := bl_zero.2 ⟨by rw [hRp]; exact hp, hen, by
      rw [hid, hRp, hRn, hgk]
      exact (hwith _ (by omega)).1⟩
    refine ⟨?_, (rch_E hr he').2⟩
    rw [bldA_snoc hb hz]
    congr 1
    have hT2 : enT (prT t F L k j s.1.length) R = prT t F L k j s.1.length := by unfold enT; rw [if_pos hen, if_pos hR4]
    refine tget_ext (by rw [bl_len, pr_len, pr_len]) (fun q hq => ?_)
    rw [bl_len, pr_len] at hq
    unfold blT
    rw [hT2, tget_set (by rw [pr_len, hRp]; omega), hid, hRp, hRn, pr_get (j := j + 1) hq, hstep q]
    by_cases h1 : q = k
    · subst h1
      rw [if_pos rfl, hgk, (hwith _ (by omega)).2, if_pos hkl, if_pos rfl, hix]
    · rw [if_neg (by omega), hget q hq, if_neg h1]
  · have hE : tlE t ((k : Int) + 1) s e.2 e.1 = (s.1 ++ [e.2], s.2 ++ [rwN (tget t e.2) ((k : Int) + 1) e.1]) := if_neg hm
    rw [hE] at hl2 ⊢
    obtain ⟨R, hR⟩ : ∃ R, rwN (tget t e.2) ((k : Int) + 1) e.1 = R := ⟨_, rfl⟩
    obtain ⟨p, hpp⟩ : ∃ p, s.1.length = p := ⟨_, rfl⟩
    have hpl : p < L := by
      have := hl2.length_le
      rw [List.length_append] at this
      have e1 : [e.2].length = 1 := rfl
      omega
    have hfp : F.getD p 0 = e.2 := fin_at hl2 (q := p) (by rw [← hpp, List.getElem?_append_right (Nat.le_refl _), Nat.sub_self]; rfl)
    have hixp : F.idxOf e.2 = p := by
      have h1 := pre_idx hl2 (i := e.2) (List.mem_append.2 (.inr (List.mem_singleton.2 rfl)))
      rw [h1, List.idxOf_append, if_neg hm, ← hpp]
      simp
    have het : tis t e.2 = true := hF.2 e.2 (hl2.subset (List.mem_append.2 (.inr (List.mem_singleton.2 rfl))))
    have hbr : rightP R.nd := by
      rw [← hR]
      exact bare_right (tis_right hT.ok het)
    have hR4 : ¬ R.kind = 4 := by
      rw [← hR]
      show ¬ (tget t e.2).kind = 4
      rcases (tis_right hT.ok het).2 with h | h | h <;> omega
    have hRp : R.parent = (k : Int) + 1 := by rw [← hR]; rfl
    have hRn : R.name = e.1 := by rw [← hR]; rfl
    have hup : usedT (prT t F L k j s.1.length) = p := by
      have h1 : ∀ q : Nat, q < L → (tis (prT t F L k j s.1.length) ((q : Int) + 1) = true ↔ q < p) := fun q hq => by
        unfold tis
        rw [hget q hq, hpp]
        split
        · rename_i h2
          refine ⟨fun _ => h2, fun _ => decide_eq_true ?_⟩
          obtain ⟨c, hc⟩ : ∃ c, s.1[q]? = some c := ⟨_, List.getElem?_eq_getElem (by omega)⟩
          show (fN t F q).kind ≠ 0
          rw [fN_at hl hc]
          exact right_kind (tis_right hT.ok (hF.2 c (hl.subset (List.mem_of_getElem? hc))))
        · rename_i h2
          exact ⟨fun h => absurd rfl (of_decide_eq_true h), fun h => absurd h h2⟩
      have hul := used_le (prT t F L k j s.1.length)
      rw [pr_len] at hul
      rcases Nat.lt_trichotomy (usedT (prT t F L k j s.1.length)) p with h2 | h2 | h2
      · have h3 := (h1 (usedT (prT t F L k j s.1.length)) (by omega)).2 h2
        have := (hU.num _).1 h3
        omega
      · exact h2
      · have h3 := (hU.num ((p : Int) + 1)).2 ⟨by omega, by omega⟩
        have := (h1 p (by omega)).1 h3
        omega
    have hfr : freeT (prT t F L k j s.1.length) 0 ≠ 0 := fun h => by
      have := free_none.1 h
      rw [hup, pr_len] at this
      omega
    have hfr2 := free_at hU.num hfr
    rw [hup] at hfr2
    have hen : enE (prT t F L k j s.1.length) R = 0 := en_zero.2 (.inr ⟨hR4, hbr, hfr⟩)
    have hid : enI (prT t F L k j s.1.length) R = (p : Int) + 1 := by
      unfold enI
      rw [if_pos hen, if_neg hR4, hfr2]
      rfl
    have hz : blE (prT t F L k j s.1.length) R = 0 := bl_zero.2 ⟨by rw [hRp]; exact hp, hen, by
      rw [hid, hRp, hRn, hgk]
      exact (hwith _ (by omega)).1⟩
    rw [hR]
    refine ⟨?_, (rch_E hr he').1⟩
    rw [bldA_snoc hb hz]
    congr 1
    have hT2 : enT (prT t F L k j s.1.length) R = setT (prT t F L k j s.1.length) ((p : Int) + 1) R.nd := by
      unfold enT
      rw [if_pos hen, if_neg hR4, hfr2]
      rfl
    have hlen2 : (s.1 ++ [e.2]).length = p + 1 := by rw [List.length_append, hpp]; rfl
    refine tget_ext (by rw [bl_len, pr_len, pr_len]) (fun q hq => ?_)
    rw [bl_len, pr_len] at hq
    unfold blT
    rw [hT2, tget_set (by rw [len_setT, pr_len, hRp]; omega), tget_set (by rw [pr_len]; omega), hid, hRp, hRn, pr_get (j := j + 1) hq, hstep q, hlen2]
    by_cases h1 : q = k
    · subst h1
      rw [if_pos rfl, hgk, (hwith _ (by omega)).2, if_pos (by omega), if_pos rfl, hixp]
    · rw [if_neg (by omega), if_neg h1]
      by_cases h2 : q = p
      · subst h2
        rw [if_pos rfl, if_pos (by omega)]
        have hqk : ¬ q < k := by omega
        unfold prN peE
        rw [if_neg hqk, if_neg h1, ← hR]
        unfold fN
        rw [hfp]
        rfl
      · rw [if_neg (by omega), hget q hq, hpp]
        by_cases h3 : q < p
        · rw [if_pos h3, if_pos (by omega)]
        · rw [if_neg h3, if_neg (by omega)]
end Go.Proofs.Ytehaohaphlmndaa
