/-
  Of changes of one node the last one counts, and root can set what was there before, as plain mathematics. No condition.
-/
import Derived.Test.YtinalglbibmmpaaGreatAtO
namespace Go.Proofs.YtinalglbibmmpaaGreat
open Go Go.RowKit
set_option maxRecDepth 100000

theorem lets_odd {b : Int} (h0 : 0 ≤ b) (h1 : b ≤ 7) (h : b % 2 = 1) : lets 1 b = true := by
  rw [lets_eq 1 b h0 h1]
  unfold letsN
  simp [h]
theorem canN_odd (c : Wh) (n : Nd) (h : ∀ k, 0 ≤ k → k ≤ 2 → cls n.mode k % 2 = 1) : canN c n 1 = true := by
  unfold canN
  have hk : 0 ≤ clsOf c.u c.g c.gs n.uid n.gid ∧ clsOf c.u c.g c.gs n.uid n.gid ≤ 2 := by
    unfold clsOf
    repeat' split
    all_goals omega
  have hb := cls_bd n.mode (clsOf c.u c.g c.gs n.uid n.gid)
  rw [lets_odd hb.1 hb.2 (h _ hk.1 hk.2), Bool.or_true]
theorem cls_odd {m y : Int} (hm : m % 512 = y % 512) (h1 : y % 2 = 1) (h2 : y / 8 % 2 = 1) (h3 : y / 64 % 2 = 1) (k : Int) (hk0 : 0 ≤ k) (hk1 : k ≤ 2) : cls m k % 2 = 1 := by
  unfold cls
  have : k = 0 ∨ k = 1 ∨ k = 2 := by omega
  rcases this with rfl | rfl | rfl
  · rw [if_pos rfl]; omega
  · rw [if_neg (by decide), if_pos rfl]; omega
  · rw [if_neg (by decide), if_neg (by decide), if_pos rfl]; omega
/-- Behind a change that lets all search, the path still leads there. -/
theorem chm_opens {t : List Nd} {c : Wh} {p : Nm} {y : Int} (hf : chmE t c p y = 0) (h1 : y % 2 = 1) (h2 : y / 8 % 2 = 1) (h3 : y / 64 % 2 = 1) : (staM (chmT t c p y) c p true).2 = 0 := by
  obtain ⟨-, hz, -⟩ := chm_zero hf
  have ha := chm_alk t c p y
  have hsr : ∀ j, srE t c j = 0 → srE (chmT t c p y) c j = 0 := fun j hj => by
    obtain ⟨k1, k2⟩ := sr_zero.1 hj
    refine sr_zero.2 ⟨(ha.kind j).trans k1, ?_⟩
    unfold canT at k2 ⊢
    rw [ha.tis, chm_get hf]
    by_cases q : j = (staM t c p true).1.node
    · rw [if_pos q]
      rw [Bool.and_eq_true] at k2
      rw [k2.1, Bool.true_and]
      exact canN_odd c _ (fun k hk0 hk1 => cls_odd (m := modeM c.u c.g c.gs (tget t (staM t c p true).1.node).kind (tget t (staM t c p true).1.node).gid y) (mode_x _ _ _ _ _ _) h1 h2 h3 k hk0 hk1)
    · rw [if_neg q]
      exact k2
  have hr := res_alk ha c p true hsr (staM_zero hz).1
  exact (sta_alk ha hr).1.trans hz
theorem last_opens {t : List Nd} {c : Wh} {p : Nm} {x y : Int} (hx0 : 0 ≤ x) (hx1 : x ≤ 4095) (hy0 : 0 ≤ y) (hy1 : y ≤ 4095) (hh : (staM (chmT (chmT t c p x) c p y) c p true).2 ≠ 0) :
    chmE t c p x ≠ 0 ∨ chmE (chmT t c p x) c p y ≠ 0 ∨ bits .and .i64 (bits .and .i64 x y) 73 ≠ 73 := by
  by_cases q : chmE (chmT t c p x) c p y = 0
  · refine .inr (.inr (fun r => ?_))
    obtain ⟨h1, h2, h3⟩ := and_x hx0 hx1 hy0 hy1 r
    exact hh (chm_opens q h1 h2 h3)
  · exact .inr (.inl q)
theorem chm_ok {t : List Nd} (ht : okT t) {c : Wh} {p : Nm} {m : Int} (hk : (staM t c p true).2 = 0 → (tget t (staM t c p true).1.node).kind ≠ 3) : okT (chmT t c p m) := by
  by_cases h : chmE t c p m = 0
  · obtain ⟨-, hz, -⟩ := chm_zero h
    obtain ⟨hi, hb⟩ := sta_there hz
    rw [chmT_set h]
    exact ok_set ht _ (.inr (chm_right (tis_right ht hi) (hk hz) c m))
  · rw [chmT_err h]
    exact ht
theorem mod_mod (n : Nd) (m u g m' u' g' : Int) : modN (modN n m u g) m' u' g' = modN n m' u' g' := rfl
theorem mod_same (n : Nd) : modN n n.mode n.uid n.gid = n := rfl
/-- Root sets an owner, and the one that was there again. -/
theorem root_back {t : List Nd} (ht : okT t) {p : Nm} {a b : Int} (ha0 : 0 ≤ a) (ha1 : a ≤ 65535) (hb0 : 0 ≤ b) (hb1 : b ≤ 65535) (hz : (staM t wh0 p true).2 = 0) (u g : Int) (hu : u = (tget t (staM t wh0 p true).1.node).uid) (hg : g = (tget t (staM t wh0 p true).1.node).gid) :
    chwE t wh0 p a b true = 0 ∧ chwE (chwT t wh0 p a b true) wh0 p u g true = 0 ∧ chwT (chwT t wh0 p a b true) wh0 p u g true = t := by
  obtain ⟨hi, hb⟩ := sta_there hz
  have hn := (tis_right ht hi).1
  obtain ⟨i, hI⟩ : ∃ i, (staM t wh0 p true).1.node = i := ⟨_, rfl⟩
  rw [hI] at hi hb hn hu hg
  have hu2 : 0 ≤ u ∧ u ≤ 65535 := by rw [hu]; exact hn.2.1
  have hg2 : 0 ≤ g ∧ g ≤ 65535 := by rw [hg]; exact hn.2.2
  have e1 : chwE t wh0 p a b true = 0 := by rw [chwE_in ha1 hb1, chwF_root, hz]
  obtain ⟨s1, s2⟩ := sta_alk0 (chw_alk t wh0 p a b true) p true
  have e2 : chwE (chwT t wh0 p a b true) wh0 p u g true = 0 := by rw [chwE_in hu2.2 hg2.2, chwF_root, s1, hz]
  refine ⟨e1, e2, ?_⟩
  have n1 := s2 hz
  rw [hI] at n1
  have hm : 0 ≤ (tget t i).mode ∧ (tget t i).mode < 4096 := ⟨hn.1.1, by have := hn.1.2; omega⟩
  have c1 : chwN wh0 (tget t i) a b = modN (tget t i) (tget t i).mode a b := by
    show modN (tget t i) (writM 0 (tget t i).kind (tget t i).mode) (if a < 0 then (tget t i).uid else a) (if b < 0 then (tget t i).gid else b) = _
    rw [writ_all (.inl rfl) hm.1 hm.2, if_neg (by omega), if_neg (by omega)]
  have t1 : chwT t wh0 p a b true = setT t i (modN (tget t i) (tget t i).mode a b) := by rw [chwT_set e1 (by omega), hI, c1]
  have g1 : tget (chwT t wh0 p a b true) i = modN (tget t i) (tget t i).mode a b := by rw [t1, tget_set hb, if_pos rfl]
  rw [chwT_set e2 (by omega), n1, g1]
  have c2 : chwN wh0 (modN (tget t i) (tget t i).mode a b) u g = tget t i := by
    show modN (tget t i) (writM 0 (tget t i).kind (tget t i).mode) (if u < 0 then a else u) (if g < 0 then b else g) = _
    rw [writ_all (.inl rfl) hm.1 hm.2, if_neg (by omega), if_neg (by omega), hu, hg]
    rfl
  rw [c2, t1, set_set, set_same hb]
/-- What AttrLast asks for of what is no directory. -/
theorem last_file {t : List Nd} (ht : Trx t) {c : Wh} {p : Nm} {x y : Int} (hx0 : 0 ≤ x) (hx1 : x ≤ 4095) (hy0 : 0 ≤ y) (hy1 : y ≤ 4095) (hh : (staM (chmT (chmT t c p x) c p y) c p true).2 = 0) (hk : (staM (chmT (chmT t c p x) c p y) c p true).1.kind ≠ 2) :
    chmE (chmT t c p x) c p y = chmE t c p x ∧ chmE t c p y = chmE t c p x ∧ chmT (chmT t c p x) c p y = chmT t c p y ∧ okT (chmT (chmT t c p x) c p y) := by
  have hnl := fun h => sta_nolink ht (c := c) (p := p) h
  by_cases h : chmE t c p x = 0
  · obtain ⟨-, hz, hmay⟩ := chm_zero h
    obtain ⟨hi, hb⟩ := sta_there hz
    have a1 := chm_alk t c p x
    have a2 := a1.trans (chm_alk (chmT t c p x) c p y)
    have hn := sta_both a2 hz hh
    obtain ⟨i, hI⟩ : ∃ i, (staM t c p true).1.node = i := ⟨_, rfl⟩
    have hki : (tget t i).kind ≠ 2 := fun q => by
      obtain ⟨-, d2, -, d4⟩ := staM_zero hh
      rw [d4, sta_kind d2, a2.kind, hn, hI, q] at hk
      exact hk rfl
    rw [hI] at hi hb hmay
    have hnl2 := hnl hz
    rw [hI] at hnl2
    have t1 : chmT t c p x = setT t i (chmN c (tget t i) x) := by rw [chmT_set h, hI]
    have sr1 : ∀ j, srE (chmT t c p x) c j = srE t c j := fun j => by rw [t1]; exact sr_set hb _ _ _ hki c j
    obtain ⟨s1, s2⟩ := sta_alk a1 (res_alk2 a1 c p true sr1)
    have n1 := s2 hz
    rw [hI] at n1
    have g1 : tget (chmT t c p x) i = chmN c (tget t i) x := by rw [t1, tget_set hb, if_pos rfl]
    have f0 : chmE (chmT t c p x) c p y = 0 := by
      rw [chmE_in hy0 hy1]
      unfold chmF
      rw [s1, hz, if_neg (fun q => q rfl), n1, g1]
      exact if_neg (by rw [show (chmN c (tget t i) x).uid = (tget t i).uid from rfl, hmay]; decide)
    have g0 : chmE t c p y = 0 := by
      rw [chmE_in hy0 hy1]
      unfold chmF
      rw [hz, if_neg (fun q => q rfl), hI]
      exact if_neg (by rw [hmay]; decide)
    refine ⟨f0.trans h.symm, g0.trans h.symm, ?_, ?_⟩
    · rw [chmT_set f0, n1, g1, t1, set_set, chmT_set g0, hI]
      rfl
    · refine chm_ok (chm_ok ht.ok hnl) (fun _ => ?_)
      rw [n1, a1.kind]
      exact hnl2
  · have t1 : chmT t c p x = t := chmT_err h
    have e1 : chmE t c p y = chmE t c p x := by rw [chmE_in hx0 hx1, chmE_in hy0 hy1]
    rw [t1]
    exact ⟨e1, e1, rfl, chm_ok ht.ok hnl⟩
end Go.Proofs.YtinalglbibmmpaaGreat
