/-
  Changes of a node, one behind the other, and root's, as plain mathematics. No condition.
-/
import Derived.Test.YtinalglbibmmpaaGreatAtN
namespace Go.Proofs.YtinalglbibmmpaaGreat
open Go Go.RowKit
set_option maxRecDepth 100000

theorem Alk.trans {a b c : List Nd} (h : Alk a b) (h' : Alk b c) : Alk a c := ⟨fun i => (h'.kind i).trans (h.kind i), fun i => (h'.ents i).trans (h.ents i), fun i => (h'.target i).trans (h.target i), fun i => (h'.up i).trans (h.up i)⟩
theorem Alk.refl (a : List Nd) : Alk a a := ⟨fun _ => rfl, fun _ => rfl, fun _ => rfl, fun _ => rfl⟩
theorem wlk_ok_sr {t : List Nd} {c : Wh} {f : Bool} {k : Nat} {n : Nm} {r : List Nm} {i : Int} (h : (wlk t c f k (n :: r) i).2 = 0) : srE t c i = 0 := Classical.byContradiction (fun q => by rw [wlk_sr q] at h; exact q h)
/-- Where both find something, it is the same. -/
theorem wlk_both {t t' : List Nd} (h : Alk t t') (c : Wh) (f : Bool) : ∀ k l i, (wlk t c f k l i).2 = 0 → (wlk t' c f k l i).2 = 0 → wlk t' c f k l i = wlk t c f k l i := by
  refine wlk_ind (fun k i _ _ => by rw [wlk_nil, wlk_nil]) (fun k n r i ih ih2 hz hz' => ?_)
  have hs := wlk_ok_sr hz'
  rcases wlk_step t c f k n r i with ⟨a, e⟩ | ⟨a, b, e⟩ | ⟨a, b, e⟩ | ⟨a, b, d, e⟩ | ⟨a, b, d, ⟨x, y, e⟩ | ⟨x, y, ⟨z, e⟩ | ⟨j, hj, e⟩⟩ | ⟨x, y, e⟩ | ⟨x, y, z, e⟩⟩ <;> rw [e] at hz ⊢
  · exact absurd hz a
  · rw [wlk_dot hs b] at hz' ⊢
    exact ih _ hz hz'
  · rw [wlk_up hs b, h.up] at hz' ⊢
    exact ih _ hz hz'
  · exact absurd hz (by decide)
  · exact absurd hz (by decide)
  · exact absurd hz (by decide)
  · subst hj
    have e1 : wlk t' c f (j + 1) (n :: r) i = wlk t' c f j (splitP (tget t' (fnd (tget t' i).ents n)).target ++ r) (if absP (tget t' (fnd (tget t' i).ents n)).target = true then 1 else i) :=
      wlk_link hs b.1 b.2 d (by rw [h.ents]; exact x) (by rw [h.ents, h.kind]; exact y)
    rw [e1, h.ents, h.target] at hz' ⊢
    exact ih2 j _ _ (Nat.lt_succ_self _) hz hz'
  · have e1 : wlk t' c f k (n :: r) i = (⟨i, n, fnd (tget t' i).ents n⟩, 0) := wlk_last hs b.1 b.2 d (by rw [h.ents, h.kind]; exact x) y
    rw [e1, h.ents]
  · have e1 : wlk t' c f k (n :: r) i = wlk t' c f k r (fnd (tget t' i).ents n) := wlk_on hs b.1 b.2 d (by rw [h.ents]; exact y) (by rw [h.ents, h.kind]; exact x) z
    rw [e1, h.ents] at hz' ⊢
    exact ih _ hz hz'
theorem res_both {t t' : List Nd} (h : Alk t t') {c : Wh} {p : Nm} {f : Bool} (hz : (resM t c p f).2 = 0) (hz' : (resM t' c p f).2 = 0) : resM t' c p f = resM t c p f := by
  unfold resM at hz hz' ⊢
  rw [h.fit] at hz' ⊢
  split
  · rfl
  · rename_i q
    rw [if_neg q] at hz hz'
    exact wlk_both h c f _ _ _ hz hz'
/-- What is told of the same find, in another table. -/
theorem sta_alk {t t' : List Nd} (h : Alk t t') {c : Wh} {p : Nm} {f : Bool} (hr : resM t' c p f = resM t c p f) : (staM t' c p f).2 = (staM t c p f).2 ∧ ((staM t c p f).2 = 0 → (staM t' c p f).1.node = (staM t c p f).1.node) := by
  unfold staM staF
  rw [hr, h.tis]
  split
  · exact ⟨rfl, fun _ => rfl⟩
  · split
    · rename_i q
      refine ⟨rfl, fun _ => ?_⟩
      show (staT t' _).node = (staT t _).node
      rw [sta_node ((h.tis _).trans q), sta_node q]
    · exact ⟨rfl, fun _ => rfl⟩
theorem sta_both {t t' : List Nd} (h : Alk t t') {c : Wh} {p : Nm} {f : Bool} (hz : (staM t c p f).2 = 0) (hz' : (staM t' c p f).2 = 0) : (staM t' c p f).1.node = (staM t c p f).1.node :=
  (sta_alk h (res_both h (staM_zero hz).1 (staM_zero hz').1)).2 hz
/-- Who is root searches whatever is a directory. -/
theorem sr_alk0 {t t' : List Nd} (h : Alk t t') (j : Int) : srE t' wh0 j = srE t wh0 j := by rw [sr_root, sr_root, h.kind]
theorem sta_alk0 {t t' : List Nd} (h : Alk t t') (p : Nm) (f : Bool) : (staM t' wh0 p f).2 = (staM t wh0 p f).2 ∧ ((staM t wh0 p f).2 = 0 → (staM t' wh0 p f).1.node = (staM t wh0 p f).1.node) :=
  sta_alk h (res_alk2 h wh0 p f (sr_alk0 h))
theorem mayM_root (x : Int) : mayM wh0 x = true := rfl
theorem mayO_root (n : Nd) (u g : Int) : mayO wh0 n u g = true := rfl
theorem chmE_in {t : List Nd} {c : Wh} {p : Nm} {m : Int} (h0 : 0 ≤ m) (h1 : m ≤ 4095) : chmE t c p m = chmF t c (staM t c p true) := if_neg (by omega)
theorem chwE_in {t : List Nd} {c : Wh} {p : Nm} {u g : Int} {f : Bool} (h0 : u ≤ 65535) (h1 : g ≤ 65535) : chwE t c p u g f = chwF t c (staM t c p f) u g := if_neg (by omega)
theorem chmF_root (t : List Nd) (R : Sta × Int) : chmF t wh0 R = R.2 := by
  unfold chmF
  split
  · rfl
  · rename_i q
    rw [mayM_root, if_neg (by decide)]
    exact (Classical.byContradiction q : R.2 = 0).symm
theorem chwF_root (t : List Nd) (R : Sta × Int) (u g : Int) : chwF t wh0 R u g = R.2 := by
  unfold chwF
  split
  · rfl
  · rename_i q
    rw [mayO_root, if_neg (by decide)]
    exact (Classical.byContradiction q : R.2 = 0).symm
/-- What AttrRoot asks for. -/
theorem root_sets {t : List Nd} {p : Nm} {m u g : Int} (hm0 : 0 ≤ m) (hm1 : m ≤ 4095) (hu0 : 0 ≤ u) (hu1 : u ≤ 65535) (hg0 : 0 ≤ g) (hg1 : g ≤ 65535) :
    chmE t wh0 p m = (staM t wh0 p true).2 ∧ chwE (chmT t wh0 p m) wh0 p u g true = (staM t wh0 p true).2 ∧
    ((staM t wh0 p true).2 = 0 → (tget (chwT (chmT t wh0 p m) wh0 p u g true) (staM t wh0 p true).1.node).mode = m ∧ (tget (chwT (chmT t wh0 p m) wh0 p u g true) (staM t wh0 p true).1.node).uid = u ∧ (tget (chwT (chmT t wh0 p m) wh0 p u g true) (staM t wh0 p true).1.node).gid = g) := by
  have e1 : chmE t wh0 p m = (staM t wh0 p true).2 := by rw [chmE_in hm0 hm1, chmF_root]
  obtain ⟨s1, s2⟩ := sta_alk0 (chm_alk t wh0 p m) p true
  have e2 : chwE (chmT t wh0 p m) wh0 p u g true = (staM t wh0 p true).2 := by rw [chwE_in hu1 hg1, chwF_root, s1]
  refine ⟨e1, e2, fun hz => ?_⟩
  have n1 := s2 hz
  have g1 := chm_get (t := t) (c := wh0) (p := p) (mode := m) (e1.trans hz)
  have g2 := chw_get (t := chmT t wh0 p m) (c := wh0) (p := p) (uid := u) (gid := g) (f := true) (e2.trans hz) (by omega)
  rw [g2, n1, if_pos rfl, g1, if_pos rfl]
  refine ⟨?_, ?_, ?_⟩
  · show writM 0 (tget t (staM t wh0 p true).1.node).kind (modeM 0 0 [] (tget t (staM t wh0 p true).1.node).kind (tget t (staM t wh0 p true).1.node).gid m) = m
    rw [mode_all _ _ _ (.inl rfl) hm0 (by omega), writ_all (.inl rfl) hm0 (by omega)]
  · exact if_neg (by omega)
  · exact if_neg (by omega)
theorem set_set (t : List Nd) (i : Int) (a b : Nd) : setT (setT t i a) i b = setT t i b := by
  unfold setT
  rw [List.set_set]
theorem set_same {t : List Nd} {i : Int} (hi : 1 ≤ i ∧ i ≤ t.length) : setT t i (tget t i) = t := by
  unfold setT tget
  rw [if_pos hi]
  refine List.ext_getElem? (fun k => ?_)
  rw [List.getElem?_set]
  split
  · rename_i q
    subst q
    rw [if_pos (by omega), List.getD_eq_getElem?_getD, List.getElem?_eq_getElem (by omega)]
    rfl
  · rfl
/-- The bits that let each class search. -/
theorem and_x {x y : Int} (hx0 : 0 ≤ x) (hx1 : x ≤ 4095) (hy0 : 0 ≤ y) (hy1 : y ≤ 4095) (h : bits .and .i64 (bits .and .i64 x y) 73 = 73) : y % 2 = 1 ∧ y / 8 % 2 = 1 ∧ y / 64 % 2 = 1 := by
  have key : ∀ a b : Fin 128, (a.val &&& b.val) &&& 73 = 73 → b.val % 2 = 1 ∧ b.val / 8 % 2 = 1 ∧ b.val / 64 % 2 = 1 := by decide +kernel
  have hb : ∀ X Y : Nat, X ≤ 4095 → Y ≤ 4095 → bits .and .i64 (X : Int) (Y : Int) = ((X &&& Y : Nat) : Int) := fun X Y h1 h2 => (bits_nat .i64 62 (by decide) wraps_i64 X Y (by omega) (by omega)).1
  obtain ⟨X, rfl⟩ := Int.eq_ofNat_of_zero_le hx0
  obtain ⟨Y, rfl⟩ := Int.eq_ofNat_of_zero_le hy0
  have hle : X &&& Y ≤ 4095 := Nat.le_trans Nat.and_le_left (by omega)
  rw [hb X Y (by omega) (by omega), show (73 : Int) = ((73 : Nat) : Int) from rfl, hb _ 73 hle (by decide)] at h
  have h2 : (X &&& Y) &&& 73 = 73 := by omega
  have h3 : (X % 128 &&& Y % 128) &&& 73 = 73 := by
    have : (X &&& Y) % 128 &&& 73 = 73 := by
      have e : ((X &&& Y) &&& 73) % 128 = 73 := by rw [h2]
      rw [show (128 : Nat) = 2 ^ 7 from rfl, Nat.and_mod_two_pow] at e
      exact e
    rw [show (128 : Nat) = 2 ^ 7 from rfl] at this ⊢
    rw [← Nat.and_mod_two_pow]
    exact this
  have := key ⟨X % 128, by omega⟩ ⟨Y % 128, by omega⟩ h3
  simp only at this
  omega
end Go.Proofs.YtinalglbibmmpaaGreat
