/-
  What is made at a path, as plain mathematics: why nothing is made, the tree behind it, and what a path without follow leads to then. The conditions are said at each.
-/
import Derived.Test.YtfopnfgfoicidaaGreatLS
import Derived.Test.YtfopnfgfoicidaaGreatCM
namespace Go.Proofs.YtfopnfgfoicidaaGreat
open Go Go.RowKit
set_option maxRecDepth 100000

/-- The number whose bits are told, below a bound. -/
def ofB (f : Nat → Bool) : Nat → Nat
  | 0 => 0
  | n + 1 => ofB f n + if f n = true then 2 ^ n else 0
theorem ofB_lt (f : Nat → Bool) (n : Nat) : ofB f n < 2 ^ n := by
  induction n with
  | zero => simp [ofB]
  | succ n ih =>
    rw [ofB, Nat.pow_succ]
    split <;> omega
theorem ofB_bit (f : Nat → Bool) (n i : Nat) : (ofB f n).testBit i = (decide (i < n) && f i) := by
  induction n with
  | zero => simp [ofB]
  | succ n ih =>
    rw [ofB]
    have hl := ofB_lt f n
    by_cases hf : f n = true
    · rw [if_pos hf, Nat.add_comm]
      by_cases hi : i = n
      · subst hi
        rw [Nat.testBit_two_pow_add_eq, ih]
        simp [hf]
      · by_cases hi2 : i < n
        · rw [Nat.testBit_two_pow_add_gt hi2, ih]
          simp [hi2, show i < n + 1 by omega]
        · have h1 : 2 ^ n + ofB f n < 2 ^ i := by
            have h2 : (2 : Nat) ^ (n + 1) ≤ 2 ^ i := Nat.pow_le_pow_right (by decide) (by omega)
            rw [Nat.pow_succ] at h2
            omega
          rw [Nat.testBit_lt_two_pow h1]
          simp [show ¬ i < n + 1 by omega]
    · have hf' : f n = false := by simpa using hf
      rw [if_neg hf, Nat.add_zero, ih]
      by_cases hi : i = n
      · subst hi
        simp [hf']
      · by_cases hi2 : i < n
        · simp [hi2, show i < n + 1 by omega]
        · simp [hi2, show ¬ i < n + 1 by omega]
theorem eq_ofB (x n : Nat) (f : Nat → Bool) (hx : x < 2 ^ n) (h : ∀ i, i < n → x.testBit i = f i) : x = ofB f n := by
  apply Nat.eq_of_testBit_eq
  intro i
  rw [ofB_bit]
  by_cases hi : i < n
  · simp [hi, h i hi]
  · have : (2 : Nat) ^ n ≤ 2 ^ i := Nat.pow_le_pow_right (by decide) (by omega)
    rw [Nat.testBit_lt_two_pow (by omega)]
    simp [hi]
/-- A mode's nine bits, without those that a umask has. -/
def mskF (mode umask : Int) (i : Nat) : Bool := ((mode % 4096).toNat).testBit i && !((umask % 4096).toNat).testBit i
def mskM (mode umask : Int) : Int := (ofB (mskF mode umask) 9 : Nat)
theorem msk_bd (mode umask : Int) : 0 ≤ mskM mode umask ∧ mskM mode umask ≤ 511 := by
  have := ofB_lt (mskF mode umask) 9
  unfold mskM
  omega
/-- Has a directory the set group? -/
def sgB (n : Nd) : Bool := n.mode.toNat.testBit 10
/-- What is made, of the directory in which it is made. -/
def plR (t : List Nd) (c : Wh) (F : Fo) (k m : Int) (tg : Nm) : Rw :=
  ⟨k, if sgB (tget t F.dir) = true ∧ k = 2 then m + 1024 else m, c.u, if sgB (tget t F.dir) = true then (tget t F.dir).gid else c.g, F.dir, F.name, [], tg, 0⟩
/-- Why nothing is made. -/
noncomputable def plE (t : List Nd) (c : Wh) (R : Fo × Int) (k m : Int) (tg : Nm) : Int :=
  if R.2 ≠ 0 then R.2 else if R.1.node ≠ 0 then 17 else if canT t c R.1.dir 3 = false then 13 else if 8 ≤ (tget t R.1.dir).ents.length ∨ usedT t = t.length then 28 else if toB (rightP (plR t c R.1 k m tg).nd) = false then 22 else 0
noncomputable def plT (t : List Nd) (c : Wh) (R : Fo × Int) (k m : Int) (tg : Nm) : List Nd := if plE t c R k m tg = 0 then blT t (plR t c R.1 k m tg) else t
noncomputable def plI (t : List Nd) (c : Wh) (R : Fo × Int) (k m : Int) (tg : Nm) : Int := if plE t c R k m tg = 0 then (freeT t 0 : Int) else 0
theorem pl_zero {t : List Nd} {c : Wh} {R : Fo × Int} {k m : Int} {tg : Nm} : plE t c R k m tg = 0 ↔ R.2 = 0 ∧ R.1.node = 0 ∧ canT t c R.1.dir 3 = true ∧ ((tget t R.1.dir).ents.length < 8 ∧ usedT t ≠ t.length) ∧ rightP (plR t c R.1 k m tg).nd := by
  unfold plE
  by_cases h1 : R.2 = 0
  · rw [if_neg (fun q => q h1)]
    by_cases h2 : R.1.node = 0
    · rw [if_neg (fun q => q h2)]
      cases h3 : canT t c R.1.dir 3 with
      | false => simp
      | true =>
        rw [if_neg (by decide)]
        by_cases h4 : 8 ≤ (tget t R.1.dir).ents.length ∨ usedT t = t.length
        · rw [if_pos h4]
          refine ⟨fun q => absurd q (by decide), fun q => ?_⟩
          rcases h4 with h4 | h4
          · have := q.2.2.2.1.1; omega
          · exact absurd h4 q.2.2.2.1.2
        · rw [if_neg h4]
          by_cases h5 : rightP (plR t c R.1 k m tg).nd
          · rw [toB_true h5, if_neg (by decide)]
            exact ⟨fun _ => ⟨h1, h2, rfl, ⟨by omega, fun q => h4 (.inr q)⟩, h5⟩, fun _ => rfl⟩
          · rw [toB_false h5, if_pos rfl]
            exact ⟨fun q => absurd q (by decide), fun q => absurd q.2.2.2.2 h5⟩
    · rw [if_pos h2]
      exact ⟨fun q => absurd q (by decide), fun q => absurd q.2.1 h2⟩
  · rw [if_pos h1]
    exact ⟨fun q => absurd q h1, fun q => absurd q.1 h1⟩
theorem pl_err {t : List Nd} {c : Wh} {R : Fo × Int} {k m : Int} {tg : Nm} (h : plE t c R k m tg ≠ 0) : plT t c R k m tg = t ∧ plI t c R k m tg = 0 := ⟨if_neg h, if_neg h⟩

/-! Where a path leads, if there is nothing yet. -/
structure Gn (n : Nm) : Prop where
  ne : n ≠ []
  sl : noSl n
  nul : n.contains 0 = false
theorem npF_in : ∀ (p cur : List UInt8), noSl cur → ∀ n ∈ npF cur p, noSl n ∧ ∀ x ∈ n, x ∈ cur ∨ x ∈ p
  | [], cur, hc, n, h => by
    rw [npF] at h
    split at h
    · cases h
    · rw [List.mem_singleton] at h
      subst h
      exact ⟨hc, fun x hx => .inl hx⟩
  | a :: r, cur, hc, n, h => by
    have hn : noSl ([] : List UInt8) := fun x hx => by cases hx
    have up : (noSl n ∧ ∀ x ∈ n, x ∈ ([] : List UInt8) ∨ x ∈ r) → noSl n ∧ ∀ x ∈ n, x ∈ cur ∨ x ∈ a :: r := fun q => ⟨q.1, fun x hx => (q.2 x hx).elim (fun z => by cases z) (fun z => .inr (List.mem_cons_of_mem _ z))⟩
    rw [npF] at h
    split at h
    · split at h
      · exact up (npF_in r [] hn n h)
      · rcases List.mem_cons.1 h with h | h
        · subst h
          exact ⟨hc, fun x hx => .inl hx⟩
        · exact up (npF_in r [] hn n h)
    · rename_i ha
      obtain ⟨h1, h2⟩ := npF_in r (cur ++ [a]) (fun x hx => by
        rcases List.mem_append.1 hx with q | q
        · exact hc x q
        · rw [List.mem_singleton] at q; rw [q]; exact ha) n h
      refine ⟨h1, fun x hx => ?_⟩
      rcases h2 x hx with q | q
      · rcases List.mem_append.1 q with q | q
        · exact .inl q
        · rw [List.mem_singleton] at q; rw [q]; exact .inr (List.mem_cons_self ..)
      · exact .inr (List.mem_cons_of_mem _ q)
theorem split_gn {p : Nm} (h : p.contains 0 = false) : ∀ n ∈ splitP p, Gn n := fun n hn => by
  have hne := split_ne p n hn
  have key : ∀ n ∈ nms p, noSl n ∧ n.contains 0 = false := fun n hn => by
    obtain ⟨h1, h2⟩ := npF_in p [] (fun x hx => by cases hx) n hn
    refine ⟨h1, ?_⟩
    cases hz : n.contains 0 with
    | false => rfl
    | true =>
      have : (0 : UInt8) ∈ n := by simpa using hz
      rcases h2 0 this with q | q
      · cases q
      · have q2 : p.contains 0 = true := by simpa using q
        rw [h] at q2
        cases q2
  unfold splitP at hn
  split at hn
  · rcases List.mem_append.1 hn with q | q
    · exact ⟨hne, (key n q).1, (key n q).2⟩
    · rw [List.mem_singleton] at q
      subst q
      exact ⟨hne, fun x hx => by rw [List.mem_singleton] at hx; rw [hx]; decide, by decide⟩
  · exact ⟨hne, (key n hn).1, (key n hn).2⟩
theorem target_nul {t : List Nd} (h : okT t) {i : Int} (hk : (tget t i).kind = 3) : (tget t i).target.contains 0 = false := by
  rcases ok_tget h i with h1 | h1
  · rw [h1] at hk
    exact absurd hk (by decide)
  · rcases h1.2 with q | q | q
    · have := q.1; omega
    · have := q.1; omega
    · have := q.2.2.2.2
      unfold fok at this
      simp only [Bool.and_eq_true, Bool.not_eq_true'] at this
      exact this.2
theorem wlk_new {t : List Nd} (ho : okT t) {c : Wh} {f : Bool} : ∀ k l i, i ≠ 0 → (∀ n ∈ l, Gn n) → (wlk t c f k l i).2 = 0 → (wlk t c f k l i).1.node = 0 →
    srE t c (wlk t c f k l i).1.dir = 0 ∧ Gn (wlk t c f k l i).1.name ∧ ((wlk t c f k l i).1.name ≠ [46] ∧ (wlk t c f k l i).1.name ≠ [46, 46]) ∧ ¬ 12 < (wlk t c f k l i).1.name.length ∧ fnd (tget t (wlk t c f k l i).1.dir).ents (wlk t c f k l i).1.name = 0 := by
  refine wlk_ind (fun k i hi _ _ hz => ?_) (fun k n r i ih ih2 hi hg => ?_)
  · rw [wlk_nil] at hz
    exact absurd hz hi
  have hgr : ∀ m ∈ r, Gn m := fun m hm => hg m (List.mem_cons_of_mem _ hm)
  rcases wlk_step t c f k n r i with ⟨a, e⟩ | ⟨a, b, e⟩ | ⟨a, b, e⟩ | ⟨a, b, d, e⟩ | ⟨a, b, d, ⟨x, y, e⟩ | ⟨x, y, ⟨z, e⟩ | ⟨j, hj, e⟩⟩ | ⟨x, y, e⟩ | ⟨x, y, z, e⟩⟩ <;> rw [e]
  · exact fun q => absurd q a
  · exact ih _ hi hgr
  · exact ih _ (up_ne hi) hgr
  · exact fun q => absurd q (by decide)
  · exact fun q => absurd q (by decide)
  · exact fun q => absurd q (by decide)
  · subst hj
    refine ih2 j _ _ (Nat.lt_succ_self _) ?_ (fun m hm => ?_)
    · split
      · decide
      · exact hi
    · rcases List.mem_append.1 hm with q | q
      · exact split_gn (target_nul ho y.1) m q
      · exact hgr m q
  · exact fun _ q => ⟨a, hg n (List.mem_cons_self ..), b, d, q⟩
  · exact ih _ y hgr
theorem res_new {t : List Nd} (ho : okT t) {c : Wh} {p : Nm} {f : Bool} (h : (resM t c p f).2 = 0) (hn : (resM t c p f).1.node = 0) :
    (tget t (resM t c p f).1.dir).kind = 2 ∧ nok (resM t c p f).1.name = true ∧ ¬ (resM t c p f).1.name ∈ nmE (tget t (resM t c p f).1.dir).ents := by
  by_cases hf : fitE t p = 0
  · have e : resM t c p f = wlk t c f 8 (splitP p) 1 := by
      unfold resM
      rw [if_neg (fun q => q hf)]
    rw [e] at h hn ⊢
    obtain ⟨h1, h2, h3, h4, h5⟩ := wlk_new ho 8 (splitP p) 1 (by decide) (split_gn (fit_why.1 hf).2.2.1) h hn
    generalize (wlk t c f 8 (splitP p) 1).1 = F at h1 h2 h3 h4 h5 ⊢
    have hk := (sr_zero.1 h1).1
    refine ⟨hk, ?_, fun q => ?_⟩
    · have h47 : F.name.contains 47 = false := by
        cases hz : F.name.contains 47 with
        | false => rfl
        | true =>
          have : (47 : UInt8) ∈ F.name := by simpa using hz
          exact absurd rfl (h2.sl _ this)
      unfold nok badN
      rw [h47, h2.nul]
      simp [h2.ne, h3.1, h3.2]
      omega
    · obtain ⟨e, he, -, h6⟩ := fnd_some q
      rcases (tis_right ho (kind_tis hk)).2 with z | z | z
      · have := z.1; omega
      · have := (z.2.2.2.1 e he).2
        omega
      · have := z.1; omega
  · have e : resM t c p f = (Fo.zero, fitE t p) := by
      unfold resM
      rw [if_pos hf]
    rw [e] at h
    exact absurd h hf

/-! What is there, once it is made. -/
structure Pla (t t' : List Nd) (D I : Int) (N : Nm) (m : Nd) : Prop where
  dir : (tget t D).kind = 2
  ne : D ≠ I
  num : I = (usedT t : Int) + 1
  nam : ¬ N ∈ nmE (tget t D).ents
  room : (tget t D).ents.length < 8
  free : tis t I = false
  get : ∀ j, tget t' j = if j = D then { tget t D with ents := ins (N, I) (tget t D).ents } else if j = I then m else tget t j
  par : ∀ j, j ≠ I → parT t' 0 j = parT t 0 j
  own : (parT t' 0 I : Int) = D
  link : linkT t' I = 1
  made : rightP m ∧ m.ents = []
  trx : Trx t'
  used : usedT t' = usedT t + 1
  len : t'.length = t.length
theorem pl_pla {t : List Nd} (h : Trx t) {c : Wh} {p : Nm} {f : Bool} {k m : Int} {tg : Nm} (hk4 : k ≠ 4) (hz : plE t c (resM t c p f) k m tg = 0) :
    blE t (plR t c (resM t c p f).1 k m tg) = 0 ∧ withE (tget t (resM t c p f).1.dir) (resM t c p f).1.name (freeT t 0) = 0 ∧ freeT t 0 ≠ 0 ∧ Pla t (plT t c (resM t c p f) k m tg) (resM t c p f).1.dir (freeT t 0) (resM t c p f).1.name (plR t c (resM t c p f).1 k m tg).nd := by
  obtain ⟨z1, z2, z3, ⟨z4, z5⟩, z6⟩ := pl_zero.1 hz
  obtain ⟨r1, r2, r3⟩ := res_new h.ok z1 z2
  have hT0 : plT t c (resM t c p f) k m tg = blT t (plR t c (resM t c p f).1 k m tg) := if_pos hz
  rw [hT0]
  have hrp : (plR t c (resM t c p f).1 k m tg).parent = (resM t c p f).1.dir := rfl
  have hrn : (plR t c (resM t c p f).1 k m tg).name = (resM t c p f).1.name := rfl
  have hrk : (plR t c (resM t c p f).1 k m tg).kind = k := rfl
  generalize plR t c (resM t c p f).1 k m tg = r at z6 hrp hrn hrk ⊢
  generalize (resM t c p f).1.dir = D at z3 z4 r1 r3 hrp ⊢
  generalize (resM t c p f).1.name = N at r2 r3 hrn ⊢
  subst hrp hrn hrk
  have hf : freeT t 0 ≠ 0 := fun q => z5 (free_none.1 q)
  have hp : tis t r.parent = true := kind_tis r1
  obtain ⟨c1, c2, -⟩ := free_is hf
  have he : enE t r = 0 := en_zero.2 (.inr ⟨hk4, z6, hf⟩)
  have hI : enI t r = freeT t 0 := by unfold enI; rw [if_pos he, if_neg hk4]
  have hw : withE (tget t r.parent) r.name (freeT t 0) = 0 := withE_zero.2 ⟨r1, c1.1, r2, r3, z4⟩
  have hbl : blE t r = 0 := bl_zero.2 ⟨hp, he, by rw [hI]; exact hw⟩
  obtain ⟨s1, s2, -⟩ := tre_step h hbl
  rw [if_neg hk4] at s2
  obtain ⟨b1, b2, b3, b4, b5, b6⟩ := tre_node h z6 rfl hf
  have hE : enT t r = setT t (freeT t 0) r.nd := by unfold enT; rw [if_pos he, if_neg hk4]
  have hpi := (h.num r.parent).1 hp
  have hne : r.parent ≠ (freeT t 0 : Int) := by omega
  have hpl := tis_in hp
  have hpin : 1 ≤ r.parent ∧ r.parent ≤ (enT t r).length := by rw [en_len]; exact hpl
  have hW := withM_zero hw
  have hT : blT t r = setT (enT t r) r.parent (withM (tget t r.parent) r.name (freeT t 0)) := by unfold blT; rw [hI]
  have hge : ∀ j, tget (enT t r) j = if j = (freeT t 0 : Int) then r.nd else tget t j := fun j => by rw [hE]; exact tget_set c1
  have hgt : ∀ j, tget (blT t r) j = if j = r.parent then { tget t r.parent with ents := ins (r.name, (freeT t 0 : Int)) (tget t r.parent).ents } else if j = (freeT t 0 : Int) then r.nd else tget t j := fun j => by
    rw [hT, tget_set hpin, hW, hge]
  have hpe : tget (enT t r) r.parent = tget t r.parent := by rw [hge, if_neg hne]
  have hpa : ∀ j, j ≠ (freeT t 0 : Int) → parT (blT t r) 0 j = parT t 0 j := fun j hj => by
    rw [← b4 j, ← hE, hT]
    refine par_set hpin ?_
    rw [hW, cnt_ins, hpe, if_neg (fun q => hj q.symm)]
    exact Iff.rfl
  have hlk : linkT (blT t r) (freeT t 0) = 1 := by
    have h1 := link_set hpin (withM (tget t r.parent) r.name (freeT t 0)) (freeT t 0)
    rw [hW, cnt_ins, hpe, if_pos rfl, hE, b3, b6] at h1
    rw [hT, hW, hE]
    omega
  have how : (parT (blT t r) 0 (freeT t 0) : Int) = r.parent := by
    have hk : (r.parent - 1).toNat < (blT t r).length := by rw [bl_len]; omega
    have he1 : r.parent = (((r.parent - 1).toNat : Nat) : Int) + 1 := by omega
    have := par_one (j := (freeT t 0 : Int)) (blT t r) 0 (r.parent - 1).toNat ⟨hk, by
      rw [← tget_at hk, ← he1, hgt, if_pos rfl, cnt_ins, if_pos rfl]
      omega⟩ (fun m hm hmk => by
      rw [← tget_at hm, hgt, if_neg (by omega)]
      split
      · rfl
      · exact link_zero.1 b6 _)
    rw [this]
    omega
  exact ⟨hbl, hw, hf, r1, hne, by omega, r3, z4, c2, hgt, hpa, how, hlk, ⟨z6, rfl⟩, s1, s2, bl_len t r⟩
theorem pl_trx {t : List Nd} (h : Trx t) (c : Wh) (p : Nm) (f : Bool) {k : Int} (m : Int) (tg : Nm) (hk4 : k ≠ 4) : Trx (plT t c (resM t c p f) k m tg) := by
  by_cases hz : plE t c (resM t c p f) k m tg = 0
  · exact (pl_pla h hk4 hz).2.2.2.trx
  · rw [(pl_err hz).1]
    exact h
theorem pl_len {t : List Nd} (h : Trx t) (c : Wh) (p : Nm) (f : Bool) {k : Int} (m : Int) (tg : Nm) (hk4 : k ≠ 4) : (plT t c (resM t c p f) k m tg).length = t.length := by
  by_cases hz : plE t c (resM t c p f) k m tg = 0
  · exact (pl_pla h hk4 hz).2.2.2.len
  · rw [(pl_err hz).1]
/-- Of no table nothing is made. -/
theorem pl_nil (c : Wh) (p : Nm) (f : Bool) (k m : Int) (tg : Nm) : plE [] c (resM [] c p f) k m tg ≠ 0 := fun q => by
  obtain ⟨z1, z2, z3, -⟩ := pl_zero.1 q
  unfold canT at z3
  rw [show tis [] (resM [] c p f).1.dir = false from by unfold tis; rw [tget_out (by simp; omega)]; rfl] at z3
  cases z3
end Go.Proofs.YtfopnfgfoicidaaGreat
