/-
  Package prune's answers, as plain mathematics: what is freed, what is below, entries that are found, taken away, moved. The conditions are said at each.
-/
import Derived.Test.YtiimdmbalnhmmaaGreatPrM
namespace Go.Proofs.YtiimdmbalnhmmaaGreat
open Go Go.RowKit
set_option maxRecDepth 100000

/-- Does a node go, that no entry has? -/
def frB (t : List Nd) (i : Int) (op : List Int) : Bool := decide (i ≠ 1) && (decide (linkT t i = 0) && (!op.contains i && tis t i))
def frT (t : List Nd) (i : Int) (op : List Int) : List Nd := if frB t i op = true then setT t i Nd.zero else t
def dropT (t : List Nd) (i : Int) : List Nd := if tis t i = true then setT t i Nd.zero else t
/-- Does one come from a number to a directory? -/
def blw (t : List Nd) (dir : Int) : Nat → Int → Bool
  | 0, i => i == dir
  | k + 1, i => if i = dir then true else if i = 0 then false else blw t dir k (parF t i)
def blwB (t : List Nd) (i dir : Int) : Bool := blw t dir 24 i
/-- May who asks take an entry away? -/
def stkB (t : List Nd) (c : Wh) (F : Fo) : Bool := c.u == 0 || bits .and .i64 (tget t F.dir).mode 512 == 0 || (tget t F.dir).uid == c.u || (tget t F.node).uid == c.u
/-- Why an entry isn't found. -/
def fnE (t : List Nd) (c : Wh) (R : Fo × Int) : Int :=
  if R.2 ≠ 0 then R.2 else if R.1.node = 0 then 2 else if R.1.name = [] then 22 else if canT t c R.1.dir 2 = false then 13 else if stkB t c R.1 = false then 1 else 0
theorem fn_zero {t : List Nd} {c : Wh} {R : Fo × Int} : fnE t c R = 0 ↔ R.2 = 0 ∧ R.1.node ≠ 0 ∧ R.1.name ≠ [] ∧ canT t c R.1.dir 2 = true ∧ stkB t c R.1 = true := by
  unfold fnE
  by_cases h1 : R.2 = 0
  · rw [if_neg (fun q => q h1)]
    by_cases h2 : R.1.node = 0
    · rw [if_pos h2]
      exact ⟨fun q => absurd q (by decide), fun q => absurd h2 q.2.1⟩
    · rw [if_neg h2]
      by_cases h3 : R.1.name = []
      · rw [if_pos h3]
        exact ⟨fun q => absurd q (by decide), fun q => absurd h3 q.2.2.1⟩
      · rw [if_neg h3]
        cases h4 : canT t c R.1.dir 2 with
        | false => simp
        | true =>
          rw [if_neg (by decide)]
          cases h5 : stkB t c R.1 with
          | false => simp
          | true =>
            rw [if_neg (by decide)]
            exact ⟨fun _ => ⟨h1, h2, h3, rfl, rfl⟩, fun _ => rfl⟩
  · rw [if_pos h1]
    exact ⟨fun q => absurd q h1, fun q => absurd q.1 h1⟩
/-- Unlink. -/
def ulE (t : List Nd) (c : Wh) (R : Fo × Int) : Int := if fnE t c R ≠ 0 then fnE t c R else if (tget t R.1.node).kind = 2 then 21 else 0
def ulT (t : List Nd) (c : Wh) (R : Fo × Int) (op : List Int) : List Nd := if ulE t c R = 0 then frT (cutT t R.1.dir R.1.name) R.1.node op else t
/-- Rmdir. -/
def rdE (t : List Nd) (c : Wh) (R : Fo × Int) : Int := if fnE t c R ≠ 0 then fnE t c R else if (tget t R.1.node).kind ≠ 2 then 20 else if (tget t R.1.node).ents ≠ [] then 39 else 0
def rdT (t : List Nd) (c : Wh) (R : Fo × Int) : List Nd := if rdE t c R = 0 then dropT (cutT t R.1.dir R.1.name) R.1.node else t
/-- Why an entry isn't moved. -/
def mvY (t : List Nd) (c : Wh) (i d : Int) (G : Fo) : Int :=
  if G.name = [] then 22 else if canT t c G.dir 3 = false then 13 else if G.node = i then 0 else if (tget t i).kind = 2 ∧ blwB t G.dir i = true then 22
  else if G.node = 0 then (if G.dir ≠ d ∧ 8 ≤ (tget t G.dir).ents.length then 28 else 0)
  else if stkB t c G = false then 1 else if (tget t i).kind = 2 ∧ (tget t G.node).kind ≠ 2 then 20 else if (tget t i).kind ≠ 2 ∧ (tget t G.node).kind = 2 then 21
  else if (tget t G.node).ents ≠ [] then 39 else 0
/-- Rename. -/
def mvE (t : List Nd) (c : Wh) (R S : Fo × Int) : Int := if fnE t c R ≠ 0 then fnE t c R else if S.2 ≠ 0 then S.2 else mvY t c R.1.node R.1.dir S.1
def mv2 (t : List Nd) (d : Int) (n : Nm) (D : Int) (N : Nm) (k : Int) : List Nd := if k ≠ 0 then cutT (cutT t d n) D N else cutT t d n
def mv3 (t : List Nd) (d : Int) (n : Nm) (i D : Int) (N : Nm) (k : Int) : List Nd := addT (mv2 t d n D N k) D N i
def mvT (t : List Nd) (c : Wh) (R S : Fo × Int) (op : List Int) : List Nd :=
  if mvE t c R S ≠ 0 ∨ S.1.node = R.1.node then t else frT (mv3 t R.1.dir R.1.name R.1.node S.1.dir S.1.name S.1.node) S.1.node op
theorem mvY_zero {t : List Nd} {c : Wh} {i d : Int} {G : Fo} (h : mvY t c i d G = 0) (hne : G.node ≠ i) : G.name ≠ [] ∧ canT t c G.dir 3 = true ∧ ((tget t i).kind = 2 → blwB t G.dir i = false) ∧
    (G.node = 0 → G.dir ≠ d → (tget t G.dir).ents.length < 8) ∧ (G.node ≠ 0 → stkB t c G = true ∧ ((tget t i).kind = 2 ↔ (tget t G.node).kind = 2) ∧ (tget t G.node).ents = []) := by
  unfold mvY at h
  by_cases h1 : G.name = []
  · rw [if_pos h1] at h; exact absurd h (by decide)
  rw [if_neg h1] at h
  cases h2 : canT t c G.dir 3 with
  | false => rw [h2, if_pos rfl] at h; exact absurd h (by decide)
  | true =>
  rw [h2, if_neg (by decide), if_neg hne] at h
  by_cases h3 : (tget t i).kind = 2 ∧ blwB t G.dir i = true
  · rw [if_pos h3] at h; exact absurd h (by decide)
  rw [if_neg h3] at h
  refine ⟨h1, rfl, fun q => ?_, fun q q2 => ?_, fun q => ?_⟩
  · cases hb : blwB t G.dir i with
    | false => rfl
    | true => exact absurd ⟨q, hb⟩ h3
  · rw [if_pos q] at h
    by_cases h4 : G.dir ≠ d ∧ 8 ≤ (tget t G.dir).ents.length
    · rw [if_pos h4] at h; exact absurd h (by decide)
    · exact Nat.lt_of_not_le (fun z => h4 ⟨q2, z⟩)
  · rw [if_neg q] at h
    cases h4 : stkB t c G with
    | false => rw [h4, if_pos rfl] at h; exact absurd h (by decide)
    | true =>
    rw [h4, if_neg (by decide)] at h
    by_cases h5 : (tget t i).kind = 2 ∧ (tget t G.node).kind ≠ 2
    · rw [if_pos h5] at h; exact absurd h (by decide)
    rw [if_neg h5] at h
    by_cases h6 : (tget t i).kind ≠ 2 ∧ (tget t G.node).kind = 2
    · rw [if_pos h6] at h; exact absurd h (by decide)
    rw [if_neg h6] at h
    by_cases h7 : (tget t G.node).ents ≠ []
    · rw [if_pos h7] at h; exact absurd h (by decide)
    refine ⟨rfl, ⟨fun z => Classical.byContradiction (fun y => h5 ⟨z, y⟩), fun z => Classical.byContradiction (fun y => h6 ⟨y, z⟩)⟩, Classical.byContradiction h7⟩

/-! Where an entry is. -/
/-- What a path leads to, that ends in a name. -/
structure Ent (t : List Nd) (F : Fo) : Prop where
  kind : (tget t F.dir).kind = 2
  found : fnd (tget t F.dir).ents F.name = F.node
  nam : nok F.name = true
theorem gn_nok {n : Nm} (h2 : Gn n) (h3 : n ≠ [46] ∧ n ≠ [46, 46]) (h4 : ¬ 12 < n.length) : nok n = true := by
  have h47 : n.contains 47 = false := by
    cases hz : n.contains 47 with
    | false => rfl
    | true =>
      have : (47 : UInt8) ∈ n := by simpa using hz
      exact absurd rfl (h2.sl _ this)
  unfold nok badN
  rw [h47, h2.nul]
  simp [h2.ne, h3.1, h3.2]
  omega
theorem wlk_ent {t : List Nd} (ho : okT t) {c : Wh} {f : Bool} : ∀ k l i, (∀ n ∈ l, Gn n) → (wlk t c f k l i).2 = 0 → (wlk t c f k l i).1.name ≠ [] → Ent t (wlk t c f k l i).1 := by
  refine wlk_ind (fun k i _ _ hz => ?_) (fun k n r i ih ih2 hg => ?_)
  · rw [wlk_nil] at hz
    exact absurd rfl hz
  have hgr : ∀ m ∈ r, Gn m := fun m hm => hg m (List.mem_cons_of_mem _ hm)
  rcases wlk_step t c f k n r i with ⟨a, e⟩ | ⟨a, b, e⟩ | ⟨a, b, e⟩ | ⟨a, b, d, e⟩ | ⟨a, b, d, ⟨x, y, e⟩ | ⟨x, y, ⟨z, e⟩ | ⟨j, hj, e⟩⟩ | ⟨x, y, e⟩ | ⟨x, y, z, e⟩⟩ <;> rw [e]
  · exact fun q => absurd q a
  · exact ih _ hgr
  · exact ih _ hgr
  · exact fun q => absurd q (by decide)
  · exact fun q => absurd q (by decide)
  · exact fun q => absurd q (by decide)
  · subst hj
    refine ih2 j _ _ (Nat.lt_succ_self _) (fun m hm => ?_)
    rcases List.mem_append.1 hm with q | q
    · exact split_gn (target_nul ho y.1) m q
    · exact hgr m q
  · exact fun _ _ => ⟨(sr_zero.1 a).1, rfl, gn_nok (hg n (List.mem_cons_self ..)) b d⟩
  · exact ih _ hgr
theorem res_ent {t : List Nd} (ho : okT t) {c : Wh} {p : Nm} {f : Bool} (h : (resM t c p f).2 = 0) (hn : (resM t c p f).1.name ≠ []) : Ent t (resM t c p f).1 := by
  by_cases hf : fitE t p = 0
  · have e : resM t c p f = wlk t c f 8 (splitP p) 1 := by
      unfold resM
      rw [if_neg (fun q => q hf)]
    rw [e] at h hn ⊢
    exact wlk_ent ho 8 (splitP p) 1 (split_gn (fit_why.1 hf).2.2.1) h hn
  · have e : resM t c p f = (Fo.zero, fitE t p) := by
      unfold resM
      rw [if_pos hf]
    rw [e] at h
    exact absurd h hf
theorem fn_ent {t : List Nd} (ho : okT t) {c : Wh} {p : Nm} (h : fnE t c (resM t c p false) = 0) : Ent t (resM t c p false).1 ∧ (resM t c p false).1.node ≠ 0 := by
  obtain ⟨h1, h2, h3, -, -⟩ := fn_zero.1 h
  exact ⟨res_ent ho h1 h3, h2⟩

/-! Below. -/
theorem blw_iff {t : List Nd} (ho : okT t) {dir : Int} (hd : dir ≠ 0) : ∀ (k : Nat) (i : Int), blw t dir k i = true ↔ ∃ m, m ≤ k ∧ itr (parF t) m i = dir
  | 0, i => by
    rw [blw]
    constructor
    · intro h; exact ⟨0, Nat.le_refl _, (by have q : i = dir := (by simpa using h); exact q)⟩
    · rintro ⟨m, h1, h2⟩
      have : m = 0 := by omega
      subst this
      have q : i = dir := h2
      simpa using q
  | k + 1, i => by
    rw [blw]
    split
    · rename_i q
      exact ⟨fun _ => ⟨0, Nat.zero_le _, q⟩, fun _ => rfl⟩
    · rename_i q
      split
      · rename_i q2
        refine ⟨fun h => (by cases h), ?_⟩
        rintro ⟨m, -, h2⟩
        rw [q2, itr_zero (parF_zero ho)] at h2
        exact absurd h2.symm hd
      · rw [blw_iff ho hd k]
        constructor
        · rintro ⟨m, h1, h2⟩
          exact ⟨m + 1, by omega, h2⟩
        · rintro ⟨m, h1, h2⟩
          cases m with
          | zero => exact absurd h2 q
          | succ m => exact ⟨m, by omega, h2⟩
/-- In a tree what isn't below within 24 steps isn't at all. -/
theorem blw_not {t : List Nd} (h : Tre t) {D i : Int} (hD : (tget t D).kind = 2) (hi : i ≠ 0) (hb : blwB t D i = false) : ∀ m, itr (parF t) m D ≠ i := fun m q => by
  obtain ⟨m0, h0⟩ := h.root D hD
  have hin := tis_in (kind_tis hD)
  obtain ⟨a, h1, h2⟩ := root_bound (L := t.length) (parF_zero h.ok) (parF_le t) ⟨by omega, by omega⟩ h0
  have hle := h.le
  have hm : m ≤ 24 := by
    refine Classical.byContradiction (fun z => hi ?_)
    have e1 := itr_add (parF t) (a + 1) (m - (a + 1)) D
    have e2 : itr (parF t) (a + 1) D = 0 := by rw [itr_succ, h2]; exact par_none h.top
    rw [show a + 1 + (m - (a + 1)) = m by omega, q, e2, itr_zero (parF_zero h.ok)] at e1
    exact e1
  have h3 := (blw_iff h.ok hi 24 D).2 ⟨m, hm, q⟩
  unfold blwB at hb
  rw [hb] at h3
  cases h3
end Go.Proofs.YtiimdmbalnhmmaaGreat
