/-
  Changes of modes, owners and groups, and of files, in trees with open nodes; plain mathematics. The conditions are said at each. Processes and their calls, as plain mathematics: what each call answers and leaves. No condition. Package sys as the statements see it: what is said of its calls, whatever a System is made of; calls and who ask, as lists in memory. The conditions are said at each. What PruneMoved and PruneSticky ask for; plain mathematics. The conditions are said at each. What package prune's calls answer, as statements: their proofs come from the code. No condition. A System of package sys in memory: a table's block and a row of processes, sixteen cells each. No condition. Package sys: a process by its number, a place of a process, the first free place. The conditions are said at each.
-/
import Derived.Test.YtnkjaocmfhjnoaaGreatE4
import Derived.Test.YtnkjaocmfhjnoaaGreatE5
import Derived.Test.YtnkjaocmfhjnoaaGreatE6
import Derived.Test.YtnkjaocmfhjnoaaGreatE9
namespace Go.Proofs.YtnkjaocmfhjnoaaGreat
open Go Go.RowKit
set_option maxRecDepth 100000

theorem wlk_nolink {t : List Nd} (ho : okT t) (h1 : (tget t 1).kind ≠ 3) {c : Wh} : ∀ k l i, (tget t i).kind ≠ 3 → (wlk t c true k l i).2 = 0 → (tget t (wlk t c true k l i).1.node).kind ≠ 3 := by
  refine wlk_ind (fun k i hi _ => ?_) (fun k n r i ih ih2 hi => ?_)
  · rw [wlk_nil]
    exact hi
  rcases wlk_step t c true k n r i with ⟨a, e⟩ | ⟨a, b, e⟩ | ⟨a, b, e⟩ | ⟨a, b, d, e⟩ | ⟨a, b, d, ⟨x, y, e⟩ | ⟨x, y, ⟨z, e⟩ | ⟨j, hj, e⟩⟩ | ⟨x, y, e⟩ | ⟨x, y, z, e⟩⟩ <;> rw [e]
  · exact fun q => absurd q a
  · exact ih _ hi
  · refine ih _ ?_
    unfold upI
    split
    · rename_i q
      have h2 := (par_dir ho (j := i) (by unfold parF; omega)).1
      unfold parF at h2
      rw [h2]
      decide
    · exact hi
  · exact fun q => absurd q (by decide)
  · exact fun q => absurd q (by decide)
  · exact fun q => absurd q (by decide)
  · subst hj
    refine ih2 j _ _ (Nat.lt_succ_self _) ?_
    split
    · exact h1
    · exact hi
  · exact fun _ z => x ⟨z, .inl rfl⟩
  · exact ih _ (fun q => x ⟨q, .inl rfl⟩)
theorem res_nolink {t : List Nd} (ho : okT t) (h1 : (tget t 1).kind ≠ 3) {c : Wh} {p : Nm} (hz : (resM t c p true).2 = 0) : (tget t (resM t c p true).1.node).kind ≠ 3 := by
  by_cases hf : fitE t p = 0
  · have e : resM t c p true = wlk t c true 8 (splitP p) 1 := by
      unfold resM
      rw [if_neg (fun q => q hf)]
    rw [e] at hz ⊢
    exact wlk_nolink ho h1 8 (splitP p) 1 h1 hz
  · have e : resM t c p true = (Fo.zero, fitE t p) := by
      unfold resM
      rw [if_pos hf]
    rw [e] at hz
    exact absurd hz hf
theorem sta_nolinkO {t : List Nd} (ho : okT t) (h1 : (tget t 1).kind ≠ 3) {c : Wh} {p : Nm} (h : (staM t c p true).2 = 0) : (tget t (staM t c p true).1.node).kind ≠ 3 := by
  obtain ⟨h2, -, h3, -⟩ := staM_zero h
  rw [← h3]
  exact res_nolink ho h1 h2
structure Kpa (t t' : List Nd) (O : Int → Prop) : Prop where
  tro : Tro t' O
  kind : ∀ j, (tget t' j).kind = (tget t j).kind
  len : t'.length = t.length
theorem kpa_refl {t : List Nd} {O : Int → Prop} (h : Tro t O) : Kpa t t O := ⟨h, fun _ => rfl, rfl⟩
theorem kpa_set {t : List Nd} {O : Int → Prop} (h : Tro t O) {i : Int} {n : Nd} (hi : tis t i = true) (hk : n.kind = (tget t i).kind) (he : n.ents = (tget t i).ents) (hr : rightP n) : Kpa t (setT t i n) O := by
  refine ⟨tro_set h hi hk he hr, fun j => ?_, len_setT ..⟩
  rw [tget_set (tis_in hi)]
  split
  · rename_i q; rw [q]; exact hk
  · rfl
theorem chm_kpa {t : List Nd} {O : Int → Prop} (h : Tro t O) (c : Wh) (p : Nm) (mode : Int) : Kpa t (chmT t c p mode) O := by
  by_cases he : chmE t c p mode = 0
  · have hz := (chm_zero he).2.1
    obtain ⟨hi, -⟩ := sta_there hz
    rw [chmT_set he]
    exact kpa_set h hi rfl rfl (chm_right (tis_right h.ok hi) (sta_nolinkO h.ok (by rw [h.one]; decide) hz) c mode)
  · rw [chmT_err he]
    exact kpa_refl h
theorem chw_kpa {t : List Nd} {O : Int → Prop} (h : Tro t O) (c : Wh) (p : Nm) (uid gid : Int) (f : Bool) : Kpa t (chwT t c p uid gid f) O := by
  by_cases he : chwE t c p uid gid f = 0
  · by_cases hn : uid < 0 ∧ gid < 0
    · rw [chwT_none hn]
      exact kpa_refl h
    · obtain ⟨⟨hu, hg⟩, hz, -⟩ := chw_zero he
      obtain ⟨hi, -⟩ := sta_there hz
      rw [chwT_set he hn]
      exact kpa_set h hi rfl rfl (chw_right (tis_right h.ok hi) c hu hg)
  · rw [chwT_err he]
    exact kpa_refl h
theorem fw_kpa {t : List Nd} {O : Int → Prop} (h : Tro t O) (c : Wh) (i off : Int) (b : List UInt8) : Kpa t (fwT t c i off b) O := by
  unfold fwT
  by_cases he : fwE t i off b = 0 ∧ b ≠ []
  · rw [if_pos he]
    exact kpa_set h (kind_is (fw_zero he.1).1) rfl rfl (fw_right h.ok c he.1 he.2)
  · rw [if_neg he]
    exact kpa_refl h
theorem pl_kpo {t : List Nd} {O : Int → Prop} (h : Tro t O) (c : Wh) (p : Nm) (f : Bool) {k : Int} (m : Int) (tg : Nm) (hk4 : k ≠ 4) : Tro (plT t c (resM t c p f) k m tg) O ∧ (∀ j, tis t j = true → noE (tget (plT t c (resM t c p f) k m tg) j) = noE (tget t j)) ∧ (plT t c (resM t c p f) k m tg).length = t.length := by
  by_cases hz : plE t c (resM t c p f) k m tg = 0
  · obtain ⟨h1, h2, -⟩ := tro_plant h hk4 hz
    refine ⟨h1, h2, ?_⟩
    have e : plT t c (resM t c p f) k m tg = blT t (plR t c (resM t c p f).1 k m tg) := if_pos hz
    rw [e, bl_len]
  · rw [(pl_err hz).1]
    exact ⟨h, fun _ _ => rfl, rfl⟩
theorem fo_kpo {t : List Nd} {O : Int → Prop} (h : Tro t O) (c : Wh) (um : Int) (p : Nm) (fl md : Int) : Tro (foT t c um p fl md) O ∧ (∀ j, tis t j = true → (tget (foT t c um p fl md) j).kind = (tget t j).kind) ∧ (foT t c um p fl md).length = t.length ∧
    (foE t c um p fl md = 0 → (tget (foT t c um p fl md) (foI t c um p fl md)).kind = 1) := by
  by_cases hz : foE t c um p fl md = 0
  · obtain ⟨h1, h2, h3⟩ := fo_zero hz
    rcases h3 with ⟨h3, -, h4⟩ | ⟨h3, h4⟩
    · have eT : foT t c um p fl md = crT t c um p md (flF fl) := by
        unfold foT
        rw [if_neg (fun q => q hz), if_pos h3]
      have eI : foI t c um p fl md = crI t c um p md (flF fl) := by
        unfold foI
        rw [if_neg (fun q => q hz), if_pos h3]
      rw [eT, eI]
      obtain ⟨g1, g2, g3⟩ := pl_kpo h c p (flF fl) (k := 1) (mskM md um) [] (by decide)
      refine ⟨g1, fun j hj => kind_noE (g2 j hj), g3, fun _ => ?_⟩
      have e1 : crI t c um p md (flF fl) = (freeT t 0 : Int) := if_pos h4
      rw [e1]
      have e2 := (tro_plant h (by decide) h4).2.2.1
      unfold crT
      rw [e2]
      rfl
    · have eI : foI t c um p fl md = (resM t c p (flF fl)).1.node := by
        unfold foI
        rw [if_neg (fun q => q hz), if_neg h3]
      have eT : foT t c um p fl md = if flB fl 4 = true then setT t (resM t c p (flF fl)).1.node (wrN c (tget t (resM t c p (flF fl)).1.node) []) else t := by
        unfold foT
        rw [if_neg (fun q => q hz), if_neg h3]
      obtain ⟨k1, k2⟩ := fx_file h.ok h4 h1
      rw [eI, eT]
      by_cases q : flB fl 4 = true
      · rw [if_pos q]
        have ka := kpa_set (n := wrN c (tget t (resM t c p (flF fl)).1.node) []) h k2 rfl rfl (fo_right h.ok c h4 h1)
        exact ⟨ka.tro, fun j _ => ka.kind j, ka.len, fun _ => by rw [ka.kind]; exact k1⟩
      · rw [if_neg q]
        exact ⟨h, fun _ _ => rfl, rfl, fun _ => k1⟩
  · rw [(fo_err hz).1]
    exact ⟨h, fun _ _ => rfl, rfl, fun q => absurd q hz⟩
end Go.Proofs.YtnkjaocmfhjnoaaGreat
namespace Go.Proofs.YtnkjaocmfhjnoaaGreat
open Go Go.RowKit
set_option maxRecDepth 100000

structure Fdm where
  node : Int
  off : Int
  rd : Bool
  wr : Bool
  deriving DecidableEq
def Fdm.zero : Fdm := ⟨0, 0, false, false⟩
structure Prm where
  c : Wh
  um : Int
  f : List Fdm
structure Sym where
  t : List Nd
  p : List Prm
structure Cal where
  kind : Int
  path : Nm
  other : Nm
  a : Int
  b : Int
  data : List UInt8
structure Rsm where
  err : Int
  n : Int
  stat : Sta
  text : Nm
  names : List Nm
  data : List UInt8
def Rsm.e (x : Int) : Rsm := ⟨x, 0, Sta.zero, [], [], []⟩
def Rsm.k (n : Int) : Rsm := ⟨0, n, Sta.zero, [], [], []⟩
def opnF (l : List Fdm) : List Int := (l.filter (fun f => f.node != 0)).map (·.node)
def opnP (l : List Prm) : List Int := l.flatMap (fun p => opnF p.f)
def opnS (S : Sym) : List Int := opnP S.p
def Prm.setF (p : Prm) (i : Nat) (f : Fdm) : Prm := ⟨p.c, p.um, p.f.set i f⟩
def Prm.fd (p : Prm) (a : Int) : Fdm := if 0 ≤ a then p.f.getD a.toNat Fdm.zero else Fdm.zero
def frePl (p : Prm) : Nat := p.f.findIdx (fun f => f.node == 0)
noncomputable def opnK (S : Sym) (j : Nat) (p : Prm) (c : Cal) : Sym × Rsm :=
  if p.f.length ≤ frePl p then (S, Rsm.e 24)
  else if foE S.t p.c p.um c.path c.a c.b ≠ 0 then (S, Rsm.e (foE S.t p.c p.um c.path c.a c.b))
  else (⟨foT S.t p.c p.um c.path c.a c.b, S.p.set j (p.setF (frePl p) ⟨foI S.t p.c p.um c.path c.a c.b, 0, flB c.a 0, flB c.a 1⟩)⟩, Rsm.k (frePl p))
def reaK (S : Sym) (j : Nat) (p : Prm) (c : Cal) : Sym × Rsm :=
  if (p.fd c.a).node = 0 ∨ (p.fd c.a).rd = false then (S, Rsm.e 9)
  else if faE S.t (p.fd c.a).node (p.fd c.a).off c.b ≠ 0 then (S, Rsm.e (faE S.t (p.fd c.a).node (p.fd c.a).off c.b))
  else (⟨S.t, S.p.set j (p.setF c.a.toNat ⟨(p.fd c.a).node, (p.fd c.a).off + (faB S.t (p.fd c.a).node (p.fd c.a).off c.b).length, (p.fd c.a).rd, (p.fd c.a).wr⟩)⟩, ⟨0, 0, Sta.zero, [], [], faB S.t (p.fd c.a).node (p.fd c.a).off c.b⟩)
def wriK (S : Sym) (j : Nat) (p : Prm) (c : Cal) : Sym × Rsm :=
  if (p.fd c.a).node = 0 ∨ (p.fd c.a).wr = false then (S, Rsm.e 9)
  else if fwE S.t (p.fd c.a).node (p.fd c.a).off c.data ≠ 0 then (S, Rsm.e (fwE S.t (p.fd c.a).node (p.fd c.a).off c.data))
  else (⟨fwT S.t p.c (p.fd c.a).node (p.fd c.a).off c.data, S.p.set j (p.setF c.a.toNat ⟨(p.fd c.a).node, (p.fd c.a).off + c.data.length, (p.fd c.a).rd, (p.fd c.a).wr⟩)⟩, Rsm.k c.data.length)
def shuS (S : Sym) (j : Nat) (p : Prm) (a : Nat) : Sym := ⟨frT S.t (p.f.getD a Fdm.zero).node (opnP (S.p.set j (p.setF a Fdm.zero))), S.p.set j (p.setF a Fdm.zero)⟩
def cloK (S : Sym) (j : Nat) (p : Prm) (c : Cal) : Sym × Rsm := if (p.fd c.a).node = 0 then (S, Rsm.e 9) else (shuS S j p c.a.toNat, Rsm.e 0)
def sh1 (S : Sym) (j : Nat) (a : Nat) : Sym := match S.p[j]? with
  | none => S
  | some p => if (p.f.getD a Fdm.zero).node = 0 then S else shuS S j p a
def exiS (S : Sym) (j : Nat) : Sym := sh1 (sh1 (sh1 S j 0) j 1) j 2
noncomputable def doK : Nat → Sym → Nat → Prm → Cal → Sym × Rsm
  | 1, S, _, p, c => (S, ⟨(staM S.t p.c c.path true).2, 0, (staM S.t p.c c.path true).1, [], [], []⟩)
  | 2, S, _, p, c => (S, ⟨(staM S.t p.c c.path false).2, 0, (staM S.t p.c c.path false).1, [], [], []⟩)
  | 3, S, _, p, c => (S, ⟨(rdlM S.t p.c c.path).2, 0, Sta.zero, (rdlM S.t p.c c.path).1, [], []⟩)
  | 4, S, _, p, c => (S, ⟨(lstM S.t p.c c.path).2, 0, Sta.zero, [], (lstM S.t p.c c.path).1, []⟩)
  | 5, S, _, p, c => (⟨chmT S.t p.c c.path c.a, S.p⟩, Rsm.e (chmE S.t p.c c.path c.a))
  | 6, S, _, p, c => (⟨chwT S.t p.c c.path c.a c.b true, S.p⟩, Rsm.e (chwE S.t p.c c.path c.a c.b true))
  | 7, S, _, p, c => (⟨chwT S.t p.c c.path c.a c.b false, S.p⟩, Rsm.e (chwE S.t p.c c.path c.a c.b false))
  | 8, S, _, p, c => (⟨mkT S.t p.c p.um c.path c.a, S.p⟩, Rsm.e (mkE S.t p.c p.um c.path c.a))
  | 9, S, _, p, c => (⟨syT S.t p.c c.other c.path, S.p⟩, Rsm.e (syE S.t p.c c.other c.path))
  | 10, S, _, p, c => (⟨ulT S.t p.c (resM S.t p.c c.path false) (opnS S), S.p⟩, Rsm.e (ulE S.t p.c (resM S.t p.c c.path false)))
  | 11, S, _, p, c => (⟨rdT S.t p.c (resM S.t p.c c.path false), S.p⟩, Rsm.e (rdE S.t p.c (resM S.t p.c c.path false)))
  | 12, S, _, p, c => (⟨mvT S.t p.c (resM S.t p.c c.path false) (resM S.t p.c c.other false) (opnS S), S.p⟩, Rsm.e (mvE S.t p.c (resM S.t p.c c.path false) (resM S.t p.c c.other false)))
  | 13, S, j, p, c => opnK S j p c
  | 14, S, j, p, c => reaK S j p c
  | 15, S, j, p, c => wriK S j p c
  | 16, S, j, p, c => cloK S j p c
  | 17, S, j, p, c => (⟨S.t, S.p.set j ⟨p.c, c.a % 512, p.f⟩⟩, Rsm.k p.um)
  | 18, S, j, _, _ => (exiS S j, Rsm.e 0)
  | _, S, _, _, _ => (S, Rsm.e 22)
def prI (S : Sym) (pid : Int) : Option Prm := if 0 ≤ pid then S.p[pid.toNat]? else none
noncomputable def doS (S : Sym) (pid : Int) (c : Cal) : Sym × Rsm := match prI S pid with
  | none => (S, Rsm.e 22)
  | some p => if 1 ≤ c.kind ∧ c.kind ≤ 18 then doK c.kind.toNat S pid.toNat p c else (S, Rsm.e 22)

/-! Open nodes. -/
theorem opnF_mem {l : List Fdm} {j : Int} : j ∈ opnF l ↔ ∃ f ∈ l, f.node ≠ 0 ∧ f.node = j := by
  unfold opnF
  rw [List.mem_map]
  constructor
  · rintro ⟨f, h1, h2⟩
    rw [List.mem_filter] at h1
    exact ⟨f, h1.1, by simpa using h1.2, h2⟩
  · rintro ⟨f, h1, h2, h3⟩
    exact ⟨f, List.mem_filter.2 ⟨h1, by simpa using h2⟩, h3⟩
theorem opnP_mem {l : List Prm} {j : Int} : j ∈ opnP l ↔ ∃ p ∈ l, j ∈ opnF p.f := by unfold opnP; rw [List.mem_flatMap]
theorem opnF_set {l : List Fdm} {i : Nat} {f : Fdm} {j : Int} (h : j ∈ opnF (l.set i f)) : j ∈ opnF l ∨ (f.node ≠ 0 ∧ f.node = j) := by
  obtain ⟨g, h1, h2, h3⟩ := opnF_mem.1 h
  rcases List.mem_or_eq_of_mem_set h1 with q | q
  · exact .inl (opnF_mem.2 ⟨g, q, h2, h3⟩)
  · exact .inr ⟨by rw [← q]; exact h2, by rw [← q]; exact h3⟩
theorem opnP_set {l : List Prm} {i : Nat} {p : Prm} {j : Int} (h : j ∈ opnP (l.set i p)) : j ∈ opnP l ∨ j ∈ opnF p.f := by
  obtain ⟨q, h1, h2⟩ := opnP_mem.1 h
  rcases List.mem_or_eq_of_mem_set h1 with z | z
  · exact .inl (opnP_mem.2 ⟨q, z, h2⟩)
  · exact .inr (by rw [← z]; exact h2)
theorem opnP_at {l : List Prm} {i : Nat} {p : Prm} (h : l[i]? = some p) {j : Int} (hj : j ∈ opnF p.f) : j ∈ opnP l := opnP_mem.2 ⟨p, List.mem_of_getElem? h, hj⟩
theorem mem_set_of {α : Type} {l : List α} {i : Nat} {a x y : α} (h : l[i]? = some a) (hx : x ∈ l) : x = a ∨ x ∈ l.set i y := by
  obtain ⟨k, hk, rfl⟩ := List.mem_iff_getElem.1 hx
  by_cases q : k = i
  · subst q
    rw [List.getElem?_eq_getElem hk] at h
    injection h with h
    exact .inl h
  · refine .inr (List.mem_iff_getElem.2 ⟨k, by rw [List.length_set]; exact hk, ?_⟩)
    rw [List.getElem_set_ne (fun z => q z.symm)]
theorem opnP_back {l : List Prm} {i : Nat} {p q : Prm} (h : l[i]? = some p) {j : Int} (hj : j ∈ opnP l) : j ∈ opnF p.f ∨ j ∈ opnP (l.set i q) := by
  obtain ⟨x, h1, h2⟩ := opnP_mem.1 hj
  rcases mem_set_of (y := q) h h1 with z | z
  · exact .inl (by rw [← z]; exact h2)
  · exact .inr (opnP_mem.2 ⟨x, z, h2⟩)
theorem opnF_back {l : List Fdm} {i : Nat} {f : Fdm} (hi : i < l.length) {j : Int} (hj : j ∈ opnF l) : j = l[i].node ∨ j ∈ opnF (l.set i f) := by
  obtain ⟨x, h1, h2, h3⟩ := opnF_mem.1 hj
  rcases mem_set_of (y := f) (List.getElem?_eq_getElem hi) h1 with z | z
  · exact .inl (by rw [← h3, z])
  · exact .inr (opnF_mem.2 ⟨x, z, h2, h3⟩)
theorem opnP_new {l : List Prm} {i : Nat} {q : Prm} (hi : i < l.length) {j : Int} (hj : j ∈ opnF q.f) : j ∈ opnP (l.set i q) := opnP_mem.2 ⟨q, List.mem_set hi _, hj⟩

/-! What stays right. -/
structure Inv (S : Sym) : Prop where
  tro : Tro S.t (fun j => j ∈ opnS S)
  fil : ∀ j ∈ opnS S, (tget S.t j).kind = 1
  len : ∀ p ∈ S.p, p.f.length = 3
  off : ∀ p ∈ S.p, ∀ f ∈ p.f, 0 ≤ f.off ∧ f.off ≤ 48
  um : ∀ p ∈ S.p, 0 ≤ p.um ∧ p.um ≤ 511
  gs : ∀ p ∈ S.p, p.c.gs.length ≤ 1048576
theorem Inv.two {S : Sym} (h : Inv S) : ∀ j ∈ opnS S, (tget S.t j).kind ≠ 2 := fun j hj => by rw [h.fil j hj]; decide
theorem Inv.here {S : Sym} (h : Inv S) : ∀ j ∈ opnS S, tis S.t j = true := fun j hj => kind_is (h.fil j hj)
theorem inv_tab {S : Sym} (h : Inv S) {t : List Nd} (ht : Tro t (fun j => j ∈ opnS S)) (hk : ∀ j ∈ opnS S, (tget t j).kind = (tget S.t j).kind) : Inv ⟨t, S.p⟩ :=
  ⟨ht, fun j hj => (hk j hj).trans (h.fil j hj), h.len, h.off, h.um, h.gs⟩
theorem inv_proc {S : Sym} (h : Inv S) {t : List Nd} {i : Nat} {q : Prm} (ht : Tro t (fun j => j ∈ opnP (S.p.set i q))) (hk : ∀ j ∈ opnP (S.p.set i q), (tget t j).kind = 1) (hl : q.f.length = 3) (ho : ∀ f ∈ q.f, 0 ≤ f.off ∧ f.off ≤ 48) (hu : 0 ≤ q.um ∧ q.um ≤ 511) (hg : q.c.gs.length ≤ 1048576) : Inv ⟨t, S.p.set i q⟩ := by
  refine ⟨ht, hk, fun x hx => ?_, fun x hx => ?_, fun x hx => ?_, fun x hx => ?_⟩
  · rcases List.mem_or_eq_of_mem_set hx with z | z
    · exact h.len x z
    · rw [z]; exact hl
  · rcases List.mem_or_eq_of_mem_set hx with z | z
    · exact h.off x z
    · rw [z]; exact ho
  · rcases List.mem_or_eq_of_mem_set hx with z | z
    · exact h.um x z
    · rw [z]; exact hu
  · rcases List.mem_or_eq_of_mem_set hx with z | z
    · exact h.gs x z
    · rw [z]; exact hg
theorem setF_off {p : Prm} {i : Nat} {f : Fdm} (h : ∀ g ∈ p.f, 0 ≤ g.off ∧ g.off ≤ 48) (hf : 0 ≤ f.off ∧ f.off ≤ 48) : ∀ g ∈ (p.setF i f).f, 0 ≤ g.off ∧ g.off ≤ 48 := fun g hg => by
  rcases List.mem_or_eq_of_mem_set hg with z | z
  · exact h g z
  · rw [z]; exact hf
theorem setF_len (p : Prm) (i : Nat) (f : Fdm) : (p.setF i f).f.length = p.f.length := List.length_set ..
theorem fd_at {p : Prm} {a : Int} (h : (p.fd a).node ≠ 0) : 0 ≤ a ∧ ∃ hi : a.toNat < p.f.length, p.fd a = p.f[a.toNat] := by
  unfold Prm.fd at h ⊢
  by_cases q : 0 ≤ a
  · rw [if_pos q] at h
    rw [if_pos q]
    by_cases hi : a.toNat < p.f.length
    · refine ⟨q, hi, ?_⟩
      rw [List.getD_eq_getElem?_getD, List.getElem?_eq_getElem hi]
      rfl
    · rw [List.getD_eq_getElem?_getD, List.getElem?_eq_none (by omega)] at h
      exact absurd rfl h
  · rw [if_neg q] at h
    exact absurd rfl h
theorem fd_mem {p : Prm} {a : Int} (h : (p.fd a).node ≠ 0) : p.fd a ∈ p.f := by
  obtain ⟨-, hi, e⟩ := fd_at h
  rw [e]
  exact List.getElem_mem hi
theorem opn_same {S : Sym} {i : Nat} {p : Prm} (hp : S.p[i]? = some p) {a : Nat} (ha : a < p.f.length) {f : Fdm} (hf : f.node = p.f[a].node) {j : Int} : j ∈ opnP (S.p.set i (p.setF a f)) ↔ j ∈ opnS S := by
  constructor
  · intro h
    rcases opnP_set h with z | z
    · exact z
    · refine opnP_at hp ?_
      rcases opnF_set z with y | y
      · exact y
      · exact opnF_mem.2 ⟨p.f[a], List.getElem_mem ha, by rw [← hf]; exact y.1, by rw [← hf]; exact y.2⟩
  · intro h
    have hi : i < S.p.length := (List.getElem?_eq_some_iff.1 hp).1
    rcases opnP_back (q := p.setF a f) hp h with z | z
    · refine opnP_new hi ?_
      rcases opnF_back (f := f) ha z with y | y
      · obtain ⟨g, h1, h2, h3⟩ := opnF_mem.1 z
        refine opnF_mem.2 ⟨f, List.mem_set ha _, ?_, by rw [hf]; exact y.symm⟩
        rw [hf, ← y, ← h3]
        exact h2
      · exact y
    · exact z
theorem inv_shu {S : Sym} (h : Inv S) {i : Nat} {p : Prm} (hp : S.p[i]? = some p) {a : Nat} (ha : a < p.f.length) (hn : p.f[a].node ≠ 0) : Inv (shuS S i p a) := by
  have hi : i < S.p.length := (List.getElem?_eq_some_iff.1 hp).1
  have hm : p ∈ S.p := List.mem_of_getElem? hp
  have eg : p.f.getD a Fdm.zero = p.f[a] := by rw [List.getD_eq_getElem?_getD, List.getElem?_eq_getElem ha]; rfl
  unfold shuS
  rw [eg]
  have hsub : ∀ j, j ∈ opnP (S.p.set i (p.setF a Fdm.zero)) → j ∈ opnS S := fun j hj => by
    rcases opnP_set hj with z | z
    · exact z
    · rcases opnF_set z with y | y
      · exact opnP_at hp y
      · exact absurd rfl y.1
  have hon : p.f[a].node ∈ opnS S := opnP_at hp (opnF_mem.2 ⟨p.f[a], List.getElem_mem ha, hn, rfl⟩)
  have ht : Tro S.t (fun j => j ∈ opnP (S.p.set i (p.setF a Fdm.zero)) ∨ j = p.f[a].node) := h.tro.weak (fun j hj => by
    rcases opnP_back (q := p.setF a Fdm.zero) hp hj with z | z
    · rcases opnF_back (f := Fdm.zero) ha z with y | y
      · exact .inr y
      · exact .inl (opnP_new hi y)
    · exact .inl z)
  have hst : ∀ j, j ∈ opnP (S.p.set i (p.setF a Fdm.zero)) → tget (frT S.t p.f[a].node (opnP (S.p.set i (p.setF a Fdm.zero)))) j = tget S.t j := fun j hj => fr_stay _ _ hj (fun q => tis_in q)
  exact inv_proc h (tro_free ht (h.two _ hon)) (fun j hj => by rw [hst j hj]; exact h.fil j (hsub j hj)) (by rw [setF_len]; exact h.len p hm) (setF_off (h.off p hm) (by decide)) (h.um p hm) (h.gs p hm)
theorem inv_sh1 {S : Sym} (h : Inv S) (i a : Nat) : Inv (sh1 S i a) := by
  unfold sh1
  split
  · exact h
  · rename_i p hp
    split
    · exact h
    · rename_i hn
      have ha : a < p.f.length := Classical.byContradiction (fun q => hn (by rw [List.getD_eq_getElem?_getD, List.getElem?_eq_none (by omega)]; rfl))
      have eg : p.f.getD a Fdm.zero = p.f[a] := by rw [List.getD_eq_getElem?_getD, List.getElem?_eq_getElem ha]; rfl
      exact inv_shu h hp ha (by rw [← eg]; exact hn)
theorem inv_exi {S : Sym} (h : Inv S) (i : Nat) : Inv (exiS S i) := inv_sh1 (inv_sh1 (inv_sh1 h i 0) i 1) i 2
theorem pl_inv {S : Sym} (h : Inv S) {c : Wh} {p : Nm} {k m : Int} {tg : Nm} (hk4 : k ≠ 4) : Inv ⟨plT S.t c (resM S.t c p false) k m tg, S.p⟩ := by
  obtain ⟨g1, g2, -⟩ := pl_kpo h.tro c p false m tg hk4
  exact inv_tab h g1 (fun j hj => kind_noE (g2 j (h.here j hj)))
theorem kpo_inv {S : Sym} (h : Inv S) {t : List Nd} (k : Kpo S.t t (opnS S)) : Inv ⟨t, S.p⟩ := inv_tab h k.tro (fun j hj => kind_noE (k.head j hj))
theorem kpa_inv {S : Sym} (h : Inv S) {t : List Nd} (k : Kpa S.t t (fun j => j ∈ opnS S)) : Inv ⟨t, S.p⟩ := inv_tab h k.tro (fun j _ => k.kind j)
theorem fa_len (t : List Nd) (i off n : Int) : (tget t i).data.length ≤ 48 → 0 ≤ off → off ≤ 48 → off + (faB t i off n).length ≤ 48 := fun h h0 h1 => by
  unfold faB
  split
  · rw [List.length_take, List.length_drop]
    omega
  · simpa using h1
theorem inv_opn {S : Sym} (h : Inv S) {i : Nat} {p : Prm} (hp : S.p[i]? = some p) (c : Cal) : Inv (opnK S i p c).1 := by
  have hm : p ∈ S.p := List.mem_of_getElem? hp
  unfold opnK
  by_cases q1 : p.f.length ≤ frePl p
  · rw [if_pos q1]
    exact h
  rw [if_neg q1]
  by_cases q2 : foE S.t p.c p.um c.path c.a c.b ≠ 0
  · rw [if_pos q2]
    exact h
  rw [if_neg q2]
  have q3 : foE S.t p.c p.um c.path c.a c.b = 0 := Classical.byContradiction q2
  obtain ⟨g1, g2, -, g4⟩ := fo_kpo h.tro p.c p.um c.path c.a c.b
  have hl : frePl p < p.f.length := by omega
  have h0 : p.f[frePl p].node = 0 := by
    have := List.findIdx_getElem (w := hl)
    have h2 : p.f[List.findIdx (fun f => f.node == 0) p.f].node = 0 := by simpa using this
    exact h2
  have key : ∀ j, j ∈ opnP (S.p.set i (p.setF (frePl p) ⟨foI S.t p.c p.um c.path c.a c.b, 0, flB c.a 0, flB c.a 1⟩)) → j ∈ opnS S ∨ j = foI S.t p.c p.um c.path c.a c.b := fun j hj => by
    rcases opnP_set hj with z | z
    · exact .inl z
    · rcases opnF_set z with y | y
      · exact .inl (opnP_at hp y)
      · exact .inr y.2.symm
  have hi : i < S.p.length := (List.getElem?_eq_some_iff.1 hp).1
  refine inv_proc h (g1.weak (fun j hj => ?_)) (fun j hj => ?_) (by rw [setF_len]; exact h.len p hm) (setF_off (h.off p hm) ⟨Int.le_refl 0, (by decide : (0 : Int) ≤ 48)⟩) (h.um p hm) (h.gs p hm)
  · rcases opnP_back (q := p.setF (frePl p) ⟨foI S.t p.c p.um c.path c.a c.b, 0, flB c.a 0, flB c.a 1⟩) hp hj with z | z
    · rcases opnF_back (f := ⟨foI S.t p.c p.um c.path c.a c.b, 0, flB c.a 0, flB c.a 1⟩) hl z with y | y
      · obtain ⟨g, h1, h2, h3⟩ := opnF_mem.1 z
        exact absurd (h3.trans (y.trans h0)) h2
      · exact opnP_new hi y
    · exact z
  · rcases key j hj with z | z
    · rw [g2 j (h.here j z)]
      exact h.fil j z
    · rw [z]
      exact g4 q3
theorem inv_rea {S : Sym} (h : Inv S) {i : Nat} {p : Prm} (hp : S.p[i]? = some p) (c : Cal) : Inv (reaK S i p c).1 := by
  have hm : p ∈ S.p := List.mem_of_getElem? hp
  unfold reaK
  by_cases q1 : (p.fd c.a).node = 0 ∨ (p.fd c.a).rd = false
  · rw [if_pos q1]
    exact h
  rw [if_neg q1]
  by_cases q2 : faE S.t (p.fd c.a).node (p.fd c.a).off c.b ≠ 0
  · rw [if_pos q2]
    exact h
  rw [if_neg q2]
  have hn : (p.fd c.a).node ≠ 0 := fun q => q1 (.inl q)
  obtain ⟨ha, hl, e⟩ := fd_at hn
  have ho := h.off p hm _ (fd_mem hn)
  have hnode : (p.fd c.a).node ∈ opnS S := opnP_at hp (opnF_mem.2 ⟨_, fd_mem hn, hn, rfl⟩)
  have hd : (tget S.t (p.fd c.a).node).data.length ≤ 48 := (file_parts (tis_right h.tro.ok (h.here _ hnode)) (h.fil _ hnode)).2.2.2
  have hlen := fa_len S.t (p.fd c.a).node (p.fd c.a).off c.b hd ho.1 ho.2
  have hs := fun j => opn_same (j := j) hp hl (f := ⟨(p.fd c.a).node, (p.fd c.a).off + (faB S.t (p.fd c.a).node (p.fd c.a).off c.b).length, (p.fd c.a).rd, (p.fd c.a).wr⟩) (by rw [← e])
  exact inv_proc h (h.tro.weak (fun j hj => (hs j).2 hj)) (fun j hj => h.fil j ((hs j).1 hj)) (by rw [setF_len]; exact h.len p hm) (setF_off (h.off p hm) ⟨by show 0 ≤ (p.fd c.a).off + _; omega, hlen⟩) (h.um p hm) (h.gs p hm)
theorem inv_wri {S : Sym} (h : Inv S) {i : Nat} {p : Prm} (hp : S.p[i]? = some p) (c : Cal) : Inv (wriK S i p c).1 := by
  have hm : p ∈ S.p := List.mem_of_getElem? hp
  unfold wriK
  by_cases q1 : (p.fd c.a).node = 0 ∨ (p.fd c.a).wr = false
  · rw [if_pos q1]
    exact h
  rw [if_neg q1]
  by_cases q2 : fwE S.t (p.fd c.a).node (p.fd c.a).off c.data ≠ 0
  · rw [if_pos q2]
    exact h
  rw [if_neg q2]
  have q3 : fwE S.t (p.fd c.a).node (p.fd c.a).off c.data = 0 := Classical.byContradiction q2
  have hn : (p.fd c.a).node ≠ 0 := fun q => q1 (.inl q)
  obtain ⟨ha, hl, e⟩ := fd_at hn
  have ho := h.off p hm _ (fd_mem hn)
  have hb : 0 ≤ (p.fd c.a).off + c.data.length ∧ (p.fd c.a).off + c.data.length ≤ 48 := by
    refine ⟨by omega, ?_⟩
    by_cases z : c.data = []
    · rw [z]
      simpa using ho.2
    · exact (fw_zero q3).2.2 z
  have ka := fw_kpa h.tro p.c (p.fd c.a).node (p.fd c.a).off c.data
  have hs := fun j => opn_same (j := j) hp hl (f := ⟨(p.fd c.a).node, (p.fd c.a).off + c.data.length, (p.fd c.a).rd, (p.fd c.a).wr⟩) (by rw [← e])
  exact inv_proc h (ka.tro.weak (fun j hj => (hs j).2 hj)) (fun j hj => by rw [ka.kind]; exact h.fil j ((hs j).1 hj)) (by rw [setF_len]; exact h.len p hm) (setF_off (h.off p hm) hb) (h.um p hm) (h.gs p hm)
theorem inv_clo {S : Sym} (h : Inv S) {i : Nat} {p : Prm} (hp : S.p[i]? = some p) (c : Cal) : Inv (cloK S i p c).1 := by
  unfold cloK
  by_cases q1 : (p.fd c.a).node = 0
  · rw [if_pos q1]
    exact h
  · rw [if_neg q1]
    obtain ⟨-, hl, e⟩ := fd_at q1
    exact inv_shu h hp hl (by rw [← e]; exact q1)
theorem inv_doK {S : Sym} (h : Inv S) {i : Nat} {p : Prm} (hp : S.p[i]? = some p) (c : Cal) : ∀ k, Inv (doK k S i p c).1 := by
  have hm : p ∈ S.p := List.mem_of_getElem? hp
  intro k
  unfold doK
  split
  · exact h
  · exact h
  · exact h
  · exact h
  · exact kpa_inv h (chm_kpa h.tro ..)
  · exact kpa_inv h (chw_kpa h.tro ..)
  · exact kpa_inv h (chw_kpa h.tro ..)
  · exact pl_inv h (by decide)
  · show Inv ⟨syT S.t p.c c.other c.path, S.p⟩
    unfold syT
    split
    · exact pl_inv h (by decide)
    · exact h
  · exact kpo_inv h (ul_kpo h.tro)
  · exact kpo_inv h (rd_kpo h.tro h.two)
  · exact kpo_inv h (mv_kpo h.tro h.two)
  · exact inv_opn h hp c
  · exact inv_rea h hp c
  · exact inv_wri h hp c
  · exact inv_clo h hp c
  · have hs : ∀ j, j ∈ opnP (S.p.set i ⟨p.c, c.a % 512, p.f⟩) ↔ j ∈ opnS S := fun j => by
      constructor
      · intro z
        rcases opnP_set z with y | y
        · exact y
        · exact opnP_at hp y
      · intro z
        rcases opnP_back (q := ⟨p.c, c.a % 512, p.f⟩) hp z with y | y
        · exact opnP_new (List.getElem?_eq_some_iff.1 hp).1 y
        · exact y
    exact inv_proc h (h.tro.weak (fun j hj => (hs j).2 hj)) (fun j hj => h.fil j ((hs j).1 hj)) (h.len p hm) (h.off p hm) ⟨by show 0 ≤ c.a % 512; omega, by show c.a % 512 ≤ 511; omega⟩ (h.gs p hm)
  · exact inv_exi h i
  · exact h
theorem prI_at {S : Sym} {pid : Int} {p : Prm} (h : prI S pid = some p) : S.p[pid.toNat]? = some p ∧ 0 ≤ pid := by
  unfold prI at h
  split at h
  · rename_i q
    exact ⟨h, q⟩
  · cases h
theorem inv_do {S : Sym} (h : Inv S) (pid : Int) (c : Cal) : Inv (doS S pid c).1 := by
  unfold doS
  split
  · exact h
  · rename_i p hp
    split
    · exact inv_doK h (prI_at hp).1 c _
    · exact h
end Go.Proofs.YtnkjaocmfhjnoaaGreat
namespace Go.Proofs.YtnkjaocmfhjnoaaGreat
open Go Go.RowKit
set_option maxRecDepth 100000

structure Fix (l : List Nat) (w w' : World) : Prop where
  os : w'.os = w.os
  tape : w'.tape = w.tape
  output : w'.output = w.output
  size : w.heap.size ≤ w'.heap.size
  block : ∀ k, k < w.heap.size → ¬ k ∈ l → w'.heap[k]? = w.heap[k]?
theorem Fix.trans {l : List Nat} {a b c : World} (h : Fix l a b) (k : Fix l b c) : Fix l a c :=
  ⟨k.os.trans h.os, k.tape.trans h.tape, k.output.trans h.output, Nat.le_trans h.size k.size, fun i hi hn => (k.block i (Nat.lt_of_lt_of_le hi h.size) hn).trans (h.block i hi hn)⟩
theorem Fix.of_grown {l : List Nat} {w w' : World} {g : Nat} (h : w.grownBy w' (some g)) (hg : g ∈ l) : Fix l w w' :=
  ⟨h.os, h.tape, h.output, h.size, fun k hk hn => h.block k hk (fun q => hn (by injection q with q; rw [q]; exact hg))⟩
theorem Fix.of_below {l : List Nat} {w w' : World} (h : Below w.heap.size w w') : Fix l w w' := ⟨h.os, h.tape, h.output, h.size, fun k hk _ => h.block k hk⟩
theorem Fix.below {l : List Nat} {w0 w w' : World} (h : Fix l w w') (hb : Below w0.heap.size w0 w) (hl : ∀ b ∈ l, w0.heap.size ≤ b) : Below w0.heap.size w0 w' :=
  ⟨h.os.trans hb.os, h.tape.trans hb.tape, h.output.trans hb.output, Nat.le_trans hb.size h.size, fun k hk => (h.block k (Nat.lt_of_lt_of_le hk hb.size) (fun q => by have := hl k q; omega)).trans (hb.block k hk)⟩
theorem Fix.split {g : Nat} {l : List Nat} {w w' : World} (h : Fix (g :: l) w w') : ∃ w1, Fix l w w1 ∧ w1.grownBy w' (some g) := by
  by_cases hg : g < w.heap.size
  · have hg' : g < w'.heap.size := Nat.lt_of_lt_of_le hg h.size
    refine ⟨{ w' with heap := w'.heap.setIfInBounds g w.heap[g] }, ⟨h.os, h.tape, h.output, by simpa using h.size, fun k hk hn => ?_⟩, ⟨rfl, rfl, rfl, by simp, fun k hk hn => ?_⟩⟩
    · show (w'.heap.setIfInBounds g w.heap[g])[k]? = _
      by_cases q : g = k
      · subst q
        rw [Array.getElem?_setIfInBounds_self_of_lt hg', Array.getElem?_eq_getElem hg]
      · rw [Array.getElem?_setIfInBounds_ne q]
        exact h.block k hk (fun z => (List.mem_cons.1 z).elim (fun y => q y.symm) hn)
    · show w'.heap[k]? = (w'.heap.setIfInBounds g w.heap[g])[k]?
      rw [Array.getElem?_setIfInBounds_ne (fun q => hn (by rw [q]))]
  · refine ⟨w', ⟨h.os, h.tape, h.output, h.size, fun k hk hn => h.block k hk (fun z => (List.mem_cons.1 z).elim (fun y => by omega) hn)⟩, ⟨rfl, rfl, rfl, Nat.le_refl _, fun _ _ _ => rfl⟩⟩
theorem Fix.carry {X : World → Prop} (h0 : ∀ a b, X a → Below a.heap.size a b → X b) : ∀ {l : List Nat} {w w' : World}, Fix l w w' → (∀ g ∈ l, ∀ a b, X a → a.grownBy b (some g) → X b) → X w → X w'
  | [], w, w', h, _, hx => h0 w w' hx ⟨h.os, h.tape, h.output, h.size, fun k hk => h.block k hk (by simp)⟩
  | g :: l, w, w', h, hl, hx => by
    obtain ⟨w1, h1, h2⟩ := h.split
    exact hl g (List.mem_cons_self ..) w1 w' (Fix.carry h0 h1 (fun x hm => hl x (List.mem_cons_of_mem _ hm)) hx) h2
theorem Fix.tab {l : List Nat} {w w' : World} (h : Fix l w w') {g : Nat} {t : List Nd} {P : Nat → Prop} (ht : TabR w g t P) (hg : ¬ g ∈ l) (hP : ∀ b, P b → ¬ b ∈ l) : TabR w' g t P :=
  Fix.carry (X := fun w => TabR w g t P) (fun _ _ hx hb => hx.below hb) h (fun m hm _ _ hx hgr => hx.other hgr (fun q => hg (by rw [q]; exact hm)) (fun b hb _ _ q => hP b hb (by rw [q]; exact hm))) ht

/-! Calls, and who ask, in memory. -/
def CdsR (w : World) (v : Value) (l : List Wh) : Prop := ∃ A c, v = .slice A l.length c ∧ ∀ (k : Nat) (r : Wh), l[k]? = some r → ∃ (ad : Addr) (B : Option Addr) (n m : Nat), A = some ad ∧
  w.cell? (ad.add (k * 3)) = some (.int .i64 r.u) ∧ w.cell? ⟨(ad.add (k * 3)).block, (ad.add (k * 3)).off + 1, none⟩ = some (.int .i64 r.g) ∧ w.cell? ⟨(ad.add (k * 3)).block, (ad.add (k * 3)).off + 2, none⟩ = some (.slice B n m) ∧ IntsR w (.slice B n m) r.gs
theorem CdsR.below {w w' : World} {v : Value} {l : List Wh} (h : CdsR w v l) (hb : Below w.heap.size w w') : CdsR w' v l := by
  obtain ⟨A, c, hv, hc⟩ := h
  refine ⟨A, c, hv, fun k r hk => ?_⟩
  obtain ⟨ad, B, n, m, hA, h0, h1, h2, h3⟩ := hc k r hk
  exact ⟨ad, B, n, m, hA, bc hb h0, bc hb h1, bc hb h2, h3.below hb⟩
theorem cds_form {w : World} {v : Value} {l : List Wh} (h : CdsR w v l) : ∃ A c, v = .slice A l.length c := by
  obtain ⟨A, c, rfl, -⟩ := h
  exact ⟨A, c, rfl⟩
theorem cds_get {w : World} {A : Option Addr} {n c : Nat} {l : List Wh} (h : CdsR w (.slice A n c) l) {k : Nat} {r : Wh} (hk : l[k]? = some r) : ∃ (ad : Addr) (B : Option Addr) (n m : Nat), A = some ad ∧
    w.cell? (ad.add (k * 3)) = some (.int .i64 r.u) ∧ w.cell? ⟨(ad.add (k * 3)).block, (ad.add (k * 3)).off + 1, none⟩ = some (.int .i64 r.g) ∧ w.cell? ⟨(ad.add (k * 3)).block, (ad.add (k * 3)).off + 2, none⟩ = some (.slice B n m) ∧ IntsR w (.slice B n m) r.gs := by
  obtain ⟨A', c', hv, hc⟩ := h
  injection hv with hA
  subst hA
  exact hc k r hk
def shortC (c : Cal) : Prop := c.path.length ≤ 100 ∧ c.other.length ≤ 100 ∧ c.data.length ≤ 100
def whoS (um : Int) (c : Wh) : Prm := ⟨c, um % 512, [Fdm.zero, Fdm.zero, Fdm.zero]⟩
def newS (t : List Nd) (um : Int) (cs : List Wh) : Sym := ⟨t, cs.map (whoS um)⟩
abbrev calC (c : Cal) (vd : Value) : Array Value := #[.int .i64 c.kind, .string (bA c.path), .string (bA c.other), .int .i64 c.a, .int .i64 c.b, vd]
abbrev resC (r : Rsm) (vn vd : Value) : Array Value := #[.int .i64 r.err, .int .i64 r.n, .int .i64 r.stat.node, .int .i64 r.stat.kind, .int .i64 r.stat.mode, .int .i64 r.stat.uid, .int .i64 r.stat.gid, .int .i64 r.stat.links, .int .i64 r.stat.size, .string (bA r.text), vn, vd]
def DoA (R : World → Value → Sym → List Nat → Prop) (w : World) (v : Value) (S : Sym) (r : Rsm) (l : List Nat) (e : Ending) (w' : World) : Prop :=
  ∃ A1 n1 c1 A2 n2 c2, e = .returned (.agg (resC r (.slice A1 n1 c1) (.slice A2 n2 c2))) ∧ (StrsR w' (.slice A1 n1 c1) (nmA r.names) ∧ BytesT w' (.slice A2 n2 c2) r.data ∧ (∀ ad, A1 = some ad → ∃ cs, Blk w' ad.block 9 cs)) ∧ R w' v S l ∧ Fix l w w'
theorem new_opn (t : List Nd) (um : Int) (cs : List Wh) : opnS (newS t um cs) = [] := by
  refine List.eq_nil_iff_forall_not_mem.2 (fun j hj => ?_)
  obtain ⟨p, h1, h2⟩ := opnP_mem.1 hj
  obtain ⟨c, -, rfl⟩ := List.mem_map.1 h1
  obtain ⟨f, h3, h4, -⟩ := opnF_mem.1 h2
  have : f = Fdm.zero := by simpa [whoS] using h3
  rw [this] at h4
  exact h4 rfl
theorem inv_new {t : List Nd} (h : Trx t) (um : Int) {cs : List Wh} (hg : ∀ c ∈ cs, c.gs.length ≤ 1048576) : Inv (newS t um cs) := by
  have ho := new_opn t um cs
  refine ⟨tro_tre (tre_trx h) _, fun j hj => ?_, fun p hp => ?_, fun p hp f hf => ?_, fun p hp => ?_, fun p hp => ?_⟩
  · rw [ho] at hj
    cases hj
  · obtain ⟨c, -, rfl⟩ := List.mem_map.1 hp
    rfl
  · obtain ⟨c, -, rfl⟩ := List.mem_map.1 hp
    have : f = Fdm.zero := by simpa [whoS] using hf
    rw [this]
    exact ⟨Int.le_refl 0, (by decide : (0 : Int) ≤ 48)⟩
  · obtain ⟨c, -, rfl⟩ := List.mem_map.1 hp
    show 0 ≤ um % 512 ∧ um % 512 ≤ 511
    omega
  · obtain ⟨c, hc, rfl⟩ := List.mem_map.1 hp
    exact hg c hc
theorem newS_len (t : List Nd) (um : Int) (cs : List Wh) : (newS t um cs).p.length = cs.length := List.length_map ..
end Go.Proofs.YtnkjaocmfhjnoaaGreat
namespace Go.Proofs.YtnkjaocmfhjnoaaGreat
open Go Go.RowKit
set_option maxRecDepth 100000

theorem cut_fnd {t t1 : List Nd} (ho : okT t) {d : Int} {n : Nm} {i : Int} (h : Cut t t1 d n i) (j : Int) (x : Nm) : fnd (tget t1 j).ents x = if j = d ∧ x = n then 0 else fnd (tget t j).ents x := by
  rw [h.get j]
  by_cases q : j = d
  · rw [if_pos q]
    by_cases q2 : x = n
    · rw [if_pos ⟨q, q2⟩, q2]
      exact fnd_del (ok_ris ho d)
    · rw [if_neg (fun z => q2 z.2), q]
      exact fnd_del_ne q2 _
  · rw [if_neg q, if_neg (fun z => q z.1)]
end Go.Proofs.YtnkjaocmfhjnoaaGreat
namespace Go.Proofs.YtnkjaocmfhjnoaaGreat
open Go Go.RowKit
set_option maxRecDepth 100000

attribute [local go_sem] cell_off4 cell_blk4
def Off (A : Option Addr) (l : List Int) (g : Nat) : Prop := l ≠ [] → ∀ ad : Addr, A = some ad → ad.block ≠ g
theorem ints_past {W W' : World} {A : Option Addr} {n k g : Nat} {l : List Int} (h : IntsR W (.slice A n k) l) (hg : W.grownBy W' (some g)) (ho : Off A l g) : IntsR W' (.slice A n k) l := by
  cases l with
  | nil =>
    obtain ⟨A', c', hv, -⟩ := h
    exact ⟨A', c', hv, fun k n hk => by simp at hk⟩
  | cons x xs => exact h.other hg (fun ad a b hv => by injection hv with hv; exact ho (by simp) ad hv)
def UnlinkC : Prop := ∀ (g : Nat) (t : List Nd) (P : Nat → Prop) (c : Wh) (A0 : Option Addr) (m k : Nat) (p : Nm) (op : List Int) (A1 : Option Addr) (n1 k1 : Nat) (w : World), TabR w g t P → okT t → CrR w c A0 m k → IntsR w (.slice A1 n1 k1) op → op.length ≤ 1000 → Off A0 c.gs g → Off A1 op g → (∀ b, w.heap.size ≤ b → P b) →
    Calls Tryz.prog 105 #[.pointer (some ⟨g, 0, none⟩), .agg #[.int .i64 c.u, .int .i64 c.g, .slice A0 m k], .string (bA p), .slice A1 n1 k1] w fun e w' => e = .returned (.int .i64 (ulE t c (resM t c p false))) ∧ TabR w' g (ulT t c (resM t c p false) op) P ∧ w.grownBy w' (some g)
def RmdirC : Prop := ∀ (g : Nat) (t : List Nd) (P : Nat → Prop) (c : Wh) (A0 : Option Addr) (m k : Nat) (p : Nm) (w : World), TabR w g t P → okT t → CrR w c A0 m k → Off A0 c.gs g → (∀ b, w.heap.size ≤ b → P b) →
    Calls Tryz.prog 107 #[.pointer (some ⟨g, 0, none⟩), .agg #[.int .i64 c.u, .int .i64 c.g, .slice A0 m k], .string (bA p)] w fun e w' => e = .returned (.int .i64 (rdE t c (resM t c p false))) ∧ TabR w' g (rdT t c (resM t c p false)) P ∧ w.grownBy w' (some g)
def RenameC : Prop := ∀ (g : Nat) (t : List Nd) (P : Nat → Prop) (c : Wh) (A0 : Option Addr) (m k : Nat) (p q : Nm) (op : List Int) (A1 : Option Addr) (n1 k1 : Nat) (w : World), TabR w g t P → okT t → CrR w c A0 m k → IntsR w (.slice A1 n1 k1) op → op.length ≤ 1000 → Off A0 c.gs g → Off A1 op g → (∀ b, w.heap.size ≤ b → P b) →
    Calls Tryz.prog 108 #[.pointer (some ⟨g, 0, none⟩), .agg #[.int .i64 c.u, .int .i64 c.g, .slice A0 m k], .string (bA p), .string (bA q), .slice A1 n1 k1] w fun e w' => e = .returned (.int .i64 (mvE t c (resM t c p false) (resM t c q false))) ∧ TabR w' g (mvT t c (resM t c p false) (resM t c q false) op) P ∧ w.grownBy w' (some g)
def FreeC : Prop := ∀ (g : Nat) (t : List Nd) (P : Nat → Prop) (i : Int) (op : List Int) (A1 : Option Addr) (n1 k1 : Nat) (w : World), TabR w g t P → okT t → IntsR w (.slice A1 n1 k1) op → op.length ≤ 1000 → Off A1 op g → (∀ b, w.heap.size ≤ b → P b) →
    Calls Tryz.prog 114 #[.pointer (some ⟨g, 0, none⟩), .int .i64 i, .slice A1 n1 k1] w fun e w' => e = .returned (.bool (frB t i op)) ∧ TabR w' g (frT t i op) P ∧ w.grownBy w' (some g)
def BelowC : Prop := ∀ (g : Nat) (t : List Nd) (P : Nat → Prop) (i d : Int) (w : World), TabR w g t P → okT t →
    Calls Tryz.prog 178 #[.pointer (some ⟨g, 0, none⟩), .int .i64 i, .int .i64 d] w fun e w' => e = .returned (.bool (blwB t i d)) ∧ Below w.heap.size w w'
def UnlinkN : Prop := ∀ (c : Wh) (A0 : Option Addr) (m k : Nat) (p : Nm) (w : World), CrR w c A0 m k →
    Calls Tryz.prog 105 #[.pointer none, .agg #[.int .i64 c.u, .int .i64 c.g, .slice A0 m k], .string (bA p), .slice none 0 0] w fun e w' => ∃ x, e = .returned (.int .i64 x) ∧ x ≠ 0 ∧ Below w.heap.size w w'
def RmdirN : Prop := ∀ (c : Wh) (A0 : Option Addr) (m k : Nat) (p : Nm) (w : World), CrR w c A0 m k →
    Calls Tryz.prog 107 #[.pointer none, .agg #[.int .i64 c.u, .int .i64 c.g, .slice A0 m k], .string (bA p)] w fun e w' => ∃ x, e = .returned (.int .i64 x) ∧ x ≠ 0 ∧ Below w.heap.size w w'
def RenameN : Prop := ∀ (c : Wh) (A0 : Option Addr) (m k : Nat) (p q : Nm) (w : World), CrR w c A0 m k →
    Calls Tryz.prog 108 #[.pointer none, .agg #[.int .i64 c.u, .int .i64 c.g, .slice A0 m k], .string (bA p), .string (bA q), .slice none 0 0] w fun e w' => ∃ x, e = .returned (.int .i64 x) ∧ x ≠ 0 ∧ Below w.heap.size w w'
def FreeN : Prop := ∀ (i : Int) (w : World), Calls Tryz.prog 114 #[.pointer none, .int .i64 i, .slice none 0 0] w fun e w' => e = .returned (.bool false) ∧ Below w.heap.size w w'
structure PruneC : Prop where
  ul : UnlinkC
  rd : RmdirC
  rn : RenameC
  fr : FreeC
  bl : BelowC
  uln : UnlinkN
  rdn : RmdirN
  rnn : RenameN
  frn : FreeN
end Go.Proofs.YtnkjaocmfhjnoaaGreat
namespace Go.Proofs.YtnkjaocmfhjnoaaGreat
open Go Go.RowKit
set_option maxRecDepth 100000

structure At4 (w : World) (b o : Nat) (f : Fdm) : Prop where
  c0 : w.cell? ⟨b, o, none⟩ = some (.int .i64 f.node)
  c1 : w.cell? ⟨b, o + 1, none⟩ = some (.int .i64 f.off)
  c2 : w.cell? ⟨b, o + 2, none⟩ = some (.bool f.rd)
  c3 : w.cell? ⟨b, o + 3, none⟩ = some (.bool f.wr)
theorem At4.same {w w' : World} {b o : Nat} {f : Fdm} (h : At4 w b o f) (hc : ∀ j u, j < 4 → w.cell? ⟨b, o + j, none⟩ = some u → w'.cell? ⟨b, o + j, none⟩ = some u) : At4 w' b o f :=
  ⟨hc 0 _ (by decide) h.c0, hc 1 _ (by decide) h.c1, hc 2 _ (by decide) h.c2, hc 3 _ (by decide) h.c3⟩
def GrR (w : World) (A : Option Addr) (n c : Nat) (l : List Int) : Prop := IntsR w (.slice A n c) l ∧ (l ≠ [] → ∀ ad : Addr, A = some ad → ∃ cs, Blk w ad.block 3 cs)
theorem GrR.below {w w' : World} {A : Option Addr} {n c : Nat} {l : List Int} (h : GrR w A n c l) (hb : Below w.heap.size w w') : GrR w' A n c l :=
  ⟨h.1.below hb, fun q ad hA => by obtain ⟨cs, hc⟩ := h.2 q ad hA; exact ⟨cs, hc.below hb⟩⟩
theorem GrR.off {w : World} {A : Option Addr} {n c z : Nat} {l : List Int} {t : TypeId} {cs : Array Value} (h : GrR w A n c l) (hz : Blk w z t cs) (ht : 3 ≠ t) : Off A l z := fun q ad hA => by
  obtain ⟨ds, hd⟩ := h.2 q ad hA
  exact blk_ne hd hz ht
theorem GrR.kind {w w' : World} {A : Option Addr} {n c z : Nat} {l : List Int} {t : TypeId} {cs : Array Value} (h : GrR w A n c l) (hz : Blk w z t cs) (ht : 3 ≠ t) (hg : w.grownBy w' (some z)) : GrR w' A n c l :=
  ⟨ints_past h.1 hg (h.off hz ht), fun q ad hA => by
    obtain ⟨ds, hd⟩ := h.2 q ad hA
    exact ⟨ds, hd.kept hg (some_ne (blk_ne hd hz ht))⟩⟩
structure PrC (w : World) (b o : Nat) (p : Prm) (G : Option Addr) (m : Nat) : Prop where
  c0 : w.cell? ⟨b, o, none⟩ = some (.int .i64 p.c.u)
  c1 : w.cell? ⟨b, o + 1, none⟩ = some (.int .i64 p.c.g)
  c2 : w.cell? ⟨b, o + 2, none⟩ = some (.slice G p.c.gs.length m)
  c3 : w.cell? ⟨b, o + 3, none⟩ = some (.int .i64 p.um)
  len : p.f.length = 3
  fd : ∀ (i : Nat) (f : Fdm), p.f[i]? = some f → At4 w b (o + 4 + i * 4) f ∧ (f.node = 0 → f = Fdm.zero)
  gs : GrR w G p.c.gs.length m p.c.gs
theorem PrC.same {w w' : World} {b o : Nat} {p : Prm} {G : Option Addr} {m : Nat} (h : PrC w b o p G m) (hc : ∀ j u, j < 16 → w.cell? ⟨b, o + j, none⟩ = some u → w'.cell? ⟨b, o + j, none⟩ = some u) (hg : GrR w' G p.c.gs.length m p.c.gs) : PrC w' b o p G m :=
  ⟨hc 0 _ (by decide) h.c0, hc 1 _ (by decide) h.c1, hc 2 _ (by decide) h.c2, hc 3 _ (by decide) h.c3, h.len, fun i f hf => by
    obtain ⟨h1, h2⟩ := h.fd i f hf
    have hi : i < 3 := by have := (List.getElem?_eq_some_iff.1 hf).1; rw [h.len] at this; exact this
    refine ⟨h1.same (fun j u hj hu => ?_), h2⟩
    have e : o + 4 + i * 4 + j = o + (4 + i * 4 + j) := by omega
    rw [e] at hu ⊢
    exact hc _ _ (by omega) hu, hg⟩
theorem PrC.below {w w' : World} {b o : Nat} {p : Prm} {G : Option Addr} {m : Nat} (h : PrC w b o p G m) (hb : Below w.heap.size w w') : PrC w' b o p G m :=
  h.same (fun _ _ _ hu => bc hb hu) (h.gs.below hb)
theorem PrC.fds {w : World} {b o : Nat} {p : Prm} {G : Option Addr} {m : Nat} (h : PrC w b o p G m) : ∃ f0 f1 f2, p.f = [f0, f1, f2] ∧ At4 w b (o + 4) f0 ∧ At4 w b (o + 8) f1 ∧ At4 w b (o + 12) f2 ∧ (f0.node = 0 → f0 = Fdm.zero) ∧ (f1.node = 0 → f1 = Fdm.zero) ∧ (f2.node = 0 → f2 = Fdm.zero) := by
  obtain ⟨f0, f1, f2, e⟩ : ∃ f0 f1 f2, p.f = [f0, f1, f2] := by
    have := h.len
    match hp : p.f, this with
    | [f0, f1, f2], _ => exact ⟨f0, f1, f2, rfl⟩
  have h0 := h.fd 0 f0 (by rw [e]; rfl)
  have h1 := h.fd 1 f1 (by rw [e]; rfl)
  have h2 := h.fd 2 f2 (by rw [e]; rfl)
  exact ⟨f0, f1, f2, e, h0.1, h1.1, h2.1, h0.2, h1.2, h2.2⟩
theorem PrC.crr {w : World} {b o : Nat} {p : Prm} {G : Option Addr} {m : Nat} (h : PrC w b o p G m) (hg : p.c.gs.length ≤ 1048576) : CrR w p.c G p.c.gs.length m := ⟨h.gs.1, by omega⟩

structure Sq (w : World) (s g b c : Nat) (S : Sym) : Prop where
  blk : Blk w s 109 #[.pointer (some ⟨g, 0, none⟩), .slice (some ⟨b, 0, none⟩) S.p.length c]
  tab : TabR w g S.t (fun _ => True)
  row : ∃ cs, Blk w b 115 cs ∧ S.p.length * 16 ≤ cs.size
  prs : ∀ (k : Nat) (p : Prm), S.p[k]? = some p → ∃ G m, PrC w b (k * 16) p G m
  few : S.p.length ≤ 1048576
theorem Sq.below {w w' : World} {s g b c : Nat} {S : Sym} (h : Sq w s g b c S) (hb : Below w.heap.size w w') : Sq w' s g b c S :=
  ⟨h.blk.below hb, h.tab.below hb, by obtain ⟨cs, h1, h2⟩ := h.row; exact ⟨cs, h1.below hb, h2⟩, fun k p hk => by obtain ⟨G, m, h1⟩ := h.prs k p hk; exact ⟨G, m, h1.below hb⟩, h.few⟩
theorem Sq.tabbed {w w' : World} {s g b c : Nat} {S : Sym} (h : Sq w s g b c S) {t : List Nd} (ht : TabR w' g t (fun _ => True)) (hg : w.grownBy w' (some g)) : Sq w' s g b c ⟨t, S.p⟩ := by
  obtain ⟨ct, hct, -⟩ := h.tab.blk
  obtain ⟨cs, h1, h2⟩ := h.row
  have hbg : b ≠ g := blk_ne h1 hct (by decide)
  refine ⟨h.blk.kept hg (some_ne (blk_ne h.blk hct (by decide))), ht, ⟨cs, h1.kept hg (some_ne hbg), h2⟩, fun k p hk => ?_, h.few⟩
  obtain ⟨G, m, h3⟩ := h.prs k p hk
  refine ⟨G, m, h3.same (fun j u _ hu => ?_) (h3.gs.kind hct (by decide) hg)⟩
  rw [← hu]
  exact World.cell?_of_block (hg.block b h1.lt (some_ne hbg))
theorem Sq.kind {w w' : World} {s g b c z : Nat} {S : Sym} {t : TypeId} {cz : Array Value} (h : Sq w s g b c S) (hz : Blk w z t cz) (hg : w.grownBy w' (some z)) (h1 : t ≠ 109) (h2 : t ≠ 81) (h3 : t ≠ 115) (h4 : t ≠ 3) (h5 : t ≠ 5) (h6 : t ≠ 126) : Sq w' s g b c S := by
  obtain ⟨cs, hk, hl⟩ := h.row
  obtain ⟨ct, hct, -⟩ := h.tab.blk
  have hbz : b ≠ z := blk_ne hk hz (fun e => h3 e.symm)
  refine ⟨h.blk.kept hg (some_ne (blk_ne h.blk hz (fun e => h1 e.symm))), h.tab.kind hg (blk_ne hct hz (fun e => h2 e.symm)) hz h5 h6, ⟨cs, hk.kept hg (some_ne hbz), hl⟩, fun k p hp => ?_, h.few⟩
  obtain ⟨G, m, hc⟩ := h.prs k p hp
  refine ⟨G, m, hc.same (fun j u _ hu => ?_) (hc.gs.kind hz (fun e => h4 e.symm) hg)⟩
  rw [← hu]
  exact World.cell?_of_block (hg.block b hk.lt (some_ne hbz))
def SysR (w : World) (v : Value) (S : Sym) (l : List Nat) : Prop := ∃ s g, v = .pointer (some ⟨s, 0, none⟩) ∧
  ((S.p = [] ∧ l = [g] ∧ TabR w g S.t (fun _ => True) ∧ ∃ A c, Blk w s 109 #[.pointer (some ⟨g, 0, none⟩), .slice A 0 c]) ∨ ∃ b c, Sq w s g b c S ∧ l = [g, b])
theorem sysr_lt (w : World) (v : Value) (S : Sym) (l : List Nat) (h : SysR w v S l) : ∀ b ∈ l, b < w.heap.size := by
  obtain ⟨s, g, -, ⟨-, rfl, ht, -⟩ | ⟨b, c, h, rfl⟩⟩ := h
  · intro x hx
    rw [List.mem_singleton.1 hx]
    exact ht.lt
  · obtain ⟨cs, h1, -⟩ := h.row
    intro x hx
    rcases List.mem_cons.1 hx with rfl | hx
    · exact h.tab.lt
    · rw [List.mem_singleton.1 hx]
      exact h1.lt
theorem sysr_below (w w' : World) (v : Value) (S : Sym) (l : List Nat) (h : SysR w v S l) (hb : Below w.heap.size w w') : SysR w' v S l := by
  obtain ⟨s, g, rfl, ⟨h1, rfl, ht, A, c, hk⟩ | ⟨b, c, h, rfl⟩⟩ := h
  · exact ⟨s, g, rfl, .inl ⟨h1, rfl, ht.below hb, A, c, hk.below hb⟩⟩
  · exact ⟨s, g, rfl, .inr ⟨b, c, h.below hb, rfl⟩⟩
end Go.Proofs.YtnkjaocmfhjnoaaGreat
namespace Go.Proofs.YtnkjaocmfhjnoaaGreat
open Go Go.RowKit
set_option maxRecDepth 100000

attribute [local go_sem] cell_off4 cell_blk4
theorem add_at (b o k : Nat) : (⟨b, o, none⟩ : Addr).add k = ⟨b, o + k, none⟩ := by unfold Addr.add; split <;> simp_all
theorem proc_none (s n c : Nat) (vg : Value) (A : Option Addr) (pid : Int) (w : World) (h : Blk w s 109 #[vg, .slice A n c]) (hp : pid < 0 ∨ (n : Int) ≤ pid) :
    Calls Tryz.prog 46 #[.pointer (some ⟨s, 0, none⟩), .int .i64 pid] w fun e w' => e = .returned (.pointer none) ∧ w = w' := by
  have p1 := h.cell 1
  simp at p1
  by_cases q : pid < 0
  · go_enter Tryz.func46, Tryz.ntmps46
    go_wp2
    go_ret
    exact ⟨rfl, rfl⟩
  · have q2 : pid ≥ (n : Int) := by omega
    go_enter Tryz.func46, Tryz.ntmps46
    go_wp2
    go_ret
    exact ⟨rfl, rfl⟩
theorem proc_some (s n c b k : Nat) (vg : Value) (w : World) (h : Blk w s 109 #[vg, .slice (some ⟨b, 0, none⟩) n c]) (hk : k < n) :
    Calls Tryz.prog 46 #[.pointer (some ⟨s, 0, none⟩), .int .i64 k] w fun e w' => e = .returned (.pointer (some ⟨b, k * 16, none⟩)) ∧ w = w' := by
  have p1 := h.cell 1
  simp at p1
  have q : ¬ (k : Int) < 0 := by omega
  have q2 : ¬ (k : Int) ≥ (n : Int) := by omega
  have hA := add_at b 0 (k * 16)
  rw [Nat.zero_add] at hA
  go_enter Tryz.func46, Tryz.ntmps46
  go_wp2
  go_ret
  exact ⟨rfl, rfl⟩
end Go.Proofs.YtnkjaocmfhjnoaaGreat
