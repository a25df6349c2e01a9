/-
  Package sys as the statements see it: what is said of its calls, whatever a System is made of; calls and who ask, as lists in memory. The conditions are said at each. What PruneMoved and PruneSticky ask for; plain mathematics. The conditions are said at each. What package prune's calls answer, as statements: their proofs come from the code. No condition. A System of package sys in memory: a table's block and a row of processes, sixteen cells each. No condition. Package sys: a process by its number, a place of a process, the first free place. The conditions are said at each. Package sys: the open nodes, a process's umask, a place, the table. The conditions are said at each.
-/
import Derived.Test.YtkmkfolpjlkfoaaGreatM4
import Derived.Test.YtkmkfolpjlkfoaaGreatM6
import Derived.Test.YtkmkfolpjlkfoaaGreatM10
import Derived.Test.YtkmkfolpjlkfoaaGreatM11
namespace Go.Proofs.YtkmkfolpjlkfoaaGreat
open Go Go.RowKit
set_option maxRecDepth 100000

structure Fix (l : List Nat) (w w' : World) : Prop where
  os : w'.os = w.os
  tape : w'.tape = w.tape
  output : w'.output = w.output
  size : w.heap.size ≤ w'.heap.size
  block : ∀ k, k < w.heap.size → ¬ k ∈ l → w'.heap[k]? = w.heap[k]?
theorem Fix.trans {l : List Nat} {a b c : World} (h : Fix l a b) (k : Fix l b c) : Fix l a c :=
  ⟨k.os.trans h.os, k.tape.trans h.tape, k.output.trans h.output, Nat.le_trans h.size k.size, fun i hi hn => (k.block i (Nat.lt_of_lt_of_le hi h.size) hn).trans (h.block i hi hn)⟩
theorem Fix.of_grown {l : List Nat} {w w' : World} {g : Nat} (h : w.grownBy w' (some g)) (hg : g ∈ l) : Fix l w w' :=
  ⟨h.os, h.tape, h.output, h.size, fun k hk hn => h.block k hk (fun q => hn (by injection q with q; rw [q]; exact hg))⟩
theorem Fix.of_below {l : List Nat} {w w' : World} (h : Below w.heap.size w w') : Fix l w w' := ⟨h.os, h.tape, h.output, h.size, fun k hk _ => h.block k hk⟩
theorem Fix.drew {l : List Nat} {w w' : World} (h : Fix l w w') : Fix l w w'.drew := ⟨h.os, h.tape, h.output, h.size, h.block⟩
theorem Fix.below {l : List Nat} {w0 w w' : World} (h : Fix l w w') (hb : Below w0.heap.size w0 w) (hl : ∀ b ∈ l, w0.heap.size ≤ b) : Below w0.heap.size w0 w' :=
  ⟨h.os.trans hb.os, h.tape.trans hb.tape, h.output.trans hb.output, Nat.le_trans hb.size h.size, fun k hk => (h.block k (Nat.lt_of_lt_of_le hk hb.size) (fun q => by have := hl k q; omega)).trans (hb.block k hk)⟩
theorem Fix.split {g : Nat} {l : List Nat} {w w' : World} (h : Fix (g :: l) w w') : ∃ w1, Fix l w w1 ∧ w1.grownBy w' (some g) := by
  by_cases hg : g < w.heap.size
  · have hg' : g < w'.heap.size := Nat.lt_of_lt_of_le hg h.size
    refine ⟨{ w' with heap := w'.heap.setIfInBounds g w.heap[g] }, ⟨h.os, h.tape, h.output, by simpa using h.size, fun k hk hn => ?_⟩, ⟨rfl, rfl, rfl, by simp, fun k hk hn => ?_⟩⟩
    · show (w'.heap.setIfInBounds g w.heap[g])[k]? = _
      by_cases q : g = k
      · subst q
        rw [Array.getElem?_setIfInBounds_self_of_lt hg', Array.getElem?_eq_getElem hg]
      · rw [Array.getElem?_setIfInBounds_ne q]
        exact h.block k hk (fun z => (List.mem_cons.1 z).elim (fun y => q y.symm) hn)
    · show w'.heap[k]? = (w'.heap.setIfInBounds g w.heap[g])[k]?
      rw [Array.getElem?_setIfInBounds_ne (fun q => hn (by rw [q]))]
  · refine ⟨w', ⟨h.os, h.tape, h.output, h.size, fun k hk hn => h.block k hk (fun z => (List.mem_cons.1 z).elim (fun y => by omega) hn)⟩, ⟨rfl, rfl, rfl, Nat.le_refl _, fun _ _ _ => rfl⟩⟩
theorem Fix.carry {X : World → Prop} (h0 : ∀ a b, X a → Below a.heap.size a b → X b) : ∀ {l : List Nat} {w w' : World}, Fix l w w' → (∀ g ∈ l, ∀ a b, X a → a.grownBy b (some g) → X b) → X w → X w'
  | [], w, w', h, _, hx => h0 w w' hx ⟨h.os, h.tape, h.output, h.size, fun k hk => h.block k hk (by simp)⟩
  | g :: l, w, w', h, hl, hx => by
    obtain ⟨w1, h1, h2⟩ := h.split
    exact hl g (List.mem_cons_self ..) w1 w' (Fix.carry h0 h1 (fun x hm => hl x (List.mem_cons_of_mem _ hm)) hx) h2
theorem Fix.ints {l : List Nat} {w w' : World} (h : Fix l w w') {A : Option Addr} {n c : Nat} {x : List Int} (hi : IntsR w (.slice A n c) x) (hA : ∀ ad, A = some ad → ¬ ad.block ∈ l) : IntsR w' (.slice A n c) x :=
  Fix.carry (X := fun w => IntsR w (.slice A n c) x) (fun _ _ hx hb => hx.below hb) h (fun g hg _ _ hx hgr => hx.other hgr (fun ad _ _ hv => by injection hv with hv; exact fun q => hA ad hv (by rw [q]; exact hg))) hi
theorem Fix.tab {l : List Nat} {w w' : World} (h : Fix l w w') {g : Nat} {t : List Nd} {P : Nat → Prop} (ht : TabR w g t P) (hg : ¬ g ∈ l) (hP : ∀ b, P b → ¬ b ∈ l) : TabR w' g t P :=
  Fix.carry (X := fun w => TabR w g t P) (fun _ _ hx hb => hx.below hb) h (fun m hm _ _ hx hgr => hx.other hgr (fun q => hg (by rw [q]; exact hm)) (fun b hb _ _ q => hP b hb (by rw [q]; exact hm))) ht

/-! Calls, and who ask, in memory. -/
structure AtC (w : World) (b o : Nat) (c : Cal) (vd : Value) : Prop where
  c1 : w.cell? ⟨b, o + 1, none⟩ = some (.int .i64 c.kind)
  c2 : w.cell? ⟨b, o + 2, none⟩ = some (.string (bA c.path))
  c3 : w.cell? ⟨b, o + 3, none⟩ = some (.string (bA c.other))
  c4 : w.cell? ⟨b, o + 4, none⟩ = some (.int .i64 c.a)
  c5 : w.cell? ⟨b, o + 5, none⟩ = some (.int .i64 c.b)
  c6 : w.cell? ⟨b, o + 6, none⟩ = some vd
theorem AtC.below {w w' : World} {b o : Nat} {c : Cal} {vd : Value} (h : AtC w b o c vd) (hb : Below w.heap.size w w') : AtC w' b o c vd :=
  ⟨bc hb h.c1, bc hb h.c2, bc hb h.c3, bc hb h.c4, bc hb h.c5, bc hb h.c6⟩
def AcsR (w : World) (v : Value) (l : List (Int × Cal)) : Prop := ∃ A c, v = .slice A l.length c ∧ ∀ (k : Nat) (r : Int × Cal), l[k]? = some r → ∃ (ad : Addr) (vd : Value), A = some ad ∧
  w.cell? (ad.add (k * 7)) = some (.int .i64 r.1) ∧ AtC w (ad.add (k * 7)).block (ad.add (k * 7)).off r.2 vd ∧ BytesR w vd r.2.data
theorem AcsR.below {w w' : World} {v : Value} {l : List (Int × Cal)} (h : AcsR w v l) (hb : Below w.heap.size w w') : AcsR w' v l := by
  obtain ⟨A, c, hv, hc⟩ := h
  refine ⟨A, c, hv, fun k r hk => ?_⟩
  obtain ⟨ad, vd, hA, h0, h1, h2⟩ := hc k r hk
  exact ⟨ad, vd, hA, bc hb h0, h1.below hb, h2.below hb⟩
theorem acs_form {w : World} {v : Value} {l : List (Int × Cal)} (h : AcsR w v l) : ∃ A c, v = .slice A l.length c := by
  obtain ⟨A, c, rfl, -⟩ := h
  exact ⟨A, c, rfl⟩
theorem acs_get {w : World} {A : Option Addr} {n c : Nat} {l : List (Int × Cal)} (h : AcsR w (.slice A n c) l) {k : Nat} {r : Int × Cal} (hk : l[k]? = some r) : ∃ (ad : Addr) (vd : Value), A = some ad ∧
    w.cell? (ad.add (k * 7)) = some (.int .i64 r.1) ∧ AtC w (ad.add (k * 7)).block (ad.add (k * 7)).off r.2 vd ∧ BytesR w vd r.2.data := by
  obtain ⟨A', c', hv, hc⟩ := h
  injection hv with hA
  subst hA
  exact hc k r hk
def CdsR (w : World) (v : Value) (l : List Wh) : Prop := ∃ A c, v = .slice A l.length c ∧ ∀ (k : Nat) (r : Wh), l[k]? = some r → ∃ (ad : Addr) (B : Option Addr) (n m : Nat), A = some ad ∧
  w.cell? (ad.add (k * 3)) = some (.int .i64 r.u) ∧ w.cell? ⟨(ad.add (k * 3)).block, (ad.add (k * 3)).off + 1, none⟩ = some (.int .i64 r.g) ∧ w.cell? ⟨(ad.add (k * 3)).block, (ad.add (k * 3)).off + 2, none⟩ = some (.slice B n m) ∧ IntsR w (.slice B n m) r.gs
theorem CdsR.below {w w' : World} {v : Value} {l : List Wh} (h : CdsR w v l) (hb : Below w.heap.size w w') : CdsR w' v l := by
  obtain ⟨A, c, hv, hc⟩ := h
  refine ⟨A, c, hv, fun k r hk => ?_⟩
  obtain ⟨ad, B, n, m, hA, h0, h1, h2, h3⟩ := hc k r hk
  exact ⟨ad, B, n, m, hA, bc hb h0, bc hb h1, bc hb h2, h3.below hb⟩
theorem cds_form {w : World} {v : Value} {l : List Wh} (h : CdsR w v l) : ∃ A c, v = .slice A l.length c := by
  obtain ⟨A, c, rfl, -⟩ := h
  exact ⟨A, c, rfl⟩
theorem cds_get {w : World} {A : Option Addr} {n c : Nat} {l : List Wh} (h : CdsR w (.slice A n c) l) {k : Nat} {r : Wh} (hk : l[k]? = some r) : ∃ (ad : Addr) (B : Option Addr) (n m : Nat), A = some ad ∧
    w.cell? (ad.add (k * 3)) = some (.int .i64 r.u) ∧ w.cell? ⟨(ad.add (k * 3)).block, (ad.add (k * 3)).off + 1, none⟩ = some (.int .i64 r.g) ∧ w.cell? ⟨(ad.add (k * 3)).block, (ad.add (k * 3)).off + 2, none⟩ = some (.slice B n m) ∧ IntsR w (.slice B n m) r.gs := by
  obtain ⟨A', c', hv, hc⟩ := h
  injection hv with hA
  subst hA
  exact hc k r hk
theorem cds_two {W : World} {z : Nat} (h : Blk W z 35 #[.int .i64 0, .int .i64 0, .slice none 0 0, .int .i64 0, .int .i64 0, .slice none 0 0]) : CdsR W (.slice (some ⟨z, 0, none⟩) 2 2) [wh0, wh0] := by
  have e : ∀ j, (⟨z, 0, none⟩ : Addr).add j = ⟨z, j, none⟩ := fun j => by unfold Addr.add; by_cases hk : j = 0 <;> simp [hk]
  have c0 := h.cell 0
  have c1 := h.cell 1
  have c2 := h.cell 2
  have c3 := h.cell 3
  have c4 := h.cell 4
  have c5 := h.cell 5
  simp at c0 c1 c2 c3 c4 c5
  refine ⟨some ⟨z, 0, none⟩, 2, rfl, fun k r hk => ?_⟩
  match k, hk with
  | 0, hk =>
    have hr : r = wh0 := by simpa using hk.symm
    subst hr
    exact ⟨_, none, 0, 0, rfl, by rw [e]; exact c0, by rw [e]; exact c1, by rw [e]; exact c2, IntsR.nil W⟩
  | 1, hk =>
    have hr : r = wh0 := by simpa using hk.symm
    subst hr
    exact ⟨_, none, 0, 0, rfl, by rw [e]; exact c3, by rw [e]; exact c4, by rw [e]; exact c5, IntsR.nil W⟩

/-! What is said of package sys. -/
def shortC (c : Cal) : Prop := c.path.length ≤ 100 ∧ c.other.length ≤ 100 ∧ c.data.length ≤ 100
def whoS (um : Int) (c : Wh) : Prm := ⟨c, um % 512, [Fdm.zero, Fdm.zero, Fdm.zero]⟩
def newS (t : List Nd) (um : Int) (cs : List Wh) : Sym := ⟨t, cs.map (whoS um)⟩
def umS (S : Sym) (pid : Int) : Int := match prI S pid with
  | none => 0
  | some p => p.um
def fdS (S : Sym) (pid i : Int) : Fdm := match prI S pid with
  | none => Fdm.zero
  | some p => p.fd i
abbrev fdC (f : Fdm) : Array Value := #[.int .i64 f.node, .int .i64 f.off, .bool f.rd, .bool f.wr]
abbrev calC (c : Cal) (vd : Value) : Array Value := #[.int .i64 c.kind, .string (bA c.path), .string (bA c.other), .int .i64 c.a, .int .i64 c.b, vd]
abbrev resC (r : Rsm) (vn vd : Value) : Array Value := #[.int .i64 r.err, .int .i64 r.n, .int .i64 r.stat.node, .int .i64 r.stat.kind, .int .i64 r.stat.mode, .int .i64 r.stat.uid, .int .i64 r.stat.gid, .int .i64 r.stat.links, .int .i64 r.stat.size, .string (bA r.text), vn, vd]
def DoA (R : World → Value → Sym → List Nat → Prop) (w : World) (v : Value) (S : Sym) (r : Rsm) (l : List Nat) (e : Ending) (w' : World) : Prop :=
  ∃ A1 n1 c1 A2 n2 c2, e = .returned (.agg (resC r (.slice A1 n1 c1) (.slice A2 n2 c2))) ∧ (StrsR w' (.slice A1 n1 c1) (nmA r.names) ∧ BytesT w' (.slice A2 n2 c2) r.data ∧ (∀ ad, A1 = some ad → ∃ cs, Blk w' ad.block 9 cs)) ∧ R w' v S l ∧ Fix l w w'
structure SysC (R : World → Value → Sym → List Nat → Prop) : Prop where
  lt : ∀ (w : World) (v : Value) (S : Sym) (l : List Nat), R w v S l → ∀ b ∈ l, b < w.heap.size
  below : ∀ (w w' : World) (v : Value) (S : Sym) (l : List Nat), R w v S l → Below w.heap.size w w' → R w' v S l
  oth : ∀ (w w' : World) (v : Value) (S : Sym) (l : List Nat) (z : Nat) (cs : Array Value), R w v S l → Blk w z 56 cs → w.grownBy w' (some z) → R w' v S l
  u8 : ∀ (w : World) (v : Value) (S : Sym) (l : List Nat), R w v S l → ∀ b ∈ l, ∀ cs, ¬ Blk w b 5 cs
  new : ∀ (g : Nat) (t : List Nd) (P : Nat → Prop) (um : Int) (vc : Value) (cs : List Wh) (w : World), TabR w g t P → CdsR w vc cs → (∀ c ∈ cs, c.gs.length ≤ 1048576) → cs.length ≤ 1048576 →
    Calls Tryz.prog 28 #[.pointer (some ⟨g, 0, none⟩), .int .i64 um, vc] w fun e w' => ∃ v l, e = .returned v ∧ R w' v (newS t um cs) l ∧ (∀ b ∈ l, w.heap.size ≤ b) ∧ Below w.heap.size w w'
  dos : ∀ (v : Value) (S : Sym) (l : List Nat) (pid : Int) (c : Cal) (vd : Value) (w : World), R w v S l → Inv S → (opnS S).length ≤ 1000 → BytesR w vd c.data → shortC c →
    Calls Tryz.prog 15 #[v, .int .i64 pid, .agg (calC c vd)] w (DoA R w v (doS S pid c).1 (doS S pid c).2 l)
  tab : ∀ (v : Value) (S : Sym) (l : List Nat) (w : World), R w v S l →
    Calls Tryz.prog 14 #[v] w fun e w' => ∃ g, e = .returned (.pointer (some ⟨g, 0, none⟩)) ∧ w.heap.size ≤ g ∧ TabR w' g S.t (fun b => w.heap.size ≤ b) ∧ Below w.heap.size w w'
  mask : ∀ (v : Value) (S : Sym) (l : List Nat) (pid : Int) (w : World), R w v S l →
    Calls Tryz.prog 23 #[v, .int .i64 pid] w fun e w' => e = .returned (.int .i64 (umS S pid)) ∧ Below w.heap.size w w'
  fds : ∀ (v : Value) (S : Sym) (l : List Nat) (pid i : Int) (w : World), R w v S l →
    Calls Tryz.prog 22 #[v, .int .i64 pid, .int .i64 i] w fun e w' => e = .returned (.agg (fdC (fdS S pid i))) ∧ Below w.heap.size w w'
  opn : ∀ (v : Value) (S : Sym) (l : List Nat) (w : World), R w v S l → (opnS S).length ≤ 1000 →
    Calls Tryz.prog 20 #[v] w fun e w' => ∃ A n c, e = .returned (.slice A n c) ∧ IntsR w' (.slice A n c) (opnS S) ∧ (∀ ad, A = some ad → w.heap.size ≤ ad.block) ∧ Below w.heap.size w w'

/-! The system that is new. -/
theorem new_opn (t : List Nd) (um : Int) (cs : List Wh) : opnS (newS t um cs) = [] := by
  refine List.eq_nil_iff_forall_not_mem.2 (fun j hj => ?_)
  obtain ⟨p, h1, h2⟩ := opnP_mem.1 hj
  obtain ⟨c, -, rfl⟩ := List.mem_map.1 h1
  obtain ⟨f, h3, h4, -⟩ := opnF_mem.1 h2
  have : f = Fdm.zero := by simpa [whoS] using h3
  rw [this] at h4
  exact h4 rfl
theorem inv_new {t : List Nd} (h : Trx t) (um : Int) {cs : List Wh} (hg : ∀ c ∈ cs, c.gs.length ≤ 1000) : Inv (newS t um cs) := by
  have ho := new_opn t um cs
  refine ⟨tro_tre (tre_trx h) _, fun j hj => ?_, fun p hp => ?_, fun p hp f hf => ?_, fun p hp => ?_, fun p hp => ?_⟩
  · rw [ho] at hj
    cases hj
  · obtain ⟨c, -, rfl⟩ := List.mem_map.1 hp
    rfl
  · obtain ⟨c, -, rfl⟩ := List.mem_map.1 hp
    have : f = Fdm.zero := by simpa [whoS] using hf
    rw [this]
    exact ⟨Int.le_refl 0, (by decide : (0 : Int) ≤ 48)⟩
  · obtain ⟨c, -, rfl⟩ := List.mem_map.1 hp
    show 0 ≤ um % 512 ∧ um % 512 ≤ 511
    omega
  · obtain ⟨c, hc, rfl⟩ := List.mem_map.1 hp
    exact hg c hc
theorem newS_len (t : List Nd) (um : Int) (cs : List Wh) : (newS t um cs).p.length = cs.length := List.length_map ..
theorem inv_opn_few {S : Sym} (h : Inv S) {n : Nat} (hn : S.p.length ≤ n) (h3 : 3 * n ≤ 1000) : (opnS S).length ≤ 1000 := by
  have := opn_few h
  omega
end Go.Proofs.YtkmkfolpjlkfoaaGreat
namespace Go.Proofs.YtkmkfolpjlkfoaaGreat
open Go Go.RowKit
set_option maxRecDepth 100000

theorem cut_fnd {t t1 : List Nd} (ho : okT t) {d : Int} {n : Nm} {i : Int} (h : Cut t t1 d n i) (j : Int) (x : Nm) : fnd (tget t1 j).ents x = if j = d ∧ x = n then 0 else fnd (tget t j).ents x := by
  rw [h.get j]
  by_cases q : j = d
  · rw [if_pos q]
    by_cases q2 : x = n
    · rw [if_pos ⟨q, q2⟩, q2]
      exact fnd_del (ok_ris ho d)
    · rw [if_neg (fun z => q2 z.2), q]
      exact fnd_del_ne q2 _
  · rw [if_neg q, if_neg (fun z => q z.1)]
end Go.Proofs.YtkmkfolpjlkfoaaGreat
namespace Go.Proofs.YtkmkfolpjlkfoaaGreat
open Go Go.RowKit
set_option maxRecDepth 100000

attribute [local go_sem] cell_off4 cell_blk4
def Off (A : Option Addr) (l : List Int) (g : Nat) : Prop := l ≠ [] → ∀ ad : Addr, A = some ad → ad.block ≠ g
theorem off_of {w : World} {A : Option Addr} {n k g : Nat} {l : List Int} (h : IntsR w (.slice A n k) l) (hg : w.heap.size ≤ g) : Off A l g := fun hne ad q hb => by
  obtain ⟨A', c', hv, hc⟩ := h
  cases l with
  | nil => exact hne rfl
  | cons x xs =>
    obtain ⟨ad', hA, h0⟩ := hc 0 x rfl
    injection hv with e1 e2 e3
    rw [← e1, q] at hA
    injection hA with hA
    subst hA
    have h1 := World.block_lt_of_cell? _ _ h0
    have h2 : (ad.add 0).block = ad.block := by unfold Addr.add; split <;> rfl
    omega
theorem ints_past {W W' : World} {A : Option Addr} {n k g : Nat} {l : List Int} (h : IntsR W (.slice A n k) l) (hg : W.grownBy W' (some g)) (ho : Off A l g) : IntsR W' (.slice A n k) l := by
  cases l with
  | nil =>
    obtain ⟨A', c', hv, -⟩ := h
    exact ⟨A', c', hv, fun k n hk => by simp at hk⟩
  | cons x xs => exact h.other hg (fun ad a b hv => by injection hv with hv; exact ho (by simp) ad hv)
def UnlinkC : Prop := ∀ (g : Nat) (t : List Nd) (P : Nat → Prop) (c : Wh) (A0 : Option Addr) (m k : Nat) (p : Nm) (op : List Int) (A1 : Option Addr) (n1 k1 : Nat) (w : World), TabR w g t P → okT t → CrR w c A0 m k → IntsR w (.slice A1 n1 k1) op → op.length ≤ 1000 → Off A0 c.gs g → Off A1 op g → (∀ b, w.heap.size ≤ b → P b) →
    Calls Tryz.prog 114 #[.pointer (some ⟨g, 0, none⟩), .agg #[.int .i64 c.u, .int .i64 c.g, .slice A0 m k], .string (bA p), .slice A1 n1 k1] w fun e w' => e = .returned (.int .i64 (ulE t c (resM t c p false))) ∧ TabR w' g (ulT t c (resM t c p false) op) P ∧ w.grownBy w' (some g)
def RmdirC : Prop := ∀ (g : Nat) (t : List Nd) (P : Nat → Prop) (c : Wh) (A0 : Option Addr) (m k : Nat) (p : Nm) (w : World), TabR w g t P → okT t → CrR w c A0 m k → Off A0 c.gs g → (∀ b, w.heap.size ≤ b → P b) →
    Calls Tryz.prog 115 #[.pointer (some ⟨g, 0, none⟩), .agg #[.int .i64 c.u, .int .i64 c.g, .slice A0 m k], .string (bA p)] w fun e w' => e = .returned (.int .i64 (rdE t c (resM t c p false))) ∧ TabR w' g (rdT t c (resM t c p false)) P ∧ w.grownBy w' (some g)
def RenameC : Prop := ∀ (g : Nat) (t : List Nd) (P : Nat → Prop) (c : Wh) (A0 : Option Addr) (m k : Nat) (p q : Nm) (op : List Int) (A1 : Option Addr) (n1 k1 : Nat) (w : World), TabR w g t P → okT t → CrR w c A0 m k → IntsR w (.slice A1 n1 k1) op → op.length ≤ 1000 → Off A0 c.gs g → Off A1 op g → (∀ b, w.heap.size ≤ b → P b) →
    Calls Tryz.prog 116 #[.pointer (some ⟨g, 0, none⟩), .agg #[.int .i64 c.u, .int .i64 c.g, .slice A0 m k], .string (bA p), .string (bA q), .slice A1 n1 k1] w fun e w' => e = .returned (.int .i64 (mvE t c (resM t c p false) (resM t c q false))) ∧ TabR w' g (mvT t c (resM t c p false) (resM t c q false) op) P ∧ w.grownBy w' (some g)
def FreeC : Prop := ∀ (g : Nat) (t : List Nd) (P : Nat → Prop) (i : Int) (op : List Int) (A1 : Option Addr) (n1 k1 : Nat) (w : World), TabR w g t P → okT t → IntsR w (.slice A1 n1 k1) op → op.length ≤ 1000 → Off A1 op g → (∀ b, w.heap.size ≤ b → P b) →
    Calls Tryz.prog 121 #[.pointer (some ⟨g, 0, none⟩), .int .i64 i, .slice A1 n1 k1] w fun e w' => e = .returned (.bool (frB t i op)) ∧ TabR w' g (frT t i op) P ∧ w.grownBy w' (some g)
def BelowC : Prop := ∀ (g : Nat) (t : List Nd) (P : Nat → Prop) (i d : Int) (w : World), TabR w g t P → okT t →
    Calls Tryz.prog 219 #[.pointer (some ⟨g, 0, none⟩), .int .i64 i, .int .i64 d] w fun e w' => e = .returned (.bool (blwB t i d)) ∧ Below w.heap.size w w'
def UnlinkN : Prop := ∀ (c : Wh) (A0 : Option Addr) (m k : Nat) (p : Nm) (w : World), CrR w c A0 m k →
    Calls Tryz.prog 114 #[.pointer none, .agg #[.int .i64 c.u, .int .i64 c.g, .slice A0 m k], .string (bA p), .slice none 0 0] w fun e w' => ∃ x, e = .returned (.int .i64 x) ∧ x ≠ 0 ∧ Below w.heap.size w w'
def RmdirN : Prop := ∀ (c : Wh) (A0 : Option Addr) (m k : Nat) (p : Nm) (w : World), CrR w c A0 m k →
    Calls Tryz.prog 115 #[.pointer none, .agg #[.int .i64 c.u, .int .i64 c.g, .slice A0 m k], .string (bA p)] w fun e w' => ∃ x, e = .returned (.int .i64 x) ∧ x ≠ 0 ∧ Below w.heap.size w w'
def RenameN : Prop := ∀ (c : Wh) (A0 : Option Addr) (m k : Nat) (p q : Nm) (w : World), CrR w c A0 m k →
    Calls Tryz.prog 116 #[.pointer none, .agg #[.int .i64 c.u, .int .i64 c.g, .slice A0 m k], .string (bA p), .string (bA q), .slice none 0 0] w fun e w' => ∃ x, e = .returned (.int .i64 x) ∧ x ≠ 0 ∧ Below w.heap.size w w'
def FreeN : Prop := ∀ (i : Int) (w : World), Calls Tryz.prog 121 #[.pointer none, .int .i64 i, .slice none 0 0] w fun e w' => e = .returned (.bool false) ∧ Below w.heap.size w w'
structure PruneC : Prop where
  ul : UnlinkC
  rd : RmdirC
  rn : RenameC
  fr : FreeC
  bl : BelowC
  uln : UnlinkN
  rdn : RmdirN
  rnn : RenameN
  frn : FreeN
end Go.Proofs.YtkmkfolpjlkfoaaGreat
namespace Go.Proofs.YtkmkfolpjlkfoaaGreat
open Go Go.RowKit
set_option maxRecDepth 100000

structure At4 (w : World) (b o : Nat) (f : Fdm) : Prop where
  c0 : w.cell? ⟨b, o, none⟩ = some (.int .i64 f.node)
  c1 : w.cell? ⟨b, o + 1, none⟩ = some (.int .i64 f.off)
  c2 : w.cell? ⟨b, o + 2, none⟩ = some (.bool f.rd)
  c3 : w.cell? ⟨b, o + 3, none⟩ = some (.bool f.wr)
theorem At4.same {w w' : World} {b o : Nat} {f : Fdm} (h : At4 w b o f) (hc : ∀ j u, j < 4 → w.cell? ⟨b, o + j, none⟩ = some u → w'.cell? ⟨b, o + j, none⟩ = some u) : At4 w' b o f :=
  ⟨hc 0 _ (by decide) h.c0, hc 1 _ (by decide) h.c1, hc 2 _ (by decide) h.c2, hc 3 _ (by decide) h.c3⟩
def GrR (w : World) (A : Option Addr) (n c : Nat) (l : List Int) : Prop := IntsR w (.slice A n c) l ∧ (l ≠ [] → ∀ ad : Addr, A = some ad → ∃ cs, Blk w ad.block 3 cs)
theorem GrR.below {w w' : World} {A : Option Addr} {n c : Nat} {l : List Int} (h : GrR w A n c l) (hb : Below w.heap.size w w') : GrR w' A n c l :=
  ⟨h.1.below hb, fun q ad hA => by obtain ⟨cs, hc⟩ := h.2 q ad hA; exact ⟨cs, hc.below hb⟩⟩
theorem GrR.off {w : World} {A : Option Addr} {n c z : Nat} {l : List Int} {t : TypeId} {cs : Array Value} (h : GrR w A n c l) (hz : Blk w z t cs) (ht : 3 ≠ t) : Off A l z := fun q ad hA => by
  obtain ⟨ds, hd⟩ := h.2 q ad hA
  exact blk_ne hd hz ht
theorem GrR.kind {w w' : World} {A : Option Addr} {n c z : Nat} {l : List Int} {t : TypeId} {cs : Array Value} (h : GrR w A n c l) (hz : Blk w z t cs) (ht : 3 ≠ t) (hg : w.grownBy w' (some z)) : GrR w' A n c l :=
  ⟨ints_past h.1 hg (h.off hz ht), fun q ad hA => by
    obtain ⟨ds, hd⟩ := h.2 q ad hA
    exact ⟨ds, hd.kept hg (some_ne (blk_ne hd hz ht))⟩⟩
structure PrC (w : World) (b o : Nat) (p : Prm) (G : Option Addr) (m : Nat) : Prop where
  c0 : w.cell? ⟨b, o, none⟩ = some (.int .i64 p.c.u)
  c1 : w.cell? ⟨b, o + 1, none⟩ = some (.int .i64 p.c.g)
  c2 : w.cell? ⟨b, o + 2, none⟩ = some (.slice G p.c.gs.length m)
  c3 : w.cell? ⟨b, o + 3, none⟩ = some (.int .i64 p.um)
  len : p.f.length = 3
  fd : ∀ (i : Nat) (f : Fdm), p.f[i]? = some f → At4 w b (o + 4 + i * 4) f ∧ (f.node = 0 → f = Fdm.zero)
  gs : GrR w G p.c.gs.length m p.c.gs
theorem PrC.same {w w' : World} {b o : Nat} {p : Prm} {G : Option Addr} {m : Nat} (h : PrC w b o p G m) (hc : ∀ j u, j < 16 → w.cell? ⟨b, o + j, none⟩ = some u → w'.cell? ⟨b, o + j, none⟩ = some u) (hg : GrR w' G p.c.gs.length m p.c.gs) : PrC w' b o p G m :=
  ⟨hc 0 _ (by decide) h.c0, hc 1 _ (by decide) h.c1, hc 2 _ (by decide) h.c2, hc 3 _ (by decide) h.c3, h.len, fun i f hf => by
    obtain ⟨h1, h2⟩ := h.fd i f hf
    have hi : i < 3 := by have := (List.getElem?_eq_some_iff.1 hf).1; rw [h.len] at this; exact this
    refine ⟨h1.same (fun j u hj hu => ?_), h2⟩
    have e : o + 4 + i * 4 + j = o + (4 + i * 4 + j) := by omega
    rw [e] at hu ⊢
    exact hc _ _ (by omega) hu, hg⟩
theorem PrC.below {w w' : World} {b o : Nat} {p : Prm} {G : Option Addr} {m : Nat} (h : PrC w b o p G m) (hb : Below w.heap.size w w') : PrC w' b o p G m :=
  h.same (fun _ _ _ hu => bc hb hu) (h.gs.below hb)
theorem PrC.fds {w : World} {b o : Nat} {p : Prm} {G : Option Addr} {m : Nat} (h : PrC w b o p G m) : ∃ f0 f1 f2, p.f = [f0, f1, f2] ∧ At4 w b (o + 4) f0 ∧ At4 w b (o + 8) f1 ∧ At4 w b (o + 12) f2 ∧ (f0.node = 0 → f0 = Fdm.zero) ∧ (f1.node = 0 → f1 = Fdm.zero) ∧ (f2.node = 0 → f2 = Fdm.zero) := by
  obtain ⟨f0, f1, f2, e⟩ : ∃ f0 f1 f2, p.f = [f0, f1, f2] := by
    have := h.len
    match hp : p.f, this with
    | [f0, f1, f2], _ => exact ⟨f0, f1, f2, rfl⟩
  have h0 := h.fd 0 f0 (by rw [e]; rfl)
  have h1 := h.fd 1 f1 (by rw [e]; rfl)
  have h2 := h.fd 2 f2 (by rw [e]; rfl)
  exact ⟨f0, f1, f2, e, h0.1, h1.1, h2.1, h0.2, h1.2, h2.2⟩
theorem PrC.crr {w : World} {b o : Nat} {p : Prm} {G : Option Addr} {m : Nat} (h : PrC w b o p G m) (hg : p.c.gs.length ≤ 1000) : CrR w p.c G p.c.gs.length m := ⟨h.gs.1, by omega⟩

structure Sq (w : World) (s g b c : Nat) (S : Sym) : Prop where
  blk : Blk w s 104 #[.pointer (some ⟨g, 0, none⟩), .slice (some ⟨b, 0, none⟩) S.p.length c]
  tab : TabR w g S.t (fun _ => True)
  row : ∃ cs, Blk w b 118 cs ∧ S.p.length * 16 ≤ cs.size
  prs : ∀ (k : Nat) (p : Prm), S.p[k]? = some p → ∃ G m, PrC w b (k * 16) p G m
  few : S.p.length ≤ 1048576
theorem Sq.below {w w' : World} {s g b c : Nat} {S : Sym} (h : Sq w s g b c S) (hb : Below w.heap.size w w') : Sq w' s g b c S :=
  ⟨h.blk.below hb, h.tab.below hb, by obtain ⟨cs, h1, h2⟩ := h.row; exact ⟨cs, h1.below hb, h2⟩, fun k p hk => by obtain ⟨G, m, h1⟩ := h.prs k p hk; exact ⟨G, m, h1.below hb⟩, h.few⟩
theorem Sq.tabbed {w w' : World} {s g b c : Nat} {S : Sym} (h : Sq w s g b c S) {t : List Nd} (ht : TabR w' g t (fun _ => True)) (hg : w.grownBy w' (some g)) : Sq w' s g b c ⟨t, S.p⟩ := by
  obtain ⟨ct, hct, -⟩ := h.tab.blk
  obtain ⟨cs, h1, h2⟩ := h.row
  have hbg : b ≠ g := blk_ne h1 hct (by decide)
  refine ⟨h.blk.kept hg (some_ne (blk_ne h.blk hct (by decide))), ht, ⟨cs, h1.kept hg (some_ne hbg), h2⟩, fun k p hk => ?_, h.few⟩
  obtain ⟨G, m, h3⟩ := h.prs k p hk
  refine ⟨G, m, h3.same (fun j u _ hu => ?_) (h3.gs.kind hct (by decide) hg)⟩
  rw [← hu]
  exact World.cell?_of_block (hg.block b h1.lt (some_ne hbg))
theorem Sq.proc {w w' : World} {s g b c : Nat} {S : Sym} (h : Sq w s g b c S) (hg : w.grownBy w' (some b)) {i : Nat} {p : Prm} {G : Option Addr} {m : Nat} (hcs : ∃ cs, Blk w' b 118 cs ∧ S.p.length * 16 ≤ cs.size) (hout : ∀ j, j < i * 16 ∨ i * 16 + 16 ≤ j → w'.cell? ⟨b, j, none⟩ = w.cell? ⟨b, j, none⟩) (hp : PrC w' b (i * 16) p G m) : Sq w' s g b c ⟨S.t, S.p.set i p⟩ := by
  obtain ⟨cs, h1, h2⟩ := h.row
  obtain ⟨ct, hct, -⟩ := h.tab.blk
  refine ⟨?_, h.tab.kind hg (blk_ne hct h1 (by decide)) h1 (by decide) (by decide), ?_, fun k q hk => ?_, by rw [List.length_set]; exact h.few⟩
  · rw [List.length_set]
    exact h.blk.kept hg (some_ne (blk_ne h.blk h1 (by decide)))
  · rw [List.length_set]
    exact hcs
  · by_cases e : i = k
    · subst e
      have hi : i < S.p.length := by have := (List.getElem?_eq_some_iff.1 hk).1; rw [List.length_set] at this; exact this
      rw [List.getElem?_set_self hi] at hk
      injection hk with hk
      subst hk
      exact ⟨G, m, hp⟩
    · rw [List.getElem?_set_ne e] at hk
      obtain ⟨G', m', h3⟩ := h.prs k q hk
      exact ⟨G', m', h3.same (fun j u hj hu => (hout _ (by omega)).trans hu) (h3.gs.kind h1 (by decide) hg)⟩
theorem Sq.kind {w w' : World} {s g b c z : Nat} {S : Sym} {t : TypeId} {cz : Array Value} (h : Sq w s g b c S) (hz : Blk w z t cz) (hg : w.grownBy w' (some z)) (h1 : t ≠ 104) (h2 : t ≠ 132) (h3 : t ≠ 118) (h4 : t ≠ 3) (h5 : t ≠ 5) (h6 : t ≠ 134) : Sq w' s g b c S := by
  obtain ⟨cs, hk, hl⟩ := h.row
  obtain ⟨ct, hct, -⟩ := h.tab.blk
  have hbz : b ≠ z := blk_ne hk hz (fun e => h3 e.symm)
  refine ⟨h.blk.kept hg (some_ne (blk_ne h.blk hz (fun e => h1 e.symm))), h.tab.kind hg (blk_ne hct hz (fun e => h2 e.symm)) hz h5 h6, ⟨cs, hk.kept hg (some_ne hbz), hl⟩, fun k p hp => ?_, h.few⟩
  obtain ⟨G, m, hc⟩ := h.prs k p hp
  refine ⟨G, m, hc.same (fun j u _ hu => ?_) (hc.gs.kind hz (fun e => h4 e.symm) hg)⟩
  rw [← hu]
  exact World.cell?_of_block (hg.block b hk.lt (some_ne hbz))
theorem Sq.place {w w' : World} {s g b c : Nat} {S : Sym} (h : Sq w s g b c S) {k i : Nat} {p : Prm} {f : Fdm} (hk : S.p[k]? = some p) (hi : i < 3) (hz : f.node = 0 → f = Fdm.zero) (hg : w.grownBy w' (some b)) (hcs : ∃ cs, Blk w' b 118 cs ∧ S.p.length * 16 ≤ cs.size) (hout : ∀ j, j < k * 16 + 4 + i * 4 ∨ k * 16 + 4 + i * 4 + 4 ≤ j → w'.cell? ⟨b, j, none⟩ = w.cell? ⟨b, j, none⟩) (hin : At4 w' b (k * 16 + 4 + i * 4) f) : Sq w' s g b c ⟨S.t, S.p.set k (p.setF i f)⟩ := by
  obtain ⟨G, m, hp⟩ := h.prs k p hk
  obtain ⟨cs, h1, -⟩ := h.row
  have hgs := hp.gs.kind h1 (by decide) hg
  refine h.proc hg (G := G) (m := m) hcs (fun j hj => hout j (by omega)) ⟨(hout _ (by omega)).trans hp.c0, (hout _ (by omega)).trans hp.c1, (hout _ (by omega)).trans hp.c2, (hout _ (by omega)).trans hp.c3, (setF_len p i f).trans hp.len, fun j q hq => ?_, hgs⟩
  have hl : i < p.f.length := by rw [hp.len]; exact hi
  by_cases e : i = j
  · subst e
    have e2 : (p.setF i f).f[i]? = some f := List.getElem?_set_self hl
    rw [e2] at hq
    injection hq with hq
    subst hq
    exact ⟨hin, hz⟩
  · have e2 : (p.setF i f).f[j]? = p.f[j]? := List.getElem?_set_ne e
    rw [e2] at hq
    obtain ⟨h2, h3⟩ := hp.fd j q hq
    have hj : j < 3 := by have := (List.getElem?_eq_some_iff.1 hq).1; rw [hp.len] at this; exact this
    exact ⟨h2.same (fun x u hx hu => (hout _ (by omega)).trans hu), h3⟩
def putF (w : World) (b o : Nat) (u0 u1 u2 u3 : Value) : World :=
  (((w.setCell ⟨b, o, none⟩ u0).setCell ⟨b, o + 1, none⟩ u1).setCell ⟨b, o + 2, none⟩ u2).setCell ⟨b, o + 3, none⟩ u3
theorem grownF (w : World) (b o : Nat) (u0 u1 u2 u3 : Value) : w.grownBy (putF w b o u0 u1 u2 u3) (some b) := by
  have h := fun (W : World) (i : Nat) (u : Value) => grown_setCell W ⟨b, i, none⟩ u
  exact grown_trans (grown_trans (grown_trans (h _ _ _) (h _ _ _)) (h _ _ _)) (h _ _ _)
theorem Blk.putF {w : World} {b o : Nat} {t : TypeId} {cs : Array Value} {u0 u1 u2 u3 : Value} (h : Blk w b t cs) : Blk (putF w b o u0 u1 u2 u3) b t ((((cs.setIfInBounds o u0).setIfInBounds (o + 1) u1).setIfInBounds (o + 2) u2).setIfInBounds (o + 3) u3) :=
  (((h.set_ o u0).set_ (o + 1) u1).set_ (o + 2) u2).set_ (o + 3) u3
theorem putF_out {w : World} {b o : Nat} {t : TypeId} {cs : Array Value} {u0 u1 u2 u3 : Value} (h : Blk w b t cs) (i : Nat) (hi : i < o ∨ o + 4 ≤ i) : (putF w b o u0 u1 u2 u3).cell? ⟨b, i, none⟩ = w.cell? ⟨b, i, none⟩ := by
  rw [h.putF.cell i, h.cell i]
  rw [Array.getElem?_setIfInBounds_ne (by omega), Array.getElem?_setIfInBounds_ne (by omega), Array.getElem?_setIfInBounds_ne (by omega), Array.getElem?_setIfInBounds_ne (by omega)]
theorem putF_in {w : World} {b o : Nat} {t : TypeId} {cs : Array Value} {f : Fdm} (h : Blk w b t cs) (hs : o + 4 ≤ cs.size) : At4 (putF w b o (.int .i64 f.node) (.int .i64 f.off) (.bool f.rd) (.bool f.wr)) b o f := by
  refine ⟨?_, ?_, ?_, ?_⟩
  · rw [h.putF.cell]
    rw [Array.getElem?_setIfInBounds_ne (by omega), Array.getElem?_setIfInBounds_ne (by omega), Array.getElem?_setIfInBounds_ne (by omega)]
    exact set_self (by omega)
  · rw [h.putF.cell]
    rw [Array.getElem?_setIfInBounds_ne (by omega), Array.getElem?_setIfInBounds_ne (by omega)]
    exact set_self (by simp only [Array.size_setIfInBounds]; omega)
  · rw [h.putF.cell]
    rw [Array.getElem?_setIfInBounds_ne (by omega)]
    exact set_self (by simp only [Array.size_setIfInBounds]; omega)
  · rw [h.putF.cell]
    exact set_self (by simp only [Array.size_setIfInBounds]; omega)
theorem Sq.putF {w : World} {s g b c : Nat} {S : Sym} (h : Sq w s g b c S) {k i : Nat} {p : Prm} {f : Fdm} (hk : S.p[k]? = some p) (hi : i < 3) (hz : f.node = 0 → f = Fdm.zero) : Sq (putF w b (k * 16 + 4 + i * 4) (.int .i64 f.node) (.int .i64 f.off) (.bool f.rd) (.bool f.wr)) s g b c ⟨S.t, S.p.set k (p.setF i f)⟩ := by
  obtain ⟨cs, h1, h2⟩ := h.row
  have hl : k < S.p.length := (List.getElem?_eq_some_iff.1 hk).1
  exact h.place hk hi hz (grownF ..) ⟨_, h1.putF, by simpa using h2⟩ (fun j hj => putF_out h1 j hj) (putF_in h1 (by omega))
theorem Sq.putO {w : World} {s g b c : Nat} {S : Sym} (h : Sq w s g b c S) {k i : Nat} {p : Prm} {f : Fdm} (hk : S.p[k]? = some p) (hf : p.f[i]? = some f) (hn : f.node ≠ 0) (x : Int) : Sq (w.setCell ⟨b, k * 16 + 4 + i * 4 + 1, none⟩ (.int .i64 x)) s g b c ⟨S.t, S.p.set k (p.setF i ⟨f.node, x, f.rd, f.wr⟩)⟩ := by
  obtain ⟨cs, h1, h2⟩ := h.row
  have hl : k < S.p.length := (List.getElem?_eq_some_iff.1 hk).1
  obtain ⟨G, m, hp⟩ := h.prs k p hk
  have hi : i < 3 := by have := (List.getElem?_eq_some_iff.1 hf).1; rw [hp.len] at this; exact this
  have key : ∀ j, j ≠ k * 16 + 4 + i * 4 + 1 → (w.setCell ⟨b, k * 16 + 4 + i * 4 + 1, none⟩ (.int .i64 x)).cell? ⟨b, j, none⟩ = w.cell? ⟨b, j, none⟩ := fun j hj => World.cell?_setCell_other _ _ _ _ (fun e => by injection e with _ e; omega)
  obtain ⟨a0, a1, a2, a3⟩ := (hp.fd i f hf).1
  refine h.place hk hi (fun q => absurd q hn) (grown_setCell w ⟨b, k * 16 + 4 + i * 4 + 1, none⟩ _) ⟨_, h1.set_ _ _, by simpa using h2⟩ (fun j hj => key j (by omega)) ⟨(key _ (by omega)).trans a0, ?_, (key _ (by omega)).trans a2, (key _ (by omega)).trans a3⟩
  rw [(h1.set_ _ _).cell]
  exact set_self (by omega)
theorem Sq.putU {w : World} {s g b c : Nat} {S : Sym} (h : Sq w s g b c S) {k : Nat} {p : Prm} (hk : S.p[k]? = some p) (x : Int) : Sq (w.setCell ⟨b, k * 16 + 3, none⟩ (.int .i64 x)) s g b c ⟨S.t, S.p.set k ⟨p.c, x, p.f⟩⟩ := by
  obtain ⟨cs, h1, h2⟩ := h.row
  have hl : k < S.p.length := (List.getElem?_eq_some_iff.1 hk).1
  obtain ⟨G, m, hp⟩ := h.prs k p hk
  have hg := grown_setCell w ⟨b, k * 16 + 3, none⟩ (.int .i64 x)
  have key : ∀ j, j ≠ k * 16 + 3 → (w.setCell ⟨b, k * 16 + 3, none⟩ (.int .i64 x)).cell? ⟨b, j, none⟩ = w.cell? ⟨b, j, none⟩ := fun j hj => World.cell?_setCell_other _ _ _ _ (fun e => by injection e with _ e; omega)
  refine h.proc hg (G := G) (m := m) ⟨_, h1.set_ _ _, by simpa using h2⟩ (fun j hj => key j (by omega)) ⟨(key _ (by omega)).trans hp.c0, (key _ (by omega)).trans hp.c1, (key _ (by omega)).trans hp.c2, ?_, hp.len, fun i f hf => ?_, hp.gs.kind h1 (by decide) hg⟩
  · rw [(h1.set_ _ _).cell]
    exact set_self (by omega)
  · obtain ⟨h3, h4⟩ := hp.fd i f hf
    exact ⟨h3.same (fun j u hj hu => (key _ (by omega)).trans hu), h4⟩
def SysR (w : World) (v : Value) (S : Sym) (l : List Nat) : Prop := ∃ s g, v = .pointer (some ⟨s, 0, none⟩) ∧
  ((S.p = [] ∧ l = [g] ∧ TabR w g S.t (fun _ => True) ∧ ∃ A c, Blk w s 104 #[.pointer (some ⟨g, 0, none⟩), .slice A 0 c]) ∨ ∃ b c, Sq w s g b c S ∧ l = [g, b])
theorem sysr_lt (w : World) (v : Value) (S : Sym) (l : List Nat) (h : SysR w v S l) : ∀ b ∈ l, b < w.heap.size := by
  obtain ⟨s, g, -, ⟨-, rfl, ht, -⟩ | ⟨b, c, h, rfl⟩⟩ := h
  · intro x hx
    rw [List.mem_singleton.1 hx]
    exact ht.lt
  · obtain ⟨cs, h1, -⟩ := h.row
    intro x hx
    rcases List.mem_cons.1 hx with rfl | hx
    · exact h.tab.lt
    · rw [List.mem_singleton.1 hx]
      exact h1.lt
theorem sysr_below (w w' : World) (v : Value) (S : Sym) (l : List Nat) (h : SysR w v S l) (hb : Below w.heap.size w w') : SysR w' v S l := by
  obtain ⟨s, g, rfl, ⟨h1, rfl, ht, A, c, hk⟩ | ⟨b, c, h, rfl⟩⟩ := h
  · exact ⟨s, g, rfl, .inl ⟨h1, rfl, ht.below hb, A, c, hk.below hb⟩⟩
  · exact ⟨s, g, rfl, .inr ⟨b, c, h.below hb, rfl⟩⟩
theorem sysr_oth (w w' : World) (v : Value) (S : Sym) (l : List Nat) (z : Nat) (cs : Array Value) (h : SysR w v S l) (hz : Blk w z 56 cs) (hg : w.grownBy w' (some z)) : SysR w' v S l := by
  obtain ⟨s, g, rfl, ⟨h1, rfl, ht, A, c, hk⟩ | ⟨b, c, h, rfl⟩⟩ := h
  · obtain ⟨ct, hct, -⟩ := ht.blk
    exact ⟨s, g, rfl, .inl ⟨h1, rfl, ht.kind hg (blk_ne hct hz (by decide)) hz (by decide) (by decide), A, c, hk.kept hg (some_ne (blk_ne hk hz (by decide)))⟩⟩
  · exact ⟨s, g, rfl, .inr ⟨b, c, h.kind hz hg (by decide) (by decide) (by decide) (by decide) (by decide) (by decide), rfl⟩⟩
end Go.Proofs.YtkmkfolpjlkfoaaGreat
namespace Go.Proofs.YtkmkfolpjlkfoaaGreat
open Go Go.RowKit
set_option maxRecDepth 100000

attribute [local go_sem] cell_off4 cell_blk4
theorem add_at (b o k : Nat) : (⟨b, o, none⟩ : Addr).add k = ⟨b, o + k, none⟩ := by unfold Addr.add; split <;> simp_all
theorem proc_none (s n c : Nat) (vg : Value) (A : Option Addr) (pid : Int) (w : World) (h : Blk w s 104 #[vg, .slice A n c]) (hp : pid < 0 ∨ (n : Int) ≤ pid) :
    Calls Tryz.prog 37 #[.pointer (some ⟨s, 0, none⟩), .int .i64 pid] w fun e w' => e = .returned (.pointer none) ∧ w = w' := by
  have p1 := h.cell 1
  simp at p1
  by_cases q : pid < 0
  · go_enter Tryz.func37, Tryz.ntmps37
    go_wp2
    go_ret
    exact ⟨rfl, rfl⟩
  · have q2 : pid ≥ (n : Int) := by omega
    go_enter Tryz.func37, Tryz.ntmps37
    go_wp2
    go_ret
    exact ⟨rfl, rfl⟩
theorem proc_some (s n c b k : Nat) (vg : Value) (w : World) (h : Blk w s 104 #[vg, .slice (some ⟨b, 0, none⟩) n c]) (hk : k < n) :
    Calls Tryz.prog 37 #[.pointer (some ⟨s, 0, none⟩), .int .i64 k] w fun e w' => e = .returned (.pointer (some ⟨b, k * 16, none⟩)) ∧ w = w' := by
  have p1 := h.cell 1
  simp at p1
  have q : ¬ (k : Int) < 0 := by omega
  have q2 : ¬ (k : Int) ≥ (n : Int) := by omega
  have hA := add_at b 0 (k * 16)
  rw [Nat.zero_add] at hA
  go_enter Tryz.func37, Tryz.ntmps37
  go_wp2
  go_ret
  exact ⟨rfl, rfl⟩
theorem open_nil (i : Int) (w : World) :
    Calls Tryz.prog 47 #[.pointer none, .int .i64 i] w fun e w' => e = .returned (.pointer none) ∧ w = w' := by
  go_enter Tryz.func47, Tryz.ntmps47
  go_wp2
  go_ret
  exact ⟨rfl, rfl⟩
theorem open_out (b o : Nat) (i : Int) (w : World) (hi : i < 0 ∨ 3 ≤ i) :
    Calls Tryz.prog 47 #[.pointer (some ⟨b, o, none⟩), .int .i64 i] w fun e w' => e = .returned (.pointer none) ∧ w = w' := by
  by_cases q : i < 0
  · go_enter Tryz.func47, Tryz.ntmps47
    go_wp2
    go_ret
    exact ⟨rfl, rfl⟩
  · have q2 : i ≥ 3 := by omega
    go_enter Tryz.func47, Tryz.ntmps47
    go_wp2
    go_ret
    exact ⟨rfl, rfl⟩
theorem open_in (b o j : Nat) (f : Fdm) (w : World) (hj : j < 3) (hf : At4 w b (o + 4 + j * 4) f) :
    Calls Tryz.prog 47 #[.pointer (some ⟨b, o, none⟩), .int .i64 j] w fun e w' => e = .returned (.pointer (if f.node = 0 then none else some ⟨b, o + 4 + j * 4, none⟩)) ∧ w = w' := by
  have q : ¬ (j : Int) < 0 := by omega
  have q2 : ¬ (j : Int) ≥ 3 := by omega
  have q3 : (j : Int) < 3 := by omega
  have hA := add_at b (o + 4) (j * 4)
  have c0 := hf.c0
  by_cases h0 : f.node = 0
  · have e0 : (f.node == 0) = true := by simpa using h0
    rw [if_pos h0]
    clear h0 hf
    go_enter Tryz.func47, Tryz.ntmps47
    go_wp2
    go_ret
    exact ⟨rfl, rfl⟩
  · have e0 : (f.node == 0) = false := by simpa using h0
    rw [if_neg h0]
    clear h0 hf
    go_enter Tryz.func47, Tryz.ntmps47
    go_wp2
    go_ret
    exact ⟨rfl, rfl⟩
set_option maxHeartbeats 4000000 in
theorem idxF_any (b o : Nat) (l : List Fdm) (w : World) (hl : l.length = 3) (hf : ∀ (i : Nat) (f : Fdm), l[i]? = some f → At4 w b (o + i * 4) f ∧ (f.node = 0 → f = Fdm.zero)) :
    Calls Tryz.prog 117 #[.slice (some ⟨b, o, none⟩) 3 3, .agg #[.int .i64 0, .int .i64 0, .bool false, .bool false]] w fun e w' => e = .returned (.int .i64 (if l.findIdx (fun f => f.node == 0) < 3 then (l.findIdx (fun f => f.node == 0) : Int) else -1)) ∧ Below w.heap.size w w' := by
  obtain ⟨X, hX⟩ : ∃ X, (if l.findIdx (fun f => f.node == 0) < 3 then (l.findIdx (fun f => f.node == 0) : Int) else -1) = X := ⟨_, rfl⟩
  rw [hX]
  have HY := Lib.hid (fun (k : Nat) (f : Fdm) (hk : l[k]? = some f) (h1 : ∀ (j : Nat) (g : Fdm), j < k → l[j]? = some g → g.node ≠ 0) (h2 : f.node = 0) => show (k : Int) = X by
    obtain ⟨hk1, hk2⟩ := List.getElem?_eq_some_iff.1 hk
    have e : l.findIdx (fun f => f.node == 0) = k := by
      rw [List.findIdx_eq hk1]
      refine ⟨by rw [hk2]; simpa using h2, fun j hj => ?_⟩
      have := h1 j _ hj (List.getElem?_eq_getElem (by omega))
      simpa using this
    rw [← hX, e, if_pos (by omega)])
  have HN := Lib.hid (fun (h1 : ∀ (j : Nat) (g : Fdm), j < 3 → l[j]? = some g → g.node ≠ 0) => show (-1 : Int) = X by
    rw [← hX, if_neg]
    intro hm
    have hm2 : l.findIdx (fun f => f.node == 0) < l.length := by omega
    have h3 := List.findIdx_getElem (w := hm2)
    exact h1 _ _ hm (List.getElem?_eq_getElem hm2) (by simpa using h3))
  have hbB := ba w (.cells #[.int .i64 0, .int .i64 0, .bool false, .bool false] 74)
  have hkB := Blk.new w 74 #[.int .i64 0, .int .i64 0, .bool false, .bool false]
  obtain ⟨W1, hW1⟩ : ∃ W, w.alloc (.cells #[.int .i64 0, .int .i64 0, .bool false, .bool false] 74) = W := ⟨_, rfl⟩
  rw [hW1] at hbB hkB
  have HB := Lib.hid hbB
  have HK := Lib.hid hkB
  have HF := Lib.hid hf
  clear hX hbB hkB hf
  go_enter Tryz.func117, Tryz.ntmps117
  go_wp2
  go_loopg [8] 3 (fun gh s8 wr => ∃ k : Nat, s8 = .int .i64 k ∧ k ≤ 3 ∧ gh = 3 - k ∧ (∀ (j : Nat) (g : Fdm), j < k → l[j]? = some g → g.node ≠ 0) ∧ Below W1.heap.size W1 wr)
  case atStart => exact ⟨0, rfl, Nat.zero_le _, rfl, fun j _ hj => absurd hj (Nat.not_lt_zero _), Below.refl _ _⟩
  case round =>
    obtain ⟨k, rfl, hk, rfl, hx, hb⟩ := hrel
    have HX := Lib.hid hx
    have HBR := Lib.hid hb
    clear hx hb
    by_cases hlt : k < 3
    · have hlt' : (k : Int) < 3 := by omega
      obtain ⟨f, hkf⟩ : ∃ f, l[k]? = some f := ⟨_, List.getElem?_eq_getElem (by omega)⟩
      obtain ⟨hat, hz⟩ := HF.out k f hkf
      have HZ := Lib.hid hz
      have HKF := Lib.hid hkf
      have HAT := Lib.hid (show At4 wr b (o + k * 4) f from ⟨bc HBR.out (bc HB.out hat.c0), bc HBR.out (bc HB.out hat.c1), bc HBR.out (bc HB.out hat.c2), bc HBR.out (bc HB.out hat.c3)⟩)
      have hA := add_at b o (k * 4)
      obtain ⟨a0, a1, a2, a3⟩ := HAT.out
      have k0 := bc HBR.out (HK.out.cell 0)
      have k1 := bc HBR.out (HK.out.cell 1)
      have k2 := bc HBR.out (HK.out.cell 2)
      have k3 := bc HBR.out (HK.out.cell 3)
      clear hat hz hkf
      by_cases q : f.node = 0
      · have e := HZ.out q
        rw [e] at a0 a1 a2 a3
        simp only [Fdm.zero] at a0 a1 a2 a3
        have HE := Lib.hid (HY.out k f HKF.out HX.out q)
        clear q e
        go_wp2
        go_quiet (fail)
        go_wp2
        go_ret
        exact ⟨ret_int HE.out, bt (bdN HBR.out _) HB.out⟩
      · have q1 : (f.node == 0) = false := by simpa using q
        have q2 : ((0 : Int) == f.node) = false := by
          rw [Bool.eq_false_iff]
          simp only [ne_eq, beq_iff_eq]
          exact fun h => q h.symm
        have HQ := Lib.hid q
        clear q
        go_wp2
        go_quiet (fail)
        go_wp2
        go_roundg (3 - (k + 1))
        case measure => omega
        case rel => exact ⟨k + 1, by go_num, by omega, rfl, (fun j g hj hg => by
          by_cases e : j = k
          · subst e
            rw [HKF.out] at hg
            injection hg with hg
            rw [← hg]
            exact HQ.out
          · exact HX.out j g (by omega) hg), bdN HBR.out _⟩
    · have hlt' : ¬ (k : Int) < 3 := by omega
      have HE := Lib.hid (HN.out (fun j g hj hg => HX.out j g (by omega) hg))
      go_wp2
      go_ret
      exact ⟨ret_int HE.out, bt HBR.out HB.out⟩
end Go.Proofs.YtkmkfolpjlkfoaaGreat
namespace Go.Proofs.YtkmkfolpjlkfoaaGreat
open Go Go.RowKit
set_option maxRecDepth 100000

attribute [local go_sem] cell_off4 cell_blk4
theorem opnF_snoc {l : List Fdm} {j : Nat} {f : Fdm} (h : l[j]? = some f) : opnF (l.take (j + 1)) = opnF (l.take j) ++ (if f.node = 0 then [] else [f.node]) := by
  have e : l.take (j + 1) = l.take j ++ [f] := by rw [List.take_add_one, h]; rfl
  rw [e]
  unfold opnF
  rw [List.filter_append, List.map_append]
  congr 1
  by_cases q : f.node = 0
  · simp [q]
  · simp [q]
theorem opnP_snoc {l : List Prm} {k : Nat} {p : Prm} (h : l[k]? = some p) : opnP (l.take (k + 1)) = opnP (l.take k) ++ opnF p.f := by
  have e : l.take (k + 1) = l.take k ++ [p] := by rw [List.take_add_one, h]; rfl
  rw [e]
  unfold opnP
  rw [List.flatMap_append]
  simp
theorem opnP_take_le (l : List Prm) (k : Nat) : (opnP (l.take k)).length ≤ (opnP l).length := by
  have e : opnP l = opnP (l.take k) ++ opnP (l.drop k) := by
    unfold opnP
    rw [← List.flatMap_append, List.take_append_drop]
  rw [e, List.length_append]
  omega
theorem opnF_take_le (l : List Fdm) (j : Nat) : (opnF (l.take j)).length ≤ (opnF l).length := by
  have e : opnF l = opnF (l.take j) ++ opnF (l.drop j) := by
    unfold opnF
    rw [← List.map_append, ← List.filter_append, List.take_append_drop]
  rw [e, List.length_append]
  omega
theorem opn_part {l : List Prm} {k : Nat} {p : Prm} (h : l[k]? = some p) (hn : (opnP l).length ≤ 1000) (j : Nat) : (opnP (l.take k) ++ opnF (p.f.take j)).length ≤ 1000 := by
  have h1 := opnP_take_le l (k + 1)
  rw [opnP_snoc h, List.length_append] at h1
  have h2 := opnF_take_le p.f j
  rw [List.length_append]
  omega
theorem idx3_0 (n0 o0 n1 o1 n2 o2 : Int) (r0 w0 r1 w1 r2 w2 : Bool) (W : World) : (Instr.index 116 (.agg #[.int .i64 n0, .int .i64 o0, .bool r0, .bool w0, .int .i64 n1, .int .i64 o1, .bool r1, .bool w1, .int .i64 n2, .int .i64 o2, .bool r2, .bool w2]) (.int .i64 0)).run Tryz.prog W = .ok (.agg #[.int .i64 n0, .int .i64 o0, .bool r0, .bool w0]) W := by kernel_rfl
theorem idx3_1 (n0 o0 n1 o1 n2 o2 : Int) (r0 w0 r1 w1 r2 w2 : Bool) (W : World) : (Instr.index 116 (.agg #[.int .i64 n0, .int .i64 o0, .bool r0, .bool w0, .int .i64 n1, .int .i64 o1, .bool r1, .bool w1, .int .i64 n2, .int .i64 o2, .bool r2, .bool w2]) (.int .i64 1)).run Tryz.prog W = .ok (.agg #[.int .i64 n1, .int .i64 o1, .bool r1, .bool w1]) W := by kernel_rfl
theorem idx3_2 (n0 o0 n1 o1 n2 o2 : Int) (r0 w0 r1 w1 r2 w2 : Bool) (W : World) : (Instr.index 116 (.agg #[.int .i64 n0, .int .i64 o0, .bool r0, .bool w0, .int .i64 n1, .int .i64 o1, .bool r1, .bool w1, .int .i64 n2, .int .i64 o2, .bool r2, .bool w2]) (.int .i64 2)).run Tryz.prog W = .ok (.agg #[.int .i64 n2, .int .i64 o2, .bool r2, .bool w2]) W := by kernel_rfl
theorem own_snoc {w : World} {B : Nat} {v : Value} {l : List Int} {x : Int} (h : w.ownsRow B 3 1 v (l.length + 1) (iCells l ++ [.int .i64 x])) : ∃ A c, v = .slice A (l ++ [x]).length c ∧ w.ownsRow B 3 1 (.slice A (l ++ [x]).length c) (l ++ [x]).length (iCells (l ++ [x])) := by
  obtain ⟨A, c, rfl⟩ := own_slice h
  rw [iCells_snoc] at h
  exact ⟨A, c, by rw [List.length_append]; rfl, by rw [List.length_append]; exact h⟩
set_option maxHeartbeats 16000000 in
theorem sopn_any (s g b c : Nat) (S : Sym) (w : World) (h : Sq w s g b c S) (hn : (opnS S).length ≤ 1000) :
    Calls Tryz.prog 20 #[.pointer (some ⟨s, 0, none⟩)] w fun e w' => ∃ A n c, e = .returned (.slice A n c) ∧ IntsR w' (.slice A n c) (opnS S) ∧ (∀ ad, A = some ad → w.heap.size ≤ ad.block) ∧ Below w.heap.size w w' := by
  have p1 := h.blk.cell 1
  simp at p1
  have HS := Lib.hid h
  have HN := Lib.hid hn
  have hi0 := idx3_0
  have hi1 := idx3_1
  have hi2 := idx3_2
  have hfew := h.few
  clear h hn
  go_enter Tryz.func20, Tryz.ntmps20
  go_wp2
  go_loopg [3, 15] S.p.length (fun gh s3 s15 wr => ∃ (k : Nat) (A : Option Addr) (m : Nat), s3 = .slice A (opnP (S.p.take k)).length m ∧ s15 = .int .i64 k ∧ k ≤ S.p.length ∧ gh = S.p.length - k ∧ wr.ownsRow w.heap.size 3 1 (.slice A (opnP (S.p.take k)).length m) (opnP (S.p.take k)).length (iCells (opnP (S.p.take k))) ∧ Below w.heap.size w wr)
  case atStart => exact ⟨0, none, 0, rfl, rfl, Nat.zero_le _, rfl, World.ownsRow_nil _ _ _ _, Below.refl _ _⟩
  case round =>
    obtain ⟨k, A, m, rfl, rfl, hk, rfl, ho, hb⟩ := hrel
    by_cases hlt : k < S.p.length
    · have hlt' : (k : Int) < (S.p.length : Int) := by omega
      obtain ⟨p, hp⟩ : ∃ p, S.p[k]? = some p := ⟨_, List.getElem?_eq_getElem hlt⟩
      obtain ⟨G, gm, hc⟩ := HS.out.prs k p hp
      obtain ⟨f0, f1, f2, hpf, a0, a1, a2, -⟩ := (hc.below hb).fds
      have HSN := Lib.hid (opnP_snoc hp)
      have HPT := Lib.hid (fun j => opn_part hp HN.out j)
      obtain ⟨L, hL⟩ : ∃ L, opnP (S.p.take k) = L := ⟨_, rfl⟩
      rw [hL] at ho HSN HPT ⊢
      have HO := Lib.hid ho
      have HB := Lib.hid hb
      have HPF := Lib.hid hpf
      have hA := add_at b 0 (k * 16)
      rw [Nat.zero_add] at hA
      obtain ⟨x0, x1, x2, x3⟩ := a0
      obtain ⟨y0, y1, y2, y3⟩ := a1
      obtain ⟨z0, z1, z2, z3⟩ := a2
      have c0 := bc hb hc.c0
      have c1 := bc hb hc.c1
      have c2 := bc hb hc.c2
      have c3 := bc hb hc.c3
      clear ho hb hpf hL hc hp
      simp only [Nat.add_assoc, Nat.reduceAdd] at x0 x1 x2 x3 y0 y1 y2 y3 z0 z1 z2 z3 c0 c1 c2 c3
      go_wp2
      go_loopg [3, 21] 3 (fun gh s3 s21 wx => ∃ (j : Nat) (A : Option Addr) (m : Nat), s3 = .slice A (L ++ opnF (p.f.take j)).length m ∧ s21 = .int .i64 j ∧ j ≤ 3 ∧ gh = 3 - j ∧ wx.ownsRow w.heap.size 3 1 (.slice A (L ++ opnF (p.f.take j)).length m) (L ++ opnF (p.f.take j)).length (iCells (L ++ opnF (p.f.take j))) ∧ Below w.heap.size w wx)
      case atStart =>
        have e : L ++ opnF (p.f.take 0) = L := by rw [List.take_zero]; exact List.append_nil L
        exact ⟨0, A, m, by rw [e], rfl, Nat.zero_le _, rfl, by rw [e]; exact HO.out.alloc _, al HB.out _⟩
      case round =>
        obtain ⟨j, A2, m2, rfl, rfl, hj, rfl, ho, hb⟩ := hrel
        by_cases hjl : j < 3
        · have hjl' : (j : Int) < 3 := by omega
          obtain ⟨fj, hfj⟩ : ∃ f, p.f[j]? = some f := ⟨_, List.getElem?_eq_getElem (by rw [HPF.out]; exact hjl)⟩
          have HSJ := Lib.hid (opnF_snoc hfj)
          have HLL := Lib.hid (HPT.out j)
          have hfj3 : [f0, f1, f2][j]? = some fj := by rw [← HPF.out]; exact hfj
          obtain ⟨M, hM⟩ : ∃ M, L ++ opnF (p.f.take j) = M := ⟨_, rfl⟩
          rw [hM] at ho HLL ⊢
          have HM := Lib.hid hM
          have HO2 := Lib.hid ho
          have HB2 := Lib.hid hb
          clear ho hb hM hfj
          by_cases q : fj.node = 0
          · have q1 : (fj.node == 0) = true := by simpa using q
            have HE := Lib.hid (show L ++ opnF (p.f.take (j + 1)) = M from by rw [HSJ.out, if_pos q, List.append_nil]; exact HM.out)
            have hj3 : (j = 0 ∧ fj = f0) ∨ (j = 1 ∧ fj = f1) ∨ (j = 2 ∧ fj = f2) := by
              match j, hjl, hfj3 with
              | 0, _, e => exact .inl ⟨rfl, by injection e with e; exact e.symm⟩
              | 1, _, e => exact .inr (.inl ⟨rfl, by injection e with e; exact e.symm⟩)
              | 2, _, e => exact .inr (.inr ⟨rfl, by injection e with e; exact e.symm⟩)
            have HQ := Lib.hid q
            clear q hfj3
            rcases hj3 with ⟨e1, e2⟩ | ⟨e1, e2⟩ | ⟨e1, e2⟩
            · subst e1
              subst e2
              go_wp2
              go_roundg (3 - (0 + 1))
              case measure => decide
              case rel => exact ⟨0 + 1, A2, m2, by rw [HE.out], rfl, by decide, rfl, by rw [HE.out]; exact HO2.out.alloc _, al HB2.out _⟩
            · subst e1
              subst e2
              go_wp2
              go_roundg (3 - (1 + 1))
              case measure => decide
              case rel => exact ⟨1 + 1, A2, m2, by rw [HE.out], rfl, by decide, rfl, by rw [HE.out]; exact HO2.out.alloc _, al HB2.out _⟩
            · subst e1
              subst e2
              go_wp2
              go_roundg (3 - (2 + 1))
              case measure => decide
              case rel => exact ⟨2 + 1, A2, m2, by rw [HE.out], rfl, by decide, rfl, by rw [HE.out]; exact HO2.out.alloc _, al HB2.out _⟩
          · have q1 : (fj.node == 0) = false := by simpa using q
            have HE := Lib.hid (show L ++ opnF (p.f.take (j + 1)) = M ++ [fj.node] from by rw [HSJ.out, if_neg q, ← List.append_assoc, HM.out])
            have hj3 : (j = 0 ∧ fj = f0) ∨ (j = 1 ∧ fj = f1) ∨ (j = 2 ∧ fj = f2) := by
              match j, hjl, hfj3 with
              | 0, _, e => exact .inl ⟨rfl, by injection e with e; exact e.symm⟩
              | 1, _, e => exact .inr (.inl ⟨rfl, by injection e with e; exact e.symm⟩)
              | 2, _, e => exact .inr (.inr ⟨rfl, by injection e with e; exact e.symm⟩)
            have HOA := Lib.hid (HO2.out.alloc (.cells #[.int .i64 fj.node, .int .i64 fj.off, .bool fj.rd, .bool fj.wr] 74))
            have HBA := Lib.hid (al HB2.out (.cells #[.int .i64 fj.node, .int .i64 fj.off, .bool fj.rd, .bool fj.wr] 74))
            have hml := HLL.out
            have hz2 : (wr.alloc (.cells #[.int .i64 fj.node, .int .i64 fj.off, .bool fj.rd, .bool fj.wr] 74)).heap.size = wr.heap.size + 1 := by simp
            clear q hfj3
            rcases hj3 with ⟨e1, e2⟩ | ⟨e1, e2⟩ | ⟨e1, e2⟩
            · subst e1
              subst e2
              go_wp2_with (at_builtin; refine wpList_append_one rfl (.tmp 27) (.tmp 30) _ rfl w.heap.size 3 _ 1 8 Tryz.underlying31 info_int rfl (by decide) (.slice A2 M.length m2) M.length (iCells M) rfl (wr.alloc (.cells #[.int .i64 fj.node, .int .i64 fj.off, .bool fj.rd, .bool fj.wr] 74)) [.int .i64 fj.node] rfl (int_one _) HOA.out (by rw [hz2]; rfl) (by omega) (by omega) HBA.out.size ?_; intro v5 w5 ho5 hg5; have hb5 := HBA.out.grown hg5 HBA.out.size (fun q hq => (HOA.out.lt q hq).1); obtain ⟨A5, m5, hv5, ho6⟩ := own_snoc ho5; subst hv5; have HO5 := Lib.hid ho6; have HB5 := Lib.hid hb5; clear ho5 hg5 ho6 hb5)
              go_roundg (3 - (0 + 1))
              case measure => decide
              case rel => exact ⟨0 + 1, A5, m5, by rw [HE.out, List.length_append]; rfl, rfl, by decide, rfl, by rw [HE.out]; exact HO5.out, HB5.out⟩
            · subst e1
              subst e2
              go_wp2_with (at_builtin; refine wpList_append_one rfl (.tmp 27) (.tmp 30) _ rfl w.heap.size 3 _ 1 8 Tryz.underlying31 info_int rfl (by decide) (.slice A2 M.length m2) M.length (iCells M) rfl (wr.alloc (.cells #[.int .i64 fj.node, .int .i64 fj.off, .bool fj.rd, .bool fj.wr] 74)) [.int .i64 fj.node] rfl (int_one _) HOA.out (by rw [hz2]; rfl) (by omega) (by omega) HBA.out.size ?_; intro v5 w5 ho5 hg5; have hb5 := HBA.out.grown hg5 HBA.out.size (fun q hq => (HOA.out.lt q hq).1); obtain ⟨A5, m5, hv5, ho6⟩ := own_snoc ho5; subst hv5; have HO5 := Lib.hid ho6; have HB5 := Lib.hid hb5; clear ho5 hg5 ho6 hb5)
              go_roundg (3 - (1 + 1))
              case measure => decide
              case rel => exact ⟨1 + 1, A5, m5, by rw [HE.out, List.length_append]; rfl, rfl, by decide, rfl, by rw [HE.out]; exact HO5.out, HB5.out⟩
            · subst e1
              subst e2
              go_wp2_with (at_builtin; refine wpList_append_one rfl (.tmp 27) (.tmp 30) _ rfl w.heap.size 3 _ 1 8 Tryz.underlying31 info_int rfl (by decide) (.slice A2 M.length m2) M.length (iCells M) rfl (wr.alloc (.cells #[.int .i64 fj.node, .int .i64 fj.off, .bool fj.rd, .bool fj.wr] 74)) [.int .i64 fj.node] rfl (int_one _) HOA.out (by rw [hz2]; rfl) (by omega) (by omega) HBA.out.size ?_; intro v5 w5 ho5 hg5; have hb5 := HBA.out.grown hg5 HBA.out.size (fun q hq => (HOA.out.lt q hq).1); obtain ⟨A5, m5, hv5, ho6⟩ := own_snoc ho5; subst hv5; have HO5 := Lib.hid ho6; have HB5 := Lib.hid hb5; clear ho5 hg5 ho6 hb5)
              go_roundg (3 - (2 + 1))
              case measure => decide
              case rel => exact ⟨2 + 1, A5, m5, by rw [HE.out, List.length_append]; rfl, rfl, by decide, rfl, by rw [HE.out]; exact HO5.out, HB5.out⟩
        · have hjl' : ¬ (j : Int) < 3 := by omega
          have e3 : p.f.take j = p.f := List.take_of_length_le (by rw [HPF.out]; show 3 ≤ j; omega)
          have HE := Lib.hid (show opnP (S.p.take (k + 1)) = L ++ opnF (p.f.take j) from by rw [HSN.out, e3])
          have HO2 := Lib.hid ho
          have HB2 := Lib.hid hb
          obtain ⟨M, hM⟩ : ∃ M, L ++ opnF (p.f.take j) = M := ⟨_, rfl⟩
          rw [hM] at HE HO2 ⊢
          clear ho hb e3 hM
          go_wp2
          go_roundg (S.p.length - (k + 1))
          case measure => omega
          case rel => exact ⟨k + 1, A2, m2, by rw [HE.out], by go_num, by omega, rfl, by rw [HE.out]; exact HO2.out, HB2.out⟩
    · have hlt' : ¬ (k : Int) < (S.p.length : Int) := by omega
      have HI := Lib.hid (show IntsR wr (.slice A (opnP (S.p.take k)).length m) (opnS S) from by
        have e : opnP (S.p.take k) = opnS S := by rw [List.take_of_length_le (by omega)]; rfl
        rw [e] at ho ⊢
        exact IntsR.of_own ho)
      have HL := Lib.hid (show ∀ ad, A = some ad → w.heap.size ≤ ad.block from fun ad hA => by
        subst hA
        exact (ho.lt ad.block (by rcases ho.2 with ⟨q, -⟩ | ⟨g', cap, cur, q, -⟩
                                  · injection q with q; cases q
                                  · injection q with q; injection q with q; rw [q]; rfl)).1)
      have HB := Lib.hid hb
      clear ho hb
      go_wp2
      go_ret
      exact ⟨_, _, _, rfl, HI.out, HL.out, HB.out⟩
end Go.Proofs.YtkmkfolpjlkfoaaGreat
