/-
  Rows of open files, and of umasks, that a statement makes for itself. The conditions are said at each.
-/
import Derived.Test.YtkmkfolpjlkfoaaGreatM13
namespace Go.Proofs.YtkmkfolpjlkfoaaGreat
open Go Go.RowKit
set_option maxRecDepth 100000

theorem info_fd : (Tryz.prog.info? 74).map (fun i => (i.zero, i.size, i.bytes)) = some (some (.agg #[.int .i64 0, .int .i64 0, .bool false, .bool false]), 4, 24) := by kernel_rfl
def fCells (l : List Fdm) : List Value := l.flatMap (fun f => [.int .i64 f.node, .int .i64 f.off, .bool f.rd, .bool f.wr])
theorem fCells_len : ∀ l : List Fdm, (fCells l).length = l.length * 4
  | [] => rfl
  | f :: l => by
    show ([Value.int .i64 f.node, .int .i64 f.off, .bool f.rd, .bool f.wr] ++ fCells l).length = _
    rw [List.length_append]
    show 4 + (fCells l).length = (l.length + 1) * 4
    rw [fCells_len l]
    omega
theorem fCells_snoc (l : List Fdm) (f : Fdm) : fCells l ++ [.int .i64 f.node, .int .i64 f.off, .bool f.rd, .bool f.wr] = fCells (l ++ [f]) := by unfold fCells; rw [List.flatMap_append]; rfl
theorem fd_one (f : Fdm) : ∀ u ∈ [Value.int .i64 f.node, .int .i64 f.off, .bool f.rd, .bool f.wr], u.oneCell' = true := fun u hu => by
  simp only [List.mem_cons, List.not_mem_nil, or_false] at hu
  rcases hu with rfl | rfl | rfl | rfl <;> rfl
theorem fCells_at : ∀ (l : List Fdm) (k : Nat) (f : Fdm), l[k]? = some f → (fCells l)[k * 4]? = some (.int .i64 f.node) ∧ (fCells l)[k * 4 + 1]? = some (.int .i64 f.off) ∧ (fCells l)[k * 4 + 2]? = some (.bool f.rd) ∧ (fCells l)[k * 4 + 3]? = some (.bool f.wr)
  | [], k, f, h => by simp at h
  | g :: l, 0, f, h => by
    simp only [List.getElem?_cons_zero, Option.some.injEq] at h
    subst h
    exact ⟨rfl, rfl, rfl, rfl⟩
  | g :: l, k + 1, f, h => by
    rw [List.getElem?_cons_succ] at h
    obtain ⟨h0, h1, h2, h3⟩ := fCells_at l k f h
    have e : ∀ j, (fCells (g :: l))[(k + 1) * 4 + j]? = (fCells l)[k * 4 + j]? := fun j => by
      show ([Value.int .i64 g.node, .int .i64 g.off, .bool g.rd, .bool g.wr] ++ fCells l)[(k + 1) * 4 + j]? = _
      rw [List.getElem?_append_right (by show 4 ≤ _; omega)]
      congr 1
      show (k + 1) * 4 + j - 4 = _
      omega
    exact ⟨by have := e 0; rw [Nat.add_zero, Nat.add_zero] at this; rw [this]; exact h0, by rw [e 1]; exact h1, by rw [e 2]; exact h2, by rw [e 3]; exact h3⟩
/-- A slice that reads as open files. -/
def FdsR (w : World) (v : Value) (l : List Fdm) : Prop := ∃ A c, v = .slice A l.length c ∧ ∀ (k : Nat) (f : Fdm), l[k]? = some f → ∃ ad : Addr, A = some ad ∧
  w.cell? (ad.add (k * 4)) = some (.int .i64 f.node) ∧ w.cell? ⟨(ad.add (k * 4)).block, (ad.add (k * 4)).off + 1, none⟩ = some (.int .i64 f.off) ∧ w.cell? ⟨(ad.add (k * 4)).block, (ad.add (k * 4)).off + 2, none⟩ = some (.bool f.rd) ∧ w.cell? ⟨(ad.add (k * 4)).block, (ad.add (k * 4)).off + 3, none⟩ = some (.bool f.wr)
theorem FdsR.of_own {w : World} {B : Nat} {v : Value} {l : List Fdm} (h : w.ownsRow B 74 4 v l.length (fCells l)) : FdsR w v l := by
  rcases h.2 with ⟨rfl, hn⟩ | ⟨g, cap, cur, rfl, _⟩
  · have : l = [] := List.eq_nil_of_length_eq_zero hn
    subst this
    exact ⟨none, 0, rfl, fun k f hk => by simp at hk⟩
  · refine ⟨some ⟨g, 0, none⟩, cap, rfl, fun k f hk => ⟨_, rfl, ?_⟩⟩
    have hc := fun j u hj => World.ownsRow.cells h (g := g) rfl j u hj
    obtain ⟨h0, h1, h2, h3⟩ := fCells_at l k f hk
    have e : ∀ j, (⟨g, 0, none⟩ : Addr).add j = ⟨g, j, none⟩ := fun j => by unfold Addr.add; by_cases hk : j = 0 <;> simp [hk]
    have c0 := hc _ _ h0
    have c1 := hc _ _ h1
    have c2 := hc _ _ h2
    have c3 := hc _ _ h3
    rw [e] at c0 c1 c2 c3
    rw [e]
    exact ⟨c0, c1, c2, c3⟩
theorem fds_get {w : World} {A : Option Addr} {n c : Nat} {l : List Fdm} (h : FdsR w (.slice A n c) l) {k : Nat} {f : Fdm} (hk : l[k]? = some f) : ∃ ad : Addr, A = some ad ∧
    w.cell? (ad.add (k * 4)) = some (.int .i64 f.node) ∧ w.cell? ⟨(ad.add (k * 4)).block, (ad.add (k * 4)).off + 1, none⟩ = some (.int .i64 f.off) ∧ w.cell? ⟨(ad.add (k * 4)).block, (ad.add (k * 4)).off + 2, none⟩ = some (.bool f.rd) ∧ w.cell? ⟨(ad.add (k * 4)).block, (ad.add (k * 4)).off + 3, none⟩ = some (.bool f.wr) := by
  obtain ⟨A', c', hv, hc⟩ := h
  injection hv with hA
  subst hA
  exact hc k f hk
theorem eq_fd (a0 a1 b0 b1 : Int) (a2 a3 b2 b3 : Bool) (w : World) : (Op.equalIn 10000 74 (.agg #[.int .i64 a0, .int .i64 a1, .bool a2, .bool a3]) (.agg #[.int .i64 b0, .int .i64 b1, .bool b2, .bool b3])).run Tryz.prog w = .ok (a0 == b0 && (a1 == b1 && (a2 == b2 && a3 == b3))) w := by
  have hS : Tryz.prog.underlying 74 = some (.struct (Tryz.prog.fieldsOf 74)) := by kernel_rfl
  rw [show (10000 : Nat) = 9999 + 1 from rfl, run_equalIn_agg w 9999 74 _ _ hS (by kernel_rfl)]
  have u5 := Tryz.underlying3
  have u6 := Tryz.underlying4
  simp only [Program.fieldsOf, Tryz.underlying74]
  go_simp
  by_cases h0 : a0 = b0 <;> by_cases h1 : a1 = b1 <;> cases a2 <;> cases b2 <;> cases a3 <;> cases b3 <;> simp [h0, h1]
/-- The umasks, and the open files, of the first processes. -/
def masksS (S : Sym) (p : Nat) : List Int := (List.range p).map (fun (q : Nat) => umS S (q : Int))
def fdsS (S : Sym) (p : Nat) : List Fdm := (List.range p).flatMap (fun (q : Nat) => [fdS S (q : Int) 0, fdS S (q : Int) 1, fdS S (q : Int) 2])
theorem masks_len (S : Sym) (p : Nat) : (masksS S p).length = p := by simp [masksS]
theorem masks_snoc (S : Sym) (p : Nat) : masksS S p ++ [umS S (p : Int)] = masksS S (p + 1) := by simp [masksS, List.range_succ]
theorem masks_at (S : Sym) {p q : Nat} (h : q < p) : (masksS S p)[q]? = some (umS S (q : Int)) := by simp [masksS, h]
theorem fdsS_len (S : Sym) : ∀ p, (fdsS S p).length = 3 * p
  | 0 => rfl
  | p + 1 => by
    have := fdsS_len S p
    unfold fdsS at this ⊢
    rw [List.range_succ, List.flatMap_append, List.length_append, this]
    show _ + 3 = _
    omega
/-- .. and some of the next one. -/
def fdsJ (S : Sym) (p j : Nat) : List Fdm := fdsS S p ++ (List.range j).map (fun (i : Nat) => fdS S (p : Int) (i : Int))
theorem fdsJ_len (S : Sym) (p j : Nat) : (fdsJ S p j).length = 3 * p + j := by simp [fdsJ, fdsS_len]
theorem fdsJ_snoc (S : Sym) (p j : Nat) : fdsJ S p j ++ [fdS S (p : Int) (j : Int)] = fdsJ S p (j + 1) := by simp [fdsJ, List.range_succ]
theorem fdsJ_zero (S : Sym) (p : Nat) : fdsJ S p 0 = fdsS S p := by simp [fdsJ]
theorem fdsJ_three (S : Sym) (p : Nat) : fdsJ S p 3 = fdsS S (p + 1) := by
  show fdsS S p ++ [fdS S (p : Int) 0, fdS S (p : Int) 1, fdS S (p : Int) 2] = _
  unfold fdsS
  rw [List.range_succ, List.flatMap_append]
  rfl
theorem fdsS_at (S : Sym) : ∀ {n p k : Nat}, p < n → k < 3 → (fdsS S n)[3 * p + k]? = some (fdS S (p : Int) (k : Int))
  | 0, p, k, h, _ => by omega
  | n + 1, p, k, h, hk => by
    have e : fdsS S (n + 1) = fdsS S n ++ [fdS S (n : Int) 0, fdS S (n : Int) 1, fdS S (n : Int) 2] := by
      unfold fdsS
      rw [List.range_succ, List.flatMap_append]
      rfl
    rw [e]
    by_cases q : p < n
    · rw [List.getElem?_append_left (by rw [fdsS_len]; omega)]
      exact fdsS_at S q hk
    · have : p = n := by omega
      subst this
      rw [List.getElem?_append_right (by rw [fdsS_len]; omega), fdsS_len, show 3 * p + k - 3 * p = k by omega]
      match k, hk with
      | 0, _ => rfl
      | 1, _ => rfl
      | 2, _ => rfl
/-- What isn't the caller's is as it was. -/
theorem apart_um (S : Sym) {pid : Int} {c : Cal} {q : Int} (hq : q ≠ pid) : umS (doS S pid c).1 q = umS S q := by
  unfold umS
  rw [do_apart S hq]
theorem apart_fd (S : Sym) {pid : Int} {c : Cal} {q : Int} (i : Int) (hq : q ≠ pid) : fdS (doS S pid c).1 q i = fdS S q i := by
  unfold fdS
  rw [do_apart S hq]
theorem Fix.own {l : List Nat} {w w' : World} (h : Fix l w w') {B : Nat} {e : TypeId} {size n : Nat} {v : Value} {xs : List Value} (ho : w.ownsRow B e size v n xs) (hl : ∀ b ∈ l, b < B) : w'.ownsRow B e size v n xs :=
  Fix.carry (X := fun w => w.ownsRow B e size v n xs) (fun _ _ hx hb => own_below hx hb) h (fun g hg _ _ hx hgr => hx.kept hgr (.inr (fun q => by have h1 := (hx.lt g q).1; have h2 := hl g hg; omega))) ho
end Go.Proofs.YtkmkfolpjlkfoaaGreat
