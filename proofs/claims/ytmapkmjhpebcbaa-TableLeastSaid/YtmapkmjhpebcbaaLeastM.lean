/-
  Flags of what is used, as they lie in memory, beside a table. No condition.
-/
import Derived.Test.YtmapkmjhpebcbaaCountsW
namespace Go.Proofs.Ytmapkmjhpebcbaa
open Go Go.RowKit

/-- Flags: is there a node of each number? -/
def UsedR (w : World) (u : Nat) (T : List Nd) : Prop := ∃ cs, Blk w u 4 cs ∧ cs.size = 26 ∧ ∀ j : Nat, j < 26 → cs[j]? = some (.bool (tis T (j : Int)))
theorem UsedR.below {w w' : World} {u : Nat} {T : List Nd} (h : UsedR w u T) (hb : Below w.heap.size w w') : UsedR w' u T := by
  obtain ⟨cs, h1, h2⟩ := h
  exact ⟨cs, h1.below hb, h2⟩
theorem UsedR.kept {w w' : World} {u g : Nat} {T : List Nd} (h : UsedR w u T) (hg : w.grownBy w' (some g)) (hne : g ≠ u) : UsedR w' u T := by
  obtain ⟨cs, h1, h2⟩ := h
  exact ⟨cs, h1.kept hg (by intro e; injection e with e; exact hne e.symm), h2⟩
theorem UsedR.cell {w : World} {u : Nat} {T : List Nd} (h : UsedR w u T) {j : Nat} (hj : j < 26) : w.cell? ⟨u, j, none⟩ = some (.bool (tis T (j : Int))) := by
  obtain ⟨cs, h1, -, h3⟩ := h
  rw [h1.cell j]
  exact h3 j hj
theorem UsedR.frozen {w : World} {u : Nat} {T : List Nd} (h : UsedR w u T) (j : Nat) : w.frozen? ⟨u, j, none⟩ = false := by
  obtain ⟨cs, h1, -⟩ := h
  exact h1.frozen j
theorem UsedR.set {w : World} {u k : Nat} {T T' : List Nd} {b : Bool} (h : UsedR w u T) (hT : ∀ j : Nat, j < 26 → tis T' (j : Int) = if j = k then b else tis T (j : Int)) : UsedR (w.setCell ⟨u, k, none⟩ (.bool b)) u T' := by
  obtain ⟨cs, h1, h2, h3⟩ := h
  refine ⟨_, h1.set_ k (.bool b), by rw [Array.size_setIfInBounds]; exact h2, fun j hj => ?_⟩
  rw [hT j hj]
  by_cases q : j = k
  · subst q
    rw [if_pos rfl]
    exact set_self (by omega)
  · rw [if_neg q, Array.getElem?_setIfInBounds_ne (by omega)]
    exact h3 j hj
theorem TabR.flagged {w : World} {g u k : Nat} {T : List Nd} {P : Nat → Prop} {b : Bool} {T' : List Nd} (h : TabR w g T P) (hu : UsedR w u T') (hne : g ≠ u) : TabR (w.setCell ⟨u, k, none⟩ (.bool b)) g T P := by
  obtain ⟨cs, h1, -⟩ := hu
  exact h.kind (grown_setCell w ⟨u, k, none⟩ (.bool b)) hne h1 (by decide) (by decide)
/-- What TableLeast has made so far. -/
structure LS (w wr : World) (g u R : Nat) (T : List Nd) : Prop where
  tab : TabR wr g T (fun _ => True)
  used : UsedR wr u T
  ne : g ≠ u
  below : Below w.heap.size w wr
  hg : w.heap.size ≤ g
  hu : w.heap.size ≤ u
  len : T.length = R
theorem LS.later {w wr w' : World} {g u R : Nat} {T : List Nd} (h : LS w wr g u R T) (hb : Below wr.heap.size wr w') : LS w w' g u R T :=
  ⟨h.tab.below hb, h.used.below hb, h.ne, bt hb h.below, h.hg, h.hu, h.len⟩
/-- A node is added. -/
theorem LS.added {w wr w' : World} {g u R F : Nat} {T : List Nd} {n : Nd} (h : LS w wr g u R T) (hF : freeT T 0 = F) (h0 : F ≠ 0) (hn : rightP n) (ht : TabR w' g (setT T (F : Int) n) (fun _ => True)) (hg : wr.grownBy w' (some g)) :
    LS w (w'.setCell ⟨u, F, none⟩ (.bool true)) g u R (setT T (F : Int) n) ∧ usedT (setT T (F : Int) n) = usedT T + 1 := by
  subst hF
  have hfi := (free_is h0).1
  refine ⟨⟨ht.flagged (h.used.kept hg h.ne) h.ne, (h.used.kept hg h.ne).set (fun j _ => flag_add h0 hn j), h.ne, ?_, h.hg, h.hu, by rw [len_setT]; exact h.len⟩, used_add h0 hn⟩
  exact below_grown (below_grown h.below hg h.hg) (grown_setCell w' ⟨u, _, none⟩ (.bool true)) h.hu
/-- A node is dropped. -/
theorem LS.dropped {w wr w' : World} {g u R i : Nat} {T : List Nd} (h : LS w wr g u R T) (hi : tis T (i : Int) = true) (ht : TabR w' g (setT T (i : Int) Nd.zero) (fun _ => True)) (hg : wr.grownBy w' (some g)) :
    LS w (w'.setCell ⟨u, i, none⟩ (.bool false)) g u R (setT T (i : Int) Nd.zero) ∧ usedT (setT T (i : Int) Nd.zero) + 1 = usedT T := by
  refine ⟨⟨ht.flagged (h.used.kept hg h.ne) h.ne, (h.used.kept hg h.ne).set (fun j _ => ?_), h.ne, ?_, h.hg, h.hu, by rw [len_setT]; exact h.len⟩, used_drop hi⟩
  · have := flag_drop hi j
    unfold flagT at this
    rw [this]
    by_cases q : j = i
    · rw [if_pos (by rw [q]), if_pos q]
    · rw [if_neg (by omega), if_neg q]
  · exact below_grown (below_grown h.below hg h.hg) (grown_setCell w' ⟨u, _, none⟩ (.bool false)) h.hu
theorem LS.same {w wr w' : World} {g u R : Nat} {T : List Nd} (h : LS w wr g u R T) (ht : TabR w' g T (fun _ => True)) (hg : wr.grownBy w' (some g)) : LS w w' g u R T :=
  ⟨ht, h.used.kept hg h.ne, h.ne, below_grown h.below hg h.hg, h.hg, h.hu, h.len⟩
theorem run_min24 {n : Int} (h : n ≤ 24) (ts : Array TypeId) (t : TypeId) (w : World) : (Builtin.min_ ts t #[.int .i64 n, .int .i64 24]).run Try.prog w = .ok (.int .i64 n) w := by
  rw [run_min_int2]
  split
  · omega
  · rfl
theorem run_max1 {n : Int} (h : 1 ≤ n) (ts : Array TypeId) (t : TypeId) (w : World) : (Builtin.max_ ts t #[.int .i64 n, .int .i64 1]).run Try.prog w = .ok (.int .i64 n) w := by
  rw [run_max_int2]
  split
  · omega
  · rfl
theorem info_bool : (Try.prog.info? 4).map (fun i => (i.zero, i.size, i.bytes)) = some (some (.bool false), 1, 1) := by kernel_rfl
theorem make_bools (w : World) : (Instr.makeSlice 74 (.int .i64 26) (.int .i64 26)).run Try.prog w = .ok (.slice (some ⟨w.heap.size, 0, none⟩) 26 26) (w.alloc (.cells (Array.replicate 26 (.bool false)) 4)) := by
  obtain ⟨i, hi0, hz0, hz1, hz2⟩ := info_parts info_bool
  have h := run_make (P := Try.prog) w 74 4 i _ Try.underlying74 hi0 hz0 .i64 .i64 26 26 (by omega) (Int.le_refl _) (by rw [hz2]; omega) (by omega)
  have e : madeCells #[.bool false] 26 = Array.replicate 26 (.bool false) := by rw [← Array.toList_inj, toList_madeCells_one]; simp
  rw [hz1, show (Value.bool false).cells = #[.bool false] from rfl, show Int.toNat 26 * 1 = 26 from rfl, e] at h
  exact h
theorem UsedR.new (w : World) (l : Nat) : UsedR (w.alloc (.cells (Array.replicate 26 (.bool false)) 4)) w.heap.size (List.replicate l Nd.zero) :=
  ⟨_, Blk.new w 4 _, by simp, fun j hj => by rw [tis_new]; simp [hj]⟩
section
variable {w wr : World} {g u R : Nat} {T : List Nd}
theorem ls_wrong (h : LS w wr g u R T) (n : Nd) (vd ve : Value) (hd : BytesR wr vd n.data) (he : EntsR wr ve n.ents) (hf : Few n) (hn : ¬ rightP n) :
    Calls Try.prog 16 #[.pointer (some ⟨g, 0, none⟩), nodeV n vd ve] wr fun e w' => e = .returned (.tuple #[.int .i64 0, .int .i64 22]) ∧ LS w w' g u R T := by
  refine (add_wrong _ n vd ve wr hd he hf (toB_false hn)).mono ?_
  rintro e w' ⟨rfl, hb⟩
  exact ⟨rfl, h.later hb⟩
theorem ls_full (h : LS w wr g u R T) (n : Nd) (vd ve : Value) (hd : BytesR wr vd n.data) (he : EntsR wr ve n.ents) (hf : Few n) (hn : rightP n) (hF : freeT T 0 = 0) :
    Calls Try.prog 16 #[.pointer (some ⟨g, 0, none⟩), nodeV n vd ve] wr fun e w' => e = .returned (.tuple #[.int .i64 0, .int .i64 28]) ∧ LS w w' g u R T := by
  refine (add_right g T _ n vd ve wr h.tab hd he hf hn (fun _ _ => trivial)).mono ?_
  rintro e w' ⟨rfl, ht, hg⟩
  rw [if_pos hF] at ht
  exact ⟨by rw [hF]; rfl, h.same ht hg⟩
theorem ls_add (h : LS w wr g u R T) (n : Nd) (vd ve : Value) (hd : BytesR wr vd n.data) (he : EntsR wr ve n.ents) (hf : Few n) (hn : rightP n) (F : Nat) (hF : freeT T 0 = F) (h0 : F ≠ 0) :
    Calls Try.prog 16 #[.pointer (some ⟨g, 0, none⟩), nodeV n vd ve] wr fun e w' => e = .returned (.tuple #[.int .i64 (F : Int), .int .i64 0]) ∧ TabR w' g (setT T (F : Int) n) (fun _ => True) ∧ wr.grownBy w' (some g) := by
  subst hF
  refine (add_right g T _ n vd ve wr h.tab hd he hf hn (fun _ _ => trivial)).mono ?_
  rintro e w' ⟨rfl, ht, hg⟩
  rw [if_neg h0] at ht
  exact ⟨by rw [if_neg h0], ht, hg⟩
theorem ls_drop_no (h : LS w wr g u R T) (i : Int) (hi : tis T i = false) :
    Calls Try.prog 18 #[.pointer (some ⟨g, 0, none⟩), .int .i64 i] wr fun e w' => e = .returned (.bool false) ∧ LS w w' g u R T := by
  refine (drop_none _ T i wr h.tab.ptr hi).mono ?_
  rintro e w' ⟨rfl, hb⟩
  exact ⟨rfl, h.later hb⟩
theorem ls_drop_yes (h : LS w wr g u R T) (i : Int) (hi : tis T i = true) :
    Calls Try.prog 18 #[.pointer (some ⟨g, 0, none⟩), .int .i64 i] wr fun e w' => e = .returned (.bool true) ∧ TabR w' g (setT T i Nd.zero) (fun _ => True) ∧ wr.grownBy w' (some g) := by
  refine (drop_any g T _ i wr h.tab 2 (by decide) (by decide) Nd.zero true).mono ?_
  rintro e w' ⟨rfl, ht, hg⟩
  rw [actT, if_neg (by decide), if_neg (by decide), if_pos hi] at ht
  exact ⟨by rw [hi], ht, hg⟩
theorem ls_used (h : LS w wr g u R T) (U : Int) (hU : (usedT T : Int) = U) :
    Calls Try.prog 27 #[.pointer (some ⟨g, 0, none⟩)] wr fun e w' => e = .returned (.int .i64 U) ∧ LS w w' g u R T := by
  refine (used_any _ T wr h.tab.ptr).mono ?_
  rintro e w' ⟨rfl, hb⟩
  exact ⟨by rw [hU], h.later hb⟩
end
end Go.Proofs.Ytmapkmjhpebcbaa
