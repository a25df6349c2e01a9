/-
  The reference's table. The conditions are said at each.
-/
import Derived.Test.YtfopnfgfoicidaaGreatBT
import Derived.Test.YtfopnfgfoicidaaGreatBC
namespace Go.Proofs.YtfopnfgfoicidaaGreat
open Go Go.RowKit
set_option maxRecDepth 100000

attribute [local go_sem] cell_off4 cell_blk4
theorem ok_play : ∀ (l : List Ac) {t : List Nd}, okT t → okT (playT t l)
  | [], _, h => h
  | _ :: l, _, h => ok_play l (ok_act h (fun hr => toB_iff.1 hr))
/-- All entries of the first nodes have nodes. -/
def whlT (T : List Nd) (k : Nat) : Prop := ∀ n ∈ T.take k, ∀ e ∈ n.ents, tis T e.2 = true
def whlE (T : List Nd) (l : List En) (j : Nat) : Prop := ∀ e ∈ l.take j, tis T e.2 = true
theorem toB_and (p q : Prop) : toB (p ∧ q) = (toB p && toB q) := by
  by_cases hp : p
  · by_cases hq : q
    · rw [toB_true hp, toB_true hq, toB_true ⟨hp, hq⟩]; rfl
    · rw [toB_false hq, toB_false (fun h => hq h.2), Bool.and_false]
  · rw [toB_false hp, toB_false (fun h => hp h.1), Bool.false_and]
theorem toB_congr {p q : Prop} (h : p ↔ q) : toB p = toB q := by
  by_cases hp : p
  · rw [toB_true hp, toB_true (h.1 hp)]
  · rw [toB_false hp, toB_false (fun hq => hp (h.2 hq))]
theorem whlE_snoc {T : List Nd} {l : List En} {j : Nat} {e : En} (h : l[j]? = some e) (A : Prop) : toB (A ∧ whlE T l (j + 1)) = (toB (A ∧ whlE T l j) && tis T e.2) := by
  have h2 : whlE T l (j + 1) ↔ (whlE T l j ∧ tis T e.2 = true) := by
    unfold whlE
    rw [take_snoc' h]
    constructor
    · intro hx
      exact ⟨fun x hm => hx x (List.mem_append.2 (.inl hm)), hx e (by simp)⟩
    · rintro ⟨h1, h2⟩ x hm
      rcases List.mem_append.1 hm with hm | hm
      · exact h1 x hm
      · rw [List.mem_singleton] at hm
        rw [hm]
        exact h2
  rw [toB_and, toB_congr h2, toB_and, toB_and, ← Bool.and_assoc]
  congr 1
  cases tis T e.2 with
  | true => exact toB_true rfl
  | false => exact toB_false Bool.false_ne_true
theorem whlE_zero (T : List Nd) (l : List En) (A : Prop) : toB (A ∧ whlE T l 0) = toB A := toB_congr ⟨fun h => h.1, fun h => ⟨h, fun e he => by simp at he⟩⟩
theorem whlT_snoc {T : List Nd} {k : Nat} {n : Nd} (h : T[k]? = some n) : toB (whlT T k ∧ whlE T n.ents n.ents.length) = toB (whlT T (k + 1)) := by
  refine toB_congr ?_
  unfold whlT whlE
  rw [take_snoc' h, List.take_length]
  constructor
  · rintro ⟨h1, h2⟩ m hm
    rcases List.mem_append.1 hm with hm | hm
    · exact h1 m hm
    · rw [List.mem_singleton] at hm
      rw [hm]
      exact h2
  · intro h1
    exact ⟨fun m hm => h1 m (List.mem_append.2 (.inl hm)), h1 n (by simp)⟩
theorem ent_snoc {T : List Nd} {k : Nat} {n : Nd} (h : T[k]? = some n) : entT (T.take (k + 1)) = entT (T.take k) + n.ents.length := by
  unfold entT
  rw [take_snoc' h, List.map_append, List.sum_append, List.map_cons, List.map_nil, List.sum_cons, List.sum_nil, Nat.add_zero]
theorem ent_bd {t : List Nd} (h : okT t) : ∀ (k : Nat), entT (t.take k) ≤ 8 * k
  | 0 => by simp [entT]
  | k + 1 => by
    have ih := ent_bd h k
    by_cases hlt : k < t.length
    · have hk := List.getElem?_eq_getElem hlt
      rw [ent_snoc hk]
      have h1 := ok_ents_le h (List.getElem_mem hlt)
      omega
    · rw [List.take_of_length_le (by omega)] at ih ⊢
      omega
theorem link_bd2 {t : List Nd} (h : okT t) (hl : t.length ≤ 24) (i : Int) : linkT t i ≤ 192 := by
  have := link_bd h i t.length
  rw [List.take_length] at this
  omega
end Go.Proofs.YtfopnfgfoicidaaGreat
namespace Go.Proofs.YtfopnfgfoicidaaGreat
open Go Go.RowKit
set_option maxRecDepth 100000

/-- Flags: is there a node of each number? -/
def UsedR (w : World) (u : Nat) (T : List Nd) : Prop := ∃ cs, Blk w u 4 cs ∧ cs.size = 26 ∧ ∀ j : Nat, j < 26 → cs[j]? = some (.bool (tis T (j : Int)))
theorem UsedR.below {w w' : World} {u : Nat} {T : List Nd} (h : UsedR w u T) (hb : Below w.heap.size w w') : UsedR w' u T := by
  obtain ⟨cs, h1, h2⟩ := h
  exact ⟨cs, h1.below hb, h2⟩
theorem UsedR.kept {w w' : World} {u g : Nat} {T : List Nd} (h : UsedR w u T) (hg : w.grownBy w' (some g)) (hne : g ≠ u) : UsedR w' u T := by
  obtain ⟨cs, h1, h2⟩ := h
  exact ⟨cs, h1.kept hg (by intro e; injection e with e; exact hne e.symm), h2⟩
theorem UsedR.cell {w : World} {u : Nat} {T : List Nd} (h : UsedR w u T) {j : Nat} (hj : j < 26) : w.cell? ⟨u, j, none⟩ = some (.bool (tis T (j : Int))) := by
  obtain ⟨cs, h1, -, h3⟩ := h
  rw [h1.cell j]
  exact h3 j hj
theorem UsedR.frozen {w : World} {u : Nat} {T : List Nd} (h : UsedR w u T) (j : Nat) : w.frozen? ⟨u, j, none⟩ = false := by
  obtain ⟨cs, h1, -⟩ := h
  exact h1.frozen j
theorem UsedR.set {w : World} {u k : Nat} {T T' : List Nd} {b : Bool} (h : UsedR w u T) (hT : ∀ j : Nat, j < 26 → tis T' (j : Int) = if j = k then b else tis T (j : Int)) : UsedR (w.setCell ⟨u, k, none⟩ (.bool b)) u T' := by
  obtain ⟨cs, h1, h2, h3⟩ := h
  refine ⟨_, h1.set_ k (.bool b), by rw [Array.size_setIfInBounds]; exact h2, fun j hj => ?_⟩
  rw [hT j hj]
  by_cases q : j = k
  · subst q
    rw [if_pos rfl]
    exact set_self (by omega)
  · rw [if_neg q, Array.getElem?_setIfInBounds_ne (by omega)]
    exact h3 j hj
theorem TabR.flagged {w : World} {g u k : Nat} {T : List Nd} {P : Nat → Prop} {b : Bool} {T' : List Nd} (h : TabR w g T P) (hu : UsedR w u T') (hne : g ≠ u) : TabR (w.setCell ⟨u, k, none⟩ (.bool b)) g T P := by
  obtain ⟨cs, h1, -⟩ := hu
  exact h.kind (grown_setCell w ⟨u, k, none⟩ (.bool b)) hne h1 (by decide) (by decide)
/-- What TableLeast has made so far. -/
structure LS (w wr : World) (g u R : Nat) (T : List Nd) : Prop where
  tab : TabR wr g T (fun _ => True)
  used : UsedR wr u T
  ne : g ≠ u
  below : Below w.heap.size w wr
  hg : w.heap.size ≤ g
  hu : w.heap.size ≤ u
  len : T.length = R
theorem LS.later {w wr w' : World} {g u R : Nat} {T : List Nd} (h : LS w wr g u R T) (hb : Below wr.heap.size wr w') : LS w w' g u R T :=
  ⟨h.tab.below hb, h.used.below hb, h.ne, bt hb h.below, h.hg, h.hu, h.len⟩
/-- A node is added. -/
theorem LS.added {w wr w' : World} {g u R F : Nat} {T : List Nd} {n : Nd} (h : LS w wr g u R T) (hF : freeT T 0 = F) (h0 : F ≠ 0) (hn : rightP n) (ht : TabR w' g (setT T (F : Int) n) (fun _ => True)) (hg : wr.grownBy w' (some g)) :
    LS w (w'.setCell ⟨u, F, none⟩ (.bool true)) g u R (setT T (F : Int) n) ∧ usedT (setT T (F : Int) n) = usedT T + 1 := by
  subst hF
  have hfi := (free_is h0).1
  refine ⟨⟨ht.flagged (h.used.kept hg h.ne) h.ne, (h.used.kept hg h.ne).set (fun j _ => flag_add h0 hn j), h.ne, ?_, h.hg, h.hu, by rw [len_setT]; exact h.len⟩, used_add h0 hn⟩
  exact below_grown (below_grown h.below hg h.hg) (grown_setCell w' ⟨u, _, none⟩ (.bool true)) h.hu
/-- A node is dropped. -/
theorem LS.dropped {w wr w' : World} {g u R i : Nat} {T : List Nd} (h : LS w wr g u R T) (hi : tis T (i : Int) = true) (ht : TabR w' g (setT T (i : Int) Nd.zero) (fun _ => True)) (hg : wr.grownBy w' (some g)) :
    LS w (w'.setCell ⟨u, i, none⟩ (.bool false)) g u R (setT T (i : Int) Nd.zero) ∧ usedT (setT T (i : Int) Nd.zero) + 1 = usedT T := by
  refine ⟨⟨ht.flagged (h.used.kept hg h.ne) h.ne, (h.used.kept hg h.ne).set (fun j _ => ?_), h.ne, ?_, h.hg, h.hu, by rw [len_setT]; exact h.len⟩, used_drop hi⟩
  · have := flag_drop hi j
    unfold flagT at this
    rw [this]
    by_cases q : j = i
    · rw [if_pos (by rw [q]), if_pos q]
    · rw [if_neg (by omega), if_neg q]
  · exact below_grown (below_grown h.below hg h.hg) (grown_setCell w' ⟨u, _, none⟩ (.bool false)) h.hu
theorem LS.same {w wr w' : World} {g u R : Nat} {T : List Nd} (h : LS w wr g u R T) (ht : TabR w' g T (fun _ => True)) (hg : wr.grownBy w' (some g)) : LS w w' g u R T :=
  ⟨ht, h.used.kept hg h.ne, h.ne, below_grown h.below hg h.hg, h.hg, h.hu, h.len⟩
theorem run_min24 {n : Int} (h : n ≤ 24) (ts : Array TypeId) (t : TypeId) (w : World) : (Builtin.min_ ts t #[.int .i64 n, .int .i64 24]).run Tryz.prog w = .ok (.int .i64 n) w := by
  rw [run_min_int2]
  split
  · omega
  · rfl
theorem run_max1 {n : Int} (h : 1 ≤ n) (ts : Array TypeId) (t : TypeId) (w : World) : (Builtin.max_ ts t #[.int .i64 n, .int .i64 1]).run Tryz.prog w = .ok (.int .i64 n) w := by
  rw [run_max_int2]
  split
  · omega
  · rfl
theorem info_bool : (Tryz.prog.info? 4).map (fun i => (i.zero, i.size, i.bytes)) = some (some (.bool false), 1, 1) := by kernel_rfl
theorem make_bools (w : World) : (Instr.makeSlice 171 (.int .i64 26) (.int .i64 26)).run Tryz.prog w = .ok (.slice (some ⟨w.heap.size, 0, none⟩) 26 26) (w.alloc (.cells (Array.replicate 26 (.bool false)) 4)) := by
  obtain ⟨i, hi0, hz0, hz1, hz2⟩ := info_parts info_bool
  have h := run_make (P := Tryz.prog) w 171 4 i _ Tryz.underlying171 hi0 hz0 .i64 .i64 26 26 (by omega) (Int.le_refl _) (by rw [hz2]; omega) (by omega)
  have e : madeCells #[.bool false] 26 = Array.replicate 26 (.bool false) := by rw [← Array.toList_inj, toList_madeCells_one]; simp
  rw [hz1, show (Value.bool false).cells = #[.bool false] from rfl, show Int.toNat 26 * 1 = 26 from rfl, e] at h
  exact h
theorem UsedR.new (w : World) (l : Nat) : UsedR (w.alloc (.cells (Array.replicate 26 (.bool false)) 4)) w.heap.size (List.replicate l Nd.zero) :=
  ⟨_, Blk.new w 4 _, by simp, fun j hj => by rw [tis_new]; simp [hj]⟩
section
variable {w wr : World} {g u R : Nat} {T : List Nd}
theorem ls_wrong (h : LS w wr g u R T) (n : Nd) (vd ve : Value) (hd : BytesR wr vd n.data) (he : EntsR wr ve n.ents) (hf : Few n) (hn : ¬ rightP n) :
    Calls Tryz.prog 76 #[.pointer (some ⟨g, 0, none⟩), nodeV n vd ve] wr fun e w' => e = .returned (.tuple #[.int .i64 0, .int .i64 22]) ∧ LS w w' g u R T := by
  refine (add_wrong _ n vd ve wr hd he hf (toB_false hn)).mono ?_
  rintro e w' ⟨rfl, hb⟩
  exact ⟨rfl, h.later hb⟩
theorem ls_full (h : LS w wr g u R T) (n : Nd) (vd ve : Value) (hd : BytesR wr vd n.data) (he : EntsR wr ve n.ents) (hf : Few n) (hn : rightP n) (hF : freeT T 0 = 0) :
    Calls Tryz.prog 76 #[.pointer (some ⟨g, 0, none⟩), nodeV n vd ve] wr fun e w' => e = .returned (.tuple #[.int .i64 0, .int .i64 28]) ∧ LS w w' g u R T := by
  refine (add_right g T _ n vd ve wr h.tab hd he hf hn (fun _ _ => trivial)).mono ?_
  rintro e w' ⟨rfl, ht, hg⟩
  rw [if_pos hF] at ht
  exact ⟨by rw [hF]; rfl, h.same ht hg⟩
theorem ls_add (h : LS w wr g u R T) (n : Nd) (vd ve : Value) (hd : BytesR wr vd n.data) (he : EntsR wr ve n.ents) (hf : Few n) (hn : rightP n) (F : Nat) (hF : freeT T 0 = F) (h0 : F ≠ 0) :
    Calls Tryz.prog 76 #[.pointer (some ⟨g, 0, none⟩), nodeV n vd ve] wr fun e w' => e = .returned (.tuple #[.int .i64 (F : Int), .int .i64 0]) ∧ TabR w' g (setT T (F : Int) n) (fun _ => True) ∧ wr.grownBy w' (some g) := by
  subst hF
  refine (add_right g T _ n vd ve wr h.tab hd he hf hn (fun _ _ => trivial)).mono ?_
  rintro e w' ⟨rfl, ht, hg⟩
  rw [if_neg h0] at ht
  exact ⟨by rw [if_neg h0], ht, hg⟩
theorem ls_used (h : LS w wr g u R T) (U : Int) (hU : (usedT T : Int) = U) :
    Calls Tryz.prog 100 #[.pointer (some ⟨g, 0, none⟩)] wr fun e w' => e = .returned (.int .i64 U) ∧ LS w w' g u R T := by
  refine (used_any _ T wr h.tab.ptr).mono ?_
  rintro e w' ⟨rfl, hb⟩
  exact ⟨by rw [hU], h.later hb⟩
end
end Go.Proofs.YtfopnfgfoicidaaGreat
namespace Go.Proofs.YtfopnfgfoicidaaGreat
open Go Go.RowKit
set_option maxRecDepth 100000

/-- The reference's node in cells side by side. -/
structure At8 (w : World) (g o : Nat) (n : Nd) (vn vk : Value) : Prop where
  c0 : w.cell? ⟨g, o, none⟩ = some (.int .i64 n.kind)
  c1 : w.cell? ⟨g, o + 1, none⟩ = some (.int .i64 n.mode)
  c2 : w.cell? ⟨g, o + 2, none⟩ = some (.int .i64 n.uid)
  c3 : w.cell? ⟨g, o + 3, none⟩ = some (.int .i64 n.gid)
  c4 : w.cell? ⟨g, o + 4, none⟩ = some (.string (bA n.data))
  c5 : w.cell? ⟨g, o + 5, none⟩ = some vn
  c6 : w.cell? ⟨g, o + 6, none⟩ = some vk
  c7 : w.cell? ⟨g, o + 7, none⟩ = some (.string (bA n.target))
theorem At8.cells {w w' : World} {g g' o : Nat} {n : Nd} {vn vk : Value} (h : At8 w g o n vn vk) (hc : ∀ j u, j < 8 → w.cell? ⟨g, o + j, none⟩ = some u → w'.cell? ⟨g', o + j, none⟩ = some u) : At8 w' g' o n vn vk :=
  ⟨hc 0 _ (by decide) h.c0, hc 1 _ (by decide) h.c1, hc 2 _ (by decide) h.c2, hc 3 _ (by decide) h.c3, hc 4 _ (by decide) h.c4, hc 5 _ (by decide) h.c5, hc 6 _ (by decide) h.c6, hc 7 _ (by decide) h.c7⟩
theorem strs_one {w : World} {v : Value} {l : List ByteArray} (h : StrsR w v l) : v.oneCell' = true := by
  obtain ⟨A, c, rfl, -⟩ := h
  rfl
theorem ints_oneC {w : World} {v : Value} {l : List Int} (h : IntsR w v l) : v.oneCell' = true := by
  obtain ⟨A, c, rfl, -⟩ := h
  rfl
theorem At8.each {w : World} {g o : Nat} {n : Nd} {vn vk : Value} (h : At8 w g o n vn vk) (h1 : vn.oneCell' = true) (h2 : vk.oneCell' = true) : ∀ j, j < 8 → ∃ u, w.cell? ⟨g, o + j, none⟩ = some u ∧ u.oneCell' = true
  | 0, _ => ⟨_, h.c0, rfl⟩
  | 1, _ => ⟨_, h.c1, rfl⟩
  | 2, _ => ⟨_, h.c2, rfl⟩
  | 3, _ => ⟨_, h.c3, rfl⟩
  | 4, _ => ⟨_, h.c4, rfl⟩
  | 5, _ => ⟨_, h.c5, h1⟩
  | 6, _ => ⟨_, h.c6, h2⟩
  | 7, _ => ⟨_, h.c7, rfl⟩
  | j + 8, h => absurd h (by omega)
/-- A slice that reads as the reference's nodes, in blocks that are there, and of which something holds. -/
def NsR (P : Nat → Prop) (w : World) (v : Value) (t : List Nd) : Prop := ∃ g c, v = .slice (some ⟨g, 0, none⟩) t.length c ∧ (P g ∧ g < w.heap.size) ∧ ∀ (k : Nat) (n : Nd), t[k]? = some n → ∃ vn vk, At8 w g (k * 8) n vn vk ∧ (StrsR w vn (nmA (nmE n.ents)) ∧ IntsR w vk (idE n.ents)) ∧ LP (fun b => P b ∧ b < w.heap.size) vn ∧ LP (fun b => P b ∧ b < w.heap.size) vk
section
variable {P : Nat → Prop} {w w' : World} {v : Value} {t : List Nd}
theorem NsR.below (h : NsR P w v t) (hb : Below w.heap.size w w') : NsR P w' v t := by
  obtain ⟨g, c, hv, hp, hn⟩ := h
  refine ⟨g, c, hv, ⟨hp.1, Nat.lt_of_lt_of_le hp.2 hb.size⟩, fun k n hk => ?_⟩
  obtain ⟨vn, vk, h1, ⟨h2, h3⟩, h4, h5⟩ := hn k n hk
  exact ⟨vn, vk, h1.cells (fun j u _ hu => bc hb hu), ⟨h2.below hb, h3.below hb⟩, h4.mono (fun b q => ⟨q.1, Nat.lt_of_lt_of_le q.2 hb.size⟩), h5.mono (fun b q => ⟨q.1, Nat.lt_of_lt_of_le q.2 hb.size⟩)⟩
theorem NsR.mono {Q : Nat → Prop} (h : NsR P w v t) (hq : ∀ b, P b → b < w.heap.size → Q b) : NsR Q w v t := by
  obtain ⟨g, c, hv, hp, hn⟩ := h
  refine ⟨g, c, hv, ⟨hq _ hp.1 hp.2, hp.2⟩, fun k n hk => ?_⟩
  obtain ⟨vn, vk, h1, h2, h4, h5⟩ := hn k n hk
  exact ⟨vn, vk, h1, h2, h4.mono (fun b q => ⟨hq _ q.1 q.2, q.2⟩), h5.mono (fun b q => ⟨hq _ q.1 q.2, q.2⟩)⟩
theorem StrsR.other {m : Nat} {l : List ByteArray} (h : StrsR w v l) (hg : w.grownBy w' (some m)) (hne : ∀ (ad : Addr) (n c : Nat), v = .slice (some ad) n c → ad.block ≠ m) : StrsR w' v l := by
  obtain ⟨A, c, rfl, hle, hc⟩ := h
  refine ⟨A, c, rfl, hle, fun k e hk => ?_⟩
  obtain ⟨ad, rfl, h0⟩ := hc k e hk
  have e1 : (ad.add k).block = ad.block := by unfold Addr.add; split <;> rfl
  refine ⟨ad, rfl, ?_⟩
  rw [← h0]
  exact World.cell?_of_block (hg.block _ (World.block_lt_of_cell? _ _ h0) (by rw [e1]; intro q; injection q with q; exact hne ad _ _ rfl q))
theorem IntsR.other {m : Nat} {l : List Int} (h : IntsR w v l) (hg : w.grownBy w' (some m)) (hne : ∀ (ad : Addr) (n c : Nat), v = .slice (some ad) n c → ad.block ≠ m) : IntsR w' v l := by
  obtain ⟨A, c, rfl, hc⟩ := h
  refine ⟨A, c, rfl, fun k e hk => ?_⟩
  obtain ⟨ad, rfl, h0⟩ := hc k e hk
  have e1 : (ad.add k).block = ad.block := by unfold Addr.add; split <;> rfl
  refine ⟨ad, rfl, ?_⟩
  rw [← h0]
  exact World.cell?_of_block (hg.block _ (World.block_lt_of_cell? _ _ h0) (by rw [e1]; intro q; injection q with q; exact hne ad _ _ rfl q))
/-- A block is changed where nothing of it lies. -/
theorem NsR.other {m : Nat} (h : NsR P w v t) (hg : w.grownBy w' (some m)) (hm : ∀ b, P b → b ≠ m) : NsR P w' v t := by
  obtain ⟨g, c, hv, hp, hn⟩ := h
  refine ⟨g, c, hv, ⟨hp.1, Nat.lt_of_lt_of_le hp.2 hg.size⟩, fun k n hk => ?_⟩
  obtain ⟨vn, vk, h1, ⟨h2, h3⟩, h4, h5⟩ := hn k n hk
  refine ⟨vn, vk, h1.cells (fun j u _ hu => ?_), ⟨h2.other hg (fun ad n c hv => hm _ (h4 ad n c hv).1), h3.other hg (fun ad n c hv => hm _ (h5 ad n c hv).1)⟩, h4.mono (fun b q => ⟨q.1, Nat.lt_of_lt_of_le q.2 hg.size⟩), h5.mono (fun b q => ⟨q.1, Nat.lt_of_lt_of_le q.2 hg.size⟩)⟩
  rw [← hu]
  exact World.cell?_of_block (hg.block _ (World.block_lt_of_cell? _ _ hu) (by intro q; injection q with q; exact hm _ hp.1 q))
theorem ns_form (h : NsR P w v t) : ∃ g c, v = .slice (some ⟨g, 0, none⟩) t.length c := by
  obtain ⟨g, c, hv, -⟩ := h
  exact ⟨g, c, hv⟩
theorem ns_full {g n c : Nat} (h : NsR P w (.slice (some ⟨g, 0, none⟩) n c) t) {k : Nat} {m : Nd} (hk : t[k]? = some m) : ∃ vn vk, At8 w g (k * 8) m vn vk ∧ (StrsR w vn (nmA (nmE m.ents)) ∧ IntsR w vk (idE m.ents)) ∧ LP (fun b => P b ∧ b < w.heap.size) vn ∧ LP (fun b => P b ∧ b < w.heap.size) vk := by
  obtain ⟨g', c', hv, _, hn⟩ := h
  injection hv with hA
  injection hA with hA
  injection hA with hA
  subst hA
  exact hn k m hk
theorem ns_get {g n c : Nat} (h : NsR P w (.slice (some ⟨g, 0, none⟩) n c) t) {k : Nat} {m : Nd} (hk : t[k]? = some m) : ∃ vn vk, At8 w g (k * 8) m vn vk ∧ StrsR w vn (nmA (nmE m.ents)) ∧ IntsR w vk (idE m.ents) := by
  obtain ⟨vn, vk, h1, ⟨h2, h3⟩, -⟩ := ns_full h hk
  exact ⟨vn, vk, h1, h2, h3⟩
end
/-- All cells of the row, as a list. -/
theorem ns_src {P : Nat → Prop} {w : World} {g n c : Nat} {t : List Nd} (h : NsR P w (.slice (some ⟨g, 0, none⟩) n c) t) : ∃ xs : List Value, xs.length = t.length * 8 ∧ (∀ j u, xs[j]? = some u → w.cell? ⟨g, j, none⟩ = some u) ∧ (∀ j, j < t.length * 8 → xs[j]? = w.cell? ⟨g, j, none⟩) ∧ ∀ u ∈ xs, u.oneCell' = true := by
  have key : ∀ j, j < t.length * 8 → ∃ u, w.cell? ⟨g, j, none⟩ = some u ∧ u.oneCell' = true := by
    intro j hj
    obtain ⟨m, hm⟩ : ∃ m, t[j / 8]? = some m := ⟨_, List.getElem?_eq_getElem (show j / 8 < t.length by omega)⟩
    obtain ⟨vn, vk, h1, h2, h3⟩ := ns_get h hm
    have := h1.each (strs_one h2) (ints_oneC h3) (j % 8) (by omega)
    rw [show j / 8 * 8 + j % 8 = j by omega] at this
    exact this
  refine ⟨List.ofFn fun i : Fin (t.length * 8) => Classical.choose (key i.val i.isLt), by rw [List.length_ofFn], fun j u hj => ?_, fun j hj => ?_, fun u hu => ?_⟩
  · rw [List.getElem?_ofFn] at hj
    split at hj
    · rename_i hlt
      injection hj with hj
      rw [← hj]
      exact (Classical.choose_spec (key j hlt)).1
    · cases hj
  · rw [List.getElem?_ofFn, dif_pos hj]
    exact (Classical.choose_spec (key j hj)).1.symm
  · rw [List.mem_ofFn] at hu
    obtain ⟨i, rfl⟩ := hu
    exact (Classical.choose_spec (key i.val i.isLt)).2
theorem info_n : (Tryz.prog.info? 82).map (fun i => (i.zero, i.size, i.bytes)) = some (some (.agg rfZ), 8, 112) := by kernel_rfl
theorem made_at (l k j : Nat) (hk : k < l) (hj : j < 8) : (madeCells rfZ (l * 8))[k * 8 + j]? = rfZ[j]? := by
  unfold madeCells
  have e : rfZ.size = 8 := rfl
  rw [Array.getElem?_map, Array.getElem?_range, if_pos (by omega), Option.map_some, e, show (k * 8 + j) % 8 = j by omega, Array.getElem?_eq_getElem (by rw [e]; exact hj), getElem!_pos rfZ j (by rw [e]; exact hj)]
theorem ns_new (P : Nat → Prop) (w : World) (l c : Nat) (hP : P w.heap.size) : NsR P (w.alloc (.cells (madeCells rfZ (l * 8)) 82)) (.slice (some ⟨w.heap.size, 0, none⟩) l c) (List.replicate l Nd.zero) := by
  have hb := Blk.new w 82 (madeCells rfZ (l * 8))
  refine ⟨w.heap.size, c, by rw [List.length_replicate], ⟨hP, hb.lt⟩, fun k n hk => ?_⟩
  obtain ⟨hlt, he⟩ := List.getElem?_eq_some_iff.1 hk
  rw [List.length_replicate] at hlt
  rw [List.getElem_replicate] at he
  subst he
  have key : ∀ j, j < 8 → (w.alloc (.cells (madeCells rfZ (l * 8)) 82)).cell? ⟨w.heap.size, k * 8 + j, none⟩ = rfZ[j]? := fun j hj => by rw [hb.cell, made_at l k j hlt hj]
  exact ⟨.slice none 0 0, .slice none 0 0, ⟨key 0 (by decide), key 1 (by decide), key 2 (by decide), key 3 (by decide), key 4 (by decide), key 5 (by decide), key 6 (by decide), key 7 (by decide)⟩, ⟨StrsR.nil _, IntsR.nil _⟩, LP.nil _, LP.nil _⟩
theorem make_ns (l : Nat) (hl : l ≤ 24) (w : World) : (Instr.makeSlice 30 (.int .i64 (l : Int)) (.int .i64 (l : Int))).run Tryz.prog w = .ok (.slice (some ⟨w.heap.size, 0, none⟩) l l) (w.alloc (.cells (madeCells rfZ (l * 8)) 82)) := by
  obtain ⟨i, hi0, hz0, hz1, hz2⟩ := info_parts info_n
  have h := run_make (P := Tryz.prog) w 30 82 i _ Tryz.underlying30 hi0 hz0 .i64 .i64 l l (by omega) (Int.le_refl _) (by rw [hz2]; omega) (by omega)
  simp only [Int.toNat_natCast, hz1] at h
  exact h
/-- What the reference's New makes. -/
def RNewPost (w : World) (r : Int) (e : Ending) (w' : World) : Prop := ∃ v, e = .returned (.agg #[v]) ∧ (∀ P : Nat → Prop, P (w.heap.size + 1) → NsR P w' v (List.replicate (newL r) Nd.zero)) ∧ Below w.heap.size w w' ∧ w'.heap.size = w.heap.size + 2
theorem rnew_end (w : World) (l m : Nat) (r : Int) (hr : newL r = l) (hm : m = l * 8) : RNewPost w r (.returned (.agg #[.slice (some ⟨w.heap.size + 1, 0, none⟩) l l])) ((w.alloc (.cells #[.slice (some ⟨w.heap.size + 1, 0, none⟩) l l] 32)).alloc (.cells (madeCells rfZ m) 82)) := by
  subst hm
  have hz : (w.alloc (.cells #[.slice (some ⟨w.heap.size + 1, 0, none⟩) l l] 32)).heap.size = w.heap.size + 1 := by simp
  refine ⟨_, rfl, fun P hP => ?_, al (ba _ _) _, by simp⟩
  have h1 := ns_new P (w.alloc (.cells #[.slice (some ⟨w.heap.size + 1, 0, none⟩) l l] 32)) l l (by rw [hz]; exact hP)
  rw [hz] at h1
  rw [hr]
  exact h1
set_option maxRecDepth 100000 in
set_option maxHeartbeats 4000000 in
theorem rnew_any (r : Int) (w : World) : Calls Tryz.prog 34 #[.int .i64 r] w (RNewPost w r) := by
  by_cases h1 : r < 1
  · have HE := Lib.hid (rnew_end w 1 8 r (by unfold newL; rw [if_pos h1]) rfl)
    have hm : ∀ W, (Instr.makeSlice 30 (.int .i64 1) (.int .i64 1)).run Tryz.prog W = .ok (.slice (some ⟨W.heap.size, 0, none⟩) 1 1) (W.alloc (.cells (madeCells rfZ (1 * 8)) 82)) := make_ns 1 (by decide)
    go_enter Tryz.func34, Tryz.ntmps34
    go_wp2
    exact bodyPost_ret (v := .agg #[.slice (some ⟨w.heap.size + 1, 0, none⟩) 1 1]) (by simp [results, Tryz.results34, go_sem]) rfl HE.out
  · by_cases h2 : 24 < r
    · have HE := Lib.hid (rnew_end w 24 192 r (by unfold newL; rw [if_neg h1, if_pos h2]) rfl)
      have hm : ∀ W, (Instr.makeSlice 30 (.int .i64 24) (.int .i64 24)).run Tryz.prog W = .ok (.slice (some ⟨W.heap.size, 0, none⟩) 24 24) (W.alloc (.cells (madeCells rfZ (24 * 8)) 82)) := make_ns 24 (by decide)
      go_enter Tryz.func34, Tryz.ntmps34
      go_wp2
      exact bodyPost_ret (v := .agg #[.slice (some ⟨w.heap.size + 1, 0, none⟩) 24 24]) (by simp [results, Tryz.results34, go_sem]) rfl HE.out
    · obtain ⟨l, hl⟩ : ∃ l : Nat, r = (l : Int) := ⟨r.toNat, by omega⟩
      subst hl
      have HE := Lib.hid (rnew_end w l (l * 8) (l : Int) (by unfold newL; rw [if_neg h1, if_neg h2]; omega) rfl)
      have hm := make_ns l (by omega)
      go_enter Tryz.func34, Tryz.ntmps34
      go_wp2
      exact bodyPost_ret (v := .agg #[.slice (some ⟨w.heap.size + 1, 0, none⟩) l l]) (by simp [results, Tryz.results34, go_sem]) rfl HE.out
end Go.Proofs.YtfopnfgfoicidaaGreat
namespace Go.Proofs.YtfopnfgfoicidaaGreat
open Go Go.RowKit
set_option maxRecDepth 100000

attribute [local go_sem] cell_off4 cell_blk4
theorem ns_len {P : Nat → Prop} {w : World} {g n c : Nat} {t : List Nd} (h : NsR P w (.slice (some ⟨g, 0, none⟩) n c) t) : t.length = n := by
  obtain ⟨g', c', hv, -⟩ := h
  injection hv with _ h2
  exact h2.symm
theorem rget_end {w : World} {n : Nd} {vn vk : Value} (o p : Obj) (h1 : StrsR w vn (nmA (nmE n.ents))) (h2 : IntsR w vk (idE n.ents)) :
    ∃ v, Ending.returned (.agg (rfC n vn vk)) = .returned v ∧ NrR ((w.alloc o).alloc p) v n ∧ Below w.heap.size w ((w.alloc o).alloc p) :=
  ⟨_, rfl, ⟨vn, vk, rfl, h1.below (al (ba _ _) _), h2.below (al (ba _ _) _)⟩, al (ba _ _) _⟩
set_option maxRecDepth 100000 in
set_option maxHeartbeats 4000000 in
theorem rget_any {P : Nat → Prop} (v : Value) (t : List Nd) (i : Int) (w : World) (h : NsR P w v t) (hl : t.length ≤ 24) :
    Calls Tryz.prog 30 #[.agg #[v], .int .i64 i] w fun e w' => ∃ u, e = .returned u ∧ NrR w' u (tget t i) ∧ Below w.heap.size w w' := by
  obtain ⟨g, c, rfl⟩ := ns_form h
  by_cases h1 : 1 ≤ i ∧ i ≤ t.length
  · have d1 : ¬ i < 1 := by omega
    have d2 : ¬ (t.length : Int) < i := by omega
    obtain ⟨k, hk⟩ : ∃ k : Nat, i = (k : Int) + 1 := ⟨(i - 1).toNat, by omega⟩
    subst hk
    have hlt : k < t.length := by omega
    rw [tget_at hlt]
    obtain ⟨vn, vk, ⟨c0, c1, c2, c3, c4, c5, c6, c7⟩, hs, hi⟩ := ns_get h (List.getElem?_eq_getElem hlt)
    have hg := World.block_lt_of_cell? _ _ c0
    generalize t[k] = n at c0 c1 c2 c3 c4 c5 c6 c7 hs hi ⊢
    have HE := Lib.hid (fun o p => rget_end (n := n) (vn := vn) (vk := vk) o p hs hi)
    obtain ⟨A1, k1, rfl⟩ := strs_form hs (nm_len _)
    obtain ⟨A2, k2, rfl⟩ := ints_form hi (idE_len _)
    clear h hs hi h1
    go_enter Tryz.func30, Tryz.ntmps30
    go_wp2
    exact bodyPost_ret (v := .agg (rfC n (.slice A1 n.ents.length k1) (.slice A2 n.ents.length k2))) (by simp [results, Tryz.results30, go_sem]) rfl (HE.out _ _)
  · rw [tget_out h1]
    have HE := Lib.hid (fun o p => rget_end (n := Nd.zero) (w := w) (vn := .slice none 0 0) (vk := .slice none 0 0) o p (StrsR.nil _) (IntsR.nil _))
    by_cases h2 : i < 1
    · clear h h1
      go_enter Tryz.func30, Tryz.ntmps30
      go_wp2
      exact bodyPost_ret (v := .agg rfZ) (by simp [results, Tryz.results30, go_sem]) rfl (HE.out _ _)
    · have h3 : (t.length : Int) < i := by omega
      clear h h1
      go_enter Tryz.func30, Tryz.ntmps30
      go_wp2
      exact bodyPost_ret (v := .agg rfZ) (by simp [results, Tryz.results30, go_sem]) rfl (HE.out _ _)
end Go.Proofs.YtfopnfgfoicidaaGreat
namespace Go.Proofs.YtfopnfgfoicidaaGreat
open Go Go.RowKit
set_option maxRecDepth 100000

/-- Eight cells that are stored, one behind the other, from a place on. -/
def putB (w : World) (g o : Nat) (u0 u1 u2 u3 u4 u5 u6 u7 : Value) : World :=
  (((((((w.setCell ⟨g, o, none⟩ u0).setCell ⟨g, o + 1, none⟩ u1).setCell ⟨g, o + 2, none⟩ u2).setCell ⟨g, o + 3, none⟩ u3).setCell ⟨g, o + 4, none⟩ u4).setCell ⟨g, o + 5, none⟩ u5).setCell ⟨g, o + 6, none⟩ u6).setCell ⟨g, o + 7, none⟩ u7
theorem grownB (w : World) (g o : Nat) (u0 u1 u2 u3 u4 u5 u6 u7 : Value) : w.grownBy (putB w g o u0 u1 u2 u3 u4 u5 u6 u7) (some g) := by
  have h := fun (W : World) (i : Nat) (u : Value) => grown_setCell W ⟨g, i, none⟩ u
  exact grown_trans (grown_trans (grown_trans (grown_trans (grown_trans (grown_trans (grown_trans (h _ _ _) (h _ _ _)) (h _ _ _)) (h _ _ _)) (h _ _ _)) (h _ _ _)) (h _ _ _)) (h _ _ _)
section
variable {w : World} {g o : Nat} {t : TypeId} {cs : Array Value} {u0 u1 u2 u3 u4 u5 u6 u7 : Value}
theorem Blk.putB (h : Blk w g t cs) : Blk (putB w g o u0 u1 u2 u3 u4 u5 u6 u7) g t ((((((((cs.setIfInBounds o u0).setIfInBounds (o + 1) u1).setIfInBounds (o + 2) u2).setIfInBounds (o + 3) u3).setIfInBounds (o + 4) u4).setIfInBounds (o + 5) u5).setIfInBounds (o + 6) u6).setIfInBounds (o + 7) u7) :=
  ((((((((h.set_ o u0).set_ (o + 1) u1).set_ (o + 2) u2).set_ (o + 3) u3).set_ (o + 4) u4).set_ (o + 5) u5).set_ (o + 6) u6).set_ (o + 7) u7)
theorem putB_out (h : Blk w g t cs) (i : Nat) (hi : i < o ∨ o + 8 ≤ i) : (putB w g o u0 u1 u2 u3 u4 u5 u6 u7).cell? ⟨g, i, none⟩ = w.cell? ⟨g, i, none⟩ := by
  rw [h.putB.cell i, h.cell i]
  rw [Array.getElem?_setIfInBounds_ne (by omega), Array.getElem?_setIfInBounds_ne (by omega), Array.getElem?_setIfInBounds_ne (by omega), Array.getElem?_setIfInBounds_ne (by omega), Array.getElem?_setIfInBounds_ne (by omega), Array.getElem?_setIfInBounds_ne (by omega), Array.getElem?_setIfInBounds_ne (by omega), Array.getElem?_setIfInBounds_ne (by omega)]
theorem putB_in (h : Blk w g t cs) (hs : o + 8 ≤ cs.size) :
    (putB w g o u0 u1 u2 u3 u4 u5 u6 u7).cell? ⟨g, o, none⟩ = some u0 ∧ (putB w g o u0 u1 u2 u3 u4 u5 u6 u7).cell? ⟨g, o + 1, none⟩ = some u1 ∧ (putB w g o u0 u1 u2 u3 u4 u5 u6 u7).cell? ⟨g, o + 2, none⟩ = some u2 ∧ (putB w g o u0 u1 u2 u3 u4 u5 u6 u7).cell? ⟨g, o + 3, none⟩ = some u3 ∧ (putB w g o u0 u1 u2 u3 u4 u5 u6 u7).cell? ⟨g, o + 4, none⟩ = some u4 ∧ (putB w g o u0 u1 u2 u3 u4 u5 u6 u7).cell? ⟨g, o + 5, none⟩ = some u5 ∧ (putB w g o u0 u1 u2 u3 u4 u5 u6 u7).cell? ⟨g, o + 6, none⟩ = some u6 ∧ (putB w g o u0 u1 u2 u3 u4 u5 u6 u7).cell? ⟨g, o + 7, none⟩ = some u7 := by
  refine ⟨?_, ?_, ?_, ?_, ?_, ?_, ?_, ?_⟩
  · rw [h.putB.cell]
    rw [Array.getElem?_setIfInBounds_ne (by omega), Array.getElem?_setIfInBounds_ne (by omega), Array.getElem?_setIfInBounds_ne (by omega), Array.getElem?_setIfInBounds_ne (by omega), Array.getElem?_setIfInBounds_ne (by omega), Array.getElem?_setIfInBounds_ne (by omega), Array.getElem?_setIfInBounds_ne (by omega)]
    exact set_self (by omega)
  · rw [h.putB.cell]
    rw [Array.getElem?_setIfInBounds_ne (by omega), Array.getElem?_setIfInBounds_ne (by omega), Array.getElem?_setIfInBounds_ne (by omega), Array.getElem?_setIfInBounds_ne (by omega), Array.getElem?_setIfInBounds_ne (by omega), Array.getElem?_setIfInBounds_ne (by omega)]
    exact set_self (by simp only [Array.size_setIfInBounds]; omega)
  · rw [h.putB.cell]
    rw [Array.getElem?_setIfInBounds_ne (by omega), Array.getElem?_setIfInBounds_ne (by omega), Array.getElem?_setIfInBounds_ne (by omega), Array.getElem?_setIfInBounds_ne (by omega), Array.getElem?_setIfInBounds_ne (by omega)]
    exact set_self (by simp only [Array.size_setIfInBounds]; omega)
  · rw [h.putB.cell]
    rw [Array.getElem?_setIfInBounds_ne (by omega), Array.getElem?_setIfInBounds_ne (by omega), Array.getElem?_setIfInBounds_ne (by omega), Array.getElem?_setIfInBounds_ne (by omega)]
    exact set_self (by simp only [Array.size_setIfInBounds]; omega)
  · rw [h.putB.cell]
    rw [Array.getElem?_setIfInBounds_ne (by omega), Array.getElem?_setIfInBounds_ne (by omega), Array.getElem?_setIfInBounds_ne (by omega)]
    exact set_self (by simp only [Array.size_setIfInBounds]; omega)
  · rw [h.putB.cell]
    rw [Array.getElem?_setIfInBounds_ne (by omega), Array.getElem?_setIfInBounds_ne (by omega)]
    exact set_self (by simp only [Array.size_setIfInBounds]; omega)
  · rw [h.putB.cell]
    rw [Array.getElem?_setIfInBounds_ne (by omega)]
    exact set_self (by simp only [Array.size_setIfInBounds]; omega)
  · rw [h.putB.cell]
    exact set_self (by simp only [Array.size_setIfInBounds]; omega)
theorem putB_there (h : Blk w g t cs) (hs : o + 8 ≤ cs.size) :
    (∃ x, w.cell? ⟨g, o, none⟩ = some x) ∧ (∃ x, w.cell? ⟨g, o + 1, none⟩ = some x) ∧ (∃ x, w.cell? ⟨g, o + 2, none⟩ = some x) ∧ (∃ x, w.cell? ⟨g, o + 3, none⟩ = some x) ∧ (∃ x, w.cell? ⟨g, o + 4, none⟩ = some x) ∧ (∃ x, w.cell? ⟨g, o + 5, none⟩ = some x) ∧ (∃ x, w.cell? ⟨g, o + 6, none⟩ = some x) ∧ (∃ x, w.cell? ⟨g, o + 7, none⟩ = some x) := by
  have key : ∀ j, j < 8 → ∃ x, w.cell? ⟨g, o + j, none⟩ = some x := fun j hj => ⟨_, by rw [h.cell, Array.getElem?_eq_getElem (show o + j < cs.size by omega)]⟩
  exact ⟨key 0 (by decide), key 1 (by decide), key 2 (by decide), key 3 (by decide), key 4 (by decide), key 5 (by decide), key 6 (by decide), key 7 (by decide)⟩
end
theorem putB_at {w : World} {g o : Nat} {t : TypeId} {cs : Array Value} {n : Nd} {vn vk : Value} (h : Blk w g t cs) (hs : o + 8 ≤ cs.size) : At8 (putB w g o (.int .i64 n.kind) (.int .i64 n.mode) (.int .i64 n.uid) (.int .i64 n.gid) (.string (bA n.data)) vn vk (.string (bA n.target))) g o n vn vk := by
  obtain ⟨a0, a1, a2, a3, a4, a5, a6, a7⟩ := putB_in (u0 := .int .i64 n.kind) (u1 := .int .i64 n.mode) (u2 := .int .i64 n.uid) (u3 := .int .i64 n.gid) (u4 := .string (bA n.data)) (u5 := vn) (u6 := vk) (u7 := .string (bA n.target)) h hs
  exact ⟨a0, a1, a2, a3, a4, a5, a6, a7⟩
/-- A row of the reference's nodes in new memory; their lists are read in an earlier world. -/
def NsF (P : Nat → Prop) (w0 w : World) (B : Nat) (v : Value) (t : List Nd) : Prop := ∃ g c, v = .slice (some ⟨g, 0, none⟩) t.length c ∧ (B ≤ g ∧ g < w.heap.size) ∧ ∀ (k : Nat) (n : Nd), t[k]? = some n → ∃ vn vk, At8 w g (k * 8) n vn vk ∧ (StrsR w0 vn (nmA (nmE n.ents)) ∧ IntsR w0 vk (idE n.ents)) ∧ LP (fun b => P b ∧ b < w0.heap.size) vn ∧ LP (fun b => P b ∧ b < w0.heap.size) vk
theorem NsF.ns {P : Nat → Prop} {w0 w : World} {B : Nat} {v : Value} {t : List Nd} (h : NsF P w0 w B v t) (hb : Below w0.heap.size w0 w) (hP : ∀ b, B ≤ b → P b) : NsR P w v t := by
  obtain ⟨g, c, hv, hg, hn⟩ := h
  refine ⟨g, c, hv, ⟨hP _ hg.1, hg.2⟩, fun k n hk => ?_⟩
  obtain ⟨vn, vk, h1, ⟨h2, h3⟩, h4, h5⟩ := hn k n hk
  exact ⟨vn, vk, h1, ⟨h2.below hb, h3.below hb⟩, h4.mono (fun b q => ⟨q.1, Nat.lt_of_lt_of_le q.2 hb.size⟩), h5.mono (fun b q => ⟨q.1, Nat.lt_of_lt_of_le q.2 hb.size⟩)⟩
/-- A block below the row is changed. -/
theorem NsF.stored {P : Nat → Prop} {w0 w : World} {B r : Nat} {v : Value} {t : List Nd} (h : NsF P w0 w B v t) (hr : r < B) (u : Value) : NsF P w0 (w.setCell ⟨r, 0, none⟩ u) B v t := by
  obtain ⟨g, c, hv, hB, hn⟩ := h
  refine ⟨g, c, hv, ⟨hB.1, by simpa [World.setCell] using hB.2⟩, fun k n hk => ?_⟩
  obtain ⟨vn, vk, h1, h2, h3⟩ := hn k n hk
  refine ⟨vn, vk, h1.cells (fun j u' _ hu => ?_), h2, h3⟩
  rw [World.cell?_setCell_other _ _ _ _ (fun e => by injection e with e; omega)]
  exact hu
/-- Behind With: a row of its own with the nodes, one of them another one; r: where the result lies. -/
theorem with_end {P : Nat → Prop} {w w1 w5 W6 : World} {g g' c cap k r B : Nat} {t : List Nd} {n : Nd} {vn vk : Value} {xs : List Value} (h : NsR P w (.slice (some ⟨g, 0, none⟩) t.length c) t) (hb1 : Below w.heap.size w w1) (hpn : LP (fun b => P b ∧ b < w.heap.size) vn) (hpk : LP (fun b => P b ∧ b < w.heap.size) vk) (hgl : g' < W6.heap.size)
    (hx : ∀ j, j < t.length * 8 → xs[j]? = w1.cell? ⟨g, j, none⟩) (hrow : ∀ j u, xs[j]? = some u → w5.cell? ⟨g', j, none⟩ = some u) (hout : ∀ j, (j < k * 8 ∨ k * 8 + 8 ≤ j) → W6.cell? ⟨g', j, none⟩ = w5.cell? ⟨g', j, none⟩) (hin : At8 W6 g' (k * 8) n vn vk)
    (hk : k < t.length) (hN : StrsR w vn (nmA (nmE n.ents))) (hK : IntsR w vk (idE n.ents)) (hr : g' ≠ r) (hB : B ≤ g') (u : Value) :
    NsF P w (W6.setCell ⟨r, 0, none⟩ u) B (.slice (some ⟨g', 0, none⟩) t.length cap) (setT t ((k : Int) + 1) n) := by
  have hoth : ∀ j u', W6.cell? ⟨g', j, none⟩ = some u' → (W6.setCell ⟨r, 0, none⟩ u).cell? ⟨g', j, none⟩ = some u' := fun j u' hu => by
    rw [World.cell?_setCell_other _ _ _ _ (fun e => hr (by injection e with e; exact e.symm))]
    exact hu
  have hgl2 : g' < (W6.setCell ⟨r, 0, none⟩ u).heap.size := by simpa [World.setCell] using hgl
  generalize W6.setCell ⟨r, 0, none⟩ u = W7 at hoth hgl2
  rw [setT_at]
  refine ⟨g', cap, by rw [List.length_set], ⟨hB, hgl2⟩, fun j m hj => ?_⟩
  by_cases q : k = j
  · subst q
    rw [List.getElem?_set_self hk] at hj
    injection hj with hj
    subst hj
    exact ⟨vn, vk, hin.cells (fun i u' _ hu => hoth _ _ hu), ⟨hN, hK⟩, hpn, hpk⟩
  · rw [List.getElem?_set_ne q] at hj
    have hjl : j < t.length := (List.getElem?_eq_some_iff.1 hj).1
    obtain ⟨vn', vk', h1, h2, h3⟩ := ns_full h hj
    refine ⟨vn', vk', h1.cells (fun i u' hi hu => ?_), h2, h3⟩
    refine hoth _ _ ?_
    rw [hout _ (by omega)]
    refine hrow _ _ ?_
    rw [hx _ (by omega)]
    exact bc hb1 hu
theorem own_some {w : World} {B : Nat} {e : TypeId} {size n : Nat} {v : Value} {xs : List Value} (h : w.ownsRow B e size v n xs) (hn : 0 < n) : ∃ g' cap cur, v = .slice (some ⟨g', 0, none⟩) n cap ∧ B ≤ g' ∧ Blk w g' e cur ∧ n * size ≤ cur.size ∧ ∀ j u, xs[j]? = some u → w.cell? ⟨g', j, none⟩ = some u := by
  have h0 := h
  rcases h.2 with ⟨rfl, hz⟩ | ⟨g, cap, cur, rfl, hB, hh, hc, _, hs, _⟩
  · omega
  · exact ⟨g, cap, cur, rfl, hB, hh, by rw [hs]; exact Nat.mul_le_mul_right _ hc, fun j u hj => row_at h0 j u hj⟩
attribute [local go_sem] cell_off4 cell_blk4
theorem with_row {w W1 w5 : World} {v5 : Value} {n k : Nat} {xs : List Value} {m : Nd} {vn vk : Value} (ho5 : w5.ownsRow (w.heap.size + 3) 82 8 v5 n xs) (hg5 : W1.grownBy w5 (Value.slice none 0 0).ownBlock) (hk : k < n) (hkn : Blk W1 (w.heap.size + 1) 82 (rfC m vn vk)) (hkr : Blk W1 (w.heap.size + 2) 32 #[.slice none 0 0]) (hb1 : Below w.heap.size w W1) :
    ∃ g' cap cur, v5 = .slice (some ⟨g', 0, none⟩) n cap ∧ w.heap.size + 3 ≤ g' ∧ Blk w5 g' 82 cur ∧ n * 8 ≤ cur.size ∧ (∀ j u, xs[j]? = some u → w5.cell? ⟨g', j, none⟩ = some u) ∧ Below w.heap.size w w5 ∧ Blk w5 (w.heap.size + 1) 82 (rfC m vn vk) ∧ Blk w5 (w.heap.size + 2) 32 #[.slice none 0 0] := by
  obtain ⟨g', cap, cur, hv5, hB5, hblk, hcs, hrow⟩ := own_some ho5 (by omega)
  have hb5 := (Below.refl _ _).grown hg5 (Nat.le_refl _) (fun q hq => by cases hq)
  exact ⟨g', cap, cur, hv5, hB5, hblk, hcs, hrow, bt hb5 hb1, hkn.below hb5, hkr.below hb5⟩
set_option maxRecDepth 100000 in
set_option maxHeartbeats 8000000 in
theorem rwith_any {P : Nat → Prop} (v : Value) (t : List Nd) (k : Nat) (n : Nd) (vn vk : Value) (w0 w : World) (h : NsR P w0 v t) (hb0 : Below w0.heap.size w0 w) (hl : t.length ≤ 24) (hk : k < t.length) (hN : StrsR w0 vn (nmA (nmE n.ents))) (hK : IntsR w0 vk (idE n.ents)) (hpn : LP (fun b => P b ∧ b < w0.heap.size) vn) (hpk : LP (fun b => P b ∧ b < w0.heap.size) vk) :
    Calls Tryz.prog 32 #[.agg #[v], .int .i64 ((k : Int) + 1), .agg (rfC n vn vk)] w fun e w' => ∃ v', e = .returned (.agg #[v']) ∧ NsF P w0 w' w.heap.size v' (setT t ((k : Int) + 1) n) ∧ Below w.heap.size w w' := by
  obtain ⟨g, c, rfl⟩ := ns_form h
  obtain ⟨W1, hW1⟩ : ∃ W1, W1 = ((w.alloc (.cells #[.slice (some ⟨g, 0, none⟩) t.length c] 32)).alloc (.cells (rfC n vn vk) 82)).alloc (.cells #[.slice none 0 0] 32) := ⟨_, rfl⟩
  have hb1 : Below w.heap.size w W1 := by rw [hW1]; exact al (al (ba _ _) _) _
  have hz1 : W1.heap.size = w.heap.size + 3 := by rw [hW1]; simp
  have hkn : Blk W1 (w.heap.size + 1) 82 (rfC n vn vk) := by
    rw [hW1]
    have := Blk.new (w.alloc (.cells #[.slice (some ⟨g, 0, none⟩) t.length c] 32)) 82 (rfC n vn vk)
    rw [show (w.alloc (.cells #[.slice (some ⟨g, 0, none⟩) t.length c] 32)).heap.size = w.heap.size + 1 by simp] at this
    exact this.alloc _
  have hkr : Blk W1 (w.heap.size + 2) 32 #[.slice none 0 0] := by
    rw [hW1]
    have := Blk.new ((w.alloc (.cells #[.slice (some ⟨g, 0, none⟩) t.length c] 32)).alloc (.cells (rfC n vn vk) 82)) 32 #[.slice none 0 0]
    rw [show ((w.alloc (.cells #[.slice (some ⟨g, 0, none⟩) t.length c] 32)).alloc (.cells (rfC n vn vk) 82)).heap.size = w.heap.size + 2 by simp] at this
    exact this
  obtain ⟨xs, x1, x2, x3, x4⟩ := ns_src (h.below (bt hb1 hb0))
  obtain ⟨i, hi0, hz0, hz2, hz3⟩ := info_parts info_n
  have HX1 := Lib.hid x1
  have HX2 := Lib.hid x2
  have HX3 := Lib.hid x3
  have HX4 := Lib.hid x4
  have HB1 := Lib.hid hb1
  have HB0 := Lib.hid hb0
  have HZ1 := Lib.hid hz1
  have HKN := Lib.hid hkn
  have HKR := Lib.hid hkr
  have HH := Lib.hid h
  have HN := Lib.hid hN
  have HK := Lib.hid hK
  have HPN := Lib.hid hpn
  have HPK := Lib.hid hpk
  have j3 : (k : Int) < (t.length : Int) := by omega
  obtain ⟨A1, k1, rfl⟩ := strs_form hN (nm_len _)
  obtain ⟨A2, k2, rfl⟩ := ints_form hK (idE_len _)
  clear h hN hK hpn hpk hb0 hb1 hz1 hkn hkr x1 x2 x3 x4
  subst hW1
  go_enter Tryz.func32, Tryz.ntmps32
  go_wp2_with (at_builtin; refine wpList_append_own _ rfl (.tmp 8) (.tmp 10) _ rfl (w.heap.size + 3) 82 i _ 8 112 Tryz.underlying30 hi0 hz0 hz2 hz3 rfl (by decide) (.slice none 0 0) 0 [] rfl (World.ownsRow_nil _ _ _ _) ⟨g, 0, none⟩ t.length c xs rfl HX1.out (fun j u hj => by rw [add_lit]; exact HX2.out j u hj) HX4.out (by unfold maxLen; omega) (by omega) (Nat.le_of_eq HZ1.out.symm) ?_; intro v5 w5 ho5 hg5 _; rw [Nat.zero_add, List.nil_append] at ho5; obtain ⟨g', cap, cur, hv5, hB5, hblk, hcs, hrow, hb5, hkn5, hkr5⟩ := with_row (k := k) ho5 hg5 hk HKN.out HKR.out HB1.out; subst hv5; have HB5 := Lib.hid hb5; obtain ⟨p0, p1, p2, p3, p4, p5, p6, p7⟩ := hkn5.c8; have hr0 := hkr5.cell 0; have hr1 := hkr5.frozen 0; obtain ⟨⟨x0, q0⟩, ⟨x1, q1⟩, ⟨x2, q2⟩, ⟨x3, q3⟩, ⟨x4, q4⟩, ⟨x5, q5⟩, ⟨x6, q6⟩, ⟨x7, q7⟩⟩ := putB_there (o := k * 8) hblk (by omega); have f5 := fun i => hblk.frozen i; have HKR5 := Lib.hid hkr5; have HBLK := Lib.hid hblk; have HROW := Lib.hid hrow; have HCS := Lib.hid hcs; have hne : g' ≠ w.heap.size + 2 := (by omega); clear hb5 ho5 hg5 hblk hrow hcs hkn5 hkr5)
  have hE := with_end (B := w.heap.size) (cap := cap) (u := .slice (some ⟨g', 0, none⟩) t.length cap) HH.out (bt HB1.out HB0.out) HPN.out HPK.out (Nat.lt_of_lt_of_le HBLK.out.lt (grownB w5 g' (k * 8) (.int .i64 n.kind) (.int .i64 n.mode) (.int .i64 n.uid) (.int .i64 n.gid) (.string (bA n.data)) (.slice A1 n.ents.length k1) (.slice A2 n.ents.length k2) (.string (bA n.target))).size) HX3.out HROW.out (fun j hj => putB_out (u0 := .int .i64 n.kind) (u1 := .int .i64 n.mode) (u2 := .int .i64 n.uid) (u3 := .int .i64 n.gid) (u4 := .string (bA n.data)) (u5 := .slice A1 n.ents.length k1) (u6 := .slice A2 n.ents.length k2) (u7 := .string (bA n.target)) HBLK.out j hj) (putB_at HBLK.out (by have := HCS.out; omega)) hk HN.out HK.out hne (by omega)
  have hF := below_grown (below_grown HB5.out (grownB w5 g' (k * 8) (.int .i64 n.kind) (.int .i64 n.mode) (.int .i64 n.uid) (.int .i64 n.gid) (.string (bA n.data)) (.slice A1 n.ents.length k1) (.slice A2 n.ents.length k2) (.string (bA n.target))) (by omega)) (grown_setCell _ ⟨w.heap.size + 2, 0, none⟩ (.slice (some ⟨g', 0, none⟩) t.length cap)) (by show w.heap.size ≤ w.heap.size + 2; omega)
  have hS : ((putB w5 g' (k * 8) (.int .i64 n.kind) (.int .i64 n.mode) (.int .i64 n.uid) (.int .i64 n.gid) (.string (bA n.data)) (.slice A1 n.ents.length k1) (.slice A2 n.ents.length k2) (.string (bA n.target))).setCell ⟨w.heap.size + 1 + 1, 0, none⟩ (.slice (some ⟨g', 0, none⟩) t.length cap)).cell? ⟨w.heap.size + 1 + 1, 0, none⟩ = some (.slice (some ⟨g', 0, none⟩) t.length cap) :=
    ((HKR5.out.kept (grownB w5 g' (k * 8) (.int .i64 n.kind) (.int .i64 n.mode) (.int .i64 n.uid) (.int .i64 n.gid) (.string (bA n.data)) (.slice A1 n.ents.length k1) (.slice A2 n.ents.length k2) (.string (bA n.target))) (fun e => hne (by injection e with e; exact e.symm))).set_ 0 _).cell 0
  unfold putB at hE hS hF
  exact bodyPost_ret (v := .agg #[.slice (some ⟨g', 0, none⟩) t.length cap]) (by simp [results, Tryz.results32, go_sem, hS]) rfl ⟨_, rfl, hE, hF⟩
end Go.Proofs.YtfopnfgfoicidaaGreat
namespace Go.Proofs.YtfopnfgfoicidaaGreat
open Go Go.RowKit
set_option maxRecDepth 100000

attribute [local go_sem] cell_off4 cell_blk4
set_option maxRecDepth 100000 in
set_option maxHeartbeats 8000000 in
theorem rparent_any {P : Nat → Prop} (v : Value) (t : List Nd) (i : Int) (w : World) (h : NsR P w v t) (hl : t.length ≤ 24) (ho : okT t) :
    Calls Tryz.prog 82 #[.agg #[v], .int .i64 i] w fun e w' => e = .returned (.int .i64 (parT t 0 i : Int)) ∧ Below w.heap.size w w' := by
  have HB := Lib.hid (ba w (.cells #[v] 32))
  obtain ⟨g, c, rfl⟩ := ns_form h
  have HH := Lib.hid (h.below (ba w (.cells #[.slice (some ⟨g, 0, none⟩) t.length c] 32)))
  have HO := Lib.hid ho
  have HFR := Lib.hid (fun k => par_ge (i := i) t 0 k)
  generalize parT t 0 i = F at HFR ⊢
  clear h ho
  go_enter Tryz.func82, Tryz.ntmps82
  go_wp2
  go_loopg [5] t.length (fun gh s5 wr => ∃ d : Nat, s5 = .int .i64 d ∧ d ≤ t.length ∧ gh = t.length - d ∧ (∀ j, j < d → ∀ n, t[j]? = some n → cntE n.ents i = 0) ∧ w.alloc (.cells #[.slice (some ⟨g, 0, none⟩) t.length c] 32) = wr)
  case atStart => exact ⟨0, rfl, Nat.zero_le _, rfl, fun j h => absurd h (Nat.not_lt_zero _), rfl⟩
  case round =>
    obtain ⟨d, rfl, hd, rfl, hall, rfl⟩ := hrel
    have HALL := Lib.hid hall
    clear hall
    by_cases hlt : d < t.length
    · have hlt' : (d : Int) < (t.length : Int) := by omega
      obtain ⟨n, hn⟩ : ∃ n, t[d]? = some n := ⟨_, List.getElem?_eq_getElem hlt⟩
      obtain ⟨vn, vk, ⟨-, -, -, -, -, -, c6, -⟩, -, hi⟩ := ns_get HH.out hn
      have hgl := World.block_lt_of_cell? _ _ c6
      have hE := ok_ents_le HO.out (List.mem_of_getElem? hn)
      obtain ⟨A2, k2, rfl⟩ := ints_form hi (idE_len _)
      have HI := Lib.hid hi
      have HN := Lib.hid hn
      clear hn hi
      go_wp2
      go_loopg [6] n.ents.length (fun gh s6 wr => ∃ j : Nat, s6 = .int .i64 j ∧ j ≤ n.ents.length ∧ gh = n.ents.length - j ∧ cntE (n.ents.take j) i = 0 ∧ w.alloc (.cells #[.slice (some ⟨g, 0, none⟩) t.length c] 32) = wr)
      case atStart => exact ⟨0, rfl, Nat.zero_le _, rfl, by simp [cntE], rfl⟩
      case round =>
        obtain ⟨j, rfl, hj, rfl, hz, rfl⟩ := hrel
        have HZ := Lib.hid hz
        clear hz
        by_cases hjl : j < n.ents.length
        · have hjl' : (j : Int) < (n.ents.length : Int) := by omega
          obtain ⟨e, hje⟩ : ∃ e, n.ents[j]? = some e := ⟨_, List.getElem?_eq_getElem hjl⟩
          obtain ⟨ad, hA, d0⟩ := ints_get HI.out (idE_at hje)
          subst hA
          have HCS := Lib.hid (cnt_snoc (i := i) hje)
          by_cases q : e.2 = i
          · have q1 : (e.2 == i) = true := by simpa using q
            have HX := Lib.hid (show (d : Int) + 1 = (F : Int) by
              have := (HFR.out d HALL.out hd).2 n HN.out (cnt_pos.2 ⟨e, List.mem_of_getElem? hje, q⟩)
              omega)
            clear q hje
            go_wp2
            go_ret
            exact ⟨ret_int HX.out, HB.out⟩
          · have q1 : (e.2 == i) = false := by simpa using q
            have HX := Lib.hid (show cntE (n.ents.take (j + 1)) i = 0 by rw [HCS.out, if_neg q, HZ.out])
            clear q hje
            go_wp2
            go_roundg (n.ents.length - (j + 1))
            case measure => omega
            case rel => exact ⟨j + 1, by go_num, by omega, rfl, HX.out, rfl⟩
        · have hjl' : ¬ (j : Int) < (n.ents.length : Int) := by omega
          have HX := Lib.hid (show cntE n.ents i = 0 by have := HZ.out; rw [List.take_of_length_le (by omega)] at this; exact this)
          go_wp2
          go_roundg (t.length - (d + 1))
          case measure => omega
          case rel => exact ⟨d + 1, by go_num, by omega, rfl, (fun j h1 m h2 => by
            by_cases q : j < d
            · exact HALL.out j q m h2
            · have e1 : j = d := by omega
              subst e1
              rw [HN.out] at h2
              injection h2 with h2
              rw [← h2]
              exact HX.out), rfl⟩
    · have hlt' : ¬ (d : Int) < (t.length : Int) := by omega
      have HX := Lib.hid (show (0 : Int) = (F : Int) by have := (HFR.out d HALL.out hd).1 (by omega); omega)
      go_wp2
      go_ret
      exact ⟨ret_int HX.out, HB.out⟩
set_option maxRecDepth 100000 in
set_option maxHeartbeats 8000000 in
theorem rused_any {P : Nat → Prop} (v : Value) (t : List Nd) (w : World) (h : NsR P w v t) (hl : t.length ≤ 24) :
    Calls Tryz.prog 85 #[.agg #[v]] w fun e w' => e = .returned (.int .i64 (usedT t : Int)) ∧ Below w.heap.size w w' := by
  have HB := Lib.hid (ba w (.cells #[v] 32))
  obtain ⟨g, c, rfl⟩ := ns_form h
  have HH := Lib.hid (h.below (ba w (.cells #[.slice (some ⟨g, 0, none⟩) t.length c] 32)))
  clear h
  go_enter Tryz.func85, Tryz.ntmps85
  go_wp2
  go_loopg [3, 4] t.length (fun gh s3 s4 wr => ∃ d : Nat, s3 = .int .i64 (usedT (t.take d) : Int) ∧ s4 = .int .i64 d ∧ d ≤ t.length ∧ gh = t.length - d ∧ w.alloc (.cells #[.slice (some ⟨g, 0, none⟩) t.length c] 32) = wr)
  case atStart => exact ⟨0, rfl, rfl, Nat.zero_le _, rfl, rfl⟩
  case round =>
    obtain ⟨d, rfl, rfl, hd, rfl, rfl⟩ := hrel
    by_cases hlt : d < t.length
    · have hlt' : (d : Int) < (t.length : Int) := by omega
      obtain ⟨n, hn⟩ : ∃ n, t[d]? = some n := ⟨_, List.getElem?_eq_getElem hlt⟩
      obtain ⟨vn, vk, ⟨c0, -, -, -, -, -, -, -⟩, -, hi⟩ := ns_get HH.out hn
      have hgl := World.block_lt_of_cell? _ _ c0
      have HS := Lib.hid (used_snoc hn)
      have hC := used_take_le t d
      have HK := Lib.hid (show tis t ((d : Int) + 1) = (n.kind != 0) by
        obtain ⟨h5, h6⟩ := List.getElem?_eq_some_iff.1 hn
        rw [tis, tget_at h5, h6, Bool.eq_iff_iff]
        simp)
      generalize usedT (t.take d) = C at HS hC ⊢
      clear hn hi
      by_cases q : n.kind = 0
      · have q1 : (n.kind != 0) = false := by simpa using q
        have HX := Lib.hid (show (usedT (t.take (d + 1)) : Int) = (C : Int) by rw [HS.out, HK.out, q1, if_neg Bool.false_ne_true, Nat.add_zero])
        clear q
        go_wp2
        go_roundg (t.length - (d + 1))
        case measure => omega
        case rel => exact ⟨d + 1, by rw [HX.out], by go_num, by omega, rfl, rfl⟩
      · have q1 : (n.kind != 0) = true := by simpa using q
        have HX := Lib.hid (show (usedT (t.take (d + 1)) : Int) = (C : Int) + 1 by rw [HS.out, HK.out, q1, if_pos rfl]; rfl)
        clear q
        go_wp2
        go_roundg (t.length - (d + 1))
        case measure => omega
        case rel => exact ⟨d + 1, by rw [HX.out], by go_num, by omega, rfl, rfl⟩
    · have hlt' : ¬ (d : Int) < (t.length : Int) := by omega
      have HX := Lib.hid (show (usedT (t.take d) : Int) = (usedT t : Int) by rw [List.take_of_length_le (by omega)])
      generalize (usedT (t.take d) : Int) = C at HX ⊢
      go_wp2
      go_ret
      exact ⟨ret_int HX.out, HB.out⟩
end Go.Proofs.YtfopnfgfoicidaaGreat
