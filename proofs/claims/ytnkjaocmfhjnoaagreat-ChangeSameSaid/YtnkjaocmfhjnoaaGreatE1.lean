/-
  What node.Right, node.Same, slices.Index and the reference's Right and Same of nodes answer. The conditions are said at each.
-/
import Derived.Test.YtnkjaocmfhjnoaaGreatE0
import Derived.Laws.Cover1
import Derived.Laws.StructEq
import Derived.Deep.RegionHeld3
import Derived.Deep.RegionWith
import Derived.Laws.IdiomStrings
namespace Go.Proofs.YtnkjaocmfhjnoaaGreat
open Go Go.RowKit
set_option maxRecDepth 100000

theorem cell_off4 (W : World) (b i j : Nat) (v : Value) (h : i ≠ j) : (W.setCell ⟨b, i, none⟩ v).cell? ⟨b, j, none⟩ = W.cell? ⟨b, j, none⟩ :=
  World.cell?_setCell_other _ _ _ _ (fun e => h (by injection e))
theorem cell_blk4 (W : World) (b b' i j : Nat) (v : Value) (h : b ≠ b') : (W.setCell ⟨b, i, none⟩ v).cell? ⟨b', j, none⟩ = W.cell? ⟨b', j, none⟩ :=
  World.cell?_setCell_other _ _ _ _ (fun e => h (by injection e))
def put7 (w : World) (g : Nat) (u0 u1 u2 u3 u4 u5 u6 : Value) : World :=
  ((((((w.setCell ⟨g, 0, none⟩ u0).setCell ⟨g, 1, none⟩ u1).setCell ⟨g, 2, none⟩ u2).setCell ⟨g, 3, none⟩ u3).setCell ⟨g, 4, none⟩ u4).setCell ⟨g, 5, none⟩ u5).setCell ⟨g, 6, none⟩ u6
theorem grown7 (w : World) (g : Nat) (u0 u1 u2 u3 u4 u5 u6 : Value) : w.grownBy (put7 w g u0 u1 u2 u3 u4 u5 u6) (some g) := by
  have h := fun (W : World) (i : Nat) (u : Value) => grown_setCell W ⟨g, i, none⟩ u
  exact grown_trans (grown_trans (grown_trans (grown_trans (grown_trans (grown_trans (h _ _ _) (h _ _ _)) (h _ _ _)) (h _ _ _)) (h _ _ _)) (h _ _ _)) (h _ _ _)
section
variable {w : World} {g : Nat} {t : TypeId} {a0 a1 a2 a3 a4 a5 a6 a7 : Value}
theorem Blk.set7_0 (h : Blk w g t #[a0, a1, a2, a3, a4, a5, a6]) (u : Value) : Blk (w.setCell ⟨g, 0, none⟩ u) g t #[u, a1, a2, a3, a4, a5, a6] := by simpa using h.set_ 0 u
theorem Blk.set7_1 (h : Blk w g t #[a0, a1, a2, a3, a4, a5, a6]) (u : Value) : Blk (w.setCell ⟨g, 1, none⟩ u) g t #[a0, u, a2, a3, a4, a5, a6] := by simpa using h.set_ 1 u
theorem Blk.set7_2 (h : Blk w g t #[a0, a1, a2, a3, a4, a5, a6]) (u : Value) : Blk (w.setCell ⟨g, 2, none⟩ u) g t #[a0, a1, u, a3, a4, a5, a6] := by simpa using h.set_ 2 u
theorem Blk.set7_3 (h : Blk w g t #[a0, a1, a2, a3, a4, a5, a6]) (u : Value) : Blk (w.setCell ⟨g, 3, none⟩ u) g t #[a0, a1, a2, u, a4, a5, a6] := by simpa using h.set_ 3 u
theorem Blk.set7_4 (h : Blk w g t #[a0, a1, a2, a3, a4, a5, a6]) (u : Value) : Blk (w.setCell ⟨g, 4, none⟩ u) g t #[a0, a1, a2, a3, u, a5, a6] := by simpa using h.set_ 4 u
theorem Blk.set7_5 (h : Blk w g t #[a0, a1, a2, a3, a4, a5, a6]) (u : Value) : Blk (w.setCell ⟨g, 5, none⟩ u) g t #[a0, a1, a2, a3, a4, u, a6] := by simpa using h.set_ 5 u
theorem Blk.set7_6 (h : Blk w g t #[a0, a1, a2, a3, a4, a5, a6]) (u : Value) : Blk (w.setCell ⟨g, 6, none⟩ u) g t #[a0, a1, a2, a3, a4, a5, u] := by simpa using h.set_ 6 u
theorem Blk.put7 (h : Blk w g t #[a0, a1, a2, a3, a4, a5, a6]) (u0 u1 u2 u3 u4 u5 u6 : Value) : Blk (put7 w g u0 u1 u2 u3 u4 u5 u6) g t #[u0, u1, u2, u3, u4, u5, u6] := (((((((h.set7_0 u0).set7_1 u1).set7_2 u2).set7_3 u3).set7_4 u4).set7_5 u5).set7_6 u6)
theorem Blk.c7 (h : Blk w g t #[a0, a1, a2, a3, a4, a5, a6]) : w.cell? ⟨g, 0, none⟩ = some a0 ∧ w.cell? ⟨g, 1, none⟩ = some a1 ∧ w.cell? ⟨g, 2, none⟩ = some a2 ∧ w.cell? ⟨g, 3, none⟩ = some a3 ∧ w.cell? ⟨g, 4, none⟩ = some a4 ∧ w.cell? ⟨g, 5, none⟩ = some a5 ∧ w.cell? ⟨g, 6, none⟩ = some a6 :=
  ⟨h.cell 0, h.cell 1, h.cell 2, h.cell 3, h.cell 4, h.cell 5, h.cell 6⟩
theorem Blk.f7 (h : Blk w g t #[a0, a1, a2, a3, a4, a5, a6]) : w.frozen? ⟨g, 0, none⟩ = false ∧ w.frozen? ⟨g, 1, none⟩ = false ∧ w.frozen? ⟨g, 2, none⟩ = false ∧ w.frozen? ⟨g, 3, none⟩ = false ∧ w.frozen? ⟨g, 4, none⟩ = false ∧ w.frozen? ⟨g, 5, none⟩ = false ∧ w.frozen? ⟨g, 6, none⟩ = false :=
  ⟨h.frozen 0, h.frozen 1, h.frozen 2, h.frozen 3, h.frozen 4, h.frozen 5, h.frozen 6⟩
theorem Blk.s7 (h : Blk w g t #[a0, a1, a2, a3, a4, a5, a6]) : (∀ u0, (w.setCell ⟨g, 0, none⟩ u0).cell? ⟨g, 0, none⟩ = some u0) ∧
    (∀ u0 u1, ((w.setCell ⟨g, 0, none⟩ u0).setCell ⟨g, 1, none⟩ u1).cell? ⟨g, 1, none⟩ = some u1) ∧
    (∀ u0 u1 u2, (((w.setCell ⟨g, 0, none⟩ u0).setCell ⟨g, 1, none⟩ u1).setCell ⟨g, 2, none⟩ u2).cell? ⟨g, 2, none⟩ = some u2) ∧
    (∀ u0 u1 u2 u3, ((((w.setCell ⟨g, 0, none⟩ u0).setCell ⟨g, 1, none⟩ u1).setCell ⟨g, 2, none⟩ u2).setCell ⟨g, 3, none⟩ u3).cell? ⟨g, 3, none⟩ = some u3) ∧
    (∀ u0 u1 u2 u3 u4, (((((w.setCell ⟨g, 0, none⟩ u0).setCell ⟨g, 1, none⟩ u1).setCell ⟨g, 2, none⟩ u2).setCell ⟨g, 3, none⟩ u3).setCell ⟨g, 4, none⟩ u4).cell? ⟨g, 4, none⟩ = some u4) ∧
    (∀ u0 u1 u2 u3 u4 u5, ((((((w.setCell ⟨g, 0, none⟩ u0).setCell ⟨g, 1, none⟩ u1).setCell ⟨g, 2, none⟩ u2).setCell ⟨g, 3, none⟩ u3).setCell ⟨g, 4, none⟩ u4).setCell ⟨g, 5, none⟩ u5).cell? ⟨g, 5, none⟩ = some u5) ∧
    (∀ u0 u1 u2 u3 u4 u5 u6, (((((((w.setCell ⟨g, 0, none⟩ u0).setCell ⟨g, 1, none⟩ u1).setCell ⟨g, 2, none⟩ u2).setCell ⟨g, 3, none⟩ u3).setCell ⟨g, 4, none⟩ u4).setCell ⟨g, 5, none⟩ u5).setCell ⟨g, 6, none⟩ u6).cell? ⟨g, 6, none⟩ = some u6) :=
  ⟨fun u0 => (h.set7_0 u0).cell 0,
    fun u0 u1 => ((h.set7_0 u0).set7_1 u1).cell 1,
    fun u0 u1 u2 => (((h.set7_0 u0).set7_1 u1).set7_2 u2).cell 2,
    fun u0 u1 u2 u3 => ((((h.set7_0 u0).set7_1 u1).set7_2 u2).set7_3 u3).cell 3,
    fun u0 u1 u2 u3 u4 => (((((h.set7_0 u0).set7_1 u1).set7_2 u2).set7_3 u3).set7_4 u4).cell 4,
    fun u0 u1 u2 u3 u4 u5 => ((((((h.set7_0 u0).set7_1 u1).set7_2 u2).set7_3 u3).set7_4 u4).set7_5 u5).cell 5,
    fun u0 u1 u2 u3 u4 u5 u6 => (((((((h.set7_0 u0).set7_1 u1).set7_2 u2).set7_3 u3).set7_4 u4).set7_5 u5).set7_6 u6).cell 6⟩
end
theorem EntsX.kept {w w' : World} {B g : Nat} {v : Value} {l : List En} {cs : Array Value} {t : TypeId} (h : EntsX w B v l) (hk : Blk w g t cs) (ht : t ≠ 126) (hg : w.grownBy w' (some g)) : EntsX w' B v l := by
  rcases h with h | ⟨g', h1, h2, h3, h4⟩
  · exact .inl h
  · refine .inr ⟨g', h1, h2, h3, h4.kept hg ?_⟩
    intro e
    injection e with e
    subst e
    unfold Blk at hk h4
    rw [hk] at h4
    injection h4 with h4
    injection h4 with _ h4
    exact ht h4
theorem EntsX.lower {w : World} {B B' : Nat} {v : Value} {l : List En} (h : EntsX w B v l) (hB : B' ≤ B) : EntsX w B' v l := by
  rcases h with h | ⟨g, h1, h2⟩
  · exact .inl h
  · exact .inr ⟨g, Nat.le_trans hB h1, h2⟩
theorem BytesX.lower {w : World} {B B' : Nat} {v : Value} {l : List UInt8} (h : BytesX w B v l) (hB : B' ≤ B) : BytesX w B' v l := by
  rcases h with h | ⟨g, h1, h2⟩
  · exact .inl h
  · exact .inr ⟨g, Nat.le_trans hB h1, h2⟩
theorem below_grown {w0 w w' : World} {g : Nat} (hb : Below w0.heap.size w0 w) (hg : w.grownBy w' (some g)) (h : w0.heap.size ≤ g) : Below w0.heap.size w0 w' := hb.grown hg hb.size (fun q hq => by injection hq with hq; omega)
abbrev ndC (n : Nd) (vd ve : Value) : Array Value := #[.int .i64 n.kind, .int .i64 n.mode, .int .i64 n.uid, .int .i64 n.gid, vd, ve, .string (bA n.target)]
abbrev ndZ : Array Value := #[.int .i64 0, .int .i64 0, .int .i64 0, .int .i64 0, .slice none 0 0, .slice none 0 0, .string ⟨#[]⟩]
theorem entsX_form {w : World} {B : Nat} {v : Value} {l : List En} (h : EntsX w B v l) : ∃ A c, v = .slice A l.length c := ents_form h.ents rfl
theorem bytesX_form {w : World} {B : Nat} {v : Value} {l : List UInt8} (h : BytesX w B v l) : ∃ A c, v = .slice A l.length c := bytes_form h.bytes rfl
theorem blk_setRow {w : World} {g : Nat} {t : TypeId} {cs ds : Array Value} (h : Blk w g t cs) : Blk (w.setRow g ds) g t ds := setRow_heap w g cs ds t (0, 0) h
theorem info_ent : (Tryz.prog.info? 126).map (fun i => (i.zero, i.size, i.bytes)) = some (some (.agg #[.string ⟨#[]⟩, .int .i64 0]), 2, 24) := by kernel_rfl
theorem info_u8 : (Tryz.prog.info? 5).map (fun i => (i.zero, i.size, i.bytes)) = some (some (.int .u8 0), 1, 1) := by kernel_rfl
theorem info_int : (Tryz.prog.info? 3).map (fun i => (i.zero, i.size, i.bytes)) = some (some (.int .i64 0), 1, 8) := by kernel_rfl
theorem size_ent : (Tryz.prog.info? 126).map (·.size) = some 2 := by kernel_rfl
theorem size_u8 : (Tryz.prog.info? 5).map (·.size) = some 1 := by kernel_rfl
theorem box_ents {w : World} {n : Nd} {vd ve : Value} (he : EntsR w ve n.ents) : EntsR (w.alloc (.cells (ndC n vd ve) 65)) ve n.ents := he.below (ba _ _)
theorem ent_one (e : En) : ∀ u ∈ [Value.string (bA e.1), .int .i64 e.2], u.oneCell' = true := by
  intro u hu
  simp only [List.mem_cons, List.mem_nil_iff, or_false] at hu
  rcases hu with rfl | rfl <;> rfl
theorem EntsR.of_own {w : World} {B : Nat} {e : TypeId} {v : Value} {l : List En} (h : w.ownsRow B e 2 v l.length (eCells l)) : EntsR w v l := by
  rcases h.2 with ⟨rfl, hn⟩ | ⟨g, cap, cur, rfl, _⟩
  · have : l = [] := List.eq_nil_of_length_eq_zero hn
    subst this
    exact EntsR.nil w
  · refine ⟨some ⟨g, 0, none⟩, cap, rfl, fun k a hk => ⟨_, rfl, ?_⟩⟩
    obtain ⟨h0, h1⟩ := eCells_at l k a hk
    rw [add_lit]
    exact ⟨row_at h _ _ h0, row_at h _ _ h1⟩
theorem EntsT.of_own {w : World} {B : Nat} {v : Value} {l : List En} (h : w.ownsRow B 126 2 v l.length (eCells l)) : EntsT w v l := by
  refine ⟨EntsR.of_own h, fun ad n c hv => ?_⟩
  rcases h.2 with ⟨rfl, hn⟩ | ⟨g, cap, cur, rfl, _, hh, _⟩
  · injection hv with hv; cases hv
  · injection hv with hA
    injection hA with hA
    subst hA
    exact ⟨cur, hh⟩
theorem EntsX.own {w : World} {B : Nat} {v : Value} {l : List En} (h : EntsX w B v l) (hn : l.length ≤ 1000000) : w.ownsRow B 126 2 v l.length (eCells l) := by
  rcases h with ⟨rfl, rfl⟩ | ⟨g, h1, rfl, -, h4⟩
  · exact World.ownsRow_nil _ _ _ _
  · refine ⟨eCells_len l, .inr ⟨g, l.length, _, rfl, h1, h4, Nat.le_refl _, by unfold maxLen; omega, ?_, ?_⟩⟩
    · rw [List.size_toArray, eCells_len]
    · rw [List.take_of_length_le (by rw [eCells_len]; exact Nat.le_refl _)]
end Go.Proofs.YtnkjaocmfhjnoaaGreat
namespace Go.Proofs.YtnkjaocmfhjnoaaGreat
open Go Go.RowKit
set_option maxRecDepth 100000

noncomputable def toB (p : Prop) : Bool := @decide p (Classical.propDecidable p)
theorem toB_true {p : Prop} (h : p) : toB p = true := by unfold toB; exact @decide_eq_true p (Classical.propDecidable p) h
theorem toB_false {p : Prop} (h : ¬ p) : toB p = false := by unfold toB; exact @decide_eq_false p (Classical.propDecidable p) h
theorem toB_iff {p : Prop} : toB p = true ↔ p := by
  constructor
  · intro h
    by_cases hp : p
    · exact hp
    · rw [toB_false hp] at h; cases h
  · exact toB_true
def upB (m x : Int) : Bool := decide (0 ≤ x) && decide (x ≤ m)
theorem upB_iff {m x : Int} : upB m x = true ↔ 0 ≤ x ∧ x ≤ m := by unfold upB; rw [Bool.and_eq_true, decide_eq_true_iff, decide_eq_true_iff]
theorem upB_not {m x : Int} (h : upB m x = false) : ¬ (0 ≤ x ∧ x ≤ m) := fun h2 => by rw [upB_iff.2 h2] at h; cases h
theorem upTo_any (m x : Int) (w : World) : Calls Tryz.prog 85 #[.int .i64 m, .int .i64 x] w fun e w' => e = .returned (.bool (upB m x)) ∧ w = w' := by
  unfold upB
  by_cases h1 : 0 ≤ x
  · rw [decide_eq_true h1, Bool.true_and]
    go_enter Tryz.func85, Tryz.ntmps85
    go_wp2
    go_ret
    exact ⟨rfl, rfl⟩
  · rw [decide_eq_false h1, Bool.false_and]
    go_enter Tryz.func85, Tryz.ntmps85
    go_wp2
    go_ret
    exact ⟨rfl, rfl⟩
def gdP (l : List En) : Prop := (∀ e ∈ l, nok e.1 = true ∧ 1 ≤ e.2) ∧ rise (nmE l)
theorem gdP_nil : gdP [] := ⟨fun e h => (by cases h), List.Pairwise.nil⟩
theorem bdN {W w : World} (h : Below W.heap.size W w) (n : Nat) : Below W.heap.size W (w.drewN n) := ⟨h.os, h.tape, h.output, h.size, h.block⟩
theorem rise_snoc {l : List Nm} {x : Nm} (h : rise l) (hx : ∀ y, l[l.length - 1]? = some y → lss y x = true) : rise (l ++ [x]) := by
  refine rise_adj (fun i a b ha hb => ?_)
  by_cases hi : i + 1 < l.length
  · rw [List.getElem?_append_left (by omega)] at ha
    rw [List.getElem?_append_left hi] at hb
    exact adj_rise h i a b ha hb
  · have hb2 := (List.getElem?_eq_some_iff.1 hb).1
    rw [List.length_append] at hb2
    simp only [List.length_cons, List.length_nil] at hb2
    rw [List.getElem?_append_right (by omega), show i + 1 - l.length = 0 by omega] at hb
    simp at hb
    subst hb
    rw [List.getElem?_append_left (by omega)] at ha
    exact hx a (by rw [show l.length - 1 = i by omega]; exact ha)
theorem gdP_snoc {l : List En} {k : Nat} {e : En} (he : l[k]? = some e) (h : gdP (l.take k)) (h1 : nok e.1 = true) (h2 : 1 ≤ e.2) (h3 : k = 0 ∨ ∃ p, l[k - 1]? = some p ∧ lss p.1 e.1 = true) : gdP (l.take (k + 1)) := by
  rw [take_snoc' he]
  refine ⟨fun f hf => ?_, ?_⟩
  · rcases List.mem_append.1 hf with hf | hf
    · exact h.1 f hf
    · rw [List.mem_singleton] at hf
      subst hf
      exact ⟨h1, h2⟩
  · rw [nmE, List.map_append]
    refine rise_snoc h.2 (fun y hy => ?_)
    rcases h3 with rfl | ⟨p, hp, hl⟩
    · simp at hy
    · have hk : 0 < k := by
        by_cases h0 : k = 0
        · subst h0
          simp at hy
        · omega
      have hlt : k - 1 < l.length := (List.getElem?_eq_some_iff.1 hp).1
      rw [List.length_map, List.length_take, List.getElem?_map, List.getElem?_take] at hy
      rw [show min k l.length - 1 = k - 1 by omega, if_pos (by omega), hp] at hy
      injection hy with hy
      rw [← hy]
      exact hl
theorem cmp_lt {a b : Nm} (h : lss b a = true) : Op.bytesLess (bA a).toList (bA b).toList = false ∧ ((bA a).toList == (bA b).toList) = false := by
  rw [bA_list, bA_list]
  exact ⟨lss_asymm h, by rw [beq_eq_false_iff_ne]; exact fun e => lss_ne h e.symm⟩
theorem cmp_ge {a b : Nm} (h : lss b a = false) : (Op.bytesLess (bA a).toList (bA b).toList = true ∧ ((bA a).toList == (bA b).toList) = false) ∨ (Op.bytesLess (bA a).toList (bA b).toList = false ∧ ((bA a).toList == (bA b).toList) = true) := by
  rw [bA_list, bA_list]
  by_cases he : a = b
  · subst he
    exact .inr ⟨lss_irrefl a, by simp⟩
  · exact .inl ⟨lss_of h (fun e => he e.symm), by rw [beq_eq_false_iff_ne]; exact he⟩
set_option maxRecDepth 100000 in
set_option maxHeartbeats 4000000 in
theorem entsRight_any (v : Value) (l : List En) (w : World) (hR : EntsR w v l) (hn : l.length ≤ 1000) (hsz : ∀ e ∈ l, e.1.length ≤ 1000) :
    Calls Tryz.prog 86 #[v] w fun e w' => e = .returned (.bool (toB (entsP l))) ∧ Below w.heap.size w w' := by
  obtain ⟨A, c, rfl⟩ := ents_form hR rfl
  have HR := Lib.hid hR
  clear hR
  by_cases h8 : l.length ≤ 8
  · have h8' : ¬ (8 : Int) < (l.length : Int) := by omega
    have HY := Lib.hid (show gdP l → toB (entsP l) = true from fun h => toB_true ⟨h.1, h.2, h8⟩)
    have HN1 := Lib.hid (fun (k : Nat) (e : En) (he : l[k]? = some e) (h : nok e.1 = false) => show toB (entsP l) = false from toB_false (fun hp => by rw [(hp.1 e (List.mem_of_getElem? he)).1] at h; cases h))
    have HN2 := Lib.hid (fun (k : Nat) (e : En) (he : l[k]? = some e) (h : e.2 < 1) => show toB (entsP l) = false from toB_false (fun hp => by have := (hp.1 e (List.mem_of_getElem? he)).2; omega))
    have HN3 := Lib.hid (fun (k : Nat) (e p : En) (hk : 0 < k) (he : l[k]? = some e) (hp : l[k - 1]? = some p) (h : lss p.1 e.1 = false) => show toB (entsP l) = false from toB_false (fun hp2 => by
      have := adj_rise hp2.2.1 (k - 1) p.1 e.1 (nmE_at hp) (by rw [show k - 1 + 1 = k by omega]; exact nmE_at he)
      rw [this] at h
      cases h))
    generalize toB (entsP l) = X at HY HN1 HN2 HN3 ⊢
    go_enter Tryz.func86, Tryz.ntmps86
    go_wp2
    go_loopg [10] l.length (fun g s10 wr => ∃ k : Nat, s10 = .int .i64 k ∧ k ≤ l.length ∧ g = l.length - k ∧ gdP (l.take k) ∧ Below w.heap.size w wr)
    case atStart => exact ⟨0, rfl, Nat.zero_le _, rfl, gdP_nil, Below.refl _ _⟩
    case round =>
      obtain ⟨k, rfl, hk, rfl, hgd, hbr⟩ := hrel
      have HGD := Lib.hid hgd
      have HB := Lib.hid hbr
      clear hgd hbr
      by_cases hlt : k < l.length
      · obtain ⟨e, he⟩ : ∃ e, l[k]? = some e := ⟨_, List.getElem?_eq_getElem hlt⟩
        obtain ⟨ad, rfl, c0, c1⟩ := ents_get (HR.out.below HB.out) he
        have HE := Lib.hid he
        have HNM := Lib.hid (fun W => Name_any (bA e.1) W (by rw [size_bA]; have := hsz e (List.mem_of_getElem? he); unfold maxLen; omega))
        rw [nam_nok, tl_bA] at HNM
        clear he
        obtain ⟨NK, hNK⟩ : ∃ NK, nok e.1 = NK := ⟨_, rfl⟩
        rw [hNK] at HNM
        have HK := Lib.hid hNK
        clear hNK
        have hbA := ba wr (.cells #[.string (bA e.1), .int .i64 e.2] 126)
        have HBA := Lib.hid (bt hbA HB.out)
        have hadl : (ad.add (k * 2)).block < wr.heap.size := World.block_lt_of_cell? _ _ c0
        cases NK with
        | false =>
          go_wp2_with fail
          refine (HNM.out _).mono ?_
          rintro e3 w3 ⟨rfl, rfl⟩
          go_wp2
          go_ret
          exact ⟨ret_bool (HN1.out k e HE.out HK.out).symm, HBA.out⟩
        | true =>
          by_cases h2 : e.2 < 1
          · go_wp2_with fail
            refine (HNM.out _).mono ?_
            rintro e3 w3 ⟨rfl, rfl⟩
            go_wp2
            go_ret
            exact ⟨ret_bool (HN2.out k e HE.out h2).symm, HBA.out⟩
          · by_cases h0 : k = 0
            · have hk0 : decide (0 < k) = false := by simp; omega
              have hk1 : ¬ (0 : Int) < (k : Int) := by omega
              have HK0 := Lib.hid h0
              clear h0
              go_wp2_with fail
              refine (HNM.out _).mono ?_
              rintro e3 w3 ⟨rfl, rfl⟩
              have HH2 := Lib.hid h2
              go_wp2_with fail
              go_quiet (fail)
              go_wp2
              go_roundg (l.length - (k + 1))
              case measure => omega
              case rel => exact ⟨k + 1, by go_num, by omega, rfl, gdP_snoc HE.out HGD.out HK.out (by have := HH2.out; omega) (.inl HK0.out), bdN HBA.out _⟩
            · obtain ⟨p, hp⟩ : ∃ p, l[k - 1]? = some p := ⟨_, List.getElem?_eq_getElem (by omega)⟩
              obtain ⟨ad2, hA2, d0, d1⟩ := ents_get (HR.out.below HB.out) hp
              injection hA2 with hA2
              subst hA2
              have HP := Lib.hid hp
              clear hp
              have d0' := bc hbA d0
              obtain ⟨j, hj⟩ : ∃ j, j = k - 1 := ⟨_, rfl⟩
              rw [← hj] at d0 d1 d0' HP
              have kj1 : (k : Int) - 1 = (j : Int) := by omega
              have kj2 : IntKind.i64.wrap ((k : Int) - 1) = (j : Int) := by rw [IntKind.wrap_i64]; omega
              have kj3 : (j : Int) < (l.length : Int) := by omega
              have kj4 : j < l.length := by omega
              have hk0 : decide (0 < k) = true := by simp; omega
              have hk1 : (0 : Int) < (k : Int) := by omega
              have HJ := Lib.hid hj
              have HK0 := Lib.hid h0
              have HH2 := Lib.hid h2
              clear hj h0 d1 hbA
              by_cases hl : lss p.1 e.1 = true
              · obtain ⟨m1, m2⟩ := cmp_lt hl
                have HL := Lib.hid hl
                clear hl
                go_wp2_with fail
                refine (HNM.out _).mono ?_
                rintro e3 w3 ⟨rfl, rfl⟩
                go_wp2_with fail
                go_quiet (fail)
                go_wp2
                go_roundg (l.length - (k + 1))
                case measure => omega
                case rel => exact ⟨k + 1, by go_num, by omega, rfl, gdP_snoc HE.out HGD.out HK.out (by have := HH2.out; omega) (.inr ⟨p, by rw [← HJ.out]; exact HP.out, HL.out⟩), bdN HBA.out _⟩
              · have hl' : lss p.1 e.1 = false := by simpa using hl
                have HF := Lib.hid (HN3.out k e p (by have := HK0.out; omega) HE.out (by rw [← HJ.out]; exact HP.out) hl')
                clear hl
                rcases cmp_ge hl' with ⟨m1, m2⟩ | ⟨m1, m2⟩
                all_goals (
                  clear hl'
                  go_wp2_with fail
                  refine (HNM.out _).mono ?_
                  rintro e3 w3 ⟨rfl, rfl⟩
                  go_wp2_with fail
                  go_quiet (fail)
                  go_wp2
                  go_ret
                  exact ⟨ret_bool HF.out.symm, bdN HBA.out _⟩)
      · have hY := HY.out (by have := HGD.out; rw [List.take_of_length_le (by omega)] at this; exact this)
        have HY2 := Lib.hid hY
        clear hY
        go_wp2
        go_ret
        exact ⟨ret_bool HY2.out.symm, HB.out⟩
  · have h8' : (8 : Int) < (l.length : Int) := by omega
    have HF := Lib.hid (show toB (entsP l) = false from toB_false (fun h => h8 h.2.2))
    clear h8
    go_enter Tryz.func86, Tryz.ntmps86
    go_wp2
    go_ret
    exact ⟨ret_bool HF.out.symm, Below.refl _ _⟩
end Go.Proofs.YtnkjaocmfhjnoaaGreat
namespace Go.Proofs.YtnkjaocmfhjnoaaGreat
open Go Go.RowKit
set_option maxRecDepth 100000

structure Few (n : Nd) : Prop where
  data : n.data.length ≤ 1000
  ents : n.ents.length ≤ 1000
  names : ∀ e ∈ n.ents, e.1.length ≤ 1000
  target : n.target.length ≤ 1000
theorem len0_iff (l : Nm) : (((bA l).toList == ([] : List UInt8)) = true) ↔ l = [] := by rw [bA_list]; simp
theorem eq_nil_of (l : Nm) (h : l = []) : ((bA l).toList == ([] : List UInt8)) = true := (len0_iff l).2 h
theorem ne_nil_of (l : Nm) (h : ¬ l = []) : ((bA l).toList == ([] : List UInt8)) = false := by
  cases hb : ((bA l).toList == ([] : List UInt8)) with
  | false => rfl
  | true => exact absurd ((len0_iff l).1 hb) h
theorem int0 {α : Type} {l : List α} (h : l = []) : ((l.length : Int) == 0) = true := by rw [h]; rfl
theorem int1 {α : Type} {l : List α} (h : ¬ l = []) : ((l.length : Int) == 0) = false := by
  rw [beq_eq_false_iff_ne]
  intro e
  exact h (List.eq_nil_of_length_eq_zero (by omega))
set_option maxRecDepth 100000 in
set_option maxHeartbeats 4000000 in
theorem right_any (n : Nd) (vd ve : Value) (w : World) (hd : BytesR w vd n.data) (he : EntsR w ve n.ents) (hf : Few n) :
    Calls Tryz.prog 50 #[nodeV n vd ve] w fun e w' => e = .returned (.bool (toB (rightP n))) ∧ Below w.heap.size w w' := by
  have HB1 := Lib.hid (ba w (.cells (ndC n vd ve) 65))
  have HER := Lib.hid (fun W (hb : Below (w.alloc (.cells (ndC n vd ve) 65)).heap.size (w.alloc (.cells (ndC n vd ve) 65)) W) => entsRight_any ve n.ents W ((box_ents (vd := vd) he).below hb) hf.ents hf.names)
  have HFT := Lib.hid (fun W => Fits_any (bA n.target) W (by rw [size_bA]; have := hf.target; unfold maxLen; omega))
  rw [fit_fok, tl_bA] at HFT
  have U1 := Lib.hid (fun W => upTo_any 4095 n.mode W)
  have U2 := Lib.hid (fun W => upTo_any 65535 n.uid W)
  have U3 := Lib.hid (fun W => upTo_any 65535 n.gid W)
  obtain ⟨A1, c1, rfl⟩ := bytes_form hd rfl
  obtain ⟨A2, c2, rfl⟩ := ents_form he rfl
  have hdl := hf.data
  have hel := hf.ents
  clear hd he hf
  unfold nodeV
  obtain ⟨u1, hu1⟩ : ∃ u, upB 4095 n.mode = u := ⟨_, rfl⟩
  obtain ⟨u2, hu2⟩ : ∃ u, upB 65535 n.uid = u := ⟨_, rfl⟩
  obtain ⟨u3, hu3⟩ : ∃ u, upB 65535 n.gid = u := ⟨_, rfl⟩
  rw [hu1] at U1
  rw [hu2] at U2
  rw [hu3] at U3
  cases u1 with
  | false =>
    have HX := Lib.hid (show toB (rightP n) = false from toB_false (fun h => upB_not hu1 h.1.1))
    clear hu1 hu2 hu3
    generalize toB (rightP n) = X at HX ⊢
    go_enter Tryz.func50, Tryz.ntmps50
    go_wp2_with fail
    refine (U1.out _).mono ?_
    rintro e w' ⟨rfl, rfl⟩
    go_wp2
    go_ret
    exact ⟨ret_bool (by first | exact HX.out.symm | exact (decide_eq_false (by omega)).trans HX.out.symm), HB1.out⟩
  | true =>
    cases u2 with
    | false =>
      have HX := Lib.hid (show toB (rightP n) = false from toB_false (fun h => upB_not hu2 h.1.2.1))
      clear hu1 hu2 hu3
      generalize toB (rightP n) = X at HX ⊢
      go_enter Tryz.func50, Tryz.ntmps50
      go_wp2_with fail
      refine (U1.out _).mono ?_
      rintro e w' ⟨rfl, rfl⟩
      go_wp2_with fail
      refine (U2.out _).mono ?_
      rintro e w' ⟨rfl, rfl⟩
      go_wp2
      go_ret
      exact ⟨ret_bool (by first | exact HX.out.symm | exact (decide_eq_false (by omega)).trans HX.out.symm), HB1.out⟩
    | true =>
      cases u3 with
      | false =>
        have HX := Lib.hid (show toB (rightP n) = false from toB_false (fun h => upB_not hu3 h.1.2.2))
        clear hu1 hu2 hu3
        generalize toB (rightP n) = X at HX ⊢
        go_enter Tryz.func50, Tryz.ntmps50
        go_wp2_with fail
        refine (U1.out _).mono ?_
        rintro e w' ⟨rfl, rfl⟩
        go_wp2_with fail
        refine (U2.out _).mono ?_
        rintro e w' ⟨rfl, rfl⟩
        go_wp2_with fail
        refine (U3.out _).mono ?_
        rintro e w' ⟨rfl, rfl⟩
        go_wp2
        go_ret
        exact ⟨ret_bool (by first | exact HX.out.symm | exact (decide_eq_false (by omega)).trans HX.out.symm), HB1.out⟩
      | true =>
        have hH : headP n := ⟨upB_iff.1 hu1, upB_iff.1 hu2, upB_iff.1 hu3⟩
        clear hu1 hu2 hu3
        by_cases k1 : n.kind = 1
        · have hk : (n.kind == 1) = true := by simpa using k1
          have hX : rightP n ↔ n.ents = [] ∧ n.target = [] ∧ n.data.length ≤ 48 := by
            constructor
            · rintro ⟨-, h | h | h⟩
              · exact h.2
              · omega
              · omega
            · exact fun h => ⟨hH, .inl ⟨k1, h⟩⟩
          clear hH k1
          by_cases e1 : n.ents = []
          · have q1 := int0 e1
            by_cases e2 : n.target = []
            · have q2 := eq_nil_of _ e2
              by_cases e3 : n.data.length ≤ 48
              · have q3 : (n.data.length : Int) ≤ 48 := by omega
                have HX := Lib.hid (show toB (rightP n) = true from toB_true (hX.2 ⟨e1, e2, e3⟩))
                clear hX e1 e2 e3
                generalize toB (rightP n) = X at HX ⊢
                go_enter Tryz.func50, Tryz.ntmps50
                go_wp2_with fail
                refine (U1.out _).mono ?_
                rintro e w' ⟨rfl, rfl⟩
                go_wp2_with fail
                refine (U2.out _).mono ?_
                rintro e w' ⟨rfl, rfl⟩
                go_wp2_with fail
                refine (U3.out _).mono ?_
                rintro e w' ⟨rfl, rfl⟩
                go_wp2
                go_ret
                exact ⟨ret_bool (by first | exact HX.out.symm | exact (decide_eq_false (by omega)).trans HX.out.symm), HB1.out⟩
              · have q3 : ¬ (n.data.length : Int) ≤ 48 := by omega
                have HX := Lib.hid (show toB (rightP n) = false from toB_false (fun h => e3 (hX.1 h).2.2))
                clear hX e1 e2 e3
                generalize toB (rightP n) = X at HX ⊢
                go_enter Tryz.func50, Tryz.ntmps50
                go_wp2_with fail
                refine (U1.out _).mono ?_
                rintro e w' ⟨rfl, rfl⟩
                go_wp2_with fail
                refine (U2.out _).mono ?_
                rintro e w' ⟨rfl, rfl⟩
                go_wp2_with fail
                refine (U3.out _).mono ?_
                rintro e w' ⟨rfl, rfl⟩
                go_wp2
                go_ret
                exact ⟨ret_bool (by first | exact HX.out.symm | exact (decide_eq_false (by omega)).trans HX.out.symm), HB1.out⟩
            · have q2 := ne_nil_of _ e2
              have HX := Lib.hid (show toB (rightP n) = false from toB_false (fun h => e2 (hX.1 h).2.1))
              clear hX e1 e2
              generalize toB (rightP n) = X at HX ⊢
              go_enter Tryz.func50, Tryz.ntmps50
              go_wp2_with fail
              refine (U1.out _).mono ?_
              rintro e w' ⟨rfl, rfl⟩
              go_wp2_with fail
              refine (U2.out _).mono ?_
              rintro e w' ⟨rfl, rfl⟩
              go_wp2_with fail
              refine (U3.out _).mono ?_
              rintro e w' ⟨rfl, rfl⟩
              go_wp2
              go_ret
              exact ⟨ret_bool (by first | exact HX.out.symm | exact (decide_eq_false (by omega)).trans HX.out.symm), HB1.out⟩
          · have q1 := int1 e1
            have HX := Lib.hid (show toB (rightP n) = false from toB_false (fun h => e1 (hX.1 h).1))
            clear hX e1
            generalize toB (rightP n) = X at HX ⊢
            go_enter Tryz.func50, Tryz.ntmps50
            go_wp2_with fail
            refine (U1.out _).mono ?_
            rintro e w' ⟨rfl, rfl⟩
            go_wp2_with fail
            refine (U2.out _).mono ?_
            rintro e w' ⟨rfl, rfl⟩
            go_wp2_with fail
            refine (U3.out _).mono ?_
            rintro e w' ⟨rfl, rfl⟩
            go_wp2
            go_ret
            exact ⟨ret_bool (by first | exact HX.out.symm | exact (decide_eq_false (by omega)).trans HX.out.symm), HB1.out⟩
        · have hk : (n.kind == 1) = false := by simpa using k1
          by_cases k2 : n.kind = 2
          · have hk2 : (n.kind == 2) = true := by simpa using k2
            have hX : rightP n ↔ n.data = [] ∧ n.target = [] ∧ entsP n.ents := by
              constructor
              · rintro ⟨-, h | h | h⟩
                · omega
                · exact h.2
                · omega
              · exact fun h => ⟨hH, .inr (.inl ⟨k2, h⟩)⟩
            clear hH k1 k2
            by_cases e1 : n.data = []
            · have q1 := int0 e1
              by_cases e2 : n.target = []
              · have q2 := eq_nil_of _ e2
                have HX := Lib.hid (show toB (rightP n) = toB (entsP n.ents) by
                  by_cases h : entsP n.ents
                  · rw [toB_true h, toB_true (hX.2 ⟨e1, e2, h⟩)]
                  · rw [toB_false h, toB_false (fun h2 => h (hX.1 h2).2.2)])
                clear hX e1 e2
                generalize toB (entsP n.ents) = Y at HX HER
                generalize toB (rightP n) = X at HX ⊢
                go_enter Tryz.func50, Tryz.ntmps50
                go_wp2_with fail
                refine (U1.out _).mono ?_
                rintro e w' ⟨rfl, rfl⟩
                go_wp2_with fail
                refine (U2.out _).mono ?_
                rintro e w' ⟨rfl, rfl⟩
                go_wp2_with fail
                refine (U3.out _).mono ?_
                rintro e w' ⟨rfl, rfl⟩
                go_wp2_with fail
                refine (HER.out _ (Below.refl _ _)).mono ?_
                rintro e w2 ⟨rfl, hb2⟩
                have HB2 := Lib.hid (bt hb2 HB1.out)
                clear hb2
                go_wp2
                go_ret
                exact ⟨ret_bool HX.out.symm, HB2.out⟩
              · have q2 := ne_nil_of _ e2
                have HX := Lib.hid (show toB (rightP n) = false from toB_false (fun h => e2 (hX.1 h).2.1))
                clear hX e1 e2
                generalize toB (rightP n) = X at HX ⊢
                go_enter Tryz.func50, Tryz.ntmps50
                go_wp2_with fail
                refine (U1.out _).mono ?_
                rintro e w' ⟨rfl, rfl⟩
                go_wp2_with fail
                refine (U2.out _).mono ?_
                rintro e w' ⟨rfl, rfl⟩
                go_wp2_with fail
                refine (U3.out _).mono ?_
                rintro e w' ⟨rfl, rfl⟩
                go_wp2
                go_ret
                exact ⟨ret_bool (by first | exact HX.out.symm | exact (decide_eq_false (by omega)).trans HX.out.symm), HB1.out⟩
            · have q1 := int1 e1
              have HX := Lib.hid (show toB (rightP n) = false from toB_false (fun h => e1 (hX.1 h).1))
              clear hX e1
              generalize toB (rightP n) = X at HX ⊢
              go_enter Tryz.func50, Tryz.ntmps50
              go_wp2_with fail
              refine (U1.out _).mono ?_
              rintro e w' ⟨rfl, rfl⟩
              go_wp2_with fail
              refine (U2.out _).mono ?_
              rintro e w' ⟨rfl, rfl⟩
              go_wp2_with fail
              refine (U3.out _).mono ?_
              rintro e w' ⟨rfl, rfl⟩
              go_wp2
              go_ret
              exact ⟨ret_bool (by first | exact HX.out.symm | exact (decide_eq_false (by omega)).trans HX.out.symm), HB1.out⟩
          · have hk2 : (n.kind == 2) = false := by simpa using k2
            by_cases k3 : n.kind = 3
            · have hk3 : (n.kind == 3) = true := by simpa using k3
              have hX : rightP n ↔ n.data = [] ∧ n.ents = [] ∧ n.mode = 511 ∧ fok n.target = true := by
                constructor
                · rintro ⟨-, h | h | h⟩
                  · omega
                  · omega
                  · exact h.2
                · exact fun h => ⟨hH, .inr (.inr ⟨k3, h⟩)⟩
              clear hH k1 k2 k3
              by_cases e1 : n.data = []
              · have q1 := int0 e1
                by_cases e2 : n.ents = []
                · have q2 := int0 e2
                  by_cases e3 : n.mode = 511
                  · have q3 : (n.mode == 511) = true := by simpa using e3
                    have HX := Lib.hid (show toB (rightP n) = fok n.target by
                      cases h : fok n.target with
                      | true => exact toB_true (hX.2 ⟨e1, e2, e3, h⟩)
                      | false => exact toB_false (fun h2 => by have := (hX.1 h2).2.2.2; rw [h] at this; cases this))
                    clear hX e1 e2 e3
                    generalize fok n.target = Y at HX HFT
                    generalize toB (rightP n) = X at HX ⊢
                    go_enter Tryz.func50, Tryz.ntmps50
                    go_wp2_with fail
                    refine (U1.out _).mono ?_
                    rintro e w' ⟨rfl, rfl⟩
                    go_wp2_with fail
                    refine (U2.out _).mono ?_
                    rintro e w' ⟨rfl, rfl⟩
                    go_wp2_with fail
                    refine (U3.out _).mono ?_
                    rintro e w' ⟨rfl, rfl⟩
                    go_wp2_with fail
                    refine (HFT.out _).mono ?_
                    rintro e w' ⟨rfl, rfl⟩
                    go_wp2
                    go_ret
                    exact ⟨ret_bool (by first | exact HX.out.symm | exact (decide_eq_false (by omega)).trans HX.out.symm), HB1.out⟩
                  · have q3 : (n.mode == 511) = false := by simpa using e3
                    have HX := Lib.hid (show toB (rightP n) = false from toB_false (fun h => e3 (hX.1 h).2.2.1))
                    clear hX e1 e2 e3
                    generalize toB (rightP n) = X at HX ⊢
                    go_enter Tryz.func50, Tryz.ntmps50
                    go_wp2_with fail
                    refine (U1.out _).mono ?_
                    rintro e w' ⟨rfl, rfl⟩
                    go_wp2_with fail
                    refine (U2.out _).mono ?_
                    rintro e w' ⟨rfl, rfl⟩
                    go_wp2_with fail
                    refine (U3.out _).mono ?_
                    rintro e w' ⟨rfl, rfl⟩
                    go_wp2
                    go_ret
                    exact ⟨ret_bool (by first | exact HX.out.symm | exact (decide_eq_false (by omega)).trans HX.out.symm), HB1.out⟩
                · have q2 := int1 e2
                  have HX := Lib.hid (show toB (rightP n) = false from toB_false (fun h => e2 (hX.1 h).2.1))
                  clear hX e1 e2
                  generalize toB (rightP n) = X at HX ⊢
                  go_enter Tryz.func50, Tryz.ntmps50
                  go_wp2_with fail
                  refine (U1.out _).mono ?_
                  rintro e w' ⟨rfl, rfl⟩
                  go_wp2_with fail
                  refine (U2.out _).mono ?_
                  rintro e w' ⟨rfl, rfl⟩
                  go_wp2_with fail
                  refine (U3.out _).mono ?_
                  rintro e w' ⟨rfl, rfl⟩
                  go_wp2
                  go_ret
                  exact ⟨ret_bool (by first | exact HX.out.symm | exact (decide_eq_false (by omega)).trans HX.out.symm), HB1.out⟩
              · have q1 := int1 e1
                have HX := Lib.hid (show toB (rightP n) = false from toB_false (fun h => e1 (hX.1 h).1))
                clear hX e1
                generalize toB (rightP n) = X at HX ⊢
                go_enter Tryz.func50, Tryz.ntmps50
                go_wp2_with fail
                refine (U1.out _).mono ?_
                rintro e w' ⟨rfl, rfl⟩
                go_wp2_with fail
                refine (U2.out _).mono ?_
                rintro e w' ⟨rfl, rfl⟩
                go_wp2_with fail
                refine (U3.out _).mono ?_
                rintro e w' ⟨rfl, rfl⟩
                go_wp2
                go_ret
                exact ⟨ret_bool (by first | exact HX.out.symm | exact (decide_eq_false (by omega)).trans HX.out.symm), HB1.out⟩
            · have hk3 : (n.kind == 3) = false := by simpa using k3
              have HX := Lib.hid (show toB (rightP n) = false from toB_false (fun h => by
                rcases h.2 with h | h | h
                · exact k1 h.1
                · exact k2 h.1
                · exact k3 h.1))
              clear hH k1 k2 k3
              generalize toB (rightP n) = X at HX ⊢
              go_enter Tryz.func50, Tryz.ntmps50
              go_wp2_with fail
              refine (U1.out _).mono ?_
              rintro e w' ⟨rfl, rfl⟩
              go_wp2_with fail
              refine (U2.out _).mono ?_
              rintro e w' ⟨rfl, rfl⟩
              go_wp2_with fail
              refine (U3.out _).mono ?_
              rintro e w' ⟨rfl, rfl⟩
              go_wp2
              go_ret
              exact ⟨ret_bool (by first | exact HX.out.symm | exact (decide_eq_false (by omega)).trans HX.out.symm), HB1.out⟩
end Go.Proofs.YtnkjaocmfhjnoaaGreat
namespace Go.Proofs.YtnkjaocmfhjnoaaGreat
open Go Go.RowKit
set_option maxRecDepth 100000

theorem take_eq_snoc {α : Type} {a b : List α} {k : Nat} {x : α} (h : a.take k = b.take k) (ha : a[k]? = some x) (hb : b[k]? = some x) : a.take (k + 1) = b.take (k + 1) := by rw [take_snoc' ha, take_snoc' hb, h]
set_option maxRecDepth 100000 in
set_option maxHeartbeats 4000000 in
theorem alikeB_any (v v' : Value) (l m : List UInt8) (w : World) (hR : BytesR w v l) (hR' : BytesR w v' m) (hl : l.length ≤ 1000) (_hm : m.length ≤ 1000) :
    Calls Tryz.prog 51 #[v, v'] w fun e w' => e = .returned (.bool (toB (l = m))) ∧ Below w.heap.size w w' := by
  obtain ⟨A, c, rfl⟩ := bytes_form hR rfl
  obtain ⟨A', c', rfl⟩ := bytes_form hR' rfl
  have HR := Lib.hid hR
  have HR' := Lib.hid hR'
  clear hR hR'
  by_cases hlen : l.length = m.length
  · have q0 : ((l.length : Int) != (m.length : Int)) = false := by rw [hlen]; simp
    have HY := Lib.hid (show l.take l.length = m.take l.length → toB (l = m) = true from fun h => toB_true (by rw [List.take_length, hlen, List.take_length] at h; exact h))
    have HN := Lib.hid (fun (k : Nat) (x y : UInt8) (hx : l[k]? = some x) (hy : m[k]? = some y) (hne : ¬ x = y) => show toB (l = m) = false from toB_false (fun h => hne (by rw [h, hy] at hx; injection hx with hx; exact hx.symm)))
    have hml : m.length = l.length := hlen.symm
    have HML := Lib.hid hml
    generalize toB (l = m) = X at HY HN ⊢
    rw [hml] at HR' q0 ⊢
    clear hlen hml
    go_enter Tryz.func51, Tryz.ntmps51
    go_wp2
    go_loopg [13] l.length (fun g s wr => ∃ (k nq : Nat), s = .int .i64 k ∧ k ≤ l.length ∧ g = l.length - k ∧ l.take k = m.take k ∧ wr = w.drewN nq)
    case atStart => exact ⟨0, 0, rfl, Nat.zero_le _, rfl, rfl, rfl⟩
    case round =>
      obtain ⟨k, nq, rfl, hk, rfl, htk, rfl⟩ := hrel
      have HT := Lib.hid htk
      clear htk
      by_cases hlt : k < l.length
      · obtain ⟨x, hx⟩ : ∃ x, l[k]? = some x := ⟨_, List.getElem?_eq_getElem hlt⟩
        obtain ⟨y, hy⟩ : ∃ y, m[k]? = some y := ⟨_, List.getElem?_eq_getElem (by rw [HML.out]; exact hlt)⟩
        obtain ⟨ad, rfl, c0⟩ := bytes_get HR.out hx
        obtain ⟨ad', rfl, c1⟩ := bytes_get HR'.out hy
        have HX := Lib.hid hx
        have HY2 := Lib.hid hy
        clear hx hy
        by_cases hxy : x = y
        · subst hxy
          have q1 : (co x != co x) = false := by simp
          go_wp2
          go_quiet (fail)
          go_wp2
          go_roundg (l.length - (k + 1))
          case measure => omega
          case rel => exact ⟨k + 1, _, by go_num, by omega, rfl, take_eq_snoc HT.out HX.out HY2.out, rfl⟩
        · have q1 : (co x != co y) = true := by simp only [bne_iff_ne, ne_eq]; exact fun e => hxy (co_inj e)
          have HF := Lib.hid (HN.out k x y HX.out HY2.out hxy)
          clear hxy
          go_wp2
          go_quiet (fail)
          go_wp2
          go_ret
          exact ⟨ret_bool HF.out.symm, ⟨rfl, rfl, rfl, Nat.le_refl _, fun _ _ => rfl⟩⟩
      · have HF := Lib.hid (HY.out (by have := HT.out; rw [show k = l.length by omega] at this; exact this))
        go_wp2
        go_ret
        exact ⟨ret_bool HF.out.symm, ⟨rfl, rfl, rfl, Nat.le_refl _, fun _ _ => rfl⟩⟩
  · have q0 : ((l.length : Int) != (m.length : Int)) = true := by simp only [bne_iff_ne, ne_eq]; omega
    have HF := Lib.hid (show toB (l = m) = false from toB_false (fun h => hlen (by rw [h])))
    clear hlen
    go_enter Tryz.func51, Tryz.ntmps51
    go_wp2
    go_ret
    exact ⟨ret_bool HF.out.symm, Below.refl _ _⟩
set_option maxRecDepth 100000 in
set_option maxHeartbeats 4000000 in
theorem alikeE_any (v v' : Value) (l m : List En) (w : World) (hR : EntsR w v l) (hR' : EntsR w v' m) (hl : l.length ≤ 1000) (_hm : m.length ≤ 1000) :
    Calls Tryz.prog 52 #[v, v'] w fun e w' => e = .returned (.bool (toB (l = m))) ∧ Below w.heap.size w w' := by
  obtain ⟨A, c, rfl⟩ := ents_form hR rfl
  obtain ⟨A', c', rfl⟩ := ents_form hR' rfl
  have HR := Lib.hid hR
  have HR' := Lib.hid hR'
  clear hR hR'
  by_cases hlen : l.length = m.length
  · have q0 : ((l.length : Int) != (m.length : Int)) = false := by rw [hlen]; simp
    have HY := Lib.hid (show l.take l.length = m.take l.length → toB (l = m) = true from fun h => toB_true (by rw [List.take_length, hlen, List.take_length] at h; exact h))
    have HN := Lib.hid (fun (k : Nat) (x y : En) (hx : l[k]? = some x) (hy : m[k]? = some y) (hne : ¬ x = y) => show toB (l = m) = false from toB_false (fun h => hne (by rw [h, hy] at hx; injection hx with hx; exact hx.symm)))
    have hml : m.length = l.length := hlen.symm
    have HML := Lib.hid hml
    generalize toB (l = m) = X at HY HN ⊢
    rw [hml] at HR' q0 ⊢
    clear hlen hml
    go_enter Tryz.func52, Tryz.ntmps52
    go_wp2
    go_loopg [13] l.length (fun g s wr => ∃ (k nq : Nat), s = .int .i64 k ∧ k ≤ l.length ∧ g = l.length - k ∧ l.take k = m.take k ∧ wr = w.drewN nq)
    case atStart => exact ⟨0, 0, rfl, Nat.zero_le _, rfl, rfl, rfl⟩
    case round =>
      obtain ⟨k, nq, rfl, hk, rfl, htk, rfl⟩ := hrel
      have HT := Lib.hid htk
      clear htk
      by_cases hlt : k < l.length
      · obtain ⟨x, hx⟩ : ∃ x, l[k]? = some x := ⟨_, List.getElem?_eq_getElem hlt⟩
        obtain ⟨y, hy⟩ : ∃ y, m[k]? = some y := ⟨_, List.getElem?_eq_getElem (by rw [HML.out]; exact hlt)⟩
        obtain ⟨ad, rfl, c0, d0⟩ := ents_get HR.out hx
        obtain ⟨ad', rfl, c1, d1⟩ := ents_get HR'.out hy
        have HX := Lib.hid hx
        have HY2 := Lib.hid hy
        clear hx hy
        by_cases hxy : x = y
        · subst hxy
          have q1 : ((bA x.1).toList == (bA x.1).toList && x.2 == x.2) = true := by simp
          have q2 : ((bA x.1).toList == (bA x.1).toList) = true := by simp
          have q3 : (x.2 == x.2) = true := by simp
          go_wp2
          go_quiet (fail)
          go_wp2
          go_roundg (l.length - (k + 1))
          case measure => omega
          case rel => exact ⟨k + 1, _, by go_num, by omega, rfl, take_eq_snoc HT.out HX.out HY2.out, rfl⟩
        · have q1 : ((bA x.1).toList == (bA y.1).toList && x.2 == y.2) = false := by
            rw [bA_list, bA_list, Bool.and_eq_false_iff, beq_eq_false_iff_ne, beq_eq_false_iff_ne]
            by_cases h1 : x.1 = y.1
            · exact .inr (fun h2 => hxy (Prod.ext h1 h2))
            · exact .inl h1
          have HF := Lib.hid (HN.out k x y HX.out HY2.out hxy)
          clear hxy
          obtain ⟨B1, hB1⟩ : ∃ B1, ((bA x.1).toList == (bA y.1).toList) = B1 := ⟨_, rfl⟩
          obtain ⟨B2, hB2⟩ : ∃ B2, (x.2 == y.2) = B2 := ⟨_, rfl⟩
          rw [hB1, hB2] at q1
          cases B1 <;> cases B2
          case true.true => cases q1
          all_goals (
            clear q1
            go_wp2
            go_quiet (fail)
            go_wp2
            go_ret
            exact ⟨ret_bool HF.out.symm, ⟨rfl, rfl, rfl, Nat.le_refl _, fun _ _ => rfl⟩⟩)
      · have HF := Lib.hid (HY.out (by have := HT.out; rw [show k = l.length by omega] at this; exact this))
        go_wp2
        go_ret
        exact ⟨ret_bool HF.out.symm, ⟨rfl, rfl, rfl, Nat.le_refl _, fun _ _ => rfl⟩⟩
  · have q0 : ((l.length : Int) != (m.length : Int)) = true := by simp only [bne_iff_ne, ne_eq]; omega
    have HF := Lib.hid (show toB (l = m) = false from toB_false (fun h => hlen (by rw [h])))
    clear hlen
    go_enter Tryz.func52, Tryz.ntmps52
    go_wp2
    go_ret
    exact ⟨ret_bool HF.out.symm, Below.refl _ _⟩
end Go.Proofs.YtnkjaocmfhjnoaaGreat
namespace Go.Proofs.YtnkjaocmfhjnoaaGreat
open Go Go.RowKit
set_option maxRecDepth 100000

theorem nd_eq {a b : Nd} (h1 : a.kind = b.kind) (h2 : a.mode = b.mode) (h3 : a.uid = b.uid) (h4 : a.gid = b.gid) (h5 : a.target = b.target) (h6 : a.data = b.data) (h7 : a.ents = b.ents) : a = b := by
  cases a
  cases b
  simp only at h1 h2 h3 h4 h5 h6 h7
  subst h1 h2 h3 h4 h5 h6 h7
  rfl
set_option maxRecDepth 100000 in
set_option maxHeartbeats 4000000 in
theorem same_any (a b : Nd) (vd ve vd' ve' : Value) (w : World) (hd : BytesR w vd a.data) (he : EntsR w ve a.ents) (hd' : BytesR w vd' b.data) (he' : EntsR w ve' b.ents) (hf : Few a) (hf' : Few b) :
    Calls Tryz.prog 23 #[nodeV a vd ve, nodeV b vd' ve'] w fun e w' => e = .returned (.bool (toB (a = b))) ∧ Below w.heap.size w w' := by
  obtain ⟨W1, hW1⟩ : ∃ W1, W1 = (w.alloc (.cells (ndC a vd ve) 65)).alloc (.cells (ndC b vd' ve') 65) := ⟨_, rfl⟩
  have hb1 : Below w.heap.size w W1 := by rw [hW1]; exact al (ba _ _) _
  have hka : Blk W1 w.heap.size 65 (ndC a vd ve) := by rw [hW1]; exact (Blk.new _ _ _).alloc _
  have hkb : Blk W1 (w.heap.size + 1) 65 (ndC b vd' ve') := by rw [hW1]; have := Blk.new (w.alloc (.cells (ndC a vd ve) 65)) 65 (ndC b vd' ve'); simpa using this
  have HAB := Lib.hid (alikeB_any vd vd' a.data b.data W1 (hd.below hb1) (hd'.below hb1) hf.data hf'.data)
  have HAE := Lib.hid (fun W (hb : Below W1.heap.size W1 W) => alikeE_any ve ve' a.ents b.ents W ((he.below hb1).below hb) ((he'.below hb1).below hb) hf.ents hf'.ents)
  have HB1 := Lib.hid hb1
  have HKA := Lib.hid hka
  have HKB := Lib.hid hkb
  obtain ⟨A1, c1, rfl⟩ := bytes_form hd rfl
  obtain ⟨A2, c2, rfl⟩ := ents_form he rfl
  obtain ⟨A3, c3, rfl⟩ := bytes_form hd' rfl
  obtain ⟨A4, c4, rfl⟩ := ents_form he' rfl
  clear hd he hd' he' hf hf' hb1 hka hkb
  subst hW1
  unfold nodeV
  by_cases h1 : a.kind = b.kind
  · have q1 : (a.kind == b.kind) = true := by simpa using h1
    by_cases h2 : a.mode = b.mode
    · have q2 : (a.mode == b.mode) = true := by simpa using h2
      by_cases h3 : a.uid = b.uid
      · have q3 : (a.uid == b.uid) = true := by simpa using h3
        by_cases h4 : a.gid = b.gid
        · have q4 : (a.gid == b.gid) = true := by simpa using h4
          by_cases h5 : a.target = b.target
          · have q5 : ((bA a.target).toList == (bA b.target).toList) = true := by rw [bA_list, bA_list]; simpa using h5
            have HX := Lib.hid (show toB (a = b) = (toB (a.data = b.data) && toB (a.ents = b.ents)) by
              by_cases h6 : a.data = b.data
              · by_cases h7 : a.ents = b.ents
                · rw [toB_true h6, toB_true h7, toB_true (nd_eq h1 h2 h3 h4 h5 h6 h7)]; rfl
                · rw [toB_false h7, toB_false (fun h => h7 (by rw [h])), Bool.and_false]
              · rw [toB_false h6, toB_false (fun h => h6 (by rw [h])), Bool.false_and])
            clear h1 h2 h3 h4 h5 
            generalize toB (a.data = b.data) = Y1 at HX HAB
            generalize toB (a.ents = b.ents) = Y2 at HX HAE
            generalize toB (a = b) = X at HX ⊢
            cases Y1 with
            | true =>
              go_enter Tryz.func23, Tryz.ntmps23
              go_wp2_with fail
              refine HAB.out.mono ?_
              rintro e w2 ⟨rfl, hb2⟩
              have HB2 := Lib.hid hb2
              obtain ⟨p0, p1, p2, p3, p4, p5, p6⟩ := (HKA.out.below hb2).c7
              obtain ⟨r0, r1, r2, r3, r4, r5, r6⟩ := (HKB.out.below hb2).c7
              clear hb2
              go_wp2_with fail
              refine (HAE.out w2 HB2.out).mono ?_
              rintro e w3 ⟨rfl, hb3⟩
              have HB3 := Lib.hid (bt hb3 (bt HB2.out HB1.out))
              clear hb3
              go_wp2
              go_ret
              exact ⟨ret_bool (by rw [HX.out]; rfl), HB3.out⟩
            | false =>
              go_enter Tryz.func23, Tryz.ntmps23
              go_wp2_with fail
              refine HAB.out.mono ?_
              rintro e w2 ⟨rfl, hb2⟩
              have HB2 := Lib.hid (bt hb2 HB1.out)
              clear hb2
              go_wp2
              go_ret
              exact ⟨ret_bool (by rw [HX.out]; rfl), HB2.out⟩
          · have q5 : ((bA a.target).toList == (bA b.target).toList) = false := by rw [bA_list, bA_list]; simpa using h5
            have HX := Lib.hid (show toB (a = b) = false from toB_false (fun h => h5 (by rw [h])))
            clear h1 h2 h3 h4 h5 HAB HAE
            generalize toB (a = b) = X at HX ⊢
            go_enter Tryz.func23, Tryz.ntmps23
            go_wp2
            go_ret
            exact ⟨ret_bool HX.out.symm, HB1.out⟩
        · have q4 : (a.gid == b.gid) = false := by simpa using h4
          have HX := Lib.hid (show toB (a = b) = false from toB_false (fun h => h4 (by rw [h])))
          clear h1 h2 h3 h4 HAB HAE
          generalize toB (a = b) = X at HX ⊢
          go_enter Tryz.func23, Tryz.ntmps23
          go_wp2
          go_ret
          exact ⟨ret_bool HX.out.symm, HB1.out⟩
      · have q3 : (a.uid == b.uid) = false := by simpa using h3
        have HX := Lib.hid (show toB (a = b) = false from toB_false (fun h => h3 (by rw [h])))
        clear h1 h2 h3 HAB HAE
        generalize toB (a = b) = X at HX ⊢
        go_enter Tryz.func23, Tryz.ntmps23
        go_wp2
        go_ret
        exact ⟨ret_bool HX.out.symm, HB1.out⟩
    · have q2 : (a.mode == b.mode) = false := by simpa using h2
      have HX := Lib.hid (show toB (a = b) = false from toB_false (fun h => h2 (by rw [h])))
      clear h1 h2 HAB HAE
      generalize toB (a = b) = X at HX ⊢
      go_enter Tryz.func23, Tryz.ntmps23
      go_wp2
      go_ret
      exact ⟨ret_bool HX.out.symm, HB1.out⟩
  · have q1 : (a.kind == b.kind) = false := by simpa using h1
    have HX := Lib.hid (show toB (a = b) = false from toB_false (fun h => h1 (by rw [h])))
    clear h1 HAB HAE
    generalize toB (a = b) = X at HX ⊢
    go_enter Tryz.func23, Tryz.ntmps23
    go_wp2
    go_ret
    exact ⟨ret_bool HX.out.symm, HB1.out⟩
end Go.Proofs.YtnkjaocmfhjnoaaGreat
namespace Go.Proofs.YtnkjaocmfhjnoaaGreat
open Go Go.RowKit
set_option maxRecDepth 100000

end Go.Proofs.YtnkjaocmfhjnoaaGreat
namespace Go.Proofs.YtnkjaocmfhjnoaaGreat
open Go Go.RowKit
set_option maxRecDepth 100000

attribute [local go_sem] cell_off4 cell_blk4
theorem any_drop {α : Type} {f : α → Bool} {l : List α} {k : Nat} {a : α} (h : l[k]? = some a) : (l.drop k).any f = (f a || (l.drop (k + 1)).any f) := by
  obtain ⟨h1, h2⟩ := List.getElem?_eq_some_iff.1 h
  rw [List.drop_eq_getElem_cons h1, List.any_cons, h2]
def inL (l : List Int) (n : Int) : Bool := l.any (fun x => x == n)
set_option maxRecDepth 100000 in
set_option maxHeartbeats 4000000 in
theorem sindex_any (v : Value) (l : List Int) (n : Int) (w : World) (h : IntsR w v l) (hl : l.length ≤ 1000) :
    Calls Tryz.prog 186 #[v, .int .i64 n] w fun e w' => (∃ r : Int, e = .returned (.int .i64 r) ∧ decide (0 ≤ r) = inL l n) ∧ w = w' := by
  obtain ⟨X, hX⟩ : ∃ X, inL l n = X := ⟨_, rfl⟩
  rw [hX]
  have HX0 := Lib.hid (show (l.drop 0).any (fun x => x == n) = X from hX)
  obtain ⟨A, c, rfl⟩ := ints_form h rfl
  have HE := Lib.hid h
  clear h hX
  go_enter Tryz.func186, Tryz.ntmps186
  go_wp2
  go_loopg [8] l.length (fun gh s8 wr => ∃ k : Nat, s8 = .int .i64 k ∧ k ≤ l.length ∧ gh = l.length - k ∧ (l.drop k).any (fun x => x == n) = X ∧ w = wr)
  case atStart => exact ⟨0, rfl, Nat.zero_le _, rfl, HX0.out, rfl⟩
  case round =>
    clear HX0
    obtain ⟨k, rfl, hk, rfl, hx, rfl⟩ := hrel
    by_cases hlt : k < l.length
    · have hlt' : (k : Int) < (l.length : Int) := by omega
      obtain ⟨a, hka⟩ : ∃ a, l[k]? = some a := ⟨_, List.getElem?_eq_getElem hlt⟩
      obtain ⟨ad, hA, d0⟩ := ints_get HE.out hka
      subst hA
      rw [any_drop hka] at hx
      clear hka
      cases q : (a == n)
      · have q2 : (n == a) = false := by
          rw [Bool.eq_false_iff] at q ⊢
          simp only [ne_eq, beq_iff_eq] at q ⊢
          exact fun h => q h.symm
        rw [q, Bool.false_or] at hx
        have HX := Lib.hid hx
        clear hx q
        go_wp2
        go_roundg (l.length - (k + 1))
        case measure => omega
        case rel => exact ⟨k + 1, by go_num, by omega, rfl, HX.out, rfl⟩
      · have q2 : (n == a) = true := by
          simp only [beq_iff_eq] at q ⊢
          exact q.symm
        rw [q] at hx
        have HX := Lib.hid (show decide (0 ≤ (k : Int)) = X by rw [decide_eq_true (by omega)]; exact hx)
        clear hx q
        go_wp2
        go_ret
        exact ⟨⟨_, rfl, HX.out⟩, rfl⟩
    · have hlt' : ¬ (k : Int) < (l.length : Int) := by omega
      rw [List.drop_eq_nil_of_le (by omega)] at hx
      have HX := Lib.hid (show decide (0 ≤ (-1 : Int)) = X from hx)
      clear hx
      go_wp2
      go_ret
      exact ⟨⟨_, rfl, HX.out⟩, rfl⟩
set_option maxRecDepth 100000 in
set_option maxHeartbeats 4000000 in
theorem scontains_any (v : Value) (l : List Int) (n : Int) (w : World) (h : IntsR w v l) (hl : l.length ≤ 1000) :
    Calls Tryz.prog 157 #[v, .int .i64 n] w fun e w' => e = .returned (.bool (inL l n)) ∧ w = w' := by
  have HI := Lib.hid (sindex_any v l n w h hl)
  obtain ⟨A, c, rfl⟩ := ints_form h rfl
  clear h hl
  go_enter Tryz.func157, Tryz.ntmps157
  go_wp2_with fail
  refine HI.out.mono ?_
  rintro e w4 ⟨⟨r, rfl, hr⟩, rfl⟩
  have HR := Lib.hid hr
  clear hr
  go_wp2
  go_ret
  exact ⟨ret_bool HR.out, rfl⟩
end Go.Proofs.YtnkjaocmfhjnoaaGreat
namespace Go.Proofs.YtnkjaocmfhjnoaaGreat
open Go Go.RowKit
set_option maxRecDepth 100000

end Go.Proofs.YtnkjaocmfhjnoaaGreat
namespace Go.Proofs.YtnkjaocmfhjnoaaGreat
open Go Go.RowKit
set_option maxRecDepth 100000

section
variable {w0 W W' : World} {vn vk v' : Value} {ln : List ByteArray} {lk : List Int}
end
theorem int_one (i : Int) : ∀ u ∈ [Value.int .i64 i], u.oneCell' = true := by
  intro u hu
  rw [List.mem_singleton] at hu
  subst hu
  rfl
end Go.Proofs.YtnkjaocmfhjnoaaGreat
namespace Go.Proofs.YtnkjaocmfhjnoaaGreat
open Go Go.RowKit
set_option maxRecDepth 100000

section
variable {wB wr w1 : World} {n : Nd} {vn vk v' : Value} {ln : List ByteArray} {lk : List Int} {o : Obj}
end
attribute [local go_sem] cell_off4 cell_blk4
end Go.Proofs.YtnkjaocmfhjnoaaGreat
