/-
  A node of a table: at, has. No condition.
-/
import Derived.Test.YtmapkmjhpebcbaaTab
namespace Go.Proofs.Ytmapkmjhpebcbaa
open Go Go.RowKit

attribute [local go_sem] cell_off4 cell_blk4
theorem nodeV_zero : nodeV Nd.zero (.slice none 0 0) (.slice none 0 0) = .agg ndZ := rfl
theorem bytesT_form {w : World} {v : Value} {l : List UInt8} (h : BytesT w v l) : ∃ A c, v = .slice A l.length c := bytes_form h.1 rfl
theorem entsT_form {w : World} {v : Value} {l : List En} (h : EntsT w v l) : ∃ A c, v = .slice A l.length c := ents_form h.1 rfl
set_option maxRecDepth 100000 in
set_option maxHeartbeats 4000000 in
theorem at_low (v : Value) (t : List Nd) (i : Int) (w : World) (h : TabP w v t) (hi : ¬ (1 ≤ i ∧ i ≤ t.length)) :
    Calls Try.prog 42 #[v, .int .i64 i] w fun e w' => e = .returned (.agg ndZ) ∧ Below w.heap.size w w' := by
  have HR := Lib.hid (fun W (hb : Below w.heap.size w W) => room_any v t W (h.below hb))
  have HB := Lib.hid (ba w (.cells ndZ 39))
  clear h
  by_cases h1 : i < 1
  · clear hi
    go_enter Try.func42, Try.ntmps42
    go_wp2
    exact bodyPost_ret (v := .agg ndZ) (by simp [results, Try.results42, go_sem]) rfl ⟨rfl, HB.out⟩
  · have h2 : (t.length : Int) < i := by omega
    clear hi
    go_enter Try.func42, Try.ntmps42
    go_wp2_with fail
    refine (HR.out _ (ba _ _)).mono ?_
    rintro e w' ⟨rfl, rfl⟩
    go_wp2
    exact bodyPost_ret (v := .agg ndZ) (by simp [results, Try.results42, go_sem]) rfl ⟨rfl, HB.out⟩
set_option maxRecDepth 100000 in
set_option maxHeartbeats 4000000 in
theorem at_some (g : Nat) (t : List Nd) (P : Nat → Prop) (k : Nat) (n : Nd) (w : World) (h : TabR w g t P) (hk : t[k]? = some n) (vd ve : Value) (ha : At7 w g (1 + k * 7) n vd ve) (hd : BytesT w vd n.data) (he : EntsT w ve n.ents) :
    Calls Try.prog 42 #[.pointer (some ⟨g, 0, none⟩), .int .i64 ((k : Int) + 1)] w fun e w' => e = .returned (nodeV n vd ve) ∧ Below w.heap.size w w' := by
  have HR := Lib.hid (fun W (hb : Below w.heap.size w W) => room_any (.pointer (some ⟨g, 0, none⟩)) t W ((h.below hb).ptr))
  have hlt : k < t.length := (List.getElem?_eq_some_iff.1 hk).1
  have hhi := h.hi
  have hg := h.lt
  have q1 : ¬ ((k : Int) + 1 < 1) := by omega
  have q2 : ¬ ((t.length : Int) < (k : Int) + 1) := by omega
  obtain ⟨c0, c1, c2, c3, c4, c5, c6⟩ := ha
  obtain ⟨A1, k1, rfl⟩ := bytesT_form hd
  obtain ⟨A2, k2, rfl⟩ := entsT_form he
  have HB := Lib.hid (ba w (.cells (ndC n (.slice A1 n.data.length k1) (.slice A2 n.ents.length k2)) 39))
  clear h hk hd he
  unfold nodeV
  go_enter Try.func42, Try.ntmps42
  go_wp2_with fail
  refine (HR.out _ (ba _ _)).mono ?_
  rintro e w' ⟨rfl, rfl⟩
  go_wp2
  exact bodyPost_ret (v := .agg (ndC n (.slice A1 n.data.length k1) (.slice A2 n.ents.length k2))) (by simp [results, Try.results42, go_sem]) rfl ⟨rfl, HB.out⟩
/-- at, of any table and any number. -/
theorem at_any (v : Value) (t : List Nd) (i : Int) (w : World) (h : TabP w v t) :
    Calls Try.prog 42 #[v, .int .i64 i] w fun e w' => ∃ vd ve, e = .returned (nodeV (tget t i) vd ve) ∧ BytesT w' vd (tget t i).data ∧ EntsT w' ve (tget t i).ents ∧ Below w.heap.size w w' := by
  by_cases hi : 1 ≤ i ∧ i ≤ t.length
  · rcases h with ⟨-, rfl⟩ | ⟨g, P, rfl, h⟩
    · exact absurd hi (by simp; omega)
    · obtain ⟨k, hk⟩ : ∃ k : Nat, i = (k : Int) + 1 := ⟨(i - 1).toNat, by omega⟩
      subst hk
      have hlt : k < t.length := by omega
      rw [tget_at hlt]
      obtain ⟨vd, ve, ha, hd, he, -, -⟩ := h.node k _ (List.getElem?_eq_getElem hlt)
      refine (at_some g t P k _ w h (List.getElem?_eq_getElem hlt) vd ve ha hd he).mono ?_
      rintro e w' ⟨rfl, hb⟩
      exact ⟨vd, ve, rfl, hd.below hb, he.below hb, hb⟩
  · rw [tget_out hi]
    refine (at_low v t i w h hi).mono ?_
    rintro e w' ⟨rfl, hb⟩
    exact ⟨_, _, rfl, BytesT.nil _, EntsT.nil _, hb⟩
/-- The kind of a node by value. -/
theorem kind_of (x : Int) (a1 a2 a3 a4 a5 a6 : Value) (w : World) : (Instr.field 39 (.agg #[.int .i64 x, a1, a2, a3, a4, a5, a6]) 0).run Try.prog w = .ok (.int .i64 x) w := by kernel_rfl
attribute [local go_sem] kind_of
set_option maxRecDepth 100000 in
set_option maxHeartbeats 4000000 in
theorem thas_any (v : Value) (t : List Nd) (i : Int) (w : World) (h : TabP w v t) :
    Calls Try.prog 39 #[v, .int .i64 i] w fun e w' => e = .returned (.bool (tis t i)) ∧ Below w.heap.size w w' := by
  have HA := Lib.hid (at_any v t i w h)
  have HX := Lib.hid (show ((tget t i).kind != 0) = tis t i by unfold tis; rw [Bool.eq_iff_iff]; simp)
  clear h
  generalize tis t i = X at HX ⊢
  generalize tget t i = n at HA HX
  go_enter Try.func39, Try.ntmps39
  go_wp2_with fail
  refine HA.out.mono ?_
  rintro e w' ⟨vd, ve, rfl, -, -, hb⟩
  have HB := Lib.hid hb
  clear hb
  unfold nodeV
  go_wp2
  go_ret
  exact ⟨ret_bool HX.out, HB.out⟩
end Go.Proofs.Ytmapkmjhpebcbaa
