/-
  Counting in a table: Used, Links, Parent. No condition.
-/
import Derived.Test.YtmapkmjhpebcbaaTabG
namespace Go.Proofs.Ytmapkmjhpebcbaa
open Go Go.RowKit

attribute [local go_sem] cell_off4 cell_blk4
theorem used_snoc {t : List Nd} {k : Nat} {n : Nd} (h : t[k]? = some n) : usedT (t.take (k + 1)) = usedT (t.take k) + if tis t ((k : Int) + 1) = true then 1 else 0 := by
  obtain ⟨hlt, hx⟩ := List.getElem?_eq_some_iff.1 h
  unfold usedT
  rw [take_snoc' h, List.countP_append, List.countP_cons, List.countP_nil, Nat.zero_add, tis, tget_at hlt, hx]
theorem used_take_le (t : List Nd) (k : Nat) : usedT (t.take k) ≤ k := Nat.le_trans List.countP_le_length (List.length_take_le _ _)
set_option maxRecDepth 100000 in
set_option maxHeartbeats 4000000 in
theorem used_any (v : Value) (t : List Nd) (w : World) (h : TabP w v t) :
    Calls Try.prog 27 #[v] w fun e w' => e = .returned (.int .i64 (usedT t : Int)) ∧ Below w.heap.size w w' := by
  have HRM := Lib.hid (fun W (hb : Below w.heap.size w W) => room_any v t W (h.below hb))
  have HH := Lib.hid (fun W i (hb : Below w.heap.size w W) => thas_any v t i W (h.below hb))
  have hhi := h.ok.2
  clear h
  go_enter Try.func27, Try.ntmps27
  go_wp2_with fail
  refine (HRM.out _ (Below.refl _ _)).mono ?_
  rintro e w3 ⟨rfl, rfl⟩
  go_wp2
  go_loopg [3, 7] t.length (fun gh s3 s7 wr => ∃ k : Nat, s3 = .int .i64 (usedT (t.take k) : Int) ∧ s7 = .int .i64 k ∧ k ≤ t.length ∧ gh = t.length - k ∧ Below w.heap.size w wr)
  case atStart => exact ⟨0, rfl, rfl, Nat.zero_le _, rfl, Below.refl _ _⟩
  case round =>
    obtain ⟨k, rfl, rfl, hk, rfl, hbr⟩ := hrel
    have HBR := Lib.hid hbr
    clear hbr
    by_cases hlt : k < t.length
    · have hlt' : (k : Int) < (t.length : Int) := by omega
      have j0 : IntKind.i64.wrap ((k : Int) + 1) = (k : Int) + 1 := by rw [IntKind.wrap_i64]; omega
      have HS := Lib.hid (used_snoc (List.getElem?_eq_getElem hlt))
      have hC := used_take_le t k
      generalize usedT (t.take k) = C at HS hC ⊢
      have HHK := HH.out wr ((k : Int) + 1) HBR.out
      generalize tis t ((k : Int) + 1) = X at HHK HS
      have HHK2 := Lib.hid HHK
      clear HHK
      cases X with
      | true =>
        have HX := Lib.hid (show (usedT (t.take (k + 1)) : Int) = (C : Int) + 1 by rw [HS.out, if_pos rfl]; rfl)
        go_wp2_with fail
        refine HHK2.out.mono ?_
        rintro e w4 ⟨rfl, hb4⟩
        have HB4 := Lib.hid (bt hb4 HBR.out)
        clear hb4
        go_wp2
        go_roundg (t.length - (k + 1))
        case measure => omega
        case rel => exact ⟨k + 1, by rw [HX.out], by go_num, by omega, rfl, HB4.out⟩
      | false =>
        have HX := Lib.hid (show (usedT (t.take (k + 1)) : Int) = (C : Int) by rw [HS.out, if_neg Bool.false_ne_true, Nat.add_zero])
        go_wp2_with fail
        refine HHK2.out.mono ?_
        rintro e w4 ⟨rfl, hb4⟩
        have HB4 := Lib.hid (bt hb4 HBR.out)
        clear hb4
        go_wp2
        go_roundg (t.length - (k + 1))
        case measure => omega
        case rel => exact ⟨k + 1, by rw [HX.out], by go_num, by omega, rfl, HB4.out⟩
    · have hlt' : ¬ (k : Int) < (t.length : Int) := by omega
      have HX := Lib.hid (show (usedT (t.take k) : Int) = (usedT t : Int) by rw [List.take_of_length_le (by omega)])
      generalize (usedT (t.take k) : Int) = C at HX ⊢
      go_wp2
      go_ret
      exact ⟨ret_int HX.out, HBR.out⟩
theorem link_snoc {t : List Nd} {k : Nat} {n : Nd} {i : Int} (h : t[k]? = some n) : linkT (t.take (k + 1)) i = linkT (t.take k) i + cntE n.ents i := by
  unfold linkT
  rw [take_snoc' h, List.map_append, List.sum_append, List.map_cons, List.map_nil, List.sum_cons, List.sum_nil, Nat.add_zero]
theorem ok_ents_le {t : List Nd} (h : okT t) {n : Nd} (hn : n ∈ t) : n.ents.length ≤ 8 := by
  rcases h n hn with q | q
  · rw [q]; exact Nat.zero_le _
  · rcases q.2 with q | q | q
    · rw [q.2.1]; exact Nat.zero_le _
    · exact q.2.2.2.2.2
    · rw [q.2.2.1]; exact Nat.zero_le _
theorem link_bd {t : List Nd} (h : okT t) (i : Int) : ∀ (k : Nat), linkT (t.take k) i ≤ 8 * k
  | 0 => by simp [linkT]
  | k + 1 => by
    have ih := link_bd h i k
    by_cases hlt : k < t.length
    · have hk := List.getElem?_eq_getElem hlt
      rw [link_snoc hk]
      have h1 := ok_ents_le h (List.getElem_mem hlt)
      have h2 := cnt_le (t[k]).ents i
      omega
    · rw [List.take_of_length_le (by omega)] at ih ⊢
      omega
theorem mem_few {t : List Nd} (h : okT t) {n : Nd} (hn : n ∈ t) : Few n := by
  rcases h n hn with q | q
  · rw [q]; exact zero_few
  · exact right_few q
set_option maxRecDepth 100000 in
set_option maxHeartbeats 4000000 in
theorem links_nil (i : Int) (w : World) :
    Calls Try.prog 23 #[.pointer none, .int .i64 i] w fun e w' => e = .returned (.int .i64 0) ∧ Below w.heap.size w w' := by
  have HRM := Lib.hid (fun W => room_any (.pointer none) [] W (TabP.none W))
  have HB := Lib.hid (Below.refl w.heap.size w)
  go_enter Try.func23, Try.ntmps23
  go_wp2_with fail
  refine (HRM.out _).mono ?_
  rintro e w3 ⟨rfl, rfl⟩
  go_wp2
  go_loopg [5, 9] 1 (fun gh s5 s9 wr => s5 = .int .i64 0 ∧ s9 = .int .i64 0 ∧ gh = 1 ∧ w = wr)
  case atStart => exact ⟨rfl, rfl, rfl, rfl⟩
  case round =>
    obtain ⟨rfl, rfl, rfl, rfl⟩ := hrel
    go_wp2
    go_ret
    exact ⟨rfl, HB.out⟩
set_option maxRecDepth 100000 in
set_option maxHeartbeats 4000000 in
theorem links_some (g : Nat) (t : List Nd) (P : Nat → Prop) (i : Int) (w : World) (h : TabR w g t P) :
    Calls Try.prog 23 #[.pointer (some ⟨g, 0, none⟩), .int .i64 i] w fun e w' => e = .returned (.int .i64 (linkT t i : Int)) ∧ Below w.heap.size w w' := by
  have HRM := Lib.hid (fun W (hb : Below w.heap.size w W) => room_any _ t W (h.below hb).ptr)
  have HT := Lib.hid h
  have hhi := h.hi
  clear h
  go_enter Try.func23, Try.ntmps23
  go_wp2_with fail
  refine (HRM.out _ (Below.refl _ _)).mono ?_
  rintro e w3 ⟨rfl, rfl⟩
  go_wp2
  go_loopg [5, 9] t.length (fun gh s5 s9 wr => ∃ k : Nat, s5 = .int .i64 (linkT (t.take k) i : Int) ∧ s9 = .int .i64 k ∧ k ≤ t.length ∧ gh = t.length - k ∧ Below w.heap.size w wr)
  case atStart => exact ⟨0, rfl, rfl, Nat.zero_le _, rfl, Below.refl _ _⟩
  case round =>
    obtain ⟨k, rfl, rfl, hk, rfl, hbr⟩ := hrel
    have HBR := Lib.hid hbr
    clear hbr
    by_cases hlt : k < t.length
    · have hlt' : (k : Int) < (t.length : Int) := by omega
      have hlt24 : (k : Int) < 24 := by omega
      have hlt25 : k < 24 := by omega
      obtain ⟨n, hn⟩ : ∃ n, t[k]? = some n := ⟨_, List.getElem?_eq_getElem hlt⟩
      have hTr := HT.out.below HBR.out
      obtain ⟨vd, ve, ⟨c0, c1, c2, c3, c4, c5, c6⟩, hd, he, -, -⟩ := hTr.node k n hn
      have HF := Lib.hid (mem_few HT.out.ok (List.mem_of_getElem? hn))
      have HS := Lib.hid (link_snoc (i := i) hn)
      have hC := link_bd HT.out.ok i k
      have hE := Nat.le_trans (cnt_le n.ents i) (ok_ents_le HT.out.ok (List.mem_of_getElem? hn))
      have HEO := Lib.hid (entriesOf_any n vd ve i wr hd.1 he.1 HF.out)
      obtain ⟨A1, k1, rfl⟩ := bytesT_form hd
      obtain ⟨A2, k2, rfl⟩ := entsT_form he
      generalize linkT (t.take k) i = C at HS hC ⊢
      generalize cntE n.ents i = D at HS hE HEO
      have HX := Lib.hid (show (linkT (t.take (k + 1)) i : Int) = (C : Int) + (D : Int) by rw [HS.out]; rfl)
      unfold nodeV at HEO
      clear hn hTr hd he
      go_wp2_with fail
      refine HEO.out.mono ?_
      rintro e w4 ⟨rfl, hb4⟩
      have HB4 := Lib.hid (bt hb4 HBR.out)
      clear hb4 c0 c1 c2 c3 c4 c5 c6
      go_wp2
      go_roundg (t.length - (k + 1))
      case measure => omega
      case rel => exact ⟨k + 1, by rw [HX.out], by go_num, by omega, rfl, HB4.out⟩
    · have hlt' : ¬ (k : Int) < (t.length : Int) := by omega
      have HX := Lib.hid (show (linkT (t.take k) i : Int) = (linkT t i : Int) by rw [List.take_of_length_le (by omega)])
      generalize (linkT (t.take k) i : Int) = C at HX ⊢
      go_wp2
      go_ret
      exact ⟨ret_int HX.out, HBR.out⟩
theorem links_any (v : Value) (t : List Nd) (i : Int) (w : World) (h : TabP w v t) :
    Calls Try.prog 23 #[v, .int .i64 i] w fun e w' => e = .returned (.int .i64 (linkT t i : Int)) ∧ Below w.heap.size w w' := by
  rcases h with ⟨rfl, rfl⟩ | ⟨g, P, rfl, h⟩
  · exact links_nil i w
  · exact links_some g t P i w h
/-- The first directory, from the front. -/
theorem par_ge {i : Int} : ∀ (t : List Nd) (d k : Nat), (∀ j, j < k → ∀ n, t[j]? = some n → cntE n.ents i = 0) → k ≤ t.length → (k = t.length → parT t d i = 0) ∧ (∀ n, t[k]? = some n → cntE n.ents i ≠ 0 → parT t d i = d + k + 1)
  | [], d, k, _, hk => ⟨fun _ => rfl, fun n h => by cases h⟩
  | m :: t, d, 0, _, hk => ⟨fun h => (by cases h), fun n h h2 => (by
    injection h with h
    subst h
    rw [parT, if_neg h2])⟩
  | m :: t, d, k + 1, hj, hk => by
    have h0 : cntE m.ents i = 0 := hj 0 (by omega) m rfl
    have ih := par_ge (i := i) t (d + 1) k (fun j h1 n h2 => hj (j + 1) (by omega) n h2) (by rw [List.length_cons] at hk; omega)
    rw [parT, if_pos h0]
    refine ⟨fun h => ih.1 (by rw [List.length_cons] at h; omega), fun n h h2 => ?_⟩
    rw [ih.2 n h h2]
    omega
set_option maxRecDepth 100000 in
set_option maxHeartbeats 4000000 in
theorem parent_nil (i : Int) (w : World) :
    Calls Try.prog 25 #[.pointer none, .int .i64 i] w fun e w' => e = .returned (.int .i64 0) ∧ Below w.heap.size w w' := by
  have HRM := Lib.hid (fun W => room_any (.pointer none) [] W (TabP.none W))
  have HB := Lib.hid (Below.refl w.heap.size w)
  go_enter Try.func25, Try.ntmps25
  go_wp2_with fail
  refine (HRM.out _).mono ?_
  rintro e w3 ⟨rfl, rfl⟩
  go_wp2
  go_loopg [8] 1 (fun gh s9 wr => s9 = .int .i64 0 ∧ gh = 1 ∧ w = wr)
  case atStart => exact ⟨rfl, rfl, rfl⟩
  case round =>
    obtain ⟨rfl, rfl, rfl⟩ := hrel
    go_wp2
    go_ret
    exact ⟨rfl, HB.out⟩
set_option maxRecDepth 100000 in
set_option maxHeartbeats 4000000 in
theorem parent_some (g : Nat) (t : List Nd) (P : Nat → Prop) (i : Int) (w : World) (h : TabR w g t P) :
    Calls Try.prog 25 #[.pointer (some ⟨g, 0, none⟩), .int .i64 i] w fun e w' => e = .returned (.int .i64 (parT t 0 i : Int)) ∧ Below w.heap.size w w' := by
  have HRM := Lib.hid (fun W (hb : Below w.heap.size w W) => room_any _ t W (h.below hb).ptr)
  have HT := Lib.hid h
  have hhi := h.hi
  have HFR := Lib.hid (fun k => par_ge (i := i) t 0 k)
  generalize parT t 0 i = F at HFR ⊢
  clear h
  go_enter Try.func25, Try.ntmps25
  go_wp2_with fail
  refine (HRM.out _ (Below.refl _ _)).mono ?_
  rintro e w3 ⟨rfl, rfl⟩
  go_wp2
  go_loopg [8] t.length (fun gh s8 wr => ∃ k : Nat, s8 = .int .i64 k ∧ k ≤ t.length ∧ gh = t.length - k ∧ (∀ j, j < k → ∀ n, t[j]? = some n → cntE n.ents i = 0) ∧ Below w.heap.size w wr)
  case atStart => exact ⟨0, rfl, Nat.zero_le _, rfl, fun j h => absurd h (Nat.not_lt_zero _), Below.refl _ _⟩
  case round =>
    obtain ⟨k, rfl, hk, rfl, hall, hbr⟩ := hrel
    have HALL := Lib.hid hall
    have HBR := Lib.hid hbr
    clear hbr hall
    by_cases hlt : k < t.length
    · have hlt' : (k : Int) < (t.length : Int) := by omega
      have hlt24 : (k : Int) < 24 := by omega
      have hlt25 : k < 24 := by omega
      obtain ⟨n, hn⟩ : ∃ n, t[k]? = some n := ⟨_, List.getElem?_eq_getElem hlt⟩
      have hTr := HT.out.below HBR.out
      obtain ⟨vd, ve, ⟨c0, c1, c2, c3, c4, c5, c6⟩, hd, he, -, -⟩ := hTr.node k n hn
      have HF := Lib.hid (mem_few HT.out.ok (List.mem_of_getElem? hn))
      have HEO := Lib.hid (entriesOf_any n vd ve i wr hd.1 he.1 HF.out)
      obtain ⟨A1, k1, rfl⟩ := bytesT_form hd
      obtain ⟨A2, k2, rfl⟩ := entsT_form he
      have HN := Lib.hid hn
      unfold nodeV at HEO
      clear hn hTr hd he
      by_cases q : cntE n.ents i = 0
      · have HQ := Lib.hid q
        rw [q] at HEO
        clear q
        go_wp2_with fail
        refine HEO.out.mono ?_
        rintro e w4 ⟨rfl, hb4⟩
        have HB4 := Lib.hid (bt hb4 HBR.out)
        clear hb4 c0 c1 c2 c3 c4 c5 c6
        go_wp2
        go_roundg (t.length - (k + 1))
        case measure => omega
        case rel => exact ⟨k + 1, by go_num, by omega, rfl, (fun j h1 m h2 => by
          by_cases q : j < k
          · exact HALL.out j q m h2
          · have e1 : j = k := by omega
            subst e1
            rw [HN.out] at h2
            injection h2 with h2
            rw [← h2]
            exact HQ.out), HB4.out⟩
      · have HX := Lib.hid (show (k : Int) + 1 = (F : Int) by have := (HFR.out k HALL.out hk).2 n HN.out q; omega)
        have hq : (0 : Int) < (cntE n.ents i : Int) := by omega
        clear q
        generalize cntE n.ents i = D at HEO hq
        go_wp2_with fail
        refine HEO.out.mono ?_
        rintro e w4 ⟨rfl, hb4⟩
        have HB4 := Lib.hid (bt hb4 HBR.out)
        clear hb4 c0 c1 c2 c3 c4 c5 c6
        go_wp2
        go_ret
        exact ⟨ret_int HX.out, HB4.out⟩
    · have hlt' : ¬ (k : Int) < (t.length : Int) := by omega
      have HX := Lib.hid (show (0 : Int) = (F : Int) by have := (HFR.out k HALL.out hk).1 (by omega); omega)
      go_wp2
      go_ret
      exact ⟨ret_int HX.out, HBR.out⟩
theorem parent_any (v : Value) (t : List Nd) (i : Int) (w : World) (h : TabP w v t) :
    Calls Try.prog 25 #[v, .int .i64 i] w fun e w' => e = .returned (.int .i64 (parT t 0 i : Int)) ∧ Below w.heap.size w w' := by
  rcases h with ⟨rfl, rfl⟩ | ⟨g, P, rfl, h⟩
  · exact parent_nil i w
  · exact parent_some g t P i w h
end Go.Proofs.Ytmapkmjhpebcbaa
