/-
  NodeStays, walked: for every node, name and number the call returns true, and what was there is as it was. The conditions: the list of entries and the name are no longer than a machine has.
-/
import Derived.Test.YtibmnafnandodaaFindsD
namespace Go.Proofs.Ytibmnafnandodaa
open Go Go.RowKit

section
variable {X : World} {g : Nat} {n : Nd} {vd ve : Value}
theorem with_at (h : NB X g n vd ve) (hf : Few n) {name : Nm} (hs : name.length ≤ 1000) {id E : Int} (hE : withE n name id = E) {M : Nd} (hM : withM n name id = M) : Calls Try.prog 10 #[.agg (ndC n vd ve), .string (bA name), .int .i64 id] X fun e w' => ∃ A c A' c', e = .returned (.tuple #[.agg (ndC M (.slice A M.data.length c) (.slice A' M.ents.length c')), .int .i64 E]) ∧ BytesR w' (.slice A M.data.length c) M.data ∧ EntsR w' (.slice A' M.ents.length c') M.ents ∧ Below X.heap.size X w' := by
  have H := with_any n vd ve name id X h.data h.ents hf.data hf.ents hs
  rw [hE, hM] at H
  refine H.mono ?_
  rintro e w' ⟨v, rfl, ⟨vd', ve', rfl, hd, he⟩, hb⟩
  obtain ⟨A, c, rfl⟩ := bytes_form hd rfl
  obtain ⟨A', c', rfl⟩ := ents_form he rfl
  exact ⟨A, c, A', c', rfl, hd, he, hb⟩
theorem out_of (h : NB X g n vd ve) (hf : Few n) {name : Nm} {E : Int} (hE : outE n name = E) {M : Nd} (hM : outM n name = M) : Calls Try.prog 12 #[.agg (ndC n vd ve), .string (bA name)] X fun e w' => ∃ A c A' c', e = .returned (.tuple #[.agg (ndC M (.slice A M.data.length c) (.slice A' M.ents.length c')), .int .i64 E]) ∧ BytesR w' (.slice A M.data.length c) M.data ∧ EntsR w' (.slice A' M.ents.length c') M.ents ∧ Below X.heap.size X w' := by
  have H := without_any n vd ve name X h.data h.ents hf.data hf.ents
  rw [hE, hM] at H
  refine H.mono ?_
  rintro e w' ⟨v, rfl, ⟨vd', ve', rfl, hd, he⟩, hb⟩
  obtain ⟨A, c, rfl⟩ := bytes_form hd rfl
  obtain ⟨A', c', rfl⟩ := ents_form he rfl
  exact ⟨A, c, A', c', rfl, hd, he, hb⟩
theorem same_at {g' : Nat} {vd' ve' : Value} (h : NB X g n vd ve) (h' : NB X g' n vd' ve') (hf : Few n) : Calls Try.prog 16 #[.agg (ndC n vd ve), .agg (ndC n vd' ve')] X fun e w' => e = .returned (.bool true) ∧ Below X.heap.size X w' := by
  have H := same_any n n vd ve vd' ve' X h.data h.ents h'.data h'.ents hf hf
  rw [toB_true rfl] at H
  exact H
end
theorem few_with {n : Nd} {name : Nm} {id : Int} (h : fewP n) (hs : name.length ≤ 40) (hE : withE n name id = 0) : Few (withM n name id) := by
  rw [withM, if_pos hE]
  refine ⟨by have := h.2.2.1; show n.data.length ≤ 1000; omega, ?_, ?_, by have := h.2.2.2; show n.target.length ≤ 1000; omega⟩
  · show (ins (name, id) n.ents).length ≤ 1000
    rw [len_ins]
    have := h.2.1
    omega
  · intro e he
    rcases (mem_ins (name, id) e n.ents).1 he with rfl | he
    · show name.length ≤ 1000
      omega
    · have := h.1 e he
      omega
theorem few_out {n : Nd} {name : Nm} (h : fewP n) (hE : outE n name = 0) : Few (outM n name) := by
  rw [outM, if_pos hE]
  refine ⟨by have := h.2.2.1; show n.data.length ≤ 1000; omega, ?_, ?_, by have := h.2.2.2; show n.target.length ≤ 1000; omega⟩
  · show (del n.ents name).length ≤ 1000
    have := (del_sub n.ents name).length_le
    have := h.2.1
    omega
  · intro e he
    have := h.1 e ((del_sub n.ents name).subset he)
    omega
set_option maxRecDepth 100000 in
theorem stays_few (n : Nd) (vd ve : Value) (name : Nm) (id : Int) (w : World) (hd : BytesR w vd n.data) (he : EntsR w ve n.ents) (hl : n.ents.length ≤ maxLen) (hF : ¬ fewP n) : Calls Try.prog 4 #[nodeV n vd ve, .string (bA name), .int .i64 id] w fun e w' => e = .returned (.bool true) ∧ Below w.heap.size w w' := by
  have HN := Lib.hid (NB.new (X := w) hd he)
  have HB := Lib.hid (ba w (.cells (ndC n vd ve) 25))
  obtain ⟨A1, c1, rfl⟩ := bytes_form hd rfl
  obtain ⟨A2, c2, rfl⟩ := ents_form he rfl
  clear hd he
  unfold nodeV

  go_enter Try.func4, Try.ntmps4
  go_wp2_with fail
  refine (awake_any _).mono ?_
  rintro e w2 ⟨rfl, hb2⟩
  have HN2 := Lib.hid (HN.out.later hb2)
  have HB2 := Lib.hid (bt hb2 HB.out)
  clear hb2
  obtain ⟨p0, p1, p2, p3, p4, p5, p6⟩ := HN2.out.blk.c7
  go_wp2_with fail
  refine (few_at HN2.out hl (toB_false hF)).mono ?_
  rintro e w3 ⟨rfl, hb3⟩
  have HN3 := Lib.hid (HN2.out.later hb3)
  have HB3 := Lib.hid (bt hb3 HB2.out)
  clear hb3 p0 p1 p2 p3 p4 p5 p6
  obtain ⟨p0, p1, p2, p3, p4, p5, p6⟩ := HN3.out.blk.c7
  go_wp2
  go_ret
  exact ⟨rfl, HB3.out⟩
set_option maxRecDepth 100000 in
theorem stays_long (n : Nd) (vd ve : Value) (name : Nm) (id : Int) (w : World) (hd : BytesR w vd n.data) (he : EntsR w ve n.ents) (hl : n.ents.length ≤ maxLen) (hF : fewP n) (hs : 40 < name.length) : Calls Try.prog 4 #[nodeV n vd ve, .string (bA name), .int .i64 id] w fun e w' => e = .returned (.bool true) ∧ Below w.heap.size w w' := by
  have q : (40 : Int) < ((bA name).size : Int) := by rw [size_bA]; omega
  have HN := Lib.hid (NB.new (X := w) hd he)
  have HB := Lib.hid (ba w (.cells (ndC n vd ve) 25))
  obtain ⟨A1, c1, rfl⟩ := bytes_form hd rfl
  obtain ⟨A2, c2, rfl⟩ := ents_form he rfl
  clear hd he
  unfold nodeV

  go_enter Try.func4, Try.ntmps4
  go_wp2_with fail
  refine (awake_any _).mono ?_
  rintro e w2 ⟨rfl, hb2⟩
  have HN2 := Lib.hid (HN.out.later hb2)
  have HB2 := Lib.hid (bt hb2 HB.out)
  clear hb2
  obtain ⟨p0, p1, p2, p3, p4, p5, p6⟩ := HN2.out.blk.c7
  go_wp2_with fail
  refine (few_at HN2.out hl (toB_true hF)).mono ?_
  rintro e w3 ⟨rfl, hb3⟩
  have HN3 := Lib.hid (HN2.out.later hb3)
  have HB3 := Lib.hid (bt hb3 HB2.out)
  clear hb3 p0 p1 p2 p3 p4 p5 p6
  obtain ⟨p0, p1, p2, p3, p4, p5, p6⟩ := HN3.out.blk.c7
  go_wp2
  go_ret
  exact ⟨rfl, HB3.out⟩
set_option maxRecDepth 100000 in
theorem stays_wrong (n : Nd) (vd ve : Value) (name : Nm) (id : Int) (w : World) (hd : BytesR w vd n.data) (he : EntsR w ve n.ents) (hl : n.ents.length ≤ maxLen) (hF : fewP n) (hs : ¬ 40 < name.length) (hR : ¬ rightP n) : Calls Try.prog 4 #[nodeV n vd ve, .string (bA name), .int .i64 id] w fun e w' => e = .returned (.bool true) ∧ Below w.heap.size w w' := by
  have q : ¬ (40 : Int) < ((bA name).size : Int) := by rw [size_bA]; omega
  have HN := Lib.hid (NB.new (X := w) hd he)
  have HB := Lib.hid (ba w (.cells (ndC n vd ve) 25))
  obtain ⟨A1, c1, rfl⟩ := bytes_form hd rfl
  obtain ⟨A2, c2, rfl⟩ := ents_form he rfl
  clear hd he
  unfold nodeV

  go_enter Try.func4, Try.ntmps4
  go_wp2_with fail
  refine (awake_any _).mono ?_
  rintro e w2 ⟨rfl, hb2⟩
  have HN2 := Lib.hid (HN.out.later hb2)
  have HB2 := Lib.hid (bt hb2 HB.out)
  clear hb2
  obtain ⟨p0, p1, p2, p3, p4, p5, p6⟩ := HN2.out.blk.c7
  go_wp2_with fail
  refine (few_at HN2.out hl (toB_true hF)).mono ?_
  rintro e w3 ⟨rfl, hb3⟩
  have HN3 := Lib.hid (HN2.out.later hb3)
  have HB3 := Lib.hid (bt hb3 HB2.out)
  clear hb3 p0 p1 p2 p3 p4 p5 p6
  obtain ⟨p0, p1, p2, p3, p4, p5, p6⟩ := HN3.out.blk.c7
  go_wp2_with fail
  refine (right_at HN3.out hF.few (toB_false hR)).mono ?_
  rintro e w4 ⟨rfl, hb4⟩
  have HN4 := Lib.hid (HN3.out.later hb4)
  have HB4 := Lib.hid (bt hb4 HB3.out)
  clear hb4 p0 p1 p2 p3 p4 p5 p6
  obtain ⟨p0, p1, p2, p3, p4, p5, p6⟩ := HN4.out.blk.c7
  go_wp2
  go_ret
  exact ⟨rfl, HB4.out⟩
set_option maxRecDepth 100000 in
set_option maxHeartbeats 4000000 in
/-- Nothing is put in, and nothing is taken out. -/
theorem stays_none (n : Nd) (vd ve : Value) (name : Nm) (id : Int) (w : World) (hd : BytesR w vd n.data) (he : EntsR w ve n.ents) (hl : n.ents.length ≤ maxLen) (hF : fewP n) (hs : ¬ 40 < name.length) (hR : rightP n) (hE0 : ¬ withE n name id = 0) (hO0 : ¬ outE n name = 0) : Calls Try.prog 4 #[nodeV n vd ve, .string (bA name), .int .i64 id] w fun e w' => e = .returned (.bool true) ∧ Below w.heap.size w w' := by
  have q : ¬ (40 : Int) < ((bA name).size : Int) := by rw [size_bA]; omega
  obtain ⟨E, hE⟩ : ∃ E, withE n name id = E := ⟨_, rfl⟩
  obtain ⟨M, hM⟩ : ∃ M, withM n name id = M := ⟨_, rfl⟩
  obtain ⟨O, hO⟩ : ∃ O, outE n name = O := ⟨_, rfl⟩
  obtain ⟨K, hK⟩ : ∃ K, outM n name = K := ⟨_, rfl⟩
  have qE : (E == 0) = false := by rw [← hE]; simpa using hE0
  have qO : (O != 0) = true := by rw [← hO]; simpa using hO0
  have qO2 : (O == 0) = false := by rw [← hO]; simpa using hO0
  clear hE0 hO0
  have HN := Lib.hid (NB.new (X := w) hd he)
  have HB := Lib.hid (ba w (.cells (ndC n vd ve) 25))
  obtain ⟨A1, c1, rfl⟩ := bytes_form hd rfl
  obtain ⟨A2, c2, rfl⟩ := ents_form he rfl
  clear hd he
  unfold nodeV

  go_enter Try.func4, Try.ntmps4
  go_wp2_with fail
  refine (awake_any _).mono ?_
  rintro e w2 ⟨rfl, hb2⟩
  have HN2 := Lib.hid (HN.out.later hb2)
  have HB2 := Lib.hid (bt hb2 HB.out)
  clear hb2
  obtain ⟨p0, p1, p2, p3, p4, p5, p6⟩ := HN2.out.blk.c7
  go_wp2_with fail
  refine (few_at HN2.out hl (toB_true hF)).mono ?_
  rintro e w3 ⟨rfl, hb3⟩
  have HN3 := Lib.hid (HN2.out.later hb3)
  have HB3 := Lib.hid (bt hb3 HB2.out)
  clear hb3 p0 p1 p2 p3 p4 p5 p6
  obtain ⟨p0, p1, p2, p3, p4, p5, p6⟩ := HN3.out.blk.c7
  go_wp2_with fail
  refine (right_at HN3.out hF.few (toB_true hR)).mono ?_
  rintro e w4 ⟨rfl, hb4⟩
  have HN4 := Lib.hid (HN3.out.later hb4)
  have HB4 := Lib.hid (bt hb4 HB3.out)
  clear hb4 p0 p1 p2 p3 p4 p5 p6 HN HN2 HN3 HB HB2 HB3
  obtain ⟨p0, p1, p2, p3, p4, p5, p6⟩ := HN4.out.blk.c7
  go_wp2_with fail
  refine (with_at HN4.out hF.few (by omega) hE hM).mono ?_
  rintro e w5 ⟨A5, c5, A6, c6, rfl, hd5, he5, hb5⟩
  have HN5 := Lib.hid ((HN4.out.later hb5).made (.cells (ndC M (.slice A5 M.data.length c5) (.slice A6 M.ents.length c6)) 25))
  have HB5 := Lib.hid (bt hb5 HB4.out)
  have HNa := Lib.hid (NB.new hd5 he5)
  have hlt := (HN4.out.later hb5).lt
  clear p0 p1 p2 p3 p4 p5 p6
  obtain ⟨p0, p1, p2, p3, p4, p5, p6⟩ := (HN4.out.later hb5).blk.c7
  clear hb5 hd5 he5 HN4 HB4
  go_wp2_with fail
  refine (out_of HN5.out hF.few hO hK).mono ?_
  rintro e w6 ⟨A7, c7, A8, c8, rfl, hd6, he6, hb6⟩
  have HB6 := Lib.hid (al (bt hb6 (bt (ba _ _) HB5.out)) (.cells (ndC K (.slice A7 K.data.length c7) (.slice A8 K.ents.length c8)) 25))
  clear hb6 hd6 he6 p0 p1 p2 p3 p4 p5 p6
  go_wp2_with fail
  go_quiet (fail)
  go_wp2
  go_ret
  exact ⟨rfl, bdN HB6.out _⟩
set_option maxRecDepth 100000 in
set_option maxHeartbeats 8000000 in
/-- Nothing is put in, and one entry is taken out. -/
theorem stays_out (n : Nd) (vd ve : Value) (name : Nm) (id : Int) (w : World) (hd : BytesR w vd n.data) (he : EntsR w ve n.ents) (hl : n.ents.length ≤ maxLen) (hF : fewP n) (hs : ¬ 40 < name.length) (hR : rightP n) (hE0 : ¬ withE n name id = 0) (hO : outE n name = 0) : Calls Try.prog 4 #[nodeV n vd ve, .string (bA name), .int .i64 id] w fun e w' => e = .returned (.bool true) ∧ Below w.heap.size w w' := by
  have q : ¬ (40 : Int) < ((bA name).size : Int) := by rw [size_bA]; omega
  obtain ⟨E, hE⟩ : ∃ E, withE n name id = E := ⟨_, rfl⟩
  obtain ⟨M, hM⟩ : ∃ M, withM n name id = M := ⟨_, rfl⟩
  obtain ⟨K, hK⟩ : ∃ K, outM n name = K := ⟨_, rfl⟩
  have qE : (E == 0) = false := by rw [← hE]; simpa using hE0
  obtain ⟨hr1, hr2, hr3⟩ := right_out hR hO
  have hKf := few_out hF hO
  rw [hK] at hr1 hr2 hr3 hKf
  have hKr := toB_true hr1
  have hKn := hr2
  obtain ⟨z, hns⟩ : ∃ z, sizM n = z := ⟨_, rfl⟩
  have hKs : sizM K = z - 1 := by rw [← hns]; exact hr3
  have hzb : 0 ≤ z ∧ z ≤ 1000 := by
    rw [← hns]
    unfold sizM
    have := hF.2.1
    have := hF.2.2.1
    have := hF.2.2.2
    split
    · omega
    · split
      · omega
      · split <;> omega
  have qz1 : IntKind.i64.wrap (z - 1) = z - 1 := by rw [IntKind.wrap_i64]; omega
  have qz2 : (z - 1 == z - 1) = true := by simp
  have qz3 : ((0 : Int) == 0) = true := rfl
  clear hE0 hr1 hr2 hr3
  have HN := Lib.hid (NB.new (X := w) hd he)
  have HB := Lib.hid (ba w (.cells (ndC n vd ve) 25))
  obtain ⟨A1, c1, rfl⟩ := bytes_form hd rfl
  obtain ⟨A2, c2, rfl⟩ := ents_form he rfl
  clear hd he
  unfold nodeV

  go_enter Try.func4, Try.ntmps4
  go_wp2_with fail
  refine (awake_any _).mono ?_
  rintro e w2 ⟨rfl, hb2⟩
  have HN2 := Lib.hid (HN.out.later hb2)
  have HB2 := Lib.hid (bt hb2 HB.out)
  clear hb2
  obtain ⟨p0, p1, p2, p3, p4, p5, p6⟩ := HN2.out.blk.c7
  go_wp2_with fail
  refine (few_at HN2.out hl (toB_true hF)).mono ?_
  rintro e w3 ⟨rfl, hb3⟩
  have HN3 := Lib.hid (HN2.out.later hb3)
  have HB3 := Lib.hid (bt hb3 HB2.out)
  clear hb3 p0 p1 p2 p3 p4 p5 p6
  obtain ⟨p0, p1, p2, p3, p4, p5, p6⟩ := HN3.out.blk.c7
  go_wp2_with fail
  refine (right_at HN3.out hF.few (toB_true hR)).mono ?_
  rintro e w4 ⟨rfl, hb4⟩
  have HN4 := Lib.hid (HN3.out.later hb4)
  have HB4 := Lib.hid (bt hb4 HB3.out)
  clear hb4 p0 p1 p2 p3 p4 p5 p6 HN HN2 HN3 HB HB2 HB3
  obtain ⟨p0, p1, p2, p3, p4, p5, p6⟩ := HN4.out.blk.c7
  go_wp2_with fail
  refine (with_at HN4.out hF.few (by omega) hE hM).mono ?_
  rintro e w5 ⟨A5, c5, A6, c6, rfl, hd5, he5, hb5⟩
  have HN5 := Lib.hid ((HN4.out.later hb5).made (.cells (ndC M (.slice A5 M.data.length c5) (.slice A6 M.ents.length c6)) 25))
  have HB5 := Lib.hid (bt hb5 HB4.out)
  have HNa := Lib.hid (NB.new hd5 he5)
  have hlt := (HN4.out.later hb5).lt
  clear p0 p1 p2 p3 p4 p5 p6
  obtain ⟨p0, p1, p2, p3, p4, p5, p6⟩ := (HN4.out.later hb5).blk.c7
  clear hb5 hd5 he5 HN4 HB4
  go_wp2_with fail
  refine (out_of HN5.out hF.few hO hK).mono ?_
  rintro e w6 ⟨A7, c7, A8, c8, rfl, hd6, he6, hb6⟩
  obtain ⟨W7, hW7⟩ : ∃ W7, W7 = w6.alloc (.cells (ndC K (.slice A7 K.data.length c7) (.slice A8 K.ents.length c8)) 25) := ⟨_, rfl⟩
  have HN7 := Lib.hid ((HN5.out.later hb6).made (.cells (ndC K (.slice A7 K.data.length c7) (.slice A8 K.ents.length c8)) 25))
  have HNc := Lib.hid (NB.new hd6 he6)
  have HB7 := Lib.hid (al (bt hb6 (bt (ba _ _) HB5.out)) (.cells (ndC K (.slice A7 K.data.length c7) (.slice A8 K.ents.length c8)) 25))
  clear hb6 hd6 he6 p0 p1 p2 p3 p4 p5 p6
  go_wp2_with fail
  change Code.wp _ _ _ _ (w6.alloc (.cells (ndC K (.slice A7 K.data.length c7) (.slice A8 K.ents.length c8)) 25))
  rw [← hW7] at HN7 HNc HB7 ⊢
  clear hW7

  obtain ⟨u0, u1, u2, u3, u4, u5, u6⟩ := (HNc.out).blk.c7
  obtain ⟨v0, v1, v2, v3, v4, v5, v6⟩ := (HN7.out).blk.c7
  have du0 : W7.drew.cell? ⟨w6.heap.size, 0, none⟩ = some (.int .i64 K.kind) := u0
  have du1 : W7.drew.cell? ⟨w6.heap.size, 1, none⟩ = some (.int .i64 K.mode) := u1
  have du2 : W7.drew.cell? ⟨w6.heap.size, 2, none⟩ = some (.int .i64 K.uid) := u2
  have du3 : W7.drew.cell? ⟨w6.heap.size, 3, none⟩ = some (.int .i64 K.gid) := u3
  have du4 : W7.drew.cell? ⟨w6.heap.size, 4, none⟩ = some (.slice A7 K.data.length c7) := u4
  have du5 : W7.drew.cell? ⟨w6.heap.size, 5, none⟩ = some (.slice A8 K.ents.length c8) := u5
  have du6 : W7.drew.cell? ⟨w6.heap.size, 6, none⟩ = some (.string (bA K.target)) := u6
  have dv0 : W7.drew.cell? ⟨w.heap.size, 0, none⟩ = some (.int .i64 n.kind) := v0
  have dv1 : W7.drew.cell? ⟨w.heap.size, 1, none⟩ = some (.int .i64 n.mode) := v1
  have dv2 : W7.drew.cell? ⟨w.heap.size, 2, none⟩ = some (.int .i64 n.uid) := v2
  have dv3 : W7.drew.cell? ⟨w.heap.size, 3, none⟩ = some (.int .i64 n.gid) := v3
  have dv4 : W7.drew.cell? ⟨w.heap.size, 4, none⟩ = some (.slice A1 n.data.length c1) := v4
  have dv5 : W7.drew.cell? ⟨w.heap.size, 5, none⟩ = some (.slice A2 n.ents.length c2) := v5
  have dv6 : W7.drew.cell? ⟨w.heap.size, 6, none⟩ = some (.string (bA n.target)) := v6
  clear u0 u1 u2 u3 u4 u5 u6 v0 v1 v2 v3 v4 v5 v6
  have SX : W7.drew.cell? ⟨w6.heap.size, 0, none⟩ = some (.int .i64 K.kind) ∧ W7.drew.cell? ⟨w6.heap.size, 1, none⟩ = some (.int .i64 K.mode) ∧ W7.drew.cell? ⟨w6.heap.size, 2, none⟩ = some (.int .i64 K.uid) ∧ W7.drew.cell? ⟨w6.heap.size, 3, none⟩ = some (.int .i64 K.gid) ∧ W7.drew.cell? ⟨w6.heap.size, 4, none⟩ = some (.slice A7 K.data.length c7) ∧ W7.drew.cell? ⟨w6.heap.size, 5, none⟩ = some (.slice A8 K.ents.length c8) ∧ W7.drew.cell? ⟨w6.heap.size, 6, none⟩ = some (.string (bA K.target)) ∧ W7.drew.cell? ⟨w.heap.size, 0, none⟩ = some (.int .i64 n.kind) ∧ W7.drew.cell? ⟨w.heap.size, 1, none⟩ = some (.int .i64 n.mode) ∧ W7.drew.cell? ⟨w.heap.size, 2, none⟩ = some (.int .i64 n.uid) ∧ W7.drew.cell? ⟨w.heap.size, 3, none⟩ = some (.int .i64 n.gid) ∧ W7.drew.cell? ⟨w.heap.size, 4, none⟩ = some (.slice A1 n.data.length c1) ∧ W7.drew.cell? ⟨w.heap.size, 5, none⟩ = some (.slice A2 n.ents.length c2) ∧ W7.drew.cell? ⟨w.heap.size, 6, none⟩ = some (.string (bA n.target)) := ⟨du0, du1, du2, du3, du4, du5, du6, dv0, dv1, dv2, dv3, dv4, dv5, dv6⟩
  have SK : ∀ (Y Y' : World), Below Y.heap.size Y Y' → (Y.cell? ⟨w6.heap.size, 0, none⟩ = some (.int .i64 K.kind) ∧ Y.cell? ⟨w6.heap.size, 1, none⟩ = some (.int .i64 K.mode) ∧ Y.cell? ⟨w6.heap.size, 2, none⟩ = some (.int .i64 K.uid) ∧ Y.cell? ⟨w6.heap.size, 3, none⟩ = some (.int .i64 K.gid) ∧ Y.cell? ⟨w6.heap.size, 4, none⟩ = some (.slice A7 K.data.length c7) ∧ Y.cell? ⟨w6.heap.size, 5, none⟩ = some (.slice A8 K.ents.length c8) ∧ Y.cell? ⟨w6.heap.size, 6, none⟩ = some (.string (bA K.target)) ∧ Y.cell? ⟨w.heap.size, 0, none⟩ = some (.int .i64 n.kind) ∧ Y.cell? ⟨w.heap.size, 1, none⟩ = some (.int .i64 n.mode) ∧ Y.cell? ⟨w.heap.size, 2, none⟩ = some (.int .i64 n.uid) ∧ Y.cell? ⟨w.heap.size, 3, none⟩ = some (.int .i64 n.gid) ∧ Y.cell? ⟨w.heap.size, 4, none⟩ = some (.slice A1 n.data.length c1) ∧ Y.cell? ⟨w.heap.size, 5, none⟩ = some (.slice A2 n.ents.length c2) ∧ Y.cell? ⟨w.heap.size, 6, none⟩ = some (.string (bA n.target))) → (Y'.cell? ⟨w6.heap.size, 0, none⟩ = some (.int .i64 K.kind) ∧ Y'.cell? ⟨w6.heap.size, 1, none⟩ = some (.int .i64 K.mode) ∧ Y'.cell? ⟨w6.heap.size, 2, none⟩ = some (.int .i64 K.uid) ∧ Y'.cell? ⟨w6.heap.size, 3, none⟩ = some (.int .i64 K.gid) ∧ Y'.cell? ⟨w6.heap.size, 4, none⟩ = some (.slice A7 K.data.length c7) ∧ Y'.cell? ⟨w6.heap.size, 5, none⟩ = some (.slice A8 K.ents.length c8) ∧ Y'.cell? ⟨w6.heap.size, 6, none⟩ = some (.string (bA K.target)) ∧ Y'.cell? ⟨w.heap.size, 0, none⟩ = some (.int .i64 n.kind) ∧ Y'.cell? ⟨w.heap.size, 1, none⟩ = some (.int .i64 n.mode) ∧ Y'.cell? ⟨w.heap.size, 2, none⟩ = some (.int .i64 n.uid) ∧ Y'.cell? ⟨w.heap.size, 3, none⟩ = some (.int .i64 n.gid) ∧ Y'.cell? ⟨w.heap.size, 4, none⟩ = some (.slice A1 n.data.length c1) ∧ Y'.cell? ⟨w.heap.size, 5, none⟩ = some (.slice A2 n.ents.length c2) ∧ Y'.cell? ⟨w.heap.size, 6, none⟩ = some (.string (bA n.target))) := fun Y Y' hb ⟨k0, k1, k2, k3, k4, k5, k6, k7, k8, k9, k10, k11, k12, k13⟩ => ⟨bc hb k0, bc hb k1, bc hb k2, bc hb k3, bc hb k4, bc hb k5, bc hb k6, bc hb k7, bc hb k8, bc hb k9, bc hb k10, bc hb k11, bc hb k12, bc hb k13⟩
  go_region_held3 (fun w' => w'.cell? ⟨w6.heap.size, 0, none⟩ = some (.int .i64 K.kind) ∧ w'.cell? ⟨w6.heap.size, 1, none⟩ = some (.int .i64 K.mode) ∧ w'.cell? ⟨w6.heap.size, 2, none⟩ = some (.int .i64 K.uid) ∧ w'.cell? ⟨w6.heap.size, 3, none⟩ = some (.int .i64 K.gid) ∧ w'.cell? ⟨w6.heap.size, 4, none⟩ = some (.slice A7 K.data.length c7) ∧ w'.cell? ⟨w6.heap.size, 5, none⟩ = some (.slice A8 K.ents.length c8) ∧ w'.cell? ⟨w6.heap.size, 6, none⟩ = some (.string (bA K.target)) ∧ w'.cell? ⟨w.heap.size, 0, none⟩ = some (.int .i64 n.kind) ∧ w'.cell? ⟨w.heap.size, 1, none⟩ = some (.int .i64 n.mode) ∧ w'.cell? ⟨w.heap.size, 2, none⟩ = some (.int .i64 n.uid) ∧ w'.cell? ⟨w.heap.size, 3, none⟩ = some (.int .i64 n.gid) ∧ w'.cell? ⟨w.heap.size, 4, none⟩ = some (.slice A1 n.data.length c1) ∧ w'.cell? ⟨w.heap.size, 5, none⟩ = some (.slice A2 n.ents.length c2) ∧ w'.cell? ⟨w.heap.size, 6, none⟩ = some (.string (bA n.target)))
    (first | exact SX | exact SK _ _ h1 (SX) | exact SK _ _ h2 (SK _ _ h1 (SX)) | exact SK _ _ h3 (SK _ _ h2 (SK _ _ h1 (SX))) | exact SK _ _ h4 (SK _ _ h3 (SK _ _ h2 (SK _ _ h1 (SX)))))
    (first
      | (go_at_call 15; (with_reducible refine (right_at (HNc.out.later (Below.refl _ _).drew) hKf hKr).mono ?_); rintro e0 w10 ⟨rfl, h1⟩)
      | (go_at_call 17; (with_reducible refine (find_at ((HNc.out.later (Below.refl _ _).drew).later h1) hKf name hKn).mono ?_); rintro e1 w11 ⟨rfl, h2⟩)
      | (go_at_call 18; (with_reducible refine (size_at (((HNc.out.later (Below.refl _ _).drew).later h1).later h2) hKf hKs).mono ?_); rintro e2 w12 ⟨rfl, h3⟩)
      | (go_at_call 18; (with_reducible refine (size_at ((((HN7.out.later (Below.refl _ _).drew).later h1).later h2).later h3) hF.few hns).mono ?_); rintro e3 w13 ⟨rfl, h4⟩))
  all_goals (
    go_wp2
    go_ret
    exact ⟨rfl, bt h4 (bt h3 (bt h2 (bt h1 (bt (Below.refl _ _).drew HB7.out))))⟩)
set_option maxRecDepth 100000 in
set_option maxHeartbeats 8000000 in
/-- One entry is put in, and taken out. -/
theorem stays_in (n : Nd) (vd ve : Value) (name : Nm) (id : Int) (w : World) (hd : BytesR w vd n.data) (he : EntsR w ve n.ents) (hl : n.ents.length ≤ maxLen) (hF : fewP n) (hs : ¬ 40 < name.length) (hR : rightP n) (hE : withE n name id = 0) : Calls Try.prog 4 #[nodeV n vd ve, .string (bA name), .int .i64 id] w fun e w' => e = .returned (.bool true) ∧ Below w.heap.size w w' := by
  have q : ¬ (40 : Int) < ((bA name).size : Int) := by rw [size_bA]; omega
  obtain ⟨M, hM⟩ : ∃ M, withM n name id = M := ⟨_, rfl⟩
  obtain ⟨hr1, hr2, hr3, hr4, hr5⟩ := right_with hR hE
  have hMf := few_with hF (by omega) hE
  rw [hM] at hr1 hr2 hr3 hr4 hr5 hMf
  have hMr := toB_true hr1
  have hMn := hr4
  have HO2 := Lib.hid hr2
  have HK2 := Lib.hid hr3
  obtain ⟨z, hns⟩ : ∃ z, sizM n = z := ⟨_, rfl⟩
  have hMs : sizM M = z + 1 := by rw [← hns]; exact hr5
  have hzb : 0 ≤ z ∧ z ≤ 1000 := by
    rw [← hns]
    unfold sizM
    have := hF.2.1
    have := hF.2.2.1
    have := hF.2.2.2
    split
    · omega
    · split
      · omega
      · split <;> omega
  have qz1 : IntKind.i64.wrap (z + 1) = z + 1 := by rw [IntKind.wrap_i64]; omega
  have qz2 : (z + 1 != z + 1) = false := by simp
  have qi : (id != id) = false := by simp
  obtain ⟨O, hO⟩ : ∃ O, outE n name = O := ⟨_, rfl⟩
  obtain ⟨K, hK⟩ : ∃ K, outM n name = K := ⟨_, rfl⟩
  have hz := withE_zero.1 hE
  have hO2 : O = 2 := by rw [← hO, outE, if_neg (fun h => h hz.1), if_neg hz.2.2.2.1]
  subst hO2
  clear hr1 hr2 hr3 hr4 hr5 hz
  have HN := Lib.hid (NB.new (X := w) hd he)
  have HB := Lib.hid (ba w (.cells (ndC n vd ve) 25))
  obtain ⟨A1, c1, rfl⟩ := bytes_form hd rfl
  obtain ⟨A2, c2, rfl⟩ := ents_form he rfl
  clear hd he
  unfold nodeV

  go_enter Try.func4, Try.ntmps4
  go_wp2_with fail
  refine (awake_any _).mono ?_
  rintro e w2 ⟨rfl, hb2⟩
  have HN2 := Lib.hid (HN.out.later hb2)
  have HB2 := Lib.hid (bt hb2 HB.out)
  clear hb2
  obtain ⟨p0, p1, p2, p3, p4, p5, p6⟩ := HN2.out.blk.c7
  go_wp2_with fail
  refine (few_at HN2.out hl (toB_true hF)).mono ?_
  rintro e w3 ⟨rfl, hb3⟩
  have HN3 := Lib.hid (HN2.out.later hb3)
  have HB3 := Lib.hid (bt hb3 HB2.out)
  clear hb3 p0 p1 p2 p3 p4 p5 p6
  obtain ⟨p0, p1, p2, p3, p4, p5, p6⟩ := HN3.out.blk.c7
  go_wp2_with fail
  refine (right_at HN3.out hF.few (toB_true hR)).mono ?_
  rintro e w4 ⟨rfl, hb4⟩
  have HN4 := Lib.hid (HN3.out.later hb4)
  have HB4 := Lib.hid (bt hb4 HB3.out)
  clear hb4 p0 p1 p2 p3 p4 p5 p6 HN HN2 HN3 HB HB2 HB3
  obtain ⟨p0, p1, p2, p3, p4, p5, p6⟩ := HN4.out.blk.c7
  go_wp2_with fail
  refine (with_at HN4.out hF.few (by omega) hE hM).mono ?_
  rintro e w5 ⟨A5, c5, A6, c6, rfl, hd5, he5, hb5⟩
  have HN5 := Lib.hid ((HN4.out.later hb5).made (.cells (ndC M (.slice A5 M.data.length c5) (.slice A6 M.ents.length c6)) 25))
  have HB5 := Lib.hid (bt hb5 HB4.out)
  have HNa := Lib.hid (NB.new hd5 he5)
  have hlt := (HN4.out.later hb5).lt
  clear p0 p1 p2 p3 p4 p5 p6
  obtain ⟨p0, p1, p2, p3, p4, p5, p6⟩ := (HN4.out.later hb5).blk.c7
  clear hb5 hd5 he5 HN4 HB4
  obtain ⟨u0, u1, u2, u3, u4, u5, u6⟩ := HNa.out.blk.c7
  go_wp2_with fail
  refine (out_of HNa.out hMf HO2.out HK2.out).mono ?_
  rintro e w6 ⟨A7, c7, A8, c8, rfl, hd6, he6, hb6⟩
  obtain ⟨W7, hW7⟩ : ∃ W7, W7 = w6.alloc (.cells (ndC n (.slice A7 n.data.length c7) (.slice A8 n.ents.length c8)) 25) := ⟨_, rfl⟩
  have HN7 := Lib.hid ((HN5.out.later hb6).made (.cells (ndC n (.slice A7 n.data.length c7) (.slice A8 n.ents.length c8)) 25))
  have HNa7 := Lib.hid ((HNa.out.later hb6).made (.cells (ndC n (.slice A7 n.data.length c7) (.slice A8 n.ents.length c8)) 25))
  have HNb := Lib.hid (NB.new hd6 he6)
  have HB7 := Lib.hid (al (bt hb6 (bt (ba _ _) HB5.out)) (.cells (ndC n (.slice A7 n.data.length c7) (.slice A8 n.ents.length c8)) 25))
  clear hb6 hd6 he6 p0 p1 p2 p3 p4 p5 p6 u0 u1 u2 u3 u4 u5 u6
  go_wp2_with fail
  change Code.wp _ _ _ _ (w6.alloc (.cells (ndC n (.slice A7 n.data.length c7) (.slice A8 n.ents.length c8)) 25))
  rw [← hW7] at HN7 HNa7 HNb HB7 ⊢
  clear hW7

  obtain ⟨u0, u1, u2, u3, u4, u5, u6⟩ := (HNa7.out).blk.c7
  obtain ⟨t0, t1, t2, t3, t4, t5, t6⟩ := (HNb.out).blk.c7
  obtain ⟨v0, v1, v2, v3, v4, v5, v6⟩ := (HN7.out).blk.c7
  have du0 : W7.drew.cell? ⟨w5.heap.size, 0, none⟩ = some (.int .i64 M.kind) := u0
  have du1 : W7.drew.cell? ⟨w5.heap.size, 1, none⟩ = some (.int .i64 M.mode) := u1
  have du2 : W7.drew.cell? ⟨w5.heap.size, 2, none⟩ = some (.int .i64 M.uid) := u2
  have du3 : W7.drew.cell? ⟨w5.heap.size, 3, none⟩ = some (.int .i64 M.gid) := u3
  have du4 : W7.drew.cell? ⟨w5.heap.size, 4, none⟩ = some (.slice A5 M.data.length c5) := u4
  have du5 : W7.drew.cell? ⟨w5.heap.size, 5, none⟩ = some (.slice A6 M.ents.length c6) := u5
  have du6 : W7.drew.cell? ⟨w5.heap.size, 6, none⟩ = some (.string (bA M.target)) := u6
  have dt0 : W7.drew.cell? ⟨w6.heap.size, 0, none⟩ = some (.int .i64 n.kind) := t0
  have dt1 : W7.drew.cell? ⟨w6.heap.size, 1, none⟩ = some (.int .i64 n.mode) := t1
  have dt2 : W7.drew.cell? ⟨w6.heap.size, 2, none⟩ = some (.int .i64 n.uid) := t2
  have dt3 : W7.drew.cell? ⟨w6.heap.size, 3, none⟩ = some (.int .i64 n.gid) := t3
  have dt4 : W7.drew.cell? ⟨w6.heap.size, 4, none⟩ = some (.slice A7 n.data.length c7) := t4
  have dt5 : W7.drew.cell? ⟨w6.heap.size, 5, none⟩ = some (.slice A8 n.ents.length c8) := t5
  have dt6 : W7.drew.cell? ⟨w6.heap.size, 6, none⟩ = some (.string (bA n.target)) := t6
  have dv0 : W7.drew.cell? ⟨w.heap.size, 0, none⟩ = some (.int .i64 n.kind) := v0
  have dv1 : W7.drew.cell? ⟨w.heap.size, 1, none⟩ = some (.int .i64 n.mode) := v1
  have dv2 : W7.drew.cell? ⟨w.heap.size, 2, none⟩ = some (.int .i64 n.uid) := v2
  have dv3 : W7.drew.cell? ⟨w.heap.size, 3, none⟩ = some (.int .i64 n.gid) := v3
  have dv4 : W7.drew.cell? ⟨w.heap.size, 4, none⟩ = some (.slice A1 n.data.length c1) := v4
  have dv5 : W7.drew.cell? ⟨w.heap.size, 5, none⟩ = some (.slice A2 n.ents.length c2) := v5
  have dv6 : W7.drew.cell? ⟨w.heap.size, 6, none⟩ = some (.string (bA n.target)) := v6
  clear u0 u1 u2 u3 u4 u5 u6 t0 t1 t2 t3 t4 t5 t6 v0 v1 v2 v3 v4 v5 v6
  have SX : W7.drew.cell? ⟨w5.heap.size, 0, none⟩ = some (.int .i64 M.kind) ∧ W7.drew.cell? ⟨w5.heap.size, 1, none⟩ = some (.int .i64 M.mode) ∧ W7.drew.cell? ⟨w5.heap.size, 2, none⟩ = some (.int .i64 M.uid) ∧ W7.drew.cell? ⟨w5.heap.size, 3, none⟩ = some (.int .i64 M.gid) ∧ W7.drew.cell? ⟨w5.heap.size, 4, none⟩ = some (.slice A5 M.data.length c5) ∧ W7.drew.cell? ⟨w5.heap.size, 5, none⟩ = some (.slice A6 M.ents.length c6) ∧ W7.drew.cell? ⟨w5.heap.size, 6, none⟩ = some (.string (bA M.target)) ∧ W7.drew.cell? ⟨w6.heap.size, 0, none⟩ = some (.int .i64 n.kind) ∧ W7.drew.cell? ⟨w6.heap.size, 1, none⟩ = some (.int .i64 n.mode) ∧ W7.drew.cell? ⟨w6.heap.size, 2, none⟩ = some (.int .i64 n.uid) ∧ W7.drew.cell? ⟨w6.heap.size, 3, none⟩ = some (.int .i64 n.gid) ∧ W7.drew.cell? ⟨w6.heap.size, 4, none⟩ = some (.slice A7 n.data.length c7) ∧ W7.drew.cell? ⟨w6.heap.size, 5, none⟩ = some (.slice A8 n.ents.length c8) ∧ W7.drew.cell? ⟨w6.heap.size, 6, none⟩ = some (.string (bA n.target)) ∧ W7.drew.cell? ⟨w.heap.size, 0, none⟩ = some (.int .i64 n.kind) ∧ W7.drew.cell? ⟨w.heap.size, 1, none⟩ = some (.int .i64 n.mode) ∧ W7.drew.cell? ⟨w.heap.size, 2, none⟩ = some (.int .i64 n.uid) ∧ W7.drew.cell? ⟨w.heap.size, 3, none⟩ = some (.int .i64 n.gid) ∧ W7.drew.cell? ⟨w.heap.size, 4, none⟩ = some (.slice A1 n.data.length c1) ∧ W7.drew.cell? ⟨w.heap.size, 5, none⟩ = some (.slice A2 n.ents.length c2) ∧ W7.drew.cell? ⟨w.heap.size, 6, none⟩ = some (.string (bA n.target)) := ⟨du0, du1, du2, du3, du4, du5, du6, dt0, dt1, dt2, dt3, dt4, dt5, dt6, dv0, dv1, dv2, dv3, dv4, dv5, dv6⟩
  have SK : ∀ (Y Y' : World), Below Y.heap.size Y Y' → (Y.cell? ⟨w5.heap.size, 0, none⟩ = some (.int .i64 M.kind) ∧ Y.cell? ⟨w5.heap.size, 1, none⟩ = some (.int .i64 M.mode) ∧ Y.cell? ⟨w5.heap.size, 2, none⟩ = some (.int .i64 M.uid) ∧ Y.cell? ⟨w5.heap.size, 3, none⟩ = some (.int .i64 M.gid) ∧ Y.cell? ⟨w5.heap.size, 4, none⟩ = some (.slice A5 M.data.length c5) ∧ Y.cell? ⟨w5.heap.size, 5, none⟩ = some (.slice A6 M.ents.length c6) ∧ Y.cell? ⟨w5.heap.size, 6, none⟩ = some (.string (bA M.target)) ∧ Y.cell? ⟨w6.heap.size, 0, none⟩ = some (.int .i64 n.kind) ∧ Y.cell? ⟨w6.heap.size, 1, none⟩ = some (.int .i64 n.mode) ∧ Y.cell? ⟨w6.heap.size, 2, none⟩ = some (.int .i64 n.uid) ∧ Y.cell? ⟨w6.heap.size, 3, none⟩ = some (.int .i64 n.gid) ∧ Y.cell? ⟨w6.heap.size, 4, none⟩ = some (.slice A7 n.data.length c7) ∧ Y.cell? ⟨w6.heap.size, 5, none⟩ = some (.slice A8 n.ents.length c8) ∧ Y.cell? ⟨w6.heap.size, 6, none⟩ = some (.string (bA n.target)) ∧ Y.cell? ⟨w.heap.size, 0, none⟩ = some (.int .i64 n.kind) ∧ Y.cell? ⟨w.heap.size, 1, none⟩ = some (.int .i64 n.mode) ∧ Y.cell? ⟨w.heap.size, 2, none⟩ = some (.int .i64 n.uid) ∧ Y.cell? ⟨w.heap.size, 3, none⟩ = some (.int .i64 n.gid) ∧ Y.cell? ⟨w.heap.size, 4, none⟩ = some (.slice A1 n.data.length c1) ∧ Y.cell? ⟨w.heap.size, 5, none⟩ = some (.slice A2 n.ents.length c2) ∧ Y.cell? ⟨w.heap.size, 6, none⟩ = some (.string (bA n.target))) → (Y'.cell? ⟨w5.heap.size, 0, none⟩ = some (.int .i64 M.kind) ∧ Y'.cell? ⟨w5.heap.size, 1, none⟩ = some (.int .i64 M.mode) ∧ Y'.cell? ⟨w5.heap.size, 2, none⟩ = some (.int .i64 M.uid) ∧ Y'.cell? ⟨w5.heap.size, 3, none⟩ = some (.int .i64 M.gid) ∧ Y'.cell? ⟨w5.heap.size, 4, none⟩ = some (.slice A5 M.data.length c5) ∧ Y'.cell? ⟨w5.heap.size, 5, none⟩ = some (.slice A6 M.ents.length c6) ∧ Y'.cell? ⟨w5.heap.size, 6, none⟩ = some (.string (bA M.target)) ∧ Y'.cell? ⟨w6.heap.size, 0, none⟩ = some (.int .i64 n.kind) ∧ Y'.cell? ⟨w6.heap.size, 1, none⟩ = some (.int .i64 n.mode) ∧ Y'.cell? ⟨w6.heap.size, 2, none⟩ = some (.int .i64 n.uid) ∧ Y'.cell? ⟨w6.heap.size, 3, none⟩ = some (.int .i64 n.gid) ∧ Y'.cell? ⟨w6.heap.size, 4, none⟩ = some (.slice A7 n.data.length c7) ∧ Y'.cell? ⟨w6.heap.size, 5, none⟩ = some (.slice A8 n.ents.length c8) ∧ Y'.cell? ⟨w6.heap.size, 6, none⟩ = some (.string (bA n.target)) ∧ Y'.cell? ⟨w.heap.size, 0, none⟩ = some (.int .i64 n.kind) ∧ Y'.cell? ⟨w.heap.size, 1, none⟩ = some (.int .i64 n.mode) ∧ Y'.cell? ⟨w.heap.size, 2, none⟩ = some (.int .i64 n.uid) ∧ Y'.cell? ⟨w.heap.size, 3, none⟩ = some (.int .i64 n.gid) ∧ Y'.cell? ⟨w.heap.size, 4, none⟩ = some (.slice A1 n.data.length c1) ∧ Y'.cell? ⟨w.heap.size, 5, none⟩ = some (.slice A2 n.ents.length c2) ∧ Y'.cell? ⟨w.heap.size, 6, none⟩ = some (.string (bA n.target))) := fun Y Y' hb ⟨k0, k1, k2, k3, k4, k5, k6, k7, k8, k9, k10, k11, k12, k13, k14, k15, k16, k17, k18, k19, k20⟩ => ⟨bc hb k0, bc hb k1, bc hb k2, bc hb k3, bc hb k4, bc hb k5, bc hb k6, bc hb k7, bc hb k8, bc hb k9, bc hb k10, bc hb k11, bc hb k12, bc hb k13, bc hb k14, bc hb k15, bc hb k16, bc hb k17, bc hb k18, bc hb k19, bc hb k20⟩
  go_region_held3 (fun w' => w'.cell? ⟨w5.heap.size, 0, none⟩ = some (.int .i64 M.kind) ∧ w'.cell? ⟨w5.heap.size, 1, none⟩ = some (.int .i64 M.mode) ∧ w'.cell? ⟨w5.heap.size, 2, none⟩ = some (.int .i64 M.uid) ∧ w'.cell? ⟨w5.heap.size, 3, none⟩ = some (.int .i64 M.gid) ∧ w'.cell? ⟨w5.heap.size, 4, none⟩ = some (.slice A5 M.data.length c5) ∧ w'.cell? ⟨w5.heap.size, 5, none⟩ = some (.slice A6 M.ents.length c6) ∧ w'.cell? ⟨w5.heap.size, 6, none⟩ = some (.string (bA M.target)) ∧ w'.cell? ⟨w6.heap.size, 0, none⟩ = some (.int .i64 n.kind) ∧ w'.cell? ⟨w6.heap.size, 1, none⟩ = some (.int .i64 n.mode) ∧ w'.cell? ⟨w6.heap.size, 2, none⟩ = some (.int .i64 n.uid) ∧ w'.cell? ⟨w6.heap.size, 3, none⟩ = some (.int .i64 n.gid) ∧ w'.cell? ⟨w6.heap.size, 4, none⟩ = some (.slice A7 n.data.length c7) ∧ w'.cell? ⟨w6.heap.size, 5, none⟩ = some (.slice A8 n.ents.length c8) ∧ w'.cell? ⟨w6.heap.size, 6, none⟩ = some (.string (bA n.target)) ∧ w'.cell? ⟨w.heap.size, 0, none⟩ = some (.int .i64 n.kind) ∧ w'.cell? ⟨w.heap.size, 1, none⟩ = some (.int .i64 n.mode) ∧ w'.cell? ⟨w.heap.size, 2, none⟩ = some (.int .i64 n.uid) ∧ w'.cell? ⟨w.heap.size, 3, none⟩ = some (.int .i64 n.gid) ∧ w'.cell? ⟨w.heap.size, 4, none⟩ = some (.slice A1 n.data.length c1) ∧ w'.cell? ⟨w.heap.size, 5, none⟩ = some (.slice A2 n.ents.length c2) ∧ w'.cell? ⟨w.heap.size, 6, none⟩ = some (.string (bA n.target)))
    (first | exact SX | exact SK _ _ h1 (SX) | exact SK _ _ h2 (SK _ _ h1 (SX)) | exact SK _ _ h3 (SK _ _ h2 (SK _ _ h1 (SX))) | exact SK _ _ h4 (SK _ _ h3 (SK _ _ h2 (SK _ _ h1 (SX)))) | exact SK _ _ h5 (SK _ _ h4 (SK _ _ h3 (SK _ _ h2 (SK _ _ h1 (SX))))))
    (first
      | (go_at_call 15; (with_reducible refine (right_at (HNa7.out.later (Below.refl _ _).drew) hMf hMr).mono ?_); rintro e0 w10 ⟨rfl, h1⟩)
      | (go_at_call 16; (with_reducible refine (same_at ((HNb.out.later (Below.refl _ _).drew).later h1) ((HN7.out.later (Below.refl _ _).drew).later h1) hF.few).mono ?_); rintro e1 w11 ⟨rfl, h2⟩)
      | (go_at_call 17; (with_reducible refine (find_at (((HNa7.out.later (Below.refl _ _).drew).later h1).later h2) hMf name hMn).mono ?_); rintro e2 w12 ⟨rfl, h3⟩)
      | (go_at_call 18; (with_reducible refine (size_at ((((HNa7.out.later (Below.refl _ _).drew).later h1).later h2).later h3) hMf hMs).mono ?_); rintro e3 w13 ⟨rfl, h4⟩)
      | (go_at_call 18; (with_reducible refine (size_at (((((HN7.out.later (Below.refl _ _).drew).later h1).later h2).later h3).later h4) hF.few hns).mono ?_); rintro e4 w14 ⟨rfl, h5⟩))
  all_goals (
    have HN8 := Lib.hid (HN7.out.later (bt h5 (bt h4 (bt h3 (bt h2 (bt h1 (Below.refl _ _).drew))))))
    have HB8 := Lib.hid (bt h5 (bt h4 (bt h3 (bt h2 (bt h1 (bt (Below.refl _ _).drew HB7.out))))))
    clear SX SK h1 h2 h3 h4 h5
    obtain ⟨p0, p1, p2, p3, p4, p5, p6⟩ := HN8.out.blk.c7
    go_wp2_with fail
    refine (out_of HN8.out hF.few hO hK).mono ?_
    rintro e w9 ⟨A9, c9, A0, c0, rfl, hd9, he9, hb9⟩
    have HB9 := Lib.hid (al (bt hb9 HB8.out) (.cells (ndC K (.slice A9 K.data.length c9) (.slice A0 K.ents.length c0)) 25))
    clear hb9 hd9 he9 p0 p1 p2 p3 p4 p5 p6
    go_wp2_with fail
    go_quiet (fail)
    go_wp2
    go_ret
    exact ⟨rfl, bdN HB9.out _⟩)
theorem stays_walk (n : Nd) (vd ve : Value) (s : ByteArray) (id : Int) (w : World) (hd : BytesR w vd n.data) (he : EntsR w ve n.ents) (hl : n.ents.length ≤ maxLen) : Calls Try.prog 4 #[nodeV n vd ve, .string s, .int .i64 id] w fun e w' => e = .returned (.bool true) ∧ Below w.heap.size w w' := by
  rw [show s = bA (tl s) from bA_eq rfl]
  by_cases hF : fewP n
  · by_cases hs : 40 < (tl s).length
    · exact stays_long n vd ve _ id w hd he hl hF hs
    · by_cases hR : rightP n
      · by_cases hE : withE n (tl s) id = 0
        · exact stays_in n vd ve _ id w hd he hl hF hs hR hE
        · by_cases hO : outE n (tl s) = 0
          · exact stays_out n vd ve _ id w hd he hl hF hs hR hE hO
          · exact stays_none n vd ve _ id w hd he hl hF hs hR hE hO
      · exact stays_wrong n vd ve _ id w hd he hl hF hs hR
  · exact stays_few n vd ve _ id w hd he hl hF
end Go.Proofs.Ytibmnafnandodaa

