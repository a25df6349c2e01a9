/-
  NodeFinds, walked: for every node and every name the call returns true, and what was there is as it was. The conditions: the list of entries and the name are no longer than a machine has.
-/
import Derived.Test.YtibmnafnandodaaAwake2
namespace Go.Proofs.Ytibmnafnandodaa
open Go Go.RowKit

section
variable {X : World} {g : Nat} {n : Nd} {vd ve : Value}
theorem few_at (h : NB X g n vd ve) (hl : n.ents.length ≤ maxLen) {b : Bool} (hb : toB (fewP n) = b) : Calls Try.prog 8 #[.agg (ndC n vd ve)] X fun e w' => e = .returned (.bool b) ∧ Below X.heap.size X w' := by
  have H := few_any n vd ve X h.data h.ents hl
  rw [hb] at H
  exact H
theorem right_at (h : NB X g n vd ve) (hf : Few n) {b : Bool} (hb : toB (rightP n) = b) : Calls Try.prog 15 #[.agg (ndC n vd ve)] X fun e w' => e = .returned (.bool b) ∧ Below X.heap.size X w' := by
  have H := right_any n vd ve X h.data h.ents hf
  rw [hb] at H
  exact H
theorem find_at (h : NB X g n vd ve) (hf : Few n) (name : Nm) {i : Int} (hi : fnd n.ents name = i) : Calls Try.prog 17 #[.agg (ndC n vd ve), .string (bA name)] X fun e w' => e = .returned (.int .i64 i) ∧ Below X.heap.size X w' := by
  have H := find_any n vd ve name X h.data h.ents hf.ents
  rw [hi] at H
  exact H
theorem size_at (h : NB X g n vd ve) (hf : Few n) {i : Int} (hi : sizM n = i) : Calls Try.prog 18 #[.agg (ndC n vd ve)] X fun e w' => e = .returned (.int .i64 i) ∧ Below X.heap.size X w' := by
  have H := size_any n vd ve X h.data h.ents hf
  rw [hi] at H
  exact H
theorem names_at (h : NB X g n vd ve) (hr : rise (nmE n.ents)) (hn : n.ents.length ≤ 12) : Calls Try.prog 19 #[.agg (ndC n vd ve)] X fun e w' => ∃ A c, e = .returned (.slice A n.ents.length c) ∧ StrsR w' (.slice A n.ents.length c) (nmA (nmE n.ents)) ∧ Below X.heap.size X w' := by
  refine (names_any n vd ve X h.data h.ents hr hn).mono ?_
  rintro e w' ⟨v, rfl, hs, hb⟩
  obtain ⟨A, c, rfl⟩ := strs_form (n := n.ents.length) hs (by rw [nmA_len, len_nmE])
  exact ⟨A, c, rfl, hs, hb⟩
end
theorem right_rise {n : Nd} (h : rightP n) : rise (nmE n.ents) ∧ n.ents.length ≤ 12 := by
  by_cases hk : n.kind = 2
  · have := (right_dir h hk).2.2.2
    exact ⟨this.2.1, by have := this.2.2; omega⟩
  · rw [right_other h hk]
    exact ⟨List.Pairwise.nil, by simp⟩
set_option maxRecDepth 100000 in
theorem finds_few (n : Nd) (vd ve : Value) (name : Nm) (w : World) (hd : BytesR w vd n.data) (he : EntsR w ve n.ents) (hl : n.ents.length ≤ maxLen) (hF : ¬ fewP n) : Calls Try.prog 6 #[nodeV n vd ve, .string (bA name)] w fun e w' => e = .returned (.bool true) ∧ Below w.heap.size w w' := by
  have HN := Lib.hid (NB.new (X := w) hd he)
  have HB := Lib.hid (ba w (.cells (ndC n vd ve) 25))
  obtain ⟨A1, c1, rfl⟩ := bytes_form hd rfl
  obtain ⟨A2, c2, rfl⟩ := ents_form he rfl
  clear hd he
  unfold nodeV

  go_enter Try.func6, Try.ntmps6
  go_wp2_with fail
  refine (awake_any _).mono ?_
  rintro e w2 ⟨rfl, hb2⟩
  have HN2 := Lib.hid (HN.out.later hb2)
  have HB2 := Lib.hid (bt hb2 HB.out)
  clear hb2
  obtain ⟨p0, p1, p2, p3, p4, p5, p6⟩ := HN2.out.blk.c7
  go_wp2_with fail
  refine (few_at HN2.out hl (toB_false hF)).mono ?_
  rintro e w3 ⟨rfl, hb3⟩
  have HN3 := Lib.hid (HN2.out.later hb3)
  have HB3 := Lib.hid (bt hb3 HB2.out)
  clear hb3 p0 p1 p2 p3 p4 p5 p6
  obtain ⟨p0, p1, p2, p3, p4, p5, p6⟩ := HN3.out.blk.c7
  go_wp2
  go_ret
  exact ⟨rfl, HB3.out⟩
set_option maxRecDepth 100000 in
theorem finds_long (n : Nd) (vd ve : Value) (name : Nm) (w : World) (hd : BytesR w vd n.data) (he : EntsR w ve n.ents) (hl : n.ents.length ≤ maxLen) (hF : fewP n) (hs : 40 < name.length) : Calls Try.prog 6 #[nodeV n vd ve, .string (bA name)] w fun e w' => e = .returned (.bool true) ∧ Below w.heap.size w w' := by
  have q : (40 : Int) < ((bA name).size : Int) := by rw [size_bA]; omega
  have HN := Lib.hid (NB.new (X := w) hd he)
  have HB := Lib.hid (ba w (.cells (ndC n vd ve) 25))
  obtain ⟨A1, c1, rfl⟩ := bytes_form hd rfl
  obtain ⟨A2, c2, rfl⟩ := ents_form he rfl
  clear hd he
  unfold nodeV

  go_enter Try.func6, Try.ntmps6
  go_wp2_with fail
  refine (awake_any _).mono ?_
  rintro e w2 ⟨rfl, hb2⟩
  have HN2 := Lib.hid (HN.out.later hb2)
  have HB2 := Lib.hid (bt hb2 HB.out)
  clear hb2
  obtain ⟨p0, p1, p2, p3, p4, p5, p6⟩ := HN2.out.blk.c7
  go_wp2_with fail
  refine (few_at HN2.out hl (toB_true hF)).mono ?_
  rintro e w3 ⟨rfl, hb3⟩
  have HN3 := Lib.hid (HN2.out.later hb3)
  have HB3 := Lib.hid (bt hb3 HB2.out)
  clear hb3 p0 p1 p2 p3 p4 p5 p6
  obtain ⟨p0, p1, p2, p3, p4, p5, p6⟩ := HN3.out.blk.c7
  go_wp2
  go_ret
  exact ⟨rfl, HB3.out⟩
set_option maxRecDepth 100000 in
theorem finds_wrong (n : Nd) (vd ve : Value) (name : Nm) (w : World) (hd : BytesR w vd n.data) (he : EntsR w ve n.ents) (hl : n.ents.length ≤ maxLen) (hF : fewP n) (hs : ¬ 40 < name.length) (hR : ¬ rightP n) : Calls Try.prog 6 #[nodeV n vd ve, .string (bA name)] w fun e w' => e = .returned (.bool true) ∧ Below w.heap.size w w' := by
  have q : ¬ (40 : Int) < ((bA name).size : Int) := by rw [size_bA]; omega
  have HN := Lib.hid (NB.new (X := w) hd he)
  have HB := Lib.hid (ba w (.cells (ndC n vd ve) 25))
  obtain ⟨A1, c1, rfl⟩ := bytes_form hd rfl
  obtain ⟨A2, c2, rfl⟩ := ents_form he rfl
  clear hd he
  unfold nodeV

  go_enter Try.func6, Try.ntmps6
  go_wp2_with fail
  refine (awake_any _).mono ?_
  rintro e w2 ⟨rfl, hb2⟩
  have HN2 := Lib.hid (HN.out.later hb2)
  have HB2 := Lib.hid (bt hb2 HB.out)
  clear hb2
  obtain ⟨p0, p1, p2, p3, p4, p5, p6⟩ := HN2.out.blk.c7
  go_wp2_with fail
  refine (few_at HN2.out hl (toB_true hF)).mono ?_
  rintro e w3 ⟨rfl, hb3⟩
  have HN3 := Lib.hid (HN2.out.later hb3)
  have HB3 := Lib.hid (bt hb3 HB2.out)
  clear hb3 p0 p1 p2 p3 p4 p5 p6
  obtain ⟨p0, p1, p2, p3, p4, p5, p6⟩ := HN3.out.blk.c7
  go_wp2_with fail
  refine (right_at HN3.out hF.few (toB_false hR)).mono ?_
  rintro e w4 ⟨rfl, hb4⟩
  have HN4 := Lib.hid (HN3.out.later hb4)
  have HB4 := Lib.hid (bt hb4 HB3.out)
  clear hb4 p0 p1 p2 p3 p4 p5 p6
  obtain ⟨p0, p1, p2, p3, p4, p5, p6⟩ := HN4.out.blk.c7
  go_wp2
  go_ret
  exact ⟨rfl, HB4.out⟩
set_option maxRecDepth 100000 in
theorem finds_other (n : Nd) (vd ve : Value) (name : Nm) (w : World) (hd : BytesR w vd n.data) (he : EntsR w ve n.ents) (hl : n.ents.length ≤ maxLen) (hF : fewP n) (hs : ¬ 40 < name.length) (hR : rightP n) (hk : ¬ n.kind = 2) : Calls Try.prog 6 #[nodeV n vd ve, .string (bA name)] w fun e w' => e = .returned (.bool true) ∧ Below w.heap.size w w' := by
  have q : ¬ (40 : Int) < ((bA name).size : Int) := by rw [size_bA]; omega
  have kq : (n.kind != 2) = true := by simpa using hk
  have hen := right_other hR hk
  have hfd : fnd n.ents name = 0 := by rw [hen]; rfl
  have q0 : ((n.ents.length : Int) == 0) = true := int0 hen
  obtain ⟨hri, h12⟩ := right_rise hR
  have HEN := Lib.hid hen
  clear hen
  have HN := Lib.hid (NB.new (X := w) hd he)
  have HB := Lib.hid (ba w (.cells (ndC n vd ve) 25))
  obtain ⟨A1, c1, rfl⟩ := bytes_form hd rfl
  obtain ⟨A2, c2, rfl⟩ := ents_form he rfl
  clear hd he
  unfold nodeV

  go_enter Try.func6, Try.ntmps6
  go_wp2_with fail
  refine (awake_any _).mono ?_
  rintro e w2 ⟨rfl, hb2⟩
  have HN2 := Lib.hid (HN.out.later hb2)
  have HB2 := Lib.hid (bt hb2 HB.out)
  clear hb2
  obtain ⟨p0, p1, p2, p3, p4, p5, p6⟩ := HN2.out.blk.c7
  go_wp2_with fail
  refine (few_at HN2.out hl (toB_true hF)).mono ?_
  rintro e w3 ⟨rfl, hb3⟩
  have HN3 := Lib.hid (HN2.out.later hb3)
  have HB3 := Lib.hid (bt hb3 HB2.out)
  clear hb3 p0 p1 p2 p3 p4 p5 p6
  obtain ⟨p0, p1, p2, p3, p4, p5, p6⟩ := HN3.out.blk.c7
  go_wp2_with fail
  refine (right_at HN3.out hF.few (toB_true hR)).mono ?_
  rintro e w4 ⟨rfl, hb4⟩
  have HN4 := Lib.hid (HN3.out.later hb4)
  have HB4 := Lib.hid (bt hb4 HB3.out)
  clear hb4 p0 p1 p2 p3 p4 p5 p6
  obtain ⟨p0, p1, p2, p3, p4, p5, p6⟩ := HN4.out.blk.c7
  go_wp2_with fail
  refine (names_at HN4.out hri h12).mono ?_
  rintro e w5 ⟨A5, c5, rfl, -, hb5⟩
  have HN5 := Lib.hid (HN4.out.later hb5)
  have HB5 := Lib.hid (bt hb5 HB4.out)
  clear hb5 p0 p1 p2 p3 p4 p5 p6
  obtain ⟨p0, p1, p2, p3, p4, p5, p6⟩ := HN5.out.blk.c7
  go_wp2_with fail
  refine (find_at HN5.out hF.few name hfd).mono ?_
  rintro e w6 ⟨rfl, hb6⟩
  have HB6 := Lib.hid (bt hb6 HB5.out)
  clear hb6 p0 p1 p2 p3 p4 p5 p6
  go_wp2
  go_ret
  exact ⟨rfl, HB6.out⟩
end Go.Proofs.Ytibmnafnandodaa

