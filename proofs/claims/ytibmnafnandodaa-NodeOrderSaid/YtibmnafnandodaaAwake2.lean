/-
  awake: the document's example answers true. No condition.
-/
import Derived.Test.YtibmnafnandodaaAwake
namespace Go.Proofs.Ytibmnafnandodaa
open Go Go.RowKit

/-- A node as it lies in a block of its own. -/
structure NB (X : World) (g : Nat) (n : Nd) (vd ve : Value) : Prop where
  blk : Blk X g 25 (ndC n vd ve)
  data : BytesR X vd n.data
  ents : EntsR X ve n.ents
theorem NB.later {X X' : World} {g : Nat} {n : Nd} {vd ve : Value} (h : NB X g n vd ve) (hb : Below X.heap.size X X') : NB X' g n vd ve := ⟨h.blk.below hb, h.data.below hb, h.ents.below hb⟩
theorem NB.made {X : World} {g : Nat} {n : Nd} {vd ve : Value} (h : NB X g n vd ve) (o : Obj) : NB (X.alloc o) g n vd ve := h.later (ba _ _)
theorem NB.new {X : World} {n : Nd} {vd ve : Value} (hd : BytesR X vd n.data) (he : EntsR X ve n.ents) : NB (X.alloc (.cells (ndC n vd ve) 25)) X.heap.size n vd ve := ⟨Blk.new _ _ _, hd.below (ba _ _), he.below (ba _ _)⟩
theorem NB.lt {X : World} {g : Nat} {n : Nd} {vd ve : Value} (h : NB X g n vd ve) : g < X.heap.size := h.blk.lt
def n0 : Nd := ⟨2, 0, 0, 0, [], [([97], 2)], []⟩
def nb : Nd := ⟨2, 0, 0, 0, [], [([97], 2), ([98], 3)], []⟩
theorem e_b : withE n0 [98] 3 = 0 := by decide
theorem m_b : withM n0 [98] 3 = nb := by unfold withM; rw [if_pos e_b]; rfl
theorem e_a : withE n0 [97] 3 = 17 := by decide
theorem m_a : withM n0 [97] 3 = Nd.zero := withM_bad (by rw [e_a]; decide)
theorem e_c : outE n0 [99] = 2 := by decide
theorem m_c : outM n0 [99] = Nd.zero := outM_bad (by rw [e_c]; decide)
theorem rise_b : rise (nmE nb.ents) := List.pairwise_cons.2 ⟨fun z hz => by
  have : z = [98] := by simpa [nmE, nb] using hz
  subst this
  rfl, List.pairwise_singleton _ _⟩
theorem right_b : toB (rightP nb) = true := toB_true ⟨⟨by decide, by decide, by decide⟩, .inr (.inl ⟨rfl, rfl, rfl, ⟨fun e he => by
  have : e = ([97], 2) ∨ e = ([98], 3) := by simpa [nb] using he
  rcases this with rfl | rfl <;> exact ⟨by decide, by decide⟩, rise_b, by decide⟩⟩)⟩
theorem few_0 : Few n0 := ⟨by decide, by decide, fun e he => by
  have : e = ([97], 2) := by simpa [n0] using he
  subst this
  decide, by decide⟩
theorem few_b : Few nb := ⟨by decide, by decide, fun e he => by
  have : e = ([97], 2) ∨ e = ([98], 3) := by simpa [nb] using he
  rcases this with rfl | rfl <;> decide, by decide⟩
theorem same_00 : toB (n0 = n0) = true := toB_true rfl
theorem same_0b : toB (n0 = nb) = false := toB_false (fun h => by have := congrArg (fun n : Nd => n.ents.length) h; simp [n0, nb] at this)
/-- The node of the example, as it is built. -/
theorem n0_built (w : World) : NB ((w.alloc (.cells #[.string ⟨#[97]⟩, .int .i64 2] 49)).alloc (.cells #[.int .i64 2, .int .i64 0, .int .i64 0, .int .i64 0, .slice none 0 0, .slice (some ⟨w.heap.size, 0, none⟩) 1 1, .string ⟨#[]⟩] 25)) (w.heap.size + 1) n0 (.slice none 0 0) (.slice (some ⟨w.heap.size, 0, none⟩) 1 1) := by
  have h := NB.new (X := w.alloc (.cells #[.string ⟨#[97]⟩, .int .i64 2] 49)) (n := n0) (vd := .slice none 0 0) (ve := .slice (some ⟨w.heap.size, 0, none⟩) 1 1) (BytesR.nil _) (EntsR.of_blk (t := 49) (cs := #[.string ⟨#[97]⟩, .int .i64 2]) 1 rfl (Blk.new _ _ _) rfl)
  have hz : (w.alloc (.cells #[.string ⟨#[97]⟩, .int .i64 2] 49)).heap.size = w.heap.size + 1 := by simp
  rw [hz] at h
  exact h
section
variable {X : World} {g : Nat} {vd ve : Value}
theorem aw_with_b (h : NB X g n0 vd ve) : Calls Try.prog 10 #[.agg #[.int .i64 2, .int .i64 0, .int .i64 0, .int .i64 0, vd, ve, .string ⟨#[]⟩], .string ⟨#[98]⟩, .int .i64 3] X fun e w' => ∃ A c A' c', e = .returned (.tuple #[.agg #[.int .i64 2, .int .i64 0, .int .i64 0, .int .i64 0, .slice A 0 c, .slice A' 2 c', .string ⟨#[]⟩], .int .i64 0]) ∧ BytesR w' (.slice A 0 c) nb.data ∧ EntsR w' (.slice A' 2 c') nb.ents ∧ Below X.heap.size X w' := by
  have H := with_any n0 vd ve [98] 3 X h.data h.ents (by decide) (by decide) (by decide)
  rw [e_b, m_b] at H
  refine H.mono ?_
  rintro e w' ⟨v, rfl, ⟨vd', ve', rfl, hd, he⟩, hb⟩
  obtain ⟨A, c, rfl⟩ := bytes_form (n := 0) hd rfl
  obtain ⟨A', c', rfl⟩ := ents_form (n := 2) he rfl
  exact ⟨A, c, A', c', rfl, hd, he, hb⟩
theorem aw_with_a (h : NB X g n0 vd ve) : Calls Try.prog 10 #[.agg #[.int .i64 2, .int .i64 0, .int .i64 0, .int .i64 0, vd, ve, .string ⟨#[]⟩], .string ⟨#[97]⟩, .int .i64 3] X fun e w' => ∃ A c A' c', e = .returned (.tuple #[.agg #[.int .i64 0, .int .i64 0, .int .i64 0, .int .i64 0, .slice A 0 c, .slice A' 0 c', .string ⟨#[]⟩], .int .i64 17]) ∧ Below X.heap.size X w' := by
  have H := with_any n0 vd ve [97] 3 X h.data h.ents (by decide) (by decide) (by decide)
  rw [e_a, m_a] at H
  refine H.mono ?_
  rintro e w' ⟨v, rfl, ⟨vd', ve', rfl, hd, he⟩, hb⟩
  obtain ⟨A, c, rfl⟩ := bytes_form (n := 0) hd rfl
  obtain ⟨A', c', rfl⟩ := ents_form (n := 0) he rfl
  exact ⟨A, c, A', c', rfl, hb⟩
theorem aw_out_c (h : NB X g n0 vd ve) : Calls Try.prog 12 #[.agg #[.int .i64 2, .int .i64 0, .int .i64 0, .int .i64 0, vd, ve, .string ⟨#[]⟩], .string ⟨#[99]⟩] X fun e w' => ∃ A c A' c', e = .returned (.tuple #[.agg #[.int .i64 0, .int .i64 0, .int .i64 0, .int .i64 0, .slice A 0 c, .slice A' 0 c', .string ⟨#[]⟩], .int .i64 2]) ∧ Below X.heap.size X w' := by
  have H := without_any n0 vd ve [99] X h.data h.ents (by decide) (by decide)
  rw [e_c, m_c] at H
  refine H.mono ?_
  rintro e w' ⟨v, rfl, ⟨vd', ve', rfl, hd, he⟩, hb⟩
  obtain ⟨A, c, rfl⟩ := bytes_form (n := 0) hd rfl
  obtain ⟨A', c', rfl⟩ := ents_form (n := 0) he rfl
  exact ⟨A, c, A', c', rfl, hb⟩
theorem aw_find (h : NB X g nb vd ve) : Calls Try.prog 17 #[.agg #[.int .i64 2, .int .i64 0, .int .i64 0, .int .i64 0, vd, ve, .string ⟨#[]⟩], .string ⟨#[98]⟩] X fun e w' => e = .returned (.int .i64 3) ∧ Below X.heap.size X w' := find_any nb vd ve [98] X h.data h.ents (by decide)
theorem aw_size (h : NB X g nb vd ve) : Calls Try.prog 18 #[.agg #[.int .i64 2, .int .i64 0, .int .i64 0, .int .i64 0, vd, ve, .string ⟨#[]⟩]] X fun e w' => e = .returned (.int .i64 2) ∧ Below X.heap.size X w' := size_any nb vd ve X h.data h.ents few_b
theorem aw_right (h : NB X g nb vd ve) : Calls Try.prog 15 #[.agg #[.int .i64 2, .int .i64 0, .int .i64 0, .int .i64 0, vd, ve, .string ⟨#[]⟩]] X fun e w' => e = .returned (.bool true) ∧ Below X.heap.size X w' := by
  have H := right_any nb vd ve X h.data h.ents few_b
  rw [right_b] at H
  exact H
theorem aw_names (h : NB X g nb vd ve) : Calls Try.prog 19 #[.agg #[.int .i64 2, .int .i64 0, .int .i64 0, .int .i64 0, vd, ve, .string ⟨#[]⟩]] X fun e w' => ∃ A c, e = .returned (.slice A 2 c) ∧ StrsR w' (.slice A 2 c) [⟨#[97]⟩, ⟨#[98]⟩] ∧ Below X.heap.size X w' := by
  refine (names_any nb vd ve X h.data h.ents rise_b (by decide)).mono ?_
  rintro e w' ⟨v, rfl, hs, hb⟩
  obtain ⟨A, c, rfl⟩ := strs_form (n := 2) hs rfl
  exact ⟨A, c, rfl, hs, hb⟩
theorem aw_same {vd' ve' : Value} {g' : Nat} (h : NB X g n0 vd ve) (h' : NB X g' n0 vd' ve') : Calls Try.prog 16 #[.agg #[.int .i64 2, .int .i64 0, .int .i64 0, .int .i64 0, vd, ve, .string ⟨#[]⟩], .agg #[.int .i64 2, .int .i64 0, .int .i64 0, .int .i64 0, vd', ve', .string ⟨#[]⟩]] X fun e w' => e = .returned (.bool true) ∧ Below X.heap.size X w' := by
  have H := same_any n0 n0 vd ve vd' ve' X h.data h.ents h'.data h'.ents few_0 few_0
  rw [same_00] at H
  exact H
theorem aw_differ {vd' ve' : Value} {g' : Nat} (h : NB X g n0 vd ve) (h' : NB X g' nb vd' ve') : Calls Try.prog 16 #[.agg #[.int .i64 2, .int .i64 0, .int .i64 0, .int .i64 0, vd, ve, .string ⟨#[]⟩], .agg #[.int .i64 2, .int .i64 0, .int .i64 0, .int .i64 0, vd', ve', .string ⟨#[]⟩]] X fun e w' => e = .returned (.bool false) ∧ Below X.heap.size X w' := by
  have H := same_any n0 nb vd ve vd' ve' X h.data h.ents h'.data h'.ents few_0 few_b
  rw [same_0b] at H
  exact H
end
theorem NB.cells0 {X : World} {g : Nat} {vd ve : Value} (h : NB X g n0 vd ve) : Blk X g 25 #[.int .i64 2, .int .i64 0, .int .i64 0, .int .i64 0, vd, ve, .string ⟨#[]⟩] := h.blk
theorem NB.cellsb {X : World} {g : Nat} {vd ve : Value} (h : NB X g nb vd ve) : Blk X g 25 #[.int .i64 2, .int .i64 0, .int .i64 0, .int .i64 0, vd, ve, .string ⟨#[]⟩] := h.blk
theorem nb_new {X : World} {vd ve : Value} (hd : BytesR X vd nb.data) (he : EntsR X ve nb.ents) : NB (X.alloc (.cells #[.int .i64 2, .int .i64 0, .int .i64 0, .int .i64 0, vd, ve, .string ⟨#[]⟩] 25)) X.heap.size nb vd ve := NB.new hd he
set_option maxRecDepth 100000 in
set_option maxHeartbeats 8000000 in
theorem awake_any (w : World) : Calls Try.prog 7 #[] w fun e w' => e = .returned (.bool true) ∧ Below w.heap.size w w' := by
  have HN1 := Lib.hid (n0_built w)
  have HB1 := Lib.hid (al (ba w (.cells #[.string ⟨#[97]⟩, .int .i64 2] 49)) (.cells #[.int .i64 2, .int .i64 0, .int .i64 0, .int .i64 0, .slice none 0 0, .slice (some ⟨w.heap.size, 0, none⟩) 1 1, .string ⟨#[]⟩] 25))
  go_enter Try.func7, Try.ntmps7
  go_wp2_with fail
  refine (aw_with_b HN1.out).mono ?_
  rintro e w2 ⟨A2, c2, A3, c3, rfl, hd2, he2, hb2⟩
  have HN2 := Lib.hid (HN1.out.later hb2)
  have HB2 := Lib.hid (bt hb2 HB1.out)
  have HNb := Lib.hid (nb_new hd2 he2)
  have hlt := HN2.out.lt
  obtain ⟨p0, p1, p2, p3, p4, p5, p6⟩ := HN2.out.cells0.c7
  clear hd2 he2 hb2 HN1 HB1
  go_wp2_with fail
  refine (aw_with_a (HN2.out.made _)).mono ?_
  rintro e w3 ⟨A4, c4, A5, c5, rfl, hb3⟩
  have HN3 := Lib.hid ((HN2.out.made _).later hb3)
  have HB3 := Lib.hid (bt hb3 (bt (ba _ _) HB2.out))
  have HNb3 := Lib.hid (HNb.out.later hb3)
  clear hlt p0 p1 p2 p3 p4 p5 p6 hb3 HN2 HB2 HNb
  have hlt := HN3.out.lt
  have hlb := HNb3.out.lt
  obtain ⟨p0, p1, p2, p3, p4, p5, p6⟩ := HN3.out.cells0.c7
  go_wp2_with fail
  refine (aw_out_c (HN3.out.made _)).mono ?_
  rintro e w4 ⟨A6, c6, A7, c7, rfl, hb4⟩
  have HN4 := Lib.hid ((HN3.out.made _).later hb4)
  have HB4 := Lib.hid (bt hb4 (bt (ba _ _) HB3.out))
  have HNb4 := Lib.hid ((HNb3.out.made _).later hb4)
  clear hlt hlb p0 p1 p2 p3 p4 p5 p6 hb4 HN3 HB3 HNb3
  have hlt := HN4.out.lt
  have hlb := HNb4.out.lt
  obtain ⟨p0, p1, p2, p3, p4, p5, p6⟩ := HN4.out.cells0.c7
  obtain ⟨r0, r1, r2, r3, r4, r5, r6⟩ := HNb4.out.cellsb.c7
  go_wp2_with fail
  refine (aw_find (HNb4.out.made _)).mono ?_
  rintro e w5 ⟨rfl, hb5⟩
  have HN5 := Lib.hid ((HN4.out.made _).later hb5)
  have HB5 := Lib.hid (bt hb5 (bt (ba _ _) HB4.out))
  have HNb5 := Lib.hid ((HNb4.out.made _).later hb5)
  clear hlt hlb p0 p1 p2 p3 p4 p5 p6 r0 r1 r2 r3 r4 r5 r6 hb5 HN4 HB4 HNb4
  obtain ⟨r0, r1, r2, r3, r4, r5, r6⟩ := HNb5.out.cellsb.c7
  go_wp2_with fail
  refine (aw_size HNb5.out).mono ?_
  rintro e w6 ⟨rfl, hb6⟩
  have HN6 := Lib.hid (HN5.out.later hb6)
  have HB6 := Lib.hid (bt hb6 HB5.out)
  have HNb6 := Lib.hid (HNb5.out.later hb6)
  clear r0 r1 r2 r3 r4 r5 r6 hb6 HN5 HB5 HNb5
  obtain ⟨r0, r1, r2, r3, r4, r5, r6⟩ := HNb6.out.cellsb.c7
  go_wp2_with fail
  refine (aw_right HNb6.out).mono ?_
  rintro e w7 ⟨rfl, hb7⟩
  have HN7 := Lib.hid (HN6.out.later hb7)
  have HB7 := Lib.hid (bt hb7 HB6.out)
  have HNb7 := Lib.hid (HNb6.out.later hb7)
  clear r0 r1 r2 r3 r4 r5 r6 hb7 HN6 HB6 HNb6
  obtain ⟨r0, r1, r2, r3, r4, r5, r6⟩ := HNb7.out.cellsb.c7
  go_wp2_with fail
  refine (aw_names HNb7.out).mono ?_
  rintro e w8 ⟨A8, c8, rfl, hs8, hb8⟩
  have HN8 := Lib.hid (HN7.out.later hb8)
  have HB8 := Lib.hid (bt hb8 HB7.out)
  have HNb8 := Lib.hid (HNb7.out.later hb8)
  have HS8 := Lib.hid hs8
  clear r0 r1 r2 r3 r4 r5 r6 hb8 hs8 HN7 HB7 HNb7
  go_wp2_with fail
  refine (same_true _ _ [⟨#[97]⟩, ⟨#[98]⟩] _ (HS8.out.below (ba _ _)) (strs2 w8 ⟨#[97]⟩ ⟨#[98]⟩ _ rfl) (by decide)).mono ?_
  rintro e w9 ⟨rfl, hb9⟩
  have HN9 := Lib.hid ((HN8.out.made _).later hb9)
  have HB9 := Lib.hid (bt hb9 (bt (ba _ _) HB8.out))
  have HNb9 := Lib.hid ((HNb8.out.made _).later hb9)
  clear hb9 HN8 HB8 HNb8 HS8
  obtain ⟨p0, p1, p2, p3, p4, p5, p6⟩ := HN9.out.cells0.c7
  go_wp2_with fail
  refine (aw_same HN9.out HN9.out).mono ?_
  rintro e w10 ⟨rfl, hb10⟩
  have HN10 := Lib.hid (HN9.out.later hb10)
  have HB10 := Lib.hid (bt hb10 HB9.out)
  have HNb10 := Lib.hid (HNb9.out.later hb10)
  clear p0 p1 p2 p3 p4 p5 p6 hb10 HN9 HB9 HNb9
  obtain ⟨p0, p1, p2, p3, p4, p5, p6⟩ := HN10.out.cells0.c7
  obtain ⟨r0, r1, r2, r3, r4, r5, r6⟩ := HNb10.out.cellsb.c7
  go_wp2_with fail
  refine (aw_differ HN10.out HNb10.out).mono ?_
  rintro e w11 ⟨rfl, hb11⟩
  have HB11 := Lib.hid (bt hb11 HB10.out)
  clear hb11
  go_wp2
  go_ret
  exact ⟨rfl, HB11.out⟩
end Go.Proofs.Ytibmnafnandodaa
