/-
  NodeChanges, walked: for every node, name and number the call returns true, and what was there is as it was. The conditions: the list of entries and the name are no longer than a machine has.
-/
import Derived.Test.YtibmnafnandodaaStaysW
import Derived.Test.YtibmnafnandodaaRefC
import Derived.Test.YtibmnafnandodaaModel
namespace Go.Proofs.Ytibmnafnandodaa
open Go Go.RowKit

/-- The reference's node in a block of its own. -/
structure RB (X : World) (g : Nat) (n : Nd) (vn vk : Value) : Prop where
  blk : Blk X g 31 (rfC n vn vk)
  nm : StrsR X vn (nmA (nmE n.ents))
  kd : IntsR X vk (idE n.ents)
theorem RB.later {X X' : World} {g : Nat} {n : Nd} {vn vk : Value} (h : RB X g n vn vk) (hb : Below X.heap.size X X') : RB X' g n vn vk := ⟨h.blk.below hb, h.nm.below hb, h.kd.below hb⟩
theorem RB.made {X : World} {g : Nat} {n : Nd} {vn vk : Value} (h : RB X g n vn vk) (o : Obj) : RB (X.alloc o) g n vn vk := h.later (ba _ _)
theorem RB.new {X : World} {n : Nd} {vn vk : Value} (hn : StrsR X vn (nmA (nmE n.ents))) (hk : IntsR X vk (idE n.ents)) : RB (X.alloc (.cells (rfC n vn vk) 31)) X.heap.size n vn vk := ⟨Blk.new _ _ _, hn.below (ba _ _), hk.below (ba _ _)⟩
section
variable {X : World} {g : Nat} {n : Nd} {vd ve vn vk : Value}
theorem model_at (h : NB X g n vd ve) (hf : Few n) : Calls Try.prog 9 #[.agg (ndC n vd ve)] X fun e w' => ∃ A c A' c', e = .returned (.agg (rfC n (.slice A n.ents.length c) (.slice A' n.ents.length c'))) ∧ StrsR w' (.slice A n.ents.length c) (nmA (nmE n.ents)) ∧ IntsR w' (.slice A' n.ents.length c') (idE n.ents) ∧ Below X.heap.size X w' := by
  refine (model_any n vd ve X h.data h.ents hf.ents).mono ?_
  rintro e w' ⟨v, rfl, ⟨vn, vk, rfl, hn, hk⟩, hb⟩
  obtain ⟨A, c, rfl⟩ := strs_form hn (nm_len _)
  obtain ⟨A', c', rfl⟩ := ints_form hk (idE_len _)
  exact ⟨A, c, A', c', rfl, hn, hk, hb⟩
theorem rwith_at (h : RB X g n vn vk) (hf : Few n) {name : Nm} (hs : name.length ≤ 1000) {id E : Int} (hE : withE n name id = E) {M : Nd} (hM : withM n name id = M) : Calls Try.prog 11 #[.agg (rfC n vn vk), .string (bA name), .int .i64 id] X fun e w' => ∃ A c A' c', e = .returned (.tuple #[.agg (rfC M (.slice A M.ents.length c) (.slice A' M.ents.length c')), .int .i64 E]) ∧ StrsR w' (.slice A M.ents.length c) (nmA (nmE M.ents)) ∧ IntsR w' (.slice A' M.ents.length c') (idE M.ents) ∧ Below X.heap.size X w' := by
  have H := ref_with n vn vk name id X h.nm h.kd hf.ents hf.names hs
  rw [hE, hM] at H
  refine H.mono ?_
  rintro e w' ⟨v, rfl, ⟨vn, vk, rfl, hn, hk⟩, hb⟩
  obtain ⟨A, c, rfl⟩ := strs_form hn (nm_len _)
  obtain ⟨A', c', rfl⟩ := ints_form hk (idE_len _)
  exact ⟨A, c, A', c', rfl, hn, hk, hb⟩
theorem rout_at (h : RB X g n vn vk) (hf : Few n) {name : Nm} {E : Int} (hE : outE n name = E) {M : Nd} (hM : outM n name = M) : Calls Try.prog 13 #[.agg (rfC n vn vk), .string (bA name)] X fun e w' => ∃ A c A' c', e = .returned (.tuple #[.agg (rfC M (.slice A M.ents.length c) (.slice A' M.ents.length c')), .int .i64 E]) ∧ StrsR w' (.slice A M.ents.length c) (nmA (nmE M.ents)) ∧ IntsR w' (.slice A' M.ents.length c') (idE M.ents) ∧ Below X.heap.size X w' := by
  have H := ref_out n vn vk name X h.nm h.kd hf.ents
  rw [hE, hM] at H
  refine H.mono ?_
  rintro e w' ⟨v, rfl, ⟨vn, vk, rfl, hn, hk⟩, hb⟩
  obtain ⟨A, c, rfl⟩ := strs_form hn (nm_len _)
  obtain ⟨A', c', rfl⟩ := ints_form hk (idE_len _)
  exact ⟨A, c, A', c', rfl, hn, hk, hb⟩
theorem rsame_at {vn' vk' : Value} (hf : Few n) (h1 : StrsR X vn (nmA (nmE n.ents))) (h2 : IntsR X vk (idE n.ents)) (h : RB X g n vn' vk') : Calls Try.prog 14 #[.agg (rfC n vn vk), .agg (rfC n vn' vk')] X fun e w' => e = .returned (.bool true) ∧ Below X.heap.size X w' := ref_same n vn vk vn' vk' X h1 h2 h.nm h.kd hf.ents
end
theorem few_zero : Few Nd.zero := ⟨by decide, by decide, (fun e he => by cases he), by decide⟩
theorem few_withM {n : Nd} {name : Nm} {id : Int} (h : fewP n) (hs : name.length ≤ 40) : Few (withM n name id) := by
  by_cases hE : withE n name id = 0
  · exact few_with h hs hE
  · rw [withM, if_neg hE]; exact few_zero
theorem few_outM {n : Nd} {name : Nm} (h : fewP n) : Few (outM n name) := by
  by_cases hE : outE n name = 0
  · exact few_out h hE
  · rw [outM, if_neg hE]; exact few_zero
set_option maxRecDepth 100000 in
theorem changes_few (n : Nd) (vd ve : Value) (name : Nm) (id : Int) (w : World) (hd : BytesR w vd n.data) (he : EntsR w ve n.ents) (hl : n.ents.length ≤ maxLen) (hF : ¬ fewP n) : Calls Try.prog 3 #[nodeV n vd ve, .string (bA name), .int .i64 id] w fun e w' => e = .returned (.bool true) ∧ Below w.heap.size w w' := by
  have HN := Lib.hid (NB.new (X := w) hd he)
  have HB := Lib.hid (ba w (.cells (ndC n vd ve) 25))
  obtain ⟨A1, c1, rfl⟩ := bytes_form hd rfl
  obtain ⟨A2, c2, rfl⟩ := ents_form he rfl
  clear hd he
  unfold nodeV

  go_enter Try.func3, Try.ntmps3
  go_wp2_with fail
  refine (awake_any _).mono ?_
  rintro e w2 ⟨rfl, hb2⟩
  have HN2 := Lib.hid (HN.out.later hb2)
  have HB2 := Lib.hid (bt hb2 HB.out)
  clear hb2
  obtain ⟨p0, p1, p2, p3, p4, p5, p6⟩ := HN2.out.blk.c7
  go_wp2_with fail
  refine (few_at HN2.out hl (toB_false hF)).mono ?_
  rintro e w3 ⟨rfl, hb3⟩
  have HN3 := Lib.hid (HN2.out.later hb3)
  have HB3 := Lib.hid (bt hb3 HB2.out)
  clear hb3 p0 p1 p2 p3 p4 p5 p6
  obtain ⟨p0, p1, p2, p3, p4, p5, p6⟩ := HN3.out.blk.c7
  go_wp2
  go_ret
  exact ⟨rfl, HB3.out⟩
set_option maxRecDepth 100000 in
theorem changes_long (n : Nd) (vd ve : Value) (name : Nm) (id : Int) (w : World) (hd : BytesR w vd n.data) (he : EntsR w ve n.ents) (hl : n.ents.length ≤ maxLen) (hF : fewP n) (hs : 40 < name.length) : Calls Try.prog 3 #[nodeV n vd ve, .string (bA name), .int .i64 id] w fun e w' => e = .returned (.bool true) ∧ Below w.heap.size w w' := by
  have q : (40 : Int) < ((bA name).size : Int) := by rw [size_bA]; omega
  have HN := Lib.hid (NB.new (X := w) hd he)
  have HB := Lib.hid (ba w (.cells (ndC n vd ve) 25))
  obtain ⟨A1, c1, rfl⟩ := bytes_form hd rfl
  obtain ⟨A2, c2, rfl⟩ := ents_form he rfl
  clear hd he
  unfold nodeV

  go_enter Try.func3, Try.ntmps3
  go_wp2_with fail
  refine (awake_any _).mono ?_
  rintro e w2 ⟨rfl, hb2⟩
  have HN2 := Lib.hid (HN.out.later hb2)
  have HB2 := Lib.hid (bt hb2 HB.out)
  clear hb2
  obtain ⟨p0, p1, p2, p3, p4, p5, p6⟩ := HN2.out.blk.c7
  go_wp2_with fail
  refine (few_at HN2.out hl (toB_true hF)).mono ?_
  rintro e w3 ⟨rfl, hb3⟩
  have HN3 := Lib.hid (HN2.out.later hb3)
  have HB3 := Lib.hid (bt hb3 HB2.out)
  clear hb3 p0 p1 p2 p3 p4 p5 p6
  obtain ⟨p0, p1, p2, p3, p4, p5, p6⟩ := HN3.out.blk.c7
  go_wp2
  go_ret
  exact ⟨rfl, HB3.out⟩
set_option maxRecDepth 100000 in
set_option maxHeartbeats 8000000 in
theorem changes_in (n : Nd) (vd ve : Value) (name : Nm) (id : Int) (w : World) (hd : BytesR w vd n.data) (he : EntsR w ve n.ents) (hl : n.ents.length ≤ maxLen) (hF : fewP n) (hs : ¬ 40 < name.length) : Calls Try.prog 3 #[nodeV n vd ve, .string (bA name), .int .i64 id] w fun e w' => e = .returned (.bool true) ∧ Below w.heap.size w w' := by
  have q : ¬ (40 : Int) < ((bA name).size : Int) := by rw [size_bA]; omega
  obtain ⟨E, hE⟩ : ∃ E, withE n name id = E := ⟨_, rfl⟩
  obtain ⟨M, hM⟩ : ∃ M, withM n name id = M := ⟨_, rfl⟩
  obtain ⟨O, hO⟩ : ∃ O, outE n name = O := ⟨_, rfl⟩
  obtain ⟨K, hK⟩ : ∃ K, outM n name = K := ⟨_, rfl⟩
  have hMf : Few M := by rw [← hM]; exact few_withM hF (by omega)
  have hKf : Few K := by rw [← hK]; exact few_outM hF
  have qE : (E == E) = true := by simp
  have qO : (O == O) = true := by simp
  have HN := Lib.hid (NB.new (X := w) hd he)
  have HB := Lib.hid (ba w (.cells (ndC n vd ve) 25))
  obtain ⟨A1, c1, rfl⟩ := bytes_form hd rfl
  obtain ⟨A2, c2, rfl⟩ := ents_form he rfl
  clear hd he
  unfold nodeV

  go_enter Try.func3, Try.ntmps3
  go_wp2_with fail
  refine (awake_any _).mono ?_
  rintro e w2 ⟨rfl, hb2⟩
  have HN2 := Lib.hid (HN.out.later hb2)
  have HB2 := Lib.hid (bt hb2 HB.out)
  clear hb2
  obtain ⟨p0, p1, p2, p3, p4, p5, p6⟩ := HN2.out.blk.c7
  go_wp2_with fail
  refine (few_at HN2.out hl (toB_true hF)).mono ?_
  rintro e w3 ⟨rfl, hb3⟩
  have HN3 := Lib.hid (HN2.out.later hb3)
  have HB3 := Lib.hid (bt hb3 HB2.out)
  clear hb3 p0 p1 p2 p3 p4 p5 p6
  obtain ⟨p0, p1, p2, p3, p4, p5, p6⟩ := HN3.out.blk.c7
  go_wp2_with fail
  refine (model_at HN3.out hF.few).mono ?_
  rintro e w4 ⟨A4, c4, B4, d4, rfl, hn4, hk4, hb4⟩
  have HN4 := Lib.hid ((HN3.out.later hb4).made (.cells (rfC n (.slice A4 n.ents.length c4) (.slice B4 n.ents.length d4)) 31))
  have HW4 := Lib.hid (RB.new hn4 hk4)
  have HB4 := Lib.hid (bt (ba _ (.cells (rfC n (.slice A4 n.ents.length c4) (.slice B4 n.ents.length d4)) 31)) (bt hb4 HB3.out))
  have hlt := (HN3.out.later hb4).lt
  clear p0 p1 p2 p3 p4 p5 p6
  obtain ⟨p0, p1, p2, p3, p4, p5, p6⟩ := (HN3.out.later hb4).blk.c7
  clear hb4 hn4 hk4 HN HN2 HN3 HB HB2 HB3
  go_wp2_with fail
  refine (with_at HN4.out hF.few (by omega) hE hM).mono ?_
  rintro e w5 ⟨A5, c5, B5, d5, rfl, hd5, he5, hb5⟩
  have HN5 := Lib.hid ((HN4.out.later hb5).made (.cells (ndC M (.slice A5 M.data.length c5) (.slice B5 M.ents.length d5)) 25))
  have HW5 := Lib.hid ((HW4.out.later hb5).made (.cells (ndC M (.slice A5 M.data.length c5) (.slice B5 M.ents.length d5)) 25))
  have HA5 := Lib.hid (NB.new hd5 he5)
  have HB5 := Lib.hid (bt (ba _ (.cells (ndC M (.slice A5 M.data.length c5) (.slice B5 M.ents.length d5)) 25)) (bt hb5 HB4.out))
  clear hlt p0 p1 p2 p3 p4 p5 p6
  have hlw := (HW4.out.later hb5).blk.lt
  obtain ⟨r0, r1, r2, r3, r4, r5, r6, r7⟩ := (HW4.out.later hb5).blk.c8
  clear hb5 hd5 he5 HN4 HW4 HB4
  go_wp2_with fail
  refine (rwith_at HW5.out hF.few (by omega) hE hM).mono ?_
  rintro e w6 ⟨A6, c6, B6, d6, rfl, hn6, hk6, hb6⟩
  have HN6 := Lib.hid ((HN5.out.later hb6).made (.cells (rfC M (.slice A6 M.ents.length c6) (.slice B6 M.ents.length d6)) 31))
  have HW6 := Lib.hid ((HW5.out.later hb6).made (.cells (rfC M (.slice A6 M.ents.length c6) (.slice B6 M.ents.length d6)) 31))
  have HA6 := Lib.hid ((HA5.out.later hb6).made (.cells (rfC M (.slice A6 M.ents.length c6) (.slice B6 M.ents.length d6)) 31))
  have HX6 := Lib.hid (RB.new hn6 hk6)
  have HB6 := Lib.hid (bt (ba _ (.cells (rfC M (.slice A6 M.ents.length c6) (.slice B6 M.ents.length d6)) 31)) (bt hb6 HB5.out))
  clear hlw r0 r1 r2 r3 r4 r5 r6 r7
  have hlt := (HN5.out.later hb6).lt
  obtain ⟨p0, p1, p2, p3, p4, p5, p6⟩ := (HN5.out.later hb6).blk.c7
  clear hb6 hn6 hk6 HN5 HW5 HA5 HB5
  go_wp2_with fail
  refine (out_of HN6.out hF.few hO hK).mono ?_
  rintro e w7 ⟨A7, c7, B7, d7, rfl, hd7, he7, hb7⟩
  have HN7 := Lib.hid ((HN6.out.later hb7).made (.cells (ndC K (.slice A7 K.data.length c7) (.slice B7 K.ents.length d7)) 25))
  have HW7 := Lib.hid ((HW6.out.later hb7).made (.cells (ndC K (.slice A7 K.data.length c7) (.slice B7 K.ents.length d7)) 25))
  have HA7 := Lib.hid ((HA6.out.later hb7).made (.cells (ndC K (.slice A7 K.data.length c7) (.slice B7 K.ents.length d7)) 25))
  have HX7 := Lib.hid ((HX6.out.later hb7).made (.cells (ndC K (.slice A7 K.data.length c7) (.slice B7 K.ents.length d7)) 25))
  have HK7 := Lib.hid (NB.new hd7 he7)
  have HB7 := Lib.hid (bt (ba _ (.cells (ndC K (.slice A7 K.data.length c7) (.slice B7 K.ents.length d7)) 25)) (bt hb7 HB6.out))
  clear hlt p0 p1 p2 p3 p4 p5 p6
  have hlw := (HW6.out.later hb7).blk.lt
  obtain ⟨r0, r1, r2, r3, r4, r5, r6, r7⟩ := (HW6.out.later hb7).blk.c8
  clear hb7 hd7 he7 HN6 HW6 HA6 HX6 HB6
  go_wp2_with fail
  refine (rout_at HW7.out hF.few hO hK).mono ?_
  rintro e w8 ⟨A8, c8, B8, d8, rfl, hn8, hk8, hb8⟩
  obtain ⟨W9, hW9⟩ : ∃ W9, W9 = w8.alloc (.cells (rfC K (.slice A8 K.ents.length c8) (.slice B8 K.ents.length d8)) 31) := ⟨_, rfl⟩
  have HN9 := Lib.hid ((HN7.out.later hb8).made (.cells (rfC K (.slice A8 K.ents.length c8) (.slice B8 K.ents.length d8)) 31))
  have HW9 := Lib.hid ((HW7.out.later hb8).made (.cells (rfC K (.slice A8 K.ents.length c8) (.slice B8 K.ents.length d8)) 31))
  have HA9 := Lib.hid ((HA7.out.later hb8).made (.cells (rfC K (.slice A8 K.ents.length c8) (.slice B8 K.ents.length d8)) 31))
  have HX9 := Lib.hid ((HX7.out.later hb8).made (.cells (rfC K (.slice A8 K.ents.length c8) (.slice B8 K.ents.length d8)) 31))
  have HK9 := Lib.hid ((HK7.out.later hb8).made (.cells (rfC K (.slice A8 K.ents.length c8) (.slice B8 K.ents.length d8)) 31))
  have HY9 := Lib.hid (RB.new hn8 hk8)
  have HB9 := Lib.hid (bt (ba _ (.cells (rfC K (.slice A8 K.ents.length c8) (.slice B8 K.ents.length d8)) 31)) (bt hb8 HB7.out))
  clear hlw r0 r1 r2 r3 r4 r5 r6 r7 hb8 hn8 hk8 HN7 HW7 HA7 HX7 HK7 HB7
  go_wp2_with fail
  change Code.wp _ _ _ _ (w8.alloc (.cells (rfC K (.slice A8 K.ents.length c8) (.slice B8 K.ents.length d8)) 31))
  rw [← hW9] at HN9 HW9 HA9 HX9 HK9 HY9 HB9 ⊢
  clear hW9

  obtain ⟨s0, s1, s2, s3, s4, s5, s6⟩ := (HA9.out).blk.c7
  obtain ⟨t0, t1, t2, t3, t4, t5, t6, t7⟩ := (HX9.out).blk.c8
  obtain ⟨u0, u1, u2, u3, u4, u5, u6⟩ := (HK9.out).blk.c7
  obtain ⟨v0, v1, v2, v3, v4, v5, v6, v7⟩ := (HY9.out).blk.c8
  obtain ⟨y0, y1, y2, y3, y4, y5, y6⟩ := (HN9.out).blk.c7
  obtain ⟨z0, z1, z2, z3, z4, z5, z6, z7⟩ := (HW9.out).blk.c8
  have ds0 : W9.drew.cell? ⟨w5.heap.size, 0, none⟩ = some (.int .i64 M.kind) := s0
  have ds1 : W9.drew.cell? ⟨w5.heap.size, 1, none⟩ = some (.int .i64 M.mode) := s1
  have ds2 : W9.drew.cell? ⟨w5.heap.size, 2, none⟩ = some (.int .i64 M.uid) := s2
  have ds3 : W9.drew.cell? ⟨w5.heap.size, 3, none⟩ = some (.int .i64 M.gid) := s3
  have ds4 : W9.drew.cell? ⟨w5.heap.size, 4, none⟩ = some (.slice A5 M.data.length c5) := s4
  have ds5 : W9.drew.cell? ⟨w5.heap.size, 5, none⟩ = some (.slice B5 M.ents.length d5) := s5
  have ds6 : W9.drew.cell? ⟨w5.heap.size, 6, none⟩ = some (.string (bA M.target)) := s6
  have dt0 : W9.drew.cell? ⟨w6.heap.size, 0, none⟩ = some (.int .i64 M.kind) := t0
  have dt1 : W9.drew.cell? ⟨w6.heap.size, 1, none⟩ = some (.int .i64 M.mode) := t1
  have dt2 : W9.drew.cell? ⟨w6.heap.size, 2, none⟩ = some (.int .i64 M.uid) := t2
  have dt3 : W9.drew.cell? ⟨w6.heap.size, 3, none⟩ = some (.int .i64 M.gid) := t3
  have dt4 : W9.drew.cell? ⟨w6.heap.size, 4, none⟩ = some (.string (bA M.data)) := t4
  have dt5 : W9.drew.cell? ⟨w6.heap.size, 5, none⟩ = some (.slice A6 M.ents.length c6) := t5
  have dt6 : W9.drew.cell? ⟨w6.heap.size, 6, none⟩ = some (.slice B6 M.ents.length d6) := t6
  have dt7 : W9.drew.cell? ⟨w6.heap.size, 7, none⟩ = some (.string (bA M.target)) := t7
  have du0 : W9.drew.cell? ⟨w7.heap.size, 0, none⟩ = some (.int .i64 K.kind) := u0
  have du1 : W9.drew.cell? ⟨w7.heap.size, 1, none⟩ = some (.int .i64 K.mode) := u1
  have du2 : W9.drew.cell? ⟨w7.heap.size, 2, none⟩ = some (.int .i64 K.uid) := u2
  have du3 : W9.drew.cell? ⟨w7.heap.size, 3, none⟩ = some (.int .i64 K.gid) := u3
  have du4 : W9.drew.cell? ⟨w7.heap.size, 4, none⟩ = some (.slice A7 K.data.length c7) := u4
  have du5 : W9.drew.cell? ⟨w7.heap.size, 5, none⟩ = some (.slice B7 K.ents.length d7) := u5
  have du6 : W9.drew.cell? ⟨w7.heap.size, 6, none⟩ = some (.string (bA K.target)) := u6
  have dv0 : W9.drew.cell? ⟨w8.heap.size, 0, none⟩ = some (.int .i64 K.kind) := v0
  have dv1 : W9.drew.cell? ⟨w8.heap.size, 1, none⟩ = some (.int .i64 K.mode) := v1
  have dv2 : W9.drew.cell? ⟨w8.heap.size, 2, none⟩ = some (.int .i64 K.uid) := v2
  have dv3 : W9.drew.cell? ⟨w8.heap.size, 3, none⟩ = some (.int .i64 K.gid) := v3
  have dv4 : W9.drew.cell? ⟨w8.heap.size, 4, none⟩ = some (.string (bA K.data)) := v4
  have dv5 : W9.drew.cell? ⟨w8.heap.size, 5, none⟩ = some (.slice A8 K.ents.length c8) := v5
  have dv6 : W9.drew.cell? ⟨w8.heap.size, 6, none⟩ = some (.slice B8 K.ents.length d8) := v6
  have dv7 : W9.drew.cell? ⟨w8.heap.size, 7, none⟩ = some (.string (bA K.target)) := v7
  have dy0 : W9.drew.cell? ⟨w.heap.size, 0, none⟩ = some (.int .i64 n.kind) := y0
  have dy1 : W9.drew.cell? ⟨w.heap.size, 1, none⟩ = some (.int .i64 n.mode) := y1
  have dy2 : W9.drew.cell? ⟨w.heap.size, 2, none⟩ = some (.int .i64 n.uid) := y2
  have dy3 : W9.drew.cell? ⟨w.heap.size, 3, none⟩ = some (.int .i64 n.gid) := y3
  have dy4 : W9.drew.cell? ⟨w.heap.size, 4, none⟩ = some (.slice A1 n.data.length c1) := y4
  have dy5 : W9.drew.cell? ⟨w.heap.size, 5, none⟩ = some (.slice A2 n.ents.length c2) := y5
  have dy6 : W9.drew.cell? ⟨w.heap.size, 6, none⟩ = some (.string (bA n.target)) := y6
  have dz0 : W9.drew.cell? ⟨w4.heap.size, 0, none⟩ = some (.int .i64 n.kind) := z0
  have dz1 : W9.drew.cell? ⟨w4.heap.size, 1, none⟩ = some (.int .i64 n.mode) := z1
  have dz2 : W9.drew.cell? ⟨w4.heap.size, 2, none⟩ = some (.int .i64 n.uid) := z2
  have dz3 : W9.drew.cell? ⟨w4.heap.size, 3, none⟩ = some (.int .i64 n.gid) := z3
  have dz4 : W9.drew.cell? ⟨w4.heap.size, 4, none⟩ = some (.string (bA n.data)) := z4
  have dz5 : W9.drew.cell? ⟨w4.heap.size, 5, none⟩ = some (.slice A4 n.ents.length c4) := z5
  have dz6 : W9.drew.cell? ⟨w4.heap.size, 6, none⟩ = some (.slice B4 n.ents.length d4) := z6
  have dz7 : W9.drew.cell? ⟨w4.heap.size, 7, none⟩ = some (.string (bA n.target)) := z7
  clear s0 s1 s2 s3 s4 s5 s6 t0 t1 t2 t3 t4 t5 t6 t7 u0 u1 u2 u3 u4 u5 u6 v0 v1 v2 v3 v4 v5 v6 v7 y0 y1 y2 y3 y4 y5 y6 z0 z1 z2 z3 z4 z5 z6 z7
  have SX : W9.drew.cell? ⟨w5.heap.size, 0, none⟩ = some (.int .i64 M.kind) ∧ W9.drew.cell? ⟨w5.heap.size, 1, none⟩ = some (.int .i64 M.mode) ∧ W9.drew.cell? ⟨w5.heap.size, 2, none⟩ = some (.int .i64 M.uid) ∧ W9.drew.cell? ⟨w5.heap.size, 3, none⟩ = some (.int .i64 M.gid) ∧ W9.drew.cell? ⟨w5.heap.size, 4, none⟩ = some (.slice A5 M.data.length c5) ∧ W9.drew.cell? ⟨w5.heap.size, 5, none⟩ = some (.slice B5 M.ents.length d5) ∧ W9.drew.cell? ⟨w5.heap.size, 6, none⟩ = some (.string (bA M.target)) ∧ W9.drew.cell? ⟨w6.heap.size, 0, none⟩ = some (.int .i64 M.kind) ∧ W9.drew.cell? ⟨w6.heap.size, 1, none⟩ = some (.int .i64 M.mode) ∧ W9.drew.cell? ⟨w6.heap.size, 2, none⟩ = some (.int .i64 M.uid) ∧ W9.drew.cell? ⟨w6.heap.size, 3, none⟩ = some (.int .i64 M.gid) ∧ W9.drew.cell? ⟨w6.heap.size, 4, none⟩ = some (.string (bA M.data)) ∧ W9.drew.cell? ⟨w6.heap.size, 5, none⟩ = some (.slice A6 M.ents.length c6) ∧ W9.drew.cell? ⟨w6.heap.size, 6, none⟩ = some (.slice B6 M.ents.length d6) ∧ W9.drew.cell? ⟨w6.heap.size, 7, none⟩ = some (.string (bA M.target)) ∧ W9.drew.cell? ⟨w7.heap.size, 0, none⟩ = some (.int .i64 K.kind) ∧ W9.drew.cell? ⟨w7.heap.size, 1, none⟩ = some (.int .i64 K.mode) ∧ W9.drew.cell? ⟨w7.heap.size, 2, none⟩ = some (.int .i64 K.uid) ∧ W9.drew.cell? ⟨w7.heap.size, 3, none⟩ = some (.int .i64 K.gid) ∧ W9.drew.cell? ⟨w7.heap.size, 4, none⟩ = some (.slice A7 K.data.length c7) ∧ W9.drew.cell? ⟨w7.heap.size, 5, none⟩ = some (.slice B7 K.ents.length d7) ∧ W9.drew.cell? ⟨w7.heap.size, 6, none⟩ = some (.string (bA K.target)) ∧ W9.drew.cell? ⟨w8.heap.size, 0, none⟩ = some (.int .i64 K.kind) ∧ W9.drew.cell? ⟨w8.heap.size, 1, none⟩ = some (.int .i64 K.mode) ∧ W9.drew.cell? ⟨w8.heap.size, 2, none⟩ = some (.int .i64 K.uid) ∧ W9.drew.cell? ⟨w8.heap.size, 3, none⟩ = some (.int .i64 K.gid) ∧ W9.drew.cell? ⟨w8.heap.size, 4, none⟩ = some (.string (bA K.data)) ∧ W9.drew.cell? ⟨w8.heap.size, 5, none⟩ = some (.slice A8 K.ents.length c8) ∧ W9.drew.cell? ⟨w8.heap.size, 6, none⟩ = some (.slice B8 K.ents.length d8) ∧ W9.drew.cell? ⟨w8.heap.size, 7, none⟩ = some (.string (bA K.target)) ∧ W9.drew.cell? ⟨w.heap.size, 0, none⟩ = some (.int .i64 n.kind) ∧ W9.drew.cell? ⟨w.heap.size, 1, none⟩ = some (.int .i64 n.mode) ∧ W9.drew.cell? ⟨w.heap.size, 2, none⟩ = some (.int .i64 n.uid) ∧ W9.drew.cell? ⟨w.heap.size, 3, none⟩ = some (.int .i64 n.gid) ∧ W9.drew.cell? ⟨w.heap.size, 4, none⟩ = some (.slice A1 n.data.length c1) ∧ W9.drew.cell? ⟨w.heap.size, 5, none⟩ = some (.slice A2 n.ents.length c2) ∧ W9.drew.cell? ⟨w.heap.size, 6, none⟩ = some (.string (bA n.target)) ∧ W9.drew.cell? ⟨w4.heap.size, 0, none⟩ = some (.int .i64 n.kind) ∧ W9.drew.cell? ⟨w4.heap.size, 1, none⟩ = some (.int .i64 n.mode) ∧ W9.drew.cell? ⟨w4.heap.size, 2, none⟩ = some (.int .i64 n.uid) ∧ W9.drew.cell? ⟨w4.heap.size, 3, none⟩ = some (.int .i64 n.gid) ∧ W9.drew.cell? ⟨w4.heap.size, 4, none⟩ = some (.string (bA n.data)) ∧ W9.drew.cell? ⟨w4.heap.size, 5, none⟩ = some (.slice A4 n.ents.length c4) ∧ W9.drew.cell? ⟨w4.heap.size, 6, none⟩ = some (.slice B4 n.ents.length d4) ∧ W9.drew.cell? ⟨w4.heap.size, 7, none⟩ = some (.string (bA n.target)) := ⟨ds0, ds1, ds2, ds3, ds4, ds5, ds6, dt0, dt1, dt2, dt3, dt4, dt5, dt6, dt7, du0, du1, du2, du3, du4, du5, du6, dv0, dv1, dv2, dv3, dv4, dv5, dv6, dv7, dy0, dy1, dy2, dy3, dy4, dy5, dy6, dz0, dz1, dz2, dz3, dz4, dz5, dz6, dz7⟩
  have SK : ∀ (Y Y' : World), Below Y.heap.size Y Y' → (Y.cell? ⟨w5.heap.size, 0, none⟩ = some (.int .i64 M.kind) ∧ Y.cell? ⟨w5.heap.size, 1, none⟩ = some (.int .i64 M.mode) ∧ Y.cell? ⟨w5.heap.size, 2, none⟩ = some (.int .i64 M.uid) ∧ Y.cell? ⟨w5.heap.size, 3, none⟩ = some (.int .i64 M.gid) ∧ Y.cell? ⟨w5.heap.size, 4, none⟩ = some (.slice A5 M.data.length c5) ∧ Y.cell? ⟨w5.heap.size, 5, none⟩ = some (.slice B5 M.ents.length d5) ∧ Y.cell? ⟨w5.heap.size, 6, none⟩ = some (.string (bA M.target)) ∧ Y.cell? ⟨w6.heap.size, 0, none⟩ = some (.int .i64 M.kind) ∧ Y.cell? ⟨w6.heap.size, 1, none⟩ = some (.int .i64 M.mode) ∧ Y.cell? ⟨w6.heap.size, 2, none⟩ = some (.int .i64 M.uid) ∧ Y.cell? ⟨w6.heap.size, 3, none⟩ = some (.int .i64 M.gid) ∧ Y.cell? ⟨w6.heap.size, 4, none⟩ = some (.string (bA M.data)) ∧ Y.cell? ⟨w6.heap.size, 5, none⟩ = some (.slice A6 M.ents.length c6) ∧ Y.cell? ⟨w6.heap.size, 6, none⟩ = some (.slice B6 M.ents.length d6) ∧ Y.cell? ⟨w6.heap.size, 7, none⟩ = some (.string (bA M.target)) ∧ Y.cell? ⟨w7.heap.size, 0, none⟩ = some (.int .i64 K.kind) ∧ Y.cell? ⟨w7.heap.size, 1, none⟩ = some (.int .i64 K.mode) ∧ Y.cell? ⟨w7.heap.size, 2, none⟩ = some (.int .i64 K.uid) ∧ Y.cell? ⟨w7.heap.size, 3, none⟩ = some (.int .i64 K.gid) ∧ Y.cell? ⟨w7.heap.size, 4, none⟩ = some (.slice A7 K.data.length c7) ∧ Y.cell? ⟨w7.heap.size, 5, none⟩ = some (.slice B7 K.ents.length d7) ∧ Y.cell? ⟨w7.heap.size, 6, none⟩ = some (.string (bA K.target)) ∧ Y.cell? ⟨w8.heap.size, 0, none⟩ = some (.int .i64 K.kind) ∧ Y.cell? ⟨w8.heap.size, 1, none⟩ = some (.int .i64 K.mode) ∧ Y.cell? ⟨w8.heap.size, 2, none⟩ = some (.int .i64 K.uid) ∧ Y.cell? ⟨w8.heap.size, 3, none⟩ = some (.int .i64 K.gid) ∧ Y.cell? ⟨w8.heap.size, 4, none⟩ = some (.string (bA K.data)) ∧ Y.cell? ⟨w8.heap.size, 5, none⟩ = some (.slice A8 K.ents.length c8) ∧ Y.cell? ⟨w8.heap.size, 6, none⟩ = some (.slice B8 K.ents.length d8) ∧ Y.cell? ⟨w8.heap.size, 7, none⟩ = some (.string (bA K.target)) ∧ Y.cell? ⟨w.heap.size, 0, none⟩ = some (.int .i64 n.kind) ∧ Y.cell? ⟨w.heap.size, 1, none⟩ = some (.int .i64 n.mode) ∧ Y.cell? ⟨w.heap.size, 2, none⟩ = some (.int .i64 n.uid) ∧ Y.cell? ⟨w.heap.size, 3, none⟩ = some (.int .i64 n.gid) ∧ Y.cell? ⟨w.heap.size, 4, none⟩ = some (.slice A1 n.data.length c1) ∧ Y.cell? ⟨w.heap.size, 5, none⟩ = some (.slice A2 n.ents.length c2) ∧ Y.cell? ⟨w.heap.size, 6, none⟩ = some (.string (bA n.target)) ∧ Y.cell? ⟨w4.heap.size, 0, none⟩ = some (.int .i64 n.kind) ∧ Y.cell? ⟨w4.heap.size, 1, none⟩ = some (.int .i64 n.mode) ∧ Y.cell? ⟨w4.heap.size, 2, none⟩ = some (.int .i64 n.uid) ∧ Y.cell? ⟨w4.heap.size, 3, none⟩ = some (.int .i64 n.gid) ∧ Y.cell? ⟨w4.heap.size, 4, none⟩ = some (.string (bA n.data)) ∧ Y.cell? ⟨w4.heap.size, 5, none⟩ = some (.slice A4 n.ents.length c4) ∧ Y.cell? ⟨w4.heap.size, 6, none⟩ = some (.slice B4 n.ents.length d4) ∧ Y.cell? ⟨w4.heap.size, 7, none⟩ = some (.string (bA n.target))) → (Y'.cell? ⟨w5.heap.size, 0, none⟩ = some (.int .i64 M.kind) ∧ Y'.cell? ⟨w5.heap.size, 1, none⟩ = some (.int .i64 M.mode) ∧ Y'.cell? ⟨w5.heap.size, 2, none⟩ = some (.int .i64 M.uid) ∧ Y'.cell? ⟨w5.heap.size, 3, none⟩ = some (.int .i64 M.gid) ∧ Y'.cell? ⟨w5.heap.size, 4, none⟩ = some (.slice A5 M.data.length c5) ∧ Y'.cell? ⟨w5.heap.size, 5, none⟩ = some (.slice B5 M.ents.length d5) ∧ Y'.cell? ⟨w5.heap.size, 6, none⟩ = some (.string (bA M.target)) ∧ Y'.cell? ⟨w6.heap.size, 0, none⟩ = some (.int .i64 M.kind) ∧ Y'.cell? ⟨w6.heap.size, 1, none⟩ = some (.int .i64 M.mode) ∧ Y'.cell? ⟨w6.heap.size, 2, none⟩ = some (.int .i64 M.uid) ∧ Y'.cell? ⟨w6.heap.size, 3, none⟩ = some (.int .i64 M.gid) ∧ Y'.cell? ⟨w6.heap.size, 4, none⟩ = some (.string (bA M.data)) ∧ Y'.cell? ⟨w6.heap.size, 5, none⟩ = some (.slice A6 M.ents.length c6) ∧ Y'.cell? ⟨w6.heap.size, 6, none⟩ = some (.slice B6 M.ents.length d6) ∧ Y'.cell? ⟨w6.heap.size, 7, none⟩ = some (.string (bA M.target)) ∧ Y'.cell? ⟨w7.heap.size, 0, none⟩ = some (.int .i64 K.kind) ∧ Y'.cell? ⟨w7.heap.size, 1, none⟩ = some (.int .i64 K.mode) ∧ Y'.cell? ⟨w7.heap.size, 2, none⟩ = some (.int .i64 K.uid) ∧ Y'.cell? ⟨w7.heap.size, 3, none⟩ = some (.int .i64 K.gid) ∧ Y'.cell? ⟨w7.heap.size, 4, none⟩ = some (.slice A7 K.data.length c7) ∧ Y'.cell? ⟨w7.heap.size, 5, none⟩ = some (.slice B7 K.ents.length d7) ∧ Y'.cell? ⟨w7.heap.size, 6, none⟩ = some (.string (bA K.target)) ∧ Y'.cell? ⟨w8.heap.size, 0, none⟩ = some (.int .i64 K.kind) ∧ Y'.cell? ⟨w8.heap.size, 1, none⟩ = some (.int .i64 K.mode) ∧ Y'.cell? ⟨w8.heap.size, 2, none⟩ = some (.int .i64 K.uid) ∧ Y'.cell? ⟨w8.heap.size, 3, none⟩ = some (.int .i64 K.gid) ∧ Y'.cell? ⟨w8.heap.size, 4, none⟩ = some (.string (bA K.data)) ∧ Y'.cell? ⟨w8.heap.size, 5, none⟩ = some (.slice A8 K.ents.length c8) ∧ Y'.cell? ⟨w8.heap.size, 6, none⟩ = some (.slice B8 K.ents.length d8) ∧ Y'.cell? ⟨w8.heap.size, 7, none⟩ = some (.string (bA K.target)) ∧ Y'.cell? ⟨w.heap.size, 0, none⟩ = some (.int .i64 n.kind) ∧ Y'.cell? ⟨w.heap.size, 1, none⟩ = some (.int .i64 n.mode) ∧ Y'.cell? ⟨w.heap.size, 2, none⟩ = some (.int .i64 n.uid) ∧ Y'.cell? ⟨w.heap.size, 3, none⟩ = some (.int .i64 n.gid) ∧ Y'.cell? ⟨w.heap.size, 4, none⟩ = some (.slice A1 n.data.length c1) ∧ Y'.cell? ⟨w.heap.size, 5, none⟩ = some (.slice A2 n.ents.length c2) ∧ Y'.cell? ⟨w.heap.size, 6, none⟩ = some (.string (bA n.target)) ∧ Y'.cell? ⟨w4.heap.size, 0, none⟩ = some (.int .i64 n.kind) ∧ Y'.cell? ⟨w4.heap.size, 1, none⟩ = some (.int .i64 n.mode) ∧ Y'.cell? ⟨w4.heap.size, 2, none⟩ = some (.int .i64 n.uid) ∧ Y'.cell? ⟨w4.heap.size, 3, none⟩ = some (.int .i64 n.gid) ∧ Y'.cell? ⟨w4.heap.size, 4, none⟩ = some (.string (bA n.data)) ∧ Y'.cell? ⟨w4.heap.size, 5, none⟩ = some (.slice A4 n.ents.length c4) ∧ Y'.cell? ⟨w4.heap.size, 6, none⟩ = some (.slice B4 n.ents.length d4) ∧ Y'.cell? ⟨w4.heap.size, 7, none⟩ = some (.string (bA n.target))) := fun Y Y' hb ⟨k0, k1, k2, k3, k4, k5, k6, k7, k8, k9, k10, k11, k12, k13, k14, k15, k16, k17, k18, k19, k20, k21, k22, k23, k24, k25, k26, k27, k28, k29, k30, k31, k32, k33, k34, k35, k36, k37, k38, k39, k40, k41, k42, k43, k44⟩ => ⟨bc hb k0, bc hb k1, bc hb k2, bc hb k3, bc hb k4, bc hb k5, bc hb k6, bc hb k7, bc hb k8, bc hb k9, bc hb k10, bc hb k11, bc hb k12, bc hb k13, bc hb k14, bc hb k15, bc hb k16, bc hb k17, bc hb k18, bc hb k19, bc hb k20, bc hb k21, bc hb k22, bc hb k23, bc hb k24, bc hb k25, bc hb k26, bc hb k27, bc hb k28, bc hb k29, bc hb k30, bc hb k31, bc hb k32, bc hb k33, bc hb k34, bc hb k35, bc hb k36, bc hb k37, bc hb k38, bc hb k39, bc hb k40, bc hb k41, bc hb k42, bc hb k43, bc hb k44⟩
  go_region_held3 (fun w' => w'.cell? ⟨w5.heap.size, 0, none⟩ = some (.int .i64 M.kind) ∧ w'.cell? ⟨w5.heap.size, 1, none⟩ = some (.int .i64 M.mode) ∧ w'.cell? ⟨w5.heap.size, 2, none⟩ = some (.int .i64 M.uid) ∧ w'.cell? ⟨w5.heap.size, 3, none⟩ = some (.int .i64 M.gid) ∧ w'.cell? ⟨w5.heap.size, 4, none⟩ = some (.slice A5 M.data.length c5) ∧ w'.cell? ⟨w5.heap.size, 5, none⟩ = some (.slice B5 M.ents.length d5) ∧ w'.cell? ⟨w5.heap.size, 6, none⟩ = some (.string (bA M.target)) ∧ w'.cell? ⟨w6.heap.size, 0, none⟩ = some (.int .i64 M.kind) ∧ w'.cell? ⟨w6.heap.size, 1, none⟩ = some (.int .i64 M.mode) ∧ w'.cell? ⟨w6.heap.size, 2, none⟩ = some (.int .i64 M.uid) ∧ w'.cell? ⟨w6.heap.size, 3, none⟩ = some (.int .i64 M.gid) ∧ w'.cell? ⟨w6.heap.size, 4, none⟩ = some (.string (bA M.data)) ∧ w'.cell? ⟨w6.heap.size, 5, none⟩ = some (.slice A6 M.ents.length c6) ∧ w'.cell? ⟨w6.heap.size, 6, none⟩ = some (.slice B6 M.ents.length d6) ∧ w'.cell? ⟨w6.heap.size, 7, none⟩ = some (.string (bA M.target)) ∧ w'.cell? ⟨w7.heap.size, 0, none⟩ = some (.int .i64 K.kind) ∧ w'.cell? ⟨w7.heap.size, 1, none⟩ = some (.int .i64 K.mode) ∧ w'.cell? ⟨w7.heap.size, 2, none⟩ = some (.int .i64 K.uid) ∧ w'.cell? ⟨w7.heap.size, 3, none⟩ = some (.int .i64 K.gid) ∧ w'.cell? ⟨w7.heap.size, 4, none⟩ = some (.slice A7 K.data.length c7) ∧ w'.cell? ⟨w7.heap.size, 5, none⟩ = some (.slice B7 K.ents.length d7) ∧ w'.cell? ⟨w7.heap.size, 6, none⟩ = some (.string (bA K.target)) ∧ w'.cell? ⟨w8.heap.size, 0, none⟩ = some (.int .i64 K.kind) ∧ w'.cell? ⟨w8.heap.size, 1, none⟩ = some (.int .i64 K.mode) ∧ w'.cell? ⟨w8.heap.size, 2, none⟩ = some (.int .i64 K.uid) ∧ w'.cell? ⟨w8.heap.size, 3, none⟩ = some (.int .i64 K.gid) ∧ w'.cell? ⟨w8.heap.size, 4, none⟩ = some (.string (bA K.data)) ∧ w'.cell? ⟨w8.heap.size, 5, none⟩ = some (.slice A8 K.ents.length c8) ∧ w'.cell? ⟨w8.heap.size, 6, none⟩ = some (.slice B8 K.ents.length d8) ∧ w'.cell? ⟨w8.heap.size, 7, none⟩ = some (.string (bA K.target)) ∧ w'.cell? ⟨w.heap.size, 0, none⟩ = some (.int .i64 n.kind) ∧ w'.cell? ⟨w.heap.size, 1, none⟩ = some (.int .i64 n.mode) ∧ w'.cell? ⟨w.heap.size, 2, none⟩ = some (.int .i64 n.uid) ∧ w'.cell? ⟨w.heap.size, 3, none⟩ = some (.int .i64 n.gid) ∧ w'.cell? ⟨w.heap.size, 4, none⟩ = some (.slice A1 n.data.length c1) ∧ w'.cell? ⟨w.heap.size, 5, none⟩ = some (.slice A2 n.ents.length c2) ∧ w'.cell? ⟨w.heap.size, 6, none⟩ = some (.string (bA n.target)) ∧ w'.cell? ⟨w4.heap.size, 0, none⟩ = some (.int .i64 n.kind) ∧ w'.cell? ⟨w4.heap.size, 1, none⟩ = some (.int .i64 n.mode) ∧ w'.cell? ⟨w4.heap.size, 2, none⟩ = some (.int .i64 n.uid) ∧ w'.cell? ⟨w4.heap.size, 3, none⟩ = some (.int .i64 n.gid) ∧ w'.cell? ⟨w4.heap.size, 4, none⟩ = some (.string (bA n.data)) ∧ w'.cell? ⟨w4.heap.size, 5, none⟩ = some (.slice A4 n.ents.length c4) ∧ w'.cell? ⟨w4.heap.size, 6, none⟩ = some (.slice B4 n.ents.length d4) ∧ w'.cell? ⟨w4.heap.size, 7, none⟩ = some (.string (bA n.target)))
    (first | exact SX | exact SK _ _ h1 (SX) | exact SK _ _ h2 (SK _ _ h1 (SX)) | exact SK _ _ h3 (SK _ _ h2 (SK _ _ h1 (SX))) | exact SK _ _ h4 (SK _ _ h3 (SK _ _ h2 (SK _ _ h1 (SX)))) | exact SK _ _ h5 (SK _ _ h4 (SK _ _ h3 (SK _ _ h2 (SK _ _ h1 (SX))))) | exact SK _ _ h6 (SK _ _ h5 (SK _ _ h4 (SK _ _ h3 (SK _ _ h2 (SK _ _ h1 (SX)))))))
    (first
      | (go_at_call 9; (with_reducible refine (model_at (HA9.out.later (Below.refl _ _).drew) hMf).mono ?_); rintro e1 x1 ⟨C1, i1, D1, j1, rfl, sn1, sk1, h1⟩)
      | (go_at_call 14; (with_reducible refine (rsame_at hMf sn1 sk1 ((HX9.out.later (Below.refl _ _).drew).later h1)).mono ?_); rintro e2 x2 ⟨rfl, h2⟩)
      | (go_at_call 9; (with_reducible refine (model_at (((HK9.out.later (Below.refl _ _).drew).later h1).later h2) hKf).mono ?_); rintro e3 x3 ⟨C3, i3, D3, j3, rfl, sn3, sk3, h3⟩)
      | (go_at_call 14; (with_reducible refine (rsame_at hKf sn3 sk3 ((((HY9.out.later (Below.refl _ _).drew).later h1).later h2).later h3)).mono ?_); rintro e4 x4 ⟨rfl, h4⟩)
      | (go_at_call 9; (with_reducible refine (model_at (((((HN9.out.later (Below.refl _ _).drew).later h1).later h2).later h3).later h4) hF.few).mono ?_); rintro e5 x5 ⟨C5, i5, D5, j5, rfl, sn5, sk5, h5⟩)
      | (go_at_call 14; (with_reducible refine (rsame_at hF.few sn5 sk5 ((((((HW9.out.later (Below.refl _ _).drew).later h1).later h2).later h3).later h4).later h5)).mono ?_); rintro e6 x6 ⟨rfl, h6⟩))
  all_goals (
    go_wp2
    go_ret
    exact ⟨rfl, (bt h6 (bt h5 (bt h4 (bt h3 (bt h2 (bt h1 (bt (Below.refl _ _).drew HB9.out)))))))⟩)
theorem changes_walk (n : Nd) (vd ve : Value) (s : ByteArray) (id : Int) (w : World) (hd : BytesR w vd n.data) (he : EntsR w ve n.ents) (hl : n.ents.length ≤ maxLen) : Calls Try.prog 3 #[nodeV n vd ve, .string s, .int .i64 id] w fun e w' => e = .returned (.bool true) ∧ Below w.heap.size w w' := by
  rw [show s = bA (tl s) from bA_eq rfl]
  by_cases hF : fewP n
  · by_cases hs : 40 < (tl s).length
    · exact changes_long n vd ve _ id w hd he hl hF hs
    · exact changes_in n vd ve _ id w hd he hl hF hs
  · exact changes_few n vd ve _ id w hd he hl hF
end Go.Proofs.Ytibmnafnandodaa

