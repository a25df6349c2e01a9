/-
  Whether two nodes are the same: Same. The conditions: no list is longer than a thousand, and no text.
-/
import Derived.Test.YtmapkmjhpebcbaaSame
namespace Go.Proofs.Ytmapkmjhpebcbaa
open Go Go.RowKit

theorem nd_eq {a b : Nd} (h1 : a.kind = b.kind) (h2 : a.mode = b.mode) (h3 : a.uid = b.uid) (h4 : a.gid = b.gid) (h5 : a.target = b.target) (h6 : a.data = b.data) (h7 : a.ents = b.ents) : a = b := by
  cases a
  cases b
  simp only at h1 h2 h3 h4 h5 h6 h7
  subst h1 h2 h3 h4 h5 h6 h7
  rfl
set_option maxRecDepth 100000 in
set_option maxHeartbeats 4000000 in
theorem same_any (a b : Nd) (vd ve vd' ve' : Value) (w : World) (hd : BytesR w vd a.data) (he : EntsR w ve a.ents) (hd' : BytesR w vd' b.data) (he' : EntsR w ve' b.ents) (hf : Few a) (hf' : Few b) :
    Calls Try.prog 47 #[nodeV a vd ve, nodeV b vd' ve'] w fun e w' => e = .returned (.bool (toB (a = b))) ∧ Below w.heap.size w w' := by
  obtain ⟨W1, hW1⟩ : ∃ W1, W1 = (w.alloc (.cells (ndC a vd ve) 39)).alloc (.cells (ndC b vd' ve') 39) := ⟨_, rfl⟩
  have hb1 : Below w.heap.size w W1 := by rw [hW1]; exact al (ba _ _) _
  have hka : Blk W1 w.heap.size 39 (ndC a vd ve) := by rw [hW1]; exact (Blk.new _ _ _).alloc _
  have hkb : Blk W1 (w.heap.size + 1) 39 (ndC b vd' ve') := by rw [hW1]; have := Blk.new (w.alloc (.cells (ndC a vd ve) 39)) 39 (ndC b vd' ve'); simpa using this
  have HAB := Lib.hid (alikeB_any vd vd' a.data b.data W1 (hd.below hb1) (hd'.below hb1) hf.data hf'.data)
  have HAE := Lib.hid (fun W (hb : Below W1.heap.size W1 W) => alikeE_any ve ve' a.ents b.ents W ((he.below hb1).below hb) ((he'.below hb1).below hb) hf.ents hf'.ents)
  have HB1 := Lib.hid hb1
  have HKA := Lib.hid hka
  have HKB := Lib.hid hkb
  obtain ⟨A1, c1, rfl⟩ := bytes_form hd rfl
  obtain ⟨A2, c2, rfl⟩ := ents_form he rfl
  obtain ⟨A3, c3, rfl⟩ := bytes_form hd' rfl
  obtain ⟨A4, c4, rfl⟩ := ents_form he' rfl
  clear hd he hd' he' hf hf' hb1 hka hkb
  subst hW1
  unfold nodeV
  by_cases h1 : a.kind = b.kind
  · have q1 : (a.kind == b.kind) = true := by simpa using h1
    by_cases h2 : a.mode = b.mode
    · have q2 : (a.mode == b.mode) = true := by simpa using h2
      by_cases h3 : a.uid = b.uid
      · have q3 : (a.uid == b.uid) = true := by simpa using h3
        by_cases h4 : a.gid = b.gid
        · have q4 : (a.gid == b.gid) = true := by simpa using h4
          by_cases h5 : a.target = b.target
          · have q5 : ((bA a.target).toList == (bA b.target).toList) = true := by rw [bA_list, bA_list]; simpa using h5
            have HX := Lib.hid (show toB (a = b) = (toB (a.data = b.data) && toB (a.ents = b.ents)) by
              by_cases h6 : a.data = b.data
              · by_cases h7 : a.ents = b.ents
                · rw [toB_true h6, toB_true h7, toB_true (nd_eq h1 h2 h3 h4 h5 h6 h7)]; rfl
                · rw [toB_false h7, toB_false (fun h => h7 (by rw [h])), Bool.and_false]
              · rw [toB_false h6, toB_false (fun h => h6 (by rw [h])), Bool.false_and])
            clear h1 h2 h3 h4 h5 
            generalize toB (a.data = b.data) = Y1 at HX HAB
            generalize toB (a.ents = b.ents) = Y2 at HX HAE
            generalize toB (a = b) = X at HX ⊢
            cases Y1 with
            | true =>
              go_enter Try.func47, Try.ntmps47
              go_wp2_with fail
              refine HAB.out.mono ?_
              rintro e w2 ⟨rfl, hb2⟩
              have HB2 := Lib.hid hb2
              obtain ⟨p0, p1, p2, p3, p4, p5, p6⟩ := (HKA.out.below hb2).c7
              obtain ⟨r0, r1, r2, r3, r4, r5, r6⟩ := (HKB.out.below hb2).c7
              clear hb2
              go_wp2_with fail
              refine (HAE.out w2 HB2.out).mono ?_
              rintro e w3 ⟨rfl, hb3⟩
              have HB3 := Lib.hid (bt hb3 (bt HB2.out HB1.out))
              clear hb3
              go_wp2
              go_ret
              exact ⟨ret_bool (by rw [HX.out]; rfl), HB3.out⟩
            | false =>
              go_enter Try.func47, Try.ntmps47
              go_wp2_with fail
              refine HAB.out.mono ?_
              rintro e w2 ⟨rfl, hb2⟩
              have HB2 := Lib.hid (bt hb2 HB1.out)
              clear hb2
              go_wp2
              go_ret
              exact ⟨ret_bool (by rw [HX.out]; rfl), HB2.out⟩
          · have q5 : ((bA a.target).toList == (bA b.target).toList) = false := by rw [bA_list, bA_list]; simpa using h5
            have HX := Lib.hid (show toB (a = b) = false from toB_false (fun h => h5 (by rw [h])))
            clear h1 h2 h3 h4 h5 HAB HAE
            generalize toB (a = b) = X at HX ⊢
            go_enter Try.func47, Try.ntmps47
            go_wp2
            go_ret
            exact ⟨ret_bool HX.out.symm, HB1.out⟩
        · have q4 : (a.gid == b.gid) = false := by simpa using h4
          have HX := Lib.hid (show toB (a = b) = false from toB_false (fun h => h4 (by rw [h])))
          clear h1 h2 h3 h4 HAB HAE
          generalize toB (a = b) = X at HX ⊢
          go_enter Try.func47, Try.ntmps47
          go_wp2
          go_ret
          exact ⟨ret_bool HX.out.symm, HB1.out⟩
      · have q3 : (a.uid == b.uid) = false := by simpa using h3
        have HX := Lib.hid (show toB (a = b) = false from toB_false (fun h => h3 (by rw [h])))
        clear h1 h2 h3 HAB HAE
        generalize toB (a = b) = X at HX ⊢
        go_enter Try.func47, Try.ntmps47
        go_wp2
        go_ret
        exact ⟨ret_bool HX.out.symm, HB1.out⟩
    · have q2 : (a.mode == b.mode) = false := by simpa using h2
      have HX := Lib.hid (show toB (a = b) = false from toB_false (fun h => h2 (by rw [h])))
      clear h1 h2 HAB HAE
      generalize toB (a = b) = X at HX ⊢
      go_enter Try.func47, Try.ntmps47
      go_wp2
      go_ret
      exact ⟨ret_bool HX.out.symm, HB1.out⟩
  · have q1 : (a.kind == b.kind) = false := by simpa using h1
    have HX := Lib.hid (show toB (a = b) = false from toB_false (fun h => h1 (by rw [h])))
    clear h1 HAB HAE
    generalize toB (a = b) = X at HX ⊢
    go_enter Try.func47, Try.ntmps47
    go_wp2
    go_ret
    exact ⟨ret_bool HX.out.symm, HB1.out⟩
end Go.Proofs.Ytmapkmjhpebcbaa
