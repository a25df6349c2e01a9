/-
  NodeFinds, walked in a directory that may be, and the whole. The conditions: the list of entries and the name are no longer than a machine has.
-/
import Derived.Test.YtibmnafnandodaaFindsW
namespace Go.Proofs.Ytibmnafnandodaa
open Go Go.RowKit

set_option maxRecDepth 100000 in
set_option maxHeartbeats 8000000 in
theorem finds_dir (n : Nd) (vd ve : Value) (name : Nm) (w : World) (hd : BytesR w vd n.data) (he : EntsR w ve n.ents) (hl : n.ents.length ≤ maxLen) (hF : fewP n) (hs : ¬ 40 < name.length) (hR : rightP n) (hk : n.kind = 2) : Calls Try.prog 6 #[nodeV n vd ve, .string (bA name)] w fun e w' => e = .returned (.bool true) ∧ Below w.heap.size w w' := by
  have q : ¬ (40 : Int) < ((bA name).size : Int) := by rw [size_bA]; omega
  have kq : (n.kind != 2) = false := by simpa using hk
  obtain ⟨hri, h12⟩ := right_rise hR
  have HFIN := Lib.hid (right_finds hR hk)
  have HK := Lib.hid hk
  clear hk
  have HN := Lib.hid (NB.new (X := w) hd he)
  have HB := Lib.hid (ba w (.cells (ndC n vd ve) 25))
  obtain ⟨A1, c1, rfl⟩ := bytes_form hd rfl
  obtain ⟨A2, c2, rfl⟩ := ents_form he rfl
  clear hd he
  unfold nodeV

  go_enter Try.func6, Try.ntmps6
  go_wp2_with fail
  refine (awake_any _).mono ?_
  rintro e w2 ⟨rfl, hb2⟩
  have HN2 := Lib.hid (HN.out.later hb2)
  have HB2 := Lib.hid (bt hb2 HB.out)
  clear hb2
  obtain ⟨p0, p1, p2, p3, p4, p5, p6⟩ := HN2.out.blk.c7
  go_wp2_with fail
  refine (few_at HN2.out hl (toB_true hF)).mono ?_
  rintro e w3 ⟨rfl, hb3⟩
  have HN3 := Lib.hid (HN2.out.later hb3)
  have HB3 := Lib.hid (bt hb3 HB2.out)
  clear hb3 p0 p1 p2 p3 p4 p5 p6
  obtain ⟨p0, p1, p2, p3, p4, p5, p6⟩ := HN3.out.blk.c7
  go_wp2_with fail
  refine (right_at HN3.out hF.few (toB_true hR)).mono ?_
  rintro e w4 ⟨rfl, hb4⟩
  have HN4 := Lib.hid (HN3.out.later hb4)
  have HB4 := Lib.hid (bt hb4 HB3.out)
  clear hb4 p0 p1 p2 p3 p4 p5 p6
  obtain ⟨p0, p1, p2, p3, p4, p5, p6⟩ := HN4.out.blk.c7
  go_wp2_with fail
  refine (names_at HN4.out hri h12).mono ?_
  rintro e w5 ⟨A5, c5, rfl, hs5, hb5⟩
  have HN5 := Lib.hid (HN4.out.later hb5)
  have HB5 := Lib.hid (bt hb5 HB4.out)
  have HS5 := Lib.hid hs5
  clear hb5 hs5 p0 p1 p2 p3 p4 p5 p6 HN HN2 HN3 HN4 HB HB2 HB3 HB4
  obtain ⟨p0, p1, p2, p3, p4, p5, p6⟩ := HN5.out.blk.c7
  go_wp2
  clear p0 p1 p2 p3 p4 p5 p6
  go_loopg [8, 9] n.ents.length (fun g s8 s9 wr => ∃ k : Nat, s9 = .int .i64 k ∧ s8 = .bool (toB (name ∈ (nmE n.ents).take k)) ∧ k ≤ n.ents.length ∧ g = n.ents.length - k ∧ Below w5.heap.size w5 wr)
  case atStart => exact ⟨0, rfl, by rw [toB_false (by simp)], Nat.zero_le _, rfl, Below.refl _ _⟩
  case round =>
    obtain ⟨k, rfl, rfl, hk, rfl, hbr⟩ := hrel
    have HBR := Lib.hid hbr
    have HNR := Lib.hid (HN5.out.later hbr)
    have HSR := Lib.hid (HS5.out.below hbr)
    clear hbr
    by_cases hlt : k < n.ents.length
    · obtain ⟨e, hke⟩ : ∃ e, n.ents[k]? = some e := ⟨_, List.getElem?_eq_getElem hlt⟩
      obtain ⟨adE, hAE, c8, c9⟩ := ents_get HNR.out.ents hke
      subst hAE
      obtain ⟨ad, hA5, c7⟩ := strs_get HSR.out (nmA_at (nmE_at hke))
      subst hA5
      obtain ⟨p0, p1, p2, p3, p4, p5, p6⟩ := HNR.out.blk.c7
      have hlt' : (k : Int) < (n.ents.length : Int) := by omega
      have HFD := Lib.hid (find_at (HNR.out.later (Below.refl _ _).drew) hF.few e.1 (HFIN.out.2.1 k e hke).1)
      have HIN := Lib.hid (show toB (name ∈ (nmE n.ents).take (k + 1)) = (toB (name ∈ (nmE n.ents).take k) || (e.1 == name)) by
        have h1 : (nmE n.ents).take (k + 1) = (nmE n.ents).take k ++ [e.1] := take_snoc' (nmE_at hke)
        by_cases h2 : name ∈ (nmE n.ents).take k
        · rw [toB_true h2, toB_true (by rw [h1]; exact List.mem_append_left _ h2), Bool.true_or]
        · rw [toB_false h2, Bool.false_or]
          by_cases h3 : e.1 = name
          · rw [toB_true (by rw [h1, h3]; simp)]
            simpa using h3
          · rw [toB_false (by rw [h1]; intro h; rcases List.mem_append.1 h with h | h; exact h2 h; exact h3 (List.mem_singleton.1 h).symm)]
            symm
            rw [beq_eq_false_iff_ne]
            exact h3)
      generalize toB (name ∈ (nmE n.ents).take k) = B0 at HIN ⊢
      have q1 : (e.2 != e.2) = false := by simp
      have q2 : ((bA e.1).toList != (bA e.1).toList) = false := by simp
      have hs0 : wr.drew.cell? ⟨w.heap.size, 0, none⟩ = _ := p0
      have hs1 : wr.drew.cell? ⟨w.heap.size, 1, none⟩ = _ := p1
      have hs2 : wr.drew.cell? ⟨w.heap.size, 2, none⟩ = _ := p2
      have hs3 : wr.drew.cell? ⟨w.heap.size, 3, none⟩ = _ := p3
      have hs4 : wr.drew.cell? ⟨w.heap.size, 4, none⟩ = _ := p4
      have hs5 : wr.drew.cell? ⟨w.heap.size, 5, none⟩ = _ := p5
      have hs6 : wr.drew.cell? ⟨w.heap.size, 6, none⟩ = _ := p6
      have hs7 : wr.drew.cell? (ad.add k) = _ := c7
      have hs8 : wr.drew.cell? (adE.add (k * 2)) = _ := c8
      have hs9 : wr.drew.cell? ⟨(adE.add (k * 2)).block, (adE.add (k * 2)).off + 1, none⟩ = _ := c9
      clear p0 p1 p2 p3 p4 p5 p6 c7 c8 c9
      go_wp2_with fail
      go_region_held3 (fun w' => w'.cell? ⟨w.heap.size, 0, none⟩ = some (.int .i64 n.kind) ∧ w'.cell? ⟨w.heap.size, 1, none⟩ = some (.int .i64 n.mode) ∧ w'.cell? ⟨w.heap.size, 2, none⟩ = some (.int .i64 n.uid) ∧ w'.cell? ⟨w.heap.size, 3, none⟩ = some (.int .i64 n.gid) ∧ w'.cell? ⟨w.heap.size, 4, none⟩ = some (.slice A1 n.data.length c1) ∧ w'.cell? ⟨w.heap.size, 5, none⟩ = some (.slice (some adE) n.ents.length c2) ∧ w'.cell? ⟨w.heap.size, 6, none⟩ = some (.string (bA n.target)) ∧ w'.cell? (ad.add k) = some (.string (bA e.1)) ∧ w'.cell? (adE.add (k * 2)) = some (.string (bA e.1)) ∧ w'.cell? ⟨(adE.add (k * 2)).block, (adE.add (k * 2)).off + 1, none⟩ = some (.int .i64 e.2))
        (first | exact ⟨hs0, hs1, hs2, hs3, hs4, hs5, hs6, hs7, hs8, hs9⟩ | exact ⟨bc hb6 hs0, bc hb6 hs1, bc hb6 hs2, bc hb6 hs3, bc hb6 hs4, bc hb6 hs5, bc hb6 hs6, bc hb6 hs7, bc hb6 hs8, bc hb6 hs9⟩)
        (first | (go_at_call 17; refine HFD.out.mono ?_; rintro e6 w6 ⟨rfl, hb6⟩))
      all_goals (
        have HB6 := Lib.hid (bt (bt hb6 (Below.refl _ _).drew) HBR.out)
        have m7 := bc hb6 hs7
        obtain ⟨E2, hE2⟩ : ∃ E2, ((bA e.1).toList == (bA name).toList) = E2 := ⟨_, rfl⟩
        have HE2 := Lib.hid (show (e.1 == name) = E2 by rw [← hE2, bA_list, bA_list])
        clear hs0 hs1 hs2 hs3 hs4 hs5 hs6 hs7 hs8 hs9 hb6
        cases B0 with
        | true =>
          go_wp2
          go_roundg (n.ents.length - (k + 1))
          case measure => omega
          case rel => exact ⟨k + 1, by go_num, by rw [HIN.out]; rfl, by omega, rfl, HB6.out⟩
        | false =>
          go_wp2
          go_roundg (n.ents.length - (k + 1))
          case measure => omega
          case rel => exact ⟨k + 1, by go_num, by rw [HIN.out, HE2.out]; rfl, by omega, rfl, HB6.out⟩)
    · have hke : k = n.ents.length := by omega
      have hlt' : ¬ (k : Int) < (n.ents.length : Int) := by omega
      have HM := Lib.hid (show toB (name ∈ (nmE n.ents).take k) = toB (name ∈ nmE n.ents) by rw [List.take_of_length_le (by rw [len_nmE]; omega)])
      rw [HM.out]
      obtain ⟨p0, p1, p2, p3, p4, p5, p6⟩ := HNR.out.blk.c7
      have q0 : ((n.ents.length : Int) == (n.ents.length : Int)) = true := by simp
      clear hke
      obtain ⟨i, hi⟩ : ∃ i, fnd n.ents name = i := ⟨_, rfl⟩
      have hpos := HFIN.out.2.2 name
      rw [hi] at hpos
      by_cases hm : name ∈ nmE n.ents
      · rw [toB_true hm]
        have hi0 : 0 < i := hpos.2 hm
        clear hpos hm
        go_wp2_with fail
        refine (size_at HNR.out hF.few (siz_dir HK.out)).mono ?_
        rintro e w6 ⟨rfl, hb6⟩
        obtain ⟨r0, r1, r2, r3, r4, r5, r6⟩ := (HNR.out.later hb6).blk.c7
        have HN6 := Lib.hid (HNR.out.later hb6)
        have HB6 := Lib.hid (bt hb6 HBR.out)
        clear hb6 p0 p1 p2 p3 p4 p5 p6
        go_wp2_with fail
        refine (find_at HN6.out hF.few name hi).mono ?_
        rintro e w7 ⟨rfl, hb7⟩
        have HB7 := Lib.hid (bt hb7 HB6.out)
        clear hb7 r0 r1 r2 r3 r4 r5 r6
        go_wp2
        go_ret
        exact ⟨rfl, bt HB7.out HB5.out⟩
      · rw [toB_false hm]
        have hi0 : ¬ 0 < i := fun h => hm (hpos.1 h)
        clear hpos hm
        go_wp2_with fail
        refine (size_at HNR.out hF.few (siz_dir HK.out)).mono ?_
        rintro e w6 ⟨rfl, hb6⟩
        obtain ⟨r0, r1, r2, r3, r4, r5, r6⟩ := (HNR.out.later hb6).blk.c7
        have HN6 := Lib.hid (HNR.out.later hb6)
        have HB6 := Lib.hid (bt hb6 HBR.out)
        clear hb6 p0 p1 p2 p3 p4 p5 p6
        go_wp2_with fail
        refine (find_at HN6.out hF.few name hi).mono ?_
        rintro e w7 ⟨rfl, hb7⟩
        have HB7 := Lib.hid (bt hb7 HB6.out)
        clear hb7 r0 r1 r2 r3 r4 r5 r6
        go_wp2
        go_ret
        exact ⟨ret_bool (by simp; omega), bt HB7.out HB5.out⟩
theorem finds_walk (n : Nd) (vd ve : Value) (s : ByteArray) (w : World) (hd : BytesR w vd n.data) (he : EntsR w ve n.ents) (hl : n.ents.length ≤ maxLen) : Calls Try.prog 6 #[nodeV n vd ve, .string s] w fun e w' => e = .returned (.bool true) ∧ Below w.heap.size w w' := by
  rw [show s = bA (tl s) from bA_eq rfl]
  by_cases hF : fewP n
  · by_cases hs : 40 < (tl s).length
    · exact finds_long n vd ve _ w hd he hl hF hs
    · by_cases hR : rightP n
      · by_cases hk : n.kind = 2
        · exact finds_dir n vd ve _ w hd he hl hF hs hR hk
        · exact finds_other n vd ve _ w hd he hl hF hs hR hk
      · exact finds_wrong n vd ve _ w hd he hl hF hs hR
  · exact finds_few n vd ve _ w hd he hl hF
end Go.Proofs.Ytibmnafnandodaa
