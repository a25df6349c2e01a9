/-
  BuildTrees: the tree of whatever is told is the reference's, and so is where it is wrong, and why. The condition: what is told is no longer than a machine can hold.
-/
import Derived.Test.YtnecnnajngfooaaRBd
import Derived.Test.YtnecnnajngfooaaBldAw
import Derived.Deep.RegionHeld3
namespace Go.Proofs.Ytnecnnajngfooaa
open Go Go.RowKit
set_option maxRecDepth 100000

attribute [local go_sem] cell_off4 cell_blk4
set_option maxHeartbeats 8000000 in
theorem btrees_any (m : Int) (v : Value) (l : List Rw) (w : World) (h : RawsR w v l) (hl : l.length ≤ maxLen) :
    Calls Try.prog 5 #[.int .i64 m, v] w fun e w' => e = .returned (.bool true) ∧ Below w.heap.size w w' := by
  have HA := Lib.hid (awake10_any w)
  have HR := Lib.hid h
  have HS := Lib.hid (fun W (hb : Below w.heap.size w W) => fewR_any v l W (h.below hb) hl)
  clear h hl
  by_cases hs : fewR l
  · rw [toB_true hs] at HS
    have HF := Lib.hid hs
    have HC := Lib.hid (fun W (hb : Below w.heap.size w W) => build_any m v l W (HR.out.below hb) hs)
    have HD := Lib.hid (fun W (hb : Below w.heap.size w W) => told_any v l W (HR.out.below hb) (by have := HF.out.2; omega))
    have HE := Lib.hid (fun (B : Nat) (u : Value) (W : World) (hx : RsX W B u l) => rbuild_any m B u l W hx HF.out)
    have HOKT := Lib.hid (fun (T : List Nd) (hT : bldA m l = .good T) => (tre_all hT).1)
    clear hs
    obtain ⟨X, hX⟩ : ∃ X, bldA m l = X := ⟨_, rfl⟩
    rw [hX] at HC HE
    go_enter Try.func5, Try.ntmps5
    go_wp2_with fail
    refine HA.out.mono ?_
    rintro e w1 ⟨rfl, hb1⟩
    have HB1 := Lib.hid hb1
    clear hb1
    go_wp2_with fail
    refine (HS.out _ HB1.out).mono ?_
    rintro e w2 ⟨rfl, hb2⟩
    have HB2 := Lib.hid (bt hb2 HB1.out)
    clear hb2
    cases X with
    | bad k e0 =>
      clear hX
      go_wp2_with fail
      refine (HC.out _ HB2.out).mono ?_
      rintro e w3 ⟨⟨rfl, hne⟩, hb3⟩
      have HB3 := Lib.hid (bt hb3 HB2.out)
      have q0 : (e0 != 0) = true := by simpa using hne
      have q1 : ((k : Int) != (k : Int)) = false := by simp
      have q2 : (e0 != e0) = false := by simp
      clear hb3 hne
      go_wp2_with fail
      refine (HD.out _ HB3.out).mono ?_
      rintro e w4 ⟨u, rfl, hx4, hb4⟩
      have HX4 := Lib.hid hx4
      have HB4 := Lib.hid (bt hb4 HB3.out)
      clear hx4 hb4
      go_wp2_with fail
      refine (HE.out _ u _ HX4.out).mono ?_
      rintro e w5 ⟨rfl, hb5⟩
      have HB5 := Lib.hid (al (bt hb5 HB4.out) (.cells #[.slice none 0 0] 29))
      clear hb5
      go_wp2
      go_quiet (fail)
      go_wp2
      go_ret
      exact ⟨rfl, bdN HB5.out _⟩
    | good T =>
      have HTR := Lib.hid (HOKT.out T hX)
      clear hX
      go_wp2_with fail
      refine (HC.out _ HB2.out).mono ?_
      rintro e w3 ⟨⟨g, rfl, ht, -⟩, hb3⟩
      have HT3 := Lib.hid ht
      have HB3 := Lib.hid (bt hb3 HB2.out)
      clear hb3 ht
      go_wp2_with fail
      refine (HD.out _ HB3.out).mono ?_
      rintro e w4 ⟨u, rfl, hx4, hb4⟩
      have HX4 := Lib.hid hx4
      have HB4 := Lib.hid (bt hb4 HB3.out)
      have HT4 := Lib.hid (HT3.out.below hb4)
      clear hx4 hb4
      go_wp2_with fail
      refine (HE.out _ u _ HX4.out).mono ?_
      rintro e w5 ⟨⟨g9, n9, k9, rfl, hn5⟩, hb5⟩
      have hn9 : n9 = T.length := by
        obtain ⟨g8, k8, hv⟩ := ns_form hn5
        injection hv
      subst hn9
      have hbx := al hb5 (.cells #[.slice (some ⟨g9, 0, none⟩) T.length k9] 29)
      have HB6 := Lib.hid (bt hbx HB4.out)
      have HT6 := Lib.hid (HT4.out.below hbx)
      have HN6 := Lib.hid (hn5.below (ba w5 (.cells #[.slice (some ⟨g9, 0, none⟩) T.length k9] 29)))
      have hk6 := Blk.new w5 29 #[.slice (some ⟨g9, 0, none⟩) T.length k9]
      obtain ⟨d, hd⟩ : ∃ d, w5.heap.size = d := ⟨_, rfl⟩
      obtain ⟨W6, hW6⟩ : ∃ W6, w5.alloc (.cells #[.slice (some ⟨g9, 0, none⟩) T.length k9] 29) = W6 := ⟨_, rfl⟩
      rw [hW6] at HB6 HT6 HN6 hk6
      rw [hd] at hk6
      have HDR := Lib.hid (show Below W6.heap.size W6 W6.drew from (Below.refl _ _).drew)
      have hs0 : W6.drew.cell? ⟨d, 0, none⟩ = some (.slice (some ⟨g9, 0, none⟩) T.length k9) := hk6.cell 0
      have HTREE := Lib.hid (tree_any g T W6.drew (HT6.out.below HDR.out))
      have HROOM := Lib.hid (fun W (hb : Below W6.heap.size W6 W) => room_any _ T W (HT6.out.below hb).ptr)
      have HSAME := Lib.hid (fun (W : World) (va : Value) (hb : Below W6.heap.size W6 W) (hn : NsR (fun x => x ≠ W6.drew.heap.size) W va (copyT T 24)) => show Calls Try.prog 39 #[.agg #[va], .agg #[.slice (some ⟨g9, 0, none⟩) T.length k9]] W fun e w' => e = .returned (.bool true) ∧ Below W.heap.size W w' from by
        have h1 := rtsame_any va _ (copyT T 24) T W hn (HN6.out.below hb) (by rw [copy_len]; decide) HTR.out.le (copy_ok HTR.out.ok 24) HTR.out.ok
        rw [sam_same (fun j => copy_all HTR.out.le j) (fun j => rfl), toB_true (show sam24 T T from fun _ _ => rfl)] at h1
        exact h1)
      clear hn5 hb5 hbx hk6 HA HS HC HD HE HOKT
      go_upto_region 11 with fail
      clear hW6 hd
      go_region_held3 (fun w' => w'.cell? ⟨d, 0, none⟩ = some (.slice (some ⟨g9, 0, none⟩) T.length k9) ∧ Below W6.heap.size W6 w')
        (first | exact ⟨hs0, HDR.out⟩ | exact ⟨bc h1 hs0, bt h1 HDR.out⟩ | exact ⟨bc h2 (bc h1 hs0), bt h2 (bt h1 HDR.out)⟩)
        (first
        | (go_at_call 45; (with_reducible refine HTREE.out.mono ?_); rintro e1 x1 ⟨g1, c1, rfl, hn1, h1⟩)
        | (go_at_call 39; (with_reducible refine (HSAME.out x1 _ (bt h1 HDR.out) hn1).mono ?_); rintro e2 x2 ⟨rfl, h2⟩)
        | (go_at_call 32; (with_reducible refine (HROOM.out x2 (bt h2 (bt h1 HDR.out))).mono ?_); rintro e3 x3 ⟨rfl, rfl⟩))
      all_goals (
        go_wp2
        go_ret
        exact ⟨ret_bool (by first | rfl | simp), bt h2 (bt h1 (bt HDR.out HB6.out))⟩)
  · rw [toB_false hs] at HS
    clear hs
    go_enter Try.func5, Try.ntmps5
    go_wp2_with fail
    refine HA.out.mono ?_
    rintro e w1 ⟨rfl, hb1⟩
    have HB1 := Lib.hid hb1
    clear hb1
    go_wp2_with fail
    refine (HS.out _ HB1.out).mono ?_
    rintro e w2 ⟨rfl, hb2⟩
    have HB2 := Lib.hid (bt hb2 HB1.out)
    clear hb2
    go_wp2
    go_ret
    exact ⟨rfl, HB2.out⟩
end Go.Proofs.Ytnecnnajngfooaa
