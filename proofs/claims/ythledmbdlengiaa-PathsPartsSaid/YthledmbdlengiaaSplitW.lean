/-
  The walks of the laws PathsSplit and PathsParts: of any path and name they answer true.
-/
import Derived.Test.YthledmbdlengiaaAwake
namespace Go.Proofs.Ythledmbdlengiaa
open Go Go.RowKit

set_option maxRecDepth 100000 in
set_option maxHeartbeats 8000000 in
theorem splitWalk (p : ByteArray) (w : World) (hp : p.size ≤ maxLen) :
    Calls Try.prog 3 #[.string p] w fun e w' => e = .returned (.bool true) ∧ Below w.heap.size w w' := by
  have HA := Lib.hid (awake_any w)
  have hp' : p.size ≤ 9223372036854775807 := by unfold maxLen at hp; omega
  by_cases h : 200 < p.size
  · have h' : (200 : Int) < (p.size : Int) := by omega
    go_enter Try.func3, Try.ntmps3
    go_wp2_with fail
    refine HA.out.mono ?_
    rintro e w1 ⟨rfl, hb⟩
    have HB1 := Lib.hid hb
    clear hb
    go_wp2
    go_ret
    exact ⟨rfl, HB1.out⟩
  · have h' : ¬ (200 : Int) < (p.size : Int) := by omega
    have hq : p.size ≤ 1000000 := by omega
    have H1 := Lib.hid (fun w1 => split_any p w1 hq)
    have H2 := Lib.hid (fun w1 => ref_split p w1 hq)
    have H3 := Lib.hid (fun w1 => Fits_any p w1 hp)
    have H4 := Lib.hid (fun w1 => ref_fits p w1 hq)
    have H5 := Lib.hid (fun w1 => Name_any p w1 hp)
    have H6 := Lib.hid (fun w1 => ref_name p w1 hq)
    have H7 := Lib.hid (fun w1 => steps_any p w1 hq)
    have H8 := Lib.hid (fun w1 => ref_steps p w1 hq)
    have l1 : (bAs (splitP (tl p))).length ≤ 1000000 := by
      have h1 := nms_len (tl p)
      rw [tl_len] at h1
      rw [bAs_len, splitP]
      split
      · rw [List.length_append]; simp; omega
      · omega
    have l2 : (bAs (stp (tl p))).length ≤ 1000000 := by
      have h2 := sps_len (tl p)
      rw [len_sps', tl_len] at h2
      rw [bAs_len]
      omega
    generalize bAs (splitP (tl p)) = L1 at H1 H2 l1
    generalize bAs (stp (tl p)) = L2 at H7 H8 l2
    generalize absP (tl p) = ap at H1 H2
    generalize fitB p 64 = fb at H3 H4
    generalize namB p = nb at H5 H6
    clear hp hq h
    go_enter Try.func3, Try.ntmps3
    go_wp2_with fail
    refine HA.out.mono ?_
    rintro e w1 ⟨rfl, hb⟩
    have HB1 := Lib.hid hb
    clear hb
    go_wp2_with fail
    refine (H1.out _).mono ?_
    rintro e w2 ⟨v2, rfl, hr, hb⟩
    obtain ⟨A2, c2, rfl⟩ := strs_form hr rfl
    have HB2 := Lib.hid (bt hb HB1.out)
    have HR2 := Lib.hid hr
    clear hb hr
    go_wp2_with fail
    refine (H2.out _).mono ?_
    rintro e w3 ⟨v3, rfl, hr, hb⟩
    obtain ⟨A3, c3, rfl⟩ := strs_form hr rfl
    have HB3 := Lib.hid (bt hb HB2.out)
    have HR2' := Lib.hid (HR2.out.below hb)
    have HR3 := Lib.hid hr
    clear hb hr
    go_wp2_with fail
    refine (same_true _ _ _ _ HR2'.out HR3.out l1).mono ?_
    rintro e w4 ⟨rfl, hb⟩
    have HB4 := Lib.hid (bt hb HB3.out)
    clear hb
    go_wp2_with fail
    refine (H3.out _).mono ?_
    rintro e w5 ⟨rfl, rfl⟩
    go_wp2_with fail
    refine (H4.out _).mono ?_
    rintro e w5 ⟨rfl, rfl⟩
    go_wp2_with fail
    refine (H5.out _).mono ?_
    rintro e w5 ⟨rfl, rfl⟩
    go_wp2_with fail
    refine (H6.out _).mono ?_
    rintro e w5 ⟨rfl, rfl⟩
    go_wp2_with fail
    refine (H7.out _).mono ?_
    rintro e w6 ⟨v6, rfl, hr, hb⟩
    obtain ⟨A6, c6, rfl⟩ := strs_form hr rfl
    have HB6 := Lib.hid (bt hb HB4.out)
    have HR6 := Lib.hid hr
    clear hb hr
    go_wp2_with fail
    refine (H8.out _).mono ?_
    rintro e w7 ⟨v7, rfl, hr, hb⟩
    obtain ⟨A7, c7, rfl⟩ := strs_form hr rfl
    have HB7 := Lib.hid (bt hb HB6.out)
    have HR6' := Lib.hid (HR6.out.below hb)
    have HR7 := Lib.hid hr
    clear hb hr
    go_wp2_with fail
    refine (same_true _ _ _ _ HR6'.out HR7.out l2).mono ?_
    rintro e w8 ⟨rfl, hb⟩
    have HB8 := Lib.hid (bt hb HB7.out)
    clear hb
    go_wp2
    go_ret
    exact ⟨rfl, HB8.out⟩
set_option maxRecDepth 100000 in
set_option maxHeartbeats 8000000 in
theorem partsWalk (p n : ByteArray) (w : World) (hp : p.size ≤ maxLen) (hn : n.size ≤ maxLen) :
    Calls Try.prog 4 #[.string p, .string n] w fun e w' => e = .returned (.bool true) ∧ Below w.heap.size w w' := by
  have HA := Lib.hid (awake_any w)
  have hp' : p.size ≤ 9223372036854775807 := by unfold maxLen at hp; omega
  have hn' : n.size ≤ 9223372036854775807 := by unfold maxLen at hn; omega
  by_cases h : 200 < p.size
  · have h' : (200 : Int) < (p.size : Int) := by omega
    go_enter Try.func4, Try.ntmps4
    go_wp2_with fail
    refine HA.out.mono ?_
    rintro e w1 ⟨rfl, hb⟩
    have HB1 := Lib.hid hb
    clear hb
    go_wp2
    go_ret
    exact ⟨rfl, HB1.out⟩
  have h' : ¬ (200 : Int) < (p.size : Int) := by omega
  by_cases h2 : 200 < n.size
  · have h2' : (200 : Int) < (n.size : Int) := by omega
    go_enter Try.func4, Try.ntmps4
    go_wp2_with fail
    refine HA.out.mono ?_
    rintro e w1 ⟨rfl, hb⟩
    have HB1 := Lib.hid hb
    clear hb
    go_wp2
    go_ret
    exact ⟨rfl, HB1.out⟩
  · have h2' : ¬ (200 : Int) < (n.size : Int) := by omega
    have hq : p.size ≤ 1000000 := by omega
    have hr : n.size ≤ 1000000 := by omega
    have H1 := Lib.hid (fun w1 => base_any p w1 hq)
    have H2 := Lib.hid (fun w1 => ref_base p w1 hq)
    have H3 := Lib.hid (fun w1 => up_any p w1 hq)
    have H4 := Lib.hid (fun w1 => ref_up p w1 hq)
    have H5 := Lib.hid (fun w1 => join_any p n w1 hq hr)
    have H6 := Lib.hid (fun w1 => ref_join p n w1 hq hr)
    generalize bA (baseP (tl p)) = X at H1 H2
    generalize bA (upP (tl p)) = Y at H3 H4
    generalize bA (joinP (tl p) (tl n)) = Z at H5 H6
    have x1 : (X.toList == X.toList) = true := by simp
    have y1 : (Y.toList == Y.toList) = true := by simp
    have z1 : (Z.toList == Z.toList) = true := by simp
    clear hp hq h hn hr h2
    go_enter Try.func4, Try.ntmps4
    go_wp2_with fail
    refine HA.out.mono ?_
    rintro e w1 ⟨rfl, hb⟩
    have HB1 := Lib.hid hb
    clear hb
    go_wp2_with fail
    refine (H1.out _).mono ?_
    rintro e w2 ⟨rfl, hb⟩
    have HB2 := Lib.hid (bt hb HB1.out)
    clear hb
    go_wp2_with fail
    refine (H2.out _).mono ?_
    rintro e w3 ⟨rfl, hb⟩
    have HB3 := Lib.hid (bt hb HB2.out)
    clear hb
    go_wp2_with fail
    refine (H3.out _).mono ?_
    rintro e w4 ⟨rfl, hb⟩
    have HB4 := Lib.hid (bt hb HB3.out)
    clear hb
    go_wp2_with fail
    refine (H4.out _).mono ?_
    rintro e w5 ⟨rfl, rfl⟩
    go_wp2_with fail
    refine (H5.out _).mono ?_
    rintro e w6 ⟨rfl, hb⟩
    have HB6 := Lib.hid (bt hb HB4.out)
    clear hb
    go_wp2_with fail
    refine (H6.out _).mono ?_
    rintro e w7 ⟨rfl, rfl⟩
    go_wp2
    go_ret
    exact ⟨rfl, HB6.out⟩
end Go.Proofs.Ythledmbdlengiaa
