/-
  The document's examples, as the statements' function awake asks them: it answers true, and nothing that was there is changed; under the condition that the package's table of signs holds what its initialiser lays.
-/
import Derived.Test.YtnjgecdhgfiilaaDoorReadOctal
namespace Go.Proofs.YtnjgecdhgfiilaaDoor
open Go Go.RowKit

theorem aw_sh : sh 2 1021 = ⟨#[100, 114, 119, 120, 114, 119, 120, 114, 45, 116]⟩ := by decide +kernel
theorem aw_rdm : rdm 114 119 120 114 119 120 114 45 116 = 1021 := by decide +kernel
theorem aw_rdk : rdk 100 = 2 := by decide +kernel
theorem aw_read (w : World) (hS : SignsAt w) : Calls Tryd.prog 12 #[.string ⟨#[100, 114, 119, 120, 114, 119, 120, 114, 45, 116]⟩] w fun e w' => e = .returned (.tuple #[.int .i64 2, .int .i64 1021, .bool true]) ∧ Below w.heap.size w w' := by
  have h := read_yes 100 114 119 120 114 119 120 114 45 116 2 w hS aw_rdk (by decide) (by rw [aw_rdm, aw_sh])
  rw [aw_rdm] at h
  exact h
theorem aw_show (w : World) (hS : SignsAt w) : Calls Tryd.prog 10 #[.int .i64 2, .int .i64 1021] w fun e w' => e = .returned (.string ⟨#[100, 114, 119, 120, 114, 119, 120, 114, 45, 116]⟩) ∧ Below w.heap.size w w' := by
  have h := show_any 2 1021 w hS
  rw [aw_sh] at h
  exact h
theorem aw_octal (w : World) : Calls Tryd.prog 15 #[.int .i64 2541] w fun e w' => e = .returned (.string ⟨#[52, 55, 53, 53]⟩) ∧ Below w.heap.size w w' := by
  have h := octal_any 2541 w
  rw [show str (oct 2541) = ⟨#[52, 55, 53, 53]⟩ by decide +kernel] at h
  exact h
theorem aw_readOctal (w : World) : Calls Tryd.prog 13 #[.string ⟨#[52, 55, 53, 53]⟩] w fun e w' => e = .returned (.tuple #[.int .i64 2541, .int .i64 0]) ∧ Below w.heap.size w w' := by
  have h := readOctal_any ⟨#[52, 55, 53, 53]⟩ w (by decide)
  rw [show roN ⟨#[52, 55, 53, 53]⟩ = 2541 by decide +kernel, show roE ⟨#[52, 55, 53, 53]⟩ = 0 by decide +kernel] at h
  exact h
theorem aw_class (w : World) : Calls Tryd.prog 17 #[.int .i64 2541, .int .i64 1] w fun e w' => e = .returned (.int .i64 5) ∧ w = w' := by
  have h := class_any 2541 1 w
  rw [show cls 2541 1 = 5 by decide +kernel] at h
  exact h

set_option maxHeartbeats 2000000 in
theorem awake_any (w : World) (hS : SignsAt w) : Calls Tryd.prog 9 #[] w fun e w' => e = .returned (.bool true) ∧ Below w.heap.size w w' := by
  have HS := Lib.hid hS
  clear hS
  go_enter Tryd.func9, Tryd.ntmps9
  go_wp2_with fail
  refine (aw_read _ HS.out).mono ?_
  rintro e w1 ⟨rfl, hb1⟩
  have HB1 := Lib.hid hb1
  have HS1 := Lib.hid (HS.out.below hb1 HS.out.1)
  clear hb1
  go_wp2_with fail
  refine (aw_readOctal _).mono ?_
  rintro e w2 ⟨rfl, hb2⟩
  have HB2 := Lib.hid (HB1.out.trans (hb2.mono HB1.out.size))
  have HS2 := Lib.hid (HS.out.below HB2.out HS.out.1)
  clear hb2
  go_wp2_with fail
  refine (aw_show _ HS2.out).mono ?_
  rintro e w3 ⟨rfl, hb3⟩
  have HB3 := Lib.hid (HB2.out.trans (hb3.mono HB2.out.size))
  clear hb3
  go_wp2_with fail
  refine (aw_octal _).mono ?_
  rintro e w4 ⟨rfl, hb4⟩
  have HB4 := Lib.hid (HB3.out.trans (hb4.mono HB3.out.size))
  clear hb4
  go_wp2_with fail
  refine (aw_class _).mono ?_
  rintro e w5 ⟨rfl, rfl⟩
  go_wp2
  go_ret
  exact ⟨rfl, HB4.out⟩
end Go.Proofs.YtnjgecdhgfiilaaDoor
