/-
  The walk of the law OwnerShow: for any numbers that a machine has it answers true, under the condition that strconv's table of powers holds what its initialiser lays.
-/
import Derived.Test.YtkbdlmmpeieaeaaDoorAwake
namespace Go.Proofs.YtkbdlmmpeieaeaaDoor
open Go Go.RowKit

theorem same_text {a b : ByteArray} {l : List UInt8} (ha : a.data.toList = l) (hb : b.data.toList = l) : a = b := by
  have h := ba_iff.2 ha
  rw [h]
  exact (ba_iff.2 hb).symm
set_option maxHeartbeats 1000000 in
theorem showLaw (u g : Int) (w : World) (hu : -9223372036854775808 ≤ u ∧ u ≤ 9223372036854775807) (hg : -9223372036854775808 ≤ g ∧ g ≤ 9223372036854775807) (hT : Tb w) : Calls Tryd.prog 4 #[.int .i64 u, .int .i64 g] w fun e w' => e = .returned (.bool true) ∧ Below w.heap.size w w' := by
  have HA := Lib.hid (awake_any w hT)
  have HT := Lib.hid hT
  have HS := Lib.hid (fun w hT => show_any u g w hu.1 hu.2 hg.1 hg.2 hT)
  have HR := Lib.hid (fun w => rshow_any u g w hu.2 hg.2)
  clear hT hu hg
  go_enter Tryd.func4, Tryd.ntmps4
  go_wp2_with fail
  refine HA.out.mono ?_
  rintro e w1 ⟨rfl, hb⟩
  have HB1 := Lib.hid hb
  clear hb
  go_wp2_with fail
  refine (HS.out _ (HT.out.below HB1.out)).mono ?_
  rintro e w2 ⟨⟨a, rfl, ha⟩, hb⟩
  have HB2 := Lib.hid (bt hb HB1.out)
  have H1 := Lib.hid ha
  clear hb ha
  go_wp2_with fail
  refine (HR.out _).mono ?_
  rintro e w3 ⟨⟨b, rfl, hb'⟩, hb⟩
  have HB3 := Lib.hid (bt hb HB2.out)
  obtain rfl := same_text H1.out hb'
  clear hb hb'
  go_wp2
  go_ret
  exact ⟨ret_bool (by simp), HB3.out⟩
end Go.Proofs.YtkbdlmmpeieaeaaDoor
