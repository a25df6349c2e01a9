/-
  What modes.Show answers, for every kind and mode, under the condition that the package's table of signs holds what its initialiser lays: the ten signs; nothing that was there is changed.
-/
import Derived.Test.YtnjgecdhgfiilaaDoorBuf
namespace Go.Proofs.YtnjgecdhgfiilaaDoor
open Go Go.RowKit

set_option maxHeartbeats 1000000 in
theorem show_any (kind m : Int) (w : World) (hS : SignsAt w) : Calls Tryd.prog 10 #[.int .i64 kind, .int .i64 m] w fun e w' => e = .returned (.string (sh kind m)) ∧ Below w.heap.size w w' := by
  obtain ⟨i0, hi, hz0, hz1, hz2⟩ := info_parts info_u8
  have HI := Lib.hid hi
  have HZ0 := Lib.hid hz0
  have HZ1 := Lib.hid hz1
  have HZ2 := Lib.hid hz2
  have HS := Lib.hid hS
  clear hi hz0 hz1 hz2 hS
  go_enter Tryd.func10, Tryd.ntmps10
  go_wp2_with (at_make; refine wpList_make_own _ rfl _ _ 40 rfl w.heap.size 5 i0 (.int .u8 0) 1 Tryd.underlying40 HI.out HZ0.out HZ1.out _ _ _ 10 rfl rfl rfl (by rw [HZ2.out]; decide) (by decide) (Nat.le_refl _) ?_)
  intro w1 hown hgrow
  have hb : Lib.OwnBuf w.heap.size 5 (.slice (some ⟨w.heap.size, 0, none⟩) 0 10) 0 [] w w1 :=
    ⟨World.ownsRowF_of hown, (Below.refl _ _).grown hgrow (Nat.le_refl _) (fun k hk => by cases hk), hgrow.size⟩
  have HB := Lib.hid hb
  clear hb hown hgrow
  go_wp2_with (first | (go_at_call 21; refine (kindSign_any _ _).mono ?_; rintro e w' ⟨rfl, rfl⟩) | (at_builtin; refine Lib.wpList_append_byte rfl (.tmp 9) (.tmp 12) 40 rfl w.heap.size 5 i0 Tryd.underlying40 HI.out HZ0.out HZ1.out HZ2.out (.slice (some ⟨w.heap.size, 0, none⟩) 0 10) 0 [] rfl w w1 (ksg kind) HB.out rfl (by decide) ?_))
  intro v2 w2 hb2
  have HB2 := Lib.hid hb2
  clear hb2
  go_wp2
  go_loopw [5, 14] (fun v i wr => ∃ k : Nat, k ≤ 3 ∧ i = .int .i64 k ∧ Lib.OwnBuf w.heap.size 5 v (1 + 3 * k) ((pre kind m k).map (Value.int .u8)) w wr) (fun _ i _ => 3 - (intOf i).toNat)
  case atStart => exact ⟨0, by decide, rfl, HB2.out⟩
  case round =>
    obtain ⟨k, hk, rfl, hb⟩ := hrel
    have HS2 := Lib.hid (HS.out.below hb.2.1 HS.out.1)
    have HB := Lib.hid hb
    clear hb HS HB2
    by_cases hlt : k < 3
    · go_wp2_with (first | (go_at_call 17; refine (class_any _ _ _).mono ?_; rintro e w' ⟨rfl, rfl⟩) | (go_at_call 22; refine (sign_any _ _ _).mono ?_; rintro e w' ⟨rfl, rfl⟩) | (go_at_call 23; refine (lastSign_any _ _ _ (by omega) (by omega) HS2.out).mono ?_; rintro e w' ⟨rfl, rfl⟩) | (at_builtin; go_loud (refine wpList_append_three rfl (.tmp 20) (.tmp 32) 40 rfl w.heap.size 5 i0 Tryd.underlying40 HI.out HZ0.out HZ1.out HZ2.out _ (1 + 3 * k) ((pre kind m k).map (Value.int .u8)) rfl w _ _ _ _ HB.out rfl (by omega) ?_)))
      intro v3 w3 hb3
      have e : (pre kind m k).map (Value.int .u8) ++ [Value.int .u8 (bif (bits .and .i64 (cls m k) 4 != 0) then 114 else 45), .int .u8 (bif (bits .and .i64 (cls m k) 2 != 0) then 119 else 45), .int .u8 (lst m k)] = (pre kind m (k + 1)).map (Value.int .u8) := by
        rw [tri_of]; simp [pre]
      have hb4 : Lib.OwnBuf w.heap.size 5 v3 (1 + 3 * (k + 1)) ((pre kind m (k + 1)).map (Value.int .u8)) w w3 := by rw [← e]; exact hb3
      have HB4 := Lib.hid hb4
      clear hb3 hb4 e
      go_wp2
      go_roundw
      case rel => exact ⟨k + 1, by omega, by go_num, HB4.out⟩
      case measure => simp [intOf]; omega
    · have hk3 : k = 3 := by omega
      subst hk3
      have hcv := conv_own (ns := pre kind m 3) (by rw [pre_len]; exact HB.out.1)
      go_wp2
      go_ret
      exact ⟨rfl, HB.out.2.1⟩
end Go.Proofs.YtnjgecdhgfiilaaDoor
