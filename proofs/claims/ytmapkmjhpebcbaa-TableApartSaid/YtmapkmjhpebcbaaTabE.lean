/-
  Two tables: Same, Clone. No condition.
-/
import Derived.Test.YtmapkmjhpebcbaaTabN
namespace Go.Proofs.Ytmapkmjhpebcbaa
open Go Go.RowKit

attribute [local go_sem] cell_off4 cell_blk4
/-- Have two tables the same nodes? -/
def sam24 (t u : List Nd) : Prop := ∀ k : Nat, k < 24 → tget t ((k : Int) + 1) = tget u ((k : Int) + 1)
set_option maxRecDepth 100000 in
set_option maxHeartbeats 4000000 in
theorem tsame_any (v v' : Value) (t u : List Nd) (w : World) (h : TabP w v t) (h' : TabP w v' u) :
    Calls Try.prog 35 #[v, v'] w fun e w' => e = .returned (.bool (toB (sam24 t u))) ∧ Below w.heap.size w w' := by
  have HA := Lib.hid (fun W i (hb : Below w.heap.size w W) => at_any v t i W (h.below hb))
  have HA' := Lib.hid (fun W i (hb : Below w.heap.size w W) => at_any v' u i W (h'.below hb))
  have HF := Lib.hid (fun i => ok_few h.ok.1 i)
  have HF' := Lib.hid (fun i => ok_few h'.ok.1 i)
  have HY := Lib.hid (show (∀ k : Nat, k < 24 → tget t ((k : Int) + 1) = tget u ((k : Int) + 1)) → toB (sam24 t u) = true from fun h => toB_true h)
  have HN := Lib.hid (show ∀ k : Nat, k < 24 → toB (tget t ((k : Int) + 1) = tget u ((k : Int) + 1)) = false → toB (sam24 t u) = false from fun k hk hq => toB_false (fun hs => by rw [toB_true (hs k hk)] at hq; cases hq))
  generalize toB (sam24 t u) = X at HY HN ⊢
  clear h h'
  go_enter Try.func35, Try.ntmps35
  go_wp2
  go_loopg [6] 24 (fun gh s6 wr => ∃ k : Nat, s6 = .int .i64 k ∧ k ≤ 24 ∧ gh = 24 - k ∧ (∀ j : Nat, j < k → tget t ((j : Int) + 1) = tget u ((j : Int) + 1)) ∧ Below w.heap.size w wr)
  case atStart => exact ⟨0, rfl, Nat.zero_le _, rfl, fun j h => absurd h (Nat.not_lt_zero _), Below.refl _ _⟩
  case round =>
    obtain ⟨k, rfl, hk, rfl, hall, hbr⟩ := hrel
    have HALL := Lib.hid hall
    have HBR := Lib.hid hbr
    clear hbr hall
    by_cases hlt : k < 24
    · have hlt' : (k : Int) < 24 := by omega
      have j0 : IntKind.i64.wrap ((k : Int) + 1) = (k : Int) + 1 := by rw [IntKind.wrap_i64]; omega
      have HAk := Lib.hid (HA.out wr ((k : Int) + 1) HBR.out)
      have HAk' := Lib.hid (fun W (hb : Below w.heap.size w W) => HA'.out W ((k : Int) + 1) hb)
      have HFk := Lib.hid (HF.out ((k : Int) + 1))
      have HFk' := Lib.hid (HF'.out ((k : Int) + 1))
      have HNk := Lib.hid (HN.out k hlt)
      obtain ⟨a, hta⟩ : ∃ a, tget t ((k : Int) + 1) = a := ⟨_, rfl⟩
      obtain ⟨b, htb⟩ : ∃ b, tget u ((k : Int) + 1) = b := ⟨_, rfl⟩
      rw [hta] at HAk HFk HNk
      rw [htb] at HAk' HFk' HNk
      have HTA := Lib.hid hta
      have HTB := Lib.hid htb
      clear hta htb
      go_wp2_with fail
      refine HAk.out.mono ?_
      rintro e w4 ⟨vd, ve, rfl, hd4, he4, hb4⟩
      have HB4 := Lib.hid (bt hb4 HBR.out)
      have HD4 := Lib.hid hd4
      have HE4 := Lib.hid he4
      clear hb4 hd4 he4
      go_wp2_with fail
      refine (HAk'.out w4 HB4.out).mono ?_
      rintro e w5 ⟨vd', ve', rfl, hd5, he5, hb5⟩
      have HB5 := Lib.hid (bt hb5 HB4.out)
      have HD5 := Lib.hid hd5
      have HE5 := Lib.hid he5
      have HD45 := Lib.hid (HD4.out.below hb5)
      have HE45 := Lib.hid (HE4.out.below hb5)
      clear hb5 hd5 he5
      have HC := Lib.hid (same_any a b vd ve vd' ve' w5 HD45.out.1 HE45.out.1 HD5.out.1 HE5.out.1 HFk.out HFk'.out)
      by_cases q : a = b
      · rw [toB_true q] at HC
        have HQ := Lib.hid q
        clear q
        go_wp2_with fail
        refine HC.out.mono ?_
        rintro e w6 ⟨rfl, hb6⟩
        have HB6 := Lib.hid (bt hb6 HB5.out)
        clear hb6
        go_wp2
        go_roundg (24 - (k + 1))
        case measure => omega
        case rel => exact ⟨k + 1, by go_num, by omega, rfl, (fun j h1 => by
          by_cases q : j < k
          · exact HALL.out j q
          · have e1 : j = k := by omega
            subst e1
            rw [HTA.out, HTB.out]
            exact HQ.out), HB6.out⟩
      · rw [toB_false q] at HC
        have HX := Lib.hid (HNk.out (toB_false q))
        clear q
        go_wp2_with fail
        refine HC.out.mono ?_
        rintro e w6 ⟨rfl, hb6⟩
        have HB6 := Lib.hid (bt hb6 HB5.out)
        clear hb6
        go_wp2
        go_ret
        exact ⟨ret_bool HX.out.symm, HB6.out⟩
    · have hlt' : ¬ (k : Int) < 24 := by omega
      have HX := Lib.hid (HY.out (fun j hj => HALL.out j (by omega)))
      go_wp2
      go_ret
      exact ⟨ret_bool HX.out.symm, HBR.out⟩
end Go.Proofs.Ytmapkmjhpebcbaa
