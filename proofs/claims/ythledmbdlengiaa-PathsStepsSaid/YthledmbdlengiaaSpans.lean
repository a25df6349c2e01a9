/-
  What spansOf answers: where the names stand in any path. The only condition is that a path has a million bytes at most.
-/
import Derived.Test.YthledmbdlengiaaSlash
namespace Go.Proofs.Ythledmbdlengiaa
open Go Go.RowKit

theorem slAt_nat (p : ByteArray) (k : Nat) : slAt p (k : Int) = ((tl p)[k]? == some 47) := by
  rw [slAt, decide_eq_true (by omega), Bool.true_and, Int.toNat_natCast]
/-- Places so far. -/
structure SPS (W wr : World) (p : ByteArray) (k st : Nat) (v : Value) (out : List (Nat × Nat)) : Prop where
  below : Below W.heap.size W wr
  own : wr.ownsRow W.heap.size 41 2 v out.length (pCells out)
  so : out ++ spX (tl p) k st = sps (tl p)
theorem SPS.len {W wr : World} {p : ByteArray} {k st : Nat} {v : Value} {out : List (Nat × Nat)} (h : SPS W wr p k st v out) : out.length ≤ p.size + 1 := by
  have h1 := congrArg List.length h.so
  have h2 := sps_len (tl p)
  rw [List.length_append] at h1
  rw [tl_len] at h2
  omega
set_option maxRecDepth 100000 in
set_option maxHeartbeats 8000000 in
theorem spans_any (p : ByteArray) (w : World) (hp : p.size ≤ 1000000) :
    Calls Try.prog 31 #[.string p] w fun e w' => ∃ v, e = .returned v ∧ SpansR w' v (sps (tl p)) ∧ Below w.heap.size w w' := by
  have HS := Lib.hid (slashIn_any p w)
  go_enter Try.func31, Try.ntmps31
  go_wp2_with fail
  refine HS.out.mono ?_
  rintro e W ⟨rfl, hc, hb⟩
  have HC := Lib.hid hc
  have HB := Lib.hid hb
  clear hc hb HS
  go_wp2
  go_loopg [4, 5, 12] (p.size + 1) (fun gh s4 s5 s12 wr => ∃ (k st : Nat) (out : List (Nat × Nat)), s12 = .int .i64 k ∧ s5 = .int .i64 st ∧ k ≤ p.size + 1 ∧ gh = p.size + 1 - k ∧ st ≤ k ∧ SPS W wr p k st s4 out)
  case atStart => exact ⟨0, 0, [], rfl, rfl, Nat.zero_le _, rfl, Nat.le_refl _, Below.refl _ _, World.ownsRow_nil _ _ _ _, spX_zero _⟩
  case round =>
    obtain ⟨k, st, out, rfl, rfl, hk, rfl, hst, hS⟩ := hrel
    obtain ⟨vl, rfl⟩ : ∃ vl, vl = u4 := ⟨_, rfl⟩
    have hln := hS.len
    have HS := Lib.hid hS
    have hB0 := hS.below.size
    clear hS
    by_cases hlt : k < p.size + 1
    · by_cases hin : k < p.size
      · obtain ⟨b, hb⟩ : ∃ b, p[k] = b := ⟨_, rfl⟩
        have hy : (tl p)[k]? = some b := by rw [tl_at hin, hb]
        have kc := bc HS.out.below HC.out
        by_cases h47 : b = 47
        · subst h47
          have HY := Lib.hid hy
          clear hy hb
          by_cases hs : st < k
          · have HSO := Lib.hid (show (out ++ [(st, k)]) ++ spX (tl p) (k + 1) (k + 1) = sps (tl p) by rw [← HS.out.so, spX_pos (.inl HY.out) hs]; simp)
            have hs' : (st : Int) < (k : Int) := by omega
            go_wp2_with fail
            refine (isSlash_any p _ _ wr kc (by unfold maxLen; omega)).mono ?_
            rintro e w' ⟨rfl, rfl⟩
            rw [slAt_nat, HY.out]
            go_wp2_with (at_builtin; refine wpList_append_one rfl (.tmp 28) (.tmp 32) _ rfl W.heap.size 41 _ 2 16 Try.underlying38 info_span rfl (by decide) vl out.length (pCells out) rfl wr [.int .i64 (st : Int), .int .i64 (k : Int)] rfl (span_one _ _) HS.out.own rfl (by omega) (by omega) hB0 ?_; intro v5 w5 ho hg; obtain ⟨A5, c5, hv5, ho5, hb5⟩ := app_span (s := (st, k)) HS.out.below hB0 HS.out.own ho hg; subst hv5; have HO5 := Lib.hid ho5; have HB5 := Lib.hid hb5; clear ho hg ho5 hb5)
            go_roundg (p.size + 1 - (k + 1))
            case measure => omega
            case rel => exact ⟨k + 1, k + 1, out ++ [(st, k)], by go_num, by go_num, by omega, rfl, Nat.le_refl _, HB5.out, HO5.out, HSO.out⟩
          · have HSO := Lib.hid (show out ++ spX (tl p) (k + 1) (k + 1) = sps (tl p) by rw [← HS.out.so, spX_neg (.inl HY.out) hs])
            have hs' : ¬ (st : Int) < (k : Int) := by omega
            go_wp2_with fail
            refine (isSlash_any p _ _ wr kc (by unfold maxLen; omega)).mono ?_
            rintro e w' ⟨rfl, rfl⟩
            rw [slAt_nat, HY.out]
            go_wp2
            go_roundg (p.size + 1 - (k + 1))
            case measure => omega
            case rel => exact ⟨k + 1, k + 1, out, by go_num, by go_num, by omega, rfl, Nat.le_refl _, HS.out.below, HS.out.own, HSO.out⟩
        · have HY := Lib.hid hy
          have HSO := Lib.hid (show out ++ spX (tl p) (k + 1) st = sps (tl p) by rw [← HS.out.so, spX_byte st hy h47])
          have hq : (some b == some (47 : UInt8)) = false := by simpa using h47
          clear hy hb h47
          go_wp2_with fail
          refine (isSlash_any p _ _ wr kc (by unfold maxLen; omega)).mono ?_
          rintro e w' ⟨rfl, rfl⟩
          rw [slAt_nat, HY.out, hq]
          go_wp2
          go_roundg (p.size + 1 - (k + 1))
          case measure => omega
          case rel => exact ⟨k + 1, st, out, by go_num, by go_num, by omega, rfl, by omega, HS.out.below, HS.out.own, HSO.out⟩
      · have hke : k = p.size := by omega
        have HK := Lib.hid (show k = (tl p).length by rw [tl_len]; exact hke)
        clear hke
        by_cases hs : st < k
        · have HSO := Lib.hid (show (out ++ [(st, k)]) ++ spX (tl p) (k + 1) (k + 1) = sps (tl p) by rw [← HS.out.so, spX_pos (.inr HK.out) hs]; simp)
          have hs' : (st : Int) < (k : Int) := by omega
          go_wp2_with (at_builtin; refine wpList_append_one rfl (.tmp 28) (.tmp 32) _ rfl W.heap.size 41 _ 2 16 Try.underlying38 info_span rfl (by decide) vl out.length (pCells out) rfl wr [.int .i64 (st : Int), .int .i64 (k : Int)] rfl (span_one _ _) HS.out.own rfl (by omega) (by omega) hB0 ?_; intro v5 w5 ho hg; obtain ⟨A5, c5, hv5, ho5, hb5⟩ := app_span (s := (st, k)) HS.out.below hB0 HS.out.own ho hg; subst hv5; have HO5 := Lib.hid ho5; have HB5 := Lib.hid hb5; clear ho hg ho5 hb5)
          go_roundg (p.size + 1 - (k + 1))
          case measure => omega
          case rel => exact ⟨k + 1, k + 1, out ++ [(st, k)], by go_num, by go_num, by omega, rfl, Nat.le_refl _, HB5.out, HO5.out, HSO.out⟩
        · have HSO := Lib.hid (show out ++ spX (tl p) (k + 1) (k + 1) = sps (tl p) by rw [← HS.out.so, spX_neg (.inr HK.out) hs])
          have hs' : ¬ (st : Int) < (k : Int) := by omega
          go_wp2
          go_roundg (p.size + 1 - (k + 1))
          case measure => omega
          case rel => exact ⟨k + 1, k + 1, out, by go_num, by go_num, by omega, rfl, Nat.le_refl _, HS.out.below, HS.out.own, HSO.out⟩
    · have HR := Lib.hid (show SpansR wr vl (sps (tl p)) by
        have h := HS.out.so
        rw [spX_end _ _ _ (by rw [tl_len]; omega), List.append_nil] at h
        rw [← h]
        exact SpansR.of_own HS.out.own)
      go_wp2
      go_ret
      exact ⟨_, rfl, HR.out, bt HS.out.below HB.out⟩
end Go.Proofs.Ythledmbdlengiaa
