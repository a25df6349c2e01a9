/-
  What the reference's Steps answers of any path, and Same of lists that are the same. The conditions: a path has a million bytes at most, a list a million texts.
-/
import Derived.Test.YthledmbdlengiaaRef3
namespace Go.Proofs.Ythledmbdlengiaa
open Go Go.RowKit

/-- Beginnings so far, k bytes having been looked at. -/
structure TS (W wr : World) (p : ByteArray) (k : Nat) (v : Value) (out : List ByteArray) : Prop where
  below : Below W.heap.size W wr
  own : wr.ownsRow W.heap.size 9 1 v out.length (sCells out)
  so : out ++ bAs (stF ((tl p).take k) ((tl p).drop k)) = bAs (stp (tl p))
theorem TS.len {W wr : World} {p : ByteArray} {k : Nat} {v : Value} {out : List ByteArray} (h : TS W wr p k v out) : out.length ≤ p.size + 1 := by
  have h1 := congrArg List.length h.so
  have h2 := sps_len (tl p)
  rw [len_sps', tl_len] at h2
  rw [List.length_append, bAs_len (stp (tl p))] at h1
  omega
theorem stF_yes {p : ByteArray} {k : Nat} (h : k < p.size) (h1 : ¬ p[k] = 47) (h2 : (tl p).drop (k + 1) = [] ∨ ((tl p).drop (k + 1)).head? = some 47) {out : List ByteArray} (hso : out ++ bAs (stF ((tl p).take k) ((tl p).drop k)) = bAs (stp (tl p))) :
    (out ++ [p.extract 0 (k + 1)]) ++ bAs (stF ((tl p).take (k + 1)) ((tl p).drop (k + 1))) = bAs (stp (tl p)) := by
  rw [drop_at h, stF, if_pos ⟨h1, h2⟩, ← take_snoc' (tl_at h)] at hso
  rw [← hso, List.append_assoc, pre_bA]
  rfl
theorem stF_no {p : ByteArray} {k : Nat} (h : k < p.size) (h1 : ¬ (¬ p[k] = 47 ∧ ((tl p).drop (k + 1) = [] ∨ ((tl p).drop (k + 1)).head? = some 47))) {out : List ByteArray} (hso : out ++ bAs (stF ((tl p).take k) ((tl p).drop k)) = bAs (stp (tl p))) :
    out ++ bAs (stF ((tl p).take (k + 1)) ((tl p).drop (k + 1))) = bAs (stp (tl p)) := by
  rw [drop_at h, stF, if_neg h1, ← take_snoc' (tl_at h)] at hso
  exact hso
set_option maxRecDepth 100000 in
set_option maxHeartbeats 8000000 in
theorem ref_steps (p : ByteArray) (w : World) (hp : p.size ≤ 1000000) :
    Calls Try.prog 17 #[.string p] w fun e w' => ∃ v, e = .returned v ∧ StrsR w' v (bAs (stp (tl p))) ∧ Below w.heap.size w w' := by
  go_enter Try.func17, Try.ntmps17
  go_wp2
  go_loopg [3, 4] p.size (fun g s3 s4 wr => ∃ (k : Nat) (out : List ByteArray), s4 = .int .i64 ((k : Int) + 1) ∧ k ≤ p.size ∧ g = p.size - k ∧ TS w wr p k s3 out)
  case atStart => exact ⟨0, [], rfl, Nat.zero_le _, rfl, Below.refl _ _, own_nil_str _, rfl⟩
  case round =>
    obtain ⟨k, out, rfl, hk, rfl, hS⟩ := hrel
    obtain ⟨vl, rfl⟩ : ∃ vl, vl = u3 := ⟨_, rfl⟩
    have hln := hS.len
    have hB0 := hS.below.size
    have HS := Lib.hid hS
    clear hS
    by_cases hlt : k < p.size
    · have hle : ((k : Int) + 1) ≤ (p.size : Int) := by omega
      have hi : ((k : Int) + 1 - 1) = (k : Int) := by omega
      have YES := Lib.hid (fun h1 h2 => stF_yes hlt h1 h2 HS.out.so)
      have NO := Lib.hid (fun h1 => stF_no hlt h1 HS.out.so)
      obtain ⟨b, hb⟩ : ∃ b, p[k] = b := ⟨_, rfl⟩
      rw [hb] at YES NO
      by_cases hl : b = 47
      · subst hl
        have HSO := Lib.hid (NO.out (fun e => e.1 rfl))
        clear YES NO
        go_wp2
        go_roundg (p.size - (k + 1))
        case measure => omega
        case rel => exact ⟨k + 1, out, by go_num, by omega, rfl, HS.out.below, HS.out.own, HSO.out⟩
      · have hqb : ((b.toNat : Int) == 47) = false := co_ne (a := b) (b := 47) hl
        have hqn : ((b.toNat : Int) != 47) = true := by rw [bne, hqb]; rfl
        have hqi : ¬ (b.toNat : Int) = 47 := by rw [beq_eq_false_iff_ne] at hqb; exact hqb
        by_cases hend : k + 1 = p.size
        · have HSO := Lib.hid (YES.out hl (.inl (List.drop_eq_nil_of_le (by rw [tl_len]; omega))))
          have heq : ((k : Int) + 1 == (p.size : Int)) = true := by rw [beq_iff_eq]; omega
          clear YES NO hl hend
          go_wp2_with (at_builtin; refine wpList_append_one rfl (.tmp 28) (.tmp 32) _ rfl w.heap.size 9 _ 1 16 Try.underlying23 info_str rfl (by decide) vl out.length (sCells out) rfl wr [.string (p.extract 0 (k + 1))] rfl (str_one _) HS.out.own rfl (by omega) (by omega) hB0 ?_; intro v5 w5 ho hg; obtain ⟨A5, c5, hv5, ho5, hb5⟩ := app_one HS.out.below hB0 HS.out.own ho hg; subst hv5; have HO5 := Lib.hid ho5; have HB5 := Lib.hid hb5; clear ho hg ho5 hb5)
          go_roundg (p.size - (k + 1))
          case measure => omega
          case rel => exact ⟨k + 1, out ++ [p.extract 0 (k + 1)], by go_num, by omega, rfl, HB5.out, HO5.out, HSO.out⟩
        · have hlt2 : k + 1 < p.size := by omega
          have heq : ((k : Int) + 1 == (p.size : Int)) = false := by rw [beq_eq_false_iff_ne]; omega
          have hd2 := drop_at hlt2
          obtain ⟨c, hc⟩ : ∃ c, p[k + 1] = c := ⟨_, rfl⟩
          rw [hc] at hd2
          by_cases hcl : c = 47
          · subst hcl
            have HSO := Lib.hid (YES.out hl (.inr (by rw [hd2]; rfl)))
            clear YES NO hl hend hd2
            go_wp2_with (at_builtin; refine wpList_append_one rfl (.tmp 28) (.tmp 32) _ rfl w.heap.size 9 _ 1 16 Try.underlying23 info_str rfl (by decide) vl out.length (sCells out) rfl wr [.string (p.extract 0 (k + 1))] rfl (str_one _) HS.out.own rfl (by omega) (by omega) hB0 ?_; intro v5 w5 ho hg; obtain ⟨A5, c5, hv5, ho5, hb5⟩ := app_one HS.out.below hB0 HS.out.own ho hg; subst hv5; have HO5 := Lib.hid ho5; have HB5 := Lib.hid hb5; clear ho hg ho5 hb5)
            go_roundg (p.size - (k + 1))
            case measure => omega
            case rel => exact ⟨k + 1, out ++ [p.extract 0 (k + 1)], by go_num, by omega, rfl, HB5.out, HO5.out, HSO.out⟩
          · have hqc : ((c.toNat : Int) == 47) = false := co_ne (a := c) (b := 47) hcl
            have HSO := Lib.hid (NO.out (by
              rintro ⟨_, h | h⟩
              · rw [hd2] at h; cases h
              · rw [hd2] at h; injection h with h; exact hcl h))
            clear YES NO hl hend hd2 hcl
            go_wp2
            go_roundg (p.size - (k + 1))
            case measure => omega
            case rel => exact ⟨k + 1, out, by go_num, by omega, rfl, HS.out.below, HS.out.own, HSO.out⟩
    · have hle : ¬ ((k : Int) + 1) ≤ (p.size : Int) := by omega
      have HR := Lib.hid (show StrsR wr vl (bAs (stp (tl p))) by
        have h := HS.out.so
        rw [List.drop_eq_nil_of_le (by rw [tl_len]; omega), show ∀ x, bAs (stF x []) = [] from fun _ => rfl, List.append_nil] at h
        rw [← h]
        exact StrsR.of_own HS.out.own)
      go_wp2
      go_ret
      exact ⟨_, rfl, HR.out, HS.out.below⟩
set_option maxRecDepth 100000 in
set_option maxHeartbeats 8000000 in
theorem same_true (v v' : Value) (l : List ByteArray) (w : World) (hR : StrsR w v l) (hR' : StrsR w v' l) (hm : l.length ≤ 1000000) :
    Calls Try.prog 11 #[v, v'] w fun e w' => e = .returned (.bool true) ∧ Below w.heap.size w w' := by
  obtain ⟨B, d, rfl, -, hd⟩ := hR
  obtain ⟨B', d', rfl, -, hd'⟩ := hR'
  have HD := Lib.hid hd
  have HD' := Lib.hid hd'
  have n2 : ((l.length : Int) != (l.length : Int)) = false := by simp
  clear hd hd'
  go_enter Try.func11, Try.ntmps11
  go_wp2
  go_loopg [5] l.length (fun gh s5 wr => ∃ m : Nat, s5 = .int .i64 m ∧ m ≤ l.length ∧ gh = l.length - m ∧ ∃ n, wr = w.drewN n)
  case atStart => exact ⟨0, rfl, Nat.zero_le _, rfl, 0, rfl⟩
  case round =>
    obtain ⟨m, rfl, hk, rfl, n1, rfl⟩ := hrel
    by_cases hlt : m < l.length
    · obtain ⟨s, hs⟩ : ∃ s, l[m]? = some s := ⟨_, List.getElem?_eq_getElem hlt⟩
      obtain ⟨ad, rfl, c0⟩ := HD.out m s hs
      obtain ⟨ad', rfl, c0'⟩ := HD'.out m s hs
      have m2 : (s.toList != s.toList) = false := by simp
      clear hs
      go_wp2
      go_quiet (fail)
      go_wp2
      go_roundg (l.length - (m + 1))
      case measure => omega
      case rel => exact ⟨m + 1, by go_num, by omega, rfl, _, rfl⟩
    · go_wp2
      go_ret
      exact ⟨rfl, ⟨rfl, rfl, rfl, Nat.le_refl _, fun _ _ => rfl⟩⟩
end Go.Proofs.Ythledmbdlengiaa
