/-
  TableLeast: a new node has the least number that is free; as many nodes are used as were added and not dropped; there is room for no more than are told. The condition: the list of acts is no longer than a machine can hold.
-/
import Derived.Test.YtmapkmjhpebcbaaLeastM
namespace Go.Proofs.Ytmapkmjhpebcbaa
open Go Go.RowKit

attribute [local go_sem] cell_off4 cell_blk4
set_option maxRecDepth 100000 in
set_option maxHeartbeats 8000000 in
theorem least_big (r : Int) (v : Value) (l : List Ac) (w : World) (h : ActsR w v l) (hl : l.length ≤ maxLen) (hs : ¬ smallP l) :
    Calls Try.prog 6 #[.int .u8 r, v] w fun e w' => e = .returned (.bool true) ∧ Below w.heap.size w w' := by
  have HA := Lib.hid (awake_any w)
  have HS := Lib.hid (fun W (hb : Below w.heap.size w W) => small_any v l W (h.below hb) hl)
  rw [toB_false hs] at HS
  clear h hl hs
  go_enter Try.func6, Try.ntmps6
  go_wp2_with fail
  refine HA.out.mono ?_
  rintro e w1 ⟨rfl, hb1⟩
  have HB1 := Lib.hid hb1
  clear hb1
  go_wp2_with fail
  refine (HS.out _ HB1.out).mono ?_
  rintro e w2 ⟨rfl, hb2⟩
  have HB2 := Lib.hid (bt hb2 HB1.out)
  clear hb2
  go_wp2
  go_ret
  exact ⟨rfl, HB2.out⟩
set_option maxRecDepth 100000 in
set_option maxHeartbeats 16000000 in
theorem least_few (r : Int) (v : Value) (l : List Ac) (w : World) (hr0 : 0 ≤ r) (hr1 : r ≤ 255) (h : ActsR w v l) (hl : l.length ≤ maxLen) (hs : smallP l) :
    Calls Try.prog 6 #[.int .u8 r, v] w fun e w' => e = .returned (.bool true) ∧ Below w.heap.size w w' := by
  have HA := Lib.hid (awake_any w)
  have HSM := Lib.hid (fun W (hb : Below w.heap.size w W) => small_any v l W (h.below hb) hl)
  rw [toB_true hs] at HSM
  have HAC := Lib.hid h
  have HSP := Lib.hid hs
  have hl40 := hs.2
  obtain ⟨A0, c0, rfl⟩ := acts_form h
  have HRL := Lib.hid (newL_bd r)
  have hRL := newL_bd r
  obtain ⟨M, hM⟩ : ∃ M : Int, (if 1 > r then 1 else r) = M := ⟨_, rfl⟩
  have hmx : ∀ (ts : Array TypeId) (t : TypeId) (W : World), (Builtin.max_ ts t #[.int .i64 r, .int .i64 1]).run Try.prog W = .ok (.int .i64 M) W := fun ts t W => by rw [run_max_int2, hM]
  have hmn : ∀ (ts : Array TypeId) (t : TypeId) (W : World), (Builtin.min_ ts t #[.int .i64 M, .int .i64 24]).run Try.prog W = .ok (.int .i64 (newL r : Int)) W := fun ts t W => by
    rw [run_min_int2]
    congr 2
    rw [← hM]
    unfold newL
    repeat' split
    all_goals omega
  obtain ⟨R, hR⟩ : ∃ R, newL r = R := ⟨_, rfl⟩
  rw [hR] at HRL hRL hmn
  have HR := Lib.hid hR
  clear hM hR
  clear h hl hs
  go_enter Try.func6, Try.ntmps6
  go_wp2_with fail
  refine HA.out.mono ?_
  rintro e w1 ⟨rfl, hb1⟩
  have HB1 := Lib.hid hb1
  clear hb1
  go_wp2_with fail
  refine (HSM.out _ HB1.out).mono ?_
  rintro e w2 ⟨rfl, hb2⟩
  have HB2 := Lib.hid (bt hb2 HB1.out)
  clear hb2
  go_wp2_with fail
  refine (new_any r w2).mono ?_
  rintro e w3 ⟨rfl, ht3, hb3, hz3⟩
  obtain ⟨g, hgz⟩ : ∃ g, w2.heap.size = g := ⟨_, rfl⟩
  have ht3 := ht3 (fun _ => True)
  rw [HR.out, hgz] at ht3
  have HU3 := Lib.hid (show UsedR (w3.alloc (.cells (Array.replicate 26 (.bool false)) 4)) w3.heap.size (List.replicate R Nd.zero) from UsedR.new w3 R)
  have HLS3 := Lib.hid (show LS w (w3.alloc (.cells (Array.replicate 26 (.bool false)) 4)) g w3.heap.size R (List.replicate R Nd.zero) from by
    have h1 := HB2.out.size
    refine ⟨ht3.below (ba _ _), HU3.out, by omega, bt (ba _ _) (bt hb3 HB2.out), by omega, by omega, List.length_replicate⟩)
  have hmk := make_bools w3
  rw [hgz]
  obtain ⟨u, hu⟩ : ∃ u, w3.heap.size = u := ⟨_, rfl⟩
  rw [hu] at HLS3 hmk
  have HUN := Lib.hid (used_new R)
  clear ht3 hb3 hz3 hgz hu HU3
  go_wp2
  generalize w3.alloc (.cells (Array.replicate 26 (.bool false)) 4) = W3 at HLS3 ⊢
  clear hmk hmx hmn
  go_loopg [10, 11] l.length (fun gh s10 s11 wr => ∃ (k : Nat) (T : List Nd), s11 = .int .i64 k ∧ s10 = .int .i64 (usedT T : Int) ∧ k ≤ l.length ∧ gh = l.length - k ∧ LS w wr g u R T)
  case atStart => exact ⟨0, List.replicate R Nd.zero, rfl, by rw [HUN.out]; rfl, Nat.zero_le _, rfl, HLS3.out⟩
  case round =>
    obtain ⟨k, T, rfl, rfl, hk, rfl, hls⟩ := hrel
    have HLS := Lib.hid hls
    clear hls
    by_cases hlt : k < l.length
    · have hlt' : (k : Int) < (l.length : Int) := by omega
      obtain ⟨a, hka⟩ : ∃ a, l[k]? = some a := ⟨_, List.getElem?_eq_getElem hlt⟩
      obtain ⟨ad, vd, ve, hA, d0, d1, ⟨c0, c1, c2, c3, c4, c5, c6⟩, hd, he, -⟩ := acts_get (HAC.out.below HLS.out.below) hka
      subst hA
      have HF := Lib.hid (HSP.out.1 a (List.mem_of_getElem? hka)).few
      have HD := Lib.hid hd
      have HE := Lib.hid he
      obtain ⟨A1, k1, rfl⟩ := bytes_form hd rfl
      obtain ⟨A2, k2, rfl⟩ := ents_form he rfl
      have hbd := co_bd a.d
      have hUR : usedT T ≤ R := by have := used_le T; rw [HLS.out.len] at this; exact this
      have HFN := Lib.hid (free_none (t := T) (d := 0))
      have HLEN := Lib.hid HLS.out.len
      have HKA := Lib.hid hka
      clear hka hd he
      by_cases q1 : co a.d = 1
      · have e1 : (co a.d == 1) = true := by simpa using q1
        have e2 : ¬ (1 : Int) < co a.d := by omega
        have HDD := Lib.hid d0
        by_cases hn : rightP a.n
        · by_cases hF : freeT T 0 = 0
          · have HC := Lib.hid (ls_full HLS.out a.n _ _ HD.out HE.out HF.out hn hF)
            have hq : ((usedT T : Int) != (R : Int)) = false := by
              have := HFN.out.1 hF
              rw [HLEN.out] at this
              rw [this]
              simp
            unfold nodeV at HC
            clear hn hF q1
            go_wp2_with fail
            refine HC.out.mono ?_
            rintro e w5 ⟨rfl, hls5⟩
            have HLS5 := Lib.hid hls5
            clear hls5 d0 d1 c0 c1 c2 c3 c4 c5 c6
            go_wp2
            go_roundg (l.length - (k + 1))
            case measure => omega
            case rel => exact ⟨k + 1, T, by go_num, rfl, by omega, rfl, HLS5.out⟩
          · obtain ⟨F, hFF⟩ : ∃ F, freeT T 0 = F := ⟨_, rfl⟩
            have h0 : F ≠ 0 := fun e => hF (hFF.trans e)
            have HC := Lib.hid (ls_add HLS.out a.n _ _ HD.out HE.out HF.out hn F hFF h0)
            have hfi := free_is hF
            rw [hFF, HLEN.out] at hfi
            have HFI := Lib.hid hfi
            have HADD := Lib.hid (fun w' (ht : TabR w' g (setT T (F : Int) a.n) (fun _ => True)) (hg : wr.grownBy w' (some g)) => HLS.out.added hFF h0 hn ht hg)
            have f1 : ¬ (F : Int) < 1 := by omega
            have f2 : ¬ (R : Int) < (F : Int) := by omega
            have f3 : (F : Int) < 26 := by omega
            have f4 : F < 26 := by omega
            unfold nodeV at HC
            clear hn hF hFF h0 q1 hfi
            go_wp2_with fail
            refine HC.out.mono ?_
            rintro e w5 ⟨rfl, ht5, hg5⟩
            have HU5 := Lib.hid (HLS.out.used.kept hg5 HLS.out.ne)
            have HL5 := Lib.hid (HADD.out w5 ht5 hg5)
            have HBL5 := Lib.hid (below_grown HLS.out.below hg5 HLS.out.hg)
            have uF : w5.cell? ⟨u, F, none⟩ = some (.bool false) := by rw [HU5.out.cell f4, HFI.out.2.1]
            clear ht5 hg5 d0 d1 c0 c1 c2 c3 c4 c5 c6
            go_wp2
            go_loopg [14] F (fun gh s14 wr => ∃ j : Nat, s14 = .int .i64 ((j : Int) + 1) ∧ j + 1 ≤ F ∧ gh = F - j ∧ w5 = wr)
            case atStart => exact ⟨0, rfl, by omega, by omega, rfl⟩
            case round =>
              obtain ⟨j, rfl, hj, rfl, rfl⟩ := hrel
              by_cases hjl : j + 1 < F
              · have j1 : (j : Int) + 1 < (F : Int) := by omega
                have j2 : (j : Int) + 1 < 26 := by omega
                have j3 : ((j : Int) + 1).toNat = j + 1 := by omega
                have j4 : j + 1 < 26 := by omega
                have uj : w5.cell? ⟨u, j + 1, none⟩ = some (.bool true) := by
                  rw [HU5.out.cell j4, HFI.out.2.2 ((j + 1 : Nat) : Int) (by omega) (by omega)]
                go_wp2
                go_roundg (F - (j + 1))
                case measure => omega
                case rel => exact ⟨j + 1, by go_num, by omega, rfl, rfl⟩
              · have j1 : ¬ (j : Int) + 1 < (F : Int) := by omega
                have zF : w5.frozen? ⟨u, F, none⟩ = false := HU5.out.frozen F
                have HL6 := Lib.hid HL5.out.1
                have HUU := Lib.hid (show (usedT (setT T (F : Int) a.n) : Int) = (usedT T : Int) + 1 by rw [HL5.out.2]; rfl)
                obtain ⟨ad6, vd6, ve6, hA6, d0, -, -, -, -, -⟩ := acts_get (HAC.out.below HL6.out.below) (show l[k]? = some a from HKA.out)
                injection hA6 with hA6
                subst hA6
                have qq : (((usedT T : Int) + 1 : Int) != ((usedT T : Int) + 1 : Int)) = false := by simp
                go_wp2_with fail
                refine (ls_used HL6.out ((usedT T : Int) + 1 : Int) HUU.out).mono ?_
                rintro e w9 ⟨rfl, hls9⟩
                have HLS9 := Lib.hid hls9
                clear hls9
                go_wp2
                go_roundg (l.length - (k + 1))
                case measure => omega
                case rel => exact ⟨k + 1, setT T (F : Int) a.n, by go_num, by rw [HUU.out], by omega, rfl, HLS9.out⟩
        · have HC := Lib.hid (ls_wrong HLS.out a.n _ _ HD.out HE.out HF.out hn)
          unfold nodeV at HC
          clear hn q1
          go_wp2_with fail
          refine HC.out.mono ?_
          rintro e w5 ⟨rfl, hls5⟩
          have HLS5 := Lib.hid hls5
          clear hls5 d0 d1 c0 c1 c2 c3 c4 c5 c6
          go_wp2
          go_roundg (l.length - (k + 1))
          case measure => omega
          case rel => exact ⟨k + 1, T, by go_num, rfl, by omega, rfl, HLS5.out⟩
      · have e1 : (co a.d == 1) = false := by simpa using q1
        by_cases q2 : co a.d = 0
        · have e2 : ¬ (1 : Int) < co a.d := by omega
          have HUU := Lib.hid (show (usedT T : Int) = (usedT T : Int) from rfl)
          clear q1 q2
          have qq : (((usedT T : Int) : Int) != ((usedT T : Int) : Int)) = false := by simp
          go_wp2_with fail
          refine (ls_used HLS.out ((usedT T : Int) : Int) rfl).mono ?_
          rintro e w9 ⟨rfl, hls9⟩
          have HLS9 := Lib.hid hls9
          clear hls9
          go_wp2
          go_roundg (l.length - (k + 1))
          case measure => omega
          case rel => exact ⟨k + 1, T, by go_num, rfl, by omega, rfl, HLS9.out⟩
        · have e2 : (1 : Int) < co a.d := by omega
          clear q1 q2
          by_cases r1 : 1 ≤ a.i
          · have s1 : decide (1 ≤ a.i) = true := decide_eq_true r1
            by_cases r2 : a.i ≤ 24
            · have s2 : decide (a.i ≤ 24) = true := decide_eq_true r2
              have hmn2 := fun ts t W => run_min24 r2 ts t W
              have hmx2 := fun ts t W => run_max1 r1 ts t W
              obtain ⟨m, hm⟩ : ∃ m : Nat, a.i = (m : Int) := ⟨a.i.toNat, by omega⟩
              have HM := Lib.hid hm
              rw [hm] at d1 r1 r2 s1 s2 hmn2 hmx2
              have m1 : (m : Int) < 26 := by omega
              have m2 : m < 26 := by omega
              have um := HLS.out.used.cell m2
              clear hm
              cases hti : tis T (m : Int) with
              | true =>
                rw [hti] at um
                have HC := Lib.hid (ls_drop_yes HLS.out (m : Int) hti)
                have HDR := Lib.hid (fun w' (ht : TabR w' g (setT T (m : Int) Nd.zero) (fun _ => True)) (hg : wr.grownBy w' (some g)) => HLS.out.dropped hti ht hg)
                clear hti c0 c1 c2 c3 c4 c5 c6
                go_wp2_with fail
                refine HC.out.mono ?_
                rintro e w5 ⟨rfl, ht5, hg5⟩
                have HU5 := Lib.hid (HLS.out.used.kept hg5 HLS.out.ne)
                have HL5 := Lib.hid (HDR.out w5 ht5 hg5)
                have HBL5 := Lib.hid (below_grown HLS.out.below hg5 HLS.out.hg)
                have uF := HU5.out.cell m2
                have zF : w5.frozen? ⟨u, m, none⟩ = false := HU5.out.frozen m
                obtain ⟨ad6, vd6, ve6, hA6, d0', d1', -, -, -, -⟩ := acts_get (HAC.out.below HBL5.out) HKA.out
                injection hA6 with hA6
                subst hA6
                rw [HM.out] at d1'
                have HUU := Lib.hid (show (usedT (setT T (m : Int) Nd.zero) : Int) = (usedT T : Int) - 1 by have := HL5.out.2; omega)
                have HL6 := Lib.hid HL5.out.1
                have hU1 : 1 ≤ usedT T := by have := HL5.out.2; omega
                clear ht5 hg5 d0 d1 um hmn2 hmx2
                have qq : (((usedT T : Int) - 1 : Int) != ((usedT T : Int) - 1 : Int)) = false := by simp
                go_wp2_with fail
                refine (ls_used HL6.out ((usedT T : Int) - 1 : Int) HUU.out).mono ?_
                rintro e w9 ⟨rfl, hls9⟩
                have HLS9 := Lib.hid hls9
                clear hls9
                go_wp2
                go_roundg (l.length - (k + 1))
                case measure => omega
                case rel => exact ⟨k + 1, setT T (m : Int) Nd.zero, by go_num, by rw [HUU.out], by omega, rfl, HLS9.out⟩
              | false =>
                rw [hti] at um
                have HC := Lib.hid (ls_drop_no HLS.out (m : Int) hti)
                clear hti c0 c1 c2 c3 c4 c5 c6
                go_wp2_with fail
                refine HC.out.mono ?_
                rintro e w5 ⟨rfl, hls5⟩
                have HLS5 := Lib.hid hls5
                clear hls5 d0 d1 um hmn2 hmx2
                have qq : (((usedT T : Int) : Int) != ((usedT T : Int) : Int)) = false := by simp
                go_wp2_with fail
                refine (ls_used HLS5.out ((usedT T : Int) : Int) rfl).mono ?_
                rintro e w9 ⟨rfl, hls9⟩
                have HLS9 := Lib.hid hls9
                clear hls9
                go_wp2
                go_roundg (l.length - (k + 1))
                case measure => omega
                case rel => exact ⟨k + 1, T, by go_num, rfl, by omega, rfl, HLS9.out⟩
            · have s2 : decide (a.i ≤ 24) = false := decide_eq_false r2
              have hti : tis T a.i = false := by
                cases q : tis T a.i with
                | false => rfl
                | true =>
                  have := tis_in q
                  have := HLEN.out
                  omega
              have HC := Lib.hid (ls_drop_no HLS.out a.i hti)
              clear hti c0 c1 c2 c3 c4 c5 c6
              go_wp2_with fail
              refine HC.out.mono ?_
              rintro e w5 ⟨rfl, hls5⟩
              have HLS5 := Lib.hid hls5
              clear hls5 d0 d1
              have qq : (((usedT T : Int) : Int) != ((usedT T : Int) : Int)) = false := by simp
              go_wp2_with fail
              refine (ls_used HLS5.out ((usedT T : Int) : Int) rfl).mono ?_
              rintro e w9 ⟨rfl, hls9⟩
              have HLS9 := Lib.hid hls9
              clear hls9
              go_wp2
              go_roundg (l.length - (k + 1))
              case measure => omega
              case rel => exact ⟨k + 1, T, by go_num, rfl, by omega, rfl, HLS9.out⟩
          · have s1 : decide (1 ≤ a.i) = false := decide_eq_false r1
            have hti : tis T a.i = false := by
              cases q : tis T a.i with
              | false => rfl
              | true =>
                have := tis_in q
                omega
            have HC := Lib.hid (ls_drop_no HLS.out a.i hti)
            clear hti c0 c1 c2 c3 c4 c5 c6
            go_wp2_with fail
            refine HC.out.mono ?_
            rintro e w5 ⟨rfl, hls5⟩
            have HLS5 := Lib.hid hls5
            clear hls5 d0 d1
            have qq : (((usedT T : Int) : Int) != ((usedT T : Int) : Int)) = false := by simp
            go_wp2_with fail
            refine (ls_used HLS5.out ((usedT T : Int) : Int) rfl).mono ?_
            rintro e w9 ⟨rfl, hls9⟩
            have HLS9 := Lib.hid hls9
            clear hls9
            go_wp2
            go_roundg (l.length - (k + 1))
            case measure => omega
            case rel => exact ⟨k + 1, T, by go_num, rfl, by omega, rfl, HLS9.out⟩
    · have hlt' : ¬ (k : Int) < (l.length : Int) := by omega
      go_wp2
      go_ret
      exact ⟨rfl, HLS.out.below⟩
theorem least_any (r : Int) (v : Value) (l : List Ac) (w : World) (hr0 : 0 ≤ r) (hr1 : r ≤ 255) (h : ActsR w v l) (hl : l.length ≤ maxLen) :
    Calls Try.prog 6 #[.int .u8 r, v] w fun e w' => e = .returned (.bool true) ∧ Below w.heap.size w w' := by
  by_cases hs : smallP l
  · exact least_few r v l w hr0 hr1 h hl hs
  · exact least_big r v l w h hl hs
end Go.Proofs.Ytmapkmjhpebcbaa
