/-
  The walk of the law PathsSlashes: of any names, slashes and root it answers true.
-/
import Derived.Test.YthledmbdlengiaaSlM
import Derived.Test.YthledmbdlengiaaJoinW
namespace Go.Proofs.Ythledmbdlengiaa
open Go Go.RowKit

theorem tl_slash : tl ⟨#[47]⟩ = [47] := rfl
theorem app_z {a b : ByteArray} {n m : Nat} (ha : a.size ≤ n) (hb : b.size ≤ m) : (a ++ b).size ≤ n + m := by
  rw [← tl_len, tl_app, List.length_append, tl_len, tl_len]
  omega
theorem more0 {ab : Bool} {ns : List (List UInt8)} {a s : ByteArray} (h : PB ab ns (tl a)) (h0 : ns = []) (hn : noSl (tl s)) (hn0 : ¬ tl s = []) : PB ab (ns ++ [tl s]) (tl (a ++ s)) := by
  have := h.more 0 (fun _ => rfl) (fun e => absurd h0 e) hn hn0
  rw [tl_app]
  simpa using this
theorem more1 {ab : Bool} {ns : List (List UInt8)} {b bj s : ByteArray} {j : Nat} (h : PB ab ns (tl b)) (hb : tl bj = tl b ++ List.replicate j 47) (h0 : ns ≠ []) (hj : 0 < j) (hn : noSl (tl s)) (hn0 : ¬ tl s = []) : PB ab (ns ++ [tl s]) (tl (bj ++ s)) := by
  have := h.more j (fun e => absurd e h0) (fun _ => hj) hn hn0
  rw [tl_app, hb]
  exact this
theorem rep_more {b bj : ByteArray} {j : Nat} (hb : tl bj = tl b ++ List.replicate j 47) : tl (bj ++ ⟨#[47]⟩) = tl b ++ List.replicate (j + 1) 47 := by
  rw [tl_app, hb, tl_slash, List.replicate_succ', List.append_assoc]
set_option maxRecDepth 100000 in
set_option maxHeartbeats 8000000 in
theorem slLaw_out (vN vS : Value) (xs : List ByteArray) (ls : List UInt8) (ab : Bool) (w : World) (hN : StrsR w vN xs) (hnl : xs.length ≤ maxLen) (hS : BytesR w vS ls) (hsl : ls.length ≤ maxLen)
    (h : 8 < xs.length ∨ ls.length = 0 ∨ 20 < ls.length) :
    Calls Try.prog 6 #[vN, vS, .bool ab] w fun e w' => e = .returned (.bool true) ∧ Below w.heap.size w w' := by
  have HA := Lib.hid (awake_any w)
  have hnl' : xs.length ≤ 9223372036854775807 := by unfold maxLen at hnl; omega
  have hsl' : ls.length ≤ 9223372036854775807 := by unfold maxLen at hsl; omega
  obtain ⟨A, c, rfl, -, -⟩ := hN
  obtain ⟨A', c', rfl, -⟩ := hS
  by_cases h1 : 8 < xs.length
  · have g1 : (8 : Int) < (xs.length : Int) := by omega
    go_enter Try.func6, Try.ntmps6
    go_wp2_with fail
    refine HA.out.mono ?_
    rintro e w1 ⟨rfl, hb⟩
    have HB1 := Lib.hid hb
    clear hb
    go_wp2
    go_ret
    exact ⟨rfl, HB1.out⟩
  have g1 : ¬ (8 : Int) < (xs.length : Int) := by omega
  by_cases h2 : ls.length = 0
  · have g2 : ((ls.length : Int) == 0) = true := by rw [beq_iff_eq]; omega
    go_enter Try.func6, Try.ntmps6
    go_wp2_with fail
    refine HA.out.mono ?_
    rintro e w1 ⟨rfl, hb⟩
    have HB1 := Lib.hid hb
    clear hb
    go_wp2
    go_ret
    exact ⟨rfl, HB1.out⟩
  · have g2 : ((ls.length : Int) == 0) = false := by rw [beq_eq_false_iff_ne]; omega
    have g3 : (20 : Int) < (ls.length : Int) := by omega
    go_enter Try.func6, Try.ntmps6
    go_wp2_with fail
    refine HA.out.mono ?_
    rintro e w1 ⟨rfl, hb⟩
    have HB1 := Lib.hid hb
    clear hb
    go_wp2
    go_ret
    exact ⟨rfl, HB1.out⟩
theorem startF (xs : List ByteArray) : PB false (firsts xs 0) (tl ⟨#[]⟩) := PB.start false 0 rfl
theorem startT1 (xs : List ByteArray) : PB true (firsts xs 0) (tl ⟨#[47]⟩) := PB.start true 1 rfl
theorem startT2 (xs : List ByteArray) : PB true (firsts xs 0) (tl ⟨#[47, 47]⟩) := PB.start true 2 rfl
set_option maxRecDepth 100000 in
set_option maxHeartbeats 16000000 in
theorem slLaw_in (vN vS : Value) (xs : List ByteArray) (ls : List UInt8) (ab : Bool) (w : World) (hN : StrsR w vN xs) (hz : ∀ s ∈ xs, s.size ≤ maxLen) (hS : BytesR w vS ls)
    (h1 : xs.length ≤ 8) (h2 : 0 < ls.length) (h3 : ls.length ≤ 20) :
    Calls Try.prog 6 #[vN, vS, .bool ab] w fun e w' => e = .returned (.bool true) ∧ Below w.heap.size w w' := by
  have HA := Lib.hid (awake_any w)
  have HN := Lib.hid hN
  have HZ := Lib.hid hz
  obtain ⟨A, c, rfl, -, hcN⟩ := hN
  obtain ⟨A', c', rfl, hcS⟩ := hS
  have HCN := Lib.hid hcN
  have HCS := Lib.hid hcS
  have g1 : ¬ (8 : Int) < (xs.length : Int) := by omega
  have g2 : ((ls.length : Int) == 0) = false := by rw [beq_eq_false_iff_ne]; omega
  have g2' : ¬ (ls.length : Int) = 0 := by omega
  have g3 : ¬ (20 : Int) < (ls.length : Int) := by omega
  clear hcN hcS hz
  have HFL := Lib.hid (firsts_all xs)
  have HFN := Lib.hid (firsts_len xs)
  obtain ⟨x, hx⟩ : ∃ x, x = ab := ⟨ab, rfl⟩
  have HAB := Lib.hid hx
  clear hx
  cases ab
  all_goals
    go_enter Try.func6, Try.ntmps6
    go_wp2_with fail
    refine HA.out.mono ?_
    rintro e w1 ⟨rfl, hb1⟩
    have HB1 := Lib.hid hb1
    clear hb1
    go_wp2
    go_loopg [8, 9, 10] xs.length (fun gh s8 s9 s10 wr => ∃ (k : Nat) (a b : ByteArray), s10 = .int .i64 k ∧ s8 = .string a ∧ s9 = .string b ∧ k ≤ xs.length ∧ gh = xs.length - k ∧ PB x (firsts xs k) (tl a) ∧ PB x (firsts xs k) (tl b) ∧ a.size ≤ 2 + 20 * k ∧ b.size ≤ 2 + 20 * k ∧ w1 = wr)
    case atStart => exact ⟨0, _, _, rfl, rfl, rfl, Nat.zero_le _, rfl, by rw [HAB.out]; first | exact startF xs | exact startT1 xs, by rw [HAB.out]; first | exact startF xs | exact startT2 xs, by decide, by decide, rfl⟩
    case round =>
      obtain ⟨k, a, b, rfl, rfl, rfl, hk, rfl, hpa, hpb, hza, hzb, rfl⟩ := hrel
      have HPA := Lib.hid hpa
      have HPB := Lib.hid hpb
      clear hpa hpb
      by_cases hlt : k < xs.length
      · obtain ⟨s, hs⟩ : ∃ s, xs[k]? = some s := ⟨_, List.getElem?_eq_getElem hlt⟩
        obtain ⟨ad, rfl, c0⟩ := HCN.out k s hs
        have e0 := bc HB1.out c0
        have HNM := Lib.hid (Name_any s w1 (HZ.out s (List.mem_of_getElem? hs)))
        have HFS := Lib.hid (firsts_snoc hs)
        have HF0 := Lib.hid (firsts_nil hk)
        clear c0 hs
        cases hnm : namB s with
        | false =>
          rw [hnm] at HNM
          clear hnm
          go_wp2_with fail
          refine HNM.out.mono ?_
          rintro e w2 ⟨rfl, rfl⟩
          go_wp2
          go_ret
          exact ⟨rfl, HB1.out⟩
        | true =>
          rw [hnm] at HNM
          obtain ⟨hns, hn0, hzs⟩ := nam_plain hnm
          clear hnm
          have HNS := Lib.hid hns
          have HN0 := Lib.hid hn0
          clear hns hn0
          by_cases hk0 : 0 < k
          · have hk0' : (0 : Int) < (k : Int) := by omega
            have HFK := Lib.hid (show firsts xs k ≠ [] from fun e => by have := HF0.out.1 e; omega)
            obtain ⟨ix, hix⟩ : ∃ ix, k % ls.length = ix := ⟨_, rfl⟩
            have hixl : ix < ls.length := by rw [← hix]; exact Nat.mod_lt _ h2
            have e1 : (k : Int) % (ls.length : Int) = (ix : Int) := by rw [← hix, Int.natCast_emod]
            have e1' : (k : Int).tmod (ls.length : Int) = (ix : Int) := by rw [Int.tmod_eq_emod_of_nonneg (by omega)]; exact e1
            obtain ⟨sl, hsl⟩ : ∃ sl, ls[ix]? = some sl := ⟨_, List.getElem?_eq_getElem hixl⟩
            obtain ⟨ad', rfl, d0⟩ := HCS.out ix sl hsl
            have f0 := bc HB1.out d0
            obtain ⟨m, hm⟩ : ∃ m : Nat, co sl % 3 = (m : Int) := ⟨(co sl % 3).toNat, by omega⟩
            have hm3 : m < 3 := by omega
            have hc0 : 0 ≤ co sl := (co_bd sl).1
            have hc1 : co sl ≤ 255 := (co_bd sl).2
            have hmt : (co sl).tmod 3 = (m : Int) := by rw [Int.tmod_eq_emod_of_nonneg hc0]; exact hm
            have hix' := hix
            clear hix hix' hsl d0
            generalize co sl = cs at f0 hm hc0 hc1 hmt
            have za : a.size ≤ 1000 := by omega
            have zb : b.size ≤ 1000 := by omega
            have za1 : (a ++ ⟨#[47]⟩ : ByteArray).size ≤ a.size + 1 := app_z (Nat.le_refl _) (by decide)
            go_wp2_with fail
            refine HNM.out.mono ?_
            rintro e w2 ⟨rfl, rfl⟩
            go_wp2
            go_loopg [9, 11] (m + 1) (fun gi s9 s11 wr => ∃ (j : Nat) (bj : ByteArray), s11 = .int .i64 j ∧ s9 = .string bj ∧ j ≤ m + 1 ∧ gi = m + 1 - j ∧ tl bj = tl b ++ List.replicate j 47 ∧ w1 = wr)
            case atStart => exact ⟨0, b, rfl, rfl, Nat.zero_le _, rfl, by simp, rfl⟩
            case round =>
              obtain ⟨j, bj, rfl, rfl, hj, rfl, hbj, rfl⟩ := hrel
              have hzj : bj.size ≤ b.size + j := by rw [← tl_len, hbj, List.length_append, tl_len, List.length_replicate]; exact Nat.le_refl _
              have hzj' : bj.size ≤ 1003 := by omega
              have HBJ := Lib.hid hbj
              clear hbj
              by_cases hjl : j < m + 1
              · have hjl' : (j : Int) ≤ (m : Int) := by omega
                go_wp2
                go_roundg (m + 1 - (j + 1))
                case measure => omega
                case rel => exact ⟨j + 1, bj ++ ⟨#[47]⟩, by go_num, rfl, by omega, rfl, rep_more HBJ.out, rfl⟩
              · have hjl' : ¬ (j : Int) ≤ (m : Int) := by omega
                have hzs' : s.size ≤ 12 := hzs
                go_wp2
                go_roundg (xs.length - (k + 1))
                case measure => omega
                case rel => exact ⟨k + 1, a ++ ⟨#[47]⟩ ++ s, bj ++ s, by go_num, rfl, rfl, by omega, rfl, by rw [HFS.out]; exact more1 HPA.out (by rw [tl_app, tl_slash]; rfl) HFK.out Nat.one_pos HNS.out HN0.out, by rw [HFS.out]; exact more1 HPB.out HBJ.out HFK.out (by omega) HNS.out HN0.out, Nat.le_trans (app_z za1 hzs) (by omega), Nat.le_trans (app_z hzj hzs) (by omega), rfl⟩
          · have hk0' : ¬ (0 : Int) < (k : Int) := by omega
            have HFK := Lib.hid (show firsts xs k = [] from HF0.out.2 (by omega))
            have za : a.size ≤ 1000 := by omega
            have zb : b.size ≤ 1000 := by omega
            have hzs' : s.size ≤ 12 := hzs
            go_wp2_with fail
            refine HNM.out.mono ?_
            rintro e w2 ⟨rfl, rfl⟩
            go_wp2
            go_roundg (xs.length - (k + 1))
            case measure => omega
            case rel => exact ⟨k + 1, a ++ s, b ++ s, by go_num, rfl, rfl, by omega, rfl, by rw [HFS.out]; exact more0 HPA.out HFK.out HNS.out HN0.out, by rw [HFS.out]; exact more0 HPB.out HFK.out HNS.out HN0.out, Nat.le_trans (app_z hza hzs) (by omega), Nat.le_trans (app_z hzb hzs) (by omega), rfl⟩
      · have hke : k = xs.length := by omega
        have HPA' := Lib.hid (show PB x (firsts xs xs.length) (tl a) by rw [← hke]; exact HPA.out)
        have HPB' := Lib.hid (show PB x (firsts xs xs.length) (tl b) by rw [← hke]; exact HPB.out)
        have HSA := Lib.hid (fun w2 => split_any a w2 (by omega))
        have HSB := Lib.hid (fun w2 => split_any b w2 (by omega))
        have HST := Lib.hid (fun w2 => steps_any b w2 (by omega))
        have HBA := Lib.hid (fun w2 => base_any a w2 (by omega))
        have HBB := Lib.hid (fun w2 => base_any b w2 (by omega))
        rw [HPA'.out.split, HFL.out, HPA'.out.abs, HAB.out] at HSA
        rw [HPB'.out.split, HFL.out, HPB'.out.abs, HAB.out] at HSB
        rw [HPA'.out.base HPB'.out] at HBA
        have HLN := Lib.hid (show (bAs (stp (tl b))).length = xs.length by rw [bAs_len, HPB'.out.len, HFN.out])
        have HLA := Lib.hid (fun (h : 0 < xs.length) => show (bAs (stp (tl b)))[xs.length - 1]? = some b by
          have h5 := HPB'.out.step (fun e => by have := congrArg List.length e; rw [HFN.out, List.length_nil] at this; omega)
          rw [List.getLast?_eq_getElem?, HPB'.out.len, HFN.out] at h5
          rw [bAs_at h5, bA_tl])
        generalize bA (baseP (tl b)) = X at HBA HBB
        generalize bAs (stp (tl b)) = L at HST HLN HLA
        have x1 : (X.toList == X.toList) = true := by simp
        have b1 : (b.toList != b.toList) = false := by simp
        have n1 : ((xs.length : Int) != (xs.length : Int)) = false := by simp
        have hxm : xs.length ≤ 1000000 := by omega
        clear HPA HPB HPA' HPB' hke hza hzb
        by_cases hx0 : 0 < xs.length
        · obtain ⟨m, hm⟩ : ∃ m, xs.length = m + 1 := ⟨xs.length - 1, by omega⟩
          have HLB := Lib.hid (show L[m]? = some b by have := HLA.out hx0; rwa [hm, Nat.add_sub_cancel] at this)
          have hi : ((xs.length : Int) - 1) = (m : Int) := by omega
          have hml : m < xs.length := by omega
          have hx0' : (0 : Int) < (xs.length : Int) := by omega
          clear hm HLA
          go_wp2_with fail
          refine (HSA.out _).mono ?_
          rintro e w2 ⟨v2, rfl, hr2, hb2⟩
          obtain ⟨A2, c2, rfl⟩ := strs_form hr2 rfl
          have HB2 := Lib.hid (bt hb2 HB1.out)
          have HR2 := Lib.hid hr2
          clear hb2 hr2
          go_wp2_with fail
          refine (HSB.out _).mono ?_
          rintro e w3 ⟨v3, rfl, hr3, hb3⟩
          obtain ⟨A3, c3, rfl⟩ := strs_form hr3 rfl
          have HB3 := Lib.hid (bt hb3 HB2.out)
          have HR23 := Lib.hid (HR2.out.below hb3)
          have HR3 := Lib.hid hr3
          clear hb3 hr3
          go_wp2_with fail
          refine (HST.out _).mono ?_
          rintro e w4 ⟨v4, rfl, hr4, hb4⟩
          obtain ⟨A4, c4, rfl⟩ := strs_form hr4 HLN.out
          obtain ⟨ad4, rfl, e4⟩ := strs_get hr4 HLB.out
          have HB4 := Lib.hid (bt hb4 HB3.out)
          have HR24 := Lib.hid (HR23.out.below hb4)
          have HR34 := Lib.hid (HR3.out.below hb4)
          clear hb4 hr4
          go_wp2_with fail
          refine (same_true _ _ xs _ HR24.out (HN.out.below HB4.out) hxm).mono ?_
          rintro e w5 ⟨rfl, hb5⟩
          have HB5 := Lib.hid (bt hb5 HB4.out)
          have HR35 := Lib.hid (HR34.out.below hb5)
          clear hb5
          go_wp2_with fail
          refine (same_true _ _ xs _ HR35.out (HN.out.below HB5.out) hxm).mono ?_
          rintro e w6 ⟨rfl, hb6⟩
          have HB6 := Lib.hid (bt hb6 HB5.out)
          clear hb6
          go_wp2_with fail
          refine (HBA.out _).mono ?_
          rintro e w7 ⟨rfl, hb7⟩
          have HB7 := Lib.hid (bt hb7 HB6.out)
          clear hb7
          go_wp2_with fail
          refine (HBB.out _).mono ?_
          rintro e w8 ⟨rfl, hb8⟩
          have HB8 := Lib.hid (bt hb8 HB7.out)
          clear hb8
          go_wp2
          go_ret
          exact ⟨rfl, HB8.out⟩
        · have hx0' : ¬ (0 : Int) < (xs.length : Int) := by omega
          clear HLA
          go_wp2_with fail
          refine (HSA.out _).mono ?_
          rintro e w2 ⟨v2, rfl, hr2, hb2⟩
          obtain ⟨A2, c2, rfl⟩ := strs_form hr2 rfl
          have HB2 := Lib.hid (bt hb2 HB1.out)
          have HR2 := Lib.hid hr2
          clear hb2 hr2
          go_wp2_with fail
          refine (HSB.out _).mono ?_
          rintro e w3 ⟨v3, rfl, hr3, hb3⟩
          obtain ⟨A3, c3, rfl⟩ := strs_form hr3 rfl
          have HB3 := Lib.hid (bt hb3 HB2.out)
          have HR23 := Lib.hid (HR2.out.below hb3)
          have HR3 := Lib.hid hr3
          clear hb3 hr3
          go_wp2_with fail
          refine (HST.out _).mono ?_
          rintro e w4 ⟨v4, rfl, hr4, hb4⟩
          obtain ⟨A4, c4, rfl⟩ := strs_form hr4 HLN.out
          have HB4 := Lib.hid (bt hb4 HB3.out)
          have HR24 := Lib.hid (HR23.out.below hb4)
          have HR34 := Lib.hid (HR3.out.below hb4)
          clear hb4 hr4
          go_wp2_with fail
          refine (same_true _ _ xs _ HR24.out (HN.out.below HB4.out) hxm).mono ?_
          rintro e w5 ⟨rfl, hb5⟩
          have HB5 := Lib.hid (bt hb5 HB4.out)
          have HR35 := Lib.hid (HR34.out.below hb5)
          clear hb5
          go_wp2_with fail
          refine (same_true _ _ xs _ HR35.out (HN.out.below HB5.out) hxm).mono ?_
          rintro e w6 ⟨rfl, hb6⟩
          have HB6 := Lib.hid (bt hb6 HB5.out)
          clear hb6
          go_wp2_with fail
          refine (HBA.out _).mono ?_
          rintro e w7 ⟨rfl, hb7⟩
          have HB7 := Lib.hid (bt hb7 HB6.out)
          clear hb7
          go_wp2_with fail
          refine (HBB.out _).mono ?_
          rintro e w8 ⟨rfl, hb8⟩
          have HB8 := Lib.hid (bt hb8 HB7.out)
          clear hb8
          go_wp2
          go_ret
          exact ⟨rfl, HB8.out⟩
theorem slWalk (vN vS : Value) (xs : List ByteArray) (ls : List UInt8) (ab : Bool) (w : World) (hN : StrsR w vN xs) (hnl : xs.length ≤ maxLen) (hz : ∀ s ∈ xs, s.size ≤ maxLen) (hS : BytesR w vS ls) (hsl : ls.length ≤ maxLen) :
    Calls Try.prog 6 #[vN, vS, .bool ab] w fun e w' => e = .returned (.bool true) ∧ Below w.heap.size w w' := by
  by_cases h : 8 < xs.length ∨ ls.length = 0 ∨ 20 < ls.length
  · exact slLaw_out vN vS xs ls ab w hN hnl hS hsl h
  · exact slLaw_in vN vS xs ls ab w hN hz hS (by omega) (by omega) (by omega)
end Go.Proofs.Ythledmbdlengiaa
