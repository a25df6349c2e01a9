/-
  BuildRight: what is built is a tree, of as many nodes as were told, and as many entries as were told but the first one; the beginning of what builds one builds one. The condition: what is told is no longer than a machine can hold.
-/
import Derived.Test.YtehaohaphlmndaaBldAw
namespace Go.Proofs.Ytehaohaphlmndaa
open Go Go.RowKit
set_option maxRecDepth 100000

attribute [local go_sem] cell_off4 cell_blk4
set_option maxHeartbeats 8000000 in
theorem bright_big (v : Value) (l : List Rw) (m n : Int) (w : World) (h : RawsR w v l) (hl : l.length ≤ maxLen) (hs : ¬ fewR l) :
    Calls Try.prog 10 #[.int .u8 m, v, .int .u8 n] w fun e w' => e = .returned (.bool true) ∧ Below w.heap.size w w' := by
  have HA := Lib.hid (awake10_any w)
  have HS := Lib.hid (fun W (hb : Below w.heap.size w W) => fewR_any v l W (h.below hb) hl)
  rw [toB_false hs] at HS
  clear h hl hs
  go_enter Try.func10, Try.ntmps10
  go_wp2_with fail
  refine HA.out.mono ?_
  rintro e w1 ⟨rfl, hb1⟩
  have HB1 := Lib.hid hb1
  clear hb1
  go_wp2_with fail
  refine (HS.out _ HB1.out).mono ?_
  rintro e w2 ⟨rfl, hb2⟩
  have HB2 := Lib.hid (bt hb2 HB1.out)
  clear hb2
  go_wp2
  go_ret
  exact ⟨rfl, HB2.out⟩
set_option maxHeartbeats 8000000 in
theorem bright_few (v : Value) (l : List Rw) (m n : Int) (w : World) (hm0 : 0 ≤ m) (hm1 : m ≤ 255) (hn0 : 0 ≤ n) (hn1 : n ≤ 255) (h : RawsR w v l) (hcap : ∀ (A : Option Addr) (n c : Nat), v = .slice A n c → n ≤ c) (hl : l.length ≤ maxLen) (hs : fewR l) :
    Calls Try.prog 10 #[.int .u8 m, v, .int .u8 n] w fun e w' => e = .returned (.bool true) ∧ Below w.heap.size w w' := by
  have HA := Lib.hid (awake10_any w)
  have HS := Lib.hid (fun W (hb : Below w.heap.size w W) => fewR_any v l W (h.below hb) hl)
  rw [toB_true hs] at HS
  have HC := Lib.hid (fun W (hb : Below w.heap.size w W) => build_any m v l W (h.below hb) hs)
  obtain ⟨A, c, rfl⟩ := raws_form h
  have hc0 : l.length ≤ c := hcap _ _ _ rfl
  have HL := Lib.hid h
  have HFW := Lib.hid hs
  have h50 := hs.2
  clear h hl hs hcap
  cases hX : bldA m l with
  | bad k0 e0 =>
    rw [hX] at HC
    clear hX
    go_enter Try.func10, Try.ntmps10
    go_wp2_with fail
    refine HA.out.mono ?_
    rintro e w1 ⟨rfl, hb1⟩
    have HB1 := Lib.hid hb1
    clear hb1
    go_wp2_with fail
    refine (HS.out _ HB1.out).mono ?_
    rintro e w2 ⟨rfl, hb2⟩
    have HB2 := Lib.hid (bt hb2 HB1.out)
    clear hb2
    go_wp2_with fail
    refine (HC.out _ HB2.out).mono ?_
    rintro e w3 ⟨⟨rfl, hne⟩, hb3⟩
    have HB3 := Lib.hid (bt hb3 HB2.out)
    have q0 : (e0 != 0) = true := by simpa using hne
    clear hb3 hne
    go_wp2
    go_ret
    exact ⟨rfl, HB3.out⟩
  | good T =>
    obtain ⟨hT, hU, hE, -⟩ := tre_all hX
    have hR := tre_all_right hT
    have hSum := sum_all hT
    have HCT := Lib.hid (fun W c' (k : Nat) (hk : k + 1 ≤ l.length) (hb : Below w.heap.size w W) => build_any m (.slice A (k + 1) c') (l.take (k + 1)) W ((HL.out.below hb).take (k + 1) hk c') ⟨fun r hr => HFW.out.1 r (List.mem_of_mem_take hr), by have := h50; rw [List.length_take]; omega⟩)
    have HTK := Lib.hid (fun (k : Nat) => show ∃ T', bldA m (l.take (k + 1)) = .good T' ∧ toB (allT T' []) = true from by
      obtain ⟨T', h'⟩ := bldA_take hX k
      exact ⟨T', h', toB_true (tre_all_right (tre_all h').1)⟩)
    rw [hX] at HC
    have hlen : 1 ≤ l.length := by omega
    have HU := Lib.hid hU
    have HR := Lib.hid (toB_true hR)
    have HSum := Lib.hid (show (sumL T 24 : Int) = (l.length : Int) - 1 by rw [hSum]; omega)
    have HCN := Lib.hid (fun (k : Nat) (r : Rw) (hk : l[k]? = some r) => show (l.take (k + 1)).countP (fun r => decide (r.kind ≠ 4)) = (l.take k).countP (fun r => decide (r.kind ≠ 4)) + if r.kind ≠ 4 then 1 else 0 by
      rw [take_snoc' hk, List.countP_append, List.countP_cons, List.countP_nil]
      simp only [decide_eq_true_eq, Nat.zero_add])
    have HCL := Lib.hid (fun (k : Nat) => show (l.take k).countP (fun r => decide (r.kind ≠ 4)) ≤ k by
      have := List.countP_le_length (p := fun r : Rw => decide (r.kind ≠ 4)) (l := l.take k)
      rw [List.length_take] at this
      omega)
    have HSL := Lib.hid (fun (k : Nat) (hk : k ≤ 24) => show sumL T k ≤ l.length by
      have h1 := sum_lnk hT k
      have h2 := lnk_le T k
      omega)
    clear hX hT hU hE hR hSum
    go_enter Try.func10, Try.ntmps10
    go_wp2_with fail
    refine HA.out.mono ?_
    rintro e w1 ⟨rfl, hb1⟩
    have HB1 := Lib.hid hb1
    clear hb1
    go_wp2_with fail
    refine (HS.out _ HB1.out).mono ?_
    rintro e w2 ⟨rfl, hb2⟩
    have HB2 := Lib.hid (bt hb2 HB1.out)
    clear hb2
    go_wp2_with fail
    refine (HC.out _ HB2.out).mono ?_
    rintro e w3 ⟨⟨g, rfl, ht, -⟩, hb3⟩
    have HT3 := Lib.hid ht.ptr
    have HB3 := Lib.hid (bt hb3 HB2.out)
    clear ht hb3 HC HS HA HB1 HB2
    go_wp2
    go_loopg [12, 14] l.length (fun gh s12 s14 wr => ∃ k : Nat, s12 = .int .i64 ((l.take k).countP (fun r => decide (r.kind ≠ 4)) : Int) ∧ s14 = .int .i64 k ∧ k ≤ l.length ∧ gh = l.length - k ∧ w3 = wr)
    case atStart => exact ⟨0, rfl, rfl, Nat.zero_le _, rfl, rfl⟩
    case round =>
      obtain ⟨k, rfl, rfl, hk, rfl, rfl⟩ := hrel
      by_cases hlt : k < l.length
      · have hlt' : (k : Int) < (l.length : Int) := by omega
        obtain ⟨r, hr⟩ : ∃ r, l[k]? = some r := ⟨_, List.getElem?_eq_getElem hlt⟩
        obtain ⟨ad, vd, hA, c0, -, -⟩ := raws_get (HL.out.below HB3.out) hr
        subst hA
        have HN := Lib.hid (HCN.out k r hr)
        have hcl := HCL.out k
        generalize (l.take k).countP (fun r => decide (r.kind ≠ 4)) = N at HN hcl ⊢
        clear hr
        by_cases q : r.kind = 4
        · have e4 : (r.kind != 4) = false := by simpa using q
          have HQ := Lib.hid (show (l.take (k + 1)).countP (fun r => decide (r.kind ≠ 4)) = N by rw [HN.out, if_neg (fun z => z q)]; rfl)
          clear q
          go_wp2
          go_roundg (l.length - (k + 1))
          case measure => omega
          case rel => exact ⟨k + 1, by rw [HQ.out], by go_num, by omega, rfl, rfl⟩
        · have e4 : (r.kind != 4) = true := by simpa using q
          have HQ := Lib.hid (show (l.take (k + 1)).countP (fun r => decide (r.kind ≠ 4)) = N + 1 by rw [HN.out, if_pos q])
          clear q
          go_wp2
          go_roundg (l.length - (k + 1))
          case measure => omega
          case rel => exact ⟨k + 1, by rw [HQ.out]; go_num, by go_num, by omega, rfl, rfl⟩
      · have hlt' : ¬ (k : Int) < (l.length : Int) := by omega
        have hke : l.take k = l := List.take_of_length_le (by omega)
        rw [hke, ← HU.out]
        clear hke HCN HCL hlt hk
        have hul : usedT T ≤ 24 := Nat.le_trans (used_le T) HT3.out.ok.2
        obtain ⟨US, hUS⟩ : ∃ US, usedT T = US := ⟨_, rfl⟩
        have HU2 := Lib.hid hUS
        rw [hUS] at hul ⊢
        clear hUS
        go_wp2
        go_loopg [13, 15] 24 (fun gh s13 s15 wr => ∃ k : Nat, s13 = .int .i64 (sumL T k : Int) ∧ s15 = .int .i64 ((k : Int) + 1) ∧ k ≤ 24 ∧ gh = 24 - k ∧ Below w3.heap.size w3 wr)
        case atStart => exact ⟨0, rfl, rfl, Nat.zero_le _, rfl, Below.refl _ _⟩
        case round =>
          obtain ⟨k, rfl, rfl, hk, rfl, hbr⟩ := hrel
          have HBR := Lib.hid hbr
          clear hbr
          by_cases hlt : k < 24
          · have hlt' : (k : Int) + 1 ≤ 24 := by omega
            have hs1 := HSL.out k (by omega)
            have hs2 := HSL.out (k + 1) (by omega)
            have HSE := Lib.hid (show sumL T (k + 1) = sumL T k + linkT T ((k : Int) + 1) from rfl)
            have HLK := Lib.hid (links_any _ T ((k : Int) + 1) wr (HT3.out.below HBR.out))
            have hs3 := HSE.out
            generalize sumL T k = S1 at HSE hs1 hs3 ⊢
            generalize linkT T ((k : Int) + 1) = LI at HSE HLK hs3
            have hLI : LI ≤ 50 := by omega
            have hS1 : S1 ≤ 50 := by omega
            clear hs3 hs2
            go_wp2_with fail
            refine HLK.out.mono ?_
            rintro e w4 ⟨rfl, hb4⟩
            have HB4 := Lib.hid (bt hb4 HBR.out)
            clear hb4
            go_wp2
            go_roundg (24 - (k + 1))
            case measure => omega
            case rel => exact ⟨k + 1, by rw [HSE.out]; go_num, by go_num, by omega, rfl, HB4.out⟩
          · have hke : k = 24 := by omega
            subst hke
            have hle : ¬ ((24 : Nat) : Int) + 1 ≤ 24 := by decide
            rw [HSum.out]
            obtain ⟨K, hK, hKl⟩ : ∃ K : Nat, n % (l.length : Int) = (K : Int) ∧ K + 1 ≤ l.length := by
              have h1 : (0 : Int) ≤ n % (l.length : Int) := Int.emod_nonneg _ (by omega)
              have h2 : n % (l.length : Int) < (l.length : Int) := Int.emod_lt_of_pos _ (by omega)
              exact ⟨(n % (l.length : Int)).toNat, by omega, by omega⟩
            have hK2 : n.tmod (l.length : Int) = (K : Int) := by rw [Int.tmod_eq_emod_of_nonneg hn0]; exact hK
            have hz0 : ¬ (l.length : Int) = 0 := by omega
            have hz1 : ((l.length : Int) == 0) = false := by simpa using hz0
            have hkw : IntKind.i64.wrap ((K : Int) + 1) = (K : Int) + 1 := by rw [IntKind.wrap_i64] <;> omega
            have hkt : ((K : Int) + 1).toNat = K + 1 := by omega
            have hsl1 : (0 : Int) ≤ (K : Int) + 1 := by omega
            have hsl2 : (K : Int) + 1 ≤ (l.length : Int) := by omega
            have hcc : (K : Int) + 1 ≤ (c : Int) := by omega
            have hc1 : K + 1 ≤ c := by omega
            obtain ⟨T', hT', hR'⟩ := HTK.out K
            have HCC := Lib.hid (fun c' => HCT.out wr c' K hKl (bt HBR.out HB3.out))
            rw [hT'] at HCC
            have HR' := Lib.hid hR'
            clear hT' hR' hK hKl hlt hk HTK HCT
            go_wp2_with fail
            refine (HCC.out _).mono ?_
            rintro e w5 ⟨⟨g5, rfl, ht5, -⟩, hb5⟩
            have HT5 := Lib.hid ht5.ptr
            have HTO := Lib.hid ((HT3.out.below HBR.out).below hb5)
            have HB5 := Lib.hid (bt hb5 (bt HBR.out HB3.out))
            clear ht5 hb5 HCC
            go_wp2_with fail
            refine (tright_any _ (.slice none 0 0) T [] w5 HTO.out (IntsR.nil _) (by decide)).mono ?_
            rintro e w6 ⟨rfl, hb6⟩
            rw [HR.out]
            have HB6 := Lib.hid (bt hb6 HB5.out)
            have HTO6 := Lib.hid (HTO.out.below hb6)
            have HT6 := Lib.hid (HT5.out.below hb6)
            clear hb6
            go_wp2_with fail
            refine (used_any _ T w6 HTO6.out).mono ?_
            rintro e w7 ⟨rfl, hb7⟩
            have HB7 := Lib.hid (bt hb7 HB6.out)
            have HT7 := Lib.hid (HT6.out.below hb7)
            rw [HU2.out]
            clear hb7
            have qU : ((US : Int) == (US : Int)) = true := by simp
            have qL : ((l.length : Int) - 1 == (l.length : Int) - 1) = true := by simp
            go_wp2_with fail
            refine (tright_any _ (.slice none 0 0) T' [] w7 HT7.out (IntsR.nil _) (by decide)).mono ?_
            rintro e w8 ⟨rfl, hb8⟩
            rw [HR'.out]
            have HB8 := Lib.hid (bt hb8 HB7.out)
            clear hb8
            go_wp2
            go_ret
            exact ⟨rfl, HB8.out⟩
theorem bright_any (v : Value) (l : List Rw) (m n : Int) (w : World) (hm0 : 0 ≤ m) (hm1 : m ≤ 255) (hn0 : 0 ≤ n) (hn1 : n ≤ 255) (h : RawsR w v l) (hcap : ∀ (A : Option Addr) (n c : Nat), v = .slice A n c → n ≤ c) (hl : l.length ≤ maxLen) :
    Calls Try.prog 10 #[.int .u8 m, v, .int .u8 n] w fun e w' => e = .returned (.bool true) ∧ Below w.heap.size w w' := by
  by_cases q : fewR l
  · exact bright_few v l m n w hm0 hm1 hn0 hn1 h hcap hl q
  · exact bright_big v l m n w h hl q
end Go.Proofs.Ytehaohaphlmndaa
