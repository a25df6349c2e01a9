/-
  The reference's Same and Right of nodes. The conditions are said at each.
-/
import Derived.Test.YtilepnepcamnaaaMR
namespace Go.Proofs.Ytilepnepcamnaaa
open Go Go.RowKit
set_option maxRecDepth 100000

theorem bA_neq {a b : Nm} : ((bA a).toList != (bA b).toList) = !decide (a = b) := by
  rw [bA_list, bA_list]
  by_cases h : a = b <;> simp [h]
theorem bA_eqq {a b : Nm} : ((bA a).toList == (bA b).toList) = decide (a = b) := by
  rw [bA_list, bA_list]
  by_cases h : a = b <;> simp [h]
theorem int_neq {a b : Int} : (a != b) = !decide (a = b) := by
  by_cases h : a = b <;> simp [h]
set_option maxRecDepth 100000 in
set_option maxHeartbeats 16000000 in
theorem rsame_any (n m : Nd) (vn vk vn' vk' : Value) (w : World) (hN : StrsR w vn (nmA (nmE n.ents))) (hK : IntsR w vk (idE n.ents)) (hN' : StrsR w vn' (nmA (nmE m.ents))) (hK' : IntsR w vk' (idE m.ents)) (hn : n.ents.length ≤ 1000) (_hm : m.ents.length ≤ 1000) :
    Calls Try.prog 17 #[.agg (rfC n vn vk), .agg (rfC m vn' vk')] w fun e w' => e = .returned (.bool (toB (n = m))) ∧ Below w.heap.size w w' := by
  obtain ⟨W1, hW1⟩ : ∃ W1, W1 = (w.alloc (.cells (rfC n vn vk) 34)).alloc (.cells (rfC m vn' vk') 34) := ⟨_, rfl⟩
  have hb1 : Below w.heap.size w W1 := by rw [hW1]; exact al (ba _ _) _
  have hka : Blk W1 w.heap.size 34 (rfC n vn vk) := by rw [hW1]; exact (Blk.new _ _ _).alloc _
  have hkb : Blk W1 (w.heap.size + 1) 34 (rfC m vn' vk') := by rw [hW1]; have := Blk.new (w.alloc (.cells (rfC n vn vk) 34)) 34 (rfC m vn' vk'); simpa using this
  have H1 := Lib.hid (hN.below hb1)
  have H2 := Lib.hid (hK.below hb1)
  have H3 := Lib.hid (hN'.below hb1)
  have H4 := Lib.hid (hK'.below hb1)
  have HB1 := Lib.hid hb1
  obtain ⟨A1, c1, rfl⟩ := strs_form hN (nm_len _)
  obtain ⟨A2, c2, rfl⟩ := ints_form hK (idE_len _)
  obtain ⟨A3, c3, rfl⟩ := strs_form hN' (nm_len _)
  obtain ⟨A4, c4, rfl⟩ := ints_form hK' (idE_len _)
  obtain ⟨p0, p1, p2, p3, p4, p5, p6, p7⟩ := hka.c8
  obtain ⟨r0, r1, r2, r3, r4, r5, r6, r7⟩ := hkb.c8
  have HW1 := Lib.hid hW1
  have HBX := Lib.hid (show Below w.heap.size w ((w.alloc (.cells (rfC n (.slice A1 n.ents.length c1) (.slice A2 n.ents.length c2)) 34)).alloc (.cells (rfC m (.slice A3 m.ents.length c3) (.slice A4 m.ents.length c4)) 34)) from al (ba _ _) _)
  clear hN hK hN' hK' hb1 hka hkb hW1
  by_cases h0 : n.kind = m.kind
  · have q0 : (n.kind != m.kind) = false := by rw [int_neq, decide_eq_true h0]; rfl
    by_cases h1 : n.mode = m.mode
    · have q1 : (n.mode != m.mode) = false := by rw [int_neq, decide_eq_true h1]; rfl
      by_cases h2 : n.uid = m.uid
      · have q2 : (n.uid != m.uid) = false := by rw [int_neq, decide_eq_true h2]; rfl
        by_cases h3 : n.gid = m.gid
        · have q3 : (n.gid != m.gid) = false := by rw [int_neq, decide_eq_true h3]; rfl
          by_cases h4 : n.data = m.data
          · have q4 : ((bA n.data).toList != (bA m.data).toList) = false := by rw [bA_neq, decide_eq_true h4]; rfl
            have q4' : ((bA n.data).toList == (bA m.data).toList) = true := by rw [bA_eqq, decide_eq_true h4]
            by_cases h5 : n.target = m.target
            · have q5 : ((bA n.target).toList != (bA m.target).toList) = false := by rw [bA_neq, decide_eq_true h5]; rfl
              have q5' : ((bA n.target).toList == (bA m.target).toList) = true := by rw [bA_eqq, decide_eq_true h5]
              by_cases h6 : n.ents.length = m.ents.length
              · have q6 : ((n.ents.length : Int) != (m.ents.length : Int)) = false := by rw [h6]; simp
                have HY := Lib.hid (show n.ents.take n.ents.length = m.ents.take n.ents.length → toB (n = m) = true from fun h => toB_true (nd_eq h0 h1 h2 h3 h5 h4 (by rw [List.take_length, h6, List.take_length] at h; exact h)))
                have HNO := Lib.hid (fun (k : Nat) (x y : En) (hx : n.ents[k]? = some x) (hy : m.ents[k]? = some y) (hne : ¬ x = y) => show toB (n = m) = false from toB_false (fun h => hne (by rw [h, hy] at hx; injection hx with hx; exact hx.symm)))
                have HL6 := Lib.hid h6
                clear h0 h1 h2 h3 h4 h5 h6
                generalize toB (n = m) = X at HY HNO ⊢
                go_enter Try.func17, Try.ntmps17
                go_wp2
                go_loopg [5] n.ents.length (fun g s5 wr => ∃ (k nq : Nat), s5 = .int .i64 k ∧ k ≤ n.ents.length ∧ g = n.ents.length - k ∧ n.ents.take k = m.ents.take k ∧ wr = W1.drewN nq)
                case atStart => exact ⟨0, 0, rfl, Nat.zero_le _, rfl, rfl, by rw [HW1.out]; rfl⟩
                case round =>
                  obtain ⟨k, nq, rfl, hk, rfl, htk, rfl⟩ := hrel
                  have HT := Lib.hid htk
                  clear htk
                  by_cases hlt : k < n.ents.length
                  · have hlt' : (k : Int) < (n.ents.length : Int) := by omega
                    have hltm : k < m.ents.length := by rw [← HL6.out]; exact hlt
                    have hltm' : (k : Int) < (m.ents.length : Int) := by omega
                    obtain ⟨e, he⟩ : ∃ e, n.ents[k]? = some e := ⟨_, List.getElem?_eq_getElem hlt⟩
                    obtain ⟨f, hf⟩ : ∃ f, m.ents[k]? = some f := ⟨_, List.getElem?_eq_getElem hltm⟩
                    obtain ⟨a1, rfl, d1⟩ := strs_get H1.out (nmA_at (nmE_at he))
                    obtain ⟨a2, rfl, d2⟩ := ints_get H2.out (idE_at he)
                    obtain ⟨a3, rfl, d3⟩ := strs_get H3.out (nmA_at (nmE_at hf))
                    obtain ⟨a4, rfl, d4⟩ := ints_get H4.out (idE_at hf)
                    have HE := Lib.hid he
                    have HF := Lib.hid hf
                    clear he hf
                    by_cases g1 : e.1 = f.1
                    · have m1 : ((bA e.1).toList != (bA f.1).toList) = false := by rw [bA_neq, decide_eq_true g1]; rfl
                      have m1' : ((bA e.1).toList == (bA f.1).toList) = true := by rw [bA_eqq, decide_eq_true g1]
                      by_cases g2 : e.2 = f.2
                      · have m2 : (e.2 != f.2) = false := by rw [int_neq, decide_eq_true g2]; rfl
                        have HT2 := Lib.hid (take_eq_snoc HT.out HE.out (by rw [show e = f from Prod.ext g1 g2]; exact HF.out))
                        clear g1 g2
                        go_wp2
                        go_quiet (fail)
                        go_wp2
                        go_roundg (n.ents.length - (k + 1))
                        case measure => omega
                        case rel => exact ⟨k + 1, _, by go_num, by omega, rfl, HT2.out, rfl⟩
                      · have m2 : (e.2 != f.2) = true := by rw [int_neq, decide_eq_false g2]; rfl
                        have HX := Lib.hid (HNO.out k e f HE.out HF.out (fun h => g2 (by rw [h])))
                        clear g1 g2
                        go_wp2
                        go_quiet (fail)
                        go_wp2
                        go_ret
                        exact ⟨ret_bool HX.out.symm, ref_bdN (ref_bdN HB1.out _) _⟩
                    · have m1 : ((bA e.1).toList != (bA f.1).toList) = true := by rw [bA_neq, decide_eq_false g1]; rfl
                      have m1' : ((bA e.1).toList == (bA f.1).toList) = false := by rw [bA_eqq, decide_eq_false g1]
                      have HX := Lib.hid (HNO.out k e f HE.out HF.out (fun h => g1 (by rw [h])))
                      clear g1
                      go_wp2
                      go_quiet (fail)
                      go_wp2
                      go_ret
                      exact ⟨ret_bool HX.out.symm, ref_bdN (ref_bdN HB1.out _) _⟩
                  · have hlt' : ¬ (k : Int) < (n.ents.length : Int) := by omega
                    have HX := Lib.hid (HY.out (by have := HT.out; rw [show k = n.ents.length by omega] at this; exact this))
                    go_wp2
                    go_ret
                    exact ⟨ret_bool HX.out.symm, ref_bdN HB1.out _⟩
              · have q6 : ((n.ents.length : Int) != (m.ents.length : Int)) = true := by rw [int_neq, decide_eq_false (by omega)]; rfl
                have HX := Lib.hid (show toB (n = m) = false from toB_false (fun h => h6 (by rw [h])))
                clear h0 h1 h2 h3 h4 h5 h6
                generalize toB (n = m) = X at HX ⊢
                go_enter Try.func17, Try.ntmps17
                go_wp2
                go_ret
                exact ⟨ret_bool HX.out.symm, HBX.out⟩
            · have q5 : ((bA n.target).toList != (bA m.target).toList) = true := by rw [bA_neq, decide_eq_false h5]; rfl
              have q5' : ((bA n.target).toList == (bA m.target).toList) = false := by rw [bA_eqq, decide_eq_false h5]
              have HX := Lib.hid (show toB (n = m) = false from toB_false (fun h => h5 (by rw [h])))
              clear h0 h1 h2 h3 h4 h5
              generalize toB (n = m) = X at HX ⊢
              go_enter Try.func17, Try.ntmps17
              go_wp2
              go_ret
              exact ⟨ret_bool HX.out.symm, HBX.out⟩
          · have q4 : ((bA n.data).toList != (bA m.data).toList) = true := by rw [bA_neq, decide_eq_false h4]; rfl
            have q4' : ((bA n.data).toList == (bA m.data).toList) = false := by rw [bA_eqq, decide_eq_false h4]
            have HX := Lib.hid (show toB (n = m) = false from toB_false (fun h => h4 (by rw [h])))
            clear h0 h1 h2 h3 h4
            generalize toB (n = m) = X at HX ⊢
            go_enter Try.func17, Try.ntmps17
            go_wp2
            go_ret
            exact ⟨ret_bool HX.out.symm, HBX.out⟩
        · have q3 : (n.gid != m.gid) = true := by rw [int_neq, decide_eq_false h3]; rfl
          have HX := Lib.hid (show toB (n = m) = false from toB_false (fun h => h3 (by rw [h])))
          clear h0 h1 h2 h3
          generalize toB (n = m) = X at HX ⊢
          go_enter Try.func17, Try.ntmps17
          go_wp2
          go_ret
          exact ⟨ret_bool HX.out.symm, HBX.out⟩
      · have q2 : (n.uid != m.uid) = true := by rw [int_neq, decide_eq_false h2]; rfl
        have HX := Lib.hid (show toB (n = m) = false from toB_false (fun h => h2 (by rw [h])))
        clear h0 h1 h2
        generalize toB (n = m) = X at HX ⊢
        go_enter Try.func17, Try.ntmps17
        go_wp2
        go_ret
        exact ⟨ret_bool HX.out.symm, HBX.out⟩
    · have q1 : (n.mode != m.mode) = true := by rw [int_neq, decide_eq_false h1]; rfl
      have HX := Lib.hid (show toB (n = m) = false from toB_false (fun h => h1 (by rw [h])))
      clear h0 h1
      generalize toB (n = m) = X at HX ⊢
      go_enter Try.func17, Try.ntmps17
      go_wp2
      go_ret
      exact ⟨ret_bool HX.out.symm, HBX.out⟩
  · have q0 : (n.kind != m.kind) = true := by rw [int_neq, decide_eq_false h0]; rfl
    have HX := Lib.hid (show toB (n = m) = false from toB_false (fun h => h0 (by rw [h])))
    clear h0
    generalize toB (n = m) = X at HX ⊢
    go_enter Try.func17, Try.ntmps17
    go_wp2
    go_ret
    exact ⟨ret_bool HX.out.symm, HBX.out⟩
end Go.Proofs.Ytilepnepcamnaaa
namespace Go.Proofs.Ytilepnepcamnaaa
open Go Go.RowKit
set_option maxRecDepth 100000

theorem rin_any (x m : Int) (w : World) : Calls Try.prog 37 #[.int .i64 x, .int .i64 m] w fun e w' => e = .returned (.bool (upB m x)) ∧ w = w' := by
  unfold upB
  by_cases h1 : 0 ≤ x
  · rw [decide_eq_true h1, Bool.true_and]
    go_enter Try.func37, Try.ntmps37
    go_wp2
    go_ret
    exact ⟨rfl, rfl⟩
  · rw [decide_eq_false h1, Bool.false_and]
    go_enter Try.func37, Try.ntmps37
    go_wp2
    go_ret
    exact ⟨rfl, rfl⟩
/-- It answers a bool, and only reads. -/
def QuietB (w : World) (b : Bool) (e : Ending) (w' : World) : Prop := e = .returned (.bool b) ∧ ∃ m, w' = w.drewN m
set_option maxRecDepth 100000 in
set_option maxHeartbeats 4000000 in
theorem ref_lessq (a b : Nm) (w : World) (ha : a.length ≤ 1000) (hb : b.length ≤ 1000) :
    Calls Try.prog 47 #[.string (bA a), .string (bA b)] w (QuietB w (lss a b)) := by
  have hsa := size_bA a
  have hsb := size_bA b
  have HD := Lib.hid (fun (k : Nat) (x y : UInt8) (ht : a.take k = b.take k) (hx : a[k]? = some x) (hy : b[k]? = some y) (hne : ¬ x = y) => lss_at ht hx hy hne)
  have HL := Lib.hid (fun (k : Nat) (ht : a.take k = b.take k) (h1 : k ≤ a.length) (h2 : k ≤ b.length) (he : k = a.length ∨ k = b.length) => lss_len ht h1 h2 he)
  generalize lss a b = X at HD HL ⊢
  have HSA := Lib.hid hsa
  have HSB := Lib.hid hsb
  obtain ⟨sa, hsa2⟩ : ∃ s, bA a = s := ⟨_, rfl⟩
  obtain ⟨sb, hsb2⟩ : ∃ s, bA b = s := ⟨_, rfl⟩
  have HAA := Lib.hid (fun (k : Nat) (h : k < sa.size) => show a[k]? = some sa[k] by subst hsa2; exact bAat h)
  have HBB := Lib.hid (fun (k : Nat) (h : k < sb.size) => show b[k]? = some sb[k] by subst hsb2; exact bAat h)
  rw [hsa2] at hsa ⊢
  rw [hsb2] at hsb ⊢
  have hza : sa.size ≤ 1000 := by omega
  have hzb : sb.size ≤ 1000 := by omega
  have HZA := Lib.hid hsa
  have HZB := Lib.hid hsb
  clear hsa hsb hsa2 hsb2 HSA HSB ha hb
  go_enter Try.func47, Try.ntmps47
  go_wp2
  go_loopg [5] sa.size (fun g s5 wr => ∃ k : Nat, s5 = .int .i64 k ∧ k ≤ sa.size ∧ k ≤ sb.size ∧ g = sa.size - k ∧ a.take k = b.take k ∧ ∃ nq, wr = w.drewN nq)
  case atStart => exact ⟨0, rfl, Nat.zero_le _, Nat.zero_le _, rfl, rfl, 0, rfl⟩
  case round =>
    obtain ⟨k, rfl, h1, h2, rfl, htk, nq, rfl⟩ := hrel
    have HT := Lib.hid htk
    clear htk
    by_cases ka : k < sa.size
    · have ka' : (k : Int) < (sa.size : Int) := by omega
      by_cases kb : k < sb.size
      · have kb' : (k : Int) < (sb.size : Int) := by omega
        obtain ⟨x, hx⟩ : ∃ x, sa[k] = x := ⟨_, rfl⟩
        obtain ⟨y, hy⟩ : ∃ y, sb[k] = y := ⟨_, rfl⟩
        have HXA := Lib.hid (show a[k]? = some x by rw [HAA.out k ka, hx])
        have HYB := Lib.hid (show b[k]? = some y by rw [HBB.out k kb, hy])
        by_cases hxy : x = y
        · subst hxy
          have q1 : ((x.toNat : Int) != (x.toNat : Int)) = false := by simp
          go_wp2
          go_quiet (fail)
          go_wp2
          go_roundg (sa.size - (k + 1))
          case measure => omega
          case rel => exact ⟨k + 1, by go_num, by omega, by omega, rfl, ref_take_snoc HT.out HXA.out HYB.out, _, rfl⟩
        · have q1 : ((x.toNat : Int) != (y.toNat : Int)) = true := by simp only [bne_iff_ne, ne_eq]; intro e; exact hxy (co_inj e)
          have HF := Lib.hid (show decide (x.toNat < y.toNat) = X from (HD.out k x y HT.out HXA.out HYB.out hxy).symm)
          clear hxy
          go_wp2
          go_quiet (fail)
          go_wp2
          go_quiet (fail)
          go_wp2
          go_ret
          exact ⟨ret_bool HF.out, by first | exact ⟨_, rfl⟩ | (simp only [World.drewN_drewN]; exact ⟨_, rfl⟩)⟩
      · have kb' : ¬ (k : Int) < (sb.size : Int) := by omega
        have HF := Lib.hid (show decide (sa.size < sb.size) = X by
          rw [HL.out k HT.out (by have := HZA.out; omega) (by have := HZB.out; omega) (.inr (by have := HZB.out; omega))]
          congr 1
          apply propext
          have := HZA.out
          have := HZB.out
          constructor <;> intro h <;> omega)
        go_wp2
        go_ret
        exact ⟨ret_bool HF.out, by first | exact ⟨_, rfl⟩ | (simp only [World.drewN_drewN]; exact ⟨_, rfl⟩)⟩
    · have ka' : ¬ (k : Int) < (sa.size : Int) := by omega
      have HF := Lib.hid (show decide (sa.size < sb.size) = X by
        rw [HL.out k HT.out (by have := HZA.out; omega) (by have := HZB.out; omega) (.inl (by have := HZA.out; omega))]
        congr 1
        apply propext
        have := HZA.out
        have := HZB.out
        constructor <;> intro h <;> omega)
      go_wp2
      go_ret
      exact ⟨ret_bool HF.out, by first | exact ⟨_, rfl⟩ | (simp only [World.drewN_drewN]; exact ⟨_, rfl⟩)⟩
set_option maxRecDepth 100000 in
set_option maxHeartbeats 8000000 in
theorem rents_any (n : Nd) (vn vk : Value) (w : World) (hN : StrsR w vn (nmA (nmE n.ents))) (hK : IntsR w vk (idE n.ents)) (hn : n.ents.length ≤ 1000) (hsz : ∀ e ∈ n.ents, e.1.length ≤ 1000) :
    Calls Try.prog 38 #[.agg (rfC n vn vk)] w fun e w' => e = .returned (.bool (toB (entsP n.ents))) ∧ Below w.heap.size w w' := by
  have HY := Lib.hid (show gdP n.ents → toB (entsP n.ents) = decide ((n.ents.length : Int) ≤ 8) from fun h => by
    by_cases q : n.ents.length ≤ 8
    · rw [toB_true ⟨h.1, h.2, q⟩, decide_eq_true (by omega)]
    · rw [toB_false (fun hp => q hp.2.2), decide_eq_false (by omega)])
  have HN1 := Lib.hid (fun (k : Nat) (e : En) (he : n.ents[k]? = some e) (h : nok e.1 = false) => show toB (entsP n.ents) = false from toB_false (fun hp => by rw [(hp.1 e (List.mem_of_getElem? he)).1] at h; cases h))
  have HN2 := Lib.hid (fun (k : Nat) (e : En) (he : n.ents[k]? = some e) (h : e.2 < 1) => show toB (entsP n.ents) = false from toB_false (fun hp => by have := (hp.1 e (List.mem_of_getElem? he)).2; omega))
  have HN3 := Lib.hid (fun (k : Nat) (e p : En) (hk : 0 < k) (he : n.ents[k]? = some e) (hp : n.ents[k - 1]? = some p) (h : lss p.1 e.1 = false) => show toB (entsP n.ents) = false from toB_false (fun hp2 => by
    have := adj_rise hp2.2.1 (k - 1) p.1 e.1 (nmE_at hp) (by rw [show k - 1 + 1 = k by omega]; exact nmE_at he)
    rw [this] at h
    cases h))
  have HB1 := Lib.hid (ba w (.cells (rfC n vn vk) 34))
  have HNN := Lib.hid (hN.below (ba w (.cells (rfC n vn vk) 34)))
  have HKK := Lib.hid (hK.below (ba w (.cells (rfC n vn vk) 34)))
  have HBX := Lib.hid (Blk.new w 34 (rfC n vn vk))
  generalize toB (entsP n.ents) = X at HY HN1 HN2 HN3 ⊢
  obtain ⟨A1, c1, rfl⟩ := strs_form hN (nm_len _)
  obtain ⟨A2, c2, rfl⟩ := ints_form hK (idE_len _)
  clear hN hK
  go_enter Try.func38, Try.ntmps38
  go_wp2
  go_loopg [3] n.ents.length (fun gh s3 wr => ∃ k : Nat, s3 = .int .i64 k ∧ k ≤ n.ents.length ∧ gh = n.ents.length - k ∧ gdP (n.ents.take k) ∧ Below (w.alloc (.cells (rfC n (.slice A1 n.ents.length c1) (.slice A2 n.ents.length c2)) 34)).heap.size (w.alloc (.cells (rfC n (.slice A1 n.ents.length c1) (.slice A2 n.ents.length c2)) 34)) wr)
  case atStart => exact ⟨0, rfl, Nat.zero_le _, rfl, gdP_nil, Below.refl _ _⟩
  case round =>
    obtain ⟨k, rfl, hk, rfl, hgd, hbr⟩ := hrel
    have HGD := Lib.hid hgd
    have HB := Lib.hid hbr
    have HBW := Lib.hid (bt hbr HB1.out)
    obtain ⟨-, -, -, -, -, p5, p6, -⟩ := (HBX.out.below hbr).c8
    clear hgd hbr
    by_cases hlt : k < n.ents.length
    · have hlt' : (k : Int) < (n.ents.length : Int) := by omega
      obtain ⟨e, he⟩ : ∃ e, n.ents[k]? = some e := ⟨_, List.getElem?_eq_getElem hlt⟩
      obtain ⟨ad1, hA1, d1⟩ := strs_get (HNN.out.below HB.out) (nmA_at (nmE_at he))
      obtain ⟨ad2, hA2, d2⟩ := ints_get (HKK.out.below HB.out) (idE_at he)
      subst hA1 hA2
      have HE := Lib.hid he
      have HNM := Lib.hid (fun W => ref_name (bA e.1) W (by rw [size_bA]; have := hsz e (List.mem_of_getElem? he); omega))
      rw [nam_nok, tl_bA] at HNM
      have he1 := hsz e (List.mem_of_getElem? he)
      clear he
      obtain ⟨NK, hNK⟩ : ∃ NK, nok e.1 = NK := ⟨_, rfl⟩
      rw [hNK] at HNM
      have HK := Lib.hid hNK
      clear hNK
      cases NK with
      | false =>
        go_wp2_with fail
        refine (HNM.out _).mono ?_
        rintro e3 w3 ⟨rfl, rfl⟩
        have HF := Lib.hid (HN1.out k e HE.out HK.out)
        go_wp2
        go_quiet (fail)
        go_wp2
        go_ret
        exact ⟨ret_bool HF.out.symm, bdN HBW.out _⟩
      | true =>
        by_cases h2 : e.2 < 1
        · have h2' : decide (e.2 < 1) = true := decide_eq_true h2
          have HF := Lib.hid (HN2.out k e HE.out h2)
          go_wp2_with fail
          refine (HNM.out _).mono ?_
          rintro e3 w3 ⟨rfl, rfl⟩
          go_wp2
          go_quiet (fail)
          go_wp2
          go_ret
          exact ⟨ret_bool HF.out.symm, bdN HBW.out _⟩
        · have h2' : decide (e.2 < 1) = false := decide_eq_false h2
          by_cases h0 : k = 0
          · have hk0 : decide (0 < k) = false := by simp; omega
            have hk1 : ¬ (0 : Int) < (k : Int) := by omega
            have HK0 := Lib.hid h0
            have HH2 := Lib.hid h2
            clear h0
            go_wp2_with fail
            refine (HNM.out _).mono ?_
            rintro e3 w3 ⟨rfl, rfl⟩
            go_wp2
            go_quiet (fail)
            go_wp2
            go_roundg (n.ents.length - (k + 1))
            case measure => omega
            case rel => exact ⟨k + 1, by go_num, by omega, rfl, gdP_snoc HE.out HGD.out HK.out (by have := HH2.out; omega) (.inl HK0.out), bdN HB.out _⟩
          · obtain ⟨p, hp⟩ : ∃ p, n.ents[k - 1]? = some p := ⟨_, List.getElem?_eq_getElem (by omega)⟩
            obtain ⟨ad3, hA3, d3⟩ := strs_get (HNN.out.below HB.out) (nmA_at (nmE_at hp))
            injection hA3 with hA3
            subst hA3
            have hp1 := hsz p (List.mem_of_getElem? hp)
            have HP := Lib.hid hp
            clear hp
            obtain ⟨j, hj⟩ : ∃ j, j = k - 1 := ⟨_, rfl⟩
            rw [← hj] at d3 HP
            have kj1 : (k : Int) - 1 = (j : Int) := by omega
            have kj2 : IntKind.i64.wrap ((k : Int) - 1) = (j : Int) := by rw [IntKind.wrap_i64]; omega
            have kj5 : IntKind.i64.wrap (j : Int) = (j : Int) := by rw [IntKind.wrap_i64]; omega
            have kj3 : (j : Int) < (n.ents.length : Int) := by omega
            have kj4 : j < n.ents.length := by omega
            have hk0 : decide (0 < k) = true := by simp; omega
            have hk1 : (0 : Int) < (k : Int) := by omega
            have HJ := Lib.hid hj
            have HK0 := Lib.hid h0
            have HH2 := Lib.hid h2
            have HBD := Lib.hid (bdN HBW.out 1)
            have HBD0 := Lib.hid (bdN HB.out 1)
            clear hj h0
            obtain ⟨LX, hLX⟩ : ∃ LX, lss p.1 e.1 = LX := ⟨_, rfl⟩
            have HLS := Lib.hid (fun W => ref_lessq p.1 e.1 W hp1 he1)
            rw [hLX] at HLS
            have HLX := Lib.hid hLX
            clear hLX
            cases LX with
            | true =>
              go_wp2_with fail
              refine (HNM.out _).mono ?_
              rintro e3 w3 ⟨rfl, rfl⟩
              go_wp2
              go_quiet ((go_at_call 47; exact Calls.quiet_of (HLS.out _)))
              go_wp2
              go_roundg (n.ents.length - (k + 1))
              case measure => omega
              case rel => exact ⟨k + 1, by go_num, by omega, rfl, gdP_snoc HE.out HGD.out HK.out (by have := HH2.out; omega) (.inr ⟨p, by rw [← HJ.out]; exact HP.out, HLX.out⟩), bdN HB.out _⟩
            | false =>
              have HF := Lib.hid (HN3.out k e p (by have := HK0.out; omega) HE.out (by rw [← HJ.out]; exact HP.out) HLX.out)
              go_wp2_with fail
              refine (HNM.out _).mono ?_
              rintro e3 w3 ⟨rfl, rfl⟩
              go_wp2
              go_quiet ((go_at_call 47; exact Calls.quiet_of (HLS.out _)))
              go_wp2
              go_ret
              exact ⟨ret_bool HF.out.symm, bdN HBW.out _⟩
    · have hlt' : ¬ (k : Int) < (n.ents.length : Int) := by omega
      have HX := Lib.hid (HY.out (by have := HGD.out; rw [List.take_of_length_le (by omega)] at this; exact this))
      go_wp2
      go_ret
      exact ⟨ret_bool HX.out.symm, HBW.out⟩
end Go.Proofs.Ytilepnepcamnaaa
namespace Go.Proofs.Ytilepnepcamnaaa
open Go Go.RowKit
set_option maxRecDepth 100000

set_option maxRecDepth 100000 in
set_option maxHeartbeats 16000000 in
theorem rright_any (n : Nd) (vn vk : Value) (w : World) (hN : StrsR w vn (nmA (nmE n.ents))) (hK : IntsR w vk (idE n.ents)) (hf : Few n) :
    Calls Try.prog 29 #[.agg (rfC n vn vk)] w fun e w' => e = .returned (.bool (toB (rightP n))) ∧ Below w.heap.size w w' := by
  have HB1 := Lib.hid (ba w (.cells (rfC n vn vk) 34))
  have HER := Lib.hid (rents_any n vn vk _ (hN.below (ba w (.cells (rfC n vn vk) 34))) (hK.below (ba w (.cells (rfC n vn vk) 34))) hf.ents hf.names)
  have HFT := Lib.hid (fun W => ref_fits (bA n.target) W (by rw [size_bA]; have := hf.target; omega))
  rw [fit_fok, tl_bA] at HFT
  have U1 := Lib.hid (fun W => rin_any n.mode 4095 W)
  have U2 := Lib.hid (fun W => rin_any n.uid 65535 W)
  have U3 := Lib.hid (fun W => rin_any n.gid 65535 W)
  have hdl := hf.data
  have hel := hf.ents
  have hds := size_bA n.data
  obtain ⟨A1, c1, rfl⟩ := strs_form hN (nm_len _)
  obtain ⟨A2, c2, rfl⟩ := ints_form hK (idE_len _)
  clear hN hK hf
  obtain ⟨u1, hu1⟩ : ∃ u, upB 4095 n.mode = u := ⟨_, rfl⟩
  obtain ⟨u2, hu2⟩ : ∃ u, upB 65535 n.uid = u := ⟨_, rfl⟩
  obtain ⟨u3, hu3⟩ : ∃ u, upB 65535 n.gid = u := ⟨_, rfl⟩
  rw [hu1] at U1
  rw [hu2] at U2
  rw [hu3] at U3
  cases u1 with
  | false =>
    have HX := Lib.hid (show toB (rightP n) = false from toB_false (fun h => upB_not hu1 h.1.1))
    clear hu1 hu2 hu3
    by_cases k1 : n.kind = 1
    · have hk : (n.kind == 1) = true := by simpa using k1
      clear k1
      generalize toB (rightP n) = X at HX ⊢
      go_enter Try.func29, Try.ntmps29
      go_wp2_with fail
      refine (U1.out _).mono ?_
      rintro e w' ⟨rfl, rfl⟩
      go_wp2
      go_ret
      exact ⟨ret_bool (by first | exact HX.out.symm | exact (decide_eq_true (by omega)).trans HX.out.symm | exact (decide_eq_false (by omega)).trans HX.out.symm), HB1.out⟩
    · have hk : (n.kind == 1) = false := by simpa using k1
      by_cases k2 : n.kind = 2
      · have hk2 : (n.kind == 2) = true := by simpa using k2
        clear k1 k2
        generalize toB (rightP n) = X at HX ⊢
        go_enter Try.func29, Try.ntmps29
        go_wp2_with fail
        refine (U1.out _).mono ?_
        rintro e w' ⟨rfl, rfl⟩
        go_wp2
        go_ret
        exact ⟨ret_bool (by first | exact HX.out.symm | exact (decide_eq_true (by omega)).trans HX.out.symm | exact (decide_eq_false (by omega)).trans HX.out.symm), HB1.out⟩
      · have hk2 : (n.kind == 2) = false := by simpa using k2
        clear k1 k2
        generalize toB (rightP n) = X at HX ⊢
        go_enter Try.func29, Try.ntmps29
        go_wp2_with fail
        refine (U1.out _).mono ?_
        rintro e w' ⟨rfl, rfl⟩
        go_wp2
        go_ret
        exact ⟨ret_bool (by first | exact HX.out.symm | exact (decide_eq_true (by omega)).trans HX.out.symm | exact (decide_eq_false (by omega)).trans HX.out.symm), HB1.out⟩
  | true =>
    cases u2 with
    | false =>
      have HX := Lib.hid (show toB (rightP n) = false from toB_false (fun h => upB_not hu2 h.1.2.1))
      clear hu1 hu2 hu3
      by_cases k1 : n.kind = 1
      · have hk : (n.kind == 1) = true := by simpa using k1
        clear k1
        generalize toB (rightP n) = X at HX ⊢
        go_enter Try.func29, Try.ntmps29
        go_wp2_with fail
        refine (U1.out _).mono ?_
        rintro e w' ⟨rfl, rfl⟩
        go_wp2_with fail
        refine (U2.out _).mono ?_
        rintro e w' ⟨rfl, rfl⟩
        go_wp2
        go_ret
        exact ⟨ret_bool (by first | exact HX.out.symm | exact (decide_eq_true (by omega)).trans HX.out.symm | exact (decide_eq_false (by omega)).trans HX.out.symm), HB1.out⟩
      · have hk : (n.kind == 1) = false := by simpa using k1
        by_cases k2 : n.kind = 2
        · have hk2 : (n.kind == 2) = true := by simpa using k2
          clear k1 k2
          generalize toB (rightP n) = X at HX ⊢
          go_enter Try.func29, Try.ntmps29
          go_wp2_with fail
          refine (U1.out _).mono ?_
          rintro e w' ⟨rfl, rfl⟩
          go_wp2_with fail
          refine (U2.out _).mono ?_
          rintro e w' ⟨rfl, rfl⟩
          go_wp2
          go_ret
          exact ⟨ret_bool (by first | exact HX.out.symm | exact (decide_eq_true (by omega)).trans HX.out.symm | exact (decide_eq_false (by omega)).trans HX.out.symm), HB1.out⟩
        · have hk2 : (n.kind == 2) = false := by simpa using k2
          clear k1 k2
          generalize toB (rightP n) = X at HX ⊢
          go_enter Try.func29, Try.ntmps29
          go_wp2_with fail
          refine (U1.out _).mono ?_
          rintro e w' ⟨rfl, rfl⟩
          go_wp2_with fail
          refine (U2.out _).mono ?_
          rintro e w' ⟨rfl, rfl⟩
          go_wp2
          go_ret
          exact ⟨ret_bool (by first | exact HX.out.symm | exact (decide_eq_true (by omega)).trans HX.out.symm | exact (decide_eq_false (by omega)).trans HX.out.symm), HB1.out⟩
    | true =>
      cases u3 with
      | false =>
        have HX := Lib.hid (show toB (rightP n) = false from toB_false (fun h => upB_not hu3 h.1.2.2))
        clear hu1 hu2 hu3
        by_cases k1 : n.kind = 1
        · have hk : (n.kind == 1) = true := by simpa using k1
          clear k1
          generalize toB (rightP n) = X at HX ⊢
          go_enter Try.func29, Try.ntmps29
          go_wp2_with fail
          refine (U1.out _).mono ?_
          rintro e w' ⟨rfl, rfl⟩
          go_wp2_with fail
          refine (U2.out _).mono ?_
          rintro e w' ⟨rfl, rfl⟩
          go_wp2_with fail
          refine (U3.out _).mono ?_
          rintro e w' ⟨rfl, rfl⟩
          go_wp2
          go_ret
          exact ⟨ret_bool (by first | exact HX.out.symm | exact (decide_eq_true (by omega)).trans HX.out.symm | exact (decide_eq_false (by omega)).trans HX.out.symm), HB1.out⟩
        · have hk : (n.kind == 1) = false := by simpa using k1
          by_cases k2 : n.kind = 2
          · have hk2 : (n.kind == 2) = true := by simpa using k2
            clear k1 k2
            generalize toB (rightP n) = X at HX ⊢
            go_enter Try.func29, Try.ntmps29
            go_wp2_with fail
            refine (U1.out _).mono ?_
            rintro e w' ⟨rfl, rfl⟩
            go_wp2_with fail
            refine (U2.out _).mono ?_
            rintro e w' ⟨rfl, rfl⟩
            go_wp2_with fail
            refine (U3.out _).mono ?_
            rintro e w' ⟨rfl, rfl⟩
            go_wp2
            go_ret
            exact ⟨ret_bool (by first | exact HX.out.symm | exact (decide_eq_true (by omega)).trans HX.out.symm | exact (decide_eq_false (by omega)).trans HX.out.symm), HB1.out⟩
          · have hk2 : (n.kind == 2) = false := by simpa using k2
            clear k1 k2
            generalize toB (rightP n) = X at HX ⊢
            go_enter Try.func29, Try.ntmps29
            go_wp2_with fail
            refine (U1.out _).mono ?_
            rintro e w' ⟨rfl, rfl⟩
            go_wp2_with fail
            refine (U2.out _).mono ?_
            rintro e w' ⟨rfl, rfl⟩
            go_wp2_with fail
            refine (U3.out _).mono ?_
            rintro e w' ⟨rfl, rfl⟩
            go_wp2
            go_ret
            exact ⟨ret_bool (by first | exact HX.out.symm | exact (decide_eq_true (by omega)).trans HX.out.symm | exact (decide_eq_false (by omega)).trans HX.out.symm), HB1.out⟩
      | true =>
        have hH : headP n := ⟨upB_iff.1 hu1, upB_iff.1 hu2, upB_iff.1 hu3⟩
        clear hu1 hu2 hu3
        by_cases k1 : n.kind = 1
        · have hk : (n.kind == 1) = true := by simpa using k1
          have hX : rightP n ↔ n.ents = [] ∧ n.target = [] ∧ n.data.length ≤ 48 := by
            constructor
            · rintro ⟨-, h | h | h⟩
              · exact h.2
              · omega
              · omega
            · exact fun h => ⟨hH, .inl ⟨k1, h⟩⟩
          clear hH k1
          by_cases e1 : n.ents = []
          · have q1 := int0 e1
            by_cases e2 : n.target = []
            · have q2 := eq_nil_of _ e2
              by_cases e3 : n.data.length ≤ 48
              · have q3 : ((bA n.data).size : Int) ≤ 48 := by omega
                have HX := Lib.hid (show toB (rightP n) = true from toB_true (hX.2 ⟨e1, e2, e3⟩))
                clear hX e1 e2 e3
                generalize toB (rightP n) = X at HX ⊢
                go_enter Try.func29, Try.ntmps29
                go_wp2_with fail
                refine (U1.out _).mono ?_
                rintro e w' ⟨rfl, rfl⟩
                go_wp2_with fail
                refine (U2.out _).mono ?_
                rintro e w' ⟨rfl, rfl⟩
                go_wp2_with fail
                refine (U3.out _).mono ?_
                rintro e w' ⟨rfl, rfl⟩
                go_wp2
                go_ret
                exact ⟨ret_bool (by first | exact HX.out.symm | exact (decide_eq_true (by omega)).trans HX.out.symm | exact (decide_eq_false (by omega)).trans HX.out.symm), HB1.out⟩
              · have q3 : ¬ ((bA n.data).size : Int) ≤ 48 := by omega
                have HX := Lib.hid (show toB (rightP n) = false from toB_false (fun h => e3 ((hX.1 h).2.2)))
                clear hX e1 e2 e3
                generalize toB (rightP n) = X at HX ⊢
                go_enter Try.func29, Try.ntmps29
                go_wp2_with fail
                refine (U1.out _).mono ?_
                rintro e w' ⟨rfl, rfl⟩
                go_wp2_with fail
                refine (U2.out _).mono ?_
                rintro e w' ⟨rfl, rfl⟩
                go_wp2_with fail
                refine (U3.out _).mono ?_
                rintro e w' ⟨rfl, rfl⟩
                go_wp2
                go_ret
                exact ⟨ret_bool (by first | exact HX.out.symm | exact (decide_eq_true (by omega)).trans HX.out.symm | exact (decide_eq_false (by omega)).trans HX.out.symm), HB1.out⟩
            · have q2 := ne_nil_of _ e2
              have HX := Lib.hid (show toB (rightP n) = false from toB_false (fun h => e2 ((hX.1 h).2.1)))
              clear hX e1 e2
              generalize toB (rightP n) = X at HX ⊢
              go_enter Try.func29, Try.ntmps29
              go_wp2_with fail
              refine (U1.out _).mono ?_
              rintro e w' ⟨rfl, rfl⟩
              go_wp2_with fail
              refine (U2.out _).mono ?_
              rintro e w' ⟨rfl, rfl⟩
              go_wp2_with fail
              refine (U3.out _).mono ?_
              rintro e w' ⟨rfl, rfl⟩
              go_wp2
              go_ret
              exact ⟨ret_bool (by first | exact HX.out.symm | exact (decide_eq_true (by omega)).trans HX.out.symm | exact (decide_eq_false (by omega)).trans HX.out.symm), HB1.out⟩
          · have q1 := int1 e1
            have HX := Lib.hid (show toB (rightP n) = false from toB_false (fun h => e1 ((hX.1 h).1)))
            clear hX e1
            generalize toB (rightP n) = X at HX ⊢
            go_enter Try.func29, Try.ntmps29
            go_wp2_with fail
            refine (U1.out _).mono ?_
            rintro e w' ⟨rfl, rfl⟩
            go_wp2_with fail
            refine (U2.out _).mono ?_
            rintro e w' ⟨rfl, rfl⟩
            go_wp2_with fail
            refine (U3.out _).mono ?_
            rintro e w' ⟨rfl, rfl⟩
            go_wp2
            go_ret
            exact ⟨ret_bool (by first | exact HX.out.symm | exact (decide_eq_true (by omega)).trans HX.out.symm | exact (decide_eq_false (by omega)).trans HX.out.symm), HB1.out⟩
        · have hk : (n.kind == 1) = false := by simpa using k1
          by_cases k2 : n.kind = 2
          · have hk2 : (n.kind == 2) = true := by simpa using k2
            have hX : rightP n ↔ n.data = [] ∧ n.target = [] ∧ entsP n.ents := by
              constructor
              · rintro ⟨-, h | h | h⟩
                · omega
                · exact h.2
                · omega
              · exact fun h => ⟨hH, .inr (.inl ⟨k2, h⟩)⟩
            clear hH k1 k2
            by_cases e1 : n.data = []
            · have q1 := eq_nil_of _ e1
              by_cases e2 : n.target = []
              · have q2 := eq_nil_of _ e2
                have HX := Lib.hid (show toB (rightP n) = toB (entsP n.ents) by
                  by_cases h : entsP n.ents
                  · rw [toB_true h, toB_true (hX.2 ⟨e1, e2, h⟩)]
                  · rw [toB_false h, toB_false (fun h2 => h (hX.1 h2).2.2)])
                clear hX e1 e2
                generalize toB (entsP n.ents) = Y at HX HER
                generalize toB (rightP n) = X at HX ⊢
                go_enter Try.func29, Try.ntmps29
                go_wp2_with fail
                refine (U1.out _).mono ?_
                rintro e w' ⟨rfl, rfl⟩
                go_wp2_with fail
                refine (U2.out _).mono ?_
                rintro e w' ⟨rfl, rfl⟩
                go_wp2_with fail
                refine (U3.out _).mono ?_
                rintro e w' ⟨rfl, rfl⟩
                go_wp2_with fail
                refine HER.out.mono ?_
                rintro e w2 ⟨rfl, hb2⟩
                have HB2 := Lib.hid (bt hb2 HB1.out)
                clear hb2
                go_wp2
                go_ret
                exact ⟨ret_bool HX.out.symm, HB2.out⟩
              · have q2 := ne_nil_of _ e2
                have HX := Lib.hid (show toB (rightP n) = false from toB_false (fun h => e2 (hX.1 h).2.1))
                clear hX e1 e2
                generalize toB (rightP n) = X at HX ⊢
                go_enter Try.func29, Try.ntmps29
                go_wp2_with fail
                refine (U1.out _).mono ?_
                rintro e w' ⟨rfl, rfl⟩
                go_wp2_with fail
                refine (U2.out _).mono ?_
                rintro e w' ⟨rfl, rfl⟩
                go_wp2_with fail
                refine (U3.out _).mono ?_
                rintro e w' ⟨rfl, rfl⟩
                go_wp2
                go_ret
                exact ⟨ret_bool (by first | exact HX.out.symm | exact (decide_eq_true (by omega)).trans HX.out.symm | exact (decide_eq_false (by omega)).trans HX.out.symm), HB1.out⟩
            · have q1 := ne_nil_of _ e1
              have HX := Lib.hid (show toB (rightP n) = false from toB_false (fun h => e1 (hX.1 h).1))
              clear hX e1
              generalize toB (rightP n) = X at HX ⊢
              go_enter Try.func29, Try.ntmps29
              go_wp2_with fail
              refine (U1.out _).mono ?_
              rintro e w' ⟨rfl, rfl⟩
              go_wp2_with fail
              refine (U2.out _).mono ?_
              rintro e w' ⟨rfl, rfl⟩
              go_wp2_with fail
              refine (U3.out _).mono ?_
              rintro e w' ⟨rfl, rfl⟩
              go_wp2
              go_ret
              exact ⟨ret_bool (by first | exact HX.out.symm | exact (decide_eq_true (by omega)).trans HX.out.symm | exact (decide_eq_false (by omega)).trans HX.out.symm), HB1.out⟩
          · have hk2 : (n.kind == 2) = false := by simpa using k2
            by_cases k3 : n.kind = 3
            · have hk3 : (n.kind == 3) = true := by simpa using k3
              have hX : rightP n ↔ n.data = [] ∧ n.ents = [] ∧ n.mode = 511 ∧ fok n.target = true := by
                constructor
                · rintro ⟨-, h | h | h⟩
                  · omega
                  · omega
                  · exact h.2
                · exact fun h => ⟨hH, .inr (.inr ⟨k3, h⟩)⟩
              clear hH k1 k2 k3
              by_cases e1 : n.data = []
              · have q1 := eq_nil_of _ e1
                by_cases e2 : n.ents = []
                · have q2 := int0 e2
                  by_cases e3 : n.mode = 511
                  · have q3 : (n.mode == 511) = true := by simpa using e3
                    have HX := Lib.hid (show toB (rightP n) = fok n.target by
                      cases h : fok n.target with
                      | true => exact toB_true (hX.2 ⟨e1, e2, e3, h⟩)
                      | false => exact toB_false (fun h2 => by have := (hX.1 h2).2.2.2; rw [h] at this; cases this))
                    clear hX e1 e2 e3
                    generalize fok n.target = Y at HX HFT
                    generalize toB (rightP n) = X at HX ⊢
                    go_enter Try.func29, Try.ntmps29
                    go_wp2_with fail
                    refine (U1.out _).mono ?_
                    rintro e w' ⟨rfl, rfl⟩
                    go_wp2_with fail
                    refine (U2.out _).mono ?_
                    rintro e w' ⟨rfl, rfl⟩
                    go_wp2_with fail
                    refine (U3.out _).mono ?_
                    rintro e w' ⟨rfl, rfl⟩
                    go_wp2_with fail
                    refine (HFT.out _).mono ?_
                    rintro e w' ⟨rfl, rfl⟩
                    go_wp2
                    go_ret
                    exact ⟨ret_bool (by first | exact HX.out.symm | exact (decide_eq_true (by omega)).trans HX.out.symm | exact (decide_eq_false (by omega)).trans HX.out.symm), HB1.out⟩
                  · have q3 : (n.mode == 511) = false := by simpa using e3
                    have HX := Lib.hid (show toB (rightP n) = false from toB_false (fun h => e3 (hX.1 h).2.2.1))
                    clear hX e1 e2 e3
                    generalize toB (rightP n) = X at HX ⊢
                    go_enter Try.func29, Try.ntmps29
                    go_wp2_with fail
                    refine (U1.out _).mono ?_
                    rintro e w' ⟨rfl, rfl⟩
                    go_wp2_with fail
                    refine (U2.out _).mono ?_
                    rintro e w' ⟨rfl, rfl⟩
                    go_wp2_with fail
                    refine (U3.out _).mono ?_
                    rintro e w' ⟨rfl, rfl⟩
                    go_wp2
                    go_ret
                    exact ⟨ret_bool (by first | exact HX.out.symm | exact (decide_eq_true (by omega)).trans HX.out.symm | exact (decide_eq_false (by omega)).trans HX.out.symm), HB1.out⟩
                · have q2 := int1 e2
                  have HX := Lib.hid (show toB (rightP n) = false from toB_false (fun h => e2 (hX.1 h).2.1))
                  clear hX e1 e2
                  generalize toB (rightP n) = X at HX ⊢
                  go_enter Try.func29, Try.ntmps29
                  go_wp2_with fail
                  refine (U1.out _).mono ?_
                  rintro e w' ⟨rfl, rfl⟩
                  go_wp2_with fail
                  refine (U2.out _).mono ?_
                  rintro e w' ⟨rfl, rfl⟩
                  go_wp2_with fail
                  refine (U3.out _).mono ?_
                  rintro e w' ⟨rfl, rfl⟩
                  go_wp2
                  go_ret
                  exact ⟨ret_bool (by first | exact HX.out.symm | exact (decide_eq_true (by omega)).trans HX.out.symm | exact (decide_eq_false (by omega)).trans HX.out.symm), HB1.out⟩
              · have q1 := ne_nil_of _ e1
                have HX := Lib.hid (show toB (rightP n) = false from toB_false (fun h => e1 (hX.1 h).1))
                clear hX e1
                generalize toB (rightP n) = X at HX ⊢
                go_enter Try.func29, Try.ntmps29
                go_wp2_with fail
                refine (U1.out _).mono ?_
                rintro e w' ⟨rfl, rfl⟩
                go_wp2_with fail
                refine (U2.out _).mono ?_
                rintro e w' ⟨rfl, rfl⟩
                go_wp2_with fail
                refine (U3.out _).mono ?_
                rintro e w' ⟨rfl, rfl⟩
                go_wp2
                go_ret
                exact ⟨ret_bool (by first | exact HX.out.symm | exact (decide_eq_true (by omega)).trans HX.out.symm | exact (decide_eq_false (by omega)).trans HX.out.symm), HB1.out⟩
            · have hk3 : (n.kind == 3) = false := by simpa using k3
              have HX := Lib.hid (show toB (rightP n) = false from toB_false (fun h => by
                rcases h.2 with h | h | h
                · exact k1 h.1
                · exact k2 h.1
                · exact k3 h.1))
              clear hH k1 k2 k3
              generalize toB (rightP n) = X at HX ⊢
              go_enter Try.func29, Try.ntmps29
              go_wp2_with fail
              refine (U1.out _).mono ?_
              rintro e w' ⟨rfl, rfl⟩
              go_wp2_with fail
              refine (U2.out _).mono ?_
              rintro e w' ⟨rfl, rfl⟩
              go_wp2_with fail
              refine (U3.out _).mono ?_
              rintro e w' ⟨rfl, rfl⟩
              go_wp2
              go_ret
              exact ⟨ret_bool (by first | exact HX.out.symm | exact (decide_eq_true (by omega)).trans HX.out.symm | exact (decide_eq_false (by omega)).trans HX.out.symm), HB1.out⟩
end Go.Proofs.Ytilepnepcamnaaa
