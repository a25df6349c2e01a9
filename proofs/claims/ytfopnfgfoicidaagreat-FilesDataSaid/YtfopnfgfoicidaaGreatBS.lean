/-
  The reference's Same, Right, Put, Add and Drop; trees; arguments of statements. The conditions are said at each.
-/
import Derived.Test.YtfopnfgfoicidaaGreatBR
import Derived.Test.YtfopnfgfoicidaaGreatBT
import Derived.Test.YtfopnfgfoicidaaGreatBC
import Derived.Test.YtfopnfgfoicidaaGreatBA
import Derived.Deep.DeepCutAuto
import Derived.Test.YtfopnfgfoicidaaGreatRows
import Derived.ProofKit
import Derived.OpenShut
import Derived.Deep.DeepHandedRow
import Derived.Carry
import Derived.Lib.LaidTab
import Derived.Deep.Slices
import Derived.Deep.Strs
namespace Go.Proofs.YtfopnfgfoicidaaGreat
open Go Go.RowKit
set_option maxRecDepth 100000

theorem bA_neq {a b : Nm} : ((bA a).toList != (bA b).toList) = !decide (a = b) := by
  rw [bA_list, bA_list]
  by_cases h : a = b <;> simp [h]
theorem bA_eqq {a b : Nm} : ((bA a).toList == (bA b).toList) = decide (a = b) := by
  rw [bA_list, bA_list]
  by_cases h : a = b <;> simp [h]
theorem int_neq {a b : Int} : (a != b) = !decide (a = b) := by
  by_cases h : a = b <;> simp [h]
set_option maxRecDepth 100000 in
set_option maxHeartbeats 16000000 in
theorem rsame_any (n m : Nd) (vn vk vn' vk' : Value) (w : World) (hN : StrsR w vn (nmA (nmE n.ents))) (hK : IntsR w vk (idE n.ents)) (hN' : StrsR w vn' (nmA (nmE m.ents))) (hK' : IntsR w vk' (idE m.ents)) (hn : n.ents.length ≤ 1000) (_hm : m.ents.length ≤ 1000) :
    Calls Tryz.prog 41 #[.agg (rfC n vn vk), .agg (rfC m vn' vk')] w fun e w' => e = .returned (.bool (toB (n = m))) ∧ Below w.heap.size w w' := by
  obtain ⟨W1, hW1⟩ : ∃ W1, W1 = (w.alloc (.cells (rfC n vn vk) 82)).alloc (.cells (rfC m vn' vk') 82) := ⟨_, rfl⟩
  have hb1 : Below w.heap.size w W1 := by rw [hW1]; exact al (ba _ _) _
  have hka : Blk W1 w.heap.size 82 (rfC n vn vk) := by rw [hW1]; exact (Blk.new _ _ _).alloc _
  have hkb : Blk W1 (w.heap.size + 1) 82 (rfC m vn' vk') := by rw [hW1]; have := Blk.new (w.alloc (.cells (rfC n vn vk) 82)) 82 (rfC m vn' vk'); simpa using this
  have H1 := Lib.hid (hN.below hb1)
  have H2 := Lib.hid (hK.below hb1)
  have H3 := Lib.hid (hN'.below hb1)
  have H4 := Lib.hid (hK'.below hb1)
  have HB1 := Lib.hid hb1
  obtain ⟨A1, c1, rfl⟩ := strs_form hN (nm_len _)
  obtain ⟨A2, c2, rfl⟩ := ints_form hK (idE_len _)
  obtain ⟨A3, c3, rfl⟩ := strs_form hN' (nm_len _)
  obtain ⟨A4, c4, rfl⟩ := ints_form hK' (idE_len _)
  obtain ⟨p0, p1, p2, p3, p4, p5, p6, p7⟩ := hka.c8
  obtain ⟨r0, r1, r2, r3, r4, r5, r6, r7⟩ := hkb.c8
  have HW1 := Lib.hid hW1
  have HBX := Lib.hid (show Below w.heap.size w ((w.alloc (.cells (rfC n (.slice A1 n.ents.length c1) (.slice A2 n.ents.length c2)) 82)).alloc (.cells (rfC m (.slice A3 m.ents.length c3) (.slice A4 m.ents.length c4)) 82)) from al (ba _ _) _)
  clear hN hK hN' hK' hb1 hka hkb hW1
  by_cases h0 : n.kind = m.kind
  · have q0 : (n.kind != m.kind) = false := by rw [int_neq, decide_eq_true h0]; rfl
    by_cases h1 : n.mode = m.mode
    · have q1 : (n.mode != m.mode) = false := by rw [int_neq, decide_eq_true h1]; rfl
      by_cases h2 : n.uid = m.uid
      · have q2 : (n.uid != m.uid) = false := by rw [int_neq, decide_eq_true h2]; rfl
        by_cases h3 : n.gid = m.gid
        · have q3 : (n.gid != m.gid) = false := by rw [int_neq, decide_eq_true h3]; rfl
          by_cases h4 : n.data = m.data
          · have q4 : ((bA n.data).toList != (bA m.data).toList) = false := by rw [bA_neq, decide_eq_true h4]; rfl
            have q4' : ((bA n.data).toList == (bA m.data).toList) = true := by rw [bA_eqq, decide_eq_true h4]
            by_cases h5 : n.target = m.target
            · have q5 : ((bA n.target).toList != (bA m.target).toList) = false := by rw [bA_neq, decide_eq_true h5]; rfl
              have q5' : ((bA n.target).toList == (bA m.target).toList) = true := by rw [bA_eqq, decide_eq_true h5]
              by_cases h6 : n.ents.length = m.ents.length
              · have q6 : ((n.ents.length : Int) != (m.ents.length : Int)) = false := by rw [h6]; simp
                have HY := Lib.hid (show n.ents.take n.ents.length = m.ents.take n.ents.length → toB (n = m) = true from fun h => toB_true (nd_eq h0 h1 h2 h3 h5 h4 (by rw [List.take_length, h6, List.take_length] at h; exact h)))
                have HNO := Lib.hid (fun (k : Nat) (x y : En) (hx : n.ents[k]? = some x) (hy : m.ents[k]? = some y) (hne : ¬ x = y) => show toB (n = m) = false from toB_false (fun h => hne (by rw [h, hy] at hx; injection hx with hx; exact hx.symm)))
                have HL6 := Lib.hid h6
                clear h0 h1 h2 h3 h4 h5 h6
                generalize toB (n = m) = X at HY HNO ⊢
                go_enter Tryz.func41, Tryz.ntmps41
                go_wp2
                go_loopg [5] n.ents.length (fun g s5 wr => ∃ (k nq : Nat), s5 = .int .i64 k ∧ k ≤ n.ents.length ∧ g = n.ents.length - k ∧ n.ents.take k = m.ents.take k ∧ wr = W1.drewN nq)
                case atStart => exact ⟨0, 0, rfl, Nat.zero_le _, rfl, rfl, by rw [HW1.out]; rfl⟩
                case round =>
                  obtain ⟨k, nq, rfl, hk, rfl, htk, rfl⟩ := hrel
                  have HT := Lib.hid htk
                  clear htk
                  by_cases hlt : k < n.ents.length
                  · have hlt' : (k : Int) < (n.ents.length : Int) := by omega
                    have hltm : k < m.ents.length := by rw [← HL6.out]; exact hlt
                    have hltm' : (k : Int) < (m.ents.length : Int) := by omega
                    obtain ⟨e, he⟩ : ∃ e, n.ents[k]? = some e := ⟨_, List.getElem?_eq_getElem hlt⟩
                    obtain ⟨f, hf⟩ : ∃ f, m.ents[k]? = some f := ⟨_, List.getElem?_eq_getElem hltm⟩
                    obtain ⟨a1, rfl, d1⟩ := strs_get H1.out (nmA_at (nmE_at he))
                    obtain ⟨a2, rfl, d2⟩ := ints_get H2.out (idE_at he)
                    obtain ⟨a3, rfl, d3⟩ := strs_get H3.out (nmA_at (nmE_at hf))
                    obtain ⟨a4, rfl, d4⟩ := ints_get H4.out (idE_at hf)
                    have HE := Lib.hid he
                    have HF := Lib.hid hf
                    clear he hf
                    by_cases g1 : e.1 = f.1
                    · have m1 : ((bA e.1).toList != (bA f.1).toList) = false := by rw [bA_neq, decide_eq_true g1]; rfl
                      have m1' : ((bA e.1).toList == (bA f.1).toList) = true := by rw [bA_eqq, decide_eq_true g1]
                      by_cases g2 : e.2 = f.2
                      · have m2 : (e.2 != f.2) = false := by rw [int_neq, decide_eq_true g2]; rfl
                        have HT2 := Lib.hid (take_eq_snoc HT.out HE.out (by rw [show e = f from Prod.ext g1 g2]; exact HF.out))
                        clear g1 g2
                        go_wp2
                        go_quiet (fail)
                        go_wp2
                        go_roundg (n.ents.length - (k + 1))
                        case measure => omega
                        case rel => exact ⟨k + 1, _, by go_num, by omega, rfl, HT2.out, rfl⟩
                      · have m2 : (e.2 != f.2) = true := by rw [int_neq, decide_eq_false g2]; rfl
                        have HX := Lib.hid (HNO.out k e f HE.out HF.out (fun h => g2 (by rw [h])))
                        clear g1 g2
                        go_wp2
                        go_quiet (fail)
                        go_wp2
                        go_ret
                        exact ⟨ret_bool HX.out.symm, ref_bdN (ref_bdN HB1.out _) _⟩
                    · have m1 : ((bA e.1).toList != (bA f.1).toList) = true := by rw [bA_neq, decide_eq_false g1]; rfl
                      have m1' : ((bA e.1).toList == (bA f.1).toList) = false := by rw [bA_eqq, decide_eq_false g1]
                      have HX := Lib.hid (HNO.out k e f HE.out HF.out (fun h => g1 (by rw [h])))
                      clear g1
                      go_wp2
                      go_quiet (fail)
                      go_wp2
                      go_ret
                      exact ⟨ret_bool HX.out.symm, ref_bdN (ref_bdN HB1.out _) _⟩
                  · have hlt' : ¬ (k : Int) < (n.ents.length : Int) := by omega
                    have HX := Lib.hid (HY.out (by have := HT.out; rw [show k = n.ents.length by omega] at this; exact this))
                    go_wp2
                    go_ret
                    exact ⟨ret_bool HX.out.symm, ref_bdN HB1.out _⟩
              · have q6 : ((n.ents.length : Int) != (m.ents.length : Int)) = true := by rw [int_neq, decide_eq_false (by omega)]; rfl
                have HX := Lib.hid (show toB (n = m) = false from toB_false (fun h => h6 (by rw [h])))
                clear h0 h1 h2 h3 h4 h5 h6
                generalize toB (n = m) = X at HX ⊢
                go_enter Tryz.func41, Tryz.ntmps41
                go_wp2
                go_ret
                exact ⟨ret_bool HX.out.symm, HBX.out⟩
            · have q5 : ((bA n.target).toList != (bA m.target).toList) = true := by rw [bA_neq, decide_eq_false h5]; rfl
              have q5' : ((bA n.target).toList == (bA m.target).toList) = false := by rw [bA_eqq, decide_eq_false h5]
              have HX := Lib.hid (show toB (n = m) = false from toB_false (fun h => h5 (by rw [h])))
              clear h0 h1 h2 h3 h4 h5
              generalize toB (n = m) = X at HX ⊢
              go_enter Tryz.func41, Tryz.ntmps41
              go_wp2
              go_ret
              exact ⟨ret_bool HX.out.symm, HBX.out⟩
          · have q4 : ((bA n.data).toList != (bA m.data).toList) = true := by rw [bA_neq, decide_eq_false h4]; rfl
            have q4' : ((bA n.data).toList == (bA m.data).toList) = false := by rw [bA_eqq, decide_eq_false h4]
            have HX := Lib.hid (show toB (n = m) = false from toB_false (fun h => h4 (by rw [h])))
            clear h0 h1 h2 h3 h4
            generalize toB (n = m) = X at HX ⊢
            go_enter Tryz.func41, Tryz.ntmps41
            go_wp2
            go_ret
            exact ⟨ret_bool HX.out.symm, HBX.out⟩
        · have q3 : (n.gid != m.gid) = true := by rw [int_neq, decide_eq_false h3]; rfl
          have HX := Lib.hid (show toB (n = m) = false from toB_false (fun h => h3 (by rw [h])))
          clear h0 h1 h2 h3
          generalize toB (n = m) = X at HX ⊢
          go_enter Tryz.func41, Tryz.ntmps41
          go_wp2
          go_ret
          exact ⟨ret_bool HX.out.symm, HBX.out⟩
      · have q2 : (n.uid != m.uid) = true := by rw [int_neq, decide_eq_false h2]; rfl
        have HX := Lib.hid (show toB (n = m) = false from toB_false (fun h => h2 (by rw [h])))
        clear h0 h1 h2
        generalize toB (n = m) = X at HX ⊢
        go_enter Tryz.func41, Tryz.ntmps41
        go_wp2
        go_ret
        exact ⟨ret_bool HX.out.symm, HBX.out⟩
    · have q1 : (n.mode != m.mode) = true := by rw [int_neq, decide_eq_false h1]; rfl
      have HX := Lib.hid (show toB (n = m) = false from toB_false (fun h => h1 (by rw [h])))
      clear h0 h1
      generalize toB (n = m) = X at HX ⊢
      go_enter Tryz.func41, Tryz.ntmps41
      go_wp2
      go_ret
      exact ⟨ret_bool HX.out.symm, HBX.out⟩
  · have q0 : (n.kind != m.kind) = true := by rw [int_neq, decide_eq_false h0]; rfl
    have HX := Lib.hid (show toB (n = m) = false from toB_false (fun h => h0 (by rw [h])))
    clear h0
    generalize toB (n = m) = X at HX ⊢
    go_enter Tryz.func41, Tryz.ntmps41
    go_wp2
    go_ret
    exact ⟨ret_bool HX.out.symm, HBX.out⟩
end Go.Proofs.YtfopnfgfoicidaaGreat
namespace Go.Proofs.YtfopnfgfoicidaaGreat
open Go Go.RowKit
set_option maxRecDepth 100000

theorem rin_any (x m : Int) (w : World) : Calls Tryz.prog 140 #[.int .i64 x, .int .i64 m] w fun e w' => e = .returned (.bool (upB m x)) ∧ w = w' := by
  unfold upB
  by_cases h1 : 0 ≤ x
  · rw [decide_eq_true h1, Bool.true_and]
    go_enter Tryz.func140, Tryz.ntmps140
    go_wp2
    go_ret
    exact ⟨rfl, rfl⟩
  · rw [decide_eq_false h1, Bool.false_and]
    go_enter Tryz.func140, Tryz.ntmps140
    go_wp2
    go_ret
    exact ⟨rfl, rfl⟩
/-- It answers a bool, and only reads. -/
def QuietB (w : World) (b : Bool) (e : Ending) (w' : World) : Prop := e = .returned (.bool b) ∧ ∃ m, w' = w.drewN m
set_option maxRecDepth 100000 in
set_option maxHeartbeats 4000000 in
theorem ref_lessq (a b : Nm) (w : World) (ha : a.length ≤ 1000) (hb : b.length ≤ 1000) :
    Calls Tryz.prog 117 #[.string (bA a), .string (bA b)] w (QuietB w (lss a b)) := by
  have hsa := size_bA a
  have hsb := size_bA b
  have HD := Lib.hid (fun (k : Nat) (x y : UInt8) (ht : a.take k = b.take k) (hx : a[k]? = some x) (hy : b[k]? = some y) (hne : ¬ x = y) => lss_at ht hx hy hne)
  have HL := Lib.hid (fun (k : Nat) (ht : a.take k = b.take k) (h1 : k ≤ a.length) (h2 : k ≤ b.length) (he : k = a.length ∨ k = b.length) => lss_len ht h1 h2 he)
  generalize lss a b = X at HD HL ⊢
  have HSA := Lib.hid hsa
  have HSB := Lib.hid hsb
  obtain ⟨sa, hsa2⟩ : ∃ s, bA a = s := ⟨_, rfl⟩
  obtain ⟨sb, hsb2⟩ : ∃ s, bA b = s := ⟨_, rfl⟩
  have HAA := Lib.hid (fun (k : Nat) (h : k < sa.size) => show a[k]? = some sa[k] by subst hsa2; exact bAat h)
  have HBB := Lib.hid (fun (k : Nat) (h : k < sb.size) => show b[k]? = some sb[k] by subst hsb2; exact bAat h)
  rw [hsa2] at hsa ⊢
  rw [hsb2] at hsb ⊢
  have hza : sa.size ≤ 1000 := by omega
  have hzb : sb.size ≤ 1000 := by omega
  have HZA := Lib.hid hsa
  have HZB := Lib.hid hsb
  clear hsa hsb hsa2 hsb2 HSA HSB ha hb
  go_enter Tryz.func117, Tryz.ntmps117
  go_wp2
  go_loopg [5] sa.size (fun g s5 wr => ∃ k : Nat, s5 = .int .i64 k ∧ k ≤ sa.size ∧ k ≤ sb.size ∧ g = sa.size - k ∧ a.take k = b.take k ∧ ∃ nq, wr = w.drewN nq)
  case atStart => exact ⟨0, rfl, Nat.zero_le _, Nat.zero_le _, rfl, rfl, 0, rfl⟩
  case round =>
    obtain ⟨k, rfl, h1, h2, rfl, htk, nq, rfl⟩ := hrel
    have HT := Lib.hid htk
    clear htk
    by_cases ka : k < sa.size
    · have ka' : (k : Int) < (sa.size : Int) := by omega
      by_cases kb : k < sb.size
      · have kb' : (k : Int) < (sb.size : Int) := by omega
        obtain ⟨x, hx⟩ : ∃ x, sa[k] = x := ⟨_, rfl⟩
        obtain ⟨y, hy⟩ : ∃ y, sb[k] = y := ⟨_, rfl⟩
        have HXA := Lib.hid (show a[k]? = some x by rw [HAA.out k ka, hx])
        have HYB := Lib.hid (show b[k]? = some y by rw [HBB.out k kb, hy])
        by_cases hxy : x = y
        · subst hxy
          have q1 : ((x.toNat : Int) != (x.toNat : Int)) = false := by simp
          go_wp2
          go_quiet (fail)
          go_wp2
          go_roundg (sa.size - (k + 1))
          case measure => omega
          case rel => exact ⟨k + 1, by go_num, by omega, by omega, rfl, ref_take_snoc HT.out HXA.out HYB.out, _, rfl⟩
        · have q1 : ((x.toNat : Int) != (y.toNat : Int)) = true := by simp only [bne_iff_ne, ne_eq]; intro e; exact hxy (co_inj e)
          have HF := Lib.hid (show decide (x.toNat < y.toNat) = X from (HD.out k x y HT.out HXA.out HYB.out hxy).symm)
          clear hxy
          go_wp2
          go_quiet (fail)
          go_wp2
          go_quiet (fail)
          go_wp2
          go_ret
          exact ⟨ret_bool HF.out, by first | exact ⟨_, rfl⟩ | (simp only [World.drewN_drewN]; exact ⟨_, rfl⟩)⟩
      · have kb' : ¬ (k : Int) < (sb.size : Int) := by omega
        have HF := Lib.hid (show decide (sa.size < sb.size) = X by
          rw [HL.out k HT.out (by have := HZA.out; omega) (by have := HZB.out; omega) (.inr (by have := HZB.out; omega))]
          congr 1
          apply propext
          have := HZA.out
          have := HZB.out
          constructor <;> intro h <;> omega)
        go_wp2
        go_ret
        exact ⟨ret_bool HF.out, by first | exact ⟨_, rfl⟩ | (simp only [World.drewN_drewN]; exact ⟨_, rfl⟩)⟩
    · have ka' : ¬ (k : Int) < (sa.size : Int) := by omega
      have HF := Lib.hid (show decide (sa.size < sb.size) = X by
        rw [HL.out k HT.out (by have := HZA.out; omega) (by have := HZB.out; omega) (.inl (by have := HZA.out; omega))]
        congr 1
        apply propext
        have := HZA.out
        have := HZB.out
        constructor <;> intro h <;> omega)
      go_wp2
      go_ret
      exact ⟨ret_bool HF.out, by first | exact ⟨_, rfl⟩ | (simp only [World.drewN_drewN]; exact ⟨_, rfl⟩)⟩
set_option maxRecDepth 100000 in
set_option maxHeartbeats 8000000 in
theorem rents_any (n : Nd) (vn vk : Value) (w : World) (hN : StrsR w vn (nmA (nmE n.ents))) (hK : IntsR w vk (idE n.ents)) (hn : n.ents.length ≤ 1000) (hsz : ∀ e ∈ n.ents, e.1.length ≤ 1000) :
    Calls Tryz.prog 141 #[.agg (rfC n vn vk)] w fun e w' => e = .returned (.bool (toB (entsP n.ents))) ∧ Below w.heap.size w w' := by
  have HY := Lib.hid (show gdP n.ents → toB (entsP n.ents) = decide ((n.ents.length : Int) ≤ 8) from fun h => by
    by_cases q : n.ents.length ≤ 8
    · rw [toB_true ⟨h.1, h.2, q⟩, decide_eq_true (by omega)]
    · rw [toB_false (fun hp => q hp.2.2), decide_eq_false (by omega)])
  have HN1 := Lib.hid (fun (k : Nat) (e : En) (he : n.ents[k]? = some e) (h : nok e.1 = false) => show toB (entsP n.ents) = false from toB_false (fun hp => by rw [(hp.1 e (List.mem_of_getElem? he)).1] at h; cases h))
  have HN2 := Lib.hid (fun (k : Nat) (e : En) (he : n.ents[k]? = some e) (h : e.2 < 1) => show toB (entsP n.ents) = false from toB_false (fun hp => by have := (hp.1 e (List.mem_of_getElem? he)).2; omega))
  have HN3 := Lib.hid (fun (k : Nat) (e p : En) (hk : 0 < k) (he : n.ents[k]? = some e) (hp : n.ents[k - 1]? = some p) (h : lss p.1 e.1 = false) => show toB (entsP n.ents) = false from toB_false (fun hp2 => by
    have := adj_rise hp2.2.1 (k - 1) p.1 e.1 (nmE_at hp) (by rw [show k - 1 + 1 = k by omega]; exact nmE_at he)
    rw [this] at h
    cases h))
  have HB1 := Lib.hid (ba w (.cells (rfC n vn vk) 82))
  have HNN := Lib.hid (hN.below (ba w (.cells (rfC n vn vk) 82)))
  have HKK := Lib.hid (hK.below (ba w (.cells (rfC n vn vk) 82)))
  have HBX := Lib.hid (Blk.new w 82 (rfC n vn vk))
  generalize toB (entsP n.ents) = X at HY HN1 HN2 HN3 ⊢
  obtain ⟨A1, c1, rfl⟩ := strs_form hN (nm_len _)
  obtain ⟨A2, c2, rfl⟩ := ints_form hK (idE_len _)
  clear hN hK
  go_enter Tryz.func141, Tryz.ntmps141
  go_wp2
  go_loopg [3] n.ents.length (fun gh s3 wr => ∃ k : Nat, s3 = .int .i64 k ∧ k ≤ n.ents.length ∧ gh = n.ents.length - k ∧ gdP (n.ents.take k) ∧ Below (w.alloc (.cells (rfC n (.slice A1 n.ents.length c1) (.slice A2 n.ents.length c2)) 82)).heap.size (w.alloc (.cells (rfC n (.slice A1 n.ents.length c1) (.slice A2 n.ents.length c2)) 82)) wr)
  case atStart => exact ⟨0, rfl, Nat.zero_le _, rfl, gdP_nil, Below.refl _ _⟩
  case round =>
    obtain ⟨k, rfl, hk, rfl, hgd, hbr⟩ := hrel
    have HGD := Lib.hid hgd
    have HB := Lib.hid hbr
    have HBW := Lib.hid (bt hbr HB1.out)
    obtain ⟨-, -, -, -, -, p5, p6, -⟩ := (HBX.out.below hbr).c8
    clear hgd hbr
    by_cases hlt : k < n.ents.length
    · have hlt' : (k : Int) < (n.ents.length : Int) := by omega
      obtain ⟨e, he⟩ : ∃ e, n.ents[k]? = some e := ⟨_, List.getElem?_eq_getElem hlt⟩
      obtain ⟨ad1, hA1, d1⟩ := strs_get (HNN.out.below HB.out) (nmA_at (nmE_at he))
      obtain ⟨ad2, hA2, d2⟩ := ints_get (HKK.out.below HB.out) (idE_at he)
      subst hA1 hA2
      have HE := Lib.hid he
      have HNM := Lib.hid (fun W => ref_name (bA e.1) W (by rw [size_bA]; have := hsz e (List.mem_of_getElem? he); omega))
      rw [nam_nok, tl_bA] at HNM
      have he1 := hsz e (List.mem_of_getElem? he)
      clear he
      obtain ⟨NK, hNK⟩ : ∃ NK, nok e.1 = NK := ⟨_, rfl⟩
      rw [hNK] at HNM
      have HK := Lib.hid hNK
      clear hNK
      cases NK with
      | false =>
        go_wp2_with fail
        refine (HNM.out _).mono ?_
        rintro e3 w3 ⟨rfl, rfl⟩
        have HF := Lib.hid (HN1.out k e HE.out HK.out)
        go_wp2
        go_quiet (fail)
        go_wp2
        go_ret
        exact ⟨ret_bool HF.out.symm, bdN HBW.out _⟩
      | true =>
        by_cases h2 : e.2 < 1
        · have h2' : decide (e.2 < 1) = true := decide_eq_true h2
          have HF := Lib.hid (HN2.out k e HE.out h2)
          go_wp2_with fail
          refine (HNM.out _).mono ?_
          rintro e3 w3 ⟨rfl, rfl⟩
          go_wp2
          go_quiet (fail)
          go_wp2
          go_ret
          exact ⟨ret_bool HF.out.symm, bdN HBW.out _⟩
        · have h2' : decide (e.2 < 1) = false := decide_eq_false h2
          by_cases h0 : k = 0
          · have hk0 : decide (0 < k) = false := by simp; omega
            have hk1 : ¬ (0 : Int) < (k : Int) := by omega
            have HK0 := Lib.hid h0
            have HH2 := Lib.hid h2
            clear h0
            go_wp2_with fail
            refine (HNM.out _).mono ?_
            rintro e3 w3 ⟨rfl, rfl⟩
            go_wp2
            go_quiet (fail)
            go_wp2
            go_roundg (n.ents.length - (k + 1))
            case measure => omega
            case rel => exact ⟨k + 1, by go_num, by omega, rfl, gdP_snoc HE.out HGD.out HK.out (by have := HH2.out; omega) (.inl HK0.out), bdN HB.out _⟩
          · obtain ⟨p, hp⟩ : ∃ p, n.ents[k - 1]? = some p := ⟨_, List.getElem?_eq_getElem (by omega)⟩
            obtain ⟨ad3, hA3, d3⟩ := strs_get (HNN.out.below HB.out) (nmA_at (nmE_at hp))
            injection hA3 with hA3
            subst hA3
            have hp1 := hsz p (List.mem_of_getElem? hp)
            have HP := Lib.hid hp
            clear hp
            obtain ⟨j, hj⟩ : ∃ j, j = k - 1 := ⟨_, rfl⟩
            rw [← hj] at d3 HP
            have kj1 : (k : Int) - 1 = (j : Int) := by omega
            have kj2 : IntKind.i64.wrap ((k : Int) - 1) = (j : Int) := by rw [IntKind.wrap_i64]; omega
            have kj5 : IntKind.i64.wrap (j : Int) = (j : Int) := by rw [IntKind.wrap_i64]; omega
            have kj3 : (j : Int) < (n.ents.length : Int) := by omega
            have kj4 : j < n.ents.length := by omega
            have hk0 : decide (0 < k) = true := by simp; omega
            have hk1 : (0 : Int) < (k : Int) := by omega
            have HJ := Lib.hid hj
            have HK0 := Lib.hid h0
            have HH2 := Lib.hid h2
            have HBD := Lib.hid (bdN HBW.out 1)
            have HBD0 := Lib.hid (bdN HB.out 1)
            clear hj h0
            obtain ⟨LX, hLX⟩ : ∃ LX, lss p.1 e.1 = LX := ⟨_, rfl⟩
            have HLS := Lib.hid (fun W => ref_lessq p.1 e.1 W hp1 he1)
            rw [hLX] at HLS
            have HLX := Lib.hid hLX
            clear hLX
            cases LX with
            | true =>
              go_wp2_with fail
              refine (HNM.out _).mono ?_
              rintro e3 w3 ⟨rfl, rfl⟩
              go_wp2
              go_quiet ((go_at_call 117; exact Calls.quiet_of (HLS.out _)))
              go_wp2
              go_roundg (n.ents.length - (k + 1))
              case measure => omega
              case rel => exact ⟨k + 1, by go_num, by omega, rfl, gdP_snoc HE.out HGD.out HK.out (by have := HH2.out; omega) (.inr ⟨p, by rw [← HJ.out]; exact HP.out, HLX.out⟩), bdN HB.out _⟩
            | false =>
              have HF := Lib.hid (HN3.out k e p (by have := HK0.out; omega) HE.out (by rw [← HJ.out]; exact HP.out) HLX.out)
              go_wp2_with fail
              refine (HNM.out _).mono ?_
              rintro e3 w3 ⟨rfl, rfl⟩
              go_wp2
              go_quiet ((go_at_call 117; exact Calls.quiet_of (HLS.out _)))
              go_wp2
              go_ret
              exact ⟨ret_bool HF.out.symm, bdN HBW.out _⟩
    · have hlt' : ¬ (k : Int) < (n.ents.length : Int) := by omega
      have HX := Lib.hid (HY.out (by have := HGD.out; rw [List.take_of_length_le (by omega)] at this; exact this))
      go_wp2
      go_ret
      exact ⟨ret_bool HX.out.symm, HBW.out⟩
end Go.Proofs.YtfopnfgfoicidaaGreat
namespace Go.Proofs.YtfopnfgfoicidaaGreat
open Go Go.RowKit
set_option maxRecDepth 100000

set_option maxRecDepth 100000 in
set_option maxHeartbeats 16000000 in
theorem rright_any (n : Nd) (vn vk : Value) (w : World) (hN : StrsR w vn (nmA (nmE n.ents))) (hK : IntsR w vk (idE n.ents)) (hf : Few n) :
    Calls Tryz.prog 116 #[.agg (rfC n vn vk)] w fun e w' => e = .returned (.bool (toB (rightP n))) ∧ Below w.heap.size w w' := by
  have HB1 := Lib.hid (ba w (.cells (rfC n vn vk) 82))
  have HER := Lib.hid (rents_any n vn vk _ (hN.below (ba w (.cells (rfC n vn vk) 82))) (hK.below (ba w (.cells (rfC n vn vk) 82))) hf.ents hf.names)
  have HFT := Lib.hid (fun W => ref_fits (bA n.target) W (by rw [size_bA]; have := hf.target; omega))
  rw [fit_fok, tl_bA] at HFT
  have U1 := Lib.hid (fun W => rin_any n.mode 4095 W)
  have U2 := Lib.hid (fun W => rin_any n.uid 65535 W)
  have U3 := Lib.hid (fun W => rin_any n.gid 65535 W)
  have hdl := hf.data
  have hel := hf.ents
  have hds := size_bA n.data
  obtain ⟨A1, c1, rfl⟩ := strs_form hN (nm_len _)
  obtain ⟨A2, c2, rfl⟩ := ints_form hK (idE_len _)
  clear hN hK hf
  obtain ⟨u1, hu1⟩ : ∃ u, upB 4095 n.mode = u := ⟨_, rfl⟩
  obtain ⟨u2, hu2⟩ : ∃ u, upB 65535 n.uid = u := ⟨_, rfl⟩
  obtain ⟨u3, hu3⟩ : ∃ u, upB 65535 n.gid = u := ⟨_, rfl⟩
  rw [hu1] at U1
  rw [hu2] at U2
  rw [hu3] at U3
  cases u1 with
  | false =>
    have HX := Lib.hid (show toB (rightP n) = false from toB_false (fun h => upB_not hu1 h.1.1))
    clear hu1 hu2 hu3
    by_cases k1 : n.kind = 1
    · have hk : (n.kind == 1) = true := by simpa using k1
      clear k1
      generalize toB (rightP n) = X at HX ⊢
      go_enter Tryz.func116, Tryz.ntmps116
      go_wp2_with fail
      refine (U1.out _).mono ?_
      rintro e w' ⟨rfl, rfl⟩
      go_wp2
      go_ret
      exact ⟨ret_bool (by first | exact HX.out.symm | exact (decide_eq_true (by omega)).trans HX.out.symm | exact (decide_eq_false (by omega)).trans HX.out.symm), HB1.out⟩
    · have hk : (n.kind == 1) = false := by simpa using k1
      by_cases k2 : n.kind = 2
      · have hk2 : (n.kind == 2) = true := by simpa using k2
        clear k1 k2
        generalize toB (rightP n) = X at HX ⊢
        go_enter Tryz.func116, Tryz.ntmps116
        go_wp2_with fail
        refine (U1.out _).mono ?_
        rintro e w' ⟨rfl, rfl⟩
        go_wp2
        go_ret
        exact ⟨ret_bool (by first | exact HX.out.symm | exact (decide_eq_true (by omega)).trans HX.out.symm | exact (decide_eq_false (by omega)).trans HX.out.symm), HB1.out⟩
      · have hk2 : (n.kind == 2) = false := by simpa using k2
        clear k1 k2
        generalize toB (rightP n) = X at HX ⊢
        go_enter Tryz.func116, Tryz.ntmps116
        go_wp2_with fail
        refine (U1.out _).mono ?_
        rintro e w' ⟨rfl, rfl⟩
        go_wp2
        go_ret
        exact ⟨ret_bool (by first | exact HX.out.symm | exact (decide_eq_true (by omega)).trans HX.out.symm | exact (decide_eq_false (by omega)).trans HX.out.symm), HB1.out⟩
  | true =>
    cases u2 with
    | false =>
      have HX := Lib.hid (show toB (rightP n) = false from toB_false (fun h => upB_not hu2 h.1.2.1))
      clear hu1 hu2 hu3
      by_cases k1 : n.kind = 1
      · have hk : (n.kind == 1) = true := by simpa using k1
        clear k1
        generalize toB (rightP n) = X at HX ⊢
        go_enter Tryz.func116, Tryz.ntmps116
        go_wp2_with fail
        refine (U1.out _).mono ?_
        rintro e w' ⟨rfl, rfl⟩
        go_wp2_with fail
        refine (U2.out _).mono ?_
        rintro e w' ⟨rfl, rfl⟩
        go_wp2
        go_ret
        exact ⟨ret_bool (by first | exact HX.out.symm | exact (decide_eq_true (by omega)).trans HX.out.symm | exact (decide_eq_false (by omega)).trans HX.out.symm), HB1.out⟩
      · have hk : (n.kind == 1) = false := by simpa using k1
        by_cases k2 : n.kind = 2
        · have hk2 : (n.kind == 2) = true := by simpa using k2
          clear k1 k2
          generalize toB (rightP n) = X at HX ⊢
          go_enter Tryz.func116, Tryz.ntmps116
          go_wp2_with fail
          refine (U1.out _).mono ?_
          rintro e w' ⟨rfl, rfl⟩
          go_wp2_with fail
          refine (U2.out _).mono ?_
          rintro e w' ⟨rfl, rfl⟩
          go_wp2
          go_ret
          exact ⟨ret_bool (by first | exact HX.out.symm | exact (decide_eq_true (by omega)).trans HX.out.symm | exact (decide_eq_false (by omega)).trans HX.out.symm), HB1.out⟩
        · have hk2 : (n.kind == 2) = false := by simpa using k2
          clear k1 k2
          generalize toB (rightP n) = X at HX ⊢
          go_enter Tryz.func116, Tryz.ntmps116
          go_wp2_with fail
          refine (U1.out _).mono ?_
          rintro e w' ⟨rfl, rfl⟩
          go_wp2_with fail
          refine (U2.out _).mono ?_
          rintro e w' ⟨rfl, rfl⟩
          go_wp2
          go_ret
          exact ⟨ret_bool (by first | exact HX.out.symm | exact (decide_eq_true (by omega)).trans HX.out.symm | exact (decide_eq_false (by omega)).trans HX.out.symm), HB1.out⟩
    | true =>
      cases u3 with
      | false =>
        have HX := Lib.hid (show toB (rightP n) = false from toB_false (fun h => upB_not hu3 h.1.2.2))
        clear hu1 hu2 hu3
        by_cases k1 : n.kind = 1
        · have hk : (n.kind == 1) = true := by simpa using k1
          clear k1
          generalize toB (rightP n) = X at HX ⊢
          go_enter Tryz.func116, Tryz.ntmps116
          go_wp2_with fail
          refine (U1.out _).mono ?_
          rintro e w' ⟨rfl, rfl⟩
          go_wp2_with fail
          refine (U2.out _).mono ?_
          rintro e w' ⟨rfl, rfl⟩
          go_wp2_with fail
          refine (U3.out _).mono ?_
          rintro e w' ⟨rfl, rfl⟩
          go_wp2
          go_ret
          exact ⟨ret_bool (by first | exact HX.out.symm | exact (decide_eq_true (by omega)).trans HX.out.symm | exact (decide_eq_false (by omega)).trans HX.out.symm), HB1.out⟩
        · have hk : (n.kind == 1) = false := by simpa using k1
          by_cases k2 : n.kind = 2
          · have hk2 : (n.kind == 2) = true := by simpa using k2
            clear k1 k2
            generalize toB (rightP n) = X at HX ⊢
            go_enter Tryz.func116, Tryz.ntmps116
            go_wp2_with fail
            refine (U1.out _).mono ?_
            rintro e w' ⟨rfl, rfl⟩
            go_wp2_with fail
            refine (U2.out _).mono ?_
            rintro e w' ⟨rfl, rfl⟩
            go_wp2_with fail
            refine (U3.out _).mono ?_
            rintro e w' ⟨rfl, rfl⟩
            go_wp2
            go_ret
            exact ⟨ret_bool (by first | exact HX.out.symm | exact (decide_eq_true (by omega)).trans HX.out.symm | exact (decide_eq_false (by omega)).trans HX.out.symm), HB1.out⟩
          · have hk2 : (n.kind == 2) = false := by simpa using k2
            clear k1 k2
            generalize toB (rightP n) = X at HX ⊢
            go_enter Tryz.func116, Tryz.ntmps116
            go_wp2_with fail
            refine (U1.out _).mono ?_
            rintro e w' ⟨rfl, rfl⟩
            go_wp2_with fail
            refine (U2.out _).mono ?_
            rintro e w' ⟨rfl, rfl⟩
            go_wp2_with fail
            refine (U3.out _).mono ?_
            rintro e w' ⟨rfl, rfl⟩
            go_wp2
            go_ret
            exact ⟨ret_bool (by first | exact HX.out.symm | exact (decide_eq_true (by omega)).trans HX.out.symm | exact (decide_eq_false (by omega)).trans HX.out.symm), HB1.out⟩
      | true =>
        have hH : headP n := ⟨upB_iff.1 hu1, upB_iff.1 hu2, upB_iff.1 hu3⟩
        clear hu1 hu2 hu3
        by_cases k1 : n.kind = 1
        · have hk : (n.kind == 1) = true := by simpa using k1
          have hX : rightP n ↔ n.ents = [] ∧ n.target = [] ∧ n.data.length ≤ 48 := by
            constructor
            · rintro ⟨-, h | h | h⟩
              · exact h.2
              · omega
              · omega
            · exact fun h => ⟨hH, .inl ⟨k1, h⟩⟩
          clear hH k1
          by_cases e1 : n.ents = []
          · have q1 := int0 e1
            by_cases e2 : n.target = []
            · have q2 := eq_nil_of _ e2
              by_cases e3 : n.data.length ≤ 48
              · have q3 : ((bA n.data).size : Int) ≤ 48 := by omega
                have HX := Lib.hid (show toB (rightP n) = true from toB_true (hX.2 ⟨e1, e2, e3⟩))
                clear hX e1 e2 e3
                generalize toB (rightP n) = X at HX ⊢
                go_enter Tryz.func116, Tryz.ntmps116
                go_wp2_with fail
                refine (U1.out _).mono ?_
                rintro e w' ⟨rfl, rfl⟩
                go_wp2_with fail
                refine (U2.out _).mono ?_
                rintro e w' ⟨rfl, rfl⟩
                go_wp2_with fail
                refine (U3.out _).mono ?_
                rintro e w' ⟨rfl, rfl⟩
                go_wp2
                go_ret
                exact ⟨ret_bool (by first | exact HX.out.symm | exact (decide_eq_true (by omega)).trans HX.out.symm | exact (decide_eq_false (by omega)).trans HX.out.symm), HB1.out⟩
              · have q3 : ¬ ((bA n.data).size : Int) ≤ 48 := by omega
                have HX := Lib.hid (show toB (rightP n) = false from toB_false (fun h => e3 ((hX.1 h).2.2)))
                clear hX e1 e2 e3
                generalize toB (rightP n) = X at HX ⊢
                go_enter Tryz.func116, Tryz.ntmps116
                go_wp2_with fail
                refine (U1.out _).mono ?_
                rintro e w' ⟨rfl, rfl⟩
                go_wp2_with fail
                refine (U2.out _).mono ?_
                rintro e w' ⟨rfl, rfl⟩
                go_wp2_with fail
                refine (U3.out _).mono ?_
                rintro e w' ⟨rfl, rfl⟩
                go_wp2
                go_ret
                exact ⟨ret_bool (by first | exact HX.out.symm | exact (decide_eq_true (by omega)).trans HX.out.symm | exact (decide_eq_false (by omega)).trans HX.out.symm), HB1.out⟩
            · have q2 := ne_nil_of _ e2
              have HX := Lib.hid (show toB (rightP n) = false from toB_false (fun h => e2 ((hX.1 h).2.1)))
              clear hX e1 e2
              generalize toB (rightP n) = X at HX ⊢
              go_enter Tryz.func116, Tryz.ntmps116
              go_wp2_with fail
              refine (U1.out _).mono ?_
              rintro e w' ⟨rfl, rfl⟩
              go_wp2_with fail
              refine (U2.out _).mono ?_
              rintro e w' ⟨rfl, rfl⟩
              go_wp2_with fail
              refine (U3.out _).mono ?_
              rintro e w' ⟨rfl, rfl⟩
              go_wp2
              go_ret
              exact ⟨ret_bool (by first | exact HX.out.symm | exact (decide_eq_true (by omega)).trans HX.out.symm | exact (decide_eq_false (by omega)).trans HX.out.symm), HB1.out⟩
          · have q1 := int1 e1
            have HX := Lib.hid (show toB (rightP n) = false from toB_false (fun h => e1 ((hX.1 h).1)))
            clear hX e1
            generalize toB (rightP n) = X at HX ⊢
            go_enter Tryz.func116, Tryz.ntmps116
            go_wp2_with fail
            refine (U1.out _).mono ?_
            rintro e w' ⟨rfl, rfl⟩
            go_wp2_with fail
            refine (U2.out _).mono ?_
            rintro e w' ⟨rfl, rfl⟩
            go_wp2_with fail
            refine (U3.out _).mono ?_
            rintro e w' ⟨rfl, rfl⟩
            go_wp2
            go_ret
            exact ⟨ret_bool (by first | exact HX.out.symm | exact (decide_eq_true (by omega)).trans HX.out.symm | exact (decide_eq_false (by omega)).trans HX.out.symm), HB1.out⟩
        · have hk : (n.kind == 1) = false := by simpa using k1
          by_cases k2 : n.kind = 2
          · have hk2 : (n.kind == 2) = true := by simpa using k2
            have hX : rightP n ↔ n.data = [] ∧ n.target = [] ∧ entsP n.ents := by
              constructor
              · rintro ⟨-, h | h | h⟩
                · omega
                · exact h.2
                · omega
              · exact fun h => ⟨hH, .inr (.inl ⟨k2, h⟩)⟩
            clear hH k1 k2
            by_cases e1 : n.data = []
            · have q1 := eq_nil_of _ e1
              by_cases e2 : n.target = []
              · have q2 := eq_nil_of _ e2
                have HX := Lib.hid (show toB (rightP n) = toB (entsP n.ents) by
                  by_cases h : entsP n.ents
                  · rw [toB_true h, toB_true (hX.2 ⟨e1, e2, h⟩)]
                  · rw [toB_false h, toB_false (fun h2 => h (hX.1 h2).2.2)])
                clear hX e1 e2
                generalize toB (entsP n.ents) = Y at HX HER
                generalize toB (rightP n) = X at HX ⊢
                go_enter Tryz.func116, Tryz.ntmps116
                go_wp2_with fail
                refine (U1.out _).mono ?_
                rintro e w' ⟨rfl, rfl⟩
                go_wp2_with fail
                refine (U2.out _).mono ?_
                rintro e w' ⟨rfl, rfl⟩
                go_wp2_with fail
                refine (U3.out _).mono ?_
                rintro e w' ⟨rfl, rfl⟩
                go_wp2_with fail
                refine HER.out.mono ?_
                rintro e w2 ⟨rfl, hb2⟩
                have HB2 := Lib.hid (bt hb2 HB1.out)
                clear hb2
                go_wp2
                go_ret
                exact ⟨ret_bool HX.out.symm, HB2.out⟩
              · have q2 := ne_nil_of _ e2
                have HX := Lib.hid (show toB (rightP n) = false from toB_false (fun h => e2 (hX.1 h).2.1))
                clear hX e1 e2
                generalize toB (rightP n) = X at HX ⊢
                go_enter Tryz.func116, Tryz.ntmps116
                go_wp2_with fail
                refine (U1.out _).mono ?_
                rintro e w' ⟨rfl, rfl⟩
                go_wp2_with fail
                refine (U2.out _).mono ?_
                rintro e w' ⟨rfl, rfl⟩
                go_wp2_with fail
                refine (U3.out _).mono ?_
                rintro e w' ⟨rfl, rfl⟩
                go_wp2
                go_ret
                exact ⟨ret_bool (by first | exact HX.out.symm | exact (decide_eq_true (by omega)).trans HX.out.symm | exact (decide_eq_false (by omega)).trans HX.out.symm), HB1.out⟩
            · have q1 := ne_nil_of _ e1
              have HX := Lib.hid (show toB (rightP n) = false from toB_false (fun h => e1 (hX.1 h).1))
              clear hX e1
              generalize toB (rightP n) = X at HX ⊢
              go_enter Tryz.func116, Tryz.ntmps116
              go_wp2_with fail
              refine (U1.out _).mono ?_
              rintro e w' ⟨rfl, rfl⟩
              go_wp2_with fail
              refine (U2.out _).mono ?_
              rintro e w' ⟨rfl, rfl⟩
              go_wp2_with fail
              refine (U3.out _).mono ?_
              rintro e w' ⟨rfl, rfl⟩
              go_wp2
              go_ret
              exact ⟨ret_bool (by first | exact HX.out.symm | exact (decide_eq_true (by omega)).trans HX.out.symm | exact (decide_eq_false (by omega)).trans HX.out.symm), HB1.out⟩
          · have hk2 : (n.kind == 2) = false := by simpa using k2
            by_cases k3 : n.kind = 3
            · have hk3 : (n.kind == 3) = true := by simpa using k3
              have hX : rightP n ↔ n.data = [] ∧ n.ents = [] ∧ n.mode = 511 ∧ fok n.target = true := by
                constructor
                · rintro ⟨-, h | h | h⟩
                  · omega
                  · omega
                  · exact h.2
                · exact fun h => ⟨hH, .inr (.inr ⟨k3, h⟩)⟩
              clear hH k1 k2 k3
              by_cases e1 : n.data = []
              · have q1 := eq_nil_of _ e1
                by_cases e2 : n.ents = []
                · have q2 := int0 e2
                  by_cases e3 : n.mode = 511
                  · have q3 : (n.mode == 511) = true := by simpa using e3
                    have HX := Lib.hid (show toB (rightP n) = fok n.target by
                      cases h : fok n.target with
                      | true => exact toB_true (hX.2 ⟨e1, e2, e3, h⟩)
                      | false => exact toB_false (fun h2 => by have := (hX.1 h2).2.2.2; rw [h] at this; cases this))
                    clear hX e1 e2 e3
                    generalize fok n.target = Y at HX HFT
                    generalize toB (rightP n) = X at HX ⊢
                    go_enter Tryz.func116, Tryz.ntmps116
                    go_wp2_with fail
                    refine (U1.out _).mono ?_
                    rintro e w' ⟨rfl, rfl⟩
                    go_wp2_with fail
                    refine (U2.out _).mono ?_
                    rintro e w' ⟨rfl, rfl⟩
                    go_wp2_with fail
                    refine (U3.out _).mono ?_
                    rintro e w' ⟨rfl, rfl⟩
                    go_wp2_with fail
                    refine (HFT.out _).mono ?_
                    rintro e w' ⟨rfl, rfl⟩
                    go_wp2
                    go_ret
                    exact ⟨ret_bool (by first | exact HX.out.symm | exact (decide_eq_true (by omega)).trans HX.out.symm | exact (decide_eq_false (by omega)).trans HX.out.symm), HB1.out⟩
                  · have q3 : (n.mode == 511) = false := by simpa using e3
                    have HX := Lib.hid (show toB (rightP n) = false from toB_false (fun h => e3 (hX.1 h).2.2.1))
                    clear hX e1 e2 e3
                    generalize toB (rightP n) = X at HX ⊢
                    go_enter Tryz.func116, Tryz.ntmps116
                    go_wp2_with fail
                    refine (U1.out _).mono ?_
                    rintro e w' ⟨rfl, rfl⟩
                    go_wp2_with fail
                    refine (U2.out _).mono ?_
                    rintro e w' ⟨rfl, rfl⟩
                    go_wp2_with fail
                    refine (U3.out _).mono ?_
                    rintro e w' ⟨rfl, rfl⟩
                    go_wp2
                    go_ret
                    exact ⟨ret_bool (by first | exact HX.out.symm | exact (decide_eq_true (by omega)).trans HX.out.symm | exact (decide_eq_false (by omega)).trans HX.out.symm), HB1.out⟩
                · have q2 := int1 e2
                  have HX := Lib.hid (show toB (rightP n) = false from toB_false (fun h => e2 (hX.1 h).2.1))
                  clear hX e1 e2
                  generalize toB (rightP n) = X at HX ⊢
                  go_enter Tryz.func116, Tryz.ntmps116
                  go_wp2_with fail
                  refine (U1.out _).mono ?_
                  rintro e w' ⟨rfl, rfl⟩
                  go_wp2_with fail
                  refine (U2.out _).mono ?_
                  rintro e w' ⟨rfl, rfl⟩
                  go_wp2_with fail
                  refine (U3.out _).mono ?_
                  rintro e w' ⟨rfl, rfl⟩
                  go_wp2
                  go_ret
                  exact ⟨ret_bool (by first | exact HX.out.symm | exact (decide_eq_true (by omega)).trans HX.out.symm | exact (decide_eq_false (by omega)).trans HX.out.symm), HB1.out⟩
              · have q1 := ne_nil_of _ e1
                have HX := Lib.hid (show toB (rightP n) = false from toB_false (fun h => e1 (hX.1 h).1))
                clear hX e1
                generalize toB (rightP n) = X at HX ⊢
                go_enter Tryz.func116, Tryz.ntmps116
                go_wp2_with fail
                refine (U1.out _).mono ?_
                rintro e w' ⟨rfl, rfl⟩
                go_wp2_with fail
                refine (U2.out _).mono ?_
                rintro e w' ⟨rfl, rfl⟩
                go_wp2_with fail
                refine (U3.out _).mono ?_
                rintro e w' ⟨rfl, rfl⟩
                go_wp2
                go_ret
                exact ⟨ret_bool (by first | exact HX.out.symm | exact (decide_eq_true (by omega)).trans HX.out.symm | exact (decide_eq_false (by omega)).trans HX.out.symm), HB1.out⟩
            · have hk3 : (n.kind == 3) = false := by simpa using k3
              have HX := Lib.hid (show toB (rightP n) = false from toB_false (fun h => by
                rcases h.2 with h | h | h
                · exact k1 h.1
                · exact k2 h.1
                · exact k3 h.1))
              clear hH k1 k2 k3
              generalize toB (rightP n) = X at HX ⊢
              go_enter Tryz.func116, Tryz.ntmps116
              go_wp2_with fail
              refine (U1.out _).mono ?_
              rintro e w' ⟨rfl, rfl⟩
              go_wp2_with fail
              refine (U2.out _).mono ?_
              rintro e w' ⟨rfl, rfl⟩
              go_wp2_with fail
              refine (U3.out _).mono ?_
              rintro e w' ⟨rfl, rfl⟩
              go_wp2
              go_ret
              exact ⟨ret_bool (by first | exact HX.out.symm | exact (decide_eq_true (by omega)).trans HX.out.symm | exact (decide_eq_false (by omega)).trans HX.out.symm), HB1.out⟩
end Go.Proofs.YtfopnfgfoicidaaGreat
namespace Go.Proofs.YtfopnfgfoicidaaGreat
open Go Go.RowKit
set_option maxRecDepth 100000

attribute [local go_sem] cell_off4 cell_blk4
/-- The answer with a table: the table, and what stands behind it. -/
def TabAns (P : Nat → Prop) (w : World) (t : List Nd) (f : Value → Value) (e : Ending) (w' : World) : Prop := ∃ v, e = .returned (f v) ∧ NsR P w' v t ∧ Below w.heap.size w w'
theorem boxes {w : World} {a b c : Obj} : Below w.heap.size w (((w.alloc a).alloc b).alloc c) := al (al (ba _ _) _) _
end Go.Proofs.YtfopnfgfoicidaaGreat
namespace Go.Proofs.YtfopnfgfoicidaaGreat
open Go Go.RowKit
set_option maxRecDepth 100000

attribute [local go_sem] cell_off4 cell_blk4
set_option maxRecDepth 100000 in
set_option maxHeartbeats 8000000 in
theorem radd_any {P : Nat → Prop} (v : Value) (t : List Nd) (i : Int) (n : Nd) (vn vk : Value) (w : World) (h : NsR P w v t) (hl : t.length ≤ 24) (hN : StrsR w vn (nmA (nmE n.ents))) (hK : IntsR w vk (idE n.ents)) (hf : Few n) (hpn : LP (fun b => P b ∧ b < w.heap.size) vn) (hpk : LP (fun b => P b ∧ b < w.heap.size) vk) (hP : ∀ b, w.heap.size ≤ b → P b) :
    Calls Tryz.prog 86 #[.agg #[v], .agg (rfC n vn vk)] w (TabAns P w (actT t 1 i n (toB (rightP n))) (fun v' => .tuple #[.agg #[v'], .int .i64 (addI t (toB (rightP n))), .int .i64 (addE t (toB (rightP n)))])) := by
  obtain ⟨W1, hW1⟩ : ∃ W1, W1 = ((w.alloc (.cells #[v] 32)).alloc (.cells (rfC n vn vk) 82)).alloc (.cells #[.slice none 0 0] 32) := ⟨_, rfl⟩
  have hb1 : Below w.heap.size w W1 := by rw [hW1]; exact boxes
  have hz1 : W1.heap.size = w.heap.size + 3 := by rw [hW1]; simp
  have hkt : Blk W1 w.heap.size 32 #[v] := by rw [hW1]; exact ((Blk.new w 32 #[v]).alloc _).alloc _
  have hkn : Blk W1 (w.heap.size + 1) 82 (rfC n vn vk) := by
    rw [hW1]
    have := Blk.new (w.alloc (.cells #[v] 32)) 82 (rfC n vn vk)
    rw [show (w.alloc (.cells #[v] 32)).heap.size = w.heap.size + 1 by simp] at this
    exact this.alloc _
  have hkr : Blk W1 (w.heap.size + 2) 32 #[.slice none 0 0] := by
    rw [hW1]
    have := Blk.new ((w.alloc (.cells #[v] 32)).alloc (.cells (rfC n vn vk) 82)) 32 #[.slice none 0 0]
    rw [show ((w.alloc (.cells #[v] 32)).alloc (.cells (rfC n vn vk) 82)).heap.size = w.heap.size + 2 by simp] at this
    exact this
  have HH := Lib.hid h
  have HPP := Lib.hid hP
  have HB1 := Lib.hid hb1
  have HZ1 := Lib.hid hz1
  have HKT := Lib.hid hkt
  have HKN := Lib.hid hkn
  have HKR := Lib.hid hkr
  have HRI := Lib.hid (fun W (hb : Below w.heap.size w W) => rright_any n vn vk W (hN.below hb) (hK.below hb) hf)
  obtain ⟨g, c, rfl⟩ := ns_form h
  obtain ⟨A1, c1, rfl⟩ := strs_form hN (nm_len _)
  obtain ⟨A2, c2, rfl⟩ := ints_form hK (idE_len _)
  have HEND := Lib.hid (fun (W u : _) (hb : Below w.heap.size w W) => show NsR P (W.setCell ⟨w.heap.size + 2, 0, none⟩ u) (.slice (some ⟨g, 0, none⟩) t.length c) t ∧ Below w.heap.size w (W.setCell ⟨w.heap.size + 2, 0, none⟩ u) from
    have hf := below_grown hb (grown_setCell W ⟨w.heap.size + 2, 0, none⟩ u) (Nat.le_add_right _ _)
    ⟨h.below hf, hf⟩)
  clear hP
  by_cases hn : rightP n
  · have HFR := Lib.hid (fun k => free_ge t 0 k)
    rw [toB_true hn] at HRI ⊢
    have HX0 := Lib.hid (show freeT t 0 = 0 → actT t 1 i n true = t ∧ addI t true = 0 ∧ addE t true = 28 from fun hF => ⟨by rw [actT, if_neg (by decide), if_pos rfl, if_neg (fun q => q.2 hF)], by rw [addI, if_pos rfl, hF]; rfl, by rw [addE, if_neg (by decide), if_pos hF]⟩)
    have HX1 := Lib.hid (show ∀ k : Nat, freeT t 0 = k + 1 → actT t 1 i n true = setT t ((k : Int) + 1) n ∧ addI t true = (k : Int) + 1 ∧ addE t true = 0 from fun k hF => ⟨by rw [actT, if_neg (by decide), if_pos rfl, if_pos ⟨rfl, by omega⟩, hF]; rfl, by rw [addI, if_pos rfl, hF]; rfl, by rw [addE, if_neg (by decide), if_neg (by omega)]⟩)
    have HWI := Lib.hid (fun (k : Nat) (hlt : k < t.length) W (hb : Below w.heap.size w W) => rwith_any _ t k n _ _ w W h hb hl hlt hN hK hpn hpk)
    have HNS := Lib.hid (fun W (hb : Below w.heap.size w W) => h.below hb)
    generalize actT t 1 i n true = T at HX0 HX1 ⊢
    generalize addI t true = I at HX0 HX1 ⊢
    generalize addE t true = E at HX0 HX1 ⊢
    clear h hN hK hpn hpk hb1 hz1 hkt hkn hkr hn
    subst hW1
    go_enter Tryz.func86, Tryz.ntmps86
    go_wp2_with fail
    refine (HRI.out _ HB1.out).mono ?_
    rintro e w2 ⟨rfl, hb2⟩
    have HB2 := Lib.hid (bt hb2 HB1.out)
    have HKT2 := Lib.hid (HKT.out.below hb2)
    have HKN2 := Lib.hid (HKN.out.below hb2)
    have HKR2 := Lib.hid (HKR.out.below hb2)
    have HZ2 := Lib.hid (show w.heap.size + 3 ≤ w2.heap.size by rw [← HZ1.out]; exact hb2.size)
    clear hb2
    go_wp2
    go_loopg [8] t.length (fun gh s8 wr => ∃ k : Nat, s8 = .int .i64 ((k : Int) + 1) ∧ k ≤ t.length ∧ gh = t.length - k ∧ (∀ j, j < k → j < t.length → tis t ((j : Int) + 1) = true) ∧ w2 = wr)
    case atStart => exact ⟨0, rfl, Nat.zero_le _, rfl, fun j h => absurd h (Nat.not_lt_zero _), rfl⟩
    case round =>
      obtain ⟨k, rfl, hk, rfl, hall, rfl⟩ := hrel
      have HALL := Lib.hid hall
      have t0 : w2.cell? ⟨w.heap.size, 0, none⟩ = some (.slice (some ⟨g, 0, none⟩) t.length c) := HKT2.out.cell 0
      clear hall
      by_cases hlt : k < t.length
      · have hlt' : (k : Int) + 1 ≤ (t.length : Int) := by omega
        have hlt2 : (k : Int) < (t.length : Int) := by omega
        obtain ⟨m, hm⟩ : ∃ m, t[k]? = some m := ⟨_, List.getElem?_eq_getElem hlt⟩
        obtain ⟨vm, wm, ⟨c0, -, -, -, -, -, -, -⟩, -, -⟩ := ns_get (HNS.out w2 HB2.out) hm
        have HTI := Lib.hid (show tis t ((k : Int) + 1) = decide (m.kind ≠ 0) by
          obtain ⟨h5, h6⟩ := List.getElem?_eq_some_iff.1 hm
          rw [tis, tget_at h5, h6])
        by_cases q : m.kind = 0
        · have q1 : (m.kind == 0) = true := by simpa using q
          have hX := HX1.out k (by
            have h1 := (HFR.out k HALL.out hk).2 hlt (by
              obtain ⟨h5, h6⟩ := List.getElem?_eq_some_iff.1 hm
              rw [h6]; exact q)
            omega)
          have HX := Lib.hid hX
          obtain ⟨p0, p1, p2, p3, p4, p5, p6, p7⟩ := HKN2.out.c8
          clear q hm hX
          go_wp2_with fail
          refine (HWI.out k hlt _ HB2.out).mono ?_
          rintro e w4 ⟨v4, rfl, hns4, hb4⟩
          have HNS4 := Lib.hid (fun u => hns4.stored (r := w.heap.size + 2) (by have := HZ2.out; omega) u)
          have HB4 := Lib.hid (bt hb4 HB2.out)
          have r0 : w4.cell? ⟨w.heap.size + 2, 0, none⟩ = some (.slice none 0 0) := (HKR2.out.below hb4).cell 0
          have r1 : w4.frozen? ⟨w.heap.size + 2, 0, none⟩ = false := (HKR2.out.below hb4).frozen 0
          obtain ⟨g4, k4, hv4, -, -⟩ := hns4
          subst hv4
          have hS := fun u => ((HKR2.out.below hb4).set_ 0 u).cell 0
          have hS2 : ∀ u, (w4.setCell ⟨w.heap.size + 1 + 1, 0, none⟩ u).cell? ⟨w.heap.size + 1 + 1, 0, none⟩ = some u := fun u => hS u
          clear hb4 p0 p1 p2 p3 p4 p5 p6 p7 t0 c0 hS
          go_wp2
          have hbf := below_grown HB4.out (grown_setCell w4 ⟨w.heap.size + 2, 0, none⟩ (.slice (some ⟨g4, 0, none⟩) (setT t ((k : Int) + 1) n).length k4)) (Nat.le_add_right _ _)
          have hE := (HNS4.out (.slice (some ⟨g4, 0, none⟩) (setT t ((k : Int) + 1) n).length k4)).ns hbf (fun b hb => HPP.out b (Nat.le_trans HB2.out.size hb))
          exact bodyPost_ret (v := .tuple #[.agg #[.slice (some ⟨g4, 0, none⟩) (setT t ((k : Int) + 1) n).length k4], .int .i64 ((k : Int) + 1), .int .i64 0]) (by simp [results, Tryz.results86, go_sem, hS2]) rfl ⟨_, by rw [HX.out.2.1, HX.out.2.2], by rw [HX.out.1]; exact hE, hbf⟩
        · have q1 : (m.kind == 0) = false := by simpa using q
          have HQ := Lib.hid (show tis t ((k : Int) + 1) = true by rw [HTI.out]; exact decide_eq_true q)
          clear q hm
          go_wp2
          go_roundg (t.length - (k + 1))
          case measure => omega
          case rel => exact ⟨k + 1, by go_num, by omega, rfl, (fun j h1 h2 => by
            by_cases q : j < k
            · exact HALL.out j q h2
            · rw [show j = k by omega]; exact HQ.out), rfl⟩
      · have hlt' : ¬ (k : Int) + 1 ≤ (t.length : Int) := by omega
        have hX := HX0.out ((HFR.out k HALL.out hk).1 (by omega))
        have HX := Lib.hid hX
        have r0 : w2.cell? ⟨w.heap.size + 2, 0, none⟩ = some (.slice none 0 0) := HKR2.out.cell 0
        have r1 : w2.frozen? ⟨w.heap.size + 2, 0, none⟩ = false := HKR2.out.frozen 0
        have hS : (w2.setCell ⟨w.heap.size + 1 + 1, 0, none⟩ (.slice (some ⟨g, 0, none⟩) t.length c)).cell? ⟨w.heap.size + 1 + 1, 0, none⟩ = some (.slice (some ⟨g, 0, none⟩) t.length c) := (HKR2.out.set_ 0 _).cell 0
        clear hX
        go_wp2
        have hE := HEND.out w2 (.slice (some ⟨g, 0, none⟩) t.length c) HB2.out
        exact bodyPost_ret (v := .tuple #[.agg #[.slice (some ⟨g, 0, none⟩) t.length c], .int .i64 0, .int .i64 28]) (by simp [results, Tryz.results86, go_sem, hS]) rfl ⟨_, by rw [HX.out.2.1, HX.out.2.2], by rw [HX.out.1]; exact hE.1, hE.2⟩
  · rw [toB_false hn] at HRI ⊢
    have HX := Lib.hid (show actT t 1 i n false = t ∧ addI t false = 0 ∧ addE t false = 22 from ⟨by rw [actT, if_neg (by decide), if_pos rfl, if_neg (by rintro ⟨q, -⟩; cases q)], rfl, rfl⟩)
    generalize actT t 1 i n false = T at HX ⊢
    generalize addI t false = I at HX ⊢
    generalize addE t false = E at HX ⊢
    clear h hN hK hpn hpk hb1 hz1 hkt hkn hkr hn
    subst hW1
    go_enter Tryz.func86, Tryz.ntmps86
    go_wp2_with fail
    refine (HRI.out _ HB1.out).mono ?_
    rintro e w3 ⟨rfl, hb3⟩
    have HB3 := Lib.hid (bt hb3 HB1.out)
    have t0 : w3.cell? ⟨w.heap.size, 0, none⟩ = some (.slice (some ⟨g, 0, none⟩) t.length c) := (HKT.out.below hb3).cell 0
    have r0 : w3.cell? ⟨w.heap.size + 2, 0, none⟩ = some (.slice none 0 0) := (HKR.out.below hb3).cell 0
    have r1 : w3.frozen? ⟨w.heap.size + 2, 0, none⟩ = false := (HKR.out.below hb3).frozen 0
    have hS : (w3.setCell ⟨w.heap.size + 1 + 1, 0, none⟩ (.slice (some ⟨g, 0, none⟩) t.length c)).cell? ⟨w.heap.size + 1 + 1, 0, none⟩ = some (.slice (some ⟨g, 0, none⟩) t.length c) := ((HKR.out.below hb3).set_ 0 _).cell 0
    clear hb3
    go_wp2
    have hE := HEND.out w3 (.slice (some ⟨g, 0, none⟩) t.length c) HB3.out
    exact bodyPost_ret (v := .tuple #[.agg #[.slice (some ⟨g, 0, none⟩) t.length c], .int .i64 0, .int .i64 22]) (by simp [results, Tryz.results86, go_sem, hS]) rfl ⟨_, by rw [HX.out.2.1, HX.out.2.2], by rw [HX.out.1]; exact hE.1, hE.2⟩
end Go.Proofs.YtfopnfgfoicidaaGreat
namespace Go.Proofs.YtfopnfgfoicidaaGreat
open Go Go.RowKit
set_option maxRecDepth 100000

attribute [local go_sem] cell_off4 cell_blk4
/-- The model's node, and its lists lie in new memory that is there. -/
def NrP (w w' : World) (v : Value) (n : Nd) : Prop := ∃ vn vk, v = refV n vn vk ∧ StrsR w' vn (nmA (nmE n.ents)) ∧ IntsR w' vk (idE n.ents) ∧ LP (fun b => w.heap.size ≤ b ∧ b < w'.heap.size) vn ∧ LP (fun b => w.heap.size ≤ b ∧ b < w'.heap.size) vk
theorem lp_own {w : World} {B : Nat} {e : TypeId} {size n : Nat} {v : Value} {xs : List Value} (h : w.ownsRow B e size v n xs) : LP (fun b => B ≤ b ∧ b < w.heap.size) v := by
  rcases h.2 with ⟨rfl, hn⟩ | ⟨g, cap, cur, rfl, hB, hh, _⟩
  · exact LP.nil _
  · intro ad n c hv
    injection hv with hA
    injection hA with hA
    subst hA
    exact ⟨hB, (Array.getElem?_eq_some_iff.1 hh).1⟩
theorem modelp_end {w wB wr w8 : World} {n : Nd} {vn vk : Value} {r : Nat} (hS : MS wB wr n vn vk (nmA (nmE n.ents)) (idE n.ents)) (hkr : Blk wr r 82 rfZ) (hb : Below w.heap.size w wr) (hr : w.heap.size ≤ r) (hg : wr.grownBy w8 (some r)) (hwB : w.heap.size ≤ wB.heap.size) :
    ∃ v, Ending.returned (refV n vn vk) = .returned v ∧ NrP w w8 v n ∧ Below w.heap.size w w8 :=
  have h1 := hS.rows.nm.kept hg (.inr (own_blk_ne hS.rows.nm hkr (by decide)))
  have h2 := hS.rows.kd.kept hg (.inr (own_blk_ne hS.rows.kd hkr (by decide)))
  ⟨_, rfl, ⟨vn, vk, rfl, StrsR.of_own h1, IntsR.of_own h2, (lp_own h1).mono (fun b hb => ⟨Nat.le_trans hwB hb.1, hb.2⟩), (lp_own h2).mono (fun b hb => ⟨Nat.le_trans hwB hb.1, hb.2⟩)⟩, below_grown hb hg hr⟩
end Go.Proofs.YtfopnfgfoicidaaGreat
namespace Go.Proofs.YtfopnfgfoicidaaGreat
open Go Go.RowKit
set_option maxRecDepth 100000

attribute [local go_sem] cell_off4 cell_blk4
theorem root_step (f : Int → Int) {k : Nat} (hk : k < 24) (j : Int) : rootT f (24 - k) j = (decide (j = 1) || rootT f (24 - (k + 1)) (f j)) := by
  obtain ⟨m, hm⟩ : ∃ m, 24 - k = m + 1 := ⟨24 - (k + 1), by omega⟩
  rw [hm, show 24 - (k + 1) = m by omega]
  rfl
theorem root_none (f : Int → Int) {k : Nat} (hk : ¬ k < 24) (j : Int) : rootT f (24 - k) j = false := by
  rw [show 24 - k = 0 by omega]
  rfl
theorem all_drop {α : Type} {f : α → Bool} {l : List α} {k : Nat} {a : α} (h : l[k]? = some a) : (l.drop k).all f = (f a && (l.drop (k + 1)).all f) := by
  obtain ⟨h1, h2⟩ := List.getElem?_eq_some_iff.1 h
  rw [List.drop_eq_getElem_cons h1, List.all_cons, h2]
end Go.Proofs.YtfopnfgfoicidaaGreat
namespace Go.Proofs.YtfopnfgfoicidaaGreat
open Go Go.RowKit
set_option maxRecDepth 100000

attribute [local go_sem] cell_off4 cell_blk4
/-- Does a node stand as a tree's node does? -/
def nodeT (t : List Nd) (op : List Int) (i : Int) : Bool :=
  if (tget t i).kind = 2 then (tget t i).ents.all (fun e => tis t e.2) && (decide (i = 1) || (decide (linkT t i = 1) && rootT (parF t) 24 i))
  else if (tget t i).kind = 1 ∨ (tget t i).kind = 3 then decide (0 < linkT t i) || inL op i else true
end Go.Proofs.YtfopnfgfoicidaaGreat
namespace Go.Proofs.YtfopnfgfoicidaaGreat
open Go Go.RowKit
set_option maxRecDepth 100000

attribute [local go_sem] kind_of
/-- Are the nodes a tree, but for some that are open? -/
def allT (t : List Nd) (op : List Int) : Prop := (tget t 1).kind = 2 ∧ linkT t 1 = 0 ∧ ∀ k : Nat, k < 24 → nodeT t op ((k : Int) + 1) = true
theorem node_out {t : List Nd} {op : List Int} {k : Nat} (h : t.length ≤ k) : nodeT t op ((k : Int) + 1) = true := by
  have hz : tget t ((k : Int) + 1) = Nd.zero := tget_out (by omega)
  unfold nodeT
  rw [hz, if_neg (by decide), if_neg (by decide)]
end Go.Proofs.YtfopnfgfoicidaaGreat
namespace Go.Proofs.YtfopnfgfoicidaaGreat
open Go Go.RowKit
set_option maxRecDepth 100000

attribute [local go_sem] cell_off4 cell_blk4
theorem rget_rf {P : Nat → Prop} (v : Value) (t : List Nd) (i : Int) (w : World) (h : NsR P w v t) (hl : t.length ≤ 24) :
    Calls Tryz.prog 30 #[.agg #[v], .int .i64 i] w fun e w' => ∃ vn vk, e = .returned (.agg (rfC (tget t i) vn vk)) ∧ StrsR w' vn (nmA (nmE (tget t i).ents)) ∧ IntsR w' vk (idE (tget t i).ents) ∧ Below w.heap.size w w' := by
  refine (rget_any v t i w h hl).mono ?_
  rintro e w' ⟨u, rfl, ⟨vn, vk, rfl, hn, hk⟩, hb⟩
  exact ⟨vn, vk, rfl, hn, hk, hb⟩
set_option maxRecDepth 100000 in
set_option maxHeartbeats 4000000 in
theorem rtsame_any {P P' : Nat → Prop} (va vb : Value) (t u : List Nd) (w : World) (h : NsR P w va t) (h' : NsR P' w vb u) (hl : t.length ≤ 24) (hl' : u.length ≤ 24) (ho : okT t) (ho' : okT u) :
    Calls Tryz.prog 14 #[.agg #[va], .agg #[vb]] w fun e w' => e = .returned (.bool (toB (sam24 t u))) ∧ Below w.heap.size w w' := by
  have HGA := Lib.hid (fun W i (hb : Below w.heap.size w W) => rget_rf va t i W (h.below hb) hl)
  have HGB := Lib.hid (fun W i (hb : Below w.heap.size w W) => rget_rf vb u i W (h'.below hb) hl')
  have HF := Lib.hid (fun i => ok_few ho i)
  have HF' := Lib.hid (fun i => ok_few ho' i)
  have HY := Lib.hid (show (∀ k : Nat, k < 24 → tget t ((k : Int) + 1) = tget u ((k : Int) + 1)) → toB (sam24 t u) = true from fun h => toB_true h)
  have HN := Lib.hid (show ∀ k : Nat, k < 24 → ¬ tget t ((k : Int) + 1) = tget u ((k : Int) + 1) → toB (sam24 t u) = false from fun k hk hq => toB_false (fun hs => hq (hs k hk)))
  generalize toB (sam24 t u) = X at HY HN ⊢
  obtain ⟨ga, ka, rfl⟩ := ns_form h
  obtain ⟨gb, kb, rfl⟩ := ns_form h'
  have HA0 := Lib.hid ((Blk.new w 32 #[.slice (some ⟨ga, 0, none⟩) t.length ka]).below (ba (w.alloc (.cells #[.slice (some ⟨ga, 0, none⟩) t.length ka] 32)) (.cells #[.slice (some ⟨gb, 0, none⟩) u.length kb] 32)))
  have HB0 := Lib.hid (Blk.new (w.alloc (.cells #[.slice (some ⟨ga, 0, none⟩) t.length ka] 32)) 32 #[.slice (some ⟨gb, 0, none⟩) u.length kb])
  have HC0 := Lib.hid (al (o := .cells #[.slice (some ⟨gb, 0, none⟩) u.length kb] 32) (ba w (.cells #[.slice (some ⟨ga, 0, none⟩) t.length ka] 32)))
  clear h h' ho ho' hl hl'
  go_enter Tryz.func14, Tryz.ntmps14
  go_wp2
  go_loopg [5] 24 (fun gh s5 wr => ∃ k : Nat, s5 = .int .i64 ((k : Int) + 1) ∧ k ≤ 24 ∧ gh = 24 - k ∧ (∀ j : Nat, j < k → tget t ((j : Int) + 1) = tget u ((j : Int) + 1)) ∧ Below w.heap.size w wr ∧ Blk wr w.heap.size 32 #[.slice (some ⟨ga, 0, none⟩) t.length ka] ∧ Blk wr (w.heap.size + 1) 32 #[.slice (some ⟨gb, 0, none⟩) u.length kb])
  case atStart => exact ⟨0, rfl, Nat.zero_le _, rfl, fun j h => absurd h (Nat.not_lt_zero _), HC0.out, HA0.out, by have h := HB0.out; simpa using h⟩
  case round =>
    clear HA0 HB0 HC0
    obtain ⟨k, rfl, hk, rfl, hall, hbr, hba, hbb⟩ := hrel
    have HALL := Lib.hid hall
    have HBR := Lib.hid hbr
    have HBA := Lib.hid hba
    have HBB := Lib.hid hbb
    clear hbr hall hba hbb
    by_cases hlt : k < 24
    · have hlt' : (k : Int) + 1 ≤ 24 := by omega
      have j0 : IntKind.i64.wrap ((k : Int) + 1 + 1) = ((k + 1 : Nat) : Int) + 1 := by rw [IntKind.wrap_i64] <;> omega
      have HGk := Lib.hid (fun W (hb : Below w.heap.size w W) => HGA.out W ((k : Int) + 1) hb)
      have HGk' := Lib.hid (fun W (hb : Below w.heap.size w W) => HGB.out W ((k : Int) + 1) hb)
      have HFk := Lib.hid (HF.out ((k : Int) + 1))
      have HFk' := Lib.hid (HF'.out ((k : Int) + 1))
      have HNk := Lib.hid (HN.out k hlt)
      obtain ⟨a, hta⟩ : ∃ a, tget t ((k : Int) + 1) = a := ⟨_, rfl⟩
      obtain ⟨b, htb⟩ : ∃ b, tget u ((k : Int) + 1) = b := ⟨_, rfl⟩
      rw [hta] at HGk HFk HNk
      rw [htb] at HGk' HFk' HNk
      have HTA := Lib.hid hta
      have HTB := Lib.hid htb
      clear hta htb
      have HS := Lib.hid (fun W vn vk vn' vk' h1 h2 h3 h4 => rsame_any (w := W) a b vn vk vn' vk' h1 h2 h3 h4 HFk.out.ents HFk'.out.ents)
      have hbd : Below w.heap.size w wr.drew := bt (Below.refl _ _).drew HBR.out
      have p0 : wr.drew.cell? ⟨w.heap.size, 0, none⟩ = some (.slice (some ⟨ga, 0, none⟩) t.length ka) := HBA.out.cell 0
      have p1 : wr.drew.cell? ⟨w.heap.size + 1, 0, none⟩ = some (.slice (some ⟨gb, 0, none⟩) u.length kb) := HBB.out.cell 0
      have HBD := Lib.hid hbd
      clear hbd
      have SX : wr.drew.cell? ⟨w.heap.size, 0, none⟩ = some (.slice (some ⟨ga, 0, none⟩) t.length ka) ∧ wr.drew.cell? ⟨w.heap.size + 1, 0, none⟩ = some (.slice (some ⟨gb, 0, none⟩) u.length kb) := ⟨p0, p1⟩
      have SK : ∀ (Y Y' : World), Below Y.heap.size Y Y' → (Y.cell? ⟨w.heap.size, 0, none⟩ = some (.slice (some ⟨ga, 0, none⟩) t.length ka) ∧ Y.cell? ⟨w.heap.size + 1, 0, none⟩ = some (.slice (some ⟨gb, 0, none⟩) u.length kb)) → (Y'.cell? ⟨w.heap.size, 0, none⟩ = some (.slice (some ⟨ga, 0, none⟩) t.length ka) ∧ Y'.cell? ⟨w.heap.size + 1, 0, none⟩ = some (.slice (some ⟨gb, 0, none⟩) u.length kb)) := fun Y Y' hb ⟨a0, a1⟩ => ⟨bc hb a0, bc hb a1⟩
      by_cases q : a = b
      · rw [toB_true q] at HS
        have HQ := Lib.hid q
        clear q HNk
        go_upto_region 4 with fail
        go_region_held3 (fun w' => w'.cell? ⟨w.heap.size, 0, none⟩ = some (.slice (some ⟨ga, 0, none⟩) t.length ka) ∧ w'.cell? ⟨w.heap.size + 1, 0, none⟩ = some (.slice (some ⟨gb, 0, none⟩) u.length kb))
          (first | exact SX | exact (SK _ _ h1 SX) | exact (SK _ _ h2 (SK _ _ h1 SX)) | exact (SK _ _ h3 (SK _ _ h2 (SK _ _ h1 SX))))
          (first
            | (go_at_call 30; (with_reducible refine (HGk.out _ HBD.out).mono ?_); rintro e1 x1 ⟨vn, vk, rfl, sn1, sk1, h1⟩)
            | (go_at_call 30; (with_reducible refine (HGk'.out _ (bt h1 HBD.out)).mono ?_); rintro e2 x2 ⟨vn', vk', rfl, sn2, sk2, h2⟩)
            | (go_at_call 41; (with_reducible refine (HS.out _ _ _ _ _ (sn1.below h2) (sk1.below h2) sn2 sk2).mono ?_); rintro e3 x3 ⟨rfl, h3⟩))
        all_goals (
          have HB6 := Lib.hid (bt h3 (bt h2 (bt h1 HBD.out)))
          have HE6 := Lib.hid (HBA.out.below ((Below.refl _ _).drew : Below wr.heap.size wr wr.drew))
          go_wp2
          go_roundg (24 - (k + 1))
          case measure => omega
          case rel => exact ⟨k + 1, by go_num, by omega, rfl, (fun j h1 => by
            by_cases q : j < k
            · exact HALL.out j q
            · have e1 : j = k := by omega
              subst e1
              rw [HTA.out, HTB.out]
              exact HQ.out), HB6.out, ((HBA.out.below (Below.refl _ _).drew).below h1 |>.below h2 |>.below h3), ((HBB.out.below (Below.refl _ _).drew).below h1 |>.below h2 |>.below h3)⟩)
      · rw [toB_false q] at HS
        have HX := Lib.hid (HNk.out q)
        clear q HNk
        go_upto_region 4 with fail
        go_region_held3 (fun w' => w'.cell? ⟨w.heap.size, 0, none⟩ = some (.slice (some ⟨ga, 0, none⟩) t.length ka) ∧ w'.cell? ⟨w.heap.size + 1, 0, none⟩ = some (.slice (some ⟨gb, 0, none⟩) u.length kb))
          (first | exact SX | exact (SK _ _ h1 SX) | exact (SK _ _ h2 (SK _ _ h1 SX)) | exact (SK _ _ h3 (SK _ _ h2 (SK _ _ h1 SX))))
          (first
            | (go_at_call 30; (with_reducible refine (HGk.out _ HBD.out).mono ?_); rintro e1 x1 ⟨vn, vk, rfl, sn1, sk1, h1⟩)
            | (go_at_call 30; (with_reducible refine (HGk'.out _ (bt h1 HBD.out)).mono ?_); rintro e2 x2 ⟨vn', vk', rfl, sn2, sk2, h2⟩)
            | (go_at_call 41; (with_reducible refine (HS.out _ _ _ _ _ (sn1.below h2) (sk1.below h2) sn2 sk2).mono ?_); rintro e3 x3 ⟨rfl, h3⟩))
        all_goals (
          have HB6 := Lib.hid (bt h3 (bt h2 (bt h1 HBD.out)))
          go_wp2
          go_ret
          exact ⟨ret_bool HX.out.symm, HB6.out⟩)
    · have hlt' : ¬ (k : Int) + 1 ≤ 24 := by omega
      have HX := Lib.hid (HY.out (fun j hj => HALL.out j (by omega)))
      go_wp2
      go_ret
      exact ⟨ret_bool HX.out.symm, HBR.out⟩
end Go.Proofs.YtfopnfgfoicidaaGreat
namespace Go.Proofs.YtfopnfgfoicidaaGreat
open Go Go.RowKit
set_option maxRecDepth 100000

theorem tget_nat (t : List Nd) (k : Nat) : tget t ((k : Int) + 1) = t.getD k Nd.zero := by
  by_cases h : k < t.length
  · rw [tget_at h, List.getD_eq_getElem?_getD, List.getElem?_eq_getElem h]; rfl
  · rw [tget_out (by omega), List.getD_eq_getElem?_getD, List.getElem?_eq_none (by omega)]; rfl
theorem link_cons (n : Nd) (t : List Nd) (i : Int) : linkT (n :: t) i = cntE n.ents i + linkT t i := by
  unfold linkT
  rw [List.map_cons, List.sum_cons]
theorem cnt_zero (i : Int) : cntE Nd.zero.ents i = 0 := rfl
theorem link_same (i : Int) : ∀ (t u : List Nd), (∀ k, t.getD k Nd.zero = u.getD k Nd.zero) → linkT t i = linkT u i
  | [], [], _ => rfl
  | [], m :: u, h => by
    have h0 : Nd.zero = m := h 0
    rw [link_cons, ← h0, cnt_zero, Nat.zero_add]
    exact link_same i [] u (fun k => h (k + 1))
  | n :: t, [], h => by
    have h0 : n = Nd.zero := h 0
    rw [link_cons, h0, cnt_zero, Nat.zero_add]
    exact link_same i t [] (fun k => h (k + 1))
  | n :: t, m :: u, h => by
    have h0 : n = m := h 0
    rw [link_cons, link_cons, h0, link_same i t u (fun k => h (k + 1))]
theorem par_same (i : Int) : ∀ (t u : List Nd) (d : Nat), (∀ k, t.getD k Nd.zero = u.getD k Nd.zero) → parT t d i = parT u d i
  | [], [], _, _ => rfl
  | [], m :: u, d, h => by
    have h0 : Nd.zero = m := h 0
    show 0 = (if cntE m.ents i = 0 then parT u (d + 1) i else d + 1)
    rw [← h0, if_pos (cnt_zero i)]
    exact par_same i [] u (d + 1) (fun k => h (k + 1))
  | n :: t, [], d, h => by
    have h0 : n = Nd.zero := h 0
    show (if cntE n.ents i = 0 then parT t (d + 1) i else d + 1) = 0
    rw [h0, if_pos (cnt_zero i)]
    exact par_same i t [] (d + 1) (fun k => h (k + 1))
  | n :: t, m :: u, d, h => by
    have h0 : n = m := h 0
    rw [parT, parT, h0, par_same i t u (d + 1) (fun k => h (k + 1))]
theorem get_same {t u : List Nd} (h : ∀ k, t.getD k Nd.zero = u.getD k Nd.zero) (i : Int) : tget t i = tget u i := by
  by_cases q : 1 ≤ i
  · obtain ⟨k, hk⟩ : ∃ k : Nat, i = (k : Int) + 1 := ⟨(i - 1).toNat, by omega⟩
    rw [hk, tget_nat, tget_nat, h k]
  · rw [tget_out (by omega), tget_out (by omega)]
theorem node_same {t u : List Nd} (h : ∀ k, t.getD k Nd.zero = u.getD k Nd.zero) (op : List Int) (i : Int) : nodeT t op i = nodeT u op i := by
  have h1 : tis t = tis u := funext (fun j => by unfold tis; rw [get_same h j])
  have h2 : parF t = parF u := funext (fun j => by unfold parF; rw [par_same j t u 0 h])
  unfold nodeT
  rw [get_same h i, link_same i t u h, h1, h2]
theorem all_same {t u : List Nd} (h : ∀ k, t.getD k Nd.zero = u.getD k Nd.zero) (op : List Int) : toB (allT t op) = toB (allT u op) := by
  have e : allT t op = allT u op := by
    unfold allT
    rw [get_same h 1, link_same 1 t u h]
    have h1 : ∀ k : Nat, nodeT t op ((k : Int) + 1) = nodeT u op ((k : Int) + 1) := fun k => node_same h op _
    simp only [h1]
  rw [e]
theorem sam_same {t u t' u' : List Nd} (h : ∀ k, t.getD k Nd.zero = t'.getD k Nd.zero) (h' : ∀ k, u.getD k Nd.zero = u'.getD k Nd.zero) : toB (sam24 t u) = toB (sam24 t' u') := by
  have e : sam24 t u = sam24 t' u' := by
    unfold sam24
    have h1 : ∀ k : Nat, tget t ((k : Int) + 1) = tget t' ((k : Int) + 1) := fun k => get_same h _
    have h2 : ∀ k : Nat, tget u ((k : Int) + 1) = tget u' ((k : Int) + 1) := fun k => get_same h' _
    simp only [h1, h2]
  rw [e]
theorem sam_comm (t u : List Nd) : toB (sam24 t u) = toB (sam24 u t) := by
  by_cases q : sam24 t u
  · rw [toB_true q, toB_true (show sam24 u t from fun k hk => (q k hk).symm)]
  · rw [toB_false q, toB_false (show ¬ sam24 u t from fun h => q (fun k hk => (h k hk).symm))]
/-- A table's first nodes, in a room of 24. -/
def copyT (t : List Nd) (k : Nat) : List Nd := (List.range 24).map (fun j => if j < k then t.getD j Nd.zero else Nd.zero)
theorem copy_len (t : List Nd) (k : Nat) : (copyT t k).length = 24 := by
  unfold copyT
  rw [List.length_map, List.length_range]
theorem copy_at (t : List Nd) (k j : Nat) (h : j < (copyT t k).length) : (copyT t k)[j] = if j < k then t.getD j Nd.zero else Nd.zero := by
  simp only [copyT, List.getElem_map, List.getElem_range]
theorem copy_zero (t : List Nd) : copyT t 0 = List.replicate 24 Nd.zero := by
  refine List.ext_getElem (by rw [copy_len, List.length_replicate]) (fun j h1 h2 => ?_)
  rw [copy_at, List.getElem_replicate, if_neg (by omega)]
theorem copy_all {t : List Nd} (h : t.length ≤ 24) (j : Nat) : (copyT t 24).getD j Nd.zero = t.getD j Nd.zero := by
  by_cases q : j < 24
  · have hl : j < (copyT t 24).length := by rw [copy_len]; exact q
    rw [List.getD_eq_getElem?_getD, List.getElem?_eq_getElem hl]
    show (copyT t 24)[j] = _
    rw [copy_at, if_pos q]
  · have hl : ¬ j < (copyT t 24).length := by rw [copy_len]; exact q
    rw [List.getD_eq_getElem?_getD, List.getElem?_eq_none (by omega), List.getD_eq_getElem?_getD, List.getElem?_eq_none (by omega)]
theorem copy_step (t : List Nd) (k : Nat) : setT (copyT t k) ((k : Int) + 1) (tget t ((k : Int) + 1)) = copyT t (k + 1) := by
  unfold setT
  rw [show ((k : Int) + 1 - 1).toNat = k by omega, tget_nat]
  refine List.ext_getElem (by rw [List.length_set, copy_len, copy_len]) (fun j h1 h2 => ?_)
  rw [List.getElem_set, copy_at, copy_at]
  by_cases q : k = j
  · subst q
    rw [if_pos rfl, if_pos (by omega)]
  · rw [if_neg q]
    by_cases q2 : j < k
    · rw [if_pos q2, if_pos (by omega)]
    · rw [if_neg q2, if_neg (by omega)]
theorem copy_skip {t : List Nd} {k : Nat} (h : tget t ((k : Int) + 1) = Nd.zero) : copyT t k = copyT t (k + 1) := by
  rw [tget_nat] at h
  unfold copyT
  refine List.map_congr_left (fun j _ => ?_)
  by_cases q : j < k
  · rw [if_pos q, if_pos (by omega)]
  · rw [if_neg q]
    by_cases q2 : j = k
    · subst q2
      rw [if_pos (by omega), h]
    · rw [if_neg (by omega)]
theorem copy_ok {t : List Nd} (h : okT t) (k : Nat) : okT (copyT t k) := by
  intro n hn
  unfold copyT at hn
  obtain ⟨j, -, rfl⟩ := List.mem_map.1 hn
  by_cases q : j < k
  · rw [if_pos q, ← tget_nat]
    exact ok_tget h _
  · rw [if_neg q]
    exact Or.inl rfl
end Go.Proofs.YtfopnfgfoicidaaGreat
namespace Go.Proofs.YtfopnfgfoicidaaGreat
open Go Go.ChangeShapes Go.WideShapes Go.ChangeAt Go.RowKit Go.Deep

theorem ownKnobs : ownKnob Tryz.prog.godebug = none := by kernel_rfl
/-- The world of a witness: the settled one. -/
noncomputable def laidWorld (os : Os) : World := World.holding Tryz.prog os ⟨#[], #[], []⟩
section
variable {H : Type} {enc : TypeId × Value → H} {P : Program}
/-- The end of a law's row: it answers one bool, and what was there is as it was. -/
theorem law_post {f : Func} {s : ChangeSpec} {W W' : World} {args : Array Value} {ds : List (DataW H)} {v : Value} {before pa : List MemPlace}
    (hW : DataW.Whole enc P f.params.toList s.vars false W args.toList ds [] before)
    (hres : DataW.TrodAll enc P W' W.heap.size (fun _ => false) false f.resultTypes.toList (v.resultList f.resultTypes.size) (s.fn H (ds ++ [])).results [])
    (hargs : DataW.TrodAll enc P W' 0 (fun b => decide (b < W.heap.size)) true f.params.toList args.toList (s.fn H (ds ++ [])).args pa)
    (hvars : DataW.TrodVars enc P W' (fun b => decide (b < W.heap.size)) s.vars (s.fn H (ds ++ [])).vars [])
    (hb : Below W.heap.size W W') : s.post enc P f false true false false W args v W' :=
  ⟨ds, [], before, [], pa, [], hW, hres, hargs, hvars, hb.frame _, fun h => by cases h⟩
end
theorem cells_str : Tryz.prog.cellsOf 9 = 1 := by kernel_rfl
theorem cells_u8 : Tryz.prog.cellsOf 5 = 1 := by kernel_rfl
theorem byte_of {n : Int} (h : (Lit.int .u8 n).wf = true) : ∃ c : UInt8, n = co c := by
  have hb : 0 ≤ n ∧ n ≤ 255 := by simpa [Lit.wf, IntKind.min, IntKind.max, IntKind.signed, IntKind.bits] using h
  refine ⟨UInt8.ofNat n.toNat, ?_⟩
  unfold co
  rw [UInt8.toNat_ofNat']
  omega
section
variable {H : Type} {enc : TypeId × Value → H} {w : World} {base : Nat} {spare : Nat → Bool} {held : Bool}
set_option maxRecDepth 100000 in
theorem read_strs {r : Reach} {b0 : Nat} {v : Value} {d : DataW H} {p : List MemPlace} (hval : Value.okWide Tryz.prog w r b0 80 v) (h : DataW.Trod enc Tryz.prog w base spare held 80 v d p) : ∃ l : List ByteArray, StrsR w v l ∧ l.length ≤ maxLen ∧ ∀ s ∈ l, s.size ≤ maxLen := by
  obtain ⟨A, L, C, rfl⟩ := okWide_slice Tryz.underlying80 hval
  obtain ⟨fuel, h⟩ := h
  rcases open_strs Tryz.underlying80 Tryz.underlying9 cells_str h with ⟨hv, _⟩ | ⟨a, len, cap, m, Sx, hcs, _, hl, hm, hmm, _, hi⟩
  · have hv' : Value.slice A L C = .slice none 0 0 := by simpa [Value.cells] using hv
    exact ⟨[], by rw [hv']; exact StrsR.nil w, by simp, by simp⟩
  · have hv : Value.slice A L C = .slice (some a) len cap := by simpa [Value.cells] using hcs
    have hlm : len ≤ m := by rw [hmm]; split <;> omega
    refine ⟨List.ofFn fun i : Fin len => Sx i.val, ⟨some a, cap, by rw [List.length_ofFn]; exact hv, ⟨by rw [List.length_ofFn]; exact hl, fun e => by cases e⟩, fun k s hk => ?_⟩, by rw [List.length_ofFn]; omega, fun s hs => ?_⟩
    · rw [List.getElem?_ofFn] at hk
      split at hk
      · rename_i hlt
        injection hk with hk
        subst hk
        exact ⟨a, rfl, (hi k (by omega)).1⟩
      · cases hk
    · rw [List.mem_ofFn] at hs
      obtain ⟨i, rfl⟩ := hs
      exact (hi i.val (by have := i.isLt; omega)).2
set_option maxRecDepth 100000 in
theorem read_bytes {r : Reach} {b0 : Nat} {v : Value} {d : DataW H} {p : List MemPlace} (hval : Value.okWide Tryz.prog w r b0 43 v) (h : DataW.Trod enc Tryz.prog w base spare held 43 v d p) : ∃ l : List UInt8, BytesR w v l ∧ l.length ≤ maxLen := by
  obtain ⟨A, L, C, rfl⟩ := okWide_slice Tryz.underlying43 hval
  obtain ⟨fuel, h⟩ := h
  rcases open_slice1 Tryz.underlying43 cells_u8 h with ⟨hv, _⟩ | ⟨a, len, cap, m, n, V, D, Pl, hcs, _, hl, hm, hmm, _, hi⟩
  · have hv' : Value.slice A L C = .slice none 0 0 := by simpa [Value.cells] using hv
    exact ⟨[], ⟨none, 0, by simpa using hv', fun k a hk => by simp at hk⟩, by simp⟩
  · have hv : Value.slice A L C = .slice (some a) len cap := by simpa [Value.cells] using hcs
    have hlm : len ≤ m := by rw [hmm]; split <;> omega
    have key : ∀ i, i < len → ∃ b : UInt8, w.cell? (a.add i) = some (.int .u8 (co b)) := by
      intro i hil
      obtain ⟨hc, ht⟩ := hi i (by omega)
      obtain ⟨n0, e0, _, w0⟩ := DataW.trod_int Tryz.underlying5 ht
      simp at e0
      obtain ⟨b, rfl⟩ := byte_of w0
      exact ⟨b, by rw [hc, e0]⟩
    refine ⟨List.ofFn fun i : Fin len => Classical.choose (key i.val i.isLt), ⟨some a, cap, by rw [List.length_ofFn]; exact hv, fun k ca hk => ?_⟩, by rw [List.length_ofFn]; omega⟩
    rw [List.getElem?_ofFn] at hk
    split at hk
    · rename_i hlt
      injection hk with hk
      subst hk
      exact ⟨a, rfl, Classical.choose_spec (key k hlt)⟩
    · cases hk
end
theorem laid_out : laidOutB Tryz.prog = true := by kernel_rfl
theorem strs_readable : Tryz.prog.readableRec 80 = true := by kernel_rfl
theorem bytes_readable : Tryz.prog.readableRec 43 = true := by kernel_rfl
section
variable {H : Type} {enc : TypeId × Value → H} {W W' : World} {v : Value} {d : DataW H} {p : List MemPlace}
/-- Texts read behind the call as they read before. -/
theorem shut_strs (h : DataW.Trod enc Tryz.prog W 0 (fun _ => true) true 80 v d p) (hb : Below W.heap.size W W') : DataW.Trod enc Tryz.prog W' 0 (fun b => decide (b < W.heap.size)) true 80 v d p := by
  refine Below.trod laid_out strs_readable (of_decide_eq_true (by kernel_rfl)) h hb ?_
  obtain ⟨n, hn⟩ := h
  exact DataW.trod_lt n _ _ _ hn
/-- Bytes read behind the call as they read before. -/
theorem shut_bytes (h : DataW.Trod enc Tryz.prog W 0 (fun _ => true) true 43 v d p) (hb : Below W.heap.size W W') : DataW.Trod enc Tryz.prog W' 0 (fun b => decide (b < W.heap.size)) true 43 v d p := by
  refine Below.trod laid_out bytes_readable (of_decide_eq_true (by kernel_rfl)) h hb ?_
  obtain ⟨n, hn⟩ := h
  exact DataW.trod_lt n _ _ _ hn
end
end Go.Proofs.YtfopnfgfoicidaaGreat
namespace Go.Proofs.YtfopnfgfoicidaaGreat
open Go Go.ChangeShapes Go.WideShapes Go.ChangeAt Go.RowKit Go.Deep

theorem cells_int : Tryz.prog.cellsOf 3 = 1 := by kernel_rfl
theorem cells_ent : Tryz.prog.cellsOf 109 = 2 := by kernel_rfl
theorem cells_node : Tryz.prog.cellsOf 56 = 7 := by kernel_rfl
theorem cells_bs : Tryz.prog.cellsOf 43 = 1 := by kernel_rfl
theorem cells_es : Tryz.prog.cellsOf 54 = 1 := by kernel_rfl
section
variable {H : Type} {enc : TypeId × Value → H} {P : Program} {w : World} {base : Nat} {spare : Nat → Bool} {held : Bool}
theorem trod_struct7 {t : TypeId} {f0 f1 f2 f3 f4 f5 f6 : Field} {fuel : Nat} {cs : List Value} {x : DataW H × List MemPlace} (ht : P.underlying t = some (.struct #[f0, f1, f2, f3, f4, f5, f6])) (h : DataW.trod enc P w base spare held fuel t cs = some x) :
    ∃ y0 y1 y2 y3 y4 y5 y6 n, DataW.trod enc P w base spare held n f0.type ((cs.drop f0.offset).take (P.cellsOf f0.type)) = some y0 ∧ DataW.trod enc P w base spare held n f1.type ((cs.drop f1.offset).take (P.cellsOf f1.type)) = some y1 ∧
      DataW.trod enc P w base spare held n f2.type ((cs.drop f2.offset).take (P.cellsOf f2.type)) = some y2 ∧ DataW.trod enc P w base spare held n f3.type ((cs.drop f3.offset).take (P.cellsOf f3.type)) = some y3 ∧
      DataW.trod enc P w base spare held n f4.type ((cs.drop f4.offset).take (P.cellsOf f4.type)) = some y4 ∧ DataW.trod enc P w base spare held n f5.type ((cs.drop f5.offset).take (P.cellsOf f5.type)) = some y5 ∧
      DataW.trod enc P w base spare held n f6.type ((cs.drop f6.offset).take (P.cellsOf f6.type)) = some y6 := by
  obtain ⟨xs, n, _, rfl, hl, hlen, hf⟩ := DataW.trod_struct ht h
  match xs, hlen with
  | [y0, y1, y2, y3, y4, y5, y6], _ => exact ⟨y0, y1, y2, y3, y4, y5, y6, n, by simpa using hf 0 f0 rfl, by simpa using hf 1 f1 rfl, by simpa using hf 2 f2 rfl, by simpa using hf 3 f3 rfl, by simpa using hf 4 f4 rfl, by simpa using hf 5 f5 rfl, by simpa using hf 6 f6 rfl⟩
end
section
variable {H : Type} {enc : TypeId × Value → H} {w : World} {base : Nat} {spare : Nat → Bool} {held : Bool}
theorem read_bytes' {fuel : Nat} {v : Value} {x : DataW H × List MemPlace} (h : DataW.trod enc Tryz.prog w base spare held fuel 43 [v] = some x) : ∃ l : List UInt8, BytesR w v l := by
  rcases open_slice1 Tryz.underlying43 cells_u8 h with ⟨hv, _⟩ | ⟨a, len, cap, m, n, V, D, Pl, hcs, _, hl, hm, hmm, _, hi⟩
  · have hv' : v = .slice none 0 0 := by simpa using hv
    exact ⟨[], by rw [hv']; exact BytesR.nil w⟩
  · have hv : v = .slice (some a) len cap := by simpa using hcs
    have hlm : len ≤ m := by rw [hmm]; split <;> omega
    have key : ∀ i, i < len → ∃ b : UInt8, w.cell? (a.add i) = some (.int .u8 (co b)) := by
      intro i hil
      obtain ⟨hc, ht⟩ := hi i (by omega)
      obtain ⟨n0, e0, _, w0⟩ := DataW.trod_int Tryz.underlying5 ht
      simp at e0
      obtain ⟨b, rfl⟩ := byte_of w0
      exact ⟨b, by rw [hc, e0]⟩
    refine ⟨List.ofFn fun i : Fin len => Classical.choose (key i.val i.isLt), ⟨some a, cap, by rw [List.length_ofFn]; exact hv, fun k ca hk => ?_⟩⟩
    rw [List.getElem?_ofFn] at hk
    split at hk
    · rename_i hlt
      injection hk with hk
      subst hk
      exact ⟨a, rfl, Classical.choose_spec (key k hlt)⟩
    · cases hk
set_option maxRecDepth 100000 in
theorem read_ents' {fuel : Nat} {v : Value} {x : DataW H × List MemPlace} (h : DataW.trod enc Tryz.prog w base spare held fuel 54 [v] = some x) : ∃ l : List En, EntsR w v l ∧ l.length ≤ maxLen := by
  rcases open_slice Tryz.underlying54 h with ⟨hv, _⟩ | ⟨a, len, cap, m, n, D, Pl, hcs, _, hl, hm, hmm, _, hi⟩
  · have hv' : v = .slice none 0 0 := by simpa using hv
    exact ⟨[], by rw [hv']; exact EntsR.nil w, by simp⟩
  · have hv : v = .slice (some a) len cap := by simpa using hcs
    have hlm : len ≤ m := by rw [hmm]; split <;> omega
    have key : ∀ i, i < len → ∃ e : En, w.cell? (a.add (i * 2)) = some (.string (bA e.1)) ∧ w.cell? ⟨(a.add (i * 2)).block, (a.add (i * 2)).off + 1, none⟩ = some (.int .i64 e.2) := by
      intro i hil
      obtain ⟨cs', hc, ht⟩ := hi i (by omega)
      rw [cells_ent] at hc
      obtain ⟨_, hcl, hat⟩ := World.cells?_some hc
      match cs', hcl with
      | [c0, c1], _ =>
        obtain ⟨y0, y1, n', _, _, h0, h1⟩ := trod_struct2 Tryz.underlying109 ht
        simp only [cells_int, cells_str] at h0 h1
        obtain ⟨s, e0, _⟩ := DataW.trod_string Tryz.underlying9 h0
        obtain ⟨n1, e1, _, _⟩ := DataW.trod_int Tryz.underlying3 h1
        simp at e0 e1
        have a0 := hat 0 (by decide)
        have a1 := hat 1 (by decide)
        rw [add_none] at a0
        rw [add_pos _ 1 (by decide)] at a1
        exact ⟨(tl s, n1), by rw [a0, e0]; simp only [List.getElem?_cons_zero]; rw [bA_tl], by rw [a1, e1]; rfl⟩
    refine ⟨List.ofFn fun i : Fin len => Classical.choose (key i.val i.isLt), ⟨some a, cap, by rw [List.length_ofFn]; exact hv, fun k ca hk => ?_⟩, by rw [List.length_ofFn]; omega⟩
    rw [List.getElem?_ofFn] at hk
    split at hk
    · rename_i hlt
      injection hk with hk
      subst hk
      exact ⟨a, rfl, Classical.choose_spec (key k hlt)⟩
    · cases hk
set_option maxRecDepth 100000 in
theorem read_node {r : Reach} {b0 : Nat} {v : Value} {d : DataW H} {p : List MemPlace} (hval : Value.okWide Tryz.prog w r b0 56 v) (h : DataW.Trod enc Tryz.prog w base spare held 56 v d p) : ∃ (n : Nd) (vd ve : Value), v = nodeV n vd ve ∧ BytesR w vd n.data ∧ EntsR w ve n.ents ∧ n.ents.length ≤ maxLen := by
  obtain ⟨cs, rfl, hsz⟩ := okWide_struct Tryz.underlying56 hval
  rw [cells_node] at hsz
  obtain ⟨l⟩ := cs
  match l, hsz with
  | [c0, c1, c2, c3, c4, c5, c6], _ =>
    obtain ⟨fuel, hf⟩ := h
    obtain ⟨y0, y1, y2, y3, y4, y5, y6, m, h0, h1, h2, h3, h4, h5, h6⟩ := trod_struct7 Tryz.underlying56 hf
    simp only [cells_int, cells_bs, cells_es, cells_str] at h0 h1 h2 h3 h4 h5 h6
    obtain ⟨a0, e0, _, _⟩ := DataW.trod_int Tryz.underlying3 h0
    obtain ⟨a1, e1, _, _⟩ := DataW.trod_int Tryz.underlying3 h1
    obtain ⟨a2, e2, _, _⟩ := DataW.trod_int Tryz.underlying3 h2
    obtain ⟨a3, e3, _, _⟩ := DataW.trod_int Tryz.underlying3 h3
    obtain ⟨s, e6, _⟩ := DataW.trod_string Tryz.underlying9 h6
    simp [Value.cells] at e0 e1 e2 e3 e6
    subst e0 e1 e2 e3 e6
    obtain ⟨ds, hD⟩ := read_bytes' (v := c4) (by simpa [Value.cells] using h4)
    obtain ⟨es, hE, hl⟩ := read_ents' (v := c5) (by simpa [Value.cells] using h5)
    exact ⟨⟨a0, a1, a2, a3, ds, es, tl s⟩, c4, c5, by unfold nodeV; rw [bA_tl], hD, hE, hl⟩
end
theorem node_readable : Tryz.prog.readableRec 56 = true := by kernel_rfl
/-- A node reads behind the call as it read before. -/
theorem shut_node {H : Type} {enc : TypeId × Value → H} {W W' : World} {v : Value} {d : DataW H} {p : List MemPlace} (h : DataW.Trod enc Tryz.prog W 0 (fun _ => true) true 56 v d p) (hb : Below W.heap.size W W') : DataW.Trod enc Tryz.prog W' 0 (fun b => decide (b < W.heap.size)) true 56 v d p := by
  refine Below.trod laid_out node_readable (of_decide_eq_true (by kernel_rfl)) h hb ?_
  obtain ⟨n, hn⟩ := h
  exact DataW.trod_lt n _ _ _ hn
end Go.Proofs.YtfopnfgfoicidaaGreat
namespace Go.Proofs.YtfopnfgfoicidaaGreat
open Go Go.ChangeShapes Go.WideShapes Go.ChangeAt Go.RowKit Go.Deep

section
variable {H : Type} {enc : TypeId × Value → H} {w : World} {base : Nat} {spare : Nat → Bool} {held : Bool}
set_option maxRecDepth 100000 in
theorem read_nums {r : Reach} {b0 : Nat} {v : Value} {d : DataW H} {p : List MemPlace} (hval : Value.okWide Tryz.prog w r b0 23 v) (h : DataW.Trod enc Tryz.prog w base spare held 23 v d p) : ∃ l : List Int, IntsR w v l ∧ l.length ≤ maxLen := by
  obtain ⟨A, L, C, rfl⟩ := okWide_slice Tryz.underlying23 hval
  obtain ⟨fuel, h⟩ := h
  rcases open_slice1 Tryz.underlying23 cells_int h with ⟨hv, _⟩ | ⟨a, len, cap, m, n, V, D, Pl, hcs, _, hl, hm, hmm, _, hi⟩
  · have hv' : Value.slice A L C = .slice none 0 0 := by simpa [Value.cells] using hv
    exact ⟨[], ⟨none, 0, by simpa using hv', fun k a hk => by simp at hk⟩, by simp⟩
  · have hv : Value.slice A L C = .slice (some a) len cap := by simpa [Value.cells] using hcs
    have hlm : len ≤ m := by rw [hmm]; split <;> omega
    have key : ∀ i, i < len → ∃ b : Int, w.cell? (a.add i) = some (.int .i64 b) := by
      intro i hil
      obtain ⟨hc, ht⟩ := hi i (by omega)
      obtain ⟨n0, e0, _, w0⟩ := DataW.trod_int Tryz.underlying3 ht
      simp at e0
      exact ⟨n0, by rw [hc, e0]⟩
    refine ⟨List.ofFn fun i : Fin len => Classical.choose (key i.val i.isLt), ⟨some a, cap, by rw [List.length_ofFn]; exact hv, fun k ca hk => ?_⟩, by rw [List.length_ofFn]; omega⟩
    rw [List.getElem?_ofFn] at hk
    split at hk
    · rename_i hlt
      injection hk with hk
      subst hk
      exact ⟨a, rfl, Classical.choose_spec (key k hlt)⟩
    · cases hk
end
theorem nums_readable : Tryz.prog.readableRec 23 = true := by kernel_rfl
section
variable {H : Type} {enc : TypeId × Value → H} {W W' : World} {v : Value} {d : DataW H} {p : List MemPlace}
theorem shut_nums (h : DataW.Trod enc Tryz.prog W 0 (fun _ => true) true 23 v d p) (hb : Below W.heap.size W W') : DataW.Trod enc Tryz.prog W' 0 (fun b => decide (b < W.heap.size)) true 23 v d p := by
  refine Below.trod laid_out nums_readable (of_decide_eq_true (by kernel_rfl)) h hb ?_
  obtain ⟨n, hn⟩ := h
  exact DataW.trod_lt n _ _ _ hn
end
end Go.Proofs.YtfopnfgfoicidaaGreat
