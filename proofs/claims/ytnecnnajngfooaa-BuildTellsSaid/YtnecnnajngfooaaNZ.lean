/-
  The reference's Right, of any table whose nodes may be. The condition: no more than 1000 numbers are open.
-/
import Derived.Test.YtnecnnajngfooaaMW
import Derived.Deep.DeepCutAuto
namespace Go.Proofs.Ytnecnnajngfooaa
open Go Go.RowKit
set_option maxRecDepth 100000

attribute [local go_sem] cell_off4 cell_blk4
theorem kind_of8 (x : Int) (a1 a2 a3 a4 a5 a6 a7 : Value) (w : World) : (Instr.field 34 (.agg #[.int .i64 x, a1, a2, a3, a4, a5, a6, a7]) 0).run Try.prog w = .ok (.int .i64 x) w := by kernel_rfl
attribute [local go_sem] kind_of8
theorem node_t {t : List Nd} {k : Nat} {n : Nd} (hn : t[k]? = some n) : tget t ((k : Int) + 1) = n := by
  obtain ⟨h1, h2⟩ := List.getElem?_eq_some_iff.1 hn
  rw [tget_at h1, h2]
/-- A node that has an entry which leads to none. -/
theorem node_lost {t : List Nd} {op : List Int} {k : Nat} {n : Nd} (ho : okT t) (hn : t[k]? = some n) (h : n.ents.all (fun e => tis t e.2) = false) : nodeT t op ((k : Int) + 1) = false := by
  have hk : n.kind = 2 := by
    by_cases q : n.kind = 2
    · exact q
    · rw [ok_ents ho (List.mem_of_getElem? hn) q] at h
      cases h
  unfold nodeT
  rw [node_t hn, if_pos hk, h]
  rfl
/-- What is asked of a node whose entries all lead to one. -/
def restT (kd : Int) (LI : Nat) (RT IL : Bool) (i : Int) : Bool := if kd = 2 then (decide (i = 1) || (decide (LI = 1) && RT)) else if kd = 1 ∨ kd = 3 then decide (0 < LI) || IL else true
theorem node_rest {t : List Nd} {op : List Int} {k : Nat} {n : Nd} (hn : t[k]? = some n) (h : n.ents.all (fun e => tis t e.2) = true) : nodeT t op ((k : Int) + 1) = restT n.kind (linkT t ((k : Int) + 1)) (rootT (parF t) 24 ((k : Int) + 1)) (inL op ((k : Int) + 1)) ((k : Int) + 1) := by
  unfold nodeT restT
  rw [node_t hn, h, Bool.true_and]
set_option maxRecDepth 100000 in
set_option maxHeartbeats 16000000 in
theorem rtright_any {P : Nat → Prop} (v vo : Value) (t : List Nd) (op : List Int) (w : World) (h : NsR P w v t) (ho : IntsR w vo op) (hol : op.length ≤ 1000) (hl : t.length ≤ 24) (hok : okT t) :
    Calls Try.prog 37 #[.agg #[v], vo] w fun e w' => e = .returned (.bool (toB (allT t op))) ∧ Below w.heap.size w w' := by
  have HGT := Lib.hid (fun W (hb : Below w.heap.size w W) => rget_rf v t 1 W (h.below hb) hl)
  have HRL := Lib.hid (fun W i (hb : Below w.heap.size w W) => rlinks_any v t i W (h.below hb) hl hok)
  have HRI := Lib.hid (fun W i (hb : Below w.heap.size w W) => ris_any v t i W (h.below hb) hl)
  have HRR := Lib.hid (fun W i (hb : Below w.heap.size w W) => rooted_any v t i W (h.below hb) hl hok)
  have HIN := Lib.hid (fun W i (hb : Below w.heap.size w W) => in_any vo op i W (ho.below hb) hol)
  have HH := Lib.hid h
  have HOK := Lib.hid hok
  have HY := Lib.hid (show (tget t 1).kind = 2 → linkT t 1 = 0 → (∀ k : Nat, k < t.length → nodeT t op ((k : Int) + 1) = true) → toB (allT t op) = true from fun h0 h1 h2 => toB_true ⟨h0, h1, fun k _ => by
      by_cases q : k < t.length
      · exact h2 k q
      · exact node_out (by omega)⟩)
  have HN0 := Lib.hid (show ¬ (tget t 1).kind = 2 → toB (allT t op) = false from fun h1 => toB_false (fun h2 => h1 h2.1))
  have HN1 := Lib.hid (show ¬ linkT t 1 = 0 → toB (allT t op) = false from fun h1 => toB_false (fun h2 => h1 h2.2.1))
  have HN2 := Lib.hid (show ∀ k : Nat, k < t.length → nodeT t op ((k : Int) + 1) = false → toB (allT t op) = false from fun k h1 h2 => toB_false (fun h3 => by
      rw [h3.2.2 k (by omega)] at h2; cases h2))
  generalize toB (allT t op) = X at HY HN0 HN1 HN2 ⊢
  obtain ⟨g, c, rfl⟩ := ns_form h
  have HB1 := Lib.hid (ba w (.cells #[.slice (some ⟨g, 0, none⟩) t.length c] 29))
  have HK1 := Lib.hid (Blk.new w 29 #[.slice (some ⟨g, 0, none⟩) t.length c])
  have HL1 := Lib.hid (fun W (hb : Below w.heap.size w W) => HRL.out W 1 hb)
  generalize linkT t 1 = LI at HY HN1 HL1
  generalize tget t 1 = n at HY HN0 HGT
  clear h ho hol hok
  by_cases hk : n.kind = 2
  · have e0 : (n.kind != 2) = false := by simpa using hk
    by_cases q : LI = 0
    · subst q
      have HY1 := Lib.hid (HY.out hk rfl)
      clear HY HN0 HN1 hk
      go_enter Try.func37, Try.ntmps37
      go_wp2_with fail
      refine (HGT.out _ HB1.out).mono ?_
      rintro e w4 ⟨vn, vk, rfl, -, -, hb4⟩
      have HB4 := Lib.hid (bt hb4 HB1.out)
      have HK4 := Lib.hid (HK1.out.below hb4)
      have p0 : w4.cell? ⟨w.heap.size, 0, none⟩ = some (.slice (some ⟨g, 0, none⟩) t.length c) := HK4.out.cell 0
      clear hb4
      go_wp2_with fail
      refine (HL1.out _ HB4.out).mono ?_
      rintro e w5 ⟨rfl, hb5⟩
      have HB5 := Lib.hid (bt hb5 HB4.out)
      have HK5 := Lib.hid (HK4.out.below hb5)
      clear hb5 p0
      go_wp2
      go_loopg [5] t.length (fun gh s5 wr => ∃ k : Nat, s5 = .int .i64 ((k : Int) + 1) ∧ k ≤ t.length ∧ gh = t.length - k ∧ (∀ j : Nat, j < k → nodeT t op ((j : Int) + 1) = true) ∧ Below w.heap.size w wr ∧ Blk wr w.heap.size 29 #[.slice (some ⟨g, 0, none⟩) t.length c])
      case atStart => exact ⟨0, rfl, Nat.zero_le _, rfl, fun j h => absurd h (Nat.not_lt_zero _), HB5.out, HK5.out⟩
      case round =>
        clear HB5 HK5 HB4 HK4
        obtain ⟨k, rfl, hk, rfl, hall, hbr, hbk⟩ := hrel
        rename World => wq
        have HALL := Lib.hid hall
        have HBR := Lib.hid hbr
        have HBK := Lib.hid hbk
        have p0 : wq.cell? ⟨w.heap.size, 0, none⟩ = some (.slice (some ⟨g, 0, none⟩) t.length c) := hbk.cell 0
        clear hall hbr hbk
        by_cases hlt : k < t.length
        · have hlt' : (k : Int) + 1 ≤ (t.length : Int) := by omega
          have j0 : IntKind.i64.wrap ((k : Int) + 1 - 1) = (k : Int) := by rw [IntKind.wrap_i64] <;> omega
          have j1 : (k : Int) + 1 - 1 = (k : Int) := by omega
          obtain ⟨m, hm⟩ : ∃ m, t[k]? = some m := ⟨_, List.getElem?_eq_getElem hlt⟩
          obtain ⟨vn, vk, ⟨c0, c1, c2, c3, c4, c5, c6, c7⟩, hsn, hik⟩ := ns_get (HH.out.below HBR.out) hm
          obtain ⟨A1, k1, rfl⟩ := strs_form hsn (nm_len _)
          obtain ⟨A2, k2, rfl⟩ := ints_form hik (idE_len _)
          have hgl := World.block_lt_of_cell? _ _ c0
          have HI := Lib.hid hik
          have HM := Lib.hid hm
          have hml := ok_ents_le HOK.out (List.mem_of_getElem? hm)
          obtain ⟨AL, hAL⟩ : ∃ AL, m.ents.all (fun e => tis t e.2) = AL := ⟨_, rfl⟩
          have HAL := Lib.hid hAL
          clear hsn hik hm hAL
          go_wp2
          go_loopg [7] m.ents.length (fun gh s7 wx => ∃ j : Nat, s7 = .int .i64 j ∧ j ≤ m.ents.length ∧ gh = m.ents.length - j ∧ (m.ents.drop j).all (fun e => tis t e.2) = AL ∧ Below (wq.alloc (.cells (rfC m (.slice A1 m.ents.length k1) (.slice A2 m.ents.length k2)) 34)).heap.size (wq.alloc (.cells (rfC m (.slice A1 m.ents.length k1) (.slice A2 m.ents.length k2)) 34)) wx)
          case atStart => exact ⟨0, rfl, Nat.zero_le _, rfl, HAL.out, Below.refl _ _⟩
          case round =>
            obtain ⟨j, rfl, hj, rfl, hx, hbx⟩ := hrel
            have HBW := Lib.hid (bt hbx (bt (ba wq (.cells (rfC m (.slice A1 m.ents.length k1) (.slice A2 m.ents.length k2)) 34)) HBR.out))
            have HBX := Lib.hid hbx
            have HKX := Lib.hid ((HBK.out.below (ba wq (.cells (rfC m (.slice A1 m.ents.length k1) (.slice A2 m.ents.length k2)) 34))).below hbx)
            have HKN := Lib.hid ((Blk.new wq 34 (rfC m (.slice A1 m.ents.length k1) (.slice A2 m.ents.length k2))).below hbx)
            have hix := HI.out.below (bt hbx (ba wq (.cells (rfC m (.slice A1 m.ents.length k1) (.slice A2 m.ents.length k2)) 34)))
            have q0 : wr.cell? ⟨w.heap.size, 0, none⟩ = some (.slice (some ⟨g, 0, none⟩) t.length c) := HKX.out.cell 0
            obtain ⟨n0, n1, n2, n3, n4, n5, n6, n7⟩ := HKN.out.c8
            clear c0 c1 c2 c3 c4 c5 c6 c7 p0 hbx
            by_cases hjl : j < m.ents.length
            · have hjl' : (j : Int) < (m.ents.length : Int) := by omega
              obtain ⟨e, hje⟩ : ∃ e, m.ents[j]? = some e := ⟨_, List.getElem?_eq_getElem hjl⟩
              obtain ⟨ad, hA, d0⟩ := ints_get hix (idE_at hje)
              subst hA
              rw [all_drop hje] at hx
              have HIS := Lib.hid (HRI.out wr.drew e.2 (bt (Below.refl _ _).drew HBW.out))
              clear hje hix
              cases q : tis t e.2
              · rw [q] at hx HIS
                have HXX := Lib.hid (HN2.out k hlt (node_lost HOK.out HM.out (by rw [HAL.out, ← hx]; rfl)))
                clear hx q
                go_upto_region 10 with fail
                have SX : wr.drew.cell? ⟨w.heap.size, 0, none⟩ = some (.slice (some ⟨g, 0, none⟩) t.length c) ∧ wr.drew.cell? ⟨wq.heap.size, 6, none⟩ = some (.slice (some ad) m.ents.length k2) ∧ wr.drew.cell? (ad.add j) = some (.int .i64 e.2) := ⟨q0, n6, d0⟩
                have SK : ∀ (Y Y' : World), Below Y.heap.size Y Y' → (Y.cell? ⟨w.heap.size, 0, none⟩ = some (.slice (some ⟨g, 0, none⟩) t.length c) ∧ Y.cell? ⟨wq.heap.size, 6, none⟩ = some (.slice (some ad) m.ents.length k2) ∧ Y.cell? (ad.add j) = some (.int .i64 e.2)) → (Y'.cell? ⟨w.heap.size, 0, none⟩ = some (.slice (some ⟨g, 0, none⟩) t.length c) ∧ Y'.cell? ⟨wq.heap.size, 6, none⟩ = some (.slice (some ad) m.ents.length k2) ∧ Y'.cell? (ad.add j) = some (.int .i64 e.2)) := fun Y Y' hb ⟨a0, a1, a2⟩ => ⟨bc hb a0, bc hb a1, bc hb a2⟩
                go_region_held3 (fun w' => w'.cell? ⟨w.heap.size, 0, none⟩ = some (.slice (some ⟨g, 0, none⟩) t.length c) ∧ w'.cell? ⟨wq.heap.size, 6, none⟩ = some (.slice (some ad) m.ents.length k2) ∧ w'.cell? (ad.add j) = some (.int .i64 e.2))
                  (first | exact SX | exact (SK _ _ h1 SX))
                  (first | (go_at_call 23; (with_reducible refine HIS.out.mono ?_); rintro e1 x1 ⟨rfl, h1⟩))
                all_goals (
                  have HB7 := Lib.hid (bt h1 (bt (Below.refl _ _).drew HBW.out))
                  go_wp2
                  go_ret
                  exact ⟨ret_bool HXX.out.symm, HB7.out⟩)
              · rw [q, Bool.true_and] at hx
                rw [q] at HIS
                have HXX := Lib.hid hx
                clear hx q
                go_upto_region 10 with fail
                have SX : wr.drew.cell? ⟨w.heap.size, 0, none⟩ = some (.slice (some ⟨g, 0, none⟩) t.length c) ∧ wr.drew.cell? ⟨wq.heap.size, 6, none⟩ = some (.slice (some ad) m.ents.length k2) ∧ wr.drew.cell? (ad.add j) = some (.int .i64 e.2) := ⟨q0, n6, d0⟩
                have SK : ∀ (Y Y' : World), Below Y.heap.size Y Y' → (Y.cell? ⟨w.heap.size, 0, none⟩ = some (.slice (some ⟨g, 0, none⟩) t.length c) ∧ Y.cell? ⟨wq.heap.size, 6, none⟩ = some (.slice (some ad) m.ents.length k2) ∧ Y.cell? (ad.add j) = some (.int .i64 e.2)) → (Y'.cell? ⟨w.heap.size, 0, none⟩ = some (.slice (some ⟨g, 0, none⟩) t.length c) ∧ Y'.cell? ⟨wq.heap.size, 6, none⟩ = some (.slice (some ad) m.ents.length k2) ∧ Y'.cell? (ad.add j) = some (.int .i64 e.2)) := fun Y Y' hb ⟨a0, a1, a2⟩ => ⟨bc hb a0, bc hb a1, bc hb a2⟩
                go_region_held3 (fun w' => w'.cell? ⟨w.heap.size, 0, none⟩ = some (.slice (some ⟨g, 0, none⟩) t.length c) ∧ w'.cell? ⟨wq.heap.size, 6, none⟩ = some (.slice (some ad) m.ents.length k2) ∧ w'.cell? (ad.add j) = some (.int .i64 e.2))
                  (first | exact SX | exact (SK _ _ h1 SX))
                  (first | (go_at_call 23; (with_reducible refine HIS.out.mono ?_); rintro e1 x1 ⟨rfl, h1⟩))
                all_goals (
                  have HB7 := Lib.hid (bt h1 (bt (Below.refl _ _).drew HBX.out))
                  go_wp2
                  go_roundg (m.ents.length - (j + 1))
                  case measure => omega
                  case rel => exact ⟨j + 1, by go_num, by omega, rfl, HXX.out, HB7.out⟩)
            · have hjl' : ¬ (j : Int) < (m.ents.length : Int) := by omega
              rw [List.drop_eq_nil_of_le (by omega)] at hx
              have HNT := Lib.hid (node_rest (op := op) HM.out (show m.ents.all (fun e => tis t e.2) = true by rw [HAL.out, ← hx]; rfl))
              have HF := Lib.hid (HN2.out k hlt)
              have HLI := Lib.hid (HRL.out wr ((k : Int) + 1) HBW.out)
              have HRT := Lib.hid (fun W (hb : Below w.heap.size w W) => HRR.out W ((k : Int) + 1) hb)
              have HII := Lib.hid (fun W (hb : Below w.heap.size w W) => HIN.out W ((k : Int) + 1) hb)
              have hnt := HNT.out
              generalize linkT t ((k : Int) + 1) = LK at hnt HLI
              generalize rootT (parF t) 24 ((k : Int) + 1) = RT at hnt HRT
              generalize inL op ((k : Int) + 1) = IL at hnt HII
              clear HNT hx hix
              go_wp2_with fail
              refine HLI.out.mono ?_
              rintro e w8 ⟨rfl, hb8⟩
              have HB8 := Lib.hid (bt hb8 HBW.out)
              have HK8 := Lib.hid (HKX.out.below hb8)
              have r0 : w8.cell? ⟨wq.heap.size, 0, none⟩ = some (.int .i64 m.kind) := bc hb8 n0
              have r1 : w8.cell? ⟨w.heap.size, 0, none⟩ = some (.slice (some ⟨g, 0, none⟩) t.length c) := bc hb8 q0
              clear hb8 n0 n1 n2 n3 n4 n5 n6 n7 q0
              unfold restT at hnt
              by_cases k2 : m.kind = 2
              · have e2 : (m.kind == 2) = true := by simpa using k2
                have e3 : (m.kind == 1) = false := by rw [k2]; rfl
                have e4 : (m.kind == 3) = false := by rw [k2]; rfl
                rw [if_pos k2] at hnt
                clear k2
                by_cases q1 : k = 0
                · have e5 : decide (1 < (k : Int) + 1) = false := decide_eq_false (by omega)
                  have HQ := Lib.hid (show nodeT t op ((k : Int) + 1) = true by rw [hnt, decide_eq_true (by omega)]; rfl)
                  clear hnt
                  go_wp2
                  go_roundg (t.length - (k + 1))
                  case measure => omega
                  case rel => exact ⟨k + 1, by go_num, by omega, rfl, (fun i h1 => by
                    by_cases q : i < k
                    · exact HALL.out i q
                    · have e1 : i = k := by omega
                      subst e1
                      exact HQ.out), HB8.out, HK8.out⟩
                · have e5 : decide (1 < (k : Int) + 1) = true := decide_eq_true (by omega)
                  rw [decide_eq_false (show ¬ (k : Int) + 1 = 1 by omega), Bool.false_or] at hnt
                  by_cases q3 : LK = 1
                  · subst q3
                    have e6 : (((1 : Nat) : Int) != 1) = false := rfl
                    rw [decide_eq_true rfl, Bool.true_and] at hnt
                    cases RT
                    · have HXX := Lib.hid (HF.out hnt)
                      clear hnt
                      go_wp2_with fail
                      refine (HRT.out _ HB8.out).mono ?_
                      rintro e w9 ⟨rfl, hb9⟩
                      have HB9 := Lib.hid (bt hb9 HB8.out)
                      clear hb9
                      go_wp2
                      go_ret
                      exact ⟨ret_bool HXX.out.symm, HB9.out⟩
                    · have HQ := Lib.hid hnt
                      clear hnt
                      go_wp2_with fail
                      refine (HRT.out _ HB8.out).mono ?_
                      rintro e w9 ⟨rfl, hb9⟩
                      have HB9 := Lib.hid (bt hb9 HB8.out)
                      have HK9 := Lib.hid (HK8.out.below hb9)
                      have r2 := bc hb9 r0
                      clear hb9 r0 r1
                      go_wp2
                      go_roundg (t.length - (k + 1))
                      case measure => omega
                      case rel => exact ⟨k + 1, by go_num, by omega, rfl, (fun i h1 => by
                        by_cases q : i < k
                        · exact HALL.out i q
                        · have e1 : i = k := by omega
                          subst e1
                          exact HQ.out), HB9.out, HK9.out⟩
                  · have e6 : ((LK : Int) != 1) = true := by rw [bne_iff_ne]; omega
                    have HXX := Lib.hid (HF.out (by rw [hnt, decide_eq_false q3]; rfl))
                    clear hnt q3
                    go_wp2
                    go_ret
                    exact ⟨ret_bool HXX.out.symm, HB8.out⟩
              · have e2 : (m.kind == 2) = false := by simpa using k2
                rw [if_neg k2] at hnt
                by_cases k1 : m.kind = 1 ∨ m.kind = 3
                · have e3 : (m.kind == 1) = true ∨ ((m.kind == 1) = false ∧ (m.kind == 3) = true) := by
                    rcases k1 with q | q
                    · exact Or.inl (by rw [q]; rfl)
                    · exact Or.inr ⟨by rw [q]; rfl, by rw [q]; rfl⟩
                  rw [if_pos k1] at hnt
                  clear k1 k2
                  by_cases q3 : LK = 0
                  · subst q3
                    rw [decide_eq_false (by omega), Bool.false_or] at hnt
                    cases IL
                    · have HXX := Lib.hid (HF.out hnt)
                      clear hnt
                      rcases e3 with e3 | ⟨e3, e4⟩
                      all_goals (
                        go_wp2_with fail
                        refine (HII.out _ HB8.out).mono ?_
                        rintro e w9 ⟨rfl, rfl⟩
                        go_wp2
                        go_ret
                        exact ⟨ret_bool HXX.out.symm, HB8.out⟩)
                    · have HQ := Lib.hid hnt
                      clear hnt
                      rcases e3 with e3 | ⟨e3, e4⟩
                      all_goals (
                        go_wp2_with fail
                        refine (HII.out _ HB8.out).mono ?_
                        rintro e w9 ⟨rfl, rfl⟩
                        go_wp2
                        go_roundg (t.length - (k + 1))
                        case measure => omega
                        case rel => exact ⟨k + 1, by go_num, by omega, rfl, (fun i h1 => by
                          by_cases q : i < k
                          · exact HALL.out i q
                          · have e1 : i = k := by omega
                            subst e1
                            exact HQ.out), HB8.out, HK8.out⟩)
                  · have e6 : ((LK : Int) == 0) = false := by rw [beq_eq_false_iff_ne]; omega
                    have HQ := Lib.hid (show nodeT t op ((k : Int) + 1) = true by rw [hnt, decide_eq_true (by omega)]; rfl)
                    clear hnt q3
                    rcases e3 with e3 | ⟨e3, e4⟩
                    all_goals (
                      go_wp2
                      go_roundg (t.length - (k + 1))
                      case measure => omega
                      case rel => exact ⟨k + 1, by go_num, by omega, rfl, (fun i h1 => by
                        by_cases q : i < k
                        · exact HALL.out i q
                        · have e1 : i = k := by omega
                          subst e1
                          exact HQ.out), HB8.out, HK8.out⟩)
                · have e3 : (m.kind == 1) = false := by rw [beq_eq_false_iff_ne]; exact fun h => k1 (Or.inl h)
                  have e4 : (m.kind == 3) = false := by rw [beq_eq_false_iff_ne]; exact fun h => k1 (Or.inr h)
                  rw [if_neg k1] at hnt
                  have HQ := Lib.hid hnt
                  clear hnt k1 k2
                  go_wp2
                  go_roundg (t.length - (k + 1))
                  case measure => omega
                  case rel => exact ⟨k + 1, by go_num, by omega, rfl, (fun i h1 => by
                    by_cases q : i < k
                    · exact HALL.out i q
                    · have e1 : i = k := by omega
                      subst e1
                      exact HQ.out), HB8.out, HK8.out⟩
        · have hlt' : ¬ (k : Int) + 1 ≤ (t.length : Int) := by omega
          have HX := Lib.hid (HY1.out (fun j hj => HALL.out j (by omega)))
          go_wp2
          go_ret
          exact ⟨ret_bool HX.out.symm, HBR.out⟩
    · have e1 : decide (0 < LI) = true := decide_eq_true (by omega)
      have HX := Lib.hid (HN1.out q)
      clear HY HN0 HN1 HN2 hk q
      go_enter Try.func37, Try.ntmps37
      go_wp2_with fail
      refine (HGT.out _ HB1.out).mono ?_
      rintro e w4 ⟨vn, vk, rfl, -, -, hb4⟩
      have HB4 := Lib.hid (bt hb4 HB1.out)
      have p0 : w4.cell? ⟨w.heap.size, 0, none⟩ = some (.slice (some ⟨g, 0, none⟩) t.length c) := (HK1.out.below hb4).cell 0
      clear hb4
      go_wp2_with fail
      refine (HL1.out _ HB4.out).mono ?_
      rintro e w5 ⟨rfl, hb5⟩
      have HB5 := Lib.hid (bt hb5 HB4.out)
      clear hb5
      go_wp2
      go_ret
      exact ⟨ret_bool HX.out.symm, HB5.out⟩
  · have e0 : (n.kind != 2) = true := by simpa using hk
    have HX := Lib.hid (HN0.out hk)
    clear HY HN0 HN1 HN2 hk
    go_enter Try.func37, Try.ntmps37
    go_wp2_with fail
    refine (HGT.out _ HB1.out).mono ?_
    rintro e w4 ⟨vn, vk, rfl, -, -, hb4⟩
    have HB4 := Lib.hid (bt hb4 HB1.out)
    clear hb4
    go_wp2
    go_ret
    exact ⟨ret_bool HX.out.symm, HB4.out⟩
end Go.Proofs.Ytnecnnajngfooaa
