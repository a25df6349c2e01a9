/-
  The walk of PlantRoom: it answers true of whatever is told, and of any names. The conditions: what is told, and the names, are no longer than a machine can hold.
-/
import Derived.Test.YtgcllgfkifpkeaaAwQ
import Derived.Deep.RegionHeld3
import Derived.Deep.DeepCutAuto
import Derived.StillTailTactics
namespace Go.Proofs.Ytgcllgfkifpkeaa
open Go Go.RowKit
set_option maxRecDepth 100000

attribute [local go_sem] cell_off4 cell_blk4
theorem crr_none (W : World) : CrR W wh0 none 0 0 := ⟨IntsR.nil W, by decide⟩
/-- What a name is in the root: its number, or 0. -/
theorem room_num {t : List Nd} (ht : Trx t) {n : Nm} (h : fnd (tget t 1).ents n ≠ 0) : 0 < fnd (tget t 1).ents n := by
  have h1 := tis_in (fnd_tis ht h)
  omega
set_option maxHeartbeats 8000000 in
theorem lroom_any (x0 : Int) (v1 : Value) (l : List Rw) (v2 : Value) (N : List ByteArray) (w : World) (h1 : RawsR w v1 l) (hl1 : l.length ≤ maxLen) (h2 : StrsR w v2 N) (hs2 : ∀ s ∈ N, s.size ≤ maxLen) (hx : 0 ≤ x0 ∧ x0 ≤ 255) :
    Calls Try.prog 3 #[.int .u8 x0, v1, v2] w fun e w' => e = .returned (.bool true) ∧ Below w.heap.size w w' := by
  obtain ⟨A, cN, rfl⟩ := strs_form h2 rfl
  have HA := Lib.hid (awk14_any w)
  have HR := Lib.hid h1
  have HL := Lib.hid hl1
  have HNM := Lib.hid h2
  have HSZ := Lib.hid hs2
  obtain ⟨hx0, hx1⟩ := hx
  clear h1 hl1 h2 hs2
  go_enter Try.func3, Try.ntmps3
  go_wp2_with fail
  refine HA.out.mono ?_
  rintro e w2 ⟨rfl, hb2⟩
  have HB2 := Lib.hid hb2
  clear hb2 HA
  obtain ⟨k0', k1, k2⟩ := (Blk.new w2 27 #[.int .i64 0, .int .i64 0, .slice none 0 0]).c3
  go_wp2_with fail
  have HB3 := Lib.hid (bt (ba w2 (.cells #[.int .i64 0, .int .i64 0, .slice none 0 0] 27)) HB2.out)
  have HK3 := Lib.hid (Blk.new w2 27 #[.int .i64 0, .int .i64 0, .slice none 0 0])
  generalize w2.alloc (.cells #[.int .i64 0, .int .i64 0, .slice none 0 0] 27) = W3 at HB3 HK3 k0' k1 k2 ⊢
  generalize w2.heap.size = kb at HK3 k0' k1 k2 ⊢
  have HBL := Lib.hid (show Calls Try.prog 5 #[.int .i64 x0, v1, .agg #[.int .i64 0, .int .i64 0, .slice none 0 0]] W3 fun e w' => BltAns W3 x0 l wh0 e w' ∧ Below W3.heap.size W3 w' from built_any x0 v1 l wh0 none 0 0 W3 (HR.out.below HB3.out) HL.out (IntsR.nil _))
  clear HR
  refine HBL.out.mono ?_
  rintro e w4 ⟨hans, hb4⟩
  have HB4 := Lib.hid (bt hb4 HB3.out)
  have hk4 := HK3.out.below hb4
  have hkl := HK3.out.lt
  clear k0' k1 k2 hb4 HBL
  rcases hans with ⟨rfl, -⟩ | ⟨g, T, rfl, hB, hT, hG⟩
  · clear hk4 hkl
    go_wp2
    go_ret
    exact ⟨rfl, HB4.out⟩
  have HTT := Lib.hid hT
  have HTR := Lib.hid ((tre_all hB.2).1)
  have HK4 := Lib.hid hk4
  have HGE := Lib.hid (show w.heap.size ≤ g from Nat.le_trans HB3.out.size hG)
  have HKG := Lib.hid (show kb ≠ g from Nat.ne_of_lt (Nat.lt_of_lt_of_le hkl hG))
  clear hT hB hk4 HK3 hG hkl HB3 HL
  by_cases hl : 20 < N.length
  · have ya : (N.length : Int) > 20 := by omega
    clear hl
    go_wp2
    go_ret
    exact ⟨rfl, HB4.out⟩
  have ya : ¬ (N.length : Int) > 20 := by omega
  have hN20 : N.length ≤ 20 := by omega
  clear hl
  go_wp2
  go_loopg [11] N.length (fun gh s11 wr => ∃ (k : Nat) (Tk : List Nd), s11 = .int .i64 k ∧ k ≤ N.length ∧ gh = N.length - k ∧ TabR wr g Tk (fun _ => True) ∧ Trx Tk ∧ Blk wr kb 27 #[.int .i64 0, .int .i64 0, .slice none 0 0] ∧ Below w.heap.size w wr)
  case atStart => exact ⟨0, T, rfl, Nat.zero_le _, rfl, HTT.out, HTR.out, HK4.out, HB4.out⟩
  case round =>
    obtain ⟨k, Tk, rfl, hk, rfl, ht, htr, hkb, hbr⟩ := hrel
    have HTr := Lib.hid ht
    have HTX := Lib.hid htr
    have HKr := Lib.hid hkb
    have HBR := Lib.hid hbr
    have hnr := HNM.out.below hbr
    clear ht htr hkb hbr
    by_cases hlt : k < N.length
    · have hlt' : (k : Int) < (N.length : Int) := by omega
      obtain ⟨s, hs⟩ : ∃ s, N[k]? = some s := ⟨_, List.getElem?_eq_getElem hlt⟩
      obtain ⟨ad, rfl, c0⟩ := strs_get hnr hs
      have HNA := Lib.hid (show Calls Try.prog 6 #[.string s] wr fun e w' => e = .returned (.bool (nok (tl s))) ∧ wr = w' from by have h := Name_any s wr (HSZ.out s (List.mem_of_getElem? hs)); rw [nam_nok] at h; exact h)
      obtain ⟨n, rfl⟩ : ∃ n, s = bA n := ⟨tl s, (bA_tl s).symm⟩
      rw [tl_bA] at HNA
      clear hs hnr
      have HLT := Lib.hid hlt
      cases hnk : nok n with
      | false =>
        rw [hnk] at HNA
        clear hnk
        go_wp2_with fail
        refine HNA.out.mono ?_
        rintro e w' ⟨rfl, rfl⟩
        go_wp2
        go_ret
        exact ⟨rfl, HBR.out⟩
      | true =>
      rw [hnk] at HNA
      obtain ⟨E, hE⟩ : ∃ E, mkE Tk wh0 0 n 511 = E := ⟨_, rfl⟩
      obtain ⟨Tn, hTn⟩ : ∃ Tn, mkT Tk wh0 0 n 511 = Tn := ⟨_, rfl⟩
      have HMK := Lib.hid (fun (W : World) (h : TabR W g Tk (fun _ => True)) => show Calls Try.prog 11 #[.pointer (some ⟨g, 0, none⟩), .agg #[.int .i64 0, .int .i64 0, .slice none 0 0], .int .i64 0, .string (bA n), .int .i64 511] W fun e w' => e = .returned (.int .i64 E) ∧ TabR w' g Tn (fun _ => True) ∧ W.grownBy w' (some g) from by have h1 := mkdirC g Tk (fun _ => True) wh0 none 0 0 0 n 511 W h HTX.out (crr_none W) (fun _ _ => trivial); rw [hE, hTn] at h1; exact h1)
      have HTN := Lib.hid (show Trx Tn from by rw [← hTn]; exact mk_trx HTX.out wh0 0 n 511)
      have HE := Lib.hid (show E = if fnd (tget Tk 1).ents n ≠ 0 then 17 else if (tget Tk 1).ents.length = 8 ∨ usedT Tk = Tk.length then 28 else 0 from by rw [← hE]; exact room_err HTX.out hnk)
      have HNU := Lib.hid (fun (h : fnd (tget Tk 1).ents n ≠ 0) => room_num HTX.out h)
      have HG := Lib.hid (get_any (.pointer (some ⟨g, 0, none⟩)) Tk 1 wr HTr.out.ptr)
      have HFW := Lib.hid (ok_few HTr.out.ok 1)
      generalize tis Tk 1 = qt at HG
      generalize tget Tk 1 = d at HG HE HNU HFW
      clear hE hTn hnk
      go_wp2_with fail
      refine HNA.out.mono ?_
      rintro e w' ⟨rfl, rfl⟩
      go_wp2_with fail
      refine HG.out.mono ?_
      rintro e w5 ⟨vd, ve, rfl, hd, he, -, -, hb5⟩
      obtain ⟨A1, c1, hv1⟩ := bytesT_form hd
      obtain ⟨A2, c2, hv2⟩ := entsT_form he
      subst hv1 hv2
      unfold nodeV
      have hbx := al hb5 (.cells #[.int .i64 d.kind, .int .i64 d.mode, .int .i64 d.uid, .int .i64 d.gid, .slice A1 d.data.length c1, .slice A2 d.ents.length c2, .string (bA d.target)] 35)
      have hkn := Blk.new w5 35 #[.int .i64 d.kind, .int .i64 d.mode, .int .i64 d.uid, .int .i64 d.gid, .slice A1 d.data.length c1, .slice A2 d.ents.length c2, .string (bA d.target)]
      have hd6 := hd.1.below (ba w5 (.cells #[.int .i64 d.kind, .int .i64 d.mode, .int .i64 d.uid, .int .i64 d.gid, .slice A1 d.data.length c1, .slice A2 d.ents.length c2, .string (bA d.target)] 35))
      have he6 := he.1.below (ba w5 (.cells #[.int .i64 d.kind, .int .i64 d.mode, .int .i64 d.uid, .int .i64 d.gid, .slice A1 d.data.length c1, .slice A2 d.ents.length c2, .string (bA d.target)] 35))
      obtain ⟨z, hz⟩ : ∃ z, w5.heap.size = z := ⟨_, rfl⟩
      obtain ⟨W6, hW6⟩ : ∃ W6, w5.alloc (.cells #[.int .i64 d.kind, .int .i64 d.mode, .int .i64 d.uid, .int .i64 d.gid, .slice A1 d.data.length c1, .slice A2 d.ents.length c2, .string (bA d.target)] 35) = W6 := ⟨_, rfl⟩
      rw [hW6] at hbx hkn hd6 he6
      rw [hz] at hkn
      have HZ6 := Lib.hid hkn
      have HB6 := Lib.hid (bt hbx HBR.out)
      have HT6 := Lib.hid (HTr.out.below hbx)
      have HK6 := Lib.hid (HKr.out.below hbx)
      have HC6 := Lib.hid (bc hbx c0)
      obtain ⟨FX, hFX⟩ : ∃ FX, fnd d.ents n = FX := ⟨_, rfl⟩
      have HFI := Lib.hid (fun (W : World) (hb : Below W6.heap.size W6 W) => show Calls Try.prog 8 #[.agg #[.int .i64 d.kind, .int .i64 d.mode, .int .i64 d.uid, .int .i64 d.gid, .slice A1 d.data.length c1, .slice A2 d.ents.length c2, .string (bA d.target)], .string (bA n)] W fun e w' => e = .returned (.int .i64 FX) ∧ Below W.heap.size W w' from by have h := find_any d (.slice A1 d.data.length c1) (.slice A2 d.ents.length c2) n W (hd6.below hb) (he6.below hb) HFW.out.ents; rw [hFX] at h; exact h)
      rw [hFX] at HE HNU
      have HPR := Lib.hid (fun (W : World) (hb : Below W6.heap.size W6 W) => show W.cell? ⟨z, 0, none⟩ = some (.int .i64 d.kind) ∧ W.cell? ⟨z, 1, none⟩ = some (.int .i64 d.mode) ∧ W.cell? ⟨z, 2, none⟩ = some (.int .i64 d.uid) ∧ W.cell? ⟨z, 3, none⟩ = some (.int .i64 d.gid) ∧ W.cell? ⟨z, 4, none⟩ = some (.slice A1 d.data.length c1) ∧ W.cell? ⟨z, 5, none⟩ = some (.slice A2 d.ents.length c2) ∧ W.cell? ⟨z, 6, none⟩ = some (.string (bA d.target)) ∧ W.cell? (ad.add k) = some (.string (bA n)) from ⟨(HZ6.out.below hb).c7.1, (HZ6.out.below hb).c7.2.1, (HZ6.out.below hb).c7.2.2.1, (HZ6.out.below hb).c7.2.2.2.1, (HZ6.out.below hb).c7.2.2.2.2.1, (HZ6.out.below hb).c7.2.2.2.2.2.1, (HZ6.out.below hb).c7.2.2.2.2.2.2, bc hb HC6.out⟩)
      have J6 := Lib.hid (show Below W6.heap.size W6 W6.drew from (Below.refl _ _).drew)
      clear hd he hb5 hbx hkn hd6 he6 hFX HG HTr HKr HBR c0 HNA
      go_upto_region 14 with fail
      clear hW6 hz
      go_cut [14] (fun s14 wx => s14 = .bool (decide (FX ≠ 0)) ∧ Below W6.heap.size W6 wx)
      case first =>
        by_cases qT : FX = 0
        · have y1 : ¬ FX > 0 := by omega
          have HD := Lib.hid (show decide (FX ≠ 0) = false from by simp [qT])
          have HY := Lib.hid (show decide (0 < FX) = false from decide_eq_false (by omega))
          clear qT
          go_region_held3 (fun W => W.cell? ⟨z, 0, none⟩ = some (.int .i64 d.kind) ∧ W.cell? ⟨z, 1, none⟩ = some (.int .i64 d.mode) ∧ W.cell? ⟨z, 2, none⟩ = some (.int .i64 d.uid) ∧ W.cell? ⟨z, 3, none⟩ = some (.int .i64 d.gid) ∧ W.cell? ⟨z, 4, none⟩ = some (.slice A1 d.data.length c1) ∧ W.cell? ⟨z, 5, none⟩ = some (.slice A2 d.ents.length c2) ∧ W.cell? ⟨z, 6, none⟩ = some (.string (bA d.target)) ∧ W.cell? (ad.add k) = some (.string (bA n)))
            (first | (with_reducible exact HPR.out _ J6.out) | (with_reducible exact HPR.out _ J7.out))
            (first | (go_at_call 8; (with_reducible refine (HFI.out _ J6.out).mono ?_); rintro e w7 ⟨rfl, hb⟩; have J7 := Lib.hid (bt hb J6.out); clear hb))
          all_goals (
            go_wp2
            go_meet
            exact ⟨by rw [HD.out]; first | rfl | rw [HY.out], J7.out⟩)
        · have y1 : FX > 0 := HNU.out qT
          have HD := Lib.hid (show decide (FX ≠ 0) = true from by simp [qT])
          clear qT
          go_region_held3 (fun W => W.cell? ⟨z, 0, none⟩ = some (.int .i64 d.kind) ∧ W.cell? ⟨z, 1, none⟩ = some (.int .i64 d.mode) ∧ W.cell? ⟨z, 2, none⟩ = some (.int .i64 d.uid) ∧ W.cell? ⟨z, 3, none⟩ = some (.int .i64 d.gid) ∧ W.cell? ⟨z, 4, none⟩ = some (.slice A1 d.data.length c1) ∧ W.cell? ⟨z, 5, none⟩ = some (.slice A2 d.ents.length c2) ∧ W.cell? ⟨z, 6, none⟩ = some (.string (bA d.target)) ∧ W.cell? (ad.add k) = some (.string (bA n)))
            (first | (with_reducible exact HPR.out _ J6.out) | (with_reducible exact HPR.out _ J7.out))
            (first | (go_at_call 8; (with_reducible refine (HFI.out _ J6.out).mono ?_); rintro e w7 ⟨rfl, hb⟩; have J7 := Lib.hid (bt hb J6.out); clear hb))
          all_goals (
            go_wp2
            go_meet
            exact ⟨by rw [HD.out], J7.out⟩)
      case rest =>
      obtain ⟨rfl, hb7⟩ := hcut
      obtain ⟨w7, hw7⟩ : ∃ W, wc = W := ⟨_, rfl⟩
      rw [hw7] at hb7 ⊢
      obtain ⟨TH, hTH⟩ : ∃ b, decide (FX ≠ 0) = b := ⟨_, rfl⟩
      rw [hTH]
      have HTH := Lib.hid hTH
      clear hTH
      have HZ7 := Lib.hid (HZ6.out.below hb7)
      have HB7 := Lib.hid (bt hb7 HB6.out)
      have HT7 := Lib.hid (HT6.out.below hb7)
      have HK7 := Lib.hid (HK6.out.below hb7)
      have HC7 := Lib.hid (bc hb7 HC6.out)
      clear hb7 hw7 HPR J6 HFI HZ6 HB6 HT6 HK6 HC6
      have HU := Lib.hid (fun (W : World) (hb : Below w7.heap.size w7 W) => used_any (.pointer (some ⟨g, 0, none⟩)) Tk W (HT7.out.below hb).ptr)
      have HRM := Lib.hid (fun (W : World) (hb : Below w7.heap.size w7 W) => room_any (.pointer (some ⟨g, 0, none⟩)) Tk W (HT7.out.below hb).ptr)
      obtain ⟨us, hus⟩ : ∃ us, usedT Tk = us := ⟨_, rfl⟩
      obtain ⟨le, hle⟩ : ∃ le, Tk.length = le := ⟨_, rfl⟩
      rw [hus] at HU HE
      rw [hle] at HRM HE
      clear hus hle
      obtain ⟨x0, x1, x2, x3, x4, x5, x6⟩ := HZ7.out.c7
      have J7 := Lib.hid (Below.refl w7.heap.size w7)
      go_upto_region 15 with fail
      go_cut [15] (fun s15 wx => s15 = .bool (decide (d.ents.length = 8 ∨ us = le)) ∧ Below w7.heap.size w7 wx)
      case first =>
        by_cases q8 : d.ents.length = 8
        · have y8 : ((d.ents.length : Int) == 8) = true := by simp [q8]
          have HQ := Lib.hid (show decide (d.ents.length = 8 ∨ us = le) = true from decide_eq_true (.inl q8))
          clear q8
          go_wp2
          go_meet
          exact ⟨by rw [HQ.out], J7.out⟩
        · have y8 : ((d.ents.length : Int) == 8) = false := by
            have : ¬ (d.ents.length : Int) = 8 := by omega
            simpa using this
          have HQ8 := Lib.hid q8
          clear q8
          go_wp2_with fail
          refine (HU.out w7 J7.out).mono ?_
          rintro e w8 ⟨rfl, hb8⟩
          have J8 := Lib.hid hb8
          clear hb8
          go_wp2_with fail
          refine (HRM.out w8 J8.out).mono ?_
          rintro e w9 ⟨rfl, rfl⟩
          by_cases qu : us = le
          · have yu : ((us : Int) == (le : Int)) = true := by simp [qu]
            have HQ := Lib.hid (show decide (d.ents.length = 8 ∨ us = le) = true from decide_eq_true (.inr qu))
            clear qu
            go_wp2
            go_meet
            exact ⟨by rw [HQ.out], J8.out⟩
          · have yu : ((us : Int) == (le : Int)) = false := by
              have : ¬ (us : Int) = (le : Int) := by omega
              simpa using this
            have HQ := Lib.hid (show decide (d.ents.length = 8 ∨ us = le) = false from decide_eq_false (fun q => q.elim HQ8.out qu))
            clear qu
            go_wp2
            go_meet
            exact ⟨by rw [HQ.out], J8.out⟩
      case rest =>
      obtain ⟨rfl, hb8⟩ := hcut
      obtain ⟨w8, hw8⟩ : ∃ W, wc = W := ⟨_, rfl⟩
      rw [hw8] at hb8 ⊢
      have HB8 := Lib.hid (bt hb8 HB7.out)
      have HT8 := Lib.hid (HT7.out.below hb8)
      have HK8 := Lib.hid (HK7.out.below hb8)
      have hk8 := HK8.out
      have c0 := bc hb8 HC7.out
      obtain ⟨k0', k1, k2⟩ := hk8.c3
      clear hb8 hw8 hk8 x0 x1 x2 x3 x4 x5 x6 HZ7 HB7 HT7 HK7 HC7 HU HRM J7
      have HC := Lib.hid (HMK.out w8.drew (HT8.out.below (Below.refl _ _).drew))
      have HKD := Lib.hid (HK8.out.below (Below.refl _ _).drew)
      have HBD := Lib.hid HB8.out.drew
      clear HMK HT8 HK8 HB8
      obtain ⟨FU, hFU⟩ : ∃ b, decide (d.ents.length = 8 ∨ us = le) = b := ⟨_, rfl⟩
      have hE2 : E = if TH = true then 17 else if FU = true then 28 else 0 := by
        rw [HE.out, ← HTH.out, ← hFU]
        simp only [decide_eq_true_eq]
      rw [hFU]
      clear HTH hFU HE HNU
      cases TH with
      | true =>
        cases FU with
        | true =>
          have hE3 : E = 17 := hE2
          subst hE3
          clear hE2
          go_upto_region 16 with fail
          go_still_tail 6, (by kernel_rfl)
          repeat still_step
          try refine wpStill_nil ?_
          change wpList _ _ _ _ _ (World.drew _)
          clear k0' k1 k2 c0
          generalize w8.drew = W9 at HC HKD HBD ⊢
          go_wp2_with fail
          refine HC.out.mono ?_
          rintro e w10 ⟨rfl, ht, hgr⟩
          have HTZ := Lib.hid ht
          have HKZ := Lib.hid (HKD.out.kept hgr (some_ne HKG.out))
          have HBZ := Lib.hid (grown_bl HBD.out hgr HGE.out)
          clear ht hgr HC HKD HBD
          have hlt := HLT.out
          go_wp2
          go_roundg (N.length - (k + 1))
          case measure => omega
          case rel => exact ⟨k + 1, Tn, by go_num, by omega, rfl, HTZ.out, HTN.out, HKZ.out, HBZ.out⟩
        | false =>
          have hE3 : E = 17 := hE2
          subst hE3
          clear hE2
          go_upto_region 16 with fail
          go_still_tail 6, (by kernel_rfl)
          repeat still_step
          try refine wpStill_nil ?_
          change wpList _ _ _ _ _ (World.drew _)
          clear k0' k1 k2 c0
          generalize w8.drew = W9 at HC HKD HBD ⊢
          go_wp2_with fail
          refine HC.out.mono ?_
          rintro e w10 ⟨rfl, ht, hgr⟩
          have HTZ := Lib.hid ht
          have HKZ := Lib.hid (HKD.out.kept hgr (some_ne HKG.out))
          have HBZ := Lib.hid (grown_bl HBD.out hgr HGE.out)
          clear ht hgr HC HKD HBD
          have hlt := HLT.out
          go_wp2
          go_roundg (N.length - (k + 1))
          case measure => omega
          case rel => exact ⟨k + 1, Tn, by go_num, by omega, rfl, HTZ.out, HTN.out, HKZ.out, HBZ.out⟩
      | false =>
        cases FU with
        | true =>
          have hE3 : E = 28 := hE2
          subst hE3
          clear hE2
          go_upto_region 16 with fail
          go_still_tail 6, (by kernel_rfl)
          repeat still_step
          try refine wpStill_nil ?_
          change wpList _ _ _ _ _ (World.drew _)
          clear k0' k1 k2 c0
          generalize w8.drew = W9 at HC HKD HBD ⊢
          go_wp2_with fail
          refine HC.out.mono ?_
          rintro e w10 ⟨rfl, ht, hgr⟩
          have HTZ := Lib.hid ht
          have HKZ := Lib.hid (HKD.out.kept hgr (some_ne HKG.out))
          have HBZ := Lib.hid (grown_bl HBD.out hgr HGE.out)
          clear ht hgr HC HKD HBD
          have hlt := HLT.out
          go_wp2
          go_roundg (N.length - (k + 1))
          case measure => omega
          case rel => exact ⟨k + 1, Tn, by go_num, by omega, rfl, HTZ.out, HTN.out, HKZ.out, HBZ.out⟩
        | false =>
          have hE3 : E = 0 := hE2
          subst hE3
          clear hE2
          go_upto_region 16 with fail
          go_still_tail 6, (by kernel_rfl)
          repeat still_step
          try refine wpStill_nil ?_
          change wpList _ _ _ _ _ (World.drew _)
          clear k0' k1 k2 c0
          generalize w8.drew = W9 at HC HKD HBD ⊢
          go_wp2_with fail
          refine HC.out.mono ?_
          rintro e w10 ⟨rfl, ht, hgr⟩
          have HTZ := Lib.hid ht
          have HKZ := Lib.hid (HKD.out.kept hgr (some_ne HKG.out))
          have HBZ := Lib.hid (grown_bl HBD.out hgr HGE.out)
          clear ht hgr HC HKD HBD
          have hlt := HLT.out
          go_wp2
          go_roundg (N.length - (k + 1))
          case measure => omega
          case rel => exact ⟨k + 1, Tn, by go_num, by omega, rfl, HTZ.out, HTN.out, HKZ.out, HBZ.out⟩
    · have hle : ¬ (k : Int) < (N.length : Int) := by omega
      have HBz := Lib.hid HBR.out
      go_wp2
      go_ret
      exact ⟨rfl, HBz.out⟩
end Go.Proofs.Ytgcllgfkifpkeaa
