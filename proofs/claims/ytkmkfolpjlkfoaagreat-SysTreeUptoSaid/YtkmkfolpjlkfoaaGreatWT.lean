/-
  The walk of SysTree: it answers true of whatever is told, of any umask, who ask and calls; with what is said of package sys. The conditions: what is told is no longer than a machine can hold.
-/
import Derived.Test.YtkmkfolpjlkfoaaGreatM13
import Derived.Deep.RegionWith
import Derived.Deep.RegionHeld3
import Derived.Deep.DeepCutAuto
namespace Go.Proofs.YtkmkfolpjlkfoaaGreat
open Go Go.RowKit
set_option maxRecDepth 100000

attribute [local go_sem] cell_off4 cell_blk4
set_option maxHeartbeats 16000000 in
theorem ltree_any {R : World → Value → Sym → List Nat → Prop} (HPC : SysC R) (HAK : ∀ W : World, Calls Tryz.prog 8 #[] W fun e w' => e = .returned (.bool true) ∧ Below W.heap.size W w') (x0 : Int) (v1 : Value) (l : List Rw) (um : Int) (v2 : Value) (cs : List Wh) (v3 : Value) (acts : List (Int × Cal)) (w : World) (h1 : RawsR w v1 l) (hl1 : l.length ≤ maxLen) (h2 : CdsR w v2 cs) (hg2 : ∀ c ∈ cs, c.gs.length ≤ 1048576) (hl2 : cs.length ≤ 1048576) (h3 : AcsR w v3 acts) (hl3 : acts.length ≤ maxLen) :
    Calls Tryz.prog 5 #[.int .i64 x0, v1, .int .i64 um, v2, v3] w fun e w' => e = .returned (.bool true) ∧ Below w.heap.size w w' := by
  have hl3' : acts.length ≤ 9223372036854775807 := by unfold maxLen at hl3; omega
  have HA := Lib.hid (HAK w)
  have HPD := Lib.hid HPC
  have HR := Lib.hid h1
  have HL1 := Lib.hid hl1
  have HC := Lib.hid h2
  have HG2 := Lib.hid hg2
  have HL2 := Lib.hid hl2
  have HAC := Lib.hid h3
  have HL3 := Lib.hid hl3
  clear h1 hl1 h2 hg2 hl2 h3 hl3 HPC HAK
  go_enter Tryz.func5, Tryz.ntmps5
  go_wp2_with fail
  refine HA.out.mono ?_
  rintro e w2 ⟨rfl, hb2⟩
  have HB2 := Lib.hid hb2
  have HBG := Lib.hid (begun_any HPD.out x0 v1 l um v2 cs w2 (HR.out.below hb2) HL1.out (HC.out.below hb2) HG2.out HL2.out)
  clear hb2 HA
  go_wp2_with fail
  refine HBG.out.mono ?_
  rintro e w3 ⟨hans, hb3⟩
  have HB3 := Lib.hid (bt hb3 HB2.out)
  clear hb3 HBG
  rcases hans with rfl | ⟨v, T, lb, rfl, hr, htx, hlb⟩
  · go_wp2
    go_ret
    exact ⟨rfl, HB3.out⟩
  have HRS := Lib.hid hr
  have HTX := Lib.hid htx
  have HLB := Lib.hid (show ∀ b ∈ lb, w.heap.size ≤ b from fun b hb => Nat.le_trans HB2.out.size (hlb b hb))
  have HFW := Lib.hid (sfew_any v3 v2 acts cs w3 (HAC.out.below HB3.out) (HC.out.below HB3.out) HL3.out HL2.out)
  clear hr htx hlb HB2
  go_wp2_with fail
  refine HFW.out.mono ?_
  rintro e w4 ⟨fb, rfl, hfb, rfl⟩
  cases fb
  case false =>
    go_wp2
    go_ret
    exact ⟨rfl, HB3.out⟩
  have HFE := Lib.hid (hfb rfl)
  have HI0 := Lib.hid (show Inv (newS T um cs) from inv_new HTX.out um (fun c hc => by have := HFE.out.gs c hc; omega))
  have HLN := Lib.hid (show ∀ S : Sym, Inv S → S.p.length = cs.length → (opnS S).length ≤ 1000 from fun S hi hn => inv_opn_few hi (n := 6) (by rw [hn]; exact HFE.out.c6) (by decide))
  have hl60 := HFE.out.l60
  have hl6 := HFE.out.c6
  obtain ⟨A3, c3, rfl⟩ := acs_form HAC.out
  obtain ⟨A2, c2, rfl⟩ := cds_form HC.out
  clear hfb HFW HTX
  go_wp2
  go_loopg [14] acts.length (fun gh s14 wr => ∃ k : Nat, s14 = .int .i64 k ∧ k ≤ acts.length ∧ gh = acts.length - k ∧ ∃ S : Sym, R wr v S lb ∧ Inv S ∧ S.p.length = cs.length ∧ Below w.heap.size w wr)
  case atStart => exact ⟨0, rfl, Nat.zero_le _, rfl, _, HRS.out, HI0.out, newS_len _ _ _, HB3.out⟩
  case round =>
    obtain ⟨k, rfl, hk, rfl, S, hrs, hi, hn, hb⟩ := hrel
    have HS := Lib.hid hrs
    have HI := Lib.hid hi
    have HN := Lib.hid hn
    have HB := Lib.hid hb
    clear hrs hi hn hb HRS HB3 HI0
    by_cases hlt : k < acts.length
    · have hlt' : (k : Int) < (acts.length : Int) := by omega
      obtain ⟨r, hr⟩ : ∃ r, acts[k]? = some r := ⟨_, List.getElem?_eq_getElem hlt⟩
      have HSH := Lib.hid (HFE.out.sh r (List.mem_of_getElem? hr))
      obtain ⟨ad, vd, hA, c0, hat, hd⟩ := acs_get HAC.out hr
      subst hA
      have HDT := Lib.hid hd
      have HC0 := Lib.hid c0
      have HAT := Lib.hid hat
      obtain ⟨pid, c⟩ := r
      have HPR := Lib.hid (fun (V : World) (hv : Below w.heap.size w V) => show V.cell? (ad.add (k * 7)) = some (.int .i64 pid) ∧ V.cell? ⟨(ad.add (k * 7)).block, (ad.add (k * 7)).off + 1, none⟩ = some (.int .i64 c.kind) ∧ V.cell? ⟨(ad.add (k * 7)).block, (ad.add (k * 7)).off + 2, none⟩ = some (.string (bA c.path)) ∧ V.cell? ⟨(ad.add (k * 7)).block, (ad.add (k * 7)).off + 3, none⟩ = some (.string (bA c.other)) ∧ V.cell? ⟨(ad.add (k * 7)).block, (ad.add (k * 7)).off + 4, none⟩ = some (.int .i64 c.a) ∧ V.cell? ⟨(ad.add (k * 7)).block, (ad.add (k * 7)).off + 5, none⟩ = some (.int .i64 c.b) ∧ V.cell? ⟨(ad.add (k * 7)).block, (ad.add (k * 7)).off + 6, none⟩ = some vd from ⟨bc hv HC0.out, bc hv HAT.out.c1, bc hv HAT.out.c2, bc hv HAT.out.c3, bc hv HAT.out.c4, bc hv HAT.out.c5, bc hv HAT.out.c6⟩)
      clear hr c0 hat hd
      have HDO := Lib.hid (fun (V : World) (hv : Below wr.heap.size wr V) => show Calls Tryz.prog 15 #[v, .int .i64 pid, .agg #[.int .i64 c.kind, .string (bA c.path), .string (bA c.other), .int .i64 c.a, .int .i64 c.b, vd]] V (DoA R V v (doS S pid c).1 (doS S pid c).2 lb) from HPD.out.dos v S lb pid c vd V (HPD.out.below _ _ _ _ _ HS.out hv) HI.out (HLN.out S HI.out HN.out) (HDT.out.below (bt hv HB.out)) HSH.out)
      obtain ⟨S1, hS1⟩ : ∃ S1, (doS S pid c).1 = S1 := ⟨_, rfl⟩
      have HI1 := Lib.hid (show Inv S1 from by rw [← hS1]; exact inv_do HI.out pid c)
      have HN1 := Lib.hid (show S1.p.length = cs.length from by rw [← hS1, do_len]; exact HN.out)
      have j0 := Lib.hid (show Below wr.heap.size wr wr.drew from (Below.refl _ _).drew)
      have J0 := Lib.hid (show Below w.heap.size w wr.drew from HB.out.drew)
      rw [hS1] at HDO
      clear hS1
      go_upto_region 10 with fail
      go_region_held3 (fun V => V.cell? (ad.add (k * 7)) = some (.int .i64 pid) ∧ V.cell? ⟨(ad.add (k * 7)).block, (ad.add (k * 7)).off + 1, none⟩ = some (.int .i64 c.kind) ∧ V.cell? ⟨(ad.add (k * 7)).block, (ad.add (k * 7)).off + 2, none⟩ = some (.string (bA c.path)) ∧ V.cell? ⟨(ad.add (k * 7)).block, (ad.add (k * 7)).off + 3, none⟩ = some (.string (bA c.other)) ∧ V.cell? ⟨(ad.add (k * 7)).block, (ad.add (k * 7)).off + 4, none⟩ = some (.int .i64 c.a) ∧ V.cell? ⟨(ad.add (k * 7)).block, (ad.add (k * 7)).off + 5, none⟩ = some (.int .i64 c.b) ∧ V.cell? ⟨(ad.add (k * 7)).block, (ad.add (k * 7)).off + 6, none⟩ = some vd)
        (first | (with_reducible exact HPR.out _ J0.out) | (with_reducible exact HPR.out _ j1.out))
        (first
        | (go_at_call 15; (with_reducible refine (HDO.out _ j0.out).mono ?_); rintro e5 w5 ⟨A51, n51, c51, A52, n52, c52, rfl, -, hr5, hf5⟩; have H5 := Lib.hid hr5; have j1 := Lib.hid (hf5.below J0.out HLB.out); clear hr5 hf5))
      all_goals (
        have HTB := Lib.hid (HPD.out.tab v S1 lb w5 H5.out)
        go_wp2_with fail
        refine HTB.out.mono ?_
        rintro e w6 ⟨g6, rfl, -, ht6, hb6⟩
        have H6 := Lib.hid (HPD.out.below _ _ _ _ _ H5.out hb6)
        have HT6 := Lib.hid ht6
        have HB6 := Lib.hid (bt hb6 j1.out)
        have HOP := Lib.hid (HPD.out.opn v S1 lb w6 H6.out (HLN.out S1 HI1.out HN1.out))
        clear ht6 hb6 HTB H5
        go_wp2_with fail
        refine HOP.out.mono ?_
        rintro e w7 ⟨A7, n7, c7, rfl, hi7, -, hb7⟩
        have H7 := Lib.hid (HPD.out.below _ _ _ _ _ H6.out hb7)
        have HB7 := Lib.hid (bt hb7 HB6.out)
        have HRT := Lib.hid (show Calls Tryz.prog 25 #[.pointer (some ⟨g6, 0, none⟩), .slice A7 n7 c7] w7 fun e w' => e = .returned (.bool true) ∧ Below w7.heap.size w7 w' from by
          have h1 := tright_any (.pointer (some ⟨g6, 0, none⟩)) (.slice A7 n7 c7) S1.t (opnS S1) w7 (HT6.out.below hb7).ptr hi7 (HLN.out S1 HI1.out HN1.out)
          rw [toB_true (inv_right HI1.out)] at h1
          exact h1)
        clear hi7 hb7 HOP H6 HT6 HB6
        go_wp2_with fail
        refine HRT.out.mono ?_
        rintro e w8 ⟨rfl, hb8⟩
        have H8 := Lib.hid (And.intro (HPD.out.below _ _ _ _ _ H7.out hb8) (bt hb8 HB7.out))
        clear hb8 HRT H7 HB7
        go_wp2
        go_roundg (acts.length - (k + 1))
        case measure => omega
        case rel => exact ⟨k + 1, by go_num, by omega, rfl, S1, H8.out.1, HI1.out, HN1.out, H8.out.2⟩)
    · have hlt' : ¬ (k : Int) < (acts.length : Int) := by omega
      rename World => wq
      go_wp2
      go_loopg [15] cs.length (fun gh s15 wr => ∃ j : Nat, s15 = .int .i64 j ∧ j ≤ cs.length ∧ gh = cs.length - j ∧ ∃ S : Sym, R wr v S lb ∧ Inv S ∧ S.p.length = cs.length ∧ Below w.heap.size w wr ∧ ∀ q, q < j → ∀ p, S.p[q]? = some p → opnF p.f = [])
      case atStart => exact ⟨0, rfl, Nat.zero_le _, rfl, S, HS.out, HI.out, HN.out, HB.out, fun q hq => by omega⟩
      case round =>
        obtain ⟨j, rfl, hj, rfl, S2, hrs, hi, hn, hb, ho⟩ := hrel
        have HS2 := Lib.hid hrs
        have HI2 := Lib.hid hi
        have HN2 := Lib.hid hn
        have HB2 := Lib.hid hb
        have HO2 := Lib.hid ho
        clear hrs hi hn hb ho HS HI HN HB
        by_cases hlt2 : j < cs.length
        · have hlt2' : (j : Int) < (cs.length : Int) := by omega
          have hE := exit_one HI2.out (j := j) (by rw [HN2.out]; exact hlt2) ⟨18, [], [], 0, 0, []⟩ rfl
          have HDO := Lib.hid (show Calls Tryz.prog 15 #[v, .int .i64 (j : Int), .agg #[.int .i64 18, .string ⟨#[]⟩, .string ⟨#[]⟩, .int .i64 0, .int .i64 0, .slice none 0 0]] wr (DoA R wr v (doS S2 (j : Int) ⟨18, [], [], 0, 0, []⟩).1 (doS S2 (j : Int) ⟨18, [], [], 0, 0, []⟩).2 lb) from HPD.out.dos v S2 lb (j : Int) ⟨18, [], [], 0, 0, []⟩ (.slice none 0 0) wr HS2.out HI2.out (HLN.out S2 HI2.out HN2.out) (BytesR.nil wr) ⟨by decide, by decide, by decide⟩)
          obtain ⟨S3, hS3⟩ : ∃ S3, (doS S2 (j : Int) ⟨18, [], [], 0, 0, []⟩).1 = S3 := ⟨_, rfl⟩
          obtain ⟨r3, hr3⟩ : ∃ r3, (doS S2 (j : Int) ⟨18, [], [], 0, 0, []⟩).2 = r3 := ⟨_, rfl⟩
          rw [hS3, hr3] at hE HDO
          have HE := Lib.hid hE
          clear hE hS3 hr3
          go_wp2_with fail
          refine HDO.out.mono ?_
          rintro e w5 ⟨A51, n51, c51, A52, n52, c52, rfl, -, hr5, hf5⟩
          have y0 : (r3.err != 0) = false := by rw [HE.out.1]; rfl
          have hb5 := hf5.below HB2.out HLB.out
          have hax := ba w5 (.cells #[.int .i64 r3.err, .int .i64 r3.n, .int .i64 r3.stat.node, .int .i64 r3.stat.kind, .int .i64 r3.stat.mode, .int .i64 r3.stat.uid, .int .i64 r3.stat.gid, .int .i64 r3.stat.links, .int .i64 r3.stat.size, .string (bA r3.text), .slice A51 n51 c51, .slice A52 n52 c52] 56)
          have H6 := Lib.hid (And.intro (HPD.out.below _ _ _ _ _ hr5 hax) (bt hax hb5))
          have c6 : (w5.alloc (.cells #[.int .i64 r3.err, .int .i64 r3.n, .int .i64 r3.stat.node, .int .i64 r3.stat.kind, .int .i64 r3.stat.mode, .int .i64 r3.stat.uid, .int .i64 r3.stat.gid, .int .i64 r3.stat.links, .int .i64 r3.stat.size, .string (bA r3.text), .slice A51 n51 c51, .slice A52 n52 c52] 56)).cell? ⟨w5.heap.size, 0, none⟩ = some (.int .i64 r3.err) := by simp
          obtain ⟨W6, hW6⟩ : ∃ W, w5.alloc (.cells #[.int .i64 r3.err, .int .i64 r3.n, .int .i64 r3.stat.node, .int .i64 r3.stat.kind, .int .i64 r3.stat.mode, .int .i64 r3.stat.uid, .int .i64 r3.stat.gid, .int .i64 r3.stat.links, .int .i64 r3.stat.size, .string (bA r3.text), .slice A51 n51 c51, .slice A52 n52 c52] 56) = W := ⟨_, rfl⟩
          rw [hW6] at H6 c6
          clear hr5 hf5 hb5 hax HDO
          go_wp2
          go_roundg (cs.length - (j + 1))
          case measure => omega
          case rel => exact ⟨j + 1, by go_num, by omega, rfl, S3, H6.out.1, HE.out.2.1, by rw [HE.out.2.2.1]; exact HN2.out, H6.out.2, HE.out.2.2.2 j HO2.out rfl⟩
        · have hlt2' : ¬ (j : Int) < (cs.length : Int) := by omega
          have HOS := Lib.hid (show opnS S2 = [] from none_open (fun q hq p hp => HO2.out q (by have := HN2.out; omega) p hp))
          have HOP := Lib.hid (HPD.out.opn v S2 lb wr HS2.out (HLN.out S2 HI2.out HN2.out))
          rw [HOS.out] at HOP
          go_wp2_with fail
          refine HOP.out.mono ?_
          rintro e w7 ⟨A7, n7, c7, rfl, hi7, -, hb7⟩
          have hn7 := ints_len hi7
          have hn7' : n7 = 0 := hn7.symm
          subst hn7'
          have HTB := Lib.hid (HPD.out.tab v S2 lb w7 (HPD.out.below _ _ _ _ _ HS2.out hb7))
          have HB7 := Lib.hid (bt hb7 HB2.out)
          clear hi7 hb7 hn7 HOP
          go_wp2_with fail
          refine HTB.out.mono ?_
          rintro e w8 ⟨g8, rfl, -, ht8, hb8⟩
          have HB8 := Lib.hid (bt hb8 HB7.out)
          have HRT := Lib.hid (show Calls Tryz.prog 25 #[.pointer (some ⟨g8, 0, none⟩), .slice none 0 0] w8 fun e w' => e = .returned (.bool true) ∧ Below w8.heap.size w8 w' from by
            have h1 := tright_any (.pointer (some ⟨g8, 0, none⟩)) (.slice none 0 0) S2.t [] w8 ht8.ptr (IntsR.nil w8) (by decide)
            have h2 := inv_right HI2.out
            rw [HOS.out] at h2
            rw [toB_true h2] at h1
            exact h1)
          clear ht8 hb8 HTB
          go_wp2_with fail
          refine HRT.out.mono ?_
          rintro e w9 ⟨rfl, hb9⟩
          have HB9 := Lib.hid (bt hb9 HB8.out)
          clear hb9
          go_wp2
          go_ret
          exact ⟨rfl, HB9.out⟩
end Go.Proofs.YtkmkfolpjlkfoaaGreat
