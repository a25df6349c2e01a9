/-
  The walk of SysApart: it answers true of whatever is told, of any who ask and calls; with what is said of package sys. The conditions: what is told is no longer than a machine can hold.
-/
import Derived.Test.YtkmkfolpjlkfoaaGreatQF
import Derived.Deep.RegionWith
import Derived.Deep.RegionHeld3
import Derived.Deep.DeepCutAuto
import Derived.Deep.CutBlock
namespace Go.Proofs.YtkmkfolpjlkfoaaGreat
open Go Go.RowKit
set_option maxRecDepth 100000

attribute [local go_sem] cell_off4 cell_blk4
attribute [local go_sem] eq_fd
set_option maxHeartbeats 16000000 in
theorem lapart_any {R : World → Value → Sym → List Nat → Prop} (HPC : SysC R) (HAK : ∀ W : World, Calls Tryz.prog 8 #[] W fun e w' => e = .returned (.bool true) ∧ Below W.heap.size W w') (x0 : Int) (v1 : Value) (l : List Rw) (v2 : Value) (cs : List Wh) (v3 : Value) (acts : List (Int × Cal)) (w : World) (h1 : RawsR w v1 l) (hl1 : l.length ≤ maxLen) (h2 : CdsR w v2 cs) (hg2 : ∀ c ∈ cs, c.gs.length ≤ 1048576) (hl2 : cs.length ≤ 1048576) (h3 : AcsR w v3 acts) (hl3 : acts.length ≤ maxLen) :
    Calls Tryz.prog 7 #[.int .i64 x0, v1, v2, v3] w fun e w' => e = .returned (.bool true) ∧ Below w.heap.size w w' := by
  have hl3' : acts.length ≤ 9223372036854775807 := by unfold maxLen at hl3; omega
  have HA := Lib.hid (HAK w)
  have HPD := Lib.hid HPC
  have HR := Lib.hid h1
  have HL1 := Lib.hid hl1
  have HC := Lib.hid h2
  have HG2 := Lib.hid hg2
  have HL2 := Lib.hid hl2
  have HAC := Lib.hid h3
  have HL3 := Lib.hid hl3
  clear h1 hl1 h2 hg2 hl2 h3 hl3 HPC HAK
  go_enter Tryz.func7, Tryz.ntmps7
  go_wp2_with fail
  refine HA.out.mono ?_
  rintro e w2 ⟨rfl, hb2⟩
  have HB2 := Lib.hid hb2
  have HBG := Lib.hid (begun_any HPD.out x0 v1 l 18 v2 cs w2 (HR.out.below hb2) HL1.out (HC.out.below hb2) HG2.out HL2.out)
  clear hb2 HA
  go_wp2_with fail
  refine HBG.out.mono ?_
  rintro e w3 ⟨hans, hb3⟩
  have HB3 := Lib.hid (bt hb3 HB2.out)
  clear hb3 HBG
  rcases hans with rfl | ⟨v, T, lb, rfl, hr, htx, hlb⟩
  · go_wp2
    go_ret
    exact ⟨rfl, HB3.out⟩
  have HRS := Lib.hid hr
  have HTX := Lib.hid htx
  have HLB := Lib.hid (show ∀ b ∈ lb, w.heap.size ≤ b from fun b hb => Nat.le_trans HB2.out.size (hlb b hb))
  have HFW := Lib.hid (sfew_any v3 v2 acts cs w3 (HAC.out.below HB3.out) (HC.out.below HB3.out) HL3.out HL2.out)
  clear hr htx hlb HB2
  go_wp2_with fail
  refine HFW.out.mono ?_
  rintro e w4 ⟨fb, rfl, hfb, rfl⟩
  cases fb
  case false =>
    go_wp2
    go_ret
    exact ⟨rfl, HB3.out⟩
  have HFE := Lib.hid (hfb rfl)
  have HI0 := Lib.hid (show Inv (newS T 18 cs) from inv_new HTX.out 18 (fun c hc => by have := HFE.out.gs c hc; omega))
  have HLN := Lib.hid (show ∀ S : Sym, Inv S → S.p.length = cs.length → (opnS S).length ≤ 1000 from fun S hi hn => inv_opn_few hi (n := 6) (by rw [hn]; exact HFE.out.c6) (by decide))
  have hl60 := HFE.out.l60
  have hl6 := HFE.out.c6
  obtain ⟨A3, c3, rfl⟩ := acs_form HAC.out
  obtain ⟨A2, c2, rfl⟩ := cds_form HC.out
  clear hfb HFW HTX
  go_wp2
  go_loopg [12] acts.length (fun gh s12 wr => ∃ k : Nat, s12 = .int .i64 k ∧ k ≤ acts.length ∧ gh = acts.length - k ∧ ∃ S : Sym, R wr v S lb ∧ Inv S ∧ S.p.length = cs.length ∧ Below w.heap.size w wr)
  case atStart => exact ⟨0, rfl, Nat.zero_le _, rfl, _, HRS.out, HI0.out, newS_len _ _ _, HB3.out⟩
  case round =>
    obtain ⟨k, rfl, hk, rfl, S, hrs, hi, hn, hb⟩ := hrel
    have HS := Lib.hid hrs
    have HI := Lib.hid hi
    have HN := Lib.hid hn
    have HB := Lib.hid hb
    clear hrs hi hn hb HRS HB3 HI0
    by_cases hlt : k < acts.length
    case neg =>
      have hlt' : ¬ (k : Int) < (acts.length : Int) := by omega
      go_wp2
      go_ret
      exact ⟨rfl, HB.out⟩
    case pos =>
      have hlt' : (k : Int) < (acts.length : Int) := by omega
      obtain ⟨r, hr⟩ : ∃ r, acts[k]? = some r := ⟨_, List.getElem?_eq_getElem hlt⟩
      have HSH := Lib.hid (HFE.out.sh r (List.mem_of_getElem? hr))
      obtain ⟨ad, vd, hA, c0, hat, hd⟩ := acs_get HAC.out hr
      subst hA
      have HDT := Lib.hid hd
      have HC0 := Lib.hid c0
      have HAT := Lib.hid hat
      obtain ⟨pid, c⟩ := r
      have HPR := Lib.hid (fun (V : World) (hv : Below w.heap.size w V) => show V.cell? (ad.add (k * 7)) = some (.int .i64 pid) ∧ V.cell? ⟨(ad.add (k * 7)).block, (ad.add (k * 7)).off + 1, none⟩ = some (.int .i64 c.kind) ∧ V.cell? ⟨(ad.add (k * 7)).block, (ad.add (k * 7)).off + 2, none⟩ = some (.string (bA c.path)) ∧ V.cell? ⟨(ad.add (k * 7)).block, (ad.add (k * 7)).off + 3, none⟩ = some (.string (bA c.other)) ∧ V.cell? ⟨(ad.add (k * 7)).block, (ad.add (k * 7)).off + 4, none⟩ = some (.int .i64 c.a) ∧ V.cell? ⟨(ad.add (k * 7)).block, (ad.add (k * 7)).off + 5, none⟩ = some (.int .i64 c.b) ∧ V.cell? ⟨(ad.add (k * 7)).block, (ad.add (k * 7)).off + 6, none⟩ = some vd from ⟨bc hv HC0.out, bc hv HAT.out.c1, bc hv HAT.out.c2, bc hv HAT.out.c3, bc hv HAT.out.c4, bc hv HAT.out.c5, bc hv HAT.out.c6⟩)
      clear hr c0 hat hd
      obtain ⟨WR, hWR⟩ : ∃ W, wr = W := ⟨_, rfl⟩
      rw [hWR] at HS HB ⊢
      clear hWR
      have HLL := Lib.hid (show ∀ b ∈ lb, b < WR.heap.size from HPD.out.lt _ _ _ _ HS.out)
      go_wp2
      go_loopg [15, 13, 14] cs.length (fun gh s15 s13 s14 wr => ∃ p : Nat, s15 = .int .i64 p ∧ p ≤ cs.length ∧ gh = cs.length - p ∧ ∃ (Am : Option Addr) (cm : Nat) (Af : Option Addr) (cf nf : Nat), nf = 3 * p ∧ s14 = .slice Am p cm ∧ s13 = .slice Af nf cf ∧ wr.ownsRow WR.heap.size 3 1 (.slice Am p cm) p (iCells (masksS S p)) ∧ wr.ownsRow WR.heap.size 74 4 (.slice Af nf cf) nf (fCells (fdsS S p)) ∧ Below WR.heap.size WR wr)
      case atStart => exact ⟨0, rfl, Nat.zero_le _, rfl, none, 0, none, 0, 0, rfl, rfl, rfl, World.ownsRow_nil _ _ _ _, World.ownsRow_nil _ _ _ _, Below.refl _ _⟩
      case round =>
        obtain ⟨p, rfl, hp, rfl, Am, cm, Af, cf, nf, hnf, rfl, rfl, hom, hof, hbw⟩ := hrel
        have HOM := Lib.hid hom
        have HOF := Lib.hid hof
        have HBW := Lib.hid hbw
        have HNF := Lib.hid hnf
        clear hom hof hbw hnf
        by_cases hlp : p < cs.length
        case pos =>
          have hlp' : (p : Int) < (cs.length : Int) := by omega
          have HUM := Lib.hid (HPD.out.mask v S lb (p : Int) wr (HPD.out.below _ _ _ _ _ HS.out HBW.out))
          obtain ⟨U, hU⟩ : ∃ U, umS S (p : Int) = U := ⟨_, rfl⟩
          rw [hU] at HUM
          have HUU := Lib.hid hU
          clear hU
          go_wp2_with fail
          refine HUM.out.mono ?_
          rintro e wa ⟨rfl, hba⟩
          have HMa := Lib.hid (own_below HOM.out hba)
          have HFa := Lib.hid (own_below HOF.out hba)
          have HBa := Lib.hid (bt hba HBW.out)
          have hsz := HBa.out.size
          clear hba HUM HOM HOF HBW
          go_wp2_with (at_builtin; refine wpList_append_one rfl (.tmp 49) (.tmp 53) _ rfl WR.heap.size 3 _ 1 8 Tryz.underlying31 info_int rfl (by decide) (.slice Am p cm) p (iCells (masksS S p)) rfl wa [.int .i64 U] rfl (int_one U) HMa.out rfl (by omega) (by omega) hsz ?_; intro v5 w5 ho hg; obtain ⟨A5, c5, rfl⟩ := own_slice ho; have HM5 := Lib.hid (show w5.ownsRow WR.heap.size 3 1 (.slice A5 (p + 1) c5) (p + 1) (iCells (masksS S (p + 1))) from by rw [← masks_snoc, ← iCells_snoc, HUU.out]; exact ho); have HF5 := Lib.hid (HFa.out.kept hg (own_apart HMa.out HFa.out (by decide))); have HB5 := Lib.hid (show Below WR.heap.size WR w5 from HBa.out.grown hg hsz (fun q hq => (HMa.out.lt q hq).1)); clear ho hg hsz HMa HFa HBa)
          go_loopg [16, 13] 3 (fun gh s16 s13 wr => ∃ j : Nat, s16 = .int .i64 j ∧ j ≤ 3 ∧ gh = 3 - j ∧ ∃ (Af : Option Addr) (cf nj : Nat), nj = 3 * p + j ∧ s13 = .slice Af nj cf ∧ wr.ownsRow WR.heap.size 3 1 (.slice A5 (p + 1) c5) (p + 1) (iCells (masksS S (p + 1))) ∧ wr.ownsRow WR.heap.size 74 4 (.slice Af nj cf) nj (fCells (fdsJ S p j)) ∧ Below WR.heap.size WR wr)
          case atStart => exact ⟨0, rfl, Nat.zero_le _, rfl, Af, cf, nf, HNF.out, rfl, HM5.out, by rw [fdsJ_zero]; exact HF5.out, HB5.out⟩
          case round =>
            obtain ⟨j, rfl, hj, rfl, Aj, cj, nj, hnj, rfl, hom, hof, hbw⟩ := hrel
            have HOM := Lib.hid hom
            have HOF := Lib.hid hof
            have HBW := Lib.hid hbw
            have HNJ := Lib.hid hnj
            clear hom hof hbw HM5 HF5 HB5
            by_cases hl3 : j < 3
            case pos =>
              have hl3' : (j : Int) < 3 := by omega
              have hnj9 : nj ≤ 1000 := by omega
              clear hnj
              have HFD := Lib.hid (HPD.out.fds v S lb (p : Int) (j : Int) wr (HPD.out.below _ _ _ _ _ HS.out HBW.out))
              obtain ⟨f, hf⟩ : ∃ f, fdS S (p : Int) (j : Int) = f := ⟨_, rfl⟩
              rw [hf] at HFD
              have HFF := Lib.hid hf
              clear hf
              go_wp2_with fail
              refine HFD.out.mono ?_
              rintro e wa ⟨rfl, hba⟩
              have HMa := Lib.hid (own_below HOM.out hba)
              have HFa := Lib.hid (own_below HOF.out hba)
              have HBa := Lib.hid (bt hba HBW.out)
              have hsz := HBa.out.size
              clear hba HFD HOM HOF HBW
              go_wp2_with (at_builtin; refine wpList_append_one rfl (.tmp 59) (.tmp 64) _ rfl WR.heap.size 74 _ 4 24 Tryz.underlying86 info_fd rfl (by decide) (.slice Aj nj cj) nj (fCells (fdsJ S p j)) rfl wa [.int .i64 f.node, .int .i64 f.off, .bool f.rd, .bool f.wr] rfl (fd_one f) HFa.out rfl (by omega) (by omega) hsz ?_; intro v6 w6 ho hg; obtain ⟨A6, c6, rfl⟩ := own_slice ho; have HF6 := Lib.hid (show w6.ownsRow WR.heap.size 74 4 (.slice A6 (nj + 1) c6) (nj + 1) (fCells (fdsJ S p (j + 1))) from by rw [← fdsJ_snoc, ← fCells_snoc, HFF.out]; exact ho); have HM6 := Lib.hid (HMa.out.kept hg (own_apart HFa.out HMa.out (by decide))); have HB6 := Lib.hid (show Below WR.heap.size WR w6 from HBa.out.grown hg hsz (fun q hq => (HFa.out.lt q hq).1)); clear ho hg hsz HMa HFa HBa)
              go_roundg (3 - (j + 1))
              case measure => omega
              case rel => exact ⟨j + 1, by go_num, by omega, rfl, A6, c6, nj + 1, by have := HNJ.out; omega, rfl, HM6.out, HF6.out, HB6.out⟩
            case neg =>
              have hl3' : ¬ (j : Int) < 3 := by omega
              have hj3 : j = 3 := by omega
              have HFE := Lib.hid (show wr.ownsRow WR.heap.size 74 4 (.slice Aj nj cj) nj (fCells (fdsS S (p + 1))) from by rw [← fdsJ_three]; have h1 := HOF.out; rw [hj3] at h1; exact h1)
              have HNE := Lib.hid (show nj = 3 * (p + 1) from by omega)
              clear hnj hj3
              go_wp2
              go_roundg (cs.length - (p + 1))
              case measure => omega
              case rel => exact ⟨p + 1, by go_num, by omega, rfl, A5, c5, Aj, cj, nj, HNE.out, rfl, rfl, HOM.out, HFE.out, HBW.out⟩
        case neg =>
          have hlp' : ¬ (p : Int) < (cs.length : Int) := by omega
          have hpe : p = cs.length := by omega
          have HPE := Lib.hid hpe
          clear hpe
          have HDO := Lib.hid (fun (V : World) (hv : Below wr.heap.size wr V) => show Calls Tryz.prog 15 #[v, .int .i64 pid, .agg #[.int .i64 c.kind, .string (bA c.path), .string (bA c.other), .int .i64 c.a, .int .i64 c.b, vd]] V (DoA R V v (doS S pid c).1 (doS S pid c).2 lb) from HPD.out.dos v S lb pid c vd V (HPD.out.below _ _ _ _ _ HS.out (bt hv HBW.out)) HI.out (HLN.out S HI.out HN.out) (HDT.out.below (bt (bt hv HBW.out) HB.out)) HSH.out)
          obtain ⟨S1, hS1⟩ : ∃ S1, (doS S pid c).1 = S1 := ⟨_, rfl⟩
          have HI1 := Lib.hid (show Inv S1 from by rw [← hS1]; exact inv_do HI.out pid c)
          have HN1 := Lib.hid (show S1.p.length = cs.length from by rw [← hS1, do_len]; exact HN.out)
          have HAU := Lib.hid (show ∀ q : Int, q ≠ pid → umS S1 q = umS S q from fun q hq => by rw [← hS1]; exact apart_um S hq)
          have HAF := Lib.hid (show ∀ q i : Int, q ≠ pid → fdS S1 q i = fdS S q i from fun q i hq => by rw [← hS1]; exact apart_fd S i hq)
          have j0 := Lib.hid (show Below wr.heap.size wr wr.drew from (Below.refl _ _).drew)
          have J0 := Lib.hid (show Below w.heap.size w wr.drew from (bt HBW.out HB.out).drew)
          have HO0 := Lib.hid (show wr.drew.ownsRow WR.heap.size 3 1 (.slice Am p cm) p (iCells (masksS S p)) ∧ wr.drew.ownsRow WR.heap.size 74 4 (.slice Af nf cf) nf (fCells (fdsS S p)) from ⟨own_below HOM.out (Below.refl _ _).drew, own_below HOF.out (Below.refl _ _).drew⟩)
          rw [hS1] at HDO
          clear hS1
          go_upto_region 20 with fail
          go_region_held3 (fun V => V.cell? (ad.add (k * 7)) = some (.int .i64 pid) ∧ V.cell? ⟨(ad.add (k * 7)).block, (ad.add (k * 7)).off + 1, none⟩ = some (.int .i64 c.kind) ∧ V.cell? ⟨(ad.add (k * 7)).block, (ad.add (k * 7)).off + 2, none⟩ = some (.string (bA c.path)) ∧ V.cell? ⟨(ad.add (k * 7)).block, (ad.add (k * 7)).off + 3, none⟩ = some (.string (bA c.other)) ∧ V.cell? ⟨(ad.add (k * 7)).block, (ad.add (k * 7)).off + 4, none⟩ = some (.int .i64 c.a) ∧ V.cell? ⟨(ad.add (k * 7)).block, (ad.add (k * 7)).off + 5, none⟩ = some (.int .i64 c.b) ∧ V.cell? ⟨(ad.add (k * 7)).block, (ad.add (k * 7)).off + 6, none⟩ = some vd)
            (first | (with_reducible exact HPR.out _ J0.out) | (with_reducible exact HPR.out _ j1.out))
            (first
            | (go_at_call 15; (with_reducible refine (HDO.out _ j0.out).mono ?_); rintro e5 w5 ⟨A51, n51, c51, A52, n52, c52, rfl, -, hr5, hf5⟩; have H5 := Lib.hid hr5; have j1 := Lib.hid (hf5.below J0.out HLB.out); have HO5 := Lib.hid (show w5.ownsRow WR.heap.size 3 1 (.slice Am p cm) p (iCells (masksS S p)) ∧ w5.ownsRow WR.heap.size 74 4 (.slice Af nf cf) nf (fCells (fdsS S p)) from ⟨hf5.own HO0.out.1 HLL.out, hf5.own HO0.out.2 HLL.out⟩); clear hr5 hf5))
          all_goals (
            have HMR := Lib.hid (show IntsR w5 (.slice Am p cm) (masksS S p) from IntsR.of_own (by rw [masks_len]; exact HO5.out.1))
            have HFR := Lib.hid (show FdsR w5 (.slice Af nf cf) (fdsS S p) from FdsR.of_own (by rw [fdsS_len, ← HNF.out]; exact HO5.out.2))
            clear HO0 HO5 HOM HOF HBW HDO
            go_wp2
            go_loopg [17] cs.length (fun gh s17 wr => ∃ q : Nat, s17 = .int .i64 q ∧ q ≤ cs.length ∧ gh = cs.length - q ∧ Below w5.heap.size w5 wr)
            case atStart => exact ⟨0, rfl, Nat.zero_le _, rfl, Below.refl _ _⟩
            case round =>
              obtain ⟨q, rfl, hq, rfl, hbq⟩ := hrel
              have HBQ := Lib.hid hbq
              clear hbq
              by_cases hlq : q < cs.length
              case neg =>
                have hlq' : ¬ (q : Int) < (cs.length : Int) := by omega
                go_wp2
                go_roundg (acts.length - (k + 1))
                case measure => omega
                case rel => exact ⟨k + 1, by go_num, by omega, rfl, S1, HPD.out.below _ _ _ _ _ H5.out HBQ.out, HI1.out, HN1.out, bt HBQ.out j1.out⟩
              case pos =>
              have hlq' : (q : Int) < (cs.length : Int) := by omega
              go_wp2
              go_loopg [18] 3 (fun gh s18 wr => ∃ j : Nat, s18 = .int .i64 j ∧ j ≤ 3 ∧ gh = 3 - j ∧ Below w5.heap.size w5 wr)
              case atStart => exact ⟨0, rfl, Nat.zero_le _, rfl, HBQ.out⟩
              case round =>
                obtain ⟨j, rfl, hj, rfl, hbj⟩ := hrel
                have HBJ := Lib.hid hbj
                have HWJ := Lib.hid (bt hbj j1.out)
                clear hbj HBQ
                obtain ⟨p0, p1, p2, p3, p4, p5, p6⟩ := HPR.out wr HWJ.out
                by_cases hl3 : j < 3
                case neg =>
                  have hl3' : ¬ (j : Int) < 3 := by omega
                  clear p0 p1 p2 p3 p4 p5 p6
                  go_wp2
                  go_roundg (cs.length - (q + 1))
                  case measure => omega
                  case rel => exact ⟨q + 1, by go_num, by omega, rfl, HBJ.out⟩
                case pos =>
                have hl3' : (j : Int) < 3 := by omega
                by_cases hqp : (q : Int) = pid
                · have yqp : ((q : Int) != pid) = false := by rw [hqp]; simp
                  clear hqp
                  go_wp2
                  go_roundg (cs.length - (q + 1))
                  case measure => omega
                  case rel => exact ⟨q + 1, by go_num, by omega, rfl, HBJ.out⟩
                have yqp : ((q : Int) != pid) = true := by simpa using hqp
                have HF1 := HAF.out (q : Int) (j : Int) hqp
                have HU1 := HAU.out (q : Int) hqp
                obtain ⟨f, hf⟩ : ∃ f, fdS S (q : Int) (j : Int) = f := ⟨_, rfl⟩
                obtain ⟨U, hU⟩ : ∃ U, umS S (q : Int) = U := ⟨_, rfl⟩
                have hfa := fdsS_at S (n := p) (p := q) (k := j) (by have := HPE.out; omega) hl3
                have hma := masks_at S (p := p) (q := q) (by have := HPE.out; omega)
                rw [hf] at HF1 hfa
                rw [hU] at HU1 hma
                have HFD := Lib.hid (fun (V : World) (hv : Below w5.heap.size w5 V) => show Calls Tryz.prog 22 #[v, .int .i64 (q : Int), .int .i64 (j : Int)] V fun e w' => e = .returned (.agg #[.int .i64 f.node, .int .i64 f.off, .bool f.rd, .bool f.wr]) ∧ Below V.heap.size V w' from by have h1 := HPD.out.fds v S1 lb (q : Int) (j : Int) V (HPD.out.below _ _ _ _ _ H5.out hv); rw [HF1] at h1; exact h1)
                have HUM := Lib.hid (fun (V : World) (hv : Below w5.heap.size w5 V) => show Calls Tryz.prog 23 #[v, .int .i64 (q : Int)] V fun e w' => e = .returned (.int .i64 U) ∧ Below V.heap.size V w' from by have h1 := HPD.out.mask v S1 lb (q : Int) V (HPD.out.below _ _ _ _ _ H5.out hv); rw [HU1] at h1; exact h1)
                obtain ⟨fad, hfA, g0, g1, g2, g3⟩ := fds_get HFR.out hfa
                obtain ⟨mad, hmA, m0⟩ := ints_get HMR.out hma
                subst hfA hmA
                have HPQ := Lib.hid (fun (V : World) (hv : Below w5.heap.size w5 V) => show V.cell? (fad.add ((3 * q + j) * 4)) = some (.int .i64 f.node) ∧ V.cell? ⟨(fad.add ((3 * q + j) * 4)).block, (fad.add ((3 * q + j) * 4)).off + 1, none⟩ = some (.int .i64 f.off) ∧ V.cell? ⟨(fad.add ((3 * q + j) * 4)).block, (fad.add ((3 * q + j) * 4)).off + 2, none⟩ = some (.bool f.rd) ∧ V.cell? ⟨(fad.add ((3 * q + j) * 4)).block, (fad.add ((3 * q + j) * 4)).off + 3, none⟩ = some (.bool f.wr) ∧ V.cell? (mad.add q) = some (.int .i64 U) ∧ V.cell? (ad.add (k * 7)) = some (.int .i64 pid) from ⟨bc hv g0, bc hv g1, bc hv g2, bc hv g3, bc hv m0, (HPR.out V (bt hv j1.out)).1⟩)
                obtain ⟨E, hE⟩ : ∃ E, 3 * q + j = E := ⟨_, rfl⟩
                obtain ⟨Q3, hQ3⟩ : ∃ Q, 3 * q = Q := ⟨_, rfl⟩
                rw [hE] at HPQ
                have w1 : IntKind.i64.wrap (3 * (q : Int)) = (Q3 : Int) := by rw [IntKind.wrap_i64] <;> omega
                have w2 : IntKind.i64.wrap ((Q3 : Int) + (j : Int)) = (E : Int) := by rw [IntKind.wrap_i64] <;> omega
                have w5' : IntKind.i64.wrap (Q3 : Int) = (Q3 : Int) := by rw [IntKind.wrap_i64] <;> omega
                have w6' : IntKind.i64.wrap (E : Int) = (E : Int) := by rw [IntKind.wrap_i64] <;> omega
                have w3' : 3 * (q : Int) = (Q3 : Int) := by omega
                have w4 : (Q3 : Int) + (j : Int) = (E : Int) := by omega
                have hEn : (E : Int) < (nf : Int) := by have := HNF.out; have := HPE.out; omega
                have hqp2 : (q : Int) < (p : Int) := by have := HPE.out; omega
                have j5 := Lib.hid (show Below w5.heap.size w5 wr.drew from HBJ.out.drew)
                clear hqp HF1 HU1 hf hU hfa hma g0 g1 g2 g3 m0 hE hQ3 p1 p2 p3 p4 p5 p6
                go_upto_region 27 with fail
                go_region_held3 (fun V => V.cell? (fad.add (E * 4)) = some (.int .i64 f.node) ∧ V.cell? ⟨(fad.add (E * 4)).block, (fad.add (E * 4)).off + 1, none⟩ = some (.int .i64 f.off) ∧ V.cell? ⟨(fad.add (E * 4)).block, (fad.add (E * 4)).off + 2, none⟩ = some (.bool f.rd) ∧ V.cell? ⟨(fad.add (E * 4)).block, (fad.add (E * 4)).off + 3, none⟩ = some (.bool f.wr) ∧ V.cell? (mad.add q) = some (.int .i64 U) ∧ V.cell? (ad.add (k * 7)) = some (.int .i64 pid))
                  (first | (with_reducible exact HPQ.out _ j5.out) | (with_reducible exact HPQ.out _ j6.out) | (with_reducible exact HPQ.out _ j7.out))
                  (first
                  | (go_at_call 22; (with_reducible refine (HFD.out _ j5.out).mono ?_); rintro e6 w6 ⟨rfl, hb6⟩; have j6 := Lib.hid (bt hb6 j5.out); clear hb6)
                  | (go_at_call 23; (with_reducible refine (HUM.out _ j6.out).mono ?_); rintro e7 w7 ⟨rfl, hb7⟩; have j7 := Lib.hid (bt hb7 j6.out); clear hb7))
                all_goals (
                  go_wp2
                  go_roundg (3 - (j + 1))
                  case measure => omega
                  case rel => exact ⟨j + 1, by go_num, by omega, rfl, j7.out⟩))
end Go.Proofs.YtkmkfolpjlkfoaaGreat
