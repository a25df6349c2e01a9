/-
  The walk of SysFails: it answers true of whatever is told, of any umask, who ask and calls; with what is said of package sys. The conditions: what is told is no longer than a machine can hold.
-/
import Derived.Test.YtkmkfolpjlkfoaaGreatM13
import Derived.Deep.RegionWith
import Derived.Deep.RegionHeld3
import Derived.Deep.DeepCutAuto
import Derived.Deep.CutBlock
namespace Go.Proofs.YtkmkfolpjlkfoaaGreat
open Go Go.RowKit
set_option maxRecDepth 100000

attribute [local go_sem] cell_off4 cell_blk4
theorem sam_refl (t : List Nd) : toB (sam24 t t) = true := toB_true (fun _ _ => rfl)
set_option maxHeartbeats 16000000 in
theorem lfails_any {R : World → Value → Sym → List Nat → Prop} (HPC : SysC R) (HAK : ∀ W : World, Calls Tryz.prog 8 #[] W fun e w' => e = .returned (.bool true) ∧ Below W.heap.size W w') (x0 : Int) (v1 : Value) (l : List Rw) (um : Int) (v2 : Value) (cs : List Wh) (v3 : Value) (acts : List (Int × Cal)) (w : World) (h1 : RawsR w v1 l) (hl1 : l.length ≤ maxLen) (h2 : CdsR w v2 cs) (hg2 : ∀ c ∈ cs, c.gs.length ≤ 1048576) (hl2 : cs.length ≤ 1048576) (h3 : AcsR w v3 acts) (hl3 : acts.length ≤ maxLen) :
    Calls Tryz.prog 4 #[.int .i64 x0, v1, .int .i64 um, v2, v3] w fun e w' => e = .returned (.bool true) ∧ Below w.heap.size w w' := by
  have hl3' : acts.length ≤ 9223372036854775807 := by unfold maxLen at hl3; omega
  have HA := Lib.hid (HAK w)
  have HPD := Lib.hid HPC
  have HR := Lib.hid h1
  have HL1 := Lib.hid hl1
  have HC := Lib.hid h2
  have HG2 := Lib.hid hg2
  have HL2 := Lib.hid hl2
  have HAC := Lib.hid h3
  have HL3 := Lib.hid hl3
  clear h1 hl1 h2 hg2 hl2 h3 hl3 HPC HAK
  go_enter Tryz.func4, Tryz.ntmps4
  go_wp2_with fail
  refine HA.out.mono ?_
  rintro e w2 ⟨rfl, hb2⟩
  have HB2 := Lib.hid hb2
  have HBG := Lib.hid (begun_any HPD.out x0 v1 l um v2 cs w2 (HR.out.below hb2) HL1.out (HC.out.below hb2) HG2.out HL2.out)
  clear hb2 HA
  go_wp2_with fail
  refine HBG.out.mono ?_
  rintro e w3 ⟨hans, hb3⟩
  have HB3 := Lib.hid (bt hb3 HB2.out)
  clear hb3 HBG
  rcases hans with rfl | ⟨v, T, lb, rfl, hr, htx, hlb⟩
  · go_wp2
    go_ret
    exact ⟨rfl, HB3.out⟩
  have HRS := Lib.hid hr
  have HTX := Lib.hid htx
  have HLB := Lib.hid (show ∀ b ∈ lb, w.heap.size ≤ b from fun b hb => Nat.le_trans HB2.out.size (hlb b hb))
  have HFW := Lib.hid (sfew_any v3 v2 acts cs w3 (HAC.out.below HB3.out) (HC.out.below HB3.out) HL3.out HL2.out)
  clear hr htx hlb HB2
  go_wp2_with fail
  refine HFW.out.mono ?_
  rintro e w4 ⟨fb, rfl, hfb, rfl⟩
  cases fb
  case false =>
    go_wp2
    go_ret
    exact ⟨rfl, HB3.out⟩
  have HFE := Lib.hid (hfb rfl)
  have HI0 := Lib.hid (show Inv (newS T um cs) from inv_new HTX.out um (fun c hc => by have := HFE.out.gs c hc; omega))
  have HLN := Lib.hid (show ∀ S : Sym, Inv S → S.p.length = cs.length → (opnS S).length ≤ 1000 from fun S hi hn => inv_opn_few hi (n := 6) (by rw [hn]; exact HFE.out.c6) (by decide))
  have hl60 := HFE.out.l60
  have hl6 := HFE.out.c6
  obtain ⟨A3, c3, rfl⟩ := acs_form HAC.out
  obtain ⟨A2, c2, rfl⟩ := cds_form HC.out
  clear hfb HFW HTX
  go_wp2
  go_loopg [14] acts.length (fun gh s14 wr => ∃ k : Nat, s14 = .int .i64 k ∧ k ≤ acts.length ∧ gh = acts.length - k ∧ ∃ S : Sym, R wr v S lb ∧ Inv S ∧ S.p.length = cs.length ∧ Below w.heap.size w wr)
  case atStart => exact ⟨0, rfl, Nat.zero_le _, rfl, _, HRS.out, HI0.out, newS_len _ _ _, HB3.out⟩
  case round =>
    obtain ⟨k, rfl, hk, rfl, S, hrs, hi, hn, hb⟩ := hrel
    have HS := Lib.hid hrs
    have HI := Lib.hid hi
    have HN := Lib.hid hn
    have HB := Lib.hid hb
    clear hrs hi hn hb HRS HB3 HI0
    by_cases hlt : k < acts.length
    case neg =>
      have hlt' : ¬ (k : Int) < (acts.length : Int) := by omega
      go_wp2
      go_ret
      exact ⟨rfl, HB.out⟩
    case pos =>
      have hlt' : (k : Int) < (acts.length : Int) := by omega
      obtain ⟨r, hr⟩ : ∃ r, acts[k]? = some r := ⟨_, List.getElem?_eq_getElem hlt⟩
      have HSH := Lib.hid (HFE.out.sh r (List.mem_of_getElem? hr))
      obtain ⟨ad, vd, hA, c0, hat, hd⟩ := acs_get HAC.out hr
      subst hA
      have HDT := Lib.hid hd
      have HC0 := Lib.hid c0
      have HAT := Lib.hid hat
      obtain ⟨pid, c⟩ := r
      have HPR := Lib.hid (fun (V : World) (hv : Below w.heap.size w V) => show V.cell? (ad.add (k * 7)) = some (.int .i64 pid) ∧ V.cell? ⟨(ad.add (k * 7)).block, (ad.add (k * 7)).off + 1, none⟩ = some (.int .i64 c.kind) ∧ V.cell? ⟨(ad.add (k * 7)).block, (ad.add (k * 7)).off + 2, none⟩ = some (.string (bA c.path)) ∧ V.cell? ⟨(ad.add (k * 7)).block, (ad.add (k * 7)).off + 3, none⟩ = some (.string (bA c.other)) ∧ V.cell? ⟨(ad.add (k * 7)).block, (ad.add (k * 7)).off + 4, none⟩ = some (.int .i64 c.a) ∧ V.cell? ⟨(ad.add (k * 7)).block, (ad.add (k * 7)).off + 5, none⟩ = some (.int .i64 c.b) ∧ V.cell? ⟨(ad.add (k * 7)).block, (ad.add (k * 7)).off + 6, none⟩ = some vd from ⟨bc hv HC0.out, bc hv HAT.out.c1, bc hv HAT.out.c2, bc hv HAT.out.c3, bc hv HAT.out.c4, bc hv HAT.out.c5, bc hv HAT.out.c6⟩)
      clear hr c0 hat hd
      have HTB := Lib.hid (HPD.out.tab v S lb wr HS.out)
      go_wp2_with fail
      refine HTB.out.mono ?_
      rintro e wa ⟨ga, rfl, hga, hta, hba⟩
      have HSa := Lib.hid (HPD.out.below _ _ _ _ _ HS.out hba)
      have HTa := Lib.hid hta
      have HGa := Lib.hid hga
      have HBa := Lib.hid (bt hba HB.out)
      have Hra := Lib.hid hba
      have HOP := Lib.hid (HPD.out.opn v S lb wa HSa.out (HLN.out S HI.out HN.out))
      clear hta hga hba HTB
      go_wp2_with fail
      refine HOP.out.mono ?_
      rintro e wb ⟨Ab, nb, cb, rfl, hib, hAb, hbb⟩
      have HSb := Lib.hid (HPD.out.below _ _ _ _ _ HSa.out hbb)
      have HTb := Lib.hid (HTa.out.below hbb)
      have HIb := Lib.hid hib
      have HAb := Lib.hid (show ∀ ad, Ab = some ad → ¬ ad.block ∈ lb from fun ad q z => by have h1 := hAb ad q; have h2 := HPD.out.lt _ _ _ _ HSa.out _ z; omega)
      have HBb := Lib.hid (bt hbb HBa.out)
      have HUM := Lib.hid (HPD.out.mask v S lb pid wb HSb.out)
      obtain ⟨p0, p1, p2, p3, p4, p5, p6⟩ := HPR.out wb HBb.out
      clear hib hAb hbb HOP HSa HTa HBa
      go_wp2_with fail
      refine HUM.out.mono ?_
      rintro e wc ⟨rfl, hbc⟩
      have HSc := Lib.hid (HPD.out.below _ _ _ _ _ HSb.out hbc)
      have HTc := Lib.hid (HTb.out.below hbc)
      have HIc := Lib.hid (HIb.out.below hbc)
      have HBc := Lib.hid (bt hbc HBb.out)
      have HDO := Lib.hid (fun (V : World) (hv : Below wc.heap.size wc V) => show Calls Tryz.prog 15 #[v, .int .i64 pid, .agg #[.int .i64 c.kind, .string (bA c.path), .string (bA c.other), .int .i64 c.a, .int .i64 c.b, vd]] V (DoA R V v (doS S pid c).1 (doS S pid c).2 lb) from HPD.out.dos v S lb pid c vd V (HPD.out.below _ _ _ _ _ HSc.out hv) HI.out (HLN.out S HI.out HN.out) (HDT.out.below (bt hv HBc.out)) HSH.out)
      clear hbc HUM HSb HTb HIb HBb p0 p1 p2 p3 p4 p5 p6
      obtain ⟨S1, hS1⟩ : ∃ S1, (doS S pid c).1 = S1 := ⟨_, rfl⟩
      obtain ⟨r1, hr1⟩ : ∃ r1, (doS S pid c).2 = r1 := ⟨_, rfl⟩
      have HI1 := Lib.hid (show Inv S1 from by rw [← hS1]; exact inv_do HI.out pid c)
      have HN1 := Lib.hid (show S1.p.length = cs.length from by rw [← hS1, do_len]; exact HN.out)
      have HSM := Lib.hid (show (r1.err ≠ 0 ∨ c.kind ≤ 4) → S1 = S from fun q => by rw [← hS1]; exact do_fails (by rw [hr1]; exact q))
      have j0 := Lib.hid (show Below wc.heap.size wc wc.drew from (Below.refl _ _).drew)
      have J0 := Lib.hid (show Below w.heap.size w wc.drew from HBc.out.drew)
      have HLA := Lib.hid (show ¬ ga ∈ lb from fun z => by have h1 := HPD.out.lt _ _ _ _ HS.out _ z; have h2 := HGa.out; omega)
      have HLT := Lib.hid (show ∀ b, wr.heap.size ≤ b → ¬ b ∈ lb from fun b hb z => by have h1 := HPD.out.lt _ _ _ _ HS.out _ z; omega)
      rw [hS1, hr1] at HDO
      clear hS1 hr1
      go_upto_region 13 with fail
      have HZN := Lib.hid (show ¬ wc.heap.size ∈ lb from fun z => by have h1 := HPD.out.lt _ _ _ _ HSc.out _ z; omega)
      have HGC := Lib.hid (show ga < wc.heap.size from HTc.out.lt)
      have HWC := Lib.hid (show w.heap.size ≤ wc.heap.size from HBc.out.size)
      have ja := Lib.hid (show Below wc.heap.size wc (wc.alloc (.cells #[.int .i64 0, .int .i64 0, .int .i64 0, .int .i64 0, .int .i64 0, .int .i64 0, .int .i64 0, .int .i64 0, .int .i64 0, .string ⟨#[]⟩, .slice none 0 0, .slice none 0 0] 56)).drew from (ba wc _).drew)
      have JA := Lib.hid (show Below w.heap.size w (wc.alloc (.cells #[.int .i64 0, .int .i64 0, .int .i64 0, .int .i64 0, .int .i64 0, .int .i64 0, .int .i64 0, .int .i64 0, .int .i64 0, .string ⟨#[]⟩, .slice none 0 0, .slice none 0 0] 56)).drew from (al HBc.out _).drew)
      have HSZ := Lib.hid (show (wc.alloc (.cells #[.int .i64 0, .int .i64 0, .int .i64 0, .int .i64 0, .int .i64 0, .int .i64 0, .int .i64 0, .int .i64 0, .int .i64 0, .string ⟨#[]⟩, .slice none 0 0, .slice none 0 0] 56)).drew.heap.size = wc.heap.size + 1 from by simp)
      have HOF := Lib.hid (show Off Ab (opnS S) wc.heap.size from off_of HIc.out (Nat.le_refl _))
      go_cut [18] (fun s18 wx => ∃ z, s18 = .pointer (some ⟨z, 0, none⟩) ∧ Br R w wx v S1 lb z r1 (fun W => TabR W ga S.t (fun b => wr.heap.size ≤ b) ∧ IntsR W (.slice Ab nb cb) (opnS S)))
      case first =>
        go_region_held3 (fun V => V.cell? (ad.add (k * 7)) = some (.int .i64 pid) ∧ V.cell? ⟨(ad.add (k * 7)).block, (ad.add (k * 7)).off + 1, none⟩ = some (.int .i64 c.kind) ∧ V.cell? ⟨(ad.add (k * 7)).block, (ad.add (k * 7)).off + 2, none⟩ = some (.string (bA c.path)) ∧ V.cell? ⟨(ad.add (k * 7)).block, (ad.add (k * 7)).off + 3, none⟩ = some (.string (bA c.other)) ∧ V.cell? ⟨(ad.add (k * 7)).block, (ad.add (k * 7)).off + 4, none⟩ = some (.int .i64 c.a) ∧ V.cell? ⟨(ad.add (k * 7)).block, (ad.add (k * 7)).off + 5, none⟩ = some (.int .i64 c.b) ∧ V.cell? ⟨(ad.add (k * 7)).block, (ad.add (k * 7)).off + 6, none⟩ = some vd)
          (first | (with_reducible exact HPR.out _ J0.out) | (with_reducible exact HPR.out _ JA.out) | (with_reducible exact HPR.out _ j1.out) | (with_reducible exact HPR.out _ (al j1.out _)) | (with_reducible exact ⟨t0, t1, t2, t3, t4, t5, t6⟩))
          (first
          | (go_at_call 15; (with_reducible refine (HDO.out wc.drew j0.out).mono ?_); rintro e5 w5 ⟨A51, n51, c51, A52, n52, c52, rfl, hs5, hr5, hf5⟩; have H5 := Lib.hid hr5; have S5 := Lib.hid hs5; have j1 := Lib.hid (hf5.below J0.out HLB.out); have X5 := Lib.hid (show TabR w5 ga S.t (fun b => wr.heap.size ≤ b) ∧ IntsR w5 (.slice Ab nb cb) (opnS S) from ⟨hf5.tab (HTc.out.below j0.out) HLA.out HLT.out, hf5.ints (HIc.out.below j0.out) HAb.out⟩); clear hr5 hf5 hs5)
          | (go_at_call 15; (with_reducible refine (HDO.out (wc.alloc (.cells #[.int .i64 0, .int .i64 0, .int .i64 0, .int .i64 0, .int .i64 0, .int .i64 0, .int .i64 0, .int .i64 0, .int .i64 0, .string ⟨#[]⟩, .slice none 0 0, .slice none 0 0] 56)).drew ja.out).mono ?_); rintro e5 w5 ⟨A51, n51, c51, A52, n52, c52, rfl, hs5, hr5, hf5⟩; have H5 := Lib.hid hr5; have S5 := Lib.hid hs5; have j1 := Lib.hid (hf5.below JA.out HLB.out); have X5 := Lib.hid (show TabR w5 ga S.t (fun b => wr.heap.size ≤ b) ∧ IntsR w5 (.slice Ab nb cb) (opnS S) from ⟨hf5.tab (HTc.out.below ja.out) HLA.out HLT.out, hf5.ints (HIc.out.below ja.out) HAb.out⟩); have hk5 := hf5.blk (show Blk (wc.alloc (.cells #[.int .i64 0, .int .i64 0, .int .i64 0, .int .i64 0, .int .i64 0, .int .i64 0, .int .i64 0, .int .i64 0, .int .i64 0, .string ⟨#[]⟩, .slice none 0 0, .slice none 0 0] 56)).drew wc.heap.size 56 #[.int .i64 0, .int .i64 0, .int .i64 0, .int .i64 0, .int .i64 0, .int .i64 0, .int .i64 0, .int .i64 0, .int .i64 0, .string ⟨#[]⟩, .slice none 0 0, .slice none 0 0] from Blk.below (Blk.new wc 56 #[.int .i64 0, .int .i64 0, .int .i64 0, .int .i64 0, .int .i64 0, .int .i64 0, .int .i64 0, .int .i64 0, .int .i64 0, .string ⟨#[]⟩, .slice none 0 0, .slice none 0 0]) (Below.refl _ _).drew) HZN.out; have K5 := Lib.hid hk5; obtain ⟨x0, x1, x2, x3, x4, x5, x6, x7, x8, x9, x10, x11⟩ := hk5.c12; obtain ⟨f0, f1, f2, f3, f4, f5, f6, f7, f8, f9, f10, f11⟩ := hk5.f12; obtain ⟨t0, t1, t2, t3, t4, t5, t6⟩ := HPR.out ((((((((((((w5.setCell ⟨wc.heap.size, 0, none⟩ (.int .i64 r1.err)).setCell ⟨wc.heap.size, 1, none⟩ (.int .i64 r1.n)).setCell ⟨wc.heap.size, 2, none⟩ (.int .i64 r1.stat.node)).setCell ⟨wc.heap.size, 3, none⟩ (.int .i64 r1.stat.kind)).setCell ⟨wc.heap.size, 4, none⟩ (.int .i64 r1.stat.mode)).setCell ⟨wc.heap.size, 5, none⟩ (.int .i64 r1.stat.uid)).setCell ⟨wc.heap.size, 6, none⟩ (.int .i64 r1.stat.gid)).setCell ⟨wc.heap.size, 7, none⟩ (.int .i64 r1.stat.links)).setCell ⟨wc.heap.size, 8, none⟩ (.int .i64 r1.stat.size)).setCell ⟨wc.heap.size, 9, none⟩ (.string (bA r1.text))).setCell ⟨wc.heap.size, 10, none⟩ (.slice A51 n51 c51)).setCell ⟨wc.heap.size, 11, none⟩ (.slice A52 n52 c52)) (below_grown j1.out (grown12 w5 wc.heap.size (.int .i64 r1.err) (.int .i64 r1.n) (.int .i64 r1.stat.node) (.int .i64 r1.stat.kind) (.int .i64 r1.stat.mode) (.int .i64 r1.stat.uid) (.int .i64 r1.stat.gid) (.int .i64 r1.stat.links) (.int .i64 r1.stat.size) (.string (bA r1.text)) (.slice A51 n51 c51) (.slice A52 n52 c52)) HWC.out); clear hr5 hf5 hs5 hk5))
        all_goals (
          go_wp2
          go_meet
          first
            | with_reducible exact ⟨_, rfl, Br.put HPD.out H5.out K5.out ⟨S5.out.1, S5.out.2.1⟩ S5.out.2.2 j1.out HWC.out (fun b hg => ⟨X5.out.1.kind hg (Nat.ne_of_lt HGC.out) K5.out (by decide) (by decide), ints_past X5.out.2 hg HOF.out⟩)⟩
            | exact ⟨_, rfl, Br.fresh HPD.out H5.out ⟨S5.out.1, S5.out.2.1⟩ j1.out X5.out (fun _ _ hx hb => ⟨hx.1.below hb, hx.2.below hb⟩)⟩)
      case rest =>
      obtain ⟨z, rfl, hbr⟩ := hcut
      obtain ⟨A51, n51, c51, A52, n52, c52, hkz, -, -⟩ := hbr.blk
      have HS5 := Lib.hid hbr.sys
      have HT5 := Lib.hid hbr.far.1
      have HI5 := Lib.hid hbr.far.2
      have HB5 := Lib.hid hbr.below
      have hc := hkz.cell 0
      simp at hc
      clear hkz hbr HSc HTc HIc HBc HDO j0 J0 ja JA
      obtain ⟨p0, p1, p2, p3, p4, p5, p6⟩ := HPR.out wc HB5.out
      by_cases qc : r1.err = 0 ∧ ¬ c.kind ≤ 4
      · have y0 : (r1.err == 0) = true := by simpa using qc.1
        have y1 : c.kind > 4 := by have := qc.2; omega
        clear qc
        go_wp2
        go_roundg (acts.length - (k + 1))
        case measure => omega
        case rel => exact ⟨k + 1, by go_num, by omega, rfl, S1, HS5.out, HI1.out, HN1.out, HB5.out⟩
      have HEQ := Lib.hid (show S1 = S from HSM.out (by
        by_cases q : r1.err = 0
        · exact .inr (Classical.byContradiction (fun z => qc ⟨q, z⟩))
        · exact .inl q))
      have HTB2 := Lib.hid (HPD.out.tab v S1 lb wc HS5.out)
      go_upto_region 14 with fail
      go_cut [78] (fun s78 wx => s78 = .bool false ∧ wx = wc)
      case first =>
        by_cases q0 : r1.err = 0
        · have y0 : (r1.err == 0) = true := by simpa using q0
          have y1 : ¬ c.kind > 4 := by have := qc; omega
          clear qc q0
          go_wp2
          go_meet
          exact ⟨rfl, rfl⟩
        · have y0 : (r1.err == 0) = false := by simpa using q0
          clear qc q0
          go_wp2
          go_meet
          exact ⟨rfl, rfl⟩
      case rest =>
      obtain ⟨rfl, hw⟩ := hcut
      rw [hw]
      clear qc hw
      go_wp2_with fail
      refine HTB2.out.mono ?_
      rintro e wd ⟨gd, rfl, -, htd, hbd⟩
      have HSd := Lib.hid (HPD.out.below _ _ _ _ _ HS5.out hbd)
      have HTd := Lib.hid htd
      have HId := Lib.hid (HI5.out.below hbd)
      have HBd := Lib.hid (bt hbd HB5.out)
      have HSA := Lib.hid (show Calls Tryz.prog 24 #[.pointer (some ⟨gd, 0, none⟩), .pointer (some ⟨ga, 0, none⟩)] wd fun e w' => e = .returned (.bool true) ∧ Below wd.heap.size wd w' from by
        have h := tsame_any (.pointer (some ⟨gd, 0, none⟩)) (.pointer (some ⟨ga, 0, none⟩)) S1.t S.t wd htd.ptr (HT5.out.below hbd).ptr
        rw [HEQ.out, sam_refl] at h
        exact h)
      clear htd hbd HTB2 p0 p1 p2 p3 p4 p5 p6
      go_wp2_with fail
      refine HSA.out.mono ?_
      rintro e we ⟨rfl, hbe⟩
      have HSe := Lib.hid (HPD.out.below _ _ _ _ _ HSd.out hbe)
      have HIe := Lib.hid (HId.out.below hbe)
      have HBe := Lib.hid (bt hbe HBd.out)
      have HOP2 := Lib.hid (HPD.out.opn v S1 lb we HSe.out (HLN.out S1 HI1.out HN1.out))
      clear hbe HSA HSd HId HBd HTd
      go_wp2_with fail
      refine HOP2.out.mono ?_
      rintro e wf ⟨Af, nf, cf, rfl, hif, -, hbf⟩
      have HSf := Lib.hid (HPD.out.below _ _ _ _ _ HSe.out hbf)
      have HBf := Lib.hid (bt hbf HBe.out)
      have HSS := Lib.hid (show Calls Tryz.prog 19 #[.slice Af nf cf, .slice Ab nb cb] wf fun e w' => e = .returned (.bool true) ∧ Below wf.heap.size wf w' from by
        have h := ssame_any Af Ab nf nb cf cb (opnS S1) (opnS S) wf hif (HIe.out.below hbf) (HLN.out S1 HI1.out HN1.out)
        rw [decide_eq_true (by rw [HEQ.out])] at h
        exact h)
      clear hif hbf HOP2 HSe HIe HBe
      go_wp2_with fail
      refine HSS.out.mono ?_
      rintro e wg ⟨rfl, hbg⟩
      have HRg := Lib.hid (HPD.out.below _ _ _ _ _ HSf.out hbg)
      have HBg := Lib.hid (bt hbg HBf.out)
      obtain ⟨p0, p1, p2, p3, p4, p5, p6⟩ := HPR.out wg HBg.out
      have HUM2 := Lib.hid (show Calls Tryz.prog 23 #[v, .int .i64 pid] wg fun e w' => e = .returned (.int .i64 (umS S pid)) ∧ Below wg.heap.size wg w' from by
        have h := HPD.out.mask v S1 lb pid wg HRg.out
        rw [HEQ.out] at h
        exact h)
      obtain ⟨U, hU⟩ : ∃ U, umS S pid = U := ⟨_, rfl⟩
      rw [hU] at HUM2
      rw [hU]
      clear hU hbg HSf HBf
      go_wp2_with fail
      refine HUM2.out.mono ?_
      rintro e wh ⟨rfl, hbh⟩
      have H9 := Lib.hid (And.intro (HPD.out.below _ _ _ _ _ HRg.out hbh) (bt hbh HBg.out))
      clear hbh HUM2 HRg HBg p0 p1 p2 p3 p4 p5 p6
      go_wp2
      go_roundg (acts.length - (k + 1))
      case measure => omega
      case rel => exact ⟨k + 1, by go_num, by omega, rfl, S1, H9.out.1, HI1.out, HN1.out, H9.out.2⟩
end Go.Proofs.YtkmkfolpjlkfoaaGreat
