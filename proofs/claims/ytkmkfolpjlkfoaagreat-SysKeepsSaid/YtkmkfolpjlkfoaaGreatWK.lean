/-
  The walk of SysKeeps: it answers true of whatever is told, of any path and bytes; with what is said of package sys. The conditions: what is told is no longer than a machine can hold.
-/
import Derived.Test.YtkmkfolpjlkfoaaGreatM24
import Derived.Deep.RegionWith
import Derived.Deep.RegionHeld3
import Derived.Deep.DeepCutAuto
import Derived.Deep.CutBlock
namespace Go.Proofs.YtkmkfolpjlkfoaaGreat
open Go Go.RowKit
set_option maxRecDepth 100000

attribute [local go_sem] cell_off4 cell_blk4
theorem fd_of0 (x y : Int) (a b : Bool) (w : World) : (Instr.field 74 (.agg #[.int .i64 x, .int .i64 y, .bool a, .bool b]) 0).run Tryz.prog w = .ok (.int .i64 x) w := by kernel_rfl
theorem fd_of1 (x y : Int) (a b : Bool) (w : World) : (Instr.field 74 (.agg #[.int .i64 x, .int .i64 y, .bool a, .bool b]) 1).run Tryz.prog w = .ok (.int .i64 y) w := by kernel_rfl
attribute [local go_sem] fd_of0 fd_of1
theorem moved_bA : (⟨#[109, 111, 118, 101, 100]⟩ : ByteArray) = bA [109, 111, 118, 101, 100] := rfl
theorem bA_app (a b : List UInt8) : (bA a ++ bA b : ByteArray) = bA (a ++ b) := by
  rw [← bA_tl (bA a ++ bA b), tl_app, tl_bA, tl_bA]
set_option maxHeartbeats 16000000 in
theorem lkeeps_any {R : World → Value → Sym → List Nat → Prop} (HPC : SysC R) (HAK : ∀ W : World, Calls Tryz.prog 8 #[] W fun e w' => e = .returned (.bool true) ∧ Below W.heap.size W w') (x0 : Int) (v1 : Value) (l : List Rw) (s : ByteArray) (A3 : Option Addr) (c3 : Nat) (b3 : List UInt8) (kd : Int) (w : World) (h1 : RawsR w v1 l) (hl1 : l.length ≤ maxLen) (h3 : BytesR w (.slice A3 b3.length c3) b3) (hkd : 0 ≤ kd ∧ kd ≤ 255) :
    Calls Tryz.prog 6 #[.int .i64 x0, v1, .string s, .slice A3 b3.length c3, .int .u8 kd] w fun e w' => e = .returned (.bool true) ∧ Below w.heap.size w w' := by
  have HA := Lib.hid (HAK w)
  have HPD := Lib.hid HPC
  have HR := Lib.hid h1
  have HL1 := Lib.hid hl1
  have HP3 := Lib.hid h3
  have HKD := Lib.hid hkd
  clear h1 hl1 h3 hkd HPC HAK
  go_enter Tryz.func6, Tryz.ntmps6
  go_wp2_with fail
  refine HA.out.mono ?_
  rintro e w2 ⟨rfl, hb2⟩
  have HB2 := Lib.hid (al hb2 (.cells #[.int .i64 0, .int .i64 0, .slice none 0 0, .int .i64 0, .int .i64 0, .slice none 0 0] 35))
  have HBG := Lib.hid (begun_any HPD.out x0 v1 l 18 (.slice (some ⟨w2.heap.size, 0, none⟩) 2 2) [wh0, wh0] (w2.alloc (.cells #[.int .i64 0, .int .i64 0, .slice none 0 0, .int .i64 0, .int .i64 0, .slice none 0 0] 35)) (HR.out.below HB2.out) HL1.out (cds_two (Blk.new w2 35 #[.int .i64 0, .int .i64 0, .slice none 0 0, .int .i64 0, .int .i64 0, .slice none 0 0])) (fun c hc => (by
    have : c = wh0 := by simpa using hc
    rw [this]
    decide)) (by decide))
  clear hb2 HA
  go_wp2_with fail
  refine HBG.out.mono ?_
  rintro e w3 ⟨hans, hb3⟩
  have HB3 := Lib.hid (bt hb3 HB2.out)
  clear hb3 HBG
  rcases hans with rfl | ⟨v, T, lb, rfl, hr, htx, hlb⟩
  · go_wp2
    go_ret
    exact ⟨rfl, HB3.out⟩
  have HRS := Lib.hid hr
  have HTX := Lib.hid htx
  have HLB := Lib.hid (show ∀ b ∈ lb, w.heap.size ≤ b from fun b hb => Nat.le_trans HB2.out.size (hlb b hb))
  clear hr htx hlb HB2
  by_cases q1 : 100 < s.size
  · have y1 : (s.size : Int) > 100 := by omega
    clear q1
    go_wp2
    go_ret
    exact ⟨rfl, HB3.out⟩
  have y1 : ¬ (s.size : Int) > 100 := by omega
  by_cases q2 : b3.length = 0
  · have y2 : ((b3.length : Int) == 0) = true := by rw [q2]; rfl
    clear q2 q1
    go_wp2
    go_ret
    exact ⟨rfl, HB3.out⟩
  have y2 : ((b3.length : Int) == 0) = false := by simp; intro q; exact q2 (by rw [q]; rfl)
  have HQ2 := Lib.hid q2
  by_cases q3 : 60 < b3.length
  · have y3 : (b3.length : Int) > 60 := by omega
    clear q3 q2 q1
    go_wp2
    go_ret
    exact ⟨rfl, HB3.out⟩
  have y3 : ¬ (b3.length : Int) > 60 := by omega
  have HQ3 := Lib.hid q3
  have HQ1 := Lib.hid q1
  clear q3 q2 q1
  obtain ⟨P, rfl⟩ : ∃ P, s = bA P := ⟨tl s, (bA_tl s).symm⟩
  have hPl : P.length ≤ 100 := by have := HQ1.out; rw [size_bA] at this; omega
  have HI0 := inv_new HTX.out 18 (cs := [wh0, wh0]) (fun c hc => by
    have : c = wh0 := by simpa using hc
    rw [this]
    decide)
  have HDO := Lib.hid (show Calls Tryz.prog 15 #[v, .int .i64 0, .agg #[.int .i64 13, .string (bA P), .string ⟨#[]⟩, .int .i64 1, .int .i64 0, .slice none 0 0]] w3 (DoA R w3 v (doS (newS T 18 [wh0, wh0]) 0 (opC P)).1 (doS (newS T 18 [wh0, wh0]) 0 (opC P)).2 lb) from HPD.out.dos v (newS T 18 [wh0, wh0]) lb 0 (opC P) (.slice none 0 0) w3 HRS.out HI0 (by rw [new_opn]; decide) (BytesR.nil w3) ⟨hPl, Nat.zero_le _, Nat.zero_le _⟩)
  have HKO := Lib.hid (kep_open HTX.out P)
  have HPL := Lib.hid hPl
  clear HI0 hPl
  obtain ⟨S1, hS1⟩ : ∃ S1, (doS (newS T 18 [wh0, wh0]) 0 (opC P)).1 = S1 := ⟨_, rfl⟩
  obtain ⟨r1, hr1⟩ : ∃ r1, (doS (newS T 18 [wh0, wh0]) 0 (opC P)).2 = r1 := ⟨_, rfl⟩
  rw [hS1, hr1] at HDO HKO
  clear hS1 hr1 HTX
  go_wp2_with fail
  refine HDO.out.mono ?_
  rintro e w5 ⟨A51, n51, c51, A52, n52, c52, rfl, -, hr5, hf5⟩
  have hb5 := hf5.below HB3.out HLB.out
  have hax := ba w5 (.cells #[.int .i64 r1.err, .int .i64 r1.n, .int .i64 r1.stat.node, .int .i64 r1.stat.kind, .int .i64 r1.stat.mode, .int .i64 r1.stat.uid, .int .i64 r1.stat.gid, .int .i64 r1.stat.links, .int .i64 r1.stat.size, .string (bA r1.text), .slice A51 n51 c51, .slice A52 n52 c52] 56)
  have hkx := Blk.new w5 56 #[.int .i64 r1.err, .int .i64 r1.n, .int .i64 r1.stat.node, .int .i64 r1.stat.kind, .int .i64 r1.stat.mode, .int .i64 r1.stat.uid, .int .i64 r1.stat.gid, .int .i64 r1.stat.links, .int .i64 r1.stat.size, .string (bA r1.text), .slice A51 n51 c51, .slice A52 n52 c52]
  have H5 := Lib.hid (HPD.out.below _ _ _ _ _ hr5 hax)
  have HB5 := Lib.hid (bt hax hb5)
  have HZL := Lib.hid (show ¬ w5.heap.size ∈ lb from fun z => by have h1 := HPD.out.lt _ _ _ _ hr5 _ z; omega)
  obtain ⟨W5, hW5⟩ : ∃ W, w5.alloc (.cells #[.int .i64 r1.err, .int .i64 r1.n, .int .i64 r1.stat.node, .int .i64 r1.stat.kind, .int .i64 r1.stat.mode, .int .i64 r1.stat.uid, .int .i64 r1.stat.gid, .int .i64 r1.stat.links, .int .i64 r1.stat.size, .string (bA r1.text), .slice A51 n51 c51, .slice A52 n52 c52] 56) = W := ⟨_, rfl⟩
  obtain ⟨zr, hzr⟩ : ∃ z, w5.heap.size = z := ⟨_, rfl⟩
  rw [hW5] at H5 HB5 hkx
  rw [hzr] at hkx HZL
  have HKX := Lib.hid hkx
  obtain ⟨x0', x1', -, -, -, -, -, -, -, -, -, -⟩ := hkx.c12
  have HN0 := Lib.hid HKO.out.1
  clear hr5 hf5 hb5 hax hkx HDO HRS HB3
  go_upto_region 8 with fail
  clear hW5 hzr
  by_cases qe : r1.err = 0
  case neg =>
    have ye : (r1.err != 0) = true := by simpa using qe
    have yn : (r1.n == 0) = true := by rw [HN0.out]; rfl
    clear qe
    go_wp2
    go_ret
    exact ⟨rfl, HB5.out⟩
  have ye : (r1.err != 0) = false := by simpa using qe
  have HK1 := Lib.hid (HKO.out.2 qe)
  rw [HN0.out] at x1'
  have HXR := Lib.hid x1'
  clear qe HN0 HKO
  have HFD := Lib.hid (HPD.out.fds v S1 lb 0 0 W5 H5.out)
  rw [HK1.out.2.fd] at HFD
  obtain ⟨I, hI⟩ : ∃ I, (fdS S1 0 0).node = I := ⟨_, rfl⟩
  rw [hI] at HFD HK1
  have HFD : Hid (Calls Tryz.prog 22 #[v, .int .i64 0, .int .i64 0] W5 fun e w' => e = .returned (.agg #[.int .i64 I, .int .i64 0, .bool true, .bool false]) ∧ Below W5.heap.size W5 w') := HFD
  obtain ⟨N, hN⟩ : ∃ N, tget S1.t I = N := ⟨_, rfl⟩
  obtain ⟨q, hq⟩ : ∃ q, tis S1.t I = q := ⟨_, rfl⟩
  have HKP := Lib.hid (show Kep S1 I N.data 0 0 from by have h1 := HK1.out.2; rw [hN] at h1; exact h1)
  have HNN := Lib.hid hN
  have HQQ := Lib.hid hq
  clear hI hN hq HK1
  go_wp2_with fail
  refine HFD.out.mono ?_
  rintro e w6 ⟨rfl, hb6⟩
  have H6 := Lib.hid (HPD.out.below _ _ _ _ _ H5.out hb6)
  have HB6 := Lib.hid (bt hb6 HB5.out)
  have HK6 := Lib.hid (HKX.out.below hb6)
  have HX6 := Lib.hid (bc hb6 HXR.out)
  have HTB := Lib.hid (HPD.out.tab v S1 lb w6 H6.out)
  clear hb6 HFD H5 HB5 HKX HXR x0' x1'
  go_wp2_with fail
  refine HTB.out.mono ?_
  rintro e w7 ⟨g7, rfl, -, ht7, hb7⟩
  have H7 := Lib.hid (HPD.out.below _ _ _ _ _ H6.out hb7)
  have HB7 := Lib.hid (bt hb7 HB6.out)
  have HK7 := Lib.hid (HK6.out.below hb7)
  have HX7 := Lib.hid (bc hb7 HX6.out)
  have HGT := Lib.hid (get_formsD ht7.ptr I N q HNN.out HQQ.out)
  clear ht7 hb7 HTB H6 HB6 HK6 HX6
  go_wp2_with fail
  refine HGT.out.mono ?_
  rintro e w8 ⟨A1, c1, A2, c2, rfl, ⟨hd, hdl⟩, hb8⟩
  have hbx := al hb8 (.cells #[.int .i64 N.kind, .int .i64 N.mode, .int .i64 N.uid, .int .i64 N.gid, .slice A1 N.data.length c1, .slice A2 N.ents.length c2, .string (bA N.target)] 82)
  have H8 := Lib.hid (HPD.out.below _ _ _ _ _ H7.out hbx)
  have HB8 := Lib.hid (bt hbx HB7.out)
  have hnx := Blk.new w8 82 #[.int .i64 N.kind, .int .i64 N.mode, .int .i64 N.uid, .int .i64 N.gid, .slice A1 N.data.length c1, .slice A2 N.ents.length c2, .string (bA N.target)]
  have HZN := Lib.hid (show ¬ w8.heap.size ∈ lb from fun z => by have h1 := HPD.out.lt _ _ _ _ (HPD.out.below _ _ _ _ _ H7.out hb8) _ z; omega)
  have HAL := Lib.hid (show ∀ ad, A1 = some ad → ¬ ad.block ∈ lb from fun ad hq z => by have h1 := hdl ad hq; have h2 := HPD.out.lt _ _ _ _ H7.out _ z; omega)
  have HKK := Lib.hid (show Kpx (w8.alloc (.cells #[.int .i64 N.kind, .int .i64 N.mode, .int .i64 N.uid, .int .i64 N.gid, .slice A1 N.data.length c1, .slice A2 N.ents.length c2, .string (bA N.target)] 82)) zr w8.heap.size A1 c1 N.data from ⟨⟨_, HK7.out.below hbx, bc hbx HX7.out⟩, ⟨_, hnx, by simp⟩, hd.below (ba _ _)⟩)
  obtain ⟨W8, hW8⟩ : ∃ W, w8.alloc (.cells #[.int .i64 N.kind, .int .i64 N.mode, .int .i64 N.uid, .int .i64 N.gid, .slice A1 N.data.length c1, .slice A2 N.ents.length c2, .string (bA N.target)] 82) = W := ⟨_, rfl⟩
  obtain ⟨zn, hzn⟩ : ∃ z, w8.heap.size = z := ⟨_, rfl⟩
  rw [hW8] at H8 HB8 HKK
  rw [hzn] at HZN HKK
  have HFW := Lib.hid HKP.out.few
  clear hb8 hbx hnx hd hdl HGT H7 HB7 HK7 HX7 HQQ HNN
  go_upto_region 12 with fail
  clear hW8 hzn
  obtain ⟨D, hD⟩ : ∃ D, N.data = D := ⟨_, rfl⟩
  rw [hD] at HKP HKK HFW
  clear hD
  go_wp2
  go_loopg [18, 19] 60 (fun gh s18 s19 wr => ∃ (k off : Nat) (S : Sym), s19 = .int .i64 k ∧ s18 = .string (bA (D.take off)) ∧ k ≤ 60 ∧ gh = 60 - k ∧ R wr v S lb ∧ Kep S I D k off ∧ Kpx wr zr zn A1 c1 D ∧ Below w.heap.size w wr)
  case atStart => exact ⟨0, 0, S1, rfl, rfl, by decide, rfl, H8.out, HKP.out, HKK.out, HB8.out⟩
  case round =>
    obtain ⟨k, off, S, rfl, rfl, hk, rfl, hr, hkp, hkk, hb⟩ := hrel
    have HS := Lib.hid hr
    have HP := Lib.hid hkp
    have HX := Lib.hid hkk
    have HB := Lib.hid hb
    clear hr hkp hkk hb H8 HKP HKK HB8
    by_cases hlt : k < 60
    case neg =>
      have hlt' : ¬ (k : Int) < 60 := by omega
      have hk60 : k = 60 := by omega
      subst hk60
      have HOE := Lib.hid HP.out.end
      have hoe := HOE.out
      have HTD := Lib.hid (show bA (D.take off) = bA D from by rw [hoe, List.take_length])
      rw [HTD.out]
      have HFD := Lib.hid (fun (V : World) (hv : Below wr.heap.size wr V) => HPD.out.fds v S lb 0 0 V (HPD.out.below _ _ _ _ _ HS.out hv))
      rw [HP.out.fd] at HFD
      obtain ⟨OF, hOF⟩ : ∃ O, (off : Int) = O := ⟨_, rfl⟩
      rw [hOF] at HFD
      have HFD : Hid (∀ (V : World), Below wr.heap.size wr V → Calls Tryz.prog 22 #[v, .int .i64 0, .int .i64 0] V fun e w' => e = .returned (.agg #[.int .i64 I, .int .i64 OF, .bool true, .bool false]) ∧ Below V.heap.size V w') := HFD
      have yof : (OF == (D.length : Int)) = true := by rw [← hOF, hoe]; simp
      have HPR := Lib.hid (fun (V : World) (hv : Below wr.heap.size wr V) => show V.cell? ⟨zr, 1, none⟩ = some (.int .i64 0) ∧ V.cell? ⟨zn, 4, none⟩ = some (.slice A1 D.length c1) ∧ (convert 46 9 (.slice A1 D.length c1)).run Tryz.prog V = .ok (.string (bA D)) V from by
        have hx := HX.out.below hv
        obtain ⟨cs, -, h2⟩ := hx.rn
        obtain ⟨ds, -, h4⟩ := hx.nd
        exact ⟨h2, h4, bytes_back hx.by_.1⟩)
      have j0 := Lib.hid (show Below wr.heap.size wr wr.drew from (Below.refl _ _).drew)
      clear hoe hOF HTD
      go_upto_region 24 with fail
      go_region_held3 (fun V => V.cell? ⟨zr, 1, none⟩ = some (.int .i64 0) ∧ V.cell? ⟨zn, 4, none⟩ = some (.slice A1 D.length c1) ∧ (convert 46 9 (.slice A1 D.length c1)).run Tryz.prog V = .ok (.string (bA D)) V)
        (first | (with_reducible exact HPR.out _ j0.out) | (with_reducible exact HPR.out _ j1.out))
        (first
        | (go_at_call 22; (with_reducible refine (HFD.out _ j0.out).mono ?_); rintro e6 w6 ⟨rfl, hb6⟩; have j1 := Lib.hid (bt hb6 j0.out); clear hb6))
      all_goals (
        go_wp2
        go_ret
        exact ⟨rfl, bt j1.out HB.out⟩)
    case pos =>
    have hlt' : (k : Int) < 60 := by omega
    have hmn : k % b3.length < b3.length := Nat.mod_lt _ (by have := HQ2.out; omega)
    obtain ⟨m9, hm9⟩ : ∃ m, k % b3.length = m := ⟨_, rfl⟩
    rw [hm9] at hmn
    obtain ⟨pb, hpb⟩ : ∃ p, b3[m9]? = some p := ⟨_, List.getElem?_eq_getElem hmn⟩
    obtain ⟨pad, hpa, hp0⟩ := bytes_get HP3.out hpb
    subst hpa
    have HPB := Lib.hid hp0
    have d1 : (k : Int).tmod (b3.length : Int) = (m9 : Int) := by rw [Int.tmod_eq_emod_of_nonneg (by omega)]; omega
    have d2 : (k : Int) % (b3.length : Int) = (m9 : Int) := by omega
    have d3 : (m9 : Int) < (b3.length : Int) := by omega
    have d4 : ¬ (b3.length : Int) = 0 := by have := HQ2.out; omega
    have d5 : ¬ b3.length = 0 := HQ2.out
    have d6 : ¬ b3 = [] := fun q => HQ2.out (by rw [q]; rfl)
    obtain ⟨b5, hb5⟩ : ∃ b, pb.toNat % 5 = b := ⟨_, rfl⟩
    have hb55 : b5 < 5 := by omega
    have hco : co pb = (pb.toNat : Int) := rfl
    have f1 : (co pb).tmod 5 = (b5 : Int) := by rw [hco, Int.tmod_eq_emod_of_nonneg (by omega)]; omega
    have f2 : co pb % 5 = (b5 : Int) := by rw [hco]; omega
    have f3 : IntKind.i64.wrap (b5 : Int) = (b5 : Int) := by rw [IntKind.wrap_i64] <;> omega
    have f4 : IntKind.i64.wrap ((b5 : Int) + 1) = ((b5 + 1 : Nat) : Int) := by rw [IntKind.wrap_i64] <;> omega
    have HB9 := Lib.hid (show 1 ≤ b5 + 1 from Nat.le_add_left _ _)
    obtain ⟨B9, hB9⟩ : ∃ B, b5 + 1 = B := ⟨_, rfl⟩
    rw [hB9] at f4 HB9
    have f5 : (b5 : Int) + 1 = (B9 : Int) := by omega
    have f6 : IntKind.i64.wrap (B9 : Int) = (B9 : Int) := by rw [IntKind.wrap_i64] <;> omega
    clear hco hpb hp0 hm9 hb5 hB9 hmn
    by_cases qk : k = 1
    case pos =>
      have yk : ((k : Int) == 1) = true := by rw [qk]; rfl
      obtain ⟨kd0, kd1⟩ := HKD.out
      have h3 : kd % 3 = 0 ∨ kd % 3 = 1 ∨ kd % 3 = 2 := by omega
      have ht3 : kd.tmod 3 = kd % 3 := Int.tmod_eq_emod_of_nonneg kd0
      clear kd0 kd1
      clear qk
      rcases h3 with z | z | z
      · rw [z] at ht3
        have HDO2 := Lib.hid (show Calls Tryz.prog 15 #[v, .int .i64 1, .agg #[.int .i64 10, .string (bA P), .string ⟨#[]⟩, .int .i64 0, .int .i64 0, .slice none 0 0]] wr (DoA R wr v (doS S 1 ⟨10, P, [], 0, 0, []⟩).1 (doS S 1 ⟨10, P, [], 0, 0, []⟩).2 lb) from HPD.out.dos v S lb 1 ⟨10, P, [], 0, 0, []⟩ (.slice none 0 0) wr HS.out HP.out.inv HP.out.opn6 (BytesR.nil wr) ⟨HPL.out, by first | exact Nat.zero_le _ | (show 5 ≤ 100; omega), Nat.zero_le _⟩)
        have HKE := Lib.hid (kep_other HP.out (pid := 1) (by decide) (c := ⟨10, P, [], 0, 0, []⟩) (by first | exact .inl rfl | exact .inr rfl))
        go_wp2_with fail
        refine HDO2.out.mono ?_
        rintro e wq ⟨A61, n61, c61, A62, n62, c62, rfl, -, hr6, hf6⟩
        obtain ⟨Sq, hSq⟩ : ∃ Sq, (doS S 1 ⟨10, P, [], 0, 0, []⟩).1 = Sq := ⟨_, rfl⟩
        rw [hSq] at hr6 HKE
        have HSq := Lib.hid hr6
        have HBq := Lib.hid (hf6.below HB.out HLB.out)
        have HXq := Lib.hid (HX.out.fix hf6 HZL.out HZN.out HAL.out)
        clear hr6 hf6 hSq HDO2
        have HRD := Lib.hid (kep_read HKE.out B9 HB9.out [] [] [])
        have HDO3 := Lib.hid (fun (V : World) (hv : Below wq.heap.size wq V) => show Calls Tryz.prog 15 #[v, .int .i64 0, .agg #[.int .i64 14, .string ⟨#[]⟩, .string ⟨#[]⟩, .int .i64 0, .int .i64 (B9 : Int), .slice none 0 0]] V (DoA R V v (doS Sq 0 ⟨14, [], [], 0, (B9 : Int), []⟩).1 (doS Sq 0 ⟨14, [], [], 0, (B9 : Int), []⟩).2 lb) from HPD.out.dos v Sq lb 0 ⟨14, [], [], 0, (B9 : Int), []⟩ (.slice none 0 0) V (HPD.out.below _ _ _ _ _ HSq.out hv) HKE.out.inv HKE.out.opn6 (BytesR.nil V) ⟨Nat.zero_le _, Nat.zero_le _, Nat.zero_le _⟩)
        obtain ⟨S9, hS9⟩ : ∃ S9, (doS Sq 0 ⟨14, [], [], 0, (B9 : Int), []⟩).1 = S9 := ⟨_, rfl⟩
        obtain ⟨r9, hr9⟩ : ∃ r9, (doS Sq 0 ⟨14, [], [], 0, (B9 : Int), []⟩).2 = r9 := ⟨_, rfl⟩
        rw [hS9, hr9] at HDO3 HRD
        have HK9 := Lib.hid HRD.out.2
        have HE9 := Lib.hid (show r9.err = 0 ∧ r9.data = (D.drop off).take B9 from by rw [HRD.out.1]; exact ⟨rfl, rfl⟩)
        clear hS9 hr9 HRD
        have HPR := Lib.hid (fun (V : World) (hv : Below wq.heap.size wq V) => show V.cell? ⟨zr, 1, none⟩ = some (.int .i64 0) ∧ V.cell? (pad.add m9) = some (.int .u8 (co pb)) from by
          obtain ⟨cs, -, h2⟩ := (HXq.out.below hv).rn
          exact ⟨h2, bc (bt hv HBq.out) HPB.out⟩)
        have j0 := Lib.hid (show Below wq.heap.size wq wq.drew from (Below.refl _ _).drew)
        have ja := Lib.hid (show Below wq.heap.size wq (wq.alloc (.cells #[.int .i64 0, .int .i64 0, .int .i64 0, .int .i64 0, .int .i64 0, .int .i64 0, .int .i64 0, .int .i64 0, .int .i64 0, .string ⟨#[]⟩, .slice none 0 0, .slice none 0 0] 56)).drew from (ba wq _).drew)
        have J0 := Lib.hid (show Below w.heap.size w wq.drew from HBq.out.drew)
        have JA := Lib.hid (show Below w.heap.size w (wq.alloc (.cells #[.int .i64 0, .int .i64 0, .int .i64 0, .int .i64 0, .int .i64 0, .int .i64 0, .int .i64 0, .int .i64 0, .int .i64 0, .string ⟨#[]⟩, .slice none 0 0, .slice none 0 0] 56)).drew from (al HBq.out _).drew)
        have HZQ := Lib.hid (show ¬ wq.heap.size ∈ lb from fun z => by have h1 := HPD.out.lt _ _ _ _ HSq.out _ z; omega)
        have HSZ := Lib.hid (show (wq.alloc (.cells #[.int .i64 0, .int .i64 0, .int .i64 0, .int .i64 0, .int .i64 0, .int .i64 0, .int .i64 0, .int .i64 0, .int .i64 0, .string ⟨#[]⟩, .slice none 0 0, .slice none 0 0] 56)).drew.heap.size = wq.heap.size + 1 from by simp)
        have HWQ := Lib.hid (show w.heap.size ≤ wq.heap.size from HBq.out.size)
        have HQR := Lib.hid (show zr ≠ wq.heap.size ∧ zn ≠ wq.heap.size from by
          obtain ⟨cs, h1, -⟩ := HXq.out.rn
          obtain ⟨ds, h2, -⟩ := HXq.out.nd
          exact ⟨Nat.ne_of_lt h1.lt, Nat.ne_of_lt h2.lt⟩)
        have HQX := Lib.hid (fun (V V' : World) (hv : Below w.heap.size w V) (hf : Fix lb V V') => show V'.cell? (pad.add m9) = some (.int .u8 (co pb)) from bc (hf.below hv HLB.out) HPB.out)
        go_upto_region 20 with fail
        go_cut [20] (fun s20 wx => ∃ z, s20 = .pointer (some ⟨z, 0, none⟩) ∧ Br R w wx v S9 lb z r9 (fun W => Kpx W zr zn A1 c1 D))
        case first =>
          go_region_held3 (fun V => V.cell? ⟨zr, 1, none⟩ = some (.int .i64 0) ∧ V.cell? (pad.add m9) = some (.int .u8 (co pb)))
            (first | (with_reducible exact HPR.out _ j0.out) | (with_reducible exact HPR.out _ ja.out) | (with_reducible exact HT.out) | (with_reducible exact HU.out) | (with_reducible exact HV.out) | (with_reducible exact HW.out))
            (first
            | (go_at_call 15; (with_reducible refine (HDO3.out wq.drew j0.out).mono ?_); rintro e7 w7 ⟨A71, n71, c71, A72, n72, c72, rfl, hs7, hr7, hf7⟩; have H7 := Lib.hid hr7; have S7 := Lib.hid hs7; have j1 := Lib.hid (hf7.below J0.out HLB.out); have X7 := Lib.hid ((HXq.out.below j0.out).fix hf7 HZL.out HZN.out HAL.out); obtain ⟨cs7, -, t0⟩ := X7.out.rn; have t1 := HQX.out _ _ J0.out hf7; have HT := Lib.hid (And.intro t0 t1); have HW := Lib.hid (And.intro (bc (ba w7 (.cells #[.int .i64 0, .int .i64 0, .int .i64 0, .int .i64 0, .int .i64 0, .int .i64 0, .int .i64 0, .int .i64 0, .int .i64 0, .string ⟨#[]⟩, .slice none 0 0, .slice none 0 0] 56)) t0) (bc (ba w7 (.cells #[.int .i64 0, .int .i64 0, .int .i64 0, .int .i64 0, .int .i64 0, .int .i64 0, .int .i64 0, .int .i64 0, .int .i64 0, .string ⟨#[]⟩, .slice none 0 0, .slice none 0 0] 56)) t1)); have HV := Lib.hid (And.intro (bc (ba w7 (.cells #[.int .i64 r9.err, .int .i64 r9.n, .int .i64 r9.stat.node, .int .i64 r9.stat.kind, .int .i64 r9.stat.mode, .int .i64 r9.stat.uid, .int .i64 r9.stat.gid, .int .i64 r9.stat.links, .int .i64 r9.stat.size, .string (bA r9.text), .slice A71 n71 c71, .slice A72 n72 c72] 56)) t0) (bc (ba w7 (.cells #[.int .i64 r9.err, .int .i64 r9.n, .int .i64 r9.stat.node, .int .i64 r9.stat.kind, .int .i64 r9.stat.mode, .int .i64 r9.stat.uid, .int .i64 r9.stat.gid, .int .i64 r9.stat.links, .int .i64 r9.stat.size, .string (bA r9.text), .slice A71 n71 c71, .slice A72 n72 c72] 56)) t1)); clear t0 t1 hr7 hf7 hs7)
            | (go_at_call 15; (with_reducible refine (HDO3.out (wq.alloc (.cells #[.int .i64 0, .int .i64 0, .int .i64 0, .int .i64 0, .int .i64 0, .int .i64 0, .int .i64 0, .int .i64 0, .int .i64 0, .string ⟨#[]⟩, .slice none 0 0, .slice none 0 0] 56)).drew ja.out).mono ?_); rintro e7 w7 ⟨A71, n71, c71, A72, n72, c72, rfl, hs7, hr7, hf7⟩; have H7 := Lib.hid hr7; have S7 := Lib.hid hs7; have j1 := Lib.hid (hf7.below JA.out HLB.out); have X7 := Lib.hid ((HXq.out.below ja.out).fix hf7 HZL.out HZN.out HAL.out); obtain ⟨cs7, -, t0⟩ := X7.out.rn; have t1 := HQX.out _ _ JA.out hf7; have hk7 := hf7.blk (show Blk (wq.alloc (.cells #[.int .i64 0, .int .i64 0, .int .i64 0, .int .i64 0, .int .i64 0, .int .i64 0, .int .i64 0, .int .i64 0, .int .i64 0, .string ⟨#[]⟩, .slice none 0 0, .slice none 0 0] 56)).drew wq.heap.size 56 #[.int .i64 0, .int .i64 0, .int .i64 0, .int .i64 0, .int .i64 0, .int .i64 0, .int .i64 0, .int .i64 0, .int .i64 0, .string ⟨#[]⟩, .slice none 0 0, .slice none 0 0] from Blk.below (Blk.new wq 56 #[.int .i64 0, .int .i64 0, .int .i64 0, .int .i64 0, .int .i64 0, .int .i64 0, .int .i64 0, .int .i64 0, .int .i64 0, .string ⟨#[]⟩, .slice none 0 0, .slice none 0 0]) (Below.refl _ _).drew) HZQ.out; have K7 := Lib.hid hk7; obtain ⟨x0, x1, x2, x3, x4, x5, x6, x7, x8, x9, x10, x11⟩ := hk7.c12; obtain ⟨f0, f1', f2', f3', f4', f5', f6', f7, f8, f9, f10, f11⟩ := hk7.f12; have gx := grown12 w7 wq.heap.size (.int .i64 r9.err) (.int .i64 r9.n) (.int .i64 r9.stat.node) (.int .i64 r9.stat.kind) (.int .i64 r9.stat.mode) (.int .i64 r9.stat.uid) (.int .i64 r9.stat.gid) (.int .i64 r9.stat.links) (.int .i64 r9.stat.size) (.string (bA r9.text)) (.slice A71 n71 c71) (.slice A72 n72 c72); have u0 : ((((((((((((w7.setCell ⟨wq.heap.size, 0, none⟩ (.int .i64 r9.err)).setCell ⟨wq.heap.size, 1, none⟩ (.int .i64 r9.n)).setCell ⟨wq.heap.size, 2, none⟩ (.int .i64 r9.stat.node)).setCell ⟨wq.heap.size, 3, none⟩ (.int .i64 r9.stat.kind)).setCell ⟨wq.heap.size, 4, none⟩ (.int .i64 r9.stat.mode)).setCell ⟨wq.heap.size, 5, none⟩ (.int .i64 r9.stat.uid)).setCell ⟨wq.heap.size, 6, none⟩ (.int .i64 r9.stat.gid)).setCell ⟨wq.heap.size, 7, none⟩ (.int .i64 r9.stat.links)).setCell ⟨wq.heap.size, 8, none⟩ (.int .i64 r9.stat.size)).setCell ⟨wq.heap.size, 9, none⟩ (.string (bA r9.text))).setCell ⟨wq.heap.size, 10, none⟩ (.slice A71 n71 c71)).setCell ⟨wq.heap.size, 11, none⟩ (.slice A72 n72 c72)).cell? ⟨zr, 1, none⟩ = some (.int .i64 0) := cell_off_blk gx t0 (some_ne HQR.out.1); have u1 : ((((((((((((w7.setCell ⟨wq.heap.size, 0, none⟩ (.int .i64 r9.err)).setCell ⟨wq.heap.size, 1, none⟩ (.int .i64 r9.n)).setCell ⟨wq.heap.size, 2, none⟩ (.int .i64 r9.stat.node)).setCell ⟨wq.heap.size, 3, none⟩ (.int .i64 r9.stat.kind)).setCell ⟨wq.heap.size, 4, none⟩ (.int .i64 r9.stat.mode)).setCell ⟨wq.heap.size, 5, none⟩ (.int .i64 r9.stat.uid)).setCell ⟨wq.heap.size, 6, none⟩ (.int .i64 r9.stat.gid)).setCell ⟨wq.heap.size, 7, none⟩ (.int .i64 r9.stat.links)).setCell ⟨wq.heap.size, 8, none⟩ (.int .i64 r9.stat.size)).setCell ⟨wq.heap.size, 9, none⟩ (.string (bA r9.text))).setCell ⟨wq.heap.size, 10, none⟩ (.slice A71 n71 c71)).setCell ⟨wq.heap.size, 11, none⟩ (.slice A72 n72 c72)).cell? (pad.add m9) = some (.int .u8 (co pb)) := bc (below_grown j1.out gx HWQ.out) HPB.out; have HU := Lib.hid (And.intro u0 u1); have HT := Lib.hid (And.intro t0 t1); clear u0 u1 t0 t1 hr7 hf7 hs7 hk7 gx))
          case _ =>
            go_wp2
            go_meet
            refine ⟨_, rfl, Br.fresh HPD.out H7.out ⟨S7.out.1, S7.out.2.1⟩ j1.out X7.out ?_⟩
            exact fun _ _ hx hb => hx.below hb
          all_goals (
            go_wp2
            go_meet
            with_reducible refine ⟨_, rfl, Br.put HPD.out H7.out K7.out ⟨S7.out.1, S7.out.2.1⟩ ?_ j1.out HWQ.out ?_⟩
            · exact S7.out.2.2
            · intro b hg
              refine X7.out.past hg HQR.out.1 HQR.out.2 ?_
              intro ad hv
              obtain ⟨cs8, hc8⟩ := X7.out.by_.2 ad _ _ (by rw [hv])
              exact blk_ne hc8 K7.out (by decide))
        case rest =>
        obtain ⟨zd, rfl, hbr⟩ := hcut
        obtain ⟨A71, n71, c71, A72, n72, c72, hkz, -, hdz⟩ := hbr.blk
        have H8 := Lib.hid hbr.sys
        have X8 := Lib.hid hbr.far
        have B8 := Lib.hid hbr.below
        have c0 := hkz.cell 0
        have c11 := hkz.cell 11
        simp at c0 c11
        have y9 : (r9.err != 0) = false := by rw [HE9.out.1]; rfl
        have hn7 := bytes_len hdz.1
        subst hn7
        have hcv := bytes_back hdz.1
        have hs1 : (bA (D.take off)).size ≤ 1000 := by rw [size_bA, List.length_take]; have := HFW.out; omega
        have hs2 : (bA r9.data).size ≤ 1000 := by rw [size_bA, HE9.out.2, List.length_take, List.length_drop]; have := HFW.out; omega
        clear hkz hdz hbr HDO3 HPR j0 ja J0 JA HQX HQR HWQ HSZ HZQ
        go_wp2
        go_roundg (60 - (k + 1))
        case measure => omega
        case rel => exact ⟨k + 1, off + ((D.drop off).take B9).length, S9, by go_num, by rw [bA_app, HE9.out.2, take_more], by omega, rfl, H8.out, HK9.out, X8.out, B8.out⟩
      · rw [z] at ht3
        have HDO2 := Lib.hid (show Calls Tryz.prog 15 #[v, .int .i64 1, .agg #[.int .i64 12, .string (bA P), .string ⟨#[109, 111, 118, 101, 100]⟩, .int .i64 0, .int .i64 0, .slice none 0 0]] wr (DoA R wr v (doS S 1 ⟨12, P, [109, 111, 118, 101, 100], 0, 0, []⟩).1 (doS S 1 ⟨12, P, [109, 111, 118, 101, 100], 0, 0, []⟩).2 lb) from HPD.out.dos v S lb 1 ⟨12, P, [109, 111, 118, 101, 100], 0, 0, []⟩ (.slice none 0 0) wr HS.out HP.out.inv HP.out.opn6 (BytesR.nil wr) ⟨HPL.out, by first | exact Nat.zero_le _ | (show 5 ≤ 100; omega), Nat.zero_le _⟩)
        have HKE := Lib.hid (kep_other HP.out (pid := 1) (by decide) (c := ⟨12, P, [109, 111, 118, 101, 100], 0, 0, []⟩) (by first | exact .inl rfl | exact .inr rfl))
        go_wp2_with fail
        refine HDO2.out.mono ?_
        rintro e wq ⟨A61, n61, c61, A62, n62, c62, rfl, -, hr6, hf6⟩
        obtain ⟨Sq, hSq⟩ : ∃ Sq, (doS S 1 ⟨12, P, [109, 111, 118, 101, 100], 0, 0, []⟩).1 = Sq := ⟨_, rfl⟩
        rw [hSq] at hr6 HKE
        have HSq := Lib.hid hr6
        have HBq := Lib.hid (hf6.below HB.out HLB.out)
        have HXq := Lib.hid (HX.out.fix hf6 HZL.out HZN.out HAL.out)
        clear hr6 hf6 hSq HDO2
        have HRD := Lib.hid (kep_read HKE.out B9 HB9.out [] [] [])
        have HDO3 := Lib.hid (fun (V : World) (hv : Below wq.heap.size wq V) => show Calls Tryz.prog 15 #[v, .int .i64 0, .agg #[.int .i64 14, .string ⟨#[]⟩, .string ⟨#[]⟩, .int .i64 0, .int .i64 (B9 : Int), .slice none 0 0]] V (DoA R V v (doS Sq 0 ⟨14, [], [], 0, (B9 : Int), []⟩).1 (doS Sq 0 ⟨14, [], [], 0, (B9 : Int), []⟩).2 lb) from HPD.out.dos v Sq lb 0 ⟨14, [], [], 0, (B9 : Int), []⟩ (.slice none 0 0) V (HPD.out.below _ _ _ _ _ HSq.out hv) HKE.out.inv HKE.out.opn6 (BytesR.nil V) ⟨Nat.zero_le _, Nat.zero_le _, Nat.zero_le _⟩)
        obtain ⟨S9, hS9⟩ : ∃ S9, (doS Sq 0 ⟨14, [], [], 0, (B9 : Int), []⟩).1 = S9 := ⟨_, rfl⟩
        obtain ⟨r9, hr9⟩ : ∃ r9, (doS Sq 0 ⟨14, [], [], 0, (B9 : Int), []⟩).2 = r9 := ⟨_, rfl⟩
        rw [hS9, hr9] at HDO3 HRD
        have HK9 := Lib.hid HRD.out.2
        have HE9 := Lib.hid (show r9.err = 0 ∧ r9.data = (D.drop off).take B9 from by rw [HRD.out.1]; exact ⟨rfl, rfl⟩)
        clear hS9 hr9 HRD
        have HPR := Lib.hid (fun (V : World) (hv : Below wq.heap.size wq V) => show V.cell? ⟨zr, 1, none⟩ = some (.int .i64 0) ∧ V.cell? (pad.add m9) = some (.int .u8 (co pb)) from by
          obtain ⟨cs, -, h2⟩ := (HXq.out.below hv).rn
          exact ⟨h2, bc (bt hv HBq.out) HPB.out⟩)
        have j0 := Lib.hid (show Below wq.heap.size wq wq.drew from (Below.refl _ _).drew)
        have ja := Lib.hid (show Below wq.heap.size wq (wq.alloc (.cells #[.int .i64 0, .int .i64 0, .int .i64 0, .int .i64 0, .int .i64 0, .int .i64 0, .int .i64 0, .int .i64 0, .int .i64 0, .string ⟨#[]⟩, .slice none 0 0, .slice none 0 0] 56)).drew from (ba wq _).drew)
        have J0 := Lib.hid (show Below w.heap.size w wq.drew from HBq.out.drew)
        have JA := Lib.hid (show Below w.heap.size w (wq.alloc (.cells #[.int .i64 0, .int .i64 0, .int .i64 0, .int .i64 0, .int .i64 0, .int .i64 0, .int .i64 0, .int .i64 0, .int .i64 0, .string ⟨#[]⟩, .slice none 0 0, .slice none 0 0] 56)).drew from (al HBq.out _).drew)
        have HZQ := Lib.hid (show ¬ wq.heap.size ∈ lb from fun z => by have h1 := HPD.out.lt _ _ _ _ HSq.out _ z; omega)
        have HSZ := Lib.hid (show (wq.alloc (.cells #[.int .i64 0, .int .i64 0, .int .i64 0, .int .i64 0, .int .i64 0, .int .i64 0, .int .i64 0, .int .i64 0, .int .i64 0, .string ⟨#[]⟩, .slice none 0 0, .slice none 0 0] 56)).drew.heap.size = wq.heap.size + 1 from by simp)
        have HWQ := Lib.hid (show w.heap.size ≤ wq.heap.size from HBq.out.size)
        have HQR := Lib.hid (show zr ≠ wq.heap.size ∧ zn ≠ wq.heap.size from by
          obtain ⟨cs, h1, -⟩ := HXq.out.rn
          obtain ⟨ds, h2, -⟩ := HXq.out.nd
          exact ⟨Nat.ne_of_lt h1.lt, Nat.ne_of_lt h2.lt⟩)
        have HQX := Lib.hid (fun (V V' : World) (hv : Below w.heap.size w V) (hf : Fix lb V V') => show V'.cell? (pad.add m9) = some (.int .u8 (co pb)) from bc (hf.below hv HLB.out) HPB.out)
        go_upto_region 20 with fail
        go_cut [20] (fun s20 wx => ∃ z, s20 = .pointer (some ⟨z, 0, none⟩) ∧ Br R w wx v S9 lb z r9 (fun W => Kpx W zr zn A1 c1 D))
        case first =>
          go_region_held3 (fun V => V.cell? ⟨zr, 1, none⟩ = some (.int .i64 0) ∧ V.cell? (pad.add m9) = some (.int .u8 (co pb)))
            (first | (with_reducible exact HPR.out _ j0.out) | (with_reducible exact HPR.out _ ja.out) | (with_reducible exact HT.out) | (with_reducible exact HU.out) | (with_reducible exact HV.out) | (with_reducible exact HW.out))
            (first
            | (go_at_call 15; (with_reducible refine (HDO3.out wq.drew j0.out).mono ?_); rintro e7 w7 ⟨A71, n71, c71, A72, n72, c72, rfl, hs7, hr7, hf7⟩; have H7 := Lib.hid hr7; have S7 := Lib.hid hs7; have j1 := Lib.hid (hf7.below J0.out HLB.out); have X7 := Lib.hid ((HXq.out.below j0.out).fix hf7 HZL.out HZN.out HAL.out); obtain ⟨cs7, -, t0⟩ := X7.out.rn; have t1 := HQX.out _ _ J0.out hf7; have HT := Lib.hid (And.intro t0 t1); have HW := Lib.hid (And.intro (bc (ba w7 (.cells #[.int .i64 0, .int .i64 0, .int .i64 0, .int .i64 0, .int .i64 0, .int .i64 0, .int .i64 0, .int .i64 0, .int .i64 0, .string ⟨#[]⟩, .slice none 0 0, .slice none 0 0] 56)) t0) (bc (ba w7 (.cells #[.int .i64 0, .int .i64 0, .int .i64 0, .int .i64 0, .int .i64 0, .int .i64 0, .int .i64 0, .int .i64 0, .int .i64 0, .string ⟨#[]⟩, .slice none 0 0, .slice none 0 0] 56)) t1)); have HV := Lib.hid (And.intro (bc (ba w7 (.cells #[.int .i64 r9.err, .int .i64 r9.n, .int .i64 r9.stat.node, .int .i64 r9.stat.kind, .int .i64 r9.stat.mode, .int .i64 r9.stat.uid, .int .i64 r9.stat.gid, .int .i64 r9.stat.links, .int .i64 r9.stat.size, .string (bA r9.text), .slice A71 n71 c71, .slice A72 n72 c72] 56)) t0) (bc (ba w7 (.cells #[.int .i64 r9.err, .int .i64 r9.n, .int .i64 r9.stat.node, .int .i64 r9.stat.kind, .int .i64 r9.stat.mode, .int .i64 r9.stat.uid, .int .i64 r9.stat.gid, .int .i64 r9.stat.links, .int .i64 r9.stat.size, .string (bA r9.text), .slice A71 n71 c71, .slice A72 n72 c72] 56)) t1)); clear t0 t1 hr7 hf7 hs7)
            | (go_at_call 15; (with_reducible refine (HDO3.out (wq.alloc (.cells #[.int .i64 0, .int .i64 0, .int .i64 0, .int .i64 0, .int .i64 0, .int .i64 0, .int .i64 0, .int .i64 0, .int .i64 0, .string ⟨#[]⟩, .slice none 0 0, .slice none 0 0] 56)).drew ja.out).mono ?_); rintro e7 w7 ⟨A71, n71, c71, A72, n72, c72, rfl, hs7, hr7, hf7⟩; have H7 := Lib.hid hr7; have S7 := Lib.hid hs7; have j1 := Lib.hid (hf7.below JA.out HLB.out); have X7 := Lib.hid ((HXq.out.below ja.out).fix hf7 HZL.out HZN.out HAL.out); obtain ⟨cs7, -, t0⟩ := X7.out.rn; have t1 := HQX.out _ _ JA.out hf7; have hk7 := hf7.blk (show Blk (wq.alloc (.cells #[.int .i64 0, .int .i64 0, .int .i64 0, .int .i64 0, .int .i64 0, .int .i64 0, .int .i64 0, .int .i64 0, .int .i64 0, .string ⟨#[]⟩, .slice none 0 0, .slice none 0 0] 56)).drew wq.heap.size 56 #[.int .i64 0, .int .i64 0, .int .i64 0, .int .i64 0, .int .i64 0, .int .i64 0, .int .i64 0, .int .i64 0, .int .i64 0, .string ⟨#[]⟩, .slice none 0 0, .slice none 0 0] from Blk.below (Blk.new wq 56 #[.int .i64 0, .int .i64 0, .int .i64 0, .int .i64 0, .int .i64 0, .int .i64 0, .int .i64 0, .int .i64 0, .int .i64 0, .string ⟨#[]⟩, .slice none 0 0, .slice none 0 0]) (Below.refl _ _).drew) HZQ.out; have K7 := Lib.hid hk7; obtain ⟨x0, x1, x2, x3, x4, x5, x6, x7, x8, x9, x10, x11⟩ := hk7.c12; obtain ⟨f0, f1', f2', f3', f4', f5', f6', f7, f8, f9, f10, f11⟩ := hk7.f12; have gx := grown12 w7 wq.heap.size (.int .i64 r9.err) (.int .i64 r9.n) (.int .i64 r9.stat.node) (.int .i64 r9.stat.kind) (.int .i64 r9.stat.mode) (.int .i64 r9.stat.uid) (.int .i64 r9.stat.gid) (.int .i64 r9.stat.links) (.int .i64 r9.stat.size) (.string (bA r9.text)) (.slice A71 n71 c71) (.slice A72 n72 c72); have u0 : ((((((((((((w7.setCell ⟨wq.heap.size, 0, none⟩ (.int .i64 r9.err)).setCell ⟨wq.heap.size, 1, none⟩ (.int .i64 r9.n)).setCell ⟨wq.heap.size, 2, none⟩ (.int .i64 r9.stat.node)).setCell ⟨wq.heap.size, 3, none⟩ (.int .i64 r9.stat.kind)).setCell ⟨wq.heap.size, 4, none⟩ (.int .i64 r9.stat.mode)).setCell ⟨wq.heap.size, 5, none⟩ (.int .i64 r9.stat.uid)).setCell ⟨wq.heap.size, 6, none⟩ (.int .i64 r9.stat.gid)).setCell ⟨wq.heap.size, 7, none⟩ (.int .i64 r9.stat.links)).setCell ⟨wq.heap.size, 8, none⟩ (.int .i64 r9.stat.size)).setCell ⟨wq.heap.size, 9, none⟩ (.string (bA r9.text))).setCell ⟨wq.heap.size, 10, none⟩ (.slice A71 n71 c71)).setCell ⟨wq.heap.size, 11, none⟩ (.slice A72 n72 c72)).cell? ⟨zr, 1, none⟩ = some (.int .i64 0) := cell_off_blk gx t0 (some_ne HQR.out.1); have u1 : ((((((((((((w7.setCell ⟨wq.heap.size, 0, none⟩ (.int .i64 r9.err)).setCell ⟨wq.heap.size, 1, none⟩ (.int .i64 r9.n)).setCell ⟨wq.heap.size, 2, none⟩ (.int .i64 r9.stat.node)).setCell ⟨wq.heap.size, 3, none⟩ (.int .i64 r9.stat.kind)).setCell ⟨wq.heap.size, 4, none⟩ (.int .i64 r9.stat.mode)).setCell ⟨wq.heap.size, 5, none⟩ (.int .i64 r9.stat.uid)).setCell ⟨wq.heap.size, 6, none⟩ (.int .i64 r9.stat.gid)).setCell ⟨wq.heap.size, 7, none⟩ (.int .i64 r9.stat.links)).setCell ⟨wq.heap.size, 8, none⟩ (.int .i64 r9.stat.size)).setCell ⟨wq.heap.size, 9, none⟩ (.string (bA r9.text))).setCell ⟨wq.heap.size, 10, none⟩ (.slice A71 n71 c71)).setCell ⟨wq.heap.size, 11, none⟩ (.slice A72 n72 c72)).cell? (pad.add m9) = some (.int .u8 (co pb)) := bc (below_grown j1.out gx HWQ.out) HPB.out; have HU := Lib.hid (And.intro u0 u1); have HT := Lib.hid (And.intro t0 t1); clear u0 u1 t0 t1 hr7 hf7 hs7 hk7 gx))
          case _ =>
            go_wp2
            go_meet
            refine ⟨_, rfl, Br.fresh HPD.out H7.out ⟨S7.out.1, S7.out.2.1⟩ j1.out X7.out ?_⟩
            exact fun _ _ hx hb => hx.below hb
          all_goals (
            go_wp2
            go_meet
            with_reducible refine ⟨_, rfl, Br.put HPD.out H7.out K7.out ⟨S7.out.1, S7.out.2.1⟩ ?_ j1.out HWQ.out ?_⟩
            · exact S7.out.2.2
            · intro b hg
              refine X7.out.past hg HQR.out.1 HQR.out.2 ?_
              intro ad hv
              obtain ⟨cs8, hc8⟩ := X7.out.by_.2 ad _ _ (by rw [hv])
              exact blk_ne hc8 K7.out (by decide))
        case rest =>
        obtain ⟨zd, rfl, hbr⟩ := hcut
        obtain ⟨A71, n71, c71, A72, n72, c72, hkz, -, hdz⟩ := hbr.blk
        have H8 := Lib.hid hbr.sys
        have X8 := Lib.hid hbr.far
        have B8 := Lib.hid hbr.below
        have c0 := hkz.cell 0
        have c11 := hkz.cell 11
        simp at c0 c11
        have y9 : (r9.err != 0) = false := by rw [HE9.out.1]; rfl
        have hn7 := bytes_len hdz.1
        subst hn7
        have hcv := bytes_back hdz.1
        have hs1 : (bA (D.take off)).size ≤ 1000 := by rw [size_bA, List.length_take]; have := HFW.out; omega
        have hs2 : (bA r9.data).size ≤ 1000 := by rw [size_bA, HE9.out.2, List.length_take, List.length_drop]; have := HFW.out; omega
        clear hkz hdz hbr HDO3 HPR j0 ja J0 JA HQX HQR HWQ HSZ HZQ
        go_wp2
        go_roundg (60 - (k + 1))
        case measure => omega
        case rel => exact ⟨k + 1, off + ((D.drop off).take B9).length, S9, by go_num, by rw [bA_app, HE9.out.2, take_more], by omega, rfl, H8.out, HK9.out, X8.out, B8.out⟩
      · rw [z] at ht3
        have HRD := Lib.hid (kep_read HP.out B9 HB9.out [] [] [])
        have HDO3 := Lib.hid (fun (V : World) (hv : Below wr.heap.size wr V) => show Calls Tryz.prog 15 #[v, .int .i64 0, .agg #[.int .i64 14, .string ⟨#[]⟩, .string ⟨#[]⟩, .int .i64 0, .int .i64 (B9 : Int), .slice none 0 0]] V (DoA R V v (doS S 0 ⟨14, [], [], 0, (B9 : Int), []⟩).1 (doS S 0 ⟨14, [], [], 0, (B9 : Int), []⟩).2 lb) from HPD.out.dos v S lb 0 ⟨14, [], [], 0, (B9 : Int), []⟩ (.slice none 0 0) V (HPD.out.below _ _ _ _ _ HS.out hv) HP.out.inv HP.out.opn6 (BytesR.nil V) ⟨Nat.zero_le _, Nat.zero_le _, Nat.zero_le _⟩)
        obtain ⟨S9, hS9⟩ : ∃ S9, (doS S 0 ⟨14, [], [], 0, (B9 : Int), []⟩).1 = S9 := ⟨_, rfl⟩
        obtain ⟨r9, hr9⟩ : ∃ r9, (doS S 0 ⟨14, [], [], 0, (B9 : Int), []⟩).2 = r9 := ⟨_, rfl⟩
        rw [hS9, hr9] at HDO3 HRD
        have HK9 := Lib.hid HRD.out.2
        have HE9 := Lib.hid (show r9.err = 0 ∧ r9.data = (D.drop off).take B9 from by rw [HRD.out.1]; exact ⟨rfl, rfl⟩)
        clear hS9 hr9 HRD
        have HPR := Lib.hid (fun (V : World) (hv : Below wr.heap.size wr V) => show V.cell? ⟨zr, 1, none⟩ = some (.int .i64 0) ∧ V.cell? (pad.add m9) = some (.int .u8 (co pb)) from by
          obtain ⟨cs, -, h2⟩ := (HX.out.below hv).rn
          exact ⟨h2, bc (bt hv HB.out) HPB.out⟩)
        have j0 := Lib.hid (show Below wr.heap.size wr wr.drew from (Below.refl _ _).drew)
        have ja := Lib.hid (show Below wr.heap.size wr (wr.alloc (.cells #[.int .i64 0, .int .i64 0, .int .i64 0, .int .i64 0, .int .i64 0, .int .i64 0, .int .i64 0, .int .i64 0, .int .i64 0, .string ⟨#[]⟩, .slice none 0 0, .slice none 0 0] 56)).drew from (ba wr _).drew)
        have J0 := Lib.hid (show Below w.heap.size w wr.drew from HB.out.drew)
        have JA := Lib.hid (show Below w.heap.size w (wr.alloc (.cells #[.int .i64 0, .int .i64 0, .int .i64 0, .int .i64 0, .int .i64 0, .int .i64 0, .int .i64 0, .int .i64 0, .int .i64 0, .string ⟨#[]⟩, .slice none 0 0, .slice none 0 0] 56)).drew from (al HB.out _).drew)
        have HZQ := Lib.hid (show ¬ wr.heap.size ∈ lb from fun z => by have h1 := HPD.out.lt _ _ _ _ HS.out _ z; omega)
        have HSZ := Lib.hid (show (wr.alloc (.cells #[.int .i64 0, .int .i64 0, .int .i64 0, .int .i64 0, .int .i64 0, .int .i64 0, .int .i64 0, .int .i64 0, .int .i64 0, .string ⟨#[]⟩, .slice none 0 0, .slice none 0 0] 56)).drew.heap.size = wr.heap.size + 1 from by simp)
        have HWQ := Lib.hid (show w.heap.size ≤ wr.heap.size from HB.out.size)
        have HQR := Lib.hid (show zr ≠ wr.heap.size ∧ zn ≠ wr.heap.size from by
          obtain ⟨cs, h1, -⟩ := HX.out.rn
          obtain ⟨ds, h2, -⟩ := HX.out.nd
          exact ⟨Nat.ne_of_lt h1.lt, Nat.ne_of_lt h2.lt⟩)
        have HQX := Lib.hid (fun (V V' : World) (hv : Below w.heap.size w V) (hf : Fix lb V V') => show V'.cell? (pad.add m9) = some (.int .u8 (co pb)) from bc (hf.below hv HLB.out) HPB.out)
        go_upto_region 20 with fail
        go_cut [20] (fun s20 wx => ∃ z, s20 = .pointer (some ⟨z, 0, none⟩) ∧ Br R w wx v S9 lb z r9 (fun W => Kpx W zr zn A1 c1 D))
        case first =>
          go_region_held3 (fun V => V.cell? ⟨zr, 1, none⟩ = some (.int .i64 0) ∧ V.cell? (pad.add m9) = some (.int .u8 (co pb)))
            (first | (with_reducible exact HPR.out _ j0.out) | (with_reducible exact HPR.out _ ja.out) | (with_reducible exact HT.out) | (with_reducible exact HU.out) | (with_reducible exact HV.out) | (with_reducible exact HW.out))
            (first
            | (go_at_call 15; (with_reducible refine (HDO3.out wr.drew j0.out).mono ?_); rintro e7 w7 ⟨A71, n71, c71, A72, n72, c72, rfl, hs7, hr7, hf7⟩; have H7 := Lib.hid hr7; have S7 := Lib.hid hs7; have j1 := Lib.hid (hf7.below J0.out HLB.out); have X7 := Lib.hid ((HX.out.below j0.out).fix hf7 HZL.out HZN.out HAL.out); obtain ⟨cs7, -, t0⟩ := X7.out.rn; have t1 := HQX.out _ _ J0.out hf7; have HT := Lib.hid (And.intro t0 t1); have HW := Lib.hid (And.intro (bc (ba w7 (.cells #[.int .i64 0, .int .i64 0, .int .i64 0, .int .i64 0, .int .i64 0, .int .i64 0, .int .i64 0, .int .i64 0, .int .i64 0, .string ⟨#[]⟩, .slice none 0 0, .slice none 0 0] 56)) t0) (bc (ba w7 (.cells #[.int .i64 0, .int .i64 0, .int .i64 0, .int .i64 0, .int .i64 0, .int .i64 0, .int .i64 0, .int .i64 0, .int .i64 0, .string ⟨#[]⟩, .slice none 0 0, .slice none 0 0] 56)) t1)); have HV := Lib.hid (And.intro (bc (ba w7 (.cells #[.int .i64 r9.err, .int .i64 r9.n, .int .i64 r9.stat.node, .int .i64 r9.stat.kind, .int .i64 r9.stat.mode, .int .i64 r9.stat.uid, .int .i64 r9.stat.gid, .int .i64 r9.stat.links, .int .i64 r9.stat.size, .string (bA r9.text), .slice A71 n71 c71, .slice A72 n72 c72] 56)) t0) (bc (ba w7 (.cells #[.int .i64 r9.err, .int .i64 r9.n, .int .i64 r9.stat.node, .int .i64 r9.stat.kind, .int .i64 r9.stat.mode, .int .i64 r9.stat.uid, .int .i64 r9.stat.gid, .int .i64 r9.stat.links, .int .i64 r9.stat.size, .string (bA r9.text), .slice A71 n71 c71, .slice A72 n72 c72] 56)) t1)); clear t0 t1 hr7 hf7 hs7)
            | (go_at_call 15; (with_reducible refine (HDO3.out (wr.alloc (.cells #[.int .i64 0, .int .i64 0, .int .i64 0, .int .i64 0, .int .i64 0, .int .i64 0, .int .i64 0, .int .i64 0, .int .i64 0, .string ⟨#[]⟩, .slice none 0 0, .slice none 0 0] 56)).drew ja.out).mono ?_); rintro e7 w7 ⟨A71, n71, c71, A72, n72, c72, rfl, hs7, hr7, hf7⟩; have H7 := Lib.hid hr7; have S7 := Lib.hid hs7; have j1 := Lib.hid (hf7.below JA.out HLB.out); have X7 := Lib.hid ((HX.out.below ja.out).fix hf7 HZL.out HZN.out HAL.out); obtain ⟨cs7, -, t0⟩ := X7.out.rn; have t1 := HQX.out _ _ JA.out hf7; have hk7 := hf7.blk (show Blk (wr.alloc (.cells #[.int .i64 0, .int .i64 0, .int .i64 0, .int .i64 0, .int .i64 0, .int .i64 0, .int .i64 0, .int .i64 0, .int .i64 0, .string ⟨#[]⟩, .slice none 0 0, .slice none 0 0] 56)).drew wr.heap.size 56 #[.int .i64 0, .int .i64 0, .int .i64 0, .int .i64 0, .int .i64 0, .int .i64 0, .int .i64 0, .int .i64 0, .int .i64 0, .string ⟨#[]⟩, .slice none 0 0, .slice none 0 0] from Blk.below (Blk.new wr 56 #[.int .i64 0, .int .i64 0, .int .i64 0, .int .i64 0, .int .i64 0, .int .i64 0, .int .i64 0, .int .i64 0, .int .i64 0, .string ⟨#[]⟩, .slice none 0 0, .slice none 0 0]) (Below.refl _ _).drew) HZQ.out; have K7 := Lib.hid hk7; obtain ⟨x0, x1, x2, x3, x4, x5, x6, x7, x8, x9, x10, x11⟩ := hk7.c12; obtain ⟨f0, f1', f2', f3', f4', f5', f6', f7, f8, f9, f10, f11⟩ := hk7.f12; have gx := grown12 w7 wr.heap.size (.int .i64 r9.err) (.int .i64 r9.n) (.int .i64 r9.stat.node) (.int .i64 r9.stat.kind) (.int .i64 r9.stat.mode) (.int .i64 r9.stat.uid) (.int .i64 r9.stat.gid) (.int .i64 r9.stat.links) (.int .i64 r9.stat.size) (.string (bA r9.text)) (.slice A71 n71 c71) (.slice A72 n72 c72); have u0 : ((((((((((((w7.setCell ⟨wr.heap.size, 0, none⟩ (.int .i64 r9.err)).setCell ⟨wr.heap.size, 1, none⟩ (.int .i64 r9.n)).setCell ⟨wr.heap.size, 2, none⟩ (.int .i64 r9.stat.node)).setCell ⟨wr.heap.size, 3, none⟩ (.int .i64 r9.stat.kind)).setCell ⟨wr.heap.size, 4, none⟩ (.int .i64 r9.stat.mode)).setCell ⟨wr.heap.size, 5, none⟩ (.int .i64 r9.stat.uid)).setCell ⟨wr.heap.size, 6, none⟩ (.int .i64 r9.stat.gid)).setCell ⟨wr.heap.size, 7, none⟩ (.int .i64 r9.stat.links)).setCell ⟨wr.heap.size, 8, none⟩ (.int .i64 r9.stat.size)).setCell ⟨wr.heap.size, 9, none⟩ (.string (bA r9.text))).setCell ⟨wr.heap.size, 10, none⟩ (.slice A71 n71 c71)).setCell ⟨wr.heap.size, 11, none⟩ (.slice A72 n72 c72)).cell? ⟨zr, 1, none⟩ = some (.int .i64 0) := cell_off_blk gx t0 (some_ne HQR.out.1); have u1 : ((((((((((((w7.setCell ⟨wr.heap.size, 0, none⟩ (.int .i64 r9.err)).setCell ⟨wr.heap.size, 1, none⟩ (.int .i64 r9.n)).setCell ⟨wr.heap.size, 2, none⟩ (.int .i64 r9.stat.node)).setCell ⟨wr.heap.size, 3, none⟩ (.int .i64 r9.stat.kind)).setCell ⟨wr.heap.size, 4, none⟩ (.int .i64 r9.stat.mode)).setCell ⟨wr.heap.size, 5, none⟩ (.int .i64 r9.stat.uid)).setCell ⟨wr.heap.size, 6, none⟩ (.int .i64 r9.stat.gid)).setCell ⟨wr.heap.size, 7, none⟩ (.int .i64 r9.stat.links)).setCell ⟨wr.heap.size, 8, none⟩ (.int .i64 r9.stat.size)).setCell ⟨wr.heap.size, 9, none⟩ (.string (bA r9.text))).setCell ⟨wr.heap.size, 10, none⟩ (.slice A71 n71 c71)).setCell ⟨wr.heap.size, 11, none⟩ (.slice A72 n72 c72)).cell? (pad.add m9) = some (.int .u8 (co pb)) := bc (below_grown j1.out gx HWQ.out) HPB.out; have HU := Lib.hid (And.intro u0 u1); have HT := Lib.hid (And.intro t0 t1); clear u0 u1 t0 t1 hr7 hf7 hs7 hk7 gx))
          case _ =>
            go_wp2
            go_meet
            refine ⟨_, rfl, Br.fresh HPD.out H7.out ⟨S7.out.1, S7.out.2.1⟩ j1.out X7.out ?_⟩
            exact fun _ _ hx hb => hx.below hb
          all_goals (
            go_wp2
            go_meet
            with_reducible refine ⟨_, rfl, Br.put HPD.out H7.out K7.out ⟨S7.out.1, S7.out.2.1⟩ ?_ j1.out HWQ.out ?_⟩
            · exact S7.out.2.2
            · intro b hg
              refine X7.out.past hg HQR.out.1 HQR.out.2 ?_
              intro ad hv
              obtain ⟨cs8, hc8⟩ := X7.out.by_.2 ad _ _ (by rw [hv])
              exact blk_ne hc8 K7.out (by decide))
        case rest =>
        obtain ⟨zd, rfl, hbr⟩ := hcut
        obtain ⟨A71, n71, c71, A72, n72, c72, hkz, -, hdz⟩ := hbr.blk
        have H8 := Lib.hid hbr.sys
        have X8 := Lib.hid hbr.far
        have B8 := Lib.hid hbr.below
        have c0 := hkz.cell 0
        have c11 := hkz.cell 11
        simp at c0 c11
        have y9 : (r9.err != 0) = false := by rw [HE9.out.1]; rfl
        have hn7 := bytes_len hdz.1
        subst hn7
        have hcv := bytes_back hdz.1
        have hs1 : (bA (D.take off)).size ≤ 1000 := by rw [size_bA, List.length_take]; have := HFW.out; omega
        have hs2 : (bA r9.data).size ≤ 1000 := by rw [size_bA, HE9.out.2, List.length_take, List.length_drop]; have := HFW.out; omega
        clear hkz hdz hbr HDO3 HPR j0 ja J0 JA HQX HQR HWQ HSZ HZQ
        go_wp2
        go_roundg (60 - (k + 1))
        case measure => omega
        case rel => exact ⟨k + 1, off + ((D.drop off).take B9).length, S9, by go_num, by rw [bA_app, HE9.out.2, take_more], by omega, rfl, H8.out, HK9.out, X8.out, B8.out⟩
    case neg =>
      have yk : ((k : Int) == 1) = false := by simp; omega
      have HRD := Lib.hid (kep_read HP.out B9 HB9.out [] [] [])
      have HDO3 := Lib.hid (fun (V : World) (hv : Below wr.heap.size wr V) => show Calls Tryz.prog 15 #[v, .int .i64 0, .agg #[.int .i64 14, .string ⟨#[]⟩, .string ⟨#[]⟩, .int .i64 0, .int .i64 (B9 : Int), .slice none 0 0]] V (DoA R V v (doS S 0 ⟨14, [], [], 0, (B9 : Int), []⟩).1 (doS S 0 ⟨14, [], [], 0, (B9 : Int), []⟩).2 lb) from HPD.out.dos v S lb 0 ⟨14, [], [], 0, (B9 : Int), []⟩ (.slice none 0 0) V (HPD.out.below _ _ _ _ _ HS.out hv) HP.out.inv HP.out.opn6 (BytesR.nil V) ⟨Nat.zero_le _, Nat.zero_le _, Nat.zero_le _⟩)
      obtain ⟨S9, hS9⟩ : ∃ S9, (doS S 0 ⟨14, [], [], 0, (B9 : Int), []⟩).1 = S9 := ⟨_, rfl⟩
      obtain ⟨r9, hr9⟩ : ∃ r9, (doS S 0 ⟨14, [], [], 0, (B9 : Int), []⟩).2 = r9 := ⟨_, rfl⟩
      rw [hS9, hr9] at HDO3 HRD
      have HK9 := Lib.hid HRD.out.2
      have HE9 := Lib.hid (show r9.err = 0 ∧ r9.data = (D.drop off).take B9 from by rw [HRD.out.1]; exact ⟨rfl, rfl⟩)
      clear hS9 hr9 HRD
      have HPR := Lib.hid (fun (V : World) (hv : Below wr.heap.size wr V) => show V.cell? ⟨zr, 1, none⟩ = some (.int .i64 0) ∧ V.cell? (pad.add m9) = some (.int .u8 (co pb)) from by
        obtain ⟨cs, -, h2⟩ := (HX.out.below hv).rn
        exact ⟨h2, bc (bt hv HB.out) HPB.out⟩)
      have j0 := Lib.hid (show Below wr.heap.size wr wr.drew from (Below.refl _ _).drew)
      have ja := Lib.hid (show Below wr.heap.size wr (wr.alloc (.cells #[.int .i64 0, .int .i64 0, .int .i64 0, .int .i64 0, .int .i64 0, .int .i64 0, .int .i64 0, .int .i64 0, .int .i64 0, .string ⟨#[]⟩, .slice none 0 0, .slice none 0 0] 56)).drew from (ba wr _).drew)
      have J0 := Lib.hid (show Below w.heap.size w wr.drew from HB.out.drew)
      have JA := Lib.hid (show Below w.heap.size w (wr.alloc (.cells #[.int .i64 0, .int .i64 0, .int .i64 0, .int .i64 0, .int .i64 0, .int .i64 0, .int .i64 0, .int .i64 0, .int .i64 0, .string ⟨#[]⟩, .slice none 0 0, .slice none 0 0] 56)).drew from (al HB.out _).drew)
      have HZQ := Lib.hid (show ¬ wr.heap.size ∈ lb from fun z => by have h1 := HPD.out.lt _ _ _ _ HS.out _ z; omega)
      have HSZ := Lib.hid (show (wr.alloc (.cells #[.int .i64 0, .int .i64 0, .int .i64 0, .int .i64 0, .int .i64 0, .int .i64 0, .int .i64 0, .int .i64 0, .int .i64 0, .string ⟨#[]⟩, .slice none 0 0, .slice none 0 0] 56)).drew.heap.size = wr.heap.size + 1 from by simp)
      have HWQ := Lib.hid (show w.heap.size ≤ wr.heap.size from HB.out.size)
      have HQR := Lib.hid (show zr ≠ wr.heap.size ∧ zn ≠ wr.heap.size from by
        obtain ⟨cs, h1, -⟩ := HX.out.rn
        obtain ⟨ds, h2, -⟩ := HX.out.nd
        exact ⟨Nat.ne_of_lt h1.lt, Nat.ne_of_lt h2.lt⟩)
      have HQX := Lib.hid (fun (V V' : World) (hv : Below w.heap.size w V) (hf : Fix lb V V') => show V'.cell? (pad.add m9) = some (.int .u8 (co pb)) from bc (hf.below hv HLB.out) HPB.out)
      go_upto_region 20 with fail
      go_cut [20] (fun s20 wx => ∃ z, s20 = .pointer (some ⟨z, 0, none⟩) ∧ Br R w wx v S9 lb z r9 (fun W => Kpx W zr zn A1 c1 D))
      case first =>
        go_region_held3 (fun V => V.cell? ⟨zr, 1, none⟩ = some (.int .i64 0) ∧ V.cell? (pad.add m9) = some (.int .u8 (co pb)))
          (first | (with_reducible exact HPR.out _ j0.out) | (with_reducible exact HPR.out _ ja.out) | (with_reducible exact HT.out) | (with_reducible exact HU.out) | (with_reducible exact HV.out) | (with_reducible exact HW.out))
          (first
          | (go_at_call 15; (with_reducible refine (HDO3.out wr.drew j0.out).mono ?_); rintro e7 w7 ⟨A71, n71, c71, A72, n72, c72, rfl, hs7, hr7, hf7⟩; have H7 := Lib.hid hr7; have S7 := Lib.hid hs7; have j1 := Lib.hid (hf7.below J0.out HLB.out); have X7 := Lib.hid ((HX.out.below j0.out).fix hf7 HZL.out HZN.out HAL.out); obtain ⟨cs7, -, t0⟩ := X7.out.rn; have t1 := HQX.out _ _ J0.out hf7; have HT := Lib.hid (And.intro t0 t1); have HW := Lib.hid (And.intro (bc (ba w7 (.cells #[.int .i64 0, .int .i64 0, .int .i64 0, .int .i64 0, .int .i64 0, .int .i64 0, .int .i64 0, .int .i64 0, .int .i64 0, .string ⟨#[]⟩, .slice none 0 0, .slice none 0 0] 56)) t0) (bc (ba w7 (.cells #[.int .i64 0, .int .i64 0, .int .i64 0, .int .i64 0, .int .i64 0, .int .i64 0, .int .i64 0, .int .i64 0, .int .i64 0, .string ⟨#[]⟩, .slice none 0 0, .slice none 0 0] 56)) t1)); have HV := Lib.hid (And.intro (bc (ba w7 (.cells #[.int .i64 r9.err, .int .i64 r9.n, .int .i64 r9.stat.node, .int .i64 r9.stat.kind, .int .i64 r9.stat.mode, .int .i64 r9.stat.uid, .int .i64 r9.stat.gid, .int .i64 r9.stat.links, .int .i64 r9.stat.size, .string (bA r9.text), .slice A71 n71 c71, .slice A72 n72 c72] 56)) t0) (bc (ba w7 (.cells #[.int .i64 r9.err, .int .i64 r9.n, .int .i64 r9.stat.node, .int .i64 r9.stat.kind, .int .i64 r9.stat.mode, .int .i64 r9.stat.uid, .int .i64 r9.stat.gid, .int .i64 r9.stat.links, .int .i64 r9.stat.size, .string (bA r9.text), .slice A71 n71 c71, .slice A72 n72 c72] 56)) t1)); clear t0 t1 hr7 hf7 hs7)
          | (go_at_call 15; (with_reducible refine (HDO3.out (wr.alloc (.cells #[.int .i64 0, .int .i64 0, .int .i64 0, .int .i64 0, .int .i64 0, .int .i64 0, .int .i64 0, .int .i64 0, .int .i64 0, .string ⟨#[]⟩, .slice none 0 0, .slice none 0 0] 56)).drew ja.out).mono ?_); rintro e7 w7 ⟨A71, n71, c71, A72, n72, c72, rfl, hs7, hr7, hf7⟩; have H7 := Lib.hid hr7; have S7 := Lib.hid hs7; have j1 := Lib.hid (hf7.below JA.out HLB.out); have X7 := Lib.hid ((HX.out.below ja.out).fix hf7 HZL.out HZN.out HAL.out); obtain ⟨cs7, -, t0⟩ := X7.out.rn; have t1 := HQX.out _ _ JA.out hf7; have hk7 := hf7.blk (show Blk (wr.alloc (.cells #[.int .i64 0, .int .i64 0, .int .i64 0, .int .i64 0, .int .i64 0, .int .i64 0, .int .i64 0, .int .i64 0, .int .i64 0, .string ⟨#[]⟩, .slice none 0 0, .slice none 0 0] 56)).drew wr.heap.size 56 #[.int .i64 0, .int .i64 0, .int .i64 0, .int .i64 0, .int .i64 0, .int .i64 0, .int .i64 0, .int .i64 0, .int .i64 0, .string ⟨#[]⟩, .slice none 0 0, .slice none 0 0] from Blk.below (Blk.new wr 56 #[.int .i64 0, .int .i64 0, .int .i64 0, .int .i64 0, .int .i64 0, .int .i64 0, .int .i64 0, .int .i64 0, .int .i64 0, .string ⟨#[]⟩, .slice none 0 0, .slice none 0 0]) (Below.refl _ _).drew) HZQ.out; have K7 := Lib.hid hk7; obtain ⟨x0, x1, x2, x3, x4, x5, x6, x7, x8, x9, x10, x11⟩ := hk7.c12; obtain ⟨f0, f1', f2', f3', f4', f5', f6', f7, f8, f9, f10, f11⟩ := hk7.f12; have gx := grown12 w7 wr.heap.size (.int .i64 r9.err) (.int .i64 r9.n) (.int .i64 r9.stat.node) (.int .i64 r9.stat.kind) (.int .i64 r9.stat.mode) (.int .i64 r9.stat.uid) (.int .i64 r9.stat.gid) (.int .i64 r9.stat.links) (.int .i64 r9.stat.size) (.string (bA r9.text)) (.slice A71 n71 c71) (.slice A72 n72 c72); have u0 : ((((((((((((w7.setCell ⟨wr.heap.size, 0, none⟩ (.int .i64 r9.err)).setCell ⟨wr.heap.size, 1, none⟩ (.int .i64 r9.n)).setCell ⟨wr.heap.size, 2, none⟩ (.int .i64 r9.stat.node)).setCell ⟨wr.heap.size, 3, none⟩ (.int .i64 r9.stat.kind)).setCell ⟨wr.heap.size, 4, none⟩ (.int .i64 r9.stat.mode)).setCell ⟨wr.heap.size, 5, none⟩ (.int .i64 r9.stat.uid)).setCell ⟨wr.heap.size, 6, none⟩ (.int .i64 r9.stat.gid)).setCell ⟨wr.heap.size, 7, none⟩ (.int .i64 r9.stat.links)).setCell ⟨wr.heap.size, 8, none⟩ (.int .i64 r9.stat.size)).setCell ⟨wr.heap.size, 9, none⟩ (.string (bA r9.text))).setCell ⟨wr.heap.size, 10, none⟩ (.slice A71 n71 c71)).setCell ⟨wr.heap.size, 11, none⟩ (.slice A72 n72 c72)).cell? ⟨zr, 1, none⟩ = some (.int .i64 0) := cell_off_blk gx t0 (some_ne HQR.out.1); have u1 : ((((((((((((w7.setCell ⟨wr.heap.size, 0, none⟩ (.int .i64 r9.err)).setCell ⟨wr.heap.size, 1, none⟩ (.int .i64 r9.n)).setCell ⟨wr.heap.size, 2, none⟩ (.int .i64 r9.stat.node)).setCell ⟨wr.heap.size, 3, none⟩ (.int .i64 r9.stat.kind)).setCell ⟨wr.heap.size, 4, none⟩ (.int .i64 r9.stat.mode)).setCell ⟨wr.heap.size, 5, none⟩ (.int .i64 r9.stat.uid)).setCell ⟨wr.heap.size, 6, none⟩ (.int .i64 r9.stat.gid)).setCell ⟨wr.heap.size, 7, none⟩ (.int .i64 r9.stat.links)).setCell ⟨wr.heap.size, 8, none⟩ (.int .i64 r9.stat.size)).setCell ⟨wr.heap.size, 9, none⟩ (.string (bA r9.text))).setCell ⟨wr.heap.size, 10, none⟩ (.slice A71 n71 c71)).setCell ⟨wr.heap.size, 11, none⟩ (.slice A72 n72 c72)).cell? (pad.add m9) = some (.int .u8 (co pb)) := bc (below_grown j1.out gx HWQ.out) HPB.out; have HU := Lib.hid (And.intro u0 u1); have HT := Lib.hid (And.intro t0 t1); clear u0 u1 t0 t1 hr7 hf7 hs7 hk7 gx))
        case _ =>
          go_wp2
          go_meet
          refine ⟨_, rfl, Br.fresh HPD.out H7.out ⟨S7.out.1, S7.out.2.1⟩ j1.out X7.out ?_⟩
          exact fun _ _ hx hb => hx.below hb
        all_goals (
          go_wp2
          go_meet
          with_reducible refine ⟨_, rfl, Br.put HPD.out H7.out K7.out ⟨S7.out.1, S7.out.2.1⟩ ?_ j1.out HWQ.out ?_⟩
          · exact S7.out.2.2
          · intro b hg
            refine X7.out.past hg HQR.out.1 HQR.out.2 ?_
            intro ad hv
            obtain ⟨cs8, hc8⟩ := X7.out.by_.2 ad _ _ (by rw [hv])
            exact blk_ne hc8 K7.out (by decide))
      case rest =>
      obtain ⟨zd, rfl, hbr⟩ := hcut
      obtain ⟨A71, n71, c71, A72, n72, c72, hkz, -, hdz⟩ := hbr.blk
      have H8 := Lib.hid hbr.sys
      have X8 := Lib.hid hbr.far
      have B8 := Lib.hid hbr.below
      have c0 := hkz.cell 0
      have c11 := hkz.cell 11
      simp at c0 c11
      have y9 : (r9.err != 0) = false := by rw [HE9.out.1]; rfl
      have hn7 := bytes_len hdz.1
      subst hn7
      have hcv := bytes_back hdz.1
      have hs1 : (bA (D.take off)).size ≤ 1000 := by rw [size_bA, List.length_take]; have := HFW.out; omega
      have hs2 : (bA r9.data).size ≤ 1000 := by rw [size_bA, HE9.out.2, List.length_take, List.length_drop]; have := HFW.out; omega
      clear hkz hdz hbr HDO3 HPR j0 ja J0 JA HQX HQR HWQ HSZ HZQ
      go_wp2
      go_roundg (60 - (k + 1))
      case measure => omega
      case rel => exact ⟨k + 1, off + ((D.drop off).take B9).length, S9, by go_num, by rw [bA_app, HE9.out.2, take_more], by omega, rfl, H8.out, HK9.out, X8.out, B8.out⟩
end Go.Proofs.YtkmkfolpjlkfoaaGreat
