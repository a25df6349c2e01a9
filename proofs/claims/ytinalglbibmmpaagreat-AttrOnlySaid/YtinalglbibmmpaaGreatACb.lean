/-
  What package attr's closure that changes an owner does to a node. The conditions are said at each.
-/
import Derived.Test.YtinalglbibmmpaaGreatACa
import Derived.BigRegion
import Derived.Deep.RegionLaw
namespace Go.Proofs.YtinalglbibmmpaaGreat
open Go Go.RowKit
set_option maxRecDepth 100000

attribute [local go_sem] cell_off4 cell_blk4
/-- The two owners are stored, in whatever order: what lies there then. -/
theorem two_blk {w : World} {z : Nat} {n : Nd} {vd ve : Value} (h : Blk w z 55 (ndC n vd ve)) (U G : Int) : Blk ((w.setCell ⟨z, 2, none⟩ (.int .i64 U)).setCell ⟨z, 3, none⟩ (.int .i64 G)) z 55 (ndC (modN n n.mode U G) vd ve) := (h.set_ 2 _).set_ 3 _
theorem two_blk' {w : World} {z : Nat} {n : Nd} {vd ve : Value} (h : Blk w z 55 (ndC n vd ve)) (U G : Int) : Blk ((w.setCell ⟨z, 3, none⟩ (.int .i64 G)).setCell ⟨z, 2, none⟩ (.int .i64 U)) z 55 (ndC (modN n n.mode U G) vd ve) := (h.set_ 3 _).set_ 2 _
theorem two_grown (w : World) (z : Nat) (a b : Nat) (u v : Value) : w.grownBy ((w.setCell ⟨z, a, none⟩ u).setCell ⟨z, b, none⟩ v) (some z) := grown_trans (grown_setCell _ _ _) (grown_setCell _ _ _)
/-- Behind the two stores. -/
structure Two (w W : World) (z : Nat) (n : Nd) (vd ve : Value) : Prop where
  blk : Blk W z 55 (ndC n vd ve)
  grown : w.grownBy W (some z)
theorem two_all {w W : World} {z : Nat} {n : Nd} {vd ve : Value} (h : Blk W z 55 (ndC n vd ve)) (hg : w.grownBy W (some z)) (U G : Int) : Two w ((W.setCell ⟨z, 2, none⟩ (.int .i64 U)).setCell ⟨z, 3, none⟩ (.int .i64 G)).drew z (modN n n.mode U G) vd ve :=
  ⟨(two_blk h U G).below (Below.refl _ _).drew, grown_trans (grown_trans hg (two_grown W z 2 3 (.int .i64 U) (.int .i64 G))) (grown_below (Below.refl _ _).drew _)⟩
theorem cell_grown {w W : World} {z b i : Nat} {u : Value} (h : w.cell? ⟨b, i, none⟩ = some u) (hg : w.grownBy W (some z)) (hne : b ≠ z) : W.cell? ⟨b, i, none⟩ = some u := by
  rw [← h]
  exact World.cell?_of_block (hg.block _ (World.block_lt_of_cell? _ _ h) (by intro q; injection q with q; exact hne q))
set_option maxHeartbeats 16000000 in
theorem chwC_any (c : Wh) (A0 : Option Addr) (m k kb ub gb z : Nat) (uid gid : Int) (n : Nd) (vd ve : Value) (w : World) (hk : Blk w kb 25 #[.int .i64 c.u, .int .i64 c.g, .slice A0 m k]) (hu : w.cell? ⟨ub, 0, none⟩ = some (.int .i64 uid)) (hg : w.cell? ⟨gb, 0, none⟩ = some (.int .i64 gid)) (hkz : kb ≠ z) (huz : ub ≠ z) (hgz : gb ≠ z) (hi : IntsR w (.slice A0 m k) c.gs) (hl : c.gs.length ≤ 1000000) (hz : Blk w z 55 (ndC n vd ve)) :
    Calls Tryz.prog 34 #[.pointer (some ⟨z, 0, none⟩), .pointer (some ⟨kb, 0, none⟩), .pointer (some ⟨ub, 0, none⟩), .pointer (some ⟨gb, 0, none⟩)] w fun e w' => e = .returned (.int .i64 (ownE c uid gid n)) ∧ Blk w' z 55 (ndC (if ownE c uid gid n = 0 then ownN c uid gid n else n) vd ve) ∧ w.grownBy w' (some z) := by
  have HZ := Lib.hid hz
  have HPR := Lib.hid (fun (W : World) (hb : Below w.heap.size w W) => show W.cell? ⟨kb, 0, none⟩ = some (.int .i64 c.u) ∧ W.cell? ⟨kb, 1, none⟩ = some (.int .i64 c.g) ∧ W.cell? ⟨kb, 2, none⟩ = some (.slice A0 m k) ∧ W.cell? ⟨ub, 0, none⟩ = some (.int .i64 uid) ∧ W.cell? ⟨gb, 0, none⟩ = some (.int .i64 gid) ∧ W.cell? ⟨z, 0, none⟩ = some (.int .i64 n.kind) ∧ W.cell? ⟨z, 1, none⟩ = some (.int .i64 n.mode) ∧ W.cell? ⟨z, 2, none⟩ = some (.int .i64 n.uid) ∧ W.cell? ⟨z, 3, none⟩ = some (.int .i64 n.gid) from
    ⟨(hk.below hb).cell 0, (hk.below hb).cell 1, (hk.below hb).cell 2, bc hb hu, bc hb hg, (hz.below hb).cell 0, (hz.below hb).cell 1, (hz.below hb).cell 2, (hz.below hb).cell 3⟩)
  have HPK := Lib.hid (fun (W V : World) (hb : Below w.heap.size w W) (hgr : W.grownBy V (some z)) => show V.cell? ⟨kb, 0, none⟩ = some (.int .i64 c.u) ∧ V.cell? ⟨kb, 1, none⟩ = some (.int .i64 c.g) ∧ V.cell? ⟨kb, 2, none⟩ = some (.slice A0 m k) from
    ⟨cell_grown ((hk.below hb).cell 0) hgr hkz, cell_grown ((hk.below hb).cell 1) hgr hkz, cell_grown ((hk.below hb).cell 2) hgr hkz⟩)
  have HSU := Lib.hid (fun (W : World) (hb : Below w.heap.size w W) (i : Nat) (u : Value) => show (W.setCell ⟨z, i, none⟩ u).cell? ⟨ub, 0, none⟩ = some (.int .i64 uid) from cell_oth (bc hb hu) (oth_ne (.inl huz.symm)))
  have HSG := Lib.hid (fun (W : World) (hb : Below w.heap.size w W) (i : Nat) (u : Value) => show (W.setCell ⟨z, i, none⟩ u).cell? ⟨gb, 0, none⟩ = some (.int .i64 gid) from cell_oth (bc hb hg) (oth_ne (.inl hgz.symm)))
  have HV1 := Lib.hid (fun (W : World) (hb : Below w.heap.size w W) (u : Value) => show (W.setCell ⟨z, 3, none⟩ u).cell? ⟨z, 2, none⟩ = some (.int .i64 n.uid) from cell_oth ((hz.below hb).cell 2) (oth_ne (.inr (by decide))))
  have HV2 := Lib.hid (fun (W : World) (hb : Below w.heap.size w W) (u : Value) => show (W.setCell ⟨z, 2, none⟩ u).cell? ⟨z, 3, none⟩ = some (.int .i64 n.gid) from cell_oth ((hz.below hb).cell 3) (oth_ne (.inr (by decide))))
  obtain ⟨q, hq⟩ : ∃ q, mayO c n uid gid = q := ⟨_, rfl⟩
  have HM := Lib.hid (fun (W : World) (hb : Below w.heap.size w W) => show Calls Tryz.prog 35 #[.agg #[.int .i64 c.u, .int .i64 c.g, .slice A0 m k], .int .i64 n.uid, .int .i64 n.gid, .int .i64 uid, .int .i64 gid] W fun e w' => e = .returned (.bool q) ∧ Below W.heap.size W w' from by have h1 := mayOwn_any c.u c.g A0 m k c.gs n.uid n.gid uid gid W (hi.below hb) hl; rw [show mayOwn c.u c.g c.gs n.uid n.gid uid gid = q from hq] at h1; exact h1)
  obtain ⟨M, hM⟩ : ∃ M, writM c.u n.kind n.mode = M := ⟨_, rfl⟩
  obtain ⟨U, hU⟩ : ∃ U, (if uid < 0 then n.uid else uid) = U := ⟨_, rfl⟩
  obtain ⟨G, hG⟩ : ∃ G, (if gid < 0 then n.gid else gid) = G := ⟨_, rfl⟩
  have HD := Lib.hid (fun (W : World) => show Calls Tryz.prog 37 #[.agg #[.int .i64 c.u, .int .i64 c.g, .slice A0 m k], .int .i64 n.kind, .int .i64 n.mode] W fun e w' => e = .returned (.int .i64 M) ∧ Below W.heap.size W w' from by have h1 := written_any c.u c.g A0 m k n.kind n.mode W; rw [hM] at h1; exact h1)
  have HT1 := Lib.hid (fun (W : World) => show Calls Tryz.prog 36 #[.int .i64 uid, .int .i64 n.uid] W fun e w' => e = .returned (.int .i64 U) ∧ W = w' from by have h1 := told_any uid n.uid W; rw [hU] at h1; exact h1)
  have HT2 := Lib.hid (fun (W : World) => show Calls Tryz.prog 36 #[.int .i64 gid, .int .i64 n.gid] W fun e w' => e = .returned (.int .i64 G) ∧ W = w' from by have h1 := told_any gid n.gid W; rw [hG] at h1; exact h1)
  have HE := Lib.hid (show ownE c uid gid n = if q = false then 1 else 0 from by unfold ownE; rw [hq])
  have HN := Lib.hid (show ownN c uid gid n = if uid < 0 ∧ gid < 0 then n else modN n M U G from by unfold ownN chwN; rw [hM, hU, hG])
  obtain ⟨p0, p1, p2, p3, p4, p5, p6, p7, p8⟩ := HPR.out w (Below.refl _ _)
  have j0 : Below w.heap.size w w.drew := (Below.refl _ _).drew
  clear hk hu hg hz hi hl hq hM hU hG hkz huz hgz
  rw [HE.out, HN.out]
  cases q with
  | false =>
    rw [show (if false = false then (1 : Int) else 0) = 1 from rfl, if_neg (by decide : ¬ (1 : Int) = 0)]
    go_enter Tryz.func34, Tryz.ntmps34
    go_upto_region 1 with fail
    go_region_held3 (fun w' => w'.cell? ⟨kb, 0, none⟩ = some (.int .i64 c.u) ∧ w'.cell? ⟨kb, 1, none⟩ = some (.int .i64 c.g) ∧ w'.cell? ⟨kb, 2, none⟩ = some (.slice A0 m k) ∧ w'.cell? ⟨ub, 0, none⟩ = some (.int .i64 uid) ∧ w'.cell? ⟨gb, 0, none⟩ = some (.int .i64 gid) ∧ w'.cell? ⟨z, 0, none⟩ = some (.int .i64 n.kind) ∧ w'.cell? ⟨z, 1, none⟩ = some (.int .i64 n.mode) ∧ w'.cell? ⟨z, 2, none⟩ = some (.int .i64 n.uid) ∧ w'.cell? ⟨z, 3, none⟩ = some (.int .i64 n.gid))
      (first | (with_reducible exact HPR.out _ j0) | (with_reducible exact HPR.out _ j1))
      (first | (go_at_call 35; (with_reducible refine (HM.out _ j0).mono ?_); rintro e1 w4 ⟨rfl, hb4⟩; have j1 := bt hb4 j0; clear hb4))
    all_goals (
      go_wp2
      go_ret
      exact ⟨rfl, HZ.out.below j1, grown_below j1 _⟩)
  | true =>
    rw [show (if true = false then (1 : Int) else 0) = 0 from rfl, if_pos (rfl : (0 : Int) = 0)]
    obtain ⟨N', hN'⟩ : ∃ N', (if uid < 0 ∧ gid < 0 then n else modN n M U G) = N' := ⟨_, rfl⟩
    have HX := Lib.hid (show uid < 0 → gid < 0 → N' = n from fun h1 h2 => by rw [← hN', if_pos ⟨h1, h2⟩])
    have HY := Lib.hid (show ¬ (uid < 0 ∧ gid < 0) → N' = modN n M U G from fun h => by rw [← hN', if_neg h])
    rw [hN']
    clear hN'
    go_enter Tryz.func34, Tryz.ntmps34
    go_upto_region 1 with fail
    go_region_held3 (fun w' => w'.cell? ⟨kb, 0, none⟩ = some (.int .i64 c.u) ∧ w'.cell? ⟨kb, 1, none⟩ = some (.int .i64 c.g) ∧ w'.cell? ⟨kb, 2, none⟩ = some (.slice A0 m k) ∧ w'.cell? ⟨ub, 0, none⟩ = some (.int .i64 uid) ∧ w'.cell? ⟨gb, 0, none⟩ = some (.int .i64 gid) ∧ w'.cell? ⟨z, 0, none⟩ = some (.int .i64 n.kind) ∧ w'.cell? ⟨z, 1, none⟩ = some (.int .i64 n.mode) ∧ w'.cell? ⟨z, 2, none⟩ = some (.int .i64 n.uid) ∧ w'.cell? ⟨z, 3, none⟩ = some (.int .i64 n.gid))
      (first | (with_reducible exact HPR.out _ j0) | (with_reducible exact HPR.out _ j1))
      (first | (go_at_call 35; (with_reducible refine (HM.out _ j0).mono ?_); rintro e1 w4 ⟨rfl, hb4⟩; have j1 := bt hb4 j0; clear hb4))
    all_goals (
      clear p0 p1 p2 p3 p4 p5 p6 p7 p8
      obtain ⟨p0, p1, p2, p3, p4, p5, p6, p7, p8⟩ := HPR.out w4 j1
      by_cases hneg : uid < 0 ∧ gid < 0
      · obtain ⟨hu, hg⟩ := hneg
        have HN2 := Lib.hid (HX.out hu hg)
        go_wp2
        go_ret
        exact ⟨rfl, by rw [HN2.out]; exact HZ.out.below j1, grown_below j1 _⟩
      · have HNEG := Lib.hid hneg
        have j2 := j1.drew
        go_upto_region 3 with fail
        go_cut [24] (fun s24 wx => s24 = .bool false ∧ wx = w4)
        case first =>
          by_cases hu : uid < 0
          · have hg : ¬ gid < 0 := fun h => HNEG.out ⟨hu, h⟩
            clear hneg
            go_wp2
            go_meet
            exact ⟨rfl, rfl⟩
          · clear hneg
            go_wp2
            go_meet
            exact ⟨rfl, rfl⟩
        case rest =>
          obtain ⟨rfl, rfl⟩ := hcut
          clear hneg
          go_upto_region 5 with fail
          have HNN := Lib.hid (HY.out HNEG.out)
          have u1 := HSU.out _ j1 3 (.int .i64 G)
          have u2 := HSG.out _ j1 2 (.int .i64 U)
          have hz2 := HZ.out.below j1
          obtain ⟨f0, f1, f2, f3, f4, f5, f6⟩ := hz2.f7
          have v1 := HV1.out _ j1 (.int .i64 G)
          have v2 := HV2.out _ j1 (.int .i64 U)
          clear hz2
          go_cut [5] (fun s5 wx => s5 = .int .i64 0 ∧ Two w wx z (modN n n.mode U G) vd ve)
          case first =>
            go_region_law (first
              | (go_simp; go_at_call 36; (with_reducible refine (HT1.out _).mono ?_); rintro e1 w5 ⟨rfl, rfl⟩)
              | (go_simp; go_at_call 36; (with_reducible refine (HT2.out _).mono ?_); rintro e1 w5 ⟨rfl, rfl⟩))
            all_goals (
              go_wp2
              go_meet
              exact ⟨rfl, two_all (HZ.out.below j1) (grown_below j1 _) U G⟩)
          case rest =>
            obtain ⟨rfl, h6⟩ := hcut
            have HZ6 := Lib.hid h6.blk
            have HG6 := Lib.hid h6.grown
            obtain ⟨t0, t1, t2⟩ := HPK.out w _ (Below.refl _ _) h6.grown
            have hz6 := h6.blk
            obtain ⟨t3, t4, -⟩ := hz6.c7
            simp only [show (modN n n.mode U G).kind = n.kind from rfl, show (modN n n.mode U G).mode = n.mode from rfl] at t3 t4
            clear h6 hz6 p0 p1 p2 p3 p4 p5 p6 p7 p8 u1 u2 v1 v2 f0 f1 f2 f3 f4 f5 f6
            go_upto_region 6 with fail
            go_region_law (go_simp; go_at_call 37; (with_reducible refine (HD.out _).mono ?_); rintro e2 w6 ⟨rfl, hb6⟩; have hz7 := HZ6.out.below (bt hb6 (Below.refl _ _).drew); obtain ⟨x0, x1, x2, x3, x4, x5, x6⟩ := hz7.c7; obtain ⟨f0, f1, f2, f3, f4, f5, f6⟩ := hz7.f7; have HB6 := Lib.hid (bt hb6 (Below.refl _ _).drew); clear hb6 hz7)
            all_goals (
              go_wp2
              go_ret
              exact ⟨rfl, by rw [HNN.out]; exact (HZ6.out.below HB6.out).set_ 1 _, grown_trans HG6.out (grown_trans (grown_below HB6.out _) (grown_setCell _ _ _))⟩))
end Go.Proofs.YtinalglbibmmpaaGreat
