/-
  The walk of LookSame: it answers true of whatever is told, of any who ask, of any two paths. The condition: what is told is no longer than a machine can hold.
-/
import Derived.Test.YtilepnepcamnaaaGreatLkK
import Derived.Test.YtilepnepcamnaaaGreatRsB
namespace Go.Proofs.YtilepnepcamnaaaGreat
open Go Go.RowKit
set_option maxRecDepth 100000

attribute [local go_sem] cell_off4 cell_blk4
attribute [local go_sem] eq_stat
set_option maxHeartbeats 8000000 in
theorem lsame_any (x0 : Int) (v1 : Value) (l : List Rw) (c : Wh) (A0 : Option Addr) (n0 k0 : Nat) (s : ByteArray) (sb : ByteArray) (w : World) (h1 : RawsR w v1 l) (hl1 : l.length ≤ maxLen) (h2 : IntsR w (.slice A0 n0 k0) c.gs) :
    Calls Tryz.prog 7 #[.int .i64 x0, v1, .agg #[.int .i64 c.u, .int .i64 c.g, .slice A0 n0 k0], .string s, .string sb] w fun e w' => e = .returned (.bool true) ∧ Below w.heap.size w w' := by
  have hb0 := ba w (.cells #[.int .i64 c.u, .int .i64 c.g, .slice A0 n0 k0] 25)
  have hk0 := Blk.new w 25 #[.int .i64 c.u, .int .i64 c.g, .slice A0 n0 k0]
  obtain ⟨W1, hW1⟩ : ∃ W1, w.alloc (.cells #[.int .i64 c.u, .int .i64 c.g, .slice A0 n0 k0] 25) = W1 := ⟨_, rfl⟩
  rw [hW1] at hb0 hk0
  have HA := Lib.hid (awake12_any W1)
  have HR := Lib.hid (h1.below hb0)
  have HI := Lib.hid (h2.below hb0)
  have HL := Lib.hid hl1
  have HB0 := Lib.hid hb0
  have HK0 := Lib.hid hk0
  clear h1 h2 hl1 hb0 hk0
  go_enter Tryz.func7, Tryz.ntmps7
  go_wp2_with fail
  clear hW1
  refine HA.out.mono ?_
  rintro e w2 ⟨rfl, hb2⟩
  have hk2 := HK0.out.below hb2
  have HB2 := Lib.hid (bt hb2 HB0.out)
  have HK2 := Lib.hid hk2
  have HI2 := Lib.hid (HI.out.below hb2)
  have HBL := Lib.hid (built_any x0 v1 l c A0 n0 k0 w2 (HR.out.below hb2) HL.out HI2.out)
  obtain ⟨k0', k1, k2⟩ := hk2.c3
  clear hb2 hk2 HA HK0 HI HR HB0
  go_wp2_with fail
  refine HBL.out.mono ?_
  rintro e w3 ⟨hans, hb3⟩
  have HB3 := Lib.hid (bt hb3 HB2.out)
  have hk3 := HK2.out.below hb3
  have HI3 := Lib.hid (HI2.out.below hb3)
  clear k0' k1 k2 hb3 HBL
  rcases hans with ⟨rfl, -⟩ | ⟨g, T, rfl, hB, hT⟩
  · clear hk3
    go_wp2
    go_ret
    exact ⟨rfl, HB3.out⟩
  have HTT := Lib.hid hT
  have HT3 := Lib.hid hT.ptr
  have HTR := Lib.hid ((tre_all hB.2).1)
  have HCR3 := Lib.hid (show CrR w3 c A0 n0 k0 from ⟨HI3.out, by have := hB.1.2; omega⟩)
  have HK3 := Lib.hid hk3
  obtain ⟨k0', k1, k2⟩ := hk3.c3
  clear hT hB hk3 HK2 HI2 HB2
  by_cases ha : 60 < s.size
  · have ya : (s.size : Int) > 60 := by omega
    clear ha
    go_wp2
    go_ret
    exact ⟨rfl, HB3.out⟩
  have ya : ¬ (s.size : Int) > 60 := by omega
  by_cases hb : 60 < sb.size
  · have yb : (sb.size : Int) > 60 := by omega
    clear hb
    go_wp2
    go_ret
    exact ⟨rfl, HB3.out⟩
  have yb : ¬ (sb.size : Int) > 60 := by omega
  clear ha hb
  obtain ⟨XE, hXE⟩ : ∃ XE, staM T c (tl s) true = XE := ⟨_, rfl⟩
  obtain ⟨X, E⟩ := XE
  obtain ⟨YF, hYF⟩ : ∃ YF, staM T wh0 (tl s) true = YF := ⟨_, rfl⟩
  obtain ⟨Y, F⟩ := YF
  obtain ⟨ZG, hZG⟩ : ∃ ZG, staM T c (tl sb) true = ZG := ⟨_, rfl⟩
  obtain ⟨Z, G⟩ := ZG
  obtain ⟨S, hS⟩ : ∃ S, staT T X.node = S := ⟨_, rfl⟩
  obtain ⟨q, hq⟩ : ∃ q, tis T X.node = q := ⟨_, rfl⟩
  have HX := Lib.hid (show Calls Tryz.prog 12 #[.pointer (some ⟨g, 0, none⟩), .agg #[.int .i64 c.u, .int .i64 c.g, .slice A0 n0 k0], .string s] w3 fun e w' => e = .returned (.tuple #[stV X, .int .i64 E]) ∧ Below w3.heap.size w3 w' from by have h1 := stat_any _ T c A0 n0 k0 (tl s) w3 HT3.out HCR3.out (X, E) hXE; rw [bA_tl] at h1; exact h1)
  have HY := Lib.hid (fun (W : World) (hb : Below w3.heap.size w3 W) => show Calls Tryz.prog 12 #[.pointer (some ⟨g, 0, none⟩), .agg #[.int .i64 0, .int .i64 0, .slice none 0 0], .string s] W fun e w' => e = .returned (.tuple #[stV Y, .int .i64 F]) ∧ Below W.heap.size W w' from by have h1 := stat_any _ T wh0 none 0 0 (tl s) W (HT3.out.below hb) (crr_nil W wh0 rfl) (Y, F) hYF; rw [bA_tl] at h1; exact h1)
  have HZ := Lib.hid (fun (W : World) (hb : Below w3.heap.size w3 W) => show Calls Tryz.prog 12 #[.pointer (some ⟨g, 0, none⟩), .agg #[.int .i64 c.u, .int .i64 c.g, .slice A0 n0 k0], .string sb] W fun e w' => e = .returned (.tuple #[stV Z, .int .i64 G]) ∧ Below W.heap.size W w' from by have h1 := stat_any _ T c A0 n0 k0 (tl sb) W (HT3.out.below hb) (HCR3.out.below hb) (Z, G) hZG; rw [bA_tl] at h1; exact h1)
  have HO := Lib.hid (fun (W : World) (hb : Below w3.heap.size w3 W) => show Calls Tryz.prog 11 #[.pointer (some ⟨g, 0, none⟩), .int .i64 X.node] W fun e w' => e = .returned (.tuple #[stV S, .bool q]) ∧ Below W.heap.size W w' from by have h1 := of_any _ T X.node W (HT3.out.below hb); rw [hS, hq] at h1; exact h1)
  have HM := Lib.hid (fun (h : E = 0) => show (Y = X ∧ F = 0) ∧ (S = X ∧ q = true) ∧ (X.node = 1 ∨ 1 ≤ X.links) from by
    have hz : (staM T c (tl s) true).2 = 0 := by rw [hXE]; exact h
    have e1 := (staM_same hz).symm
    rw [hXE, hYF] at e1
    obtain ⟨-, d2, -, d4⟩ := staM_zero hz
    rw [hXE] at d2 d4
    replace d4 : X = staT T X.node := d4
    replace d2 : tis T X.node = true := d2
    injection e1 with e2 e3
    refine ⟨⟨e2.symm, e3.symm.trans h⟩, ⟨hS.symm.trans d4.symm, hq.symm.trans d2⟩, ?_⟩
    rcases link_node HTR.out d2 with r | r
    · exact .inl r
    · refine .inr ?_
      have e4 : X.links = (linkT T X.node : Int) := (congrArg Sta.links d4).trans (by rw [sta_is d2])
      omega)
  have HN := Lib.hid (fun (h : E = 0) (h' : G = 0) (hn : X.node = Z.node) => show Z = X from by
    have hz : (staM T c (tl s) true).2 = 0 := by rw [hXE]; exact h
    have hz' : (staM T c (tl sb) true).2 = 0 := by rw [hZG]; exact h'
    obtain ⟨-, -, -, d4⟩ := staM_zero hz
    obtain ⟨-, -, -, d5⟩ := staM_zero hz'
    rw [hXE] at d4
    rw [hZG] at d5
    replace d4 : X = staT T X.node := d4
    replace d5 : Z = staT T Z.node := d5
    exact d5.trans ((congrArg (staT T) hn).symm.trans d4.symm))
  unfold stV stC at HX HY HZ HO
  clear hXE hYF hZG hS hq HTT HI3
  by_cases qE : E = 0
  · obtain ⟨⟨eY, eF⟩, ⟨eS, eq⟩, hl⟩ := HM.out qE
    rw [eY, eF] at HY
    rw [eS, eq] at HO
    rw [qE] at HX
    have HN2 := Lib.hid (HN.out qE)
    have HLK := Lib.hid hl
    clear HM HN hl eY eF eS eq qE
    go_wp2_with fail
    refine (HX.out).mono ?_
    rintro e w4 ⟨rfl, hb⟩
    have hbx := al hb (.cells #[.int .i64 X.node, .int .i64 X.kind, .int .i64 X.mode, .int .i64 X.uid, .int .i64 X.gid, .int .i64 X.links, .int .i64 X.size] 35)
    have J4 := Lib.hid hbx
    have hk := HK3.out.below hbx
    have HK4 := Lib.hid hk
    have BX_4 := Lib.hid (Blk.new w4 35 #[.int .i64 X.node, .int .i64 X.kind, .int .i64 X.mode, .int .i64 X.uid, .int .i64 X.gid, .int .i64 X.links, .int .i64 X.size])
    clear k0' k1 k2
    obtain ⟨k0', k1, k2⟩ := hk.c3
    obtain ⟨a0, a1, a2, a3, a4, a5, a6⟩ := BX_4.out.c7
    clear hb hbx hk
    go_wp2_with fail
    refine (HY.out _ J4.out).mono ?_
    rintro e w5 ⟨rfl, hb⟩
    have hbx := al hb (.cells #[.int .i64 X.node, .int .i64 X.kind, .int .i64 X.mode, .int .i64 X.uid, .int .i64 X.gid, .int .i64 X.links, .int .i64 X.size] 35)
    have J5 := Lib.hid (bt hbx J4.out)
    have hk := HK4.out.below hbx
    have HK5 := Lib.hid hk
    have BX_5 := Lib.hid (BX_4.out.below hbx)
    have BY_5 := Lib.hid (Blk.new w5 35 #[.int .i64 X.node, .int .i64 X.kind, .int .i64 X.mode, .int .i64 X.uid, .int .i64 X.gid, .int .i64 X.links, .int .i64 X.size])
    clear k0' k1 k2
    obtain ⟨k0', k1, k2⟩ := hk.c3
    clear a0 a1 a2 a3 a4 a5 a6
    obtain ⟨a0, a1, a2, a3, a4, a5, a6⟩ := BX_5.out.c7
    clear hb hbx hk
    go_wp2_with fail
    refine (HZ.out _ J5.out).mono ?_
    rintro e w6 ⟨rfl, hb⟩
    have hbx := al hb (.cells #[.int .i64 Z.node, .int .i64 Z.kind, .int .i64 Z.mode, .int .i64 Z.uid, .int .i64 Z.gid, .int .i64 Z.links, .int .i64 Z.size] 35)
    have J6 := Lib.hid (bt hbx J5.out)
    have hk := HK5.out.below hbx
    have HK6 := Lib.hid hk
    have BX_6 := Lib.hid (BX_5.out.below hbx)
    have BY_6 := Lib.hid (BY_5.out.below hbx)
    have BZ_6 := Lib.hid (Blk.new w6 35 #[.int .i64 Z.node, .int .i64 Z.kind, .int .i64 Z.mode, .int .i64 Z.uid, .int .i64 Z.gid, .int .i64 Z.links, .int .i64 Z.size])
    clear k0' k1 k2
    obtain ⟨k0', k1, k2⟩ := hk.c3
    clear a0 a1 a2 a3 a4 a5 a6
    obtain ⟨a0, a1, a2, a3, a4, a5, a6⟩ := BX_6.out.c7
    clear hb hbx hk
    go_wp2_with fail
    refine (HO.out _ J6.out).mono ?_
    rintro e w7 ⟨rfl, hb⟩
    have hbx := al hb (.cells #[.int .i64 X.node, .int .i64 X.kind, .int .i64 X.mode, .int .i64 X.uid, .int .i64 X.gid, .int .i64 X.links, .int .i64 X.size] 35)
    have J7 := Lib.hid (bt hbx J6.out)
    have hk := HK6.out.below hbx
    have HK7 := Lib.hid hk
    have BX_7 := Lib.hid (BX_6.out.below hbx)
    have BY_7 := Lib.hid (BY_6.out.below hbx)
    have BZ_7 := Lib.hid (BZ_6.out.below hbx)
    have BS_7 := Lib.hid (Blk.new w7 35 #[.int .i64 X.node, .int .i64 X.kind, .int .i64 X.mode, .int .i64 X.uid, .int .i64 X.gid, .int .i64 X.links, .int .i64 X.size])
    clear k0' k1 k2
    obtain ⟨k0', k1, k2⟩ := hk.c3
    clear a0 a1 a2 a3 a4 a5 a6
    clear hb hbx hk
    obtain ⟨a0, a1, a2, a3, a4, a5, a6⟩ := BX_7.out.c7
    obtain ⟨b0, b1, b2, b3, b4, b5, b6⟩ := BY_7.out.c7
    obtain ⟨d0, d1, d2, d3, d4, d5, d6⟩ := BZ_7.out.c7
    obtain ⟨f0, f1, f2, f3, f4, f5, f6⟩ := BS_7.out.c7
    clear HY HX HZ HO HK3 HK4 HK5 HK6 HK7 BX_4 BX_5 BX_6 BY_5 BY_6 BZ_6
    by_cases r : X.links < 1
    · have m1 : (X.node != 1) = false := by rcases HLK.out with h | h; (simp [h]); omega
      by_cases qG : G = 0
      · have y1 : (G != 0) = false := by simpa using qG
        by_cases qn : X.node = Z.node
        · have y2 : (X.node != Z.node) = false := by simpa using qn
          have ez := HN2.out qG qn
          subst ez
          clear qG qn HN2
          go_wp2
          go_ret
          exact ⟨ret_bool (by first | rfl | simp), bt J7.out HB3.out⟩
        · have y2 : (X.node != Z.node) = true := by simpa using qn
          clear qG qn HN2
          go_wp2
          go_ret
          exact ⟨ret_bool (by first | rfl | simp), bt J7.out HB3.out⟩
      · have y1 : (G != 0) = true := by simpa using qG
        clear qG HN2
        go_wp2
        go_ret
        exact ⟨ret_bool (by first | rfl | simp), bt J7.out HB3.out⟩
    · skip
      by_cases qG : G = 0
      · have y1 : (G != 0) = false := by simpa using qG
        by_cases qn : X.node = Z.node
        · have y2 : (X.node != Z.node) = false := by simpa using qn
          have ez := HN2.out qG qn
          subst ez
          clear qG qn HN2
          go_wp2
          go_ret
          exact ⟨ret_bool (by first | rfl | simp), bt J7.out HB3.out⟩
        · have y2 : (X.node != Z.node) = true := by simpa using qn
          clear qG qn HN2
          go_wp2
          go_ret
          exact ⟨ret_bool (by first | rfl | simp), bt J7.out HB3.out⟩
      · have y1 : (G != 0) = true := by simpa using qG
        clear qG HN2
        go_wp2
        go_ret
        exact ⟨ret_bool (by first | rfl | simp), bt J7.out HB3.out⟩
  · have e0 : (E == 0) = false := by simpa using qE
    have e1 : (E != 0) = true := by simpa using qE
    clear HM HN qE
    go_wp2_with fail
    refine (HX.out).mono ?_
    rintro e w4 ⟨rfl, hb⟩
    have hbx := al hb (.cells #[.int .i64 X.node, .int .i64 X.kind, .int .i64 X.mode, .int .i64 X.uid, .int .i64 X.gid, .int .i64 X.links, .int .i64 X.size] 35)
    have J4 := Lib.hid hbx
    have hk := HK3.out.below hbx
    have HK4 := Lib.hid hk
    have BX_4 := Lib.hid (Blk.new w4 35 #[.int .i64 X.node, .int .i64 X.kind, .int .i64 X.mode, .int .i64 X.uid, .int .i64 X.gid, .int .i64 X.links, .int .i64 X.size])
    clear k0' k1 k2
    obtain ⟨k0', k1, k2⟩ := hk.c3
    obtain ⟨a0, a1, a2, a3, a4, a5, a6⟩ := BX_4.out.c7
    clear hb hbx hk
    go_wp2_with fail
    refine (HY.out _ J4.out).mono ?_
    rintro e w5 ⟨rfl, hb⟩
    have hbx := al hb (.cells #[.int .i64 Y.node, .int .i64 Y.kind, .int .i64 Y.mode, .int .i64 Y.uid, .int .i64 Y.gid, .int .i64 Y.links, .int .i64 Y.size] 35)
    have J5 := Lib.hid (bt hbx J4.out)
    have hk := HK4.out.below hbx
    have HK5 := Lib.hid hk
    have BX_5 := Lib.hid (BX_4.out.below hbx)
    have BY_5 := Lib.hid (Blk.new w5 35 #[.int .i64 Y.node, .int .i64 Y.kind, .int .i64 Y.mode, .int .i64 Y.uid, .int .i64 Y.gid, .int .i64 Y.links, .int .i64 Y.size])
    clear k0' k1 k2
    obtain ⟨k0', k1, k2⟩ := hk.c3
    clear a0 a1 a2 a3 a4 a5 a6
    obtain ⟨a0, a1, a2, a3, a4, a5, a6⟩ := BX_5.out.c7
    clear hb hbx hk
    go_wp2_with fail
    refine (HZ.out _ J5.out).mono ?_
    rintro e w6 ⟨rfl, hb⟩
    have hbx := al hb (.cells #[.int .i64 Z.node, .int .i64 Z.kind, .int .i64 Z.mode, .int .i64 Z.uid, .int .i64 Z.gid, .int .i64 Z.links, .int .i64 Z.size] 35)
    have J6 := Lib.hid (bt hbx J5.out)
    have hk := HK5.out.below hbx
    have HK6 := Lib.hid hk
    have BX_6 := Lib.hid (BX_5.out.below hbx)
    have BY_6 := Lib.hid (BY_5.out.below hbx)
    have BZ_6 := Lib.hid (Blk.new w6 35 #[.int .i64 Z.node, .int .i64 Z.kind, .int .i64 Z.mode, .int .i64 Z.uid, .int .i64 Z.gid, .int .i64 Z.links, .int .i64 Z.size])
    clear k0' k1 k2
    obtain ⟨k0', k1, k2⟩ := hk.c3
    clear a0 a1 a2 a3 a4 a5 a6
    obtain ⟨a0, a1, a2, a3, a4, a5, a6⟩ := BX_6.out.c7
    clear hb hbx hk
    go_wp2_with fail
    refine (HO.out _ J6.out).mono ?_
    rintro e w7 ⟨rfl, hb⟩
    have hbx := al hb (.cells #[.int .i64 S.node, .int .i64 S.kind, .int .i64 S.mode, .int .i64 S.uid, .int .i64 S.gid, .int .i64 S.links, .int .i64 S.size] 35)
    have J7 := Lib.hid (bt hbx J6.out)
    have hk := HK6.out.below hbx
    have HK7 := Lib.hid hk
    have BX_7 := Lib.hid (BX_6.out.below hbx)
    have BY_7 := Lib.hid (BY_6.out.below hbx)
    have BZ_7 := Lib.hid (BZ_6.out.below hbx)
    have BS_7 := Lib.hid (Blk.new w7 35 #[.int .i64 S.node, .int .i64 S.kind, .int .i64 S.mode, .int .i64 S.uid, .int .i64 S.gid, .int .i64 S.links, .int .i64 S.size])
    clear k0' k1 k2
    obtain ⟨k0', k1, k2⟩ := hk.c3
    clear a0 a1 a2 a3 a4 a5 a6
    clear hb hbx hk
    obtain ⟨a0, a1, a2, a3, a4, a5, a6⟩ := BX_7.out.c7
    obtain ⟨b0, b1, b2, b3, b4, b5, b6⟩ := BY_7.out.c7
    obtain ⟨d0, d1, d2, d3, d4, d5, d6⟩ := BZ_7.out.c7
    obtain ⟨f0, f1, f2, f3, f4, f5, f6⟩ := BS_7.out.c7
    clear HY HX HZ HO HK3 HK4 HK5 HK6 HK7 BX_4 BX_5 BX_6 BY_5 BY_6 BZ_6
    go_wp2
    go_ret
    exact ⟨ret_bool (by first | rfl | simp), bt J7.out HB3.out⟩
end Go.Proofs.YtilepnepcamnaaaGreat
