/-
  The walk of LookLinks: it answers true of whatever is told, of any who ask, of any path and name. The condition: what is told is no longer than a machine can hold.
-/
import Derived.Test.YtilepnepcamnaaaGreatLkK
import Derived.Test.YtilepnepcamnaaaGreatRsB
import Derived.Test.YtilepnepcamnaaaGreatLkV
import Derived.Test.YtilepnepcamnaaaGreatRsJ
namespace Go.Proofs.YtilepnepcamnaaaGreat
open Go Go.RowKit
set_option maxRecDepth 100000

attribute [local go_sem] cell_off4 cell_blk4
attribute [local go_sem] eq_stat
set_option maxHeartbeats 8000000 in
theorem llinks_any (x0 : Int) (v1 : Value) (l : List Rw) (c : Wh) (A0 : Option Addr) (n0 k0 : Nat) (s : ByteArray) (sn : ByteArray) (w : World) (h1 : RawsR w v1 l) (hl1 : l.length ≤ maxLen) (h2 : IntsR w (.slice A0 n0 k0) c.gs) :
    Calls Tryz.prog 5 #[.int .i64 x0, v1, .agg #[.int .i64 c.u, .int .i64 c.g, .slice A0 n0 k0], .string s, .string sn] w fun e w' => e = .returned (.bool true) ∧ Below w.heap.size w w' := by
  have hb0 := ba w (.cells #[.int .i64 c.u, .int .i64 c.g, .slice A0 n0 k0] 25)
  have hk0 := Blk.new w 25 #[.int .i64 c.u, .int .i64 c.g, .slice A0 n0 k0]
  obtain ⟨W1, hW1⟩ : ∃ W1, w.alloc (.cells #[.int .i64 c.u, .int .i64 c.g, .slice A0 n0 k0] 25) = W1 := ⟨_, rfl⟩
  rw [hW1] at hb0 hk0
  have HA := Lib.hid (awake12_any W1)
  have HR := Lib.hid (h1.below hb0)
  have HI := Lib.hid (h2.below hb0)
  have HL := Lib.hid hl1
  have HB0 := Lib.hid hb0
  have HK0 := Lib.hid hk0
  clear h1 h2 hl1 hb0 hk0
  go_enter Tryz.func5, Tryz.ntmps5
  go_wp2_with fail
  clear hW1
  refine HA.out.mono ?_
  rintro e w2 ⟨rfl, hb2⟩
  have hk2 := HK0.out.below hb2
  have HB2 := Lib.hid (bt hb2 HB0.out)
  have HK2 := Lib.hid hk2
  have HI2 := Lib.hid (HI.out.below hb2)
  have HBL := Lib.hid (built_any x0 v1 l c A0 n0 k0 w2 (HR.out.below hb2) HL.out HI2.out)
  obtain ⟨k0', k1, k2⟩ := hk2.c3
  clear hb2 hk2 HA HK0 HI HR HB0
  go_wp2_with fail
  refine HBL.out.mono ?_
  rintro e w3 ⟨hans, hb3⟩
  have HB3 := Lib.hid (bt hb3 HB2.out)
  have hk3 := HK2.out.below hb3
  have HI3 := Lib.hid (HI2.out.below hb3)
  clear k0' k1 k2 hb3 HBL
  rcases hans with ⟨rfl, -⟩ | ⟨g, T, rfl, hB, hT⟩
  · clear hk3
    go_wp2
    go_ret
    exact ⟨rfl, HB3.out⟩
  have HTT := Lib.hid hT
  have HT3 := Lib.hid hT.ptr
  have HTR := Lib.hid ((tre_all hB.2).1)
  have HCR3 := Lib.hid (show CrR w3 c A0 n0 k0 from ⟨HI3.out, by have := hB.1.2; omega⟩)
  have HK3 := Lib.hid hk3
  obtain ⟨k0', k1, k2⟩ := hk3.c3
  clear hT hB hk3 HK2 HI2 HB2
  by_cases ha : 20 < s.size
  · have ya : (s.size : Int) > 20 := by omega
    clear ha
    go_wp2
    go_ret
    exact ⟨rfl, HB3.out⟩
  have ya : ¬ (s.size : Int) > 20 := by omega
  by_cases hb : 12 < sn.size
  · have yb : (sn.size : Int) > 12 := by omega
    clear hb
    go_wp2
    go_ret
    exact ⟨rfl, HB3.out⟩
  have yb : ¬ (sn.size : Int) > 12 := by omega
  have hs20 : s.size ≤ 20 := by omega
  have hn12 : sn.size ≤ 12 := by omega
  have HNM := Lib.hid (fun W => Name_any sn W (by unfold maxLen; omega))
  rw [nam_nok] at HNM
  clear ha hb
  cases hok : nok (tl sn) with
  | false =>
    rw [hok] at HNM
    clear hok
    go_wp2_with fail
    refine (HNM.out _).mono ?_
    rintro e w4 ⟨rfl, rfl⟩
    go_wp2
    go_ret
    exact ⟨rfl, HB3.out⟩
  | true =>
  rw [hok] at HNM
  have HLN := Lib.hid (sta_links HTR.out c (tl s) hok)
  have HJ := Lib.hid (fun W => join_any s sn W (by omega) (by omega))
  obtain ⟨J, hJ⟩ : ∃ J, joinP (tl s) (tl sn) = J := ⟨_, rfl⟩
  rw [hJ] at HLN HJ
  obtain ⟨XE, hXE⟩ : ∃ XE, staM T c J false = XE := ⟨_, rfl⟩
  obtain ⟨X, E⟩ := XE
  obtain ⟨YF, hYF⟩ : ∃ YF, staM T c J true = YF := ⟨_, rfl⟩
  obtain ⟨Y, F⟩ := YF
  rw [hXE, hYF] at HLN
  have HX := Lib.hid (fun (W : World) (hb : Below w3.heap.size w3 W) => show Calls Tryz.prog 15 #[.pointer (some ⟨g, 0, none⟩), .agg #[.int .i64 c.u, .int .i64 c.g, .slice A0 n0 k0], .string (bA J)] W fun e w' => e = .returned (.tuple #[stV X, .int .i64 E]) ∧ Below W.heap.size W w' from lstat_any _ T c A0 n0 k0 J W (HT3.out.below hb) (HCR3.out.below hb) (X, E) hXE)
  have HY := Lib.hid (fun (W : World) (hb : Below w3.heap.size w3 W) => show Calls Tryz.prog 12 #[.pointer (some ⟨g, 0, none⟩), .agg #[.int .i64 c.u, .int .i64 c.g, .slice A0 n0 k0], .string (bA J)] W fun e w' => e = .returned (.tuple #[stV Y, .int .i64 F]) ∧ Below W.heap.size W w' from stat_any _ T c A0 n0 k0 J W (HT3.out.below hb) (HCR3.out.below hb) (Y, F) hYF)
  have HRD := Lib.hid (fun (W : World) (hb : Below w3.heap.size w3 W) (tg : Nm) (hr : rdlM T c J = (tg, 0)) => show Calls Tryz.prog 19 #[.pointer (some ⟨g, 0, none⟩), .agg #[.int .i64 c.u, .int .i64 c.g, .slice A0 n0 k0], .string (bA J)] W fun e w' => e = .returned (.tuple #[.string (bA tg), .int .i64 0]) ∧ Below W.heap.size W w' from readlink_any _ T c A0 n0 k0 J W (HT3.out.below hb) (HCR3.out.below hb) (tg, 0) hr)
  have HST := Lib.hid (fun (W : World) (hb : Below w3.heap.size w3 W) (u : Nm) (Z : Sta) (H : Int) (hr : staM T c u true = (Z, H)) => show Calls Tryz.prog 12 #[.pointer (some ⟨g, 0, none⟩), .agg #[.int .i64 c.u, .int .i64 c.g, .slice A0 n0 k0], .string (bA u)] W fun e w' => e = .returned (.tuple #[stV Z, .int .i64 H]) ∧ Below W.heap.size W w' from stat_any _ T c A0 n0 k0 u W (HT3.out.below hb) (HCR3.out.below hb) (Z, H) hr)
  unfold stV stC at HX HY HST
  have HQL := Lib.hid (show ∀ tg : Nm, rdlM T c J = (tg, 0) → tg.length ≤ 64 from fun tg h => by
    unfold rdlM at h
    split at h
    · injection h with h1 h2
      rw [← h1]
      exact Nat.zero_le _
    · split at h
      · injection h with h1 h2
        exact absurd h2 (by decide)
      · injection h with h1 h2
        rw [← h1]
        exact target_len HTR.out.ok _)
  clear hok hXE hYF hJ HTT HI3
  go_wp2_with fail
  refine (HNM.out _).mono ?_
  rintro e w4 ⟨rfl, rfl⟩
  go_wp2_with fail
  refine (HJ.out _).mono ?_
  rintro e w4 ⟨rfl, hb⟩
  have J4 := Lib.hid hb
  have HK4 := Lib.hid (HK3.out.below hb)
  clear hb k0' k1 k2
  obtain ⟨k0', k1, k2⟩ := HK4.out.c3
  go_wp2_with fail
  refine (HX.out _ J4.out).mono ?_
  rintro e w5 ⟨rfl, hb⟩
  have hbx := al hb (.cells #[.int .i64 X.node, .int .i64 X.kind, .int .i64 X.mode, .int .i64 X.uid, .int .i64 X.gid, .int .i64 X.links, .int .i64 X.size] 35)
  have J5 := Lib.hid (bt hbx J4.out)
  have HK5 := Lib.hid (HK4.out.below hbx)
  have BX_5 := Lib.hid (Blk.new w5 35 #[.int .i64 X.node, .int .i64 X.kind, .int .i64 X.mode, .int .i64 X.uid, .int .i64 X.gid, .int .i64 X.links, .int .i64 X.size])
  clear hb hbx k0' k1 k2
  obtain ⟨k0', k1, k2⟩ := HK5.out.c3
  go_wp2_with fail
  refine (HY.out _ J5.out).mono ?_
  rintro e w6 ⟨rfl, hb⟩
  have hbx := al hb (.cells #[.int .i64 Y.node, .int .i64 Y.kind, .int .i64 Y.mode, .int .i64 Y.uid, .int .i64 Y.gid, .int .i64 Y.links, .int .i64 Y.size] 35)
  have J6 := Lib.hid (bt hbx J5.out)
  have HK6 := Lib.hid (HK5.out.below hbx)
  have BX_6 := Lib.hid (BX_5.out.below hbx)
  have BY_6 := Lib.hid (Blk.new w6 35 #[.int .i64 Y.node, .int .i64 Y.kind, .int .i64 Y.mode, .int .i64 Y.uid, .int .i64 Y.gid, .int .i64 Y.links, .int .i64 Y.size])
  clear hb hbx k0' k1 k2
  obtain ⟨k0', k1, k2⟩ := HK6.out.c3
  obtain ⟨a0, a1, a2, a3, a4, a5, a6⟩ := BX_6.out.c7
  obtain ⟨b0, b1, b2, b3, b4, b5, b6⟩ := BY_6.out.c7
  have yFE : E ≠ 0 → (F == E) = true := fun h => by have h1 := HLN.out.1 h; simpa using h1
  by_cases qE : E = 0
  · have e1 : (E != 0) = false := by simpa using qE
    by_cases qK : X.kind = 3
    · have e2 : (X.kind != 3) = false := by simpa using qK
      obtain ⟨tg, r1, r2, r3, r4⟩ := HLN.out.2.2 qE qK
      replace r2 : X.size = (tg.length : Int) := r2
      have HR1 := Lib.hid (HRD.out _ J6.out tg r1)
      have hq64 := HQL.out tg r1
      have hsz := size_bA tg
      have hpos : 0 < (bA tg).size := by
        rw [hsz]
        exact List.length_pos_iff.2 r3
      have HAB := Lib.hid (abs_first hpos)
      have HSZ := Lib.hid (show (bA tg).size ≤ 1000000 by omega)
      have e3 : (X.size != ((bA tg).size : Int)) = false := by rw [hsz, r2]; simp
      have HR4 := Lib.hid (show F = 40 ∨ ∀ u, u = (if absP (tl (bA tg)) = true then tl (bA tg) else joinP (tl s) (tl (bA tg))) → (staM T c u true).2 = 36 ∨ staM T c u true = (Y, F) from r4)
      generalize bA tg = sg at HR1 hsz hpos HAB HSZ e3 HR4
      obtain ⟨bb, hbb⟩ : ∃ bb, sg[0] = bb := ⟨_, rfl⟩
      rw [hbb] at HAB
      have hpz : (0 : Int) < (sg.size : Int) := by omega
      clear HLN HQL HRD HX HY r1 r2 r3 r4 qE qK yFE hsz hq64
      go_wp2_with fail
      refine HR1.out.mono ?_
      rintro e w7 ⟨rfl, hb⟩
      have J7 := Lib.hid (bt hb J6.out)
      have HK7 := Lib.hid (HK6.out.below hb)
      have BX_7 := Lib.hid (BX_6.out.below hb)
      have BY_7 := Lib.hid (BY_6.out.below hb)
      clear hb k0' k1 k2 a0 a1 a2 a3 a4 a5 a6 b0 b1 b2 b3 b4 b5 b6
      obtain ⟨k0', k1, k2⟩ := HK7.out.c3
      obtain ⟨a0, a1, a2, a3, a4, a5, a6⟩ := BX_7.out.c7
      by_cases q47 : bb = 47
      · have z1 : ((bb.toNat : Int) == 47) = true := by rw [q47]; rfl
        have z2 : ((bb.toNat : Int) != 47) = false := by rw [q47]; rfl
        obtain ⟨ZH, hZH⟩ : ∃ ZH, staM T c (tl sg) true = ZH := ⟨_, rfl⟩
        obtain ⟨Z, H⟩ := ZH
        have HS1 := Lib.hid (show ∀ W, Below w3.heap.size w3 W → Calls Tryz.prog 12 #[.pointer (some ⟨g, 0, none⟩), .agg #[.int .i64 c.u, .int .i64 c.g, .slice A0 n0 k0], .string sg] W fun e w' => e = .returned (.tuple #[.agg #[.int .i64 Z.node, .int .i64 Z.kind, .int .i64 Z.mode, .int .i64 Z.uid, .int .i64 Z.gid, .int .i64 Z.links, .int .i64 Z.size], .int .i64 H]) ∧ Below W.heap.size W w' from fun W hb => by have h1 := HST.out W hb (tl sg) Z H hZH; rw [bA_tl] at h1; exact h1)
        have HFC := Lib.hid (show H = 36 ∨ F = 40 ∨ (H = F ∧ Z = Y) from by
          rcases HR4.out with h | h
          · exact .inr (.inl h)
          · have hab : absP (tl sg) = true := by rw [HAB.out, q47]; rfl
            rcases h (tl sg) (by rw [if_pos hab]) with h | h
            · rw [hZH] at h
              exact .inl h
            · rw [hZH] at h
              injection h with h1 h2
              exact .inr (.inr ⟨h2, h1⟩))
        clear HST HR4 hZH HAB
        go_upto_region 19 with fail
        clear hbb q47 z1 z2 hpz
        go_wp2_with fail
        refine (HS1.out _ J7.out).mono ?_
        rintro e w8 ⟨rfl, hb⟩
        have hbx := al hb (.cells #[.int .i64 Z.node, .int .i64 Z.kind, .int .i64 Z.mode, .int .i64 Z.uid, .int .i64 Z.gid, .int .i64 Z.links, .int .i64 Z.size] 35)
        have J8 := Lib.hid (bt hbx J7.out)
        have BY_8 := Lib.hid (BY_7.out.below hbx)
        have BZ_8 := Lib.hid (Blk.new w8 35 #[.int .i64 Z.node, .int .i64 Z.kind, .int .i64 Z.mode, .int .i64 Z.uid, .int .i64 Z.gid, .int .i64 Z.links, .int .i64 Z.size])
        clear hb hbx k0' k1 k2 
        obtain ⟨b0, b1, b2, b3, b4, b5, b6⟩ := BY_8.out.c7
        obtain ⟨d0, d1, d2, d3, d4, d5, d6⟩ := BZ_8.out.c7
        by_cases q36 : H = 36
        · have m1 : (H == 36) = true := by simpa using q36
          clear q36 HFC
          go_wp2
          go_ret
          exact ⟨ret_bool (by first | rfl | simp), bt J8.out HB3.out⟩
        · have m1 : (H == 36) = false := by simpa using q36
          by_cases q40 : F = 40
          · have m2 : (F == 40) = true := by simpa using q40
            clear q36 q40 HFC
            go_wp2
            go_ret
            exact ⟨ret_bool (by first | rfl | simp), bt J8.out HB3.out⟩
          · have m2 : (F == 40) = false := by simpa using q40
            obtain ⟨r1, r2⟩ : H = F ∧ Z = Y := by
              rcases HFC.out with h | h | h
              · exact absurd h q36
              · exact absurd h q40
              · exact h
            have m3 : (H == F) = true := by simpa using r1
            subst r2
            clear q36 q40 HFC r1
            go_wp2
            go_ret
            exact ⟨ret_bool (by first | rfl | simp), bt J8.out HB3.out⟩
      · have z1 : ((bb.toNat : Int) == 47) = false := co_ne (a := bb) (b := 47) q47
        have z2 : ((bb.toNat : Int) != 47) = true := by simpa using z1
        have HJ2 := Lib.hid (fun W => join_any s sg W (by omega) HSZ.out)
        obtain ⟨U, hU⟩ : ∃ U, joinP (tl s) (tl sg) = U := ⟨_, rfl⟩
        rw [hU] at HJ2
        obtain ⟨ZH, hZH⟩ : ∃ ZH, staM T c U true = ZH := ⟨_, rfl⟩
        obtain ⟨Z, H⟩ := ZH
        have HS1 := Lib.hid (show ∀ W, Below w3.heap.size w3 W → Calls Tryz.prog 12 #[.pointer (some ⟨g, 0, none⟩), .agg #[.int .i64 c.u, .int .i64 c.g, .slice A0 n0 k0], .string (bA U)] W fun e w' => e = .returned (.tuple #[.agg #[.int .i64 Z.node, .int .i64 Z.kind, .int .i64 Z.mode, .int .i64 Z.uid, .int .i64 Z.gid, .int .i64 Z.links, .int .i64 Z.size], .int .i64 H]) ∧ Below W.heap.size W w' from fun W hb => HST.out W hb U Z H hZH)
        have HFC := Lib.hid (show H = 36 ∨ F = 40 ∨ (H = F ∧ Z = Y) from by
          rcases HR4.out with h | h
          · exact .inr (.inl h)
          · have hab : absP (tl sg) = false := by rw [HAB.out]; simpa using q47
            rcases h U (by rw [if_neg (by rw [hab]; decide), hU]) with h | h
            · rw [hZH] at h
              exact .inl h
            · rw [hZH] at h
              injection h with h1 h2
              exact .inr (.inr ⟨h2, h1⟩))
        clear HST HR4 hZH HAB hU
        go_wp2_with fail
        refine (HJ2.out _).mono ?_
        rintro e w8 ⟨rfl, hb⟩
        have J8 := Lib.hid (bt hb J7.out)
        have HK8 := Lib.hid (HK7.out.below hb)
        have BX_8 := Lib.hid (BX_7.out.below hb)
        have BY_8 := Lib.hid (BY_7.out.below hb)
        clear hb k0' k1 k2 a0 a1 a2 a3 a4 a5 a6 hbb q47 z1 z2 hpz
        obtain ⟨k0', k1, k2⟩ := HK8.out.c3
        go_wp2_with fail
        refine (HS1.out _ J8.out).mono ?_
        rintro e w9 ⟨rfl, hb⟩
        have hbx := al hb (.cells #[.int .i64 Z.node, .int .i64 Z.kind, .int .i64 Z.mode, .int .i64 Z.uid, .int .i64 Z.gid, .int .i64 Z.links, .int .i64 Z.size] 35)
        have J9 := Lib.hid (bt hbx J8.out)
        have BY_9 := Lib.hid (BY_8.out.below hbx)
        have BZ_9 := Lib.hid (Blk.new w9 35 #[.int .i64 Z.node, .int .i64 Z.kind, .int .i64 Z.mode, .int .i64 Z.uid, .int .i64 Z.gid, .int .i64 Z.links, .int .i64 Z.size])
        clear hb hbx k0' k1 k2 
        obtain ⟨b0, b1, b2, b3, b4, b5, b6⟩ := BY_9.out.c7
        obtain ⟨d0, d1, d2, d3, d4, d5, d6⟩ := BZ_9.out.c7
        by_cases q36 : H = 36
        · have m1 : (H == 36) = true := by simpa using q36
          clear q36 HFC
          go_wp2
          go_ret
          exact ⟨ret_bool (by first | rfl | simp), bt J9.out HB3.out⟩
        · have m1 : (H == 36) = false := by simpa using q36
          by_cases q40 : F = 40
          · have m2 : (F == 40) = true := by simpa using q40
            clear q36 q40 HFC
            go_wp2
            go_ret
            exact ⟨ret_bool (by first | rfl | simp), bt J9.out HB3.out⟩
          · have m2 : (F == 40) = false := by simpa using q40
            obtain ⟨r1, r2⟩ : H = F ∧ Z = Y := by
              rcases HFC.out with h | h | h
              · exact absurd h q36
              · exact absurd h q40
              · exact h
            have m3 : (H == F) = true := by simpa using r1
            subst r2
            clear q36 q40 HFC r1
            go_wp2
            go_ret
            exact ⟨ret_bool (by first | rfl | simp), bt J9.out HB3.out⟩
    · have e2 : (X.kind != 3) = true := by simpa using qK
      have hA := HLN.out.2.1 qE qK
      injection hA with h1 h2
      have yF : (F == E) = true := by simpa using h2
      subst h1
      clear HLN HQL HRD HX HY HST qE qK yFE h2
      go_wp2
      go_ret
      exact ⟨ret_bool (by first | rfl | simp), bt J6.out HB3.out⟩
  · have e1 : (E != 0) = true := by simpa using qE
    have yF := yFE qE
    clear HLN HQL HRD HX HY HST qE yFE
    go_wp2
    go_ret
    exact ⟨ret_bool (by first | rfl | simp), bt J6.out HB3.out⟩
end Go.Proofs.YtilepnepcamnaaaGreat
