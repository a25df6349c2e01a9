/-
  The walk of AttrRoot: it answers true of whatever is told, of any path, mode and owners. The condition: what is told is no longer than a machine can hold.
-/
import Derived.Test.YtinalglbibmmpaaAwk
namespace Go.Proofs.Ytinalglbibmmpaa
open Go Go.RowKit
set_option maxRecDepth 100000

attribute [local go_sem] cell_off4 cell_blk4
set_option maxHeartbeats 8000000 in
theorem lroot_any (x0 : Int) (v1 : Value) (l : List Rw) (s : ByteArray) (mo ui gi : Int) (w : World) (h1 : RawsR w v1 l) (hl1 : l.length ≤ maxLen) (hm : 0 ≤ mo ∧ mo ≤ 65535) (hu : 0 ≤ ui ∧ ui ≤ 65535) (hg : 0 ≤ gi ∧ gi ≤ 65535) :
    Calls Try.prog 5 #[.int .i64 x0, v1, .string s, .int .u16 mo, .int .u16 ui, .int .u16 gi] w fun e w' => e = .returned (.bool true) ∧ Below w.heap.size w w' := by
  have HA := Lib.hid (awake13_any w)
  have HR := Lib.hid h1
  have HL := Lib.hid hl1
  have HM := Lib.hid hm
  have HU := Lib.hid hu
  have HG := Lib.hid hg
  clear h1 hl1
  go_enter Try.func5, Try.ntmps5
  go_wp2_with fail
  refine HA.out.mono ?_
  rintro e w2 ⟨rfl, hb2⟩
  have HB2 := Lib.hid hb2
  clear hb2 HA
  obtain ⟨k0', k1, k2⟩ := (Blk.new w2 25 #[.int .i64 0, .int .i64 0, .slice none 0 0]).c3
  go_wp2_with fail
  have HB3 := Lib.hid (bt (ba w2 (.cells #[.int .i64 0, .int .i64 0, .slice none 0 0] 25)) HB2.out)
  have HK3 := Lib.hid (Blk.new w2 25 #[.int .i64 0, .int .i64 0, .slice none 0 0])
  generalize w2.alloc (.cells #[.int .i64 0, .int .i64 0, .slice none 0 0] 25) = W3 at HB3 HK3 k0' k1 k2 ⊢
  generalize w2.heap.size = kb at HK3 k0' k1 k2 ⊢
  have HBL := Lib.hid (show Calls Try.prog 7 #[.int .i64 x0, v1, .agg #[.int .i64 0, .int .i64 0, .slice none 0 0]] W3 fun e w' => BltAns W3 x0 l wh0 e w' ∧ Below W3.heap.size W3 w' from built_any x0 v1 l wh0 none 0 0 W3 (HR.out.below HB3.out) HL.out (IntsR.nil _))
  clear HR
  refine HBL.out.mono ?_
  rintro e w4 ⟨hans, hb4⟩
  have HB4 := Lib.hid (bt hb4 HB3.out)
  have hk4 := HK3.out.below hb4
  have hkl := HK3.out.lt
  clear k0' k1 k2 hb4 HBL
  rcases hans with ⟨rfl, -⟩ | ⟨g, T, rfl, hB, hT, hG⟩
  · clear hk4 hkl
    go_wp2
    go_ret
    exact ⟨rfl, HB4.out⟩
  have HTT := Lib.hid hT
  have HTR := Lib.hid ((tre_all hB.2).1)
  have HK4 := Lib.hid hk4
  have HGE := Lib.hid (show w.heap.size ≤ g from Nat.le_trans HB3.out.size hG)
  have HKG := Lib.hid (show kb ≠ g from Nat.ne_of_lt (Nat.lt_of_lt_of_le hkl hG))
  have HGL := Lib.hid hT.lt
  obtain ⟨k0', k1, k2⟩ := hk4.c3
  clear hT hB hk4 HK3 hG hkl
  by_cases ha : 100 < s.size
  · have ya : (s.size : Int) > 100 := by omega
    clear ha
    go_wp2
    go_ret
    exact ⟨rfl, HB4.out⟩
  have ya : ¬ (s.size : Int) > 100 := by omega
  clear ha
  obtain ⟨XE, hXE⟩ : ∃ XE, staM T wh0 (tl s) true = XE := ⟨_, rfl⟩
  obtain ⟨X, E⟩ := XE
  have HXS := Lib.hid (show ∀ W, Below w4.heap.size w4 W → Calls Try.prog 13 #[.pointer (some ⟨g, 0, none⟩), .agg #[.int .i64 0, .int .i64 0, .slice none 0 0], .string s] W fun e w' => e = .returned (.tuple #[.agg #[.int .i64 X.node, .int .i64 X.kind, .int .i64 X.mode, .int .i64 X.uid, .int .i64 X.gid, .int .i64 X.links, .int .i64 X.size], .int .i64 E]) ∧ Below W.heap.size W w' from fun W hb => by have h1 := stat_any (.pointer (some ⟨g, 0, none⟩)) T wh0 none 0 0 (tl s) W (HTT.out.below hb).ptr (crr_nil W wh0 rfl) (X, E) hXE; rw [bA_tl] at h1; exact h1)
  obtain ⟨m, hmo⟩ : ∃ m, mo % 4096 = m := ⟨_, rfl⟩
  have HM2 := Lib.hid (show 0 ≤ m ∧ m ≤ 4095 from by rw [← hmo]; omega)
  have hmt : mo.tmod 4096 = m := by rw [← hmo]; exact Int.tmod_eq_emod_of_nonneg hm.1
  have HRS := (root_sets (t := T) (p := tl s) HM2.out.1 HM2.out.2 HU.out.1 HU.out.2 HG.out.1 HG.out.2)
  obtain ⟨T1, hT1⟩ : ∃ T1, chmT T wh0 (tl s) m = T1 := ⟨_, rfl⟩
  have HTR1 := chm_trx HTR.out wh0 (tl s) m
  rw [hT1] at HRS HTR1
  obtain ⟨T2, hT2⟩ : ∃ T2, chwT T1 wh0 (tl s) ui gi true = T2 := ⟨_, rfl⟩
  rw [hXE, hT2] at HRS
  obtain ⟨r1, r2, r3⟩ := HRS
  have HX1 := Lib.hid (fun (W : World) (h : TabR W g T (fun _ => True)) => show Calls Try.prog 12 #[.pointer (some ⟨g, 0, none⟩), .agg #[.int .i64 0, .int .i64 0, .slice none 0 0], .string s, .int .i64 m] W fun e w' => e = .returned (.int .i64 E) ∧ TabR w' g T1 (fun _ => True) ∧ W.grownBy w' (some g) from by have h1 := chmod_any g T (fun _ => True) wh0 none 0 0 (tl s) m W h HTR.out (crr_nil W wh0 rfl) (fun _ _ => trivial); rw [r1, hT1, bA_tl] at h1; exact h1)
  have HX2 := Lib.hid (fun (W : World) (h : TabR W g T1 (fun _ => True)) => show Calls Try.prog 9 #[.pointer (some ⟨g, 0, none⟩), .agg #[.int .i64 0, .int .i64 0, .slice none 0 0], .string s, .int .i64 ui, .int .i64 gi, .bool true] W fun e w' => e = .returned (.int .i64 E) ∧ TabR w' g T2 (fun _ => True) ∧ W.grownBy w' (some g) from by have h1 := chown_any g T1 (fun _ => True) wh0 none 0 0 (tl s) ui gi true W h HTR1 (crr_nil W wh0 rfl) (fun _ _ => trivial); rw [r2, hT2, bA_tl] at h1; exact h1)
  have HX3 := Lib.hid (fun (h : E = 0) (W : World) (ht : TabR W g T2 (fun _ => True)) => show Calls Try.prog 11 #[.pointer (some ⟨g, 0, none⟩), .int .i64 X.node] W fun e w' => ∃ kk A1 n1 c1 A2 n2 c2 tg q, e = .returned (.tuple #[.agg #[.int .i64 kk, .int .i64 m, .int .i64 ui, .int .i64 gi, .slice A1 n1 c1, .slice A2 n2 c2, .string tg], .bool q]) ∧ Below W.heap.size W w' from by
    have h1 := get_any (.pointer (some ⟨g, 0, none⟩)) T2 X.node W ht.ptr
    obtain ⟨e1, e2, e3⟩ := r3 h
    refine h1.mono ?_
    rintro e w' ⟨vd, ve, rfl, hd, he, -, -, hb⟩
    obtain ⟨A1, c1, rfl⟩ := bytesT_form hd
    obtain ⟨A2, c2, rfl⟩ := entsT_form he
    unfold nodeV
    rw [e1, e2, e3]
    exact ⟨_, _, _, _, _, _, _, _, _, rfl, hb⟩)
  clear r1 r2 r3 hT1 hT2 hXE HTR1
  go_wp2_with fail
  refine (HXS.out w4 (Below.refl _ _)).mono ?_
  rintro e w5 ⟨rfl, hb5⟩
  have hbx := al hb5 (.cells #[.int .i64 X.node, .int .i64 X.kind, .int .i64 X.mode, .int .i64 X.uid, .int .i64 X.gid, .int .i64 X.links, .int .i64 X.size] 44)
  have hs6 := Blk.new w5 44 #[.int .i64 X.node, .int .i64 X.kind, .int .i64 X.mode, .int .i64 X.uid, .int .i64 X.gid, .int .i64 X.links, .int .i64 X.size]
  have HZG := Lib.hid (show w5.heap.size ≠ g from Nat.ne_of_gt (Nat.lt_of_lt_of_le HGL.out hb5.size))
  obtain ⟨z, hz⟩ : ∃ z, w5.heap.size = z := ⟨_, rfl⟩
  obtain ⟨W6, hW6⟩ : ∃ W6, w5.alloc (.cells #[.int .i64 X.node, .int .i64 X.kind, .int .i64 X.mode, .int .i64 X.uid, .int .i64 X.gid, .int .i64 X.links, .int .i64 X.size] 44) = W6 := ⟨_, rfl⟩
  rw [hW6] at hbx hs6
  rw [hz] at hs6 HZG
  have HB6 := Lib.hid (bt hbx HB4.out)
  have HT6 := Lib.hid (HTT.out.below hbx)
  have hk6 := HK4.out.below hbx
  have HK6 := Lib.hid hk6
  have HS6 := Lib.hid hs6
  clear k0' k1 k2
  obtain ⟨k0', k1, k2⟩ := hk6.c3
  clear hb5 hbx hs6 hk6 HXS
  go_wp2_with fail
  clear hW6 hz hmo hmt
  refine (HX1.out W6 HT6.out).mono ?_
  rintro e w7 ⟨rfl, ht7, hg7⟩
  have HB7 := Lib.hid (grown_bl HB6.out hg7 HGE.out)
  have hk7 := HK6.out.kept hg7 (some_ne HKG.out)
  have HK7 := Lib.hid hk7
  have HS7 := Lib.hid (HS6.out.kept hg7 (some_ne HZG.out))
  have HT7 := Lib.hid ht7
  clear k0' k1 k2
  obtain ⟨k0', k1, k2⟩ := hk7.c3
  clear ht7 hg7 hk7
  go_wp2_with fail
  refine (HX2.out w7 HT7.out).mono ?_
  rintro e w8 ⟨rfl, ht8, hg8⟩
  have HB8 := Lib.hid (grown_bl HB7.out hg8 HGE.out)
  have hs8 := HS7.out.kept hg8 (some_ne HZG.out)
  have HT8 := Lib.hid ht8
  clear ht8 hg8 k0' k1 k2
  by_cases qE : E = 0
  · have q1 : (E != 0) = false := by simpa using qE
    have q2 : (E == 0) = true := by simpa using qE
    have HGT := Lib.hid (HX3.out qE w8 HT8.out)
    obtain ⟨p0, p1, p2, p3, p4, p5, p6⟩ := hs8.c7
    have y1 : (m == m) = true := by simp
    have y2 : (ui == ui) = true := by simp
    have y3 : (gi == gi) = true := by simp
    clear qE hs8
    go_wp2_with fail
    refine HGT.out.mono ?_
    rintro e w9 ⟨kk, A1, n1, c1, A2, n2, c2, tg, q, rfl, hb9⟩
    have hkn := Blk.new w9 37 #[.int .i64 kk, .int .i64 m, .int .i64 ui, .int .i64 gi, .slice A1 n1 c1, .slice A2 n2 c2, .string tg]
    have HB9 := Lib.hid (bt (al hb9 (.cells #[.int .i64 kk, .int .i64 m, .int .i64 ui, .int .i64 gi, .slice A1 n1 c1, .slice A2 n2 c2, .string tg] 37)) HB8.out)
    clear p0 p1 p2 p3 p4 p5 p6
    obtain ⟨p0, p1, p2, p3, p4, p5, p6⟩ := hkn.c7
    clear hb9 hkn
    go_wp2
    go_ret
    exact ⟨ret_bool (by first | rfl | simp), HB9.out⟩
  · have q1 : (E != 0) = true := by simpa using qE
    have y0 : (E == E) = true := by simp
    clear qE hs8
    go_wp2
    go_ret
    exact ⟨ret_bool (by first | rfl | simp), HB8.out⟩
end Go.Proofs.Ytinalglbibmmpaa
