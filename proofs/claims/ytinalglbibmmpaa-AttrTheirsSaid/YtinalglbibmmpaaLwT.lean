/-
  The walk of AttrTheirs: it answers true of whatever is told, of any who ask, of any path, mode, owner and group. The condition: what is told is no longer than a machine can hold.
-/
import Derived.Test.YtinalglbibmmpaaAwk
import Derived.Deep.RegionWith
namespace Go.Proofs.Ytinalglbibmmpaa
open Go Go.RowKit
set_option maxRecDepth 100000

attribute [local go_sem] cell_off4 cell_blk4
/-- The two forms of a node that is read: its seven cells. -/
theorem get_forms {g : Nat} {t : List Nd} {P : Nat → Prop} {W : World} (h : TabR W g t P) (i : Int) : Calls Try.prog 11 #[.pointer (some ⟨g, 0, none⟩), .int .i64 i] W fun e w' => ∃ A1 n1 c1 A2 n2 c2 q, e = .returned (.tuple #[.agg #[.int .i64 (tget t i).kind, .int .i64 (tget t i).mode, .int .i64 (tget t i).uid, .int .i64 (tget t i).gid, .slice A1 n1 c1, .slice A2 n2 c2, .string (bA (tget t i).target)], .bool q]) ∧ Below W.heap.size W w' := by
  refine (get_any (.pointer (some ⟨g, 0, none⟩)) t i W h.ptr).mono ?_
  rintro e w' ⟨vd, ve, rfl, hd, he, -, -, hb⟩
  obtain ⟨A1, c1, rfl⟩ := bytesT_form hd
  obtain ⟨A2, c2, rfl⟩ := entsT_form he
  exact ⟨_, _, _, _, _, _, _, rfl, hb⟩
set_option maxHeartbeats 8000000 in
theorem ltheirs_any (x0 : Int) (v1 : Value) (l : List Rw) (c : Wh) (A0 : Option Addr) (n0 k0 : Nat) (s : ByteArray) (mode uid gid : Int) (f : Bool) (w : World) (h1 : RawsR w v1 l) (hl1 : l.length ≤ maxLen) (h2 : IntsR w (.slice A0 n0 k0) c.gs) :
    Calls Try.prog 3 #[.int .i64 x0, v1, .agg #[.int .i64 c.u, .int .i64 c.g, .slice A0 n0 k0], .string s, .int .i64 mode, .int .i64 uid, .int .i64 gid, .bool f] w fun e w' => e = .returned (.bool true) ∧ Below w.heap.size w w' := by
  have hb0 := ba w (.cells #[.int .i64 c.u, .int .i64 c.g, .slice A0 n0 k0] 25)
  have hk0 := Blk.new w 25 #[.int .i64 c.u, .int .i64 c.g, .slice A0 n0 k0]
  obtain ⟨W1, hW1⟩ : ∃ W1, w.alloc (.cells #[.int .i64 c.u, .int .i64 c.g, .slice A0 n0 k0] 25) = W1 := ⟨_, rfl⟩
  rw [hW1] at hb0 hk0
  have HA := Lib.hid (awake13_any W1)
  have HR := Lib.hid (h1.below hb0)
  have HI := Lib.hid (h2.below hb0)
  have HL := Lib.hid hl1
  have HC0 := Lib.hid h2
  have HB0 := Lib.hid hb0
  have HK0 := Lib.hid hk0
  clear h1 h2 hl1 hb0 hk0
  go_enter Try.func3, Try.ntmps3
  go_wp2_with fail
  clear hW1
  refine HA.out.mono ?_
  rintro e w2 ⟨rfl, hb2⟩
  have hk2 := HK0.out.below hb2
  have HB2 := Lib.hid (bt hb2 HB0.out)
  have HK2 := Lib.hid hk2
  have HI2 := Lib.hid (HI.out.below hb2)
  have HBL := Lib.hid (built_any x0 v1 l c A0 n0 k0 w2 (HR.out.below hb2) HL.out HI2.out)
  obtain ⟨k0', k1, k2⟩ := hk2.c3
  clear hb2 HA HK0 HI HR HB0
  go_wp2_with fail
  refine HBL.out.mono ?_
  rintro e w3 ⟨hans, hb3⟩
  have HB3 := Lib.hid (bt hb3 HB2.out)
  have hk3 := HK2.out.below hb3
  have HI3 := Lib.hid (HI2.out.below hb3)
  have hkl := hk2.lt
  clear k0' k1 k2 hb3 HBL hk2
  rcases hans with ⟨rfl, -⟩ | ⟨g, T, rfl, hB, hT, hG⟩
  · clear hk3 hkl
    go_wp2
    go_ret
    exact ⟨rfl, HB3.out⟩
  have HTT := Lib.hid hT
  have HTR := Lib.hid ((tre_all hB.2).1)
  have HCR := Lib.hid (show CrR w c A0 n0 k0 from ⟨HC0.out, by have := hB.1.2; omega⟩)
  have HK3 := Lib.hid hk3
  have HGE := Lib.hid (show w.heap.size ≤ g from Nat.le_trans HB2.out.size hG)
  have HKG := Lib.hid (show w.heap.size ≠ g from Nat.ne_of_lt (Nat.lt_of_lt_of_le hkl hG))
  have HGL := Lib.hid hT.lt
  obtain ⟨k0', k1, k2⟩ := hk3.c3
  clear hT hB hk3 HK2 HI2 HB2 hG hkl HC0 HI3
  by_cases hc : 100 < s.size
  · have yc : (s.size : Int) > 100 := by omega
    clear hc
    go_wp2
    go_ret
    exact ⟨rfl, HB3.out⟩
  have yc : ¬ (s.size : Int) > 100 := by omega
  clear hc
  by_cases hcu : c.u = 0
  · have q1 : (c.u == 0) = true := by simpa using hcu
    clear hcu
    go_wp2
    go_ret
    exact ⟨rfl, HB3.out⟩
  have q1 : (c.u == 0) = false := by simpa using hcu
  have HCU := Lib.hid hcu
  clear hcu
  obtain ⟨T1, hT1⟩ : ∃ T1, chwT T c (tl s) uid gid f = T1 := ⟨_, rfl⟩
  obtain ⟨E, hE⟩ : ∃ E, chwE T c (tl s) uid gid f = E := ⟨_, rfl⟩
  obtain ⟨T2, hT2⟩ : ∃ T2, chmT T1 c (tl s) mode = T2 := ⟨_, rfl⟩
  obtain ⟨E2, hE2⟩ : ∃ E2, chmE T1 c (tl s) mode = E2 := ⟨_, rfl⟩
  have HTR1 := Lib.hid (show Trx T1 from by rw [← hT1]; exact chw_trx HTR.out c (tl s) uid gid f)
  have HTH := Lib.hid (fun (j : Int) => show (tget T1 j).uid = (tget T j).uid ∧ ((tget T j).uid ≠ c.u → (tget T1 j).mode = (tget T j).mode ∧ (tget T1 j).gid = (tget T j).gid) ∧ (E = 0 → (tget T j).gid ≠ (tget T1 j).gid → (tget T1 j).kind = 1 → (tget T1 j).mode / 2048 % 2 = 0) from by
    have h := chw_theirs (t := T) HCU.out (tl s) uid gid f j
    rw [hT1, hE] at h
    exact h)
  have HTM := Lib.hid (fun (j : Int) => show (tget T1 j).mode ≠ (tget T2 j).mode → (tget T1 j).uid = c.u ∧ (tget T2 j).kind ≠ 3 from by
    have h := chm_theirs (t := T1) HCU.out (tl s) mode j (fun hz => sta_nolink HTR1.out hz)
    rw [hT2] at h
    exact h)
  have HW1 := Lib.hid (fun (W : World) (h : TabR W g T (fun _ => True)) (hb : Below w.heap.size w W) => show Calls Try.prog 9 #[.pointer (some ⟨g, 0, none⟩), .agg #[.int .i64 c.u, .int .i64 c.g, .slice A0 n0 k0], .string s, .int .i64 uid, .int .i64 gid, .bool f] W fun e w' => e = .returned (.int .i64 E) ∧ TabR w' g T1 (fun _ => True) ∧ W.grownBy w' (some g) from by have h1 := chown_any g T (fun _ => True) c A0 n0 k0 (tl s) uid gid f W h HTR.out (HCR.out.below hb) (fun _ _ => trivial); rw [hE, hT1, bA_tl] at h1; exact h1)
  have HM1 := Lib.hid (fun (W : World) (h : TabR W g T1 (fun _ => True)) (hb : Below w.heap.size w W) => show Calls Try.prog 12 #[.pointer (some ⟨g, 0, none⟩), .agg #[.int .i64 c.u, .int .i64 c.g, .slice A0 n0 k0], .string s, .int .i64 mode] W fun e w' => e = .returned (.int .i64 E2) ∧ TabR w' g T2 (fun _ => True) ∧ W.grownBy w' (some g) from by have h1 := chmod_any g T1 (fun _ => True) c A0 n0 k0 (tl s) mode W h HTR1.out (HCR.out.below hb) (fun _ _ => trivial); rw [hE2, hT2, bA_tl] at h1; exact h1)
  clear hT1 hE hT2 hE2 HTR
  go_wp2_with fail
  refine (clone_any g T (fun _ => True) (fun _ => True) w3 HTT.out (fun _ _ => trivial)).mono ?_
  rintro e w4 ⟨rfl, hu, hb4⟩
  have HUG := Lib.hid (show w3.heap.size ≠ g from Nat.ne_of_gt HGL.out)
  generalize w3.heap.size = u at hu HUG ⊢
  have HU4 := Lib.hid hu
  have HT4 := Lib.hid (HTT.out.below hb4)
  have hk4 := HK3.out.below hb4
  have HK4 := Lib.hid hk4
  have HB4 := Lib.hid (bt hb4 HB3.out)
  clear hu hb4 k0' k1 k2
  obtain ⟨k0', k1, k2⟩ := hk4.c3
  clear hk4
  go_wp2_with fail
  refine (HW1.out w4 HT4.out HB4.out).mono ?_
  rintro e w5 ⟨rfl, ht, hgr⟩
  have HT5 := Lib.hid ht
  have HU5 := Lib.hid (show TabR w5 u T (fun _ => True) from by obtain ⟨cs, hg, -⟩ := HT4.out.blk; exact HU4.out.kind hgr HUG.out hg (by decide) (by decide))
  have HK5 := Lib.hid (HK4.out.kept hgr (some_ne HKG.out))
  have HB5 := Lib.hid (grown_bl HB4.out hgr HGE.out)
  have hL24 : T1.length ≤ 24 := ht.hi
  clear ht hgr k0' k1 k2 HW1 HT4 HU4 HK4 HTT HK3
  go_wp2
  go_loopg [22] T1.length (fun gh s22 wr => ∃ k : Nat, s22 = .int .i64 ((k : Int) + 1) ∧ k ≤ T1.length ∧ gh = T1.length - k ∧ Below w5.heap.size w5 wr)
  case atStart => exact ⟨0, by rfl, Nat.zero_le _, rfl, Below.refl _ _⟩
  case round =>
    obtain ⟨k, rfl, hk, rfl, hbr⟩ := hrel
    have HBR := Lib.hid hbr
    have HTr := Lib.hid (HT5.out.below hbr)
    have HUr := Lib.hid (HU5.out.below hbr)
    have HKr := Lib.hid (HK5.out.below hbr)
    clear hbr
    go_wp2_with fail
    refine (room_any _ T1 wr HTr.out.ptr).mono ?_
    rintro e wq ⟨rfl, rfl⟩
    by_cases hlt : k < T1.length
    · have hlt' : (k : Int) + 1 ≤ (T1.length : Int) := by omega
      have HG1 := Lib.hid (get_forms HUr.out ((k : Int) + 1))
      have HG2 := Lib.hid (fun (W : World) (hb : Below wr.heap.size wr W) => get_forms (HTr.out.below hb) ((k : Int) + 1))
      obtain ⟨r1, r2, r3⟩ := HTH.out ((k : Int) + 1)
      have HR2 := Lib.hid r2
      have HR3 := Lib.hid r3
      have HR1 := Lib.hid r1
      clear r1 r2 r3 HTM HM1
      generalize tget T ((k : Int) + 1) = a at HG1 HR1 HR2 HR3
      generalize tget T1 ((k : Int) + 1) = b at HG2 HR1 HR2 HR3
      go_wp2_with fail
      refine HG1.out.mono ?_
      rintro e wa ⟨A1, n1, c1, A2, n2, c2, q, rfl, hba⟩
      have hbx := al hba (.cells #[.int .i64 a.kind, .int .i64 a.mode, .int .i64 a.uid, .int .i64 a.gid, .slice A1 n1 c1, .slice A2 n2 c2, .string (bA a.target)] 37)
      have hka := Blk.new wa 37 #[.int .i64 a.kind, .int .i64 a.mode, .int .i64 a.uid, .int .i64 a.gid, .slice A1 n1 c1, .slice A2 n2 c2, .string (bA a.target)]
      obtain ⟨za, hza⟩ : ∃ za, wa.heap.size = za := ⟨_, rfl⟩
      obtain ⟨Wa, hWa⟩ : ∃ Wa, wa.alloc (.cells #[.int .i64 a.kind, .int .i64 a.mode, .int .i64 a.uid, .int .i64 a.gid, .slice A1 n1 c1, .slice A2 n2 c2, .string (bA a.target)] 37) = Wa := ⟨_, rfl⟩
      rw [hWa] at hbx hka
      rw [hza] at hka
      have HBa := Lib.hid hbx
      have HKa := Lib.hid hka
      clear hba hbx hka
      go_wp2_with fail
      clear hWa hza
      refine (HG2.out Wa HBa.out).mono ?_
      rintro e wb ⟨A3, n3, c3, A4, n4, c4, q2, rfl, hbb⟩
      have hbx := al hbb (.cells #[.int .i64 b.kind, .int .i64 b.mode, .int .i64 b.uid, .int .i64 b.gid, .slice A3 n3 c3, .slice A4 n4 c4, .string (bA b.target)] 37)
      have hkb := Blk.new wb 37 #[.int .i64 b.kind, .int .i64 b.mode, .int .i64 b.uid, .int .i64 b.gid, .slice A3 n3 c3, .slice A4 n4 c4, .string (bA b.target)]
      have hka := HKa.out.below hbx
      have hkc := HKr.out.below (bt hbx HBa.out)
      obtain ⟨a0, a1, a2, a3, -⟩ := hka.c7
      obtain ⟨b0, b1, b2, b3, -⟩ := hkb.c7
      obtain ⟨k0', k1, k2⟩ := hkc.c3
      have HBb := Lib.hid (bt hbx (bt HBa.out HBR.out))
      have d1 : (a.uid != b.uid) = false := by have := HR1.out; simp [this]
      clear hbb hbx hkb hka hkc
      by_cases hu : a.uid = c.u
      · have d2 : (a.uid != c.u) = false := by simp [hu]
        by_cases hE : E = 0
        · have d3 : (E == 0) = true := by simpa using hE
          by_cases hg : a.gid = b.gid
          · have d4 : (a.gid != b.gid) = false := by simp [hg]
            clear hu hE hg
            go_wp2
            go_roundg (T1.length - (k + 1))
            case measure => omega
            case rel => exact ⟨k + 1, by go_num, by omega, rfl, HBb.out⟩
          · have d4 : (a.gid != b.gid) = true := by simpa using hg
            by_cases hk1 : b.kind = 1
            · have d5 : (b.kind == 1) = true := by simpa using hk1
              have d6 : (bits .and .i64 b.mode 2048 != 0) = false := by rw [and2048, HR3.out hE hg hk1]; rfl
              clear hu hE hg hk1
              go_wp2
              go_roundg (T1.length - (k + 1))
              case measure => omega
              case rel => exact ⟨k + 1, by go_num, by omega, rfl, HBb.out⟩
            · have d5 : (b.kind == 1) = false := by simpa using hk1
              clear hu hE hg hk1
              go_wp2
              go_roundg (T1.length - (k + 1))
              case measure => omega
              case rel => exact ⟨k + 1, by go_num, by omega, rfl, HBb.out⟩
        · have d3 : (E == 0) = false := by simpa using hE
          clear hu hE
          go_wp2
          go_roundg (T1.length - (k + 1))
          case measure => omega
          case rel => exact ⟨k + 1, by go_num, by omega, rfl, HBb.out⟩
      · have d2 : (a.uid != c.u) = true := by simpa using hu
        have d3 : (a.mode != b.mode) = false := by have := (HR2.out hu).1; simp [this]
        have d4 : (a.gid != b.gid) = false := by have := (HR2.out hu).2; simp [this]
        by_cases hE : E = 0
        · have d5 : (E == 0) = true := by simpa using hE
          clear hu hE
          go_wp2
          go_roundg (T1.length - (k + 1))
          case measure => omega
          case rel => exact ⟨k + 1, by go_num, by omega, rfl, HBb.out⟩
        · have d5 : (E == 0) = false := by simpa using hE
          clear hu hE
          go_wp2
          go_roundg (T1.length - (k + 1))
          case measure => omega
          case rel => exact ⟨k + 1, by go_num, by omega, rfl, HBb.out⟩
    · have hle : ¬ (k : Int) + 1 ≤ (T1.length : Int) := by omega
      have HBz := Lib.hid (bt HBR.out HB5.out)
      clear HTH HBR HT5 HU5 HK5 HB5 HUr hlt hk
      go_wp2_with fail
      refine (clone_any g T1 (fun _ => True) (fun _ => True) wr HTr.out (fun _ _ => trivial)).mono ?_
      rintro e w6 ⟨rfl, hu, hb6⟩
      have HUG2 := Lib.hid (show wr.heap.size ≠ g from Nat.ne_of_gt HTr.out.lt)
      generalize wr.heap.size = u2 at hu HUG2 ⊢
      have HU6 := Lib.hid hu
      have HT6 := Lib.hid (HTr.out.below hb6)
      have hk6 := HKr.out.below hb6
      have HK6 := Lib.hid hk6
      have HB6 := Lib.hid (bt hb6 HBz.out)
      clear hu hb6 HTr HKr HBz
      obtain ⟨k0', k1, k2⟩ := hk6.c3
      clear hk6
      go_wp2_with fail
      refine (HM1.out w6 HT6.out HB6.out).mono ?_
      rintro e w7 ⟨rfl, ht, hgr⟩
      have HT7 := Lib.hid ht
      have HU7 := Lib.hid (show TabR w7 u2 T1 (fun _ => True) from by obtain ⟨cs, hg, -⟩ := HT6.out.blk; exact HU6.out.kind hgr HUG2.out hg (by decide) (by decide))
      have HK7 := Lib.hid (HK6.out.kept hgr (some_ne HKG.out))
      have HB7 := Lib.hid (grown_bl HB6.out hgr HGE.out)
      have hL25 : T2.length ≤ 24 := ht.hi
      clear ht hgr k0' k1 k2 HM1 HT6 HU6 HK6 HB6
      go_wp2
      go_loopg [27] T2.length (fun gh s27 wr => ∃ k : Nat, s27 = .int .i64 ((k : Int) + 1) ∧ k ≤ T2.length ∧ gh = T2.length - k ∧ Below w7.heap.size w7 wr)
      case atStart => exact ⟨0, by rfl, Nat.zero_le _, rfl, Below.refl _ _⟩
      case round =>
        obtain ⟨m, rfl, hm, rfl, hbr⟩ := hrel
        have HBR := Lib.hid hbr
        have HTr := Lib.hid (HT7.out.below hbr)
        have HUr := Lib.hid (HU7.out.below hbr)
        have HKr := Lib.hid (HK7.out.below hbr)
        clear hbr
        go_wp2_with fail
        refine (room_any _ T2 wr HTr.out.ptr).mono ?_
        rintro e wq ⟨rfl, rfl⟩
        by_cases hlt : m < T2.length
        · have hlt' : (m : Int) + 1 ≤ (T2.length : Int) := by omega
          have HG1 := Lib.hid (get_forms HUr.out ((m : Int) + 1))
          have HG2 := Lib.hid (fun (W : World) (hb : Below wr.heap.size wr W) => get_forms (HTr.out.below hb) ((m : Int) + 1))
          have HR1 := Lib.hid (HTM.out ((m : Int) + 1))
          generalize tget T1 ((m : Int) + 1) = a at HG1 HR1
          generalize tget T2 ((m : Int) + 1) = b at HG2 HR1
          go_wp2_with fail
          refine HG1.out.mono ?_
          rintro e wa ⟨A1, n1, c1, A2, n2, c2, q, rfl, hba⟩
          have hbx := al hba (.cells #[.int .i64 a.kind, .int .i64 a.mode, .int .i64 a.uid, .int .i64 a.gid, .slice A1 n1 c1, .slice A2 n2 c2, .string (bA a.target)] 37)
          have hka := Blk.new wa 37 #[.int .i64 a.kind, .int .i64 a.mode, .int .i64 a.uid, .int .i64 a.gid, .slice A1 n1 c1, .slice A2 n2 c2, .string (bA a.target)]
          obtain ⟨za, hza⟩ : ∃ za, wa.heap.size = za := ⟨_, rfl⟩
          obtain ⟨Wa, hWa⟩ : ∃ Wa, wa.alloc (.cells #[.int .i64 a.kind, .int .i64 a.mode, .int .i64 a.uid, .int .i64 a.gid, .slice A1 n1 c1, .slice A2 n2 c2, .string (bA a.target)] 37) = Wa := ⟨_, rfl⟩
          rw [hWa] at hbx hka
          rw [hza] at hka
          have HBa := Lib.hid hbx
          have HKa := Lib.hid hka
          clear hba hbx hka
          go_wp2_with fail
          clear hWa hza
          refine (HG2.out Wa HBa.out).mono ?_
          rintro e wb ⟨A3, n3, c3, A4, n4, c4, q2, rfl, hbb⟩
          have hbx := al hbb (.cells #[.int .i64 b.kind, .int .i64 b.mode, .int .i64 b.uid, .int .i64 b.gid, .slice A3 n3 c3, .slice A4 n4 c4, .string (bA b.target)] 37)
          have hkb := Blk.new wb 37 #[.int .i64 b.kind, .int .i64 b.mode, .int .i64 b.uid, .int .i64 b.gid, .slice A3 n3 c3, .slice A4 n4 c4, .string (bA b.target)]
          have hka := HKa.out.below hbx
          have hkc := HKr.out.below (bt hbx HBa.out)
          obtain ⟨a0, a1, a2, a3, -⟩ := hka.c7
          obtain ⟨b0, b1, b2, b3, -⟩ := hkb.c7
          obtain ⟨k0', k1, k2⟩ := hkc.c3
          have HBb := Lib.hid (bt hbx (bt HBa.out HBR.out))
          clear hbb hbx hkb hka hkc
          by_cases hmm : a.mode = b.mode
          · have d1 : (a.mode != b.mode) = false := by simp [hmm]
            clear hmm
            go_wp2
            go_roundg (T2.length - (m + 1))
            case measure => omega
            case rel => exact ⟨m + 1, by go_num, by omega, rfl, HBb.out⟩
          · have d1 : (a.mode != b.mode) = true := by simpa using hmm
            have d2 : (a.uid != c.u) = false := by have := (HR1.out hmm).1; simp [this]
            have d3 : (b.kind == 3) = false := by have := (HR1.out hmm).2; simpa using this
            clear hmm
            go_wp2
            go_roundg (T2.length - (m + 1))
            case measure => omega
            case rel => exact ⟨m + 1, by go_num, by omega, rfl, HBb.out⟩
        · have hle2 : ¬ (m : Int) + 1 ≤ (T2.length : Int) := by omega
          have HBz := Lib.hid (bt HBR.out HB7.out)
          go_wp2
          go_ret
          exact ⟨rfl, HBz.out⟩
end Go.Proofs.Ytinalglbibmmpaa
