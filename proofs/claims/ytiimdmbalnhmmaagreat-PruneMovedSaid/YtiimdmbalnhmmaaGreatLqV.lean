/-
  The walk of PruneMoved: it answers true of whatever is told, and of any paths. The conditions: what is told is no longer than a machine can hold; what is said of package prune.
-/
import Derived.Test.YtiimdmbalnhmmaaGreatAwR
import Derived.Deep.RegionHeld3
import Derived.Deep.DeepCutAuto
namespace Go.Proofs.YtiimdmbalnhmmaaGreat
open Go Go.RowKit
set_option maxRecDepth 100000

attribute [local go_sem] cell_off4 cell_blk4
/-- A node that is read, cell by cell, and where its lists lie. -/
theorem get_formsV {g : Nat} {t : List Nd} {P : Nat → Prop} {W : World} (h : TabR W g t P) (i : Int) (n : Nd) (hn : tget t i = n) : Calls Tryz.prog 28 #[.pointer (some ⟨g, 0, none⟩), .int .i64 i] W fun e w' => ∃ A1 n1 c1 A2 n2 c2 q, e = .returned (.tuple #[.agg #[.int .i64 n.kind, .int .i64 n.mode, .int .i64 n.uid, .int .i64 n.gid, .slice A1 n1 c1, .slice A2 n2 c2, .string (bA n.target)], .bool q]) ∧ (BytesT w' (.slice A1 n1 c1) n.data ∧ EntsT w' (.slice A2 n2 c2) n.ents) ∧ Below W.heap.size W w' := by
  refine (get_any (.pointer (some ⟨g, 0, none⟩)) t i W h.ptr).mono ?_
  rintro e w' ⟨vd, ve, rfl, hd, he, -, -, hb⟩
  rw [hn] at hd he ⊢
  obtain ⟨A1, c1, rfl⟩ := bytesT_form hd
  obtain ⟨A2, c2, rfl⟩ := entsT_form he
  exact ⟨_, _, _, _, _, _, _, rfl, ⟨hd, he⟩, hb⟩
set_option maxHeartbeats 32000000 in
theorem lmoved_any (HPC : PruneC) (x0 : Int) (v1 : Value) (l : List Rw) (s r : ByteArray) (w : World) (h1 : RawsR w v1 l) (hl1 : l.length ≤ maxLen) :
    Calls Tryz.prog 6 #[.int .i64 x0, v1, .string s, .string r] w fun e w' => e = .returned (.bool true) ∧ Below w.heap.size w w' := by
  have HA := Lib.hid (awk15_any HPC w)
  have HR := Lib.hid h1
  have HL := Lib.hid hl1
  clear h1 hl1
  go_enter Tryz.func6, Tryz.ntmps6
  go_wp2_with fail
  refine HA.out.mono ?_
  rintro e w2 ⟨rfl, hb2⟩
  have HB2 := Lib.hid hb2
  have HBL := Lib.hid (show Calls Tryz.prog 9 #[.int .i64 x0, v1, .agg #[.int .i64 0, .int .i64 0, .slice none 0 0]] w2 fun e w' => BltAns w2 x0 l wh0 e w' ∧ Below w2.heap.size w2 w' from built_any x0 v1 l wh0 none 0 0 w2 (HR.out.below hb2) HL.out (IntsR.nil _))
  clear hb2 HA HR
  go_wp2_with fail
  refine HBL.out.mono ?_
  rintro e w3 ⟨hans, hb3⟩
  have HB3 := Lib.hid (bt hb3 HB2.out)
  clear hb3 HBL
  rcases hans with ⟨rfl, -⟩ | ⟨g, T, rfl, hB, hT, hG⟩
  · go_wp2
    go_ret
    exact ⟨rfl, HB3.out⟩
  have HTT := Lib.hid hT
  have HTR := Lib.hid (tre_trx (tre_all hB.2).1)
  have HGE := Lib.hid (show w.heap.size ≤ g from Nat.le_trans HB2.out.size hG)
  have HGL := Lib.hid hT.lt
  clear hT hB hG HB2
  by_cases hc : 60 < s.size
  · have yc : (s.size : Int) > 60 := by omega
    clear hc
    go_wp2
    go_ret
    exact ⟨rfl, HB3.out⟩
  have yc : ¬ (s.size : Int) > 60 := by omega
  by_cases hd : 60 < r.size
  · have yd : (r.size : Int) > 60 := by omega
    clear hd
    go_wp2
    go_ret
    exact ⟨rfl, HB3.out⟩
  have yd : ¬ (r.size : Int) > 60 := by omega
  clear hc hd
  obtain ⟨SA, hSA⟩ : ∃ X, staM T wh0 (tl s) false = X := ⟨_, rfl⟩
  obtain ⟨SB, hSB⟩ : ∃ X, staM T wh0 (tl r) false = X := ⟨_, rfl⟩
  obtain ⟨S1, EA⟩ := SA
  obtain ⟨S2, EB⟩ := SB
  obtain ⟨T1, hT1⟩ : ∃ T1, mvT T wh0 (resM T wh0 (tl s) false) (resM T wh0 (tl r) false) [] = T1 := ⟨_, rfl⟩
  obtain ⟨E, hE⟩ : ∃ E, mvE T wh0 (resM T wh0 (tl s) false) (resM T wh0 (tl r) false) = E := ⟨_, rfl⟩
  have hMV : E = 0 → Movd T T1 wh0 (tl s) (tl r) (S1, EA) (S2, EB) := fun q => by have h := moved_all HTR.out (c := wh0) (p := tl s) (q := tl r) (by rw [hE]; exact q); rw [hT1, hSA, hSB] at h; exact h
  have hT1T : Tre T1 := by rw [← hT1]; exact mv_tre HTR.out wh0 (tl s) (tl r)
  have HMV := Lib.hid hMV
  have HT1T := Lib.hid hT1T
  have HLA := Lib.hid (fun (W : World) (h : TabR W g T (fun _ => True)) => show Calls Tryz.prog 30 #[.pointer (some ⟨g, 0, none⟩), .agg #[.int .i64 0, .int .i64 0, .slice none 0 0], .string s] W fun e w' => e = .returned (.tuple #[.agg #[.int .i64 S1.node, .int .i64 S1.kind, .int .i64 S1.mode, .int .i64 S1.uid, .int .i64 S1.gid, .int .i64 S1.links, .int .i64 S1.size], .int .i64 EA]) ∧ Below W.heap.size W w' from by have h1 := lstat_any (.pointer (some ⟨g, 0, none⟩)) T wh0 none 0 0 (tl s) W h.ptr (crr_none W wh0 rfl) (S1, EA) hSA; rw [bA_tl] at h1; exact h1)
  have HLB := Lib.hid (fun (W : World) (h : TabR W g T (fun _ => True)) => show Calls Tryz.prog 30 #[.pointer (some ⟨g, 0, none⟩), .agg #[.int .i64 0, .int .i64 0, .slice none 0 0], .string r] W fun e w' => e = .returned (.tuple #[.agg #[.int .i64 S2.node, .int .i64 S2.kind, .int .i64 S2.mode, .int .i64 S2.uid, .int .i64 S2.gid, .int .i64 S2.links, .int .i64 S2.size], .int .i64 EB]) ∧ Below W.heap.size W w' from by have h1 := lstat_any (.pointer (some ⟨g, 0, none⟩)) T wh0 none 0 0 (tl r) W h.ptr (crr_none W wh0 rfl) (S2, EB) hSB; rw [bA_tl] at h1; exact h1)
  have HRN := Lib.hid (fun (W : World) (h : TabR W g T (fun _ => True)) => show Calls Tryz.prog 23 #[.pointer (some ⟨g, 0, none⟩), .agg #[.int .i64 0, .int .i64 0, .slice none 0 0], .string s, .string r, .slice none 0 0] W fun e w' => e = .returned (.int .i64 E) ∧ TabR w' g T1 (fun _ => True) ∧ W.grownBy w' (some g) from by have h1 := HPC.rn g T (fun _ => True) wh0 none 0 0 (tl s) (tl r) [] none 0 0 W h HTR.out (crr_none W wh0 rfl) (IntsR.nil W) (by decide) (off_nil none g) (off_nil none g) (fun _ _ => trivial); rw [hE, hT1, bA_tl, bA_tl] at h1; exact h1)
  obtain ⟨E4, hE4⟩ : ∃ E, mvE T1 wh0 (resM T1 wh0 (tl r) false) (resM T1 wh0 (tl s) false) = E := ⟨_, rfl⟩
  obtain ⟨T4, hT4⟩ : ∃ T4, mvT T1 wh0 (resM T1 wh0 (tl r) false) (resM T1 wh0 (tl s) false) [] = T4 := ⟨_, rfl⟩
  have HRB := Lib.hid (fun (W : World) (h : TabR W g T1 (fun _ => True)) => show Calls Tryz.prog 23 #[.pointer (some ⟨g, 0, none⟩), .agg #[.int .i64 0, .int .i64 0, .slice none 0 0], .string r, .string s, .slice none 0 0] W fun e w' => e = .returned (.int .i64 E4) ∧ TabR w' g T4 (fun _ => True) ∧ W.grownBy w' (some g) from by have h1 := HPC.rn g T1 (fun _ => True) wh0 none 0 0 (tl r) (tl s) [] none 0 0 W h HT1T.out (crr_none W wh0 rfl) (IntsR.nil W) (by decide) (off_nil none g) (off_nil none g) (fun _ _ => trivial); rw [hE4, hT4, bA_tl, bA_tl] at h1; exact h1)
  have HBK := Lib.hid (show E = 0 → EB ≠ 0 → E4 = 0 → T4 = T from fun q h2 h3 => by have h := (HMV.out q).back h2; rw [hE4, hT4] at h; exact h h3)
  clear hMV hT1T hSA hSB hT1 hE hE4 hT4
  have hb4 := ba w3 (.cells #[.int .i64 0, .int .i64 0, .slice none 0 0] 25)
  have hk4 := Blk.new w3 25 #[.int .i64 0, .int .i64 0, .slice none 0 0]
  have HKG := Lib.hid (show w3.heap.size ≠ g from Nat.ne_of_gt HGL.out)
  go_wp2_with fail
  obtain ⟨kb, hkb⟩ : ∃ z, w3.heap.size = z := ⟨_, rfl⟩
  obtain ⟨w4, hw4⟩ : ∃ W, w3.alloc (.cells #[.int .i64 0, .int .i64 0, .slice none 0 0] 25) = W := ⟨_, rfl⟩
  rw [hw4] at hb4 hk4 ⊢
  rw [hkb] at hk4 HKG ⊢
  have HT4 := Lib.hid (HTT.out.below hb4)
  have HK4 := Lib.hid hk4
  have HB4 := Lib.hid (bt hb4 HB3.out)
  have HWK := Lib.hid (show w.heap.size ≤ kb from by have h1 := HB3.out.size; omega)
  clear hb4 hk4 hw4 hkb HTT HB3
  refine (clone_any g T (fun _ => True) (fun _ => True) w4 HT4.out (fun _ _ => trivial)).mono ?_
  rintro e w5 ⟨rfl, hu, hb5⟩
  have HUG := Lib.hid (show w4.heap.size ≠ g from Nat.ne_of_gt HT4.out.lt)
  obtain ⟨u, hu'⟩ : ∃ u, w4.heap.size = u := ⟨_, rfl⟩
  rw [hu'] at hu HUG ⊢
  have HU5 := Lib.hid hu
  have HT5 := Lib.hid (HT4.out.below hb5)
  have HK5 := Lib.hid (HK4.out.below hb5)
  have HB5 := Lib.hid (bt hb5 HB4.out)
  obtain ⟨k0, k1, k2⟩ := HK5.out.c3
  clear hu hb5 hu' HT4 HK4 HB4
  go_wp2_with fail
  refine (HLA.out w5 HT5.out).mono ?_
  rintro e w6 ⟨rfl, hb6⟩
  have hbx := al hb6 (.cells #[.int .i64 S1.node, .int .i64 S1.kind, .int .i64 S1.mode, .int .i64 S1.uid, .int .i64 S1.gid, .int .i64 S1.links, .int .i64 S1.size] 65)
  have hs := Blk.new w6 65 #[.int .i64 S1.node, .int .i64 S1.kind, .int .i64 S1.mode, .int .i64 S1.uid, .int .i64 S1.gid, .int .i64 S1.links, .int .i64 S1.size]
  have HZG := Lib.hid (show w6.heap.size ≠ g from Nat.ne_of_gt (HT5.out.below hb6).lt)
  obtain ⟨W6, hW6⟩ : ∃ W, w6.alloc (.cells #[.int .i64 S1.node, .int .i64 S1.kind, .int .i64 S1.mode, .int .i64 S1.uid, .int .i64 S1.gid, .int .i64 S1.links, .int .i64 S1.size] 65) = W := ⟨_, rfl⟩
  obtain ⟨za, hza⟩ : ∃ z, w6.heap.size = z := ⟨_, rfl⟩
  rw [hW6] at hbx hs
  rw [hza] at hs HZG
  have HA6 := Lib.hid hs
  have HU6 := Lib.hid (HU5.out.below hbx)
  have HT6 := Lib.hid (HT5.out.below hbx)
  have HK6 := Lib.hid (HK5.out.below hbx)
  have HB6 := Lib.hid (bt hbx HB5.out)
  clear k0 k1 k2 hb6 hbx hs HU5 HT5 HK5 HB5
  obtain ⟨k0, k1, k2⟩ := HK6.out.c3
  go_wp2_with fail
  clear hW6 hza
  refine (HLB.out W6 HT6.out).mono ?_
  rintro e w7 ⟨rfl, hb7⟩
  have hbx := al hb7 (.cells #[.int .i64 S2.node, .int .i64 S2.kind, .int .i64 S2.mode, .int .i64 S2.uid, .int .i64 S2.gid, .int .i64 S2.links, .int .i64 S2.size] 65)
  have hs := Blk.new w7 65 #[.int .i64 S2.node, .int .i64 S2.kind, .int .i64 S2.mode, .int .i64 S2.uid, .int .i64 S2.gid, .int .i64 S2.links, .int .i64 S2.size]
  have HYG := Lib.hid (show w7.heap.size ≠ g from Nat.ne_of_gt (HT6.out.below hb7).lt)
  obtain ⟨W7, hW7⟩ : ∃ W, w7.alloc (.cells #[.int .i64 S2.node, .int .i64 S2.kind, .int .i64 S2.mode, .int .i64 S2.uid, .int .i64 S2.gid, .int .i64 S2.links, .int .i64 S2.size] 65) = W := ⟨_, rfl⟩
  obtain ⟨zb, hzb⟩ : ∃ z, w7.heap.size = z := ⟨_, rfl⟩
  rw [hW7] at hbx hs
  rw [hzb] at hs HYG
  have HS7 := Lib.hid hs
  have HA7 := Lib.hid (HA6.out.below hbx)
  have HU7 := Lib.hid (HU6.out.below hbx)
  have HT7 := Lib.hid (HT6.out.below hbx)
  have HK7 := Lib.hid (HK6.out.below hbx)
  have HB7 := Lib.hid (bt hbx HB6.out)
  clear k0 k1 k2 hb7 hbx hs HU6 HT6 HK6 HB6 HA6
  obtain ⟨k0, k1, k2⟩ := HK7.out.c3
  go_wp2_with fail
  clear hW7 hzb
  refine (HRN.out W7 HT7.out).mono ?_
  rintro e w8 ⟨rfl, ht, hgr⟩
  have HT8 := Lib.hid ht
  have HU8 := Lib.hid (show TabR w8 u T (fun _ => True) from by obtain ⟨cs, hg, -⟩ := HT7.out.blk; exact HU7.out.kind hgr HUG.out hg (by decide) (by decide))
  have HA8 := Lib.hid (HA7.out.kept hgr (some_ne HZG.out))
  have HS8 := Lib.hid (HS7.out.kept hgr (some_ne HYG.out))
  have HK8 := Lib.hid (HK7.out.kept hgr (some_ne HKG.out))
  have HB8 := Lib.hid (grown_bl HB7.out hgr HGE.out)
  clear ht hgr k0 k1 k2 HT7 HU7 HA7 HS7 HK7 HB7 HLA HLB HRN
  obtain ⟨k0, k1, k2⟩ := HK8.out.c3
  obtain ⟨a0, a1, a2, a3, a4, a5, a6⟩ := HA8.out.c7
  obtain ⟨b0, b1, b2, b3, b4, b5, b6⟩ := HS8.out.c7
  by_cases qE : E = 0
  case neg =>
    have yE : (E != 0) = true := by simpa using qE
    clear qE
    go_wp2
    go_ret
    exact ⟨rfl, HB8.out⟩
  have yE : (E != 0) = false := by simpa using qE
  have HM := Lib.hid (HMV.out qE)
  have HBK2 := Lib.hid (HBK.out qE)
  clear qE HMV HBK
  have yA : EA = 0 := HM.out.good
  subst yA
  have HSM := Lib.hid (fun (q : T1 = T) (W : World) (hb : Below w8.heap.size w8 W) => show Calls Tryz.prog 24 #[.pointer (some ⟨g, 0, none⟩), .pointer (some ⟨u, 0, none⟩)] W fun e w' => e = .returned (.bool true) ∧ Below W.heap.size W w' from by have h := tsame_any (.pointer (some ⟨g, 0, none⟩)) (.pointer (some ⟨u, 0, none⟩)) T1 T W (HT8.out.below hb).ptr (HU8.out.below hb).ptr; rw [q, show toB (sam24 T T) = true from toB_true (fun _ _ => rfl)] at h; exact h)
  by_cases qS : EB = 0 ∧ S1.node = S2.node
  · obtain ⟨q1, q2⟩ := qS
    have y1 : (EB == 0) = true := by simpa using q1
    have y2 : (S1.node == S2.node) = true := by simpa using q2
    have HSA := Lib.hid (HSM.out (HM.out.same q1 q2) w8 (Below.refl _ _))
    clear q1 q2 HSM
    go_wp2_with fail
    refine HSA.out.mono ?_
    rintro e w9 ⟨rfl, hb⟩
    have HB9 := Lib.hid (bt hb HB8.out)
    clear hb
    go_wp2
    go_ret
    exact ⟨ret_bool (by first | rfl | simp), HB9.out⟩
  obtain ⟨n, hn⟩ : ∃ n, tget T S1.node = n := ⟨_, rfl⟩
  obtain ⟨LK, hLK⟩ : ∃ L, linkT T S1.node = L := ⟨_, rfl⟩
  have hNL := HM.out.node qS
  have hOV := HM.out.over qS
  rw [hn, hLK] at hNL
  have HF := Lib.hid (show Few n from by rw [← hn]; exact ok_few HTR.out.ok _)
  have HG1 := Lib.hid (get_formsV HT8.out S1.node n hNL.1)
  have HG2 := Lib.hid (fun (W : World) (hb : Below w8.heap.size w8 W) => get_formsV (HU8.out.below hb) S1.node n hn)
  have HL1 := Lib.hid (fun (W : World) (hb : Below w8.heap.size w8 W) => show Calls Tryz.prog 31 #[.pointer (some ⟨g, 0, none⟩), .int .i64 S1.node] W fun e w' => e = .returned (.int .i64 (LK : Int)) ∧ Below W.heap.size W w' from by have h := links_any (.pointer (some ⟨g, 0, none⟩)) T1 S1.node W (HT8.out.below hb).ptr; rw [hNL.2] at h; exact h)
  have HL2 := Lib.hid (fun (W : World) (hb : Below w8.heap.size w8 W) => show Calls Tryz.prog 31 #[.pointer (some ⟨u, 0, none⟩), .int .i64 S1.node] W fun e w' => e = .returned (.int .i64 (LK : Int)) ∧ Below W.heap.size W w' from by have h := links_any (.pointer (some ⟨u, 0, none⟩)) T S1.node W (HU8.out.below hb).ptr; rw [hLK] at h; exact h)
  obtain ⟨L2, hL2⟩ : ∃ L, linkT T1 S2.node = L := ⟨_, rfl⟩
  have HL3 := Lib.hid (fun (W : World) (hb : Below w8.heap.size w8 W) => show Calls Tryz.prog 31 #[.pointer (some ⟨g, 0, none⟩), .int .i64 S2.node] W fun e w' => e = .returned (.int .i64 (L2 : Int)) ∧ Below W.heap.size W w' from by have h := links_any (.pointer (some ⟨g, 0, none⟩)) T1 S2.node W (HT8.out.below hb).ptr; rw [hL2] at h; exact h)
  have HL4 := Lib.hid (fun (q : EB = 0) (W : World) (hb : Below w8.heap.size w8 W) => show Calls Tryz.prog 31 #[.pointer (some ⟨u, 0, none⟩), .int .i64 S2.node] W fun e w' => e = .returned (.int .i64 ((L2 : Int) + 1)) ∧ Below W.heap.size W w' from by have h := links_any (.pointer (some ⟨u, 0, none⟩)) T S2.node W (HU8.out.below hb).ptr; rw [← hOV q, hL2] at h; exact h)
  have hLB : L2 ≤ 192 := by rw [← hL2]; exact link_bd2 HT1T.out.ok HT8.out.ptr.ok.2 S2.node
  have HQS := Lib.hid qS
  clear qS hn hLK hNL hOV hL2
  by_cases q1 : EB = 0
  · have y1 : (EB == 0) = true := by simpa using q1
    have y2 : (S1.node == S2.node) = false := by have h := HQS.out; simpa using fun z => h ⟨q1, z⟩
    go_wp2_with fail
    refine HG1.out.mono ?_
    rintro e w9 ⟨A1, m1, c1, B1, l1, d1, q9, rfl, hl9, hb9⟩
    have hbx := al hb9 (.cells #[.int .i64 n.kind, .int .i64 n.mode, .int .i64 n.uid, .int .i64 n.gid, .slice A1 m1 c1, .slice B1 l1 d1, .string (bA n.target)] 59)
    have hkx := Blk.new w9 59 #[.int .i64 n.kind, .int .i64 n.mode, .int .i64 n.uid, .int .i64 n.gid, .slice A1 m1 c1, .slice B1 l1 d1, .string (bA n.target)]
    have hl1 : BytesT (w9.alloc (.cells #[.int .i64 n.kind, .int .i64 n.mode, .int .i64 n.uid, .int .i64 n.gid, .slice A1 m1 c1, .slice B1 l1 d1, .string (bA n.target)] 59)) (.slice A1 m1 c1) n.data ∧ EntsT (w9.alloc (.cells #[.int .i64 n.kind, .int .i64 n.mode, .int .i64 n.uid, .int .i64 n.gid, .slice A1 m1 c1, .slice B1 l1 d1, .string (bA n.target)] 59)) (.slice B1 l1 d1) n.ents := ⟨hl9.1.below (ba _ _), hl9.2.below (ba _ _)⟩
    obtain ⟨W9, hW9⟩ : ∃ W, w9.alloc (.cells #[.int .i64 n.kind, .int .i64 n.mode, .int .i64 n.uid, .int .i64 n.gid, .slice A1 m1 c1, .slice B1 l1 d1, .string (bA n.target)] 59) = W := ⟨_, rfl⟩
    obtain ⟨zx, hzx⟩ : ∃ z, w9.heap.size = z := ⟨_, rfl⟩
    rw [hW9] at hbx hkx hl1
    rw [hzx] at hkx
    have J9 := Lib.hid hbx
    have HX9 := Lib.hid hkx
    have HLX := Lib.hid hl1
    have HG3 := Lib.hid (HG2.out W9 hbx)
    clear hl9 hb9 hbx hkx hl1 k0 k1 k2 a0 a1 a2 a3 a4 a5 a6 b0 b1 b2 b3 b4 b5 b6 HG1 HG2
    obtain ⟨a0, a1, a2, a3, a4, a5, a6⟩ := (HA8.out.below J9.out).c7
    go_wp2_with fail
    clear hW9 hzx
    refine HG3.out.mono ?_
    rintro e w10 ⟨A2, m2, c2, B2, l2, d2, q10, rfl, hl9, hb9⟩
    have hbx := al hb9 (.cells #[.int .i64 n.kind, .int .i64 n.mode, .int .i64 n.uid, .int .i64 n.gid, .slice A2 m2 c2, .slice B2 l2 d2, .string (bA n.target)] 59)
    have hkx := Blk.new w10 59 #[.int .i64 n.kind, .int .i64 n.mode, .int .i64 n.uid, .int .i64 n.gid, .slice A2 m2 c2, .slice B2 l2 d2, .string (bA n.target)]
    have hl1 : BytesT (w10.alloc (.cells #[.int .i64 n.kind, .int .i64 n.mode, .int .i64 n.uid, .int .i64 n.gid, .slice A2 m2 c2, .slice B2 l2 d2, .string (bA n.target)] 59)) (.slice A2 m2 c2) n.data ∧ EntsT (w10.alloc (.cells #[.int .i64 n.kind, .int .i64 n.mode, .int .i64 n.uid, .int .i64 n.gid, .slice A2 m2 c2, .slice B2 l2 d2, .string (bA n.target)] 59)) (.slice B2 l2 d2) n.ents := ⟨hl9.1.below (ba _ _), hl9.2.below (ba _ _)⟩
    obtain ⟨W10, hW10⟩ : ∃ W, w10.alloc (.cells #[.int .i64 n.kind, .int .i64 n.mode, .int .i64 n.uid, .int .i64 n.gid, .slice A2 m2 c2, .slice B2 l2 d2, .string (bA n.target)] 59) = W := ⟨_, rfl⟩
    obtain ⟨zy, hzy⟩ : ∃ z, w10.heap.size = z := ⟨_, rfl⟩
    rw [hW10] at hbx hkx hl1
    rw [hzy] at hkx
    have J10 := Lib.hid (bt hbx J9.out)
    have HX10 := Lib.hid (HX9.out.below hbx)
    have HY10 := Lib.hid hkx
    have HSN := Lib.hid (fun (W : World) (hb : Below W10.heap.size W10 W) => show Calls Tryz.prog 29 #[.agg #[.int .i64 n.kind, .int .i64 n.mode, .int .i64 n.uid, .int .i64 n.gid, .slice A1 m1 c1, .slice B1 l1 d1, .string (bA n.target)], .agg #[.int .i64 n.kind, .int .i64 n.mode, .int .i64 n.uid, .int .i64 n.gid, .slice A2 m2 c2, .slice B2 l2 d2, .string (bA n.target)]] W fun e w' => e = .returned (.bool true) ∧ Below W.heap.size W w' from by
      have h := same_any n n (.slice A1 m1 c1) (.slice B1 l1 d1) (.slice A2 m2 c2) (.slice B2 l2 d2) W ((HLX.out.1.below hbx).below hb).1 ((HLX.out.2.below hbx).below hb).1 (hl1.1.below hb).1 (hl1.2.below hb).1 HF.out HF.out
      rw [toB_true rfl] at h
      exact h)
    have HPR := Lib.hid (fun (W : World) (hb : Below W10.heap.size W10 W) => show (W.cell? ⟨zx, 0, none⟩ = some (.int .i64 n.kind) ∧ W.cell? ⟨zx, 1, none⟩ = some (.int .i64 n.mode) ∧ W.cell? ⟨zx, 2, none⟩ = some (.int .i64 n.uid) ∧ W.cell? ⟨zx, 3, none⟩ = some (.int .i64 n.gid) ∧ W.cell? ⟨zx, 4, none⟩ = some (.slice A1 m1 c1) ∧ W.cell? ⟨zx, 5, none⟩ = some (.slice B1 l1 d1) ∧ W.cell? ⟨zx, 6, none⟩ = some (.string (bA n.target))) ∧ (W.cell? ⟨zy, 0, none⟩ = some (.int .i64 n.kind) ∧ W.cell? ⟨zy, 1, none⟩ = some (.int .i64 n.mode) ∧ W.cell? ⟨zy, 2, none⟩ = some (.int .i64 n.uid) ∧ W.cell? ⟨zy, 3, none⟩ = some (.int .i64 n.gid) ∧ W.cell? ⟨zy, 4, none⟩ = some (.slice A2 m2 c2) ∧ W.cell? ⟨zy, 5, none⟩ = some (.slice B2 l2 d2) ∧ W.cell? ⟨zy, 6, none⟩ = some (.string (bA n.target))) ∧ W.cell? ⟨za, 0, none⟩ = some (.int .i64 S1.node) ∧ Below W10.heap.size W10 W from ⟨(HX10.out.below hb).c7, (HY10.out.below hb).c7, ((HA8.out.below J10.out).below hb).c7.1, hb⟩)
    have j0 : Below W10.heap.size W10 W10.drew := (Below.refl _ _).drew
    have y9 : ((LK : Int) != (LK : Int)) = false := by simp
    clear hl9 hb9 hbx hkx hl1 a0 a1 a2 a3 a4 a5 a6 HG3
    go_upto_region 17 with fail
    clear hW10 hzy
    go_region_held3 (fun W => (W.cell? ⟨zx, 0, none⟩ = some (.int .i64 n.kind) ∧ W.cell? ⟨zx, 1, none⟩ = some (.int .i64 n.mode) ∧ W.cell? ⟨zx, 2, none⟩ = some (.int .i64 n.uid) ∧ W.cell? ⟨zx, 3, none⟩ = some (.int .i64 n.gid) ∧ W.cell? ⟨zx, 4, none⟩ = some (.slice A1 m1 c1) ∧ W.cell? ⟨zx, 5, none⟩ = some (.slice B1 l1 d1) ∧ W.cell? ⟨zx, 6, none⟩ = some (.string (bA n.target))) ∧ (W.cell? ⟨zy, 0, none⟩ = some (.int .i64 n.kind) ∧ W.cell? ⟨zy, 1, none⟩ = some (.int .i64 n.mode) ∧ W.cell? ⟨zy, 2, none⟩ = some (.int .i64 n.uid) ∧ W.cell? ⟨zy, 3, none⟩ = some (.int .i64 n.gid) ∧ W.cell? ⟨zy, 4, none⟩ = some (.slice A2 m2 c2) ∧ W.cell? ⟨zy, 5, none⟩ = some (.slice B2 l2 d2) ∧ W.cell? ⟨zy, 6, none⟩ = some (.string (bA n.target))) ∧ W.cell? ⟨za, 0, none⟩ = some (.int .i64 S1.node) ∧ Below W10.heap.size W10 W)
      (first | (with_reducible exact HPR.out _ j0) | (with_reducible exact HPR.out _ j1) | (with_reducible exact HPR.out _ j2) | (with_reducible exact HPR.out _ j3))
      (first
        | (go_at_call 29; (with_reducible refine (HSN.out _ j0).mono ?_); rintro e1 w11 ⟨rfl, h1⟩; have j1 := bt h1 j0; clear h1)
        | (go_at_call 31; (with_reducible refine (HL1.out _ (bt j1 J10.out)).mono ?_); rintro e2 w12 ⟨rfl, h2⟩; have j2 := bt h2 j1; clear h2)
        | (go_at_call 31; (with_reducible refine (HL2.out _ (bt j2 J10.out)).mono ?_); rintro e3 w13 ⟨rfl, h3⟩; have j3 := bt h3 j2; clear h3))
    have J13 := Lib.hid (bt j3 J10.out)
    clear j0 j1 j2 j3 HPR HSN
    have HL5 := Lib.hid (HL4.out q1)
    have HPR := Lib.hid (fun (W : World) (hb : Below w8.heap.size w8 W) => show W.cell? ⟨zb, 0, none⟩ = some (.int .i64 S2.node) ∧ Below w8.heap.size w8 W from ⟨(HS8.out.below hb).c7.1, hb⟩)
    have j0 := J13.out.drew
    have y5 : IntKind.i64.wrap (L2 : Int) = (L2 : Int) := by rw [IntKind.wrap_i64] <;> omega
    have y6 : IntKind.i64.wrap ((L2 : Int) + 1 - 1) = (L2 : Int) := by rw [Int.add_sub_cancel]; exact y5
    have y7 : ((L2 : Int) == (L2 : Int)) = true := by simp
    clear q1
    go_upto_region 20 with fail
    go_region_held3 (fun W => W.cell? ⟨zb, 0, none⟩ = some (.int .i64 S2.node) ∧ Below w8.heap.size w8 W)
      (first | (with_reducible exact HPR.out _ j0) | (with_reducible exact HPR.out _ j1) | (with_reducible exact HPR.out _ j2))
      (first
        | (go_at_call 31; (with_reducible refine (HL3.out _ j0).mono ?_); rintro e1 w14 ⟨rfl, h1⟩; have j1 := bt h1 j0; clear h1)
        | (go_at_call 31; (with_reducible refine (HL5.out _ j1).mono ?_); rintro e2 w15 ⟨rfl, h2⟩; have j2 := bt h2 j1; clear h2))
    have J15 := Lib.hid (bt j2 HB8.out)
    clear j0 j1 j2
    go_wp2
    go_ret
    exact ⟨ret_bool (by first | rfl | simp), J15.out⟩
  · have y1 : (EB == 0) = false := by simpa using q1
    go_wp2_with fail
    refine HG1.out.mono ?_
    rintro e w9 ⟨A1, m1, c1, B1, l1, d1, q9, rfl, hl9, hb9⟩
    have hbx := al hb9 (.cells #[.int .i64 n.kind, .int .i64 n.mode, .int .i64 n.uid, .int .i64 n.gid, .slice A1 m1 c1, .slice B1 l1 d1, .string (bA n.target)] 59)
    have hkx := Blk.new w9 59 #[.int .i64 n.kind, .int .i64 n.mode, .int .i64 n.uid, .int .i64 n.gid, .slice A1 m1 c1, .slice B1 l1 d1, .string (bA n.target)]
    have hl1 : BytesT (w9.alloc (.cells #[.int .i64 n.kind, .int .i64 n.mode, .int .i64 n.uid, .int .i64 n.gid, .slice A1 m1 c1, .slice B1 l1 d1, .string (bA n.target)] 59)) (.slice A1 m1 c1) n.data ∧ EntsT (w9.alloc (.cells #[.int .i64 n.kind, .int .i64 n.mode, .int .i64 n.uid, .int .i64 n.gid, .slice A1 m1 c1, .slice B1 l1 d1, .string (bA n.target)] 59)) (.slice B1 l1 d1) n.ents := ⟨hl9.1.below (ba _ _), hl9.2.below (ba _ _)⟩
    obtain ⟨W9, hW9⟩ : ∃ W, w9.alloc (.cells #[.int .i64 n.kind, .int .i64 n.mode, .int .i64 n.uid, .int .i64 n.gid, .slice A1 m1 c1, .slice B1 l1 d1, .string (bA n.target)] 59) = W := ⟨_, rfl⟩
    obtain ⟨zx, hzx⟩ : ∃ z, w9.heap.size = z := ⟨_, rfl⟩
    rw [hW9] at hbx hkx hl1
    rw [hzx] at hkx
    have J9 := Lib.hid hbx
    have HX9 := Lib.hid hkx
    have HLX := Lib.hid hl1
    have HG3 := Lib.hid (HG2.out W9 hbx)
    clear hl9 hb9 hbx hkx hl1 k0 k1 k2 a0 a1 a2 a3 a4 a5 a6 b0 b1 b2 b3 b4 b5 b6 HG1 HG2
    obtain ⟨a0, a1, a2, a3, a4, a5, a6⟩ := (HA8.out.below J9.out).c7
    go_wp2_with fail
    clear hW9 hzx
    refine HG3.out.mono ?_
    rintro e w10 ⟨A2, m2, c2, B2, l2, d2, q10, rfl, hl9, hb9⟩
    have hbx := al hb9 (.cells #[.int .i64 n.kind, .int .i64 n.mode, .int .i64 n.uid, .int .i64 n.gid, .slice A2 m2 c2, .slice B2 l2 d2, .string (bA n.target)] 59)
    have hkx := Blk.new w10 59 #[.int .i64 n.kind, .int .i64 n.mode, .int .i64 n.uid, .int .i64 n.gid, .slice A2 m2 c2, .slice B2 l2 d2, .string (bA n.target)]
    have hl1 : BytesT (w10.alloc (.cells #[.int .i64 n.kind, .int .i64 n.mode, .int .i64 n.uid, .int .i64 n.gid, .slice A2 m2 c2, .slice B2 l2 d2, .string (bA n.target)] 59)) (.slice A2 m2 c2) n.data ∧ EntsT (w10.alloc (.cells #[.int .i64 n.kind, .int .i64 n.mode, .int .i64 n.uid, .int .i64 n.gid, .slice A2 m2 c2, .slice B2 l2 d2, .string (bA n.target)] 59)) (.slice B2 l2 d2) n.ents := ⟨hl9.1.below (ba _ _), hl9.2.below (ba _ _)⟩
    obtain ⟨W10, hW10⟩ : ∃ W, w10.alloc (.cells #[.int .i64 n.kind, .int .i64 n.mode, .int .i64 n.uid, .int .i64 n.gid, .slice A2 m2 c2, .slice B2 l2 d2, .string (bA n.target)] 59) = W := ⟨_, rfl⟩
    obtain ⟨zy, hzy⟩ : ∃ z, w10.heap.size = z := ⟨_, rfl⟩
    rw [hW10] at hbx hkx hl1
    rw [hzy] at hkx
    have J10 := Lib.hid (bt hbx J9.out)
    have HX10 := Lib.hid (HX9.out.below hbx)
    have HY10 := Lib.hid hkx
    have HSN := Lib.hid (fun (W : World) (hb : Below W10.heap.size W10 W) => show Calls Tryz.prog 29 #[.agg #[.int .i64 n.kind, .int .i64 n.mode, .int .i64 n.uid, .int .i64 n.gid, .slice A1 m1 c1, .slice B1 l1 d1, .string (bA n.target)], .agg #[.int .i64 n.kind, .int .i64 n.mode, .int .i64 n.uid, .int .i64 n.gid, .slice A2 m2 c2, .slice B2 l2 d2, .string (bA n.target)]] W fun e w' => e = .returned (.bool true) ∧ Below W.heap.size W w' from by
      have h := same_any n n (.slice A1 m1 c1) (.slice B1 l1 d1) (.slice A2 m2 c2) (.slice B2 l2 d2) W ((HLX.out.1.below hbx).below hb).1 ((HLX.out.2.below hbx).below hb).1 (hl1.1.below hb).1 (hl1.2.below hb).1 HF.out HF.out
      rw [toB_true rfl] at h
      exact h)
    have HPR := Lib.hid (fun (W : World) (hb : Below W10.heap.size W10 W) => show (W.cell? ⟨zx, 0, none⟩ = some (.int .i64 n.kind) ∧ W.cell? ⟨zx, 1, none⟩ = some (.int .i64 n.mode) ∧ W.cell? ⟨zx, 2, none⟩ = some (.int .i64 n.uid) ∧ W.cell? ⟨zx, 3, none⟩ = some (.int .i64 n.gid) ∧ W.cell? ⟨zx, 4, none⟩ = some (.slice A1 m1 c1) ∧ W.cell? ⟨zx, 5, none⟩ = some (.slice B1 l1 d1) ∧ W.cell? ⟨zx, 6, none⟩ = some (.string (bA n.target))) ∧ (W.cell? ⟨zy, 0, none⟩ = some (.int .i64 n.kind) ∧ W.cell? ⟨zy, 1, none⟩ = some (.int .i64 n.mode) ∧ W.cell? ⟨zy, 2, none⟩ = some (.int .i64 n.uid) ∧ W.cell? ⟨zy, 3, none⟩ = some (.int .i64 n.gid) ∧ W.cell? ⟨zy, 4, none⟩ = some (.slice A2 m2 c2) ∧ W.cell? ⟨zy, 5, none⟩ = some (.slice B2 l2 d2) ∧ W.cell? ⟨zy, 6, none⟩ = some (.string (bA n.target))) ∧ W.cell? ⟨za, 0, none⟩ = some (.int .i64 S1.node) ∧ Below W10.heap.size W10 W from ⟨(HX10.out.below hb).c7, (HY10.out.below hb).c7, ((HA8.out.below J10.out).below hb).c7.1, hb⟩)
    have j0 : Below W10.heap.size W10 W10.drew := (Below.refl _ _).drew
    have y9 : ((LK : Int) != (LK : Int)) = false := by simp
    clear hl9 hb9 hbx hkx hl1 a0 a1 a2 a3 a4 a5 a6 HG3
    go_upto_region 17 with fail
    clear hW10 hzy
    go_region_held3 (fun W => (W.cell? ⟨zx, 0, none⟩ = some (.int .i64 n.kind) ∧ W.cell? ⟨zx, 1, none⟩ = some (.int .i64 n.mode) ∧ W.cell? ⟨zx, 2, none⟩ = some (.int .i64 n.uid) ∧ W.cell? ⟨zx, 3, none⟩ = some (.int .i64 n.gid) ∧ W.cell? ⟨zx, 4, none⟩ = some (.slice A1 m1 c1) ∧ W.cell? ⟨zx, 5, none⟩ = some (.slice B1 l1 d1) ∧ W.cell? ⟨zx, 6, none⟩ = some (.string (bA n.target))) ∧ (W.cell? ⟨zy, 0, none⟩ = some (.int .i64 n.kind) ∧ W.cell? ⟨zy, 1, none⟩ = some (.int .i64 n.mode) ∧ W.cell? ⟨zy, 2, none⟩ = some (.int .i64 n.uid) ∧ W.cell? ⟨zy, 3, none⟩ = some (.int .i64 n.gid) ∧ W.cell? ⟨zy, 4, none⟩ = some (.slice A2 m2 c2) ∧ W.cell? ⟨zy, 5, none⟩ = some (.slice B2 l2 d2) ∧ W.cell? ⟨zy, 6, none⟩ = some (.string (bA n.target))) ∧ W.cell? ⟨za, 0, none⟩ = some (.int .i64 S1.node) ∧ Below W10.heap.size W10 W)
      (first | (with_reducible exact HPR.out _ j0) | (with_reducible exact HPR.out _ j1) | (with_reducible exact HPR.out _ j2) | (with_reducible exact HPR.out _ j3))
      (first
        | (go_at_call 29; (with_reducible refine (HSN.out _ j0).mono ?_); rintro e1 w11 ⟨rfl, h1⟩; have j1 := bt h1 j0; clear h1)
        | (go_at_call 31; (with_reducible refine (HL1.out _ (bt j1 J10.out)).mono ?_); rintro e2 w12 ⟨rfl, h2⟩; have j2 := bt h2 j1; clear h2)
        | (go_at_call 31; (with_reducible refine (HL2.out _ (bt j2 J10.out)).mono ?_); rintro e3 w13 ⟨rfl, h3⟩; have j3 := bt h3 j2; clear h3))
    have J13 := Lib.hid (bt j3 J10.out)
    clear j0 j1 j2 j3 HPR HSN
    obtain ⟨k0, k1, k2⟩ := (HK8.out.below J13.out).c3
    have HUJ := Lib.hid (HU8.out.below J13.out)
    have HTJ := Lib.hid (HT8.out.below J13.out)
    have HBJ := Lib.hid (bt J13.out HB8.out)
    clear J13 J10 J9
    go_wp2_with fail
    refine (HRB.out _ HTJ.out).mono ?_
    rintro e w14 ⟨rfl, ht, hgr⟩
    have HT14 := Lib.hid ht
    have HU14 := Lib.hid (show TabR w14 u T (fun _ => True) from by obtain ⟨cs, hg, -⟩ := HTJ.out.blk; exact HUJ.out.kind hgr HUG.out hg (by decide) (by decide))
    have HB14 := Lib.hid (grown_bl HBJ.out hgr HGE.out)
    clear ht hgr k0 k1 k2
    by_cases q4 : E4 = 0
    · have y4 : (E4 != 0) = false := by simpa using q4
      have HSE := Lib.hid (show Calls Tryz.prog 24 #[.pointer (some ⟨g, 0, none⟩), .pointer (some ⟨u, 0, none⟩)] w14 fun e w' => e = .returned (.bool true) ∧ Below w14.heap.size w14 w' from by have h := tsame_any (.pointer (some ⟨g, 0, none⟩)) (.pointer (some ⟨u, 0, none⟩)) T4 T w14 HT14.out.ptr HU14.out.ptr; rw [HBK2.out q1 q4, show toB (sam24 T T) = true from toB_true (fun _ _ => rfl)] at h; exact h)
      clear q4 q1
      go_wp2_with fail
      refine HSE.out.mono ?_
      rintro e w15 ⟨rfl, hb⟩
      have HB15 := Lib.hid (bt hb HB14.out)
      clear hb
      go_wp2
      go_ret
      exact ⟨ret_bool (by first | rfl | simp), HB15.out⟩
    · have y4 : (E4 != 0) = true := by simpa using q4
      clear q4 q1
      go_wp2
      go_ret
      exact ⟨ret_bool (by first | rfl | simp), HB14.out⟩
end Go.Proofs.YtiimdmbalnhmmaaGreat
