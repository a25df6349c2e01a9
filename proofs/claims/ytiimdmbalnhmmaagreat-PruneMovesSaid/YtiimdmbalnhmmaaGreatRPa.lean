/-
  The reference's Below, sticky, cut, Free and find. The conditions are said at each.
-/
import Derived.Test.YtiimdmbalnhmmaaGreatRG
import Derived.Test.YtiimdmbalnhmmaaGreatWQ
import Derived.Test.YtiimdmbalnhmmaaGreatPrN
import Derived.Test.YtiimdmbalnhmmaaGreatCD
import Derived.Deep.RegionWith
import Derived.Deep.DeepCutAuto
import Derived.Deep.RegionHeld3
namespace Go.Proofs.YtiimdmbalnhmmaaGreat
open Go Go.RowKit
set_option maxRecDepth 100000

attribute [local go_sem] cell_off4 cell_blk4
theorem uid_ofr (a0 a1 a3 a4 a5 a6 a7 : Value) (x : Int) (w : World) : (Instr.field 87 (.agg #[a0, a1, .int .i64 x, a3, a4, a5, a6, a7]) 2).run Tryz.prog w = .ok (.int .i64 x) w := by kernel_rfl
attribute [local go_sem] uid_ofr
theorem inL_con (l : List Int) (n : Int) : inL l n = l.contains n := by
  unfold inL
  rw [Bool.eq_iff_iff]
  simp
/-- What answers with a table of the reference's. -/
def TbA (P : Nat → Prop) (w : World) (T : List Nd) (e : Ending) (w' : World) : Prop := ∃ g' c', e = .returned (.agg #[.slice (some ⟨g', 0, none⟩) T.length c']) ∧ NsR P w' (.slice (some ⟨g', 0, none⟩) T.length c') T ∧ Below w.heap.size w w'
def TbB (P : Nat → Prop) (w : World) (T : List Nd) (b : Bool) (e : Ending) (w' : World) : Prop := ∃ g' c', e = .returned (.tuple #[.agg #[.slice (some ⟨g', 0, none⟩) T.length c'], .bool b]) ∧ NsR P w' (.slice (some ⟨g', 0, none⟩) T.length c') T ∧ Below w.heap.size w w'
def TbE (P : Nat → Prop) (w : World) (T : List Nd) (x : Int) (e : Ending) (w' : World) : Prop := ∃ g' c', e = .returned (.tuple #[.agg #[.slice (some ⟨g', 0, none⟩) T.length c'], .int .i64 x]) ∧ NsR P w' (.slice (some ⟨g', 0, none⟩) T.length c') T ∧ Below w.heap.size w w'
theorem ns_put {P : Nat → Prop} {w W : World} {v : Value} {T : List Nd} {R : Nat} (h : NsR (fun b => P b ∧ b ≠ R) W v T) (u : Value) (hb : Below w.heap.size w W) (hR : w.heap.size ≤ R) : NsR P (W.setCell ⟨R, 0, none⟩ u) v T ∧ Below w.heap.size w (W.setCell ⟨R, 0, none⟩ u) :=
  ⟨(h.other (grown_setCell W ⟨R, 0, none⟩ u) (fun _ q => q.2)).mono (fun _ q _ => q.1), below_grown hb (grown_setCell _ _ _) hR⟩
set_option maxHeartbeats 4000000 in
theorem rblw_any {P : Nat → Prop} (v : Value) (t : List Nd) (i dir : Int) (w : World) (h : NsR P w v t) (hl : t.length ≤ 24) (ho : okT t) :
    Calls Tryz.prog 12 #[.agg #[v], .int .i64 i, .int .i64 dir] w fun e w' => e = .returned (.bool (blwB t i dir)) ∧ Below w.heap.size w w' := by
  obtain ⟨g, cc, rfl⟩ := ns_form h
  have hb1 := ba w (.cells #[.slice (some ⟨g, 0, none⟩) t.length cc] 35)
  have hk1 := Blk.new w 35 #[.slice (some ⟨g, 0, none⟩) t.length cc]
  obtain ⟨W1, hW1⟩ : ∃ W1, w.alloc (.cells #[.slice (some ⟨g, 0, none⟩) t.length cc] 35) = W1 := ⟨_, rfl⟩
  rw [hW1] at hb1 hk1
  have HP := Lib.hid (fun (W : World) (hb : Below W1.heap.size W1 W) (j : Int) => show Calls Tryz.prog 36 #[.agg #[.slice (some ⟨g, 0, none⟩) t.length cc], .int .i64 j] W fun e w' => e = .returned (.int .i64 (parF t j)) ∧ Below W.heap.size W w' from rparent_any _ t j W ((h.below hb1).below hb) hl ho)
  have HB1 := Lib.hid hb1
  have HK1 := Lib.hid hk1
  obtain ⟨X, hX⟩ : ∃ X, blwB t i dir = X := ⟨_, rfl⟩
  have HX := Lib.hid (show blw t dir (24 - 0) i = X from hX)
  rw [hX]
  clear h hb1 hk1 hX
  go_enter Tryz.func12, Tryz.ntmps12
  go_wp2
  clear hW1
  go_loopg [1, 7] 24 (fun gh s1 s7 wr => ∃ (k : Nat) (j : Int), s7 = .int .i64 (k : Int) ∧ s1 = .int .i64 j ∧ k ≤ 24 ∧ gh = 24 - k ∧ blw t dir (24 - k) j = X ∧ Below W1.heap.size W1 wr)
  case atStart => exact ⟨0, i, rfl, rfl, by decide, rfl, HX.out, Below.refl _ _⟩
  case round =>
    obtain ⟨k, j, rfl, rfl, hk, rfl, hx, hbr⟩ := hrel
    have HJ := Lib.hid hx
    have HBR := Lib.hid hbr
    have k0 := (HK1.out.below hbr).cell 0
    simp at k0
    clear hx hbr
    by_cases hlt : k < 24
    · have hlt' : (k : Int) < 24 := by omega
      have hj := HJ.out
      rw [show 24 - k = (24 - (k + 1)) + 1 by omega, blw] at hj
      by_cases q1 : j = dir
      · have y1 : (j == dir) = true := by simpa using q1
        rw [if_pos q1] at hj
        have HZ := Lib.hid hj
        clear hj q1
        go_wp2
        go_ret
        exact ⟨ret_bool HZ.out, bt HBR.out HB1.out⟩
      have y1 : (j == dir) = false := by simpa using q1
      rw [if_neg q1] at hj
      by_cases q2 : j = 0
      · have y2 : (j == 0) = true := by simpa using q2
        rw [if_pos q2] at hj
        have HZ := Lib.hid hj
        clear hj q1 q2
        go_wp2
        go_ret
        exact ⟨ret_bool HZ.out, bt HBR.out HB1.out⟩
      have y2 : (j == 0) = false := by simpa using q2
      rw [if_neg q2] at hj
      have HZ := Lib.hid hj
      have HC := Lib.hid (HP.out wr HBR.out j)
      generalize parF t j = pj at HZ HC
      clear hj q1 q2
      go_wp2_with fail
      refine HC.out.mono ?_
      rintro e w3 ⟨rfl, hb3⟩
      have HB3 := Lib.hid (bt hb3 HBR.out)
      clear hb3
      go_wp2
      go_roundg (24 - (k + 1))
      case measure => omega
      case rel => exact ⟨k + 1, pj, by go_num, rfl, by omega, rfl, HZ.out, HB3.out⟩
    · have hlt' : ¬ (k : Int) < 24 := by omega
      have hj := HJ.out
      rw [show 24 - k = 0 by omega, blw] at hj
      have HZ := Lib.hid hj
      clear hj
      go_wp2
      go_ret
      exact ⟨ret_bool HZ.out, bt HBR.out HB1.out⟩
set_option maxHeartbeats 8000000 in
theorem rstk_any {P : Nat → Prop} (v : Value) (t : List Nd) (c : Wh) (A0 : Option Addr) (m0 k0 : Nat) (F : Fo) (w : World) (h : NsR P w v t) (hl : t.length ≤ 24) :
    Calls Tryz.prog 71 #[.agg #[v], .agg #[.int .i64 c.u, .int .i64 c.g, .slice A0 m0 k0], .agg #[.int .i64 F.dir, .string (bA F.name), .int .i64 F.node]] w fun e w' => e = .returned (.bool (stkB t c F)) ∧ Below w.heap.size w w' := by
  obtain ⟨g, cc, rfl⟩ := ns_form h
  have hb1 := ba w (.cells #[.slice (some ⟨g, 0, none⟩) t.length cc] 35)
  have h11 := Blk.new w 35 #[.slice (some ⟨g, 0, none⟩) t.length cc]
  obtain ⟨W1, hW1⟩ : ∃ W, w.alloc (.cells #[.slice (some ⟨g, 0, none⟩) t.length cc] 35) = W := ⟨_, rfl⟩
  rw [hW1] at hb1 h11
  have hb2 := al hb1 (.cells #[.int .i64 c.u, .int .i64 c.g, .slice A0 m0 k0] 40)
  have h12 := h11.alloc (.cells #[.int .i64 c.u, .int .i64 c.g, .slice A0 m0 k0] 40)
  have h22 := Blk.new W1 40 #[.int .i64 c.u, .int .i64 c.g, .slice A0 m0 k0]
  obtain ⟨W2, hW2⟩ : ∃ W, W1.alloc (.cells #[.int .i64 c.u, .int .i64 c.g, .slice A0 m0 k0] 40) = W := ⟨_, rfl⟩
  rw [hW2] at hb2 h12 h22
  have hb3 := al hb2 (.cells #[.int .i64 F.dir, .string (bA F.name), .int .i64 F.node] 90)
  have h13 := h12.alloc (.cells #[.int .i64 F.dir, .string (bA F.name), .int .i64 F.node] 90)
  have h23 := h22.alloc (.cells #[.int .i64 F.dir, .string (bA F.name), .int .i64 F.node] 90)
  have h33 := Blk.new W2 90 #[.int .i64 F.dir, .string (bA F.name), .int .i64 F.node]
  obtain ⟨W3, hW3⟩ : ∃ W, W2.alloc (.cells #[.int .i64 F.dir, .string (bA F.name), .int .i64 F.node] 90) = W := ⟨_, rfl⟩
  rw [hW3] at hb3 h13 h23 h33
  obtain ⟨z2, hz2⟩ : ∃ z, W1.heap.size = z := ⟨_, rfl⟩
  obtain ⟨z3, hz3⟩ : ∃ z, W2.heap.size = z := ⟨_, rfl⟩
  rw [hz2] at h23
  rw [hz3] at h33
  have HB3 := Lib.hid hb3
  have H1 := Lib.hid h13
  have H2 := Lib.hid h23
  have H3 := Lib.hid h33
  have HG := Lib.hid (fun (W : World) (hb : Below W3.heap.size W3 W) (j : Int) => rget_rf _ t j W ((h.below hb3).below hb) hl)
  obtain ⟨n, hn⟩ : ∃ n, tget t F.node = n := ⟨_, rfl⟩
  have HX := Lib.hid (show stkB t c F = (c.u == 0 || bits .and .i64 (tget t F.dir).mode 512 == 0 || (tget t F.dir).uid == c.u || n.uid == c.u) from by rw [← hn]; rfl)
  have HGN := Lib.hid (fun (W : World) (hb : Below W3.heap.size W3 W) => show Calls Tryz.prog 41 #[.agg #[.slice (some ⟨g, 0, none⟩) t.length cc], .int .i64 F.node] W fun e w' => ∃ A7 n7 k7 A8 n8 k8, e = .returned (.agg #[.int .i64 n.kind, .int .i64 n.mode, .int .i64 n.uid, .int .i64 n.gid, .string (bA n.data), .slice A7 n7 k7, .slice A8 n8 k8, .string (bA n.target)]) ∧ Below W.heap.size W w' from by
    have h1 := HG.out W hb F.node
    rw [hn] at h1
    refine h1.mono ?_
    rintro e w' ⟨vn, vk, rfl, hN, hI, hb⟩
    obtain ⟨A7, k7, rfl⟩ := strs_form hN (nm_len _)
    obtain ⟨A8, k8, rfl⟩ := ints_form hI (idE_len _)
    exact ⟨A7, _, k7, A8, _, k8, rfl, hb⟩)
  clear hn
  generalize stkB t c F = X at HX ⊢
  have t0 := h13.cell 0
  have f0 := h33.c3.1
  simp at t0
  clear h hb1 hb2 hb3 h11 h12 h13 h22 h23 h33
  go_enter Tryz.func71, Tryz.ntmps71
  go_wp2_with fail
  clear hW1 hW2 hW3 hz2 hz3
  refine (HG.out W3 (Below.refl _ _) F.dir).mono ?_
  rintro e w4 ⟨vn, vk, rfl, hN, hI, hb4⟩
  generalize tget t F.dir = d at hN hI HX ⊢
  obtain ⟨A5, k5, rfl⟩ := strs_form hN (nm_len _)
  obtain ⟨A6, k6, rfl⟩ := ints_form hI (idE_len _)
  have hbx := al hb4 (.cells #[.int .i64 d.kind, .int .i64 d.mode, .int .i64 d.uid, .int .i64 d.gid, .string (bA d.data), .slice A5 d.ents.length k5, .slice A6 d.ents.length k6, .string (bA d.target)] 87)
  have hkn := Blk.new w4 87 #[.int .i64 d.kind, .int .i64 d.mode, .int .i64 d.uid, .int .i64 d.gid, .string (bA d.data), .slice A5 d.ents.length k5, .slice A6 d.ents.length k6, .string (bA d.target)]
  obtain ⟨W5, hW5⟩ : ∃ W, w4.alloc (.cells #[.int .i64 d.kind, .int .i64 d.mode, .int .i64 d.uid, .int .i64 d.gid, .string (bA d.data), .slice A5 d.ents.length k5, .slice A6 d.ents.length k6, .string (bA d.target)] 87) = W := ⟨_, rfl⟩
  obtain ⟨z4, hz4⟩ : ∃ z, w4.heap.size = z := ⟨_, rfl⟩
  rw [hW5] at hbx hkn
  rw [hz4] at hkn
  have HB5 := Lib.hid hbx
  have H4 := Lib.hid hkn
  have HPR := Lib.hid (fun (W : World) (hb : Below W5.heap.size W5 W) => show W.cell? ⟨w.heap.size, 0, none⟩ = some (.slice (some ⟨g, 0, none⟩) t.length cc) ∧ W.cell? ⟨z2, 0, none⟩ = some (.int .i64 c.u) ∧ W.cell? ⟨z2, 1, none⟩ = some (.int .i64 c.g) ∧ W.cell? ⟨z2, 2, none⟩ = some (.slice A0 m0 k0) ∧ W.cell? ⟨z3, 2, none⟩ = some (.int .i64 F.node) ∧ W.cell? ⟨z4, 1, none⟩ = some (.int .i64 d.mode) ∧ W.cell? ⟨z4, 2, none⟩ = some (.int .i64 d.uid) from ⟨((H1.out.below HB5.out).below hb).cell 0, ((H2.out.below HB5.out).below hb).c3.1, ((H2.out.below HB5.out).below hb).c3.2.1, ((H2.out.below HB5.out).below hb).c3.2.2, ((H3.out.below HB5.out).below hb).c3.2.2, (H4.out.below hb).c8.2.1, (H4.out.below hb).c8.2.2.1⟩)
  have HJ := Lib.hid (show Below W5.heap.size W5 W5.drew from (Below.refl _ _).drew)
  have HST := Lib.hid (fun (W : World) (hb : Below W5.heap.size W5 W) => show Calls Tryz.prog 97 #[.agg #[.int .i64 c.u, .int .i64 c.g, .slice A0 m0 k0], .int .i64 d.mode, .int .i64 d.uid, .int .i64 n.uid] W fun e w' => e = .returned (.bool X) ∧ Below W5.heap.size W5 w' from by
    have h1 := rsticky_any c.u c.g A0 m0 k0 d.mode d.uid n.uid W
    rw [← HX.out] at h1
    refine h1.mono ?_
    rintro e w' ⟨rfl, h2⟩
    exact ⟨rfl, bt h2 hb⟩)
  clear hN hI hb4 hbx hkn HG t0 f0
  go_upto_region 2 with fail
  clear hW5 hz4
  go_region_held3 (fun W => W.cell? ⟨w.heap.size, 0, none⟩ = some (.slice (some ⟨g, 0, none⟩) t.length cc) ∧ W.cell? ⟨z2, 0, none⟩ = some (.int .i64 c.u) ∧ W.cell? ⟨z2, 1, none⟩ = some (.int .i64 c.g) ∧ W.cell? ⟨z2, 2, none⟩ = some (.slice A0 m0 k0) ∧ W.cell? ⟨z3, 2, none⟩ = some (.int .i64 F.node) ∧ W.cell? ⟨z4, 1, none⟩ = some (.int .i64 d.mode) ∧ W.cell? ⟨z4, 2, none⟩ = some (.int .i64 d.uid))
    (first | (with_reducible exact HPR.out _ HJ.out) | (with_reducible exact HPR.out _ HJ2.out) | (with_reducible exact HPR.out _ HJ3.out))
    (first
    | (go_at_call 41; (with_reducible refine (HGN.out _ (bt HJ.out HB5.out)).mono ?_); rintro e1 w6 ⟨A7, n7, k7, A8, n8, k8, rfl, hb6⟩; have HJ2 := Lib.hid (bt hb6 HJ.out); clear hb6)
    | (go_at_call 97; (with_reducible refine (HST.out _ HJ2.out).mono ?_); rintro e2 w7 ⟨rfl, hb7⟩; have HJ3 := Lib.hid hb7; clear hb7))
  all_goals (
    go_wp2
    go_ret
    exact ⟨rfl, bt HJ3.out (bt HB5.out HB3.out)⟩)
set_option maxHeartbeats 8000000 in
theorem rcut_any {P : Nat → Prop} (v : Value) (t : List Nd) (d : Int) (n : Nm) (w : World) (h : NsR P w v t) (hl : t.length ≤ 24) (hin : 1 ≤ d ∧ d ≤ t.length) (hf : Few (tget t d)) (hP : ∀ b, w.heap.size ≤ b → P b) :
    Calls Tryz.prog 42 #[.agg #[v], .int .i64 d, .string (bA n)] w (TbA P w (cutT t d n)) := by
  obtain ⟨g, cc, rfl⟩ := ns_form h
  obtain ⟨T, hT⟩ : ∃ T, cutT t d n = T := ⟨_, rfl⟩
  rw [hT]
  have HTT := Lib.hid (show setT t d (outM (tget t d) n) = T from hT)
  clear hT
  have hb1 := ba w (.cells #[.slice (some ⟨g, 0, none⟩) t.length cc] 35)
  have h11 := Blk.new w 35 #[.slice (some ⟨g, 0, none⟩) t.length cc]
  obtain ⟨W1, hW1⟩ : ∃ W, w.alloc (.cells #[.slice (some ⟨g, 0, none⟩) t.length cc] 35) = W := ⟨_, rfl⟩
  rw [hW1] at hb1 h11
  have hb2 := al hb1 (.cells #[.slice none 0 0] 35)
  have h12 := h11.alloc (.cells #[.slice none 0 0] 35)
  have h22 := Blk.new W1 35 #[.slice none 0 0]
  have hlR : w.heap.size ≤ W1.heap.size := hb1.size
  have hne : w.heap.size ≠ W1.heap.size := Nat.ne_of_lt h11.lt
  obtain ⟨W2, hW2⟩ : ∃ W, W1.alloc (.cells #[.slice none 0 0] 35) = W := ⟨_, rfl⟩
  rw [hW2] at hb2 h12 h22
  obtain ⟨R, hR⟩ : ∃ z, W1.heap.size = z := ⟨_, rfl⟩
  rw [hR] at h22 hlR hne
  have HB2 := Lib.hid hb2
  have H1 := Lib.hid h12
  have H2 := Lib.hid h22
  have HLR := Lib.hid hlR
  have HN := Lib.hid (show NsR (fun b => P b ∧ b ≠ R) W2 (.slice (some ⟨g, 0, none⟩) t.length cc) t from (h.mono (fun b q z => ⟨q, by omega⟩)).below hb2)
  have HRL := Lib.hid h22.lt
  have HP := Lib.hid hP
  have HF := Lib.hid hf
  have HD0 := Lib.hid (show (((d - 1).toNat : Nat) : Int) + 1 = d by omega)
  have hdl : (d - 1).toNat < t.length := by omega
  have HG := Lib.hid (rgetp_any _ t d W2 HN.out hin hl)
  have t0 := h12.cell 0
  simp at t0
  clear h hb1 hb2 h11 h12 h22 hlR hP hf
  go_enter Tryz.func42, Tryz.ntmps42
  go_wp2_with fail
  clear hW1 hW2 hR
  refine HG.out.mono ?_
  rintro e w3 ⟨vn, vk, rfl, hN, hI, hpn, hpk, hb3⟩
  have HC := Lib.hid (ref_out (tget t d) vn vk n w3 hN hI HF.out.ents)
  have HT := Lib.hid (show setT t d (outM (tget t d) n) = T from HTT.out)
  generalize outM (tget t d) n = M at HC HT
  generalize outE (tget t d) n = X at HC
  generalize tget t d = N at hN hI HC ⊢
  obtain ⟨A5, k5, rfl⟩ := strs_form hN (nm_len _)
  obtain ⟨A6, k6, rfl⟩ := ints_form hI (idE_len _)
  have HB3 := Lib.hid hb3
  clear hN hI hpn hpk hb3 HG HF
  go_wp2_with fail
  refine HC.out.mono ?_
  rintro e w4 ⟨v, rfl, ⟨vn, vk, rfl, hN, hI, hpn, hpk⟩, hb4⟩
  unfold refV
  obtain ⟨A7, k7, rfl⟩ := strs_form hN (nm_len _)
  obtain ⟨A8, k8, rfl⟩ := ints_form hI (idE_len _)
  have hbx := ba w4 (.cells (rfC M (.slice A7 M.ents.length k7) (.slice A8 M.ents.length k8)) 87)
  have hkn := Blk.new w4 87 (rfC M (.slice A7 M.ents.length k7) (.slice A8 M.ents.length k8))
  obtain ⟨W5, hW5⟩ : ∃ W, w4.alloc (.cells (rfC M (.slice A7 M.ents.length k7) (.slice A8 M.ents.length k8)) 87) = W := ⟨_, rfl⟩
  rw [hW5] at hbx hkn
  have HB4 := Lib.hid (bt hb4 HB3.out)
  have HB5 := Lib.hid (bt hbx HB4.out)
  have hs34 : W2.heap.size ≤ w3.heap.size := HB3.out.size
  have hrl := HRL.out
  have hws := HB2.out.size
  have HW := Lib.hid (show Calls Tryz.prog 38 #[.agg #[.slice (some ⟨g, 0, none⟩) t.length cc], .int .i64 d, .agg (rfC M (.slice A7 M.ents.length k7) (.slice A8 M.ents.length k8))] W5 (TbA (fun b => P b ∧ b ≠ R) W5 T) from by
    have hq := fun (b : Nat) (q : w3.heap.size ≤ b ∧ b < w4.heap.size) => (⟨⟨HP.out b (by omega), by omega⟩, q.2⟩ : (P b ∧ b ≠ R) ∧ b < w4.heap.size)
    have h1 := rwith_any (P := fun b => P b ∧ b ≠ R) _ t (d - 1).toNat M _ _ w4 W5 (HN.out.below HB4.out) hbx hl hdl hN hI (hpn.mono hq) (hpk.mono hq)
    rw [HD0.out, HT.out] at h1
    refine h1.mono ?_
    rintro e w' ⟨v', rfl, h2, h3⟩
    have hns := h2.ns (bt h3 hbx) (fun b q => (show P b ∧ b ≠ R from ⟨HP.out b (by have := HB5.out.size; omega), by have := HB5.out.size; omega⟩))
    obtain ⟨g', c', rfl⟩ := ns_form hns
    exact ⟨g', c', rfl, hns, h3⟩)
  have t1 := ((H1.out.below HB4.out).below hbx).cell 0
  simp at t1
  obtain ⟨n0, n1, n2, n3, n4, n5, n6, n7⟩ := hkn.c8
  clear hN hI hpn hpk hb4 hbx hkn HC t0 HT hs34 hrl hws hdl
  go_wp2_with fail
  clear hW5
  refine HW.out.mono ?_
  rintro e w6 ⟨g', c', rfl, hns, hb6⟩
  have hr := H2.out.below (bt hb6 HB5.out)
  have r0 := hr.cell 0
  have r1 := hr.frozen 0
  simp at r0
  have s0 : ∀ u, (w6.setCell ⟨R, 0, none⟩ u).cell? ⟨R, 0, none⟩ = some u := fun u => (hr.set_ 0 u).cell 0
  have HE := Lib.hid (ns_put hns (.slice (some ⟨g', 0, none⟩) T.length c') (bt (bt hb6 HB5.out) HB2.out) HLR.out)
  clear hns hb6 hr t1 n0 n1 n2 n3 n4 n5 n6 n7 HW
  go_wp2
  exact bodyPost_ret (v := .agg #[.slice (some ⟨g', 0, none⟩) T.length c']) (by simp [results, Tryz.results42, go_sem, s0]) rfl ⟨g', c', rfl, HE.out.1, HE.out.2⟩
set_option maxHeartbeats 8000000 in
theorem rfree_any {P : Nat → Prop} (v : Value) (t : List Nd) (i : Int) (op : List Int) (A1 : Option Addr) (n1 k1 : Nat) (w : World) (h : NsR P w v t) (hl : t.length ≤ 24) (ho : okT t) (hop : IntsR w (.slice A1 n1 k1) op) (hol : op.length ≤ 1000) (hP : ∀ b, w.heap.size ≤ b → P b) :
    Calls Tryz.prog 17 #[.agg #[v], .int .i64 i, .slice A1 n1 k1] w (TbB P w (frT t i op) (frB t i op)) := by
  obtain ⟨g, cc, rfl⟩ := ns_form h
  obtain ⟨T, hT⟩ : ∃ T, frT t i op = T := ⟨_, rfl⟩
  obtain ⟨B, hB⟩ : ∃ B, frB t i op = B := ⟨_, rfl⟩
  rw [hT, hB]
  have hb1 := ba w (.cells #[.slice (some ⟨g, 0, none⟩) t.length cc] 35)
  have h11 := Blk.new w 35 #[.slice (some ⟨g, 0, none⟩) t.length cc]
  obtain ⟨W1, hW1⟩ : ∃ W, w.alloc (.cells #[.slice (some ⟨g, 0, none⟩) t.length cc] 35) = W := ⟨_, rfl⟩
  rw [hW1] at hb1 h11
  have hb2 := al hb1 (.cells #[.slice none 0 0] 35)
  have h12 := h11.alloc (.cells #[.slice none 0 0] 35)
  have h22 := Blk.new W1 35 #[.slice none 0 0]
  have hlR : w.heap.size ≤ W1.heap.size := hb1.size
  have hne : w.heap.size ≠ W1.heap.size := Nat.ne_of_lt h11.lt
  obtain ⟨W2, hW2⟩ : ∃ W, W1.alloc (.cells #[.slice none 0 0] 35) = W := ⟨_, rfl⟩
  rw [hW2] at hb2 h12 h22
  obtain ⟨R, hR⟩ : ∃ z, W1.heap.size = z := ⟨_, rfl⟩
  rw [hR] at h22 hlR hne
  have HB2 := Lib.hid hb2
  have H1 := Lib.hid h12
  have H2 := Lib.hid h22
  have HLR := Lib.hid hlR
  have HN := Lib.hid (show NsR (fun b => P b ∧ b ≠ R) W2 (.slice (some ⟨g, 0, none⟩) t.length cc) t from (h.mono (fun b q z => ⟨q, by omega⟩)).below hb2)
  have HRL := Lib.hid h22.lt
  have HP := Lib.hid hP
  have HLK := Lib.hid (show Calls Tryz.prog 44 #[.agg #[.slice (some ⟨g, 0, none⟩) t.length cc], .int .i64 i] W2 fun e w' => e = .returned (.int .i64 (linkT t i : Int)) ∧ Below W2.heap.size W2 w' from rlinks_any _ t i W2 HN.out hl ho)
  have HIN := Lib.hid (fun (W : World) (hb : Below W2.heap.size W2 W) => show Calls Tryz.prog 45 #[.slice A1 n1 k1, .int .i64 i] W fun e w' => e = .returned (.bool (op.contains i)) ∧ W = w' from by have h1 := in_any (.slice A1 n1 k1) op i W ((hop.below hb2).below hb) hol; rw [inL_con] at h1; exact h1)
  have HDR := Lib.hid (fun (W : World) (hb : Below W2.heap.size W2 W) => show Calls Tryz.prog 43 #[.agg #[.slice (some ⟨g, 0, none⟩) t.length cc], .int .i64 i] W (TbB (fun b => P b ∧ b ≠ R) W (dropT t i) (tis t i)) from by
    have h1 := rdrop_any (P := fun b => P b ∧ b ≠ R) _ t 2 i Nd.zero true W (HN.out.below hb) hl (by decide) (by decide) (fun b q => ⟨HP.out b (by have := HB2.out.size; have := hb.size; omega), by have := HRL.out; have := hb.size; omega⟩)
    refine h1.mono ?_
    rintro e w' ⟨v', rfl, h2, h3⟩
    have h2' : NsR (fun b => P b ∧ b ≠ R) w' v' (dropT t i) := h2
    obtain ⟨g', c', rfl⟩ := ns_form h2'
    exact ⟨g', c', rfl, h2', h3⟩)
  have HST := Lib.hid (fun (W : World) (hb : Below W2.heap.size W2 W) => show NsR P (W.setCell ⟨R, 0, none⟩ (.slice (some ⟨g, 0, none⟩) t.length cc)) (.slice (some ⟨g, 0, none⟩) t.length cc) t ∧ Below w.heap.size w (W.setCell ⟨R, 0, none⟩ (.slice (some ⟨g, 0, none⟩) t.length cc)) from ns_put (HN.out.below hb) _ (bt hb HB2.out) HLR.out)
  have HF0 := Lib.hid (show i = 1 ∨ 0 < linkT t i ∨ op.contains i = true → T = t ∧ B = false from fun q => by
    have e : frB t i op = false := by
      unfold frB
      rcases q with q | q | q
      · rw [decide_eq_false (fun z => z q)]; rfl
      · rw [decide_eq_false (show ¬ linkT t i = 0 by omega)]; simp
      · rw [q]; simp
    exact ⟨by rw [← hT]; unfold frT; rw [e]; rfl, by rw [← hB, e]⟩)
  have HF1 := Lib.hid (show i ≠ 1 → linkT t i = 0 → op.contains i = false → T = dropT t i ∧ B = tis t i from fun q1 q2 q3 => by
    have e : frB t i op = tis t i := by
      unfold frB
      rw [decide_eq_true q1, decide_eq_true q2, q3]
      rfl
    exact ⟨by rw [← hT]; unfold frT dropT; rw [e], by rw [← hB, e]⟩)
  have t0 := h12.cell 0
  have r0 := h22.cell 0
  have r1 := h22.frozen 0
  simp at t0 r0
  have s0 : ∀ u, (W2.setCell ⟨R, 0, none⟩ u).cell? ⟨R, 0, none⟩ = some u := fun u => (H2.out.set_ 0 u).cell 0
  clear h hb1 hb2 h11 h12 h22 hlR hP hT hB hop
  obtain ⟨L, hL⟩ : ∃ L, linkT t i = L := ⟨_, rfl⟩
  rw [hL] at HLK HF0 HF1
  clear hL
  by_cases q1 : i = 1
  · have y1 : (i == 1) = true := by simpa using q1
    obtain ⟨e1, e2⟩ := HF0.out (.inl q1)
    replace e1 := e1.symm
    subst e1 e2
    have HE := Lib.hid (HST.out W2 (Below.refl _ _))
    clear q1
    go_enter Tryz.func17, Tryz.ntmps17
    go_wp2
    exact bodyPost_ret (v := .tuple #[.agg #[.slice (some ⟨g, 0, none⟩) t.length cc], .bool false]) (by simp [results, Tryz.results17, go_sem, s0]) rfl ⟨g, cc, rfl, HE.out.1, HE.out.2⟩
  have y1 : (i == 1) = false := by simpa using q1
  by_cases q2 : L = 0
  · have y2 : ¬ (L : Int) > 0 := by omega
    cases q3 : op.contains i with
    | true =>
      obtain ⟨e1, e2⟩ := HF0.out (.inr (.inr q3))
      replace e1 := e1.symm
      subst e1 e2
      rw [q3] at HIN
      clear q3
      go_enter Tryz.func17, Tryz.ntmps17
      go_wp2_with fail
      refine HLK.out.mono ?_
      rintro e w3 ⟨rfl, hb3⟩
      have HB3 := Lib.hid hb3
      have HE := Lib.hid (HST.out w3 hb3)
      have hr := H2.out.below hb3
      have t3 := (H1.out.below hb3).cell 0
      simp at t3
      have r3 := hr.cell 0
      have r4 := hr.frozen 0
      simp at r3
      have s3 : ∀ u, (w3.setCell ⟨R, 0, none⟩ u).cell? ⟨R, 0, none⟩ = some u := fun u => (hr.set_ 0 u).cell 0
      clear hb3 hr t0 r0 r1 s0
      go_wp2_with fail
      refine (HIN.out w3 HB3.out).mono ?_
      rintro e w' ⟨rfl, rfl⟩
      go_wp2
      exact bodyPost_ret (v := .tuple #[.agg #[.slice (some ⟨g, 0, none⟩) t.length cc], .bool false]) (by simp [results, Tryz.results17, go_sem, s3]) rfl ⟨g, cc, rfl, HE.out.1, HE.out.2⟩
    | false =>
      obtain ⟨e1, e2⟩ := HF1.out q1 q2 q3
      rw [q3] at HIN
      have HT1 := Lib.hid e1
      have HT2 := Lib.hid e2
      rw [← e1, ← e2] at HDR
      clear q3 e1 e2
      go_enter Tryz.func17, Tryz.ntmps17
      go_wp2_with fail
      refine HLK.out.mono ?_
      rintro e w3 ⟨rfl, hb3⟩
      have HB3 := Lib.hid hb3
      have t3 := (H1.out.below hb3).cell 0
      simp at t3
      clear hb3 t0 r0 r1 s0
      go_wp2_with fail
      refine (HIN.out w3 HB3.out).mono ?_
      rintro e w' ⟨rfl, rfl⟩
      go_wp2_with fail
      refine (HDR.out w3 HB3.out).mono ?_
      rintro e w4 ⟨g', c', rfl, hn, hb4⟩
      have hbz := bt hb4 HB3.out
      have hr := H2.out.below hbz
      have r3 := hr.cell 0
      have r4 := hr.frozen 0
      simp at r3
      have s3 : ∀ u, (w4.setCell ⟨R, 0, none⟩ u).cell? ⟨R, 0, none⟩ = some u := fun u => (hr.set_ 0 u).cell 0
      have HE := Lib.hid (ns_put hn (.slice (some ⟨g', 0, none⟩) T.length c') (bt hbz HB2.out) HLR.out)
      clear hn hb4 hbz hr t3
      go_wp2
      exact bodyPost_ret (v := .tuple #[.agg #[.slice (some ⟨g', 0, none⟩) T.length c'], .bool B]) (by simp [results, Tryz.results17, go_sem, s3]) rfl ⟨g', c', rfl, HE.out.1, HE.out.2⟩
  · have y2 : (L : Int) > 0 := by omega
    obtain ⟨e1, e2⟩ := HF0.out (.inr (.inl (by omega)))
    replace e1 := e1.symm
    subst e1 e2
    clear q1 q2
    go_enter Tryz.func17, Tryz.ntmps17
    go_wp2_with fail
    refine HLK.out.mono ?_
    rintro e w3 ⟨rfl, hb3⟩
    have HE := Lib.hid (HST.out w3 hb3)
    have hr := H2.out.below hb3
    have t3 := (H1.out.below hb3).cell 0
    simp at t3
    have r3 := hr.cell 0
    have r4 := hr.frozen 0
    simp at r3
    have s3 : ∀ u, (w3.setCell ⟨R, 0, none⟩ u).cell? ⟨R, 0, none⟩ = some u := fun u => (hr.set_ 0 u).cell 0
    clear hb3 hr t0 r0 r1 s0
    go_wp2
    exact bodyPost_ret (v := .tuple #[.agg #[.slice (some ⟨g, 0, none⟩) t.length cc], .bool false]) (by simp [results, Tryz.results17, go_sem, s3]) rfl ⟨g, cc, rfl, HE.out.1, HE.out.2⟩
end Go.Proofs.YtiimdmbalnhmmaaGreat
