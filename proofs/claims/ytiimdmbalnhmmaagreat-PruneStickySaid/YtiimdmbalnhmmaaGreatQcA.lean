/-
  Package prune's small functions: what they answer. The conditions are said at each.
-/
import Derived.Test.YtiimdmbalnhmmaaGreatPrC
import Derived.Test.YtiimdmbalnhmmaaGreatWB
import Derived.Test.YtiimdmbalnhmmaaGreatWO
import Derived.Test.YtiimdmbalnhmmaaGreatCD
namespace Go.Proofs.YtiimdmbalnhmmaaGreat
open Go Go.RowKit
set_option maxRecDepth 100000

attribute [local go_sem] cell_off4 cell_blk4
set_option maxHeartbeats 4000000 in
theorem qkind_any (v : Value) (t : List Nd) (i : Int) (w : World) (h : TabP w v t) :
    Calls Tryz.prog 47 #[v, .int .i64 i] w fun e w' => e = .returned (.int .i64 (tget t i).kind) ∧ Below w.heap.size w w' := by
  have HG := Lib.hid (get_any v t i w h)
  generalize tget t i = n at HG ⊢
  generalize tis t i = b at HG
  unfold nodeV at HG
  clear h
  go_enter Tryz.func47, Tryz.ntmps47
  go_wp2_with fail
  refine HG.out.mono ?_
  rintro e w2 ⟨vd, ve, rfl, hd, he, -, -, hb2⟩
  obtain ⟨A5, k5, rfl⟩ := bytesT_form hd
  obtain ⟨A6, k6, rfl⟩ := entsT_form he
  have HB := Lib.hid (al hb2 (.cells (ndC n (.slice A5 n.data.length k5) (.slice A6 n.ents.length k6)) 59))
  clear hd he hb2
  go_wp2
  go_ret
  exact ⟨rfl, HB.out⟩
set_option maxHeartbeats 4000000 in
theorem qentries_any (v : Value) (t : List Nd) (i : Int) (w : World) (h : TabP w v t) :
    Calls Tryz.prog 49 #[v, .int .i64 i] w fun e w' => e = .returned (.int .i64 ((tget t i).ents.length : Int)) ∧ Below w.heap.size w w' := by
  have HG := Lib.hid (get_any v t i w h)
  generalize tget t i = n at HG ⊢
  generalize tis t i = b at HG
  unfold nodeV at HG
  clear h
  go_enter Tryz.func49, Tryz.ntmps49
  go_wp2_with fail
  refine HG.out.mono ?_
  rintro e w2 ⟨vd, ve, rfl, hd, he, -, -, hb2⟩
  obtain ⟨A5, k5, rfl⟩ := bytesT_form hd
  obtain ⟨A6, k6, rfl⟩ := entsT_form he
  have HB := Lib.hid (al hb2 (.cells (ndC n (.slice A5 n.data.length k5) (.slice A6 n.ents.length k6)) 59))
  clear hd he hb2
  go_wp2
  go_ret
  exact ⟨rfl, HB.out⟩
set_option maxHeartbeats 8000000 in
theorem qmay_any (v : Value) (t : List Nd) (c : Wh) (A0 : Option Addr) (m k : Nat) (F : Fo) (w : World) (h : TabP w v t) :
    Calls Tryz.prog 76 #[v, .agg #[.int .i64 c.u, .int .i64 c.g, .slice A0 m k], .agg #[.int .i64 F.dir, .string (bA F.name), .int .i64 F.node]] w fun e w' => e = .returned (.bool (stkB t c F)) ∧ Below w.heap.size w w' := by
  have hb1 := ba w (.cells #[.int .i64 c.u, .int .i64 c.g, .slice A0 m k] 25)
  have h11 := Blk.new w 25 #[.int .i64 c.u, .int .i64 c.g, .slice A0 m k]
  obtain ⟨W1, hW1⟩ : ∃ W, w.alloc (.cells #[.int .i64 c.u, .int .i64 c.g, .slice A0 m k] 25) = W := ⟨_, rfl⟩
  rw [hW1] at hb1 h11
  have hb2 := al hb1 (.cells #[.int .i64 F.dir, .string (bA F.name), .int .i64 F.node] 97)
  have h12 := h11.alloc (.cells #[.int .i64 F.dir, .string (bA F.name), .int .i64 F.node] 97)
  have h22 := Blk.new W1 97 #[.int .i64 F.dir, .string (bA F.name), .int .i64 F.node]
  obtain ⟨W2, hW2⟩ : ∃ W, W1.alloc (.cells #[.int .i64 F.dir, .string (bA F.name), .int .i64 F.node] 97) = W := ⟨_, rfl⟩
  rw [hW2] at hb2 h12 h22
  obtain ⟨z2, hz2⟩ : ∃ z, W1.heap.size = z := ⟨_, rfl⟩
  rw [hz2] at h22
  have HG := Lib.hid (get_any v t F.dir W2 (h.below hb2))
  have HG2 := Lib.hid (fun (W : World) (hb : Below W2.heap.size W2 W) => get_any v t F.node W ((h.below hb2).below hb))
  have HB2 := Lib.hid hb2
  have H1 := Lib.hid h12
  have H2 := Lib.hid h22
  obtain ⟨K, hK⟩ : ∃ K, stkB t c F = K := ⟨_, rfl⟩
  have HK := Lib.hid (show (c.u == 0 || bits .and .i64 (tget t F.dir).mode 512 == 0 || (tget t F.dir).uid == c.u || (tget t F.node).uid == c.u) = K from hK)
  rw [hK]
  generalize tget t F.dir = d at HG HK
  generalize tget t F.node = n at HG2 HK
  generalize tis t F.dir = q1 at HG
  generalize tis t F.node = q2 at HG2
  have HC := Lib.hid (fun W => sticky_any c.u c.g A0 m k d.mode d.uid n.uid W)
  unfold nodeV at HG HG2
  obtain ⟨k0, k1, k2⟩ := h12.c3
  obtain ⟨b0, b1, b2⟩ := h22.c3
  clear h hK hb1 hb2 h11 h12 h22
  go_enter Tryz.func76, Tryz.ntmps76
  go_wp2_with fail
  clear hW1 hW2 hz2
  refine HG.out.mono ?_
  rintro e w3 ⟨vd, ve, rfl, hd, he, -, -, hb⟩
  obtain ⟨A5, k5, rfl⟩ := bytesT_form hd
  obtain ⟨A6, k6, rfl⟩ := entsT_form he
  have hbx := al hb (.cells #[.int .i64 d.kind, .int .i64 d.mode, .int .i64 d.uid, .int .i64 d.gid, .slice A5 d.data.length k5, .slice A6 d.ents.length k6, .string (bA d.target)] 59)
  have hkx := Blk.new w3 59 #[.int .i64 d.kind, .int .i64 d.mode, .int .i64 d.uid, .int .i64 d.gid, .slice A5 d.data.length k5, .slice A6 d.ents.length k6, .string (bA d.target)]
  have hdx := hd.below (ba w3 (.cells #[.int .i64 d.kind, .int .i64 d.mode, .int .i64 d.uid, .int .i64 d.gid, .slice A5 d.data.length k5, .slice A6 d.ents.length k6, .string (bA d.target)] 59))
  have hex := he.below (ba w3 (.cells #[.int .i64 d.kind, .int .i64 d.mode, .int .i64 d.uid, .int .i64 d.gid, .slice A5 d.data.length k5, .slice A6 d.ents.length k6, .string (bA d.target)] 59))
  obtain ⟨W4, hW4⟩ : ∃ W, w3.alloc (.cells #[.int .i64 d.kind, .int .i64 d.mode, .int .i64 d.uid, .int .i64 d.gid, .slice A5 d.data.length k5, .slice A6 d.ents.length k6, .string (bA d.target)] 59) = W := ⟨_, rfl⟩
  obtain ⟨y, hy⟩ : ∃ z, w3.heap.size = z := ⟨_, rfl⟩
  rw [hW4] at hbx hkx hdx hex
  rw [hy] at hkx
  have HG3 := Lib.hid (HG2.out W4 hbx)
  have J4 := Lib.hid hbx
  have HD4 := Lib.hid hkx
  clear hd he hb hbx hkx hdx hex k0 k1 k2 b0 b1 b2 HG HG2
  obtain ⟨b0, b1, b2⟩ := (H2.out.below J4.out).c3
  go_wp2_with fail
  clear hW4 hy
  refine HG3.out.mono ?_
  rintro e w5 ⟨vd, ve, rfl, hd, he, -, -, hb⟩
  obtain ⟨A7, k7, rfl⟩ := bytesT_form hd
  obtain ⟨A8, k8, rfl⟩ := entsT_form he
  have hbx := al hb (.cells #[.int .i64 n.kind, .int .i64 n.mode, .int .i64 n.uid, .int .i64 n.gid, .slice A7 n.data.length k7, .slice A8 n.ents.length k8, .string (bA n.target)] 59)
  have hkx := Blk.new w5 59 #[.int .i64 n.kind, .int .i64 n.mode, .int .i64 n.uid, .int .i64 n.gid, .slice A7 n.data.length k7, .slice A8 n.ents.length k8, .string (bA n.target)]
  have hdx := hd.below (ba w5 (.cells #[.int .i64 n.kind, .int .i64 n.mode, .int .i64 n.uid, .int .i64 n.gid, .slice A7 n.data.length k7, .slice A8 n.ents.length k8, .string (bA n.target)] 59))
  have hex := he.below (ba w5 (.cells #[.int .i64 n.kind, .int .i64 n.mode, .int .i64 n.uid, .int .i64 n.gid, .slice A7 n.data.length k7, .slice A8 n.ents.length k8, .string (bA n.target)] 59))
  obtain ⟨W6, hW6⟩ : ∃ W, w5.alloc (.cells #[.int .i64 n.kind, .int .i64 n.mode, .int .i64 n.uid, .int .i64 n.gid, .slice A7 n.data.length k7, .slice A8 n.ents.length k8, .string (bA n.target)] 59) = W := ⟨_, rfl⟩
  obtain ⟨x, hx⟩ : ∃ z, w5.heap.size = z := ⟨_, rfl⟩
  rw [hW6] at hbx hkx hdx hex
  rw [hx] at hkx
  have J6 := Lib.hid (bt hbx J4.out)
  obtain ⟨k0, k1, k2⟩ := (H1.out.below J6.out).c3
  obtain ⟨p0, p1, p2, p3, p4, p5, p6⟩ := (HD4.out.below hbx).c7
  obtain ⟨r0, r1, r2, r3, r4, r5, r6⟩ := hkx.c7
  clear hd he hb hbx hkx hdx hex b0 b1 b2 HG3
  go_wp2_with fail
  clear hW6 hx
  refine (HC.out _).mono ?_
  rintro e w7 ⟨rfl, hb7⟩
  have HB7 := Lib.hid (bt hb7 (bt J6.out HB2.out))
  clear hb7
  go_wp2
  go_ret
  exact ⟨ret_bool HK.out, HB7.out⟩
/-! An entry is taken away, or not. -/
set_option maxHeartbeats 8000000 in
theorem qtake_yes (g : Nat) (t : List Nd) (P : Nat → Prop) (F : Fo) (w : World) (h : TabR w g t P) (hk : (tget t F.dir).kind = 2) (hm : F.name ∈ nmE (tget t F.dir).ents) (hP : ∀ b, w.heap.size ≤ b → P b) :
    Calls Tryz.prog 48 #[.pointer (some ⟨g, 0, none⟩), .agg #[.int .i64 F.dir, .string (bA F.name), .int .i64 F.node]] w fun e w' => e = .returned (.tuple #[]) ∧ TabR w' g (cutT t F.dir F.name) P ∧ w.grownBy w' (some g) := by
  have ho := h.ptr.ok.1
  have hti := kind_tis hk
  have hX : outE (tget t F.dir) F.name = 0 := by unfold outE; rw [if_neg (fun q => q hk), if_pos hm]
  have hr := (right_out (tis_right ho hti) hX).1
  have hfN := right_few hr
  have hb1 := ba w (.cells #[.int .i64 F.dir, .string (bA F.name), .int .i64 F.node] 97)
  have h11 := Blk.new w 97 #[.int .i64 F.dir, .string (bA F.name), .int .i64 F.node]
  obtain ⟨W1, hW1⟩ : ∃ W, w.alloc (.cells #[.int .i64 F.dir, .string (bA F.name), .int .i64 F.node] 97) = W := ⟨_, rfl⟩
  rw [hW1] at hb1 h11
  have hf := ok_few ho F.dir
  have HG := Lib.hid (get_any (.pointer (some ⟨g, 0, none⟩)) t F.dir W1 (h.below hb1).ptr)
  have HW := Lib.hid (fun (vd ve : Value) (W : World) (hd : BytesR W vd (tget t F.dir).data) (he : EntsR W ve (tget t F.dir).ents) => nwo_any (tget t F.dir) vd ve F.name W hd he hf.1 hf.2)
  obtain ⟨N, hN⟩ : ∃ N, outM (tget t F.dir) F.name = N := ⟨_, rfl⟩
  have HC := Lib.hid (show cutT t F.dir F.name = setT t F.dir N from by rw [← hN]; rfl)
  rw [hN] at hr hfN
  have HPT := Lib.hid (fun (vd ve : Value) (W : World) (hb : Below W1.heap.size W1 W) (hd : BytesR W vd N.data) (he : EntsR W ve N.ents) => show Calls Tryz.prog 78 #[.pointer (some ⟨g, 0, none⟩), .int .i64 F.dir, nodeV N vd ve] W fun e w' => ∃ x, e = .returned (.int .i64 x) ∧ TabR w' g (setT t F.dir N) P ∧ W.grownBy w' (some g) from by
    have h1 := put_any g t P F.dir N vd ve W ((h.below hb1).below hb) hd he hfN (fun b q => hP b (Nat.le_trans hb1.size (Nat.le_trans hb.size q)))
    rw [actT, if_pos rfl, if_pos ⟨hti, toB_true hr⟩] at h1
    exact h1.mono fun _ _ ⟨a1, a2, a3⟩ => ⟨_, a1, a2, a3⟩)
  rw [hX, hN] at HW
  have HB1 := Lib.hid hb1
  have H1 := Lib.hid h11
  obtain ⟨b0, b1, b2⟩ := h11.c3
  generalize tget t F.dir = d at HG HW
  generalize tis t F.dir = q1 at HG
  unfold nodeV at HG HW HPT
  clear h ho hX hN hk hm hti hr hfN hP hf hb1 h11
  go_enter Tryz.func48, Tryz.ntmps48
  go_wp2_with fail
  clear hW1
  refine HG.out.mono ?_
  rintro e w2 ⟨vd, ve, rfl, hd, he, -, -, hb⟩
  obtain ⟨A5, k5, rfl⟩ := bytesT_form hd
  obtain ⟨A6, k6, rfl⟩ := entsT_form he
  have hbx := al hb (.cells #[.int .i64 d.kind, .int .i64 d.mode, .int .i64 d.uid, .int .i64 d.gid, .slice A5 d.data.length k5, .slice A6 d.ents.length k6, .string (bA d.target)] 59)
  have hkx := Blk.new w2 59 #[.int .i64 d.kind, .int .i64 d.mode, .int .i64 d.uid, .int .i64 d.gid, .slice A5 d.data.length k5, .slice A6 d.ents.length k6, .string (bA d.target)]
  have hdx := hd.below (ba w2 (.cells #[.int .i64 d.kind, .int .i64 d.mode, .int .i64 d.uid, .int .i64 d.gid, .slice A5 d.data.length k5, .slice A6 d.ents.length k6, .string (bA d.target)] 59))
  have hex := he.below (ba w2 (.cells #[.int .i64 d.kind, .int .i64 d.mode, .int .i64 d.uid, .int .i64 d.gid, .slice A5 d.data.length k5, .slice A6 d.ents.length k6, .string (bA d.target)] 59))
  obtain ⟨W3, hW3⟩ : ∃ W, w2.alloc (.cells #[.int .i64 d.kind, .int .i64 d.mode, .int .i64 d.uid, .int .i64 d.gid, .slice A5 d.data.length k5, .slice A6 d.ents.length k6, .string (bA d.target)] 59) = W := ⟨_, rfl⟩
  obtain ⟨y, hy⟩ : ∃ z, w2.heap.size = z := ⟨_, rfl⟩
  rw [hW3] at hbx hkx hdx hex
  rw [hy] at hkx
  have HW3 := Lib.hid (HW.out _ _ W3 hdx.1 hex.1)
  have J3 := Lib.hid hbx
  obtain ⟨p0, p1, p2, p3, p4, p5, p6⟩ := hkx.c7
  clear b0 b1 b2
  obtain ⟨b0, b1, b2⟩ := (H1.out.below J3.out).c3
  clear hd he hb hbx hkx hdx hex HG HW
  go_wp2_with fail
  clear hW3 hy
  refine HW3.out.mono ?_
  rintro e w4 ⟨v, rfl, ⟨vd, ve, rfl, hd, he⟩, hb⟩
  obtain ⟨A7, k7, rfl⟩ := bytes_form hd rfl
  obtain ⟨A8, k8, rfl⟩ := ents_form he rfl
  unfold nodeV
  have hbx := al hb (.cells #[.int .i64 N.kind, .int .i64 N.mode, .int .i64 N.uid, .int .i64 N.gid, .slice A7 N.data.length k7, .slice A8 N.ents.length k8, .string (bA N.target)] 59)
  have hkx := Blk.new w4 59 #[.int .i64 N.kind, .int .i64 N.mode, .int .i64 N.uid, .int .i64 N.gid, .slice A7 N.data.length k7, .slice A8 N.ents.length k8, .string (bA N.target)]
  have hdx := hd.below (ba w4 (.cells #[.int .i64 N.kind, .int .i64 N.mode, .int .i64 N.uid, .int .i64 N.gid, .slice A7 N.data.length k7, .slice A8 N.ents.length k8, .string (bA N.target)] 59))
  have hex := he.below (ba w4 (.cells #[.int .i64 N.kind, .int .i64 N.mode, .int .i64 N.uid, .int .i64 N.gid, .slice A7 N.data.length k7, .slice A8 N.ents.length k8, .string (bA N.target)] 59))
  obtain ⟨W5, hW5⟩ : ∃ W, w4.alloc (.cells #[.int .i64 N.kind, .int .i64 N.mode, .int .i64 N.uid, .int .i64 N.gid, .slice A7 N.data.length k7, .slice A8 N.ents.length k8, .string (bA N.target)] 59) = W := ⟨_, rfl⟩
  obtain ⟨x, hx⟩ : ∃ z, w4.heap.size = z := ⟨_, rfl⟩
  rw [hW5] at hbx hkx hdx hex
  rw [hx] at hkx
  have J5 := Lib.hid (bt hbx J3.out)
  obtain ⟨r0, r1, r2, r3, r4, r5, r6⟩ := hkx.c7
  clear b0 b1 b2 p0 p1 p2 p3 p4 p5 p6
  obtain ⟨b0, b1, b2⟩ := (H1.out.below J5.out).c3
  have HP5 := Lib.hid (HPT.out _ _ W5 J5.out hdx hex)
  clear hd he hb hbx hkx hdx hex HW3 HPT
  go_wp2_with fail
  clear hW5 hx
  refine HP5.out.mono ?_
  rintro e w6 ⟨xx, rfl, ht, hg⟩
  have HE := Lib.hid (And.intro ht (grown_trans (grown_below (bt J5.out HB1.out) _) hg))
  clear ht hg
  go_wp2
  go_end0
  exact ⟨rfl, by rw [HC.out]; exact HE.out.1, HE.out.2⟩
set_option maxHeartbeats 8000000 in
theorem qtake_no (g : Nat) (t : List Nd) (P : Nat → Prop) (F : Fo) (w : World) (h : TabR w g t P) (hne : outE (tget t F.dir) F.name ≠ 0) :
    Calls Tryz.prog 48 #[.pointer (some ⟨g, 0, none⟩), .agg #[.int .i64 F.dir, .string (bA F.name), .int .i64 F.node]] w fun e w' => e = .returned (.tuple #[]) ∧ TabR w' g t P ∧ w.grownBy w' (some g) := by
  have ho := h.ptr.ok.1
  have hb1 := ba w (.cells #[.int .i64 F.dir, .string (bA F.name), .int .i64 F.node] 97)
  have h11 := Blk.new w 97 #[.int .i64 F.dir, .string (bA F.name), .int .i64 F.node]
  obtain ⟨W1, hW1⟩ : ∃ W, w.alloc (.cells #[.int .i64 F.dir, .string (bA F.name), .int .i64 F.node] 97) = W := ⟨_, rfl⟩
  rw [hW1] at hb1 h11
  have hf := ok_few ho F.dir
  have HG := Lib.hid (get_any (.pointer (some ⟨g, 0, none⟩)) t F.dir W1 (h.below hb1).ptr)
  have HW := Lib.hid (fun (vd ve : Value) (W : World) (hd : BytesR W vd (tget t F.dir).data) (he : EntsR W ve (tget t F.dir).ents) => nwo_any (tget t F.dir) vd ve F.name W hd he hf.1 hf.2)
  obtain ⟨X, hX⟩ : ∃ X, outE (tget t F.dir) F.name = X := ⟨_, rfl⟩
  obtain ⟨N, hN⟩ : ∃ N, outM (tget t F.dir) F.name = N := ⟨_, rfl⟩
  rw [hX] at hne
  have y1 : (X == 0) = false := by simpa using hne
  rw [hX, hN] at HW
  have HT := Lib.hid (h.below hb1)
  have HB1 := Lib.hid hb1
  have H1 := Lib.hid h11
  obtain ⟨b0, b1, b2⟩ := h11.c3
  generalize tget t F.dir = d at HG HW
  generalize tis t F.dir = q1 at HG
  unfold nodeV at HG HW
  clear h ho hX hN hne hf hb1 h11
  go_enter Tryz.func48, Tryz.ntmps48
  go_wp2_with fail
  clear hW1
  refine HG.out.mono ?_
  rintro e w2 ⟨vd, ve, rfl, hd, he, -, -, hb⟩
  obtain ⟨A5, k5, rfl⟩ := bytesT_form hd
  obtain ⟨A6, k6, rfl⟩ := entsT_form he
  have hbx := al hb (.cells #[.int .i64 d.kind, .int .i64 d.mode, .int .i64 d.uid, .int .i64 d.gid, .slice A5 d.data.length k5, .slice A6 d.ents.length k6, .string (bA d.target)] 59)
  have hkx := Blk.new w2 59 #[.int .i64 d.kind, .int .i64 d.mode, .int .i64 d.uid, .int .i64 d.gid, .slice A5 d.data.length k5, .slice A6 d.ents.length k6, .string (bA d.target)]
  have hdx := hd.below (ba w2 (.cells #[.int .i64 d.kind, .int .i64 d.mode, .int .i64 d.uid, .int .i64 d.gid, .slice A5 d.data.length k5, .slice A6 d.ents.length k6, .string (bA d.target)] 59))
  have hex := he.below (ba w2 (.cells #[.int .i64 d.kind, .int .i64 d.mode, .int .i64 d.uid, .int .i64 d.gid, .slice A5 d.data.length k5, .slice A6 d.ents.length k6, .string (bA d.target)] 59))
  obtain ⟨W3, hW3⟩ : ∃ W, w2.alloc (.cells #[.int .i64 d.kind, .int .i64 d.mode, .int .i64 d.uid, .int .i64 d.gid, .slice A5 d.data.length k5, .slice A6 d.ents.length k6, .string (bA d.target)] 59) = W := ⟨_, rfl⟩
  obtain ⟨y, hy⟩ : ∃ z, w2.heap.size = z := ⟨_, rfl⟩
  rw [hW3] at hbx hkx hdx hex
  rw [hy] at hkx
  have HW3 := Lib.hid (HW.out _ _ W3 hdx.1 hex.1)
  have J3 := Lib.hid hbx
  obtain ⟨p0, p1, p2, p3, p4, p5, p6⟩ := hkx.c7
  clear b0 b1 b2
  obtain ⟨b0, b1, b2⟩ := (H1.out.below J3.out).c3
  clear hd he hb hbx hkx hdx hex HG HW
  go_wp2_with fail
  clear hW3 hy
  refine HW3.out.mono ?_
  rintro e w4 ⟨v, rfl, ⟨vd, ve, rfl, hd, he⟩, hb⟩
  obtain ⟨A7, k7, rfl⟩ := bytes_form hd rfl
  obtain ⟨A8, k8, rfl⟩ := ents_form he rfl
  unfold nodeV
  have hbx := al hb (.cells #[.int .i64 N.kind, .int .i64 N.mode, .int .i64 N.uid, .int .i64 N.gid, .slice A7 N.data.length k7, .slice A8 N.ents.length k8, .string (bA N.target)] 59)
  have hkx := Blk.new w4 59 #[.int .i64 N.kind, .int .i64 N.mode, .int .i64 N.uid, .int .i64 N.gid, .slice A7 N.data.length k7, .slice A8 N.ents.length k8, .string (bA N.target)]
  have hdx := hd.below (ba w4 (.cells #[.int .i64 N.kind, .int .i64 N.mode, .int .i64 N.uid, .int .i64 N.gid, .slice A7 N.data.length k7, .slice A8 N.ents.length k8, .string (bA N.target)] 59))
  have hex := he.below (ba w4 (.cells #[.int .i64 N.kind, .int .i64 N.mode, .int .i64 N.uid, .int .i64 N.gid, .slice A7 N.data.length k7, .slice A8 N.ents.length k8, .string (bA N.target)] 59))
  obtain ⟨W5, hW5⟩ : ∃ W, w4.alloc (.cells #[.int .i64 N.kind, .int .i64 N.mode, .int .i64 N.uid, .int .i64 N.gid, .slice A7 N.data.length k7, .slice A8 N.ents.length k8, .string (bA N.target)] 59) = W := ⟨_, rfl⟩
  obtain ⟨x, hx⟩ : ∃ z, w4.heap.size = z := ⟨_, rfl⟩
  rw [hW5] at hbx hkx hdx hex
  rw [hx] at hkx
  have J5 := Lib.hid (bt hbx J3.out)
  obtain ⟨r0, r1, r2, r3, r4, r5, r6⟩ := hkx.c7
  clear b0 b1 b2 p0 p1 p2 p3 p4 p5 p6
  obtain ⟨b0, b1, b2⟩ := (H1.out.below J5.out).c3
  clear hd he hb hbx hkx hdx hex HW3
  go_wp2
  clear hW5 hx
  go_end0
  exact ⟨rfl, HT.out.below J5.out, grown_below (bt J5.out HB1.out) _⟩
set_option maxHeartbeats 8000000 in
theorem qgive_any (g : Nat) (t : List Nd) (P : Nat → Prop) (F : Fo) (id : Int) (w : World) (h : TabR w g t P) (hX : withE (tget t F.dir) F.name id = 0) (hn : F.name.length ≤ 1000) (hP : ∀ b, w.heap.size ≤ b → P b) :
    Calls Tryz.prog 58 #[.pointer (some ⟨g, 0, none⟩), .agg #[.int .i64 F.dir, .string (bA F.name), .int .i64 F.node], .int .i64 id] w fun e w' => e = .returned (.tuple #[]) ∧ TabR w' g (addT t F.dir F.name id) P ∧ w.grownBy w' (some g) := by
  have ho := h.ptr.ok.1
  have hti := kind_tis (withE_zero.1 hX).1
  have hr := (right_with (tis_right ho hti) hX).1
  have hfN := right_few hr
  have hb1 := ba w (.cells #[.int .i64 F.dir, .string (bA F.name), .int .i64 F.node] 97)
  have h11 := Blk.new w 97 #[.int .i64 F.dir, .string (bA F.name), .int .i64 F.node]
  obtain ⟨W1, hW1⟩ : ∃ W, w.alloc (.cells #[.int .i64 F.dir, .string (bA F.name), .int .i64 F.node] 97) = W := ⟨_, rfl⟩
  rw [hW1] at hb1 h11
  have hf := ok_few ho F.dir
  have HG := Lib.hid (get_any (.pointer (some ⟨g, 0, none⟩)) t F.dir W1 (h.below hb1).ptr)
  have HW := Lib.hid (fun (vd ve : Value) (W : World) (hd : BytesR W vd (tget t F.dir).data) (he : EntsR W ve (tget t F.dir).ents) => with_any (tget t F.dir) vd ve F.name id W hd he hf.1 hf.2 hn)
  obtain ⟨N, hN⟩ : ∃ N, withM (tget t F.dir) F.name id = N := ⟨_, rfl⟩
  have HC := Lib.hid (show addT t F.dir F.name id = setT t F.dir N from by rw [← hN]; rfl)
  rw [hN] at hr hfN
  have HPT := Lib.hid (fun (vd ve : Value) (W : World) (hb : Below W1.heap.size W1 W) (hd : BytesR W vd N.data) (he : EntsR W ve N.ents) => show Calls Tryz.prog 78 #[.pointer (some ⟨g, 0, none⟩), .int .i64 F.dir, nodeV N vd ve] W fun e w' => ∃ x, e = .returned (.int .i64 x) ∧ TabR w' g (setT t F.dir N) P ∧ W.grownBy w' (some g) from by
    have h1 := put_any g t P F.dir N vd ve W ((h.below hb1).below hb) hd he hfN (fun b q => hP b (Nat.le_trans hb1.size (Nat.le_trans hb.size q)))
    rw [actT, if_pos rfl, if_pos ⟨hti, toB_true hr⟩] at h1
    exact h1.mono fun _ _ ⟨a1, a2, a3⟩ => ⟨_, a1, a2, a3⟩)
  rw [hX, hN] at HW
  have HB1 := Lib.hid hb1
  have H1 := Lib.hid h11
  obtain ⟨b0, b1, b2⟩ := h11.c3
  generalize tget t F.dir = d at HG HW
  generalize tis t F.dir = q1 at HG
  unfold nodeV at HG HW HPT
  clear h ho hX hN hti hr hfN hP hn hf hb1 h11
  go_enter Tryz.func58, Tryz.ntmps58
  go_wp2_with fail
  clear hW1
  refine HG.out.mono ?_
  rintro e w2 ⟨vd, ve, rfl, hd, he, -, -, hb⟩
  obtain ⟨A5, k5, rfl⟩ := bytesT_form hd
  obtain ⟨A6, k6, rfl⟩ := entsT_form he
  have hbx := al hb (.cells #[.int .i64 d.kind, .int .i64 d.mode, .int .i64 d.uid, .int .i64 d.gid, .slice A5 d.data.length k5, .slice A6 d.ents.length k6, .string (bA d.target)] 59)
  have hkx := Blk.new w2 59 #[.int .i64 d.kind, .int .i64 d.mode, .int .i64 d.uid, .int .i64 d.gid, .slice A5 d.data.length k5, .slice A6 d.ents.length k6, .string (bA d.target)]
  have hdx := hd.below (ba w2 (.cells #[.int .i64 d.kind, .int .i64 d.mode, .int .i64 d.uid, .int .i64 d.gid, .slice A5 d.data.length k5, .slice A6 d.ents.length k6, .string (bA d.target)] 59))
  have hex := he.below (ba w2 (.cells #[.int .i64 d.kind, .int .i64 d.mode, .int .i64 d.uid, .int .i64 d.gid, .slice A5 d.data.length k5, .slice A6 d.ents.length k6, .string (bA d.target)] 59))
  obtain ⟨W3, hW3⟩ : ∃ W, w2.alloc (.cells #[.int .i64 d.kind, .int .i64 d.mode, .int .i64 d.uid, .int .i64 d.gid, .slice A5 d.data.length k5, .slice A6 d.ents.length k6, .string (bA d.target)] 59) = W := ⟨_, rfl⟩
  obtain ⟨y, hy⟩ : ∃ z, w2.heap.size = z := ⟨_, rfl⟩
  rw [hW3] at hbx hkx hdx hex
  rw [hy] at hkx
  have HW3 := Lib.hid (HW.out _ _ W3 hdx.1 hex.1)
  have J3 := Lib.hid hbx
  obtain ⟨p0, p1, p2, p3, p4, p5, p6⟩ := hkx.c7
  clear b0 b1 b2
  obtain ⟨b0, b1, b2⟩ := (H1.out.below J3.out).c3
  clear hd he hb hbx hkx hdx hex HG HW
  go_wp2_with fail
  clear hW3 hy
  refine HW3.out.mono ?_
  rintro e w4 ⟨v, rfl, ⟨vd, ve, rfl, hd, he⟩, hb⟩
  obtain ⟨A7, k7, rfl⟩ := bytes_form hd rfl
  obtain ⟨A8, k8, rfl⟩ := ents_form he rfl
  unfold nodeV
  have hbx := al hb (.cells #[.int .i64 N.kind, .int .i64 N.mode, .int .i64 N.uid, .int .i64 N.gid, .slice A7 N.data.length k7, .slice A8 N.ents.length k8, .string (bA N.target)] 59)
  have hkx := Blk.new w4 59 #[.int .i64 N.kind, .int .i64 N.mode, .int .i64 N.uid, .int .i64 N.gid, .slice A7 N.data.length k7, .slice A8 N.ents.length k8, .string (bA N.target)]
  have hdx := hd.below (ba w4 (.cells #[.int .i64 N.kind, .int .i64 N.mode, .int .i64 N.uid, .int .i64 N.gid, .slice A7 N.data.length k7, .slice A8 N.ents.length k8, .string (bA N.target)] 59))
  have hex := he.below (ba w4 (.cells #[.int .i64 N.kind, .int .i64 N.mode, .int .i64 N.uid, .int .i64 N.gid, .slice A7 N.data.length k7, .slice A8 N.ents.length k8, .string (bA N.target)] 59))
  obtain ⟨W5, hW5⟩ : ∃ W, w4.alloc (.cells #[.int .i64 N.kind, .int .i64 N.mode, .int .i64 N.uid, .int .i64 N.gid, .slice A7 N.data.length k7, .slice A8 N.ents.length k8, .string (bA N.target)] 59) = W := ⟨_, rfl⟩
  obtain ⟨x, hx⟩ : ∃ z, w4.heap.size = z := ⟨_, rfl⟩
  rw [hW5] at hbx hkx hdx hex
  rw [hx] at hkx
  have J5 := Lib.hid (bt hbx J3.out)
  obtain ⟨r0, r1, r2, r3, r4, r5, r6⟩ := hkx.c7
  clear b0 b1 b2 p0 p1 p2 p3 p4 p5 p6
  obtain ⟨b0, b1, b2⟩ := (H1.out.below J5.out).c3
  have HP5 := Lib.hid (HPT.out _ _ W5 J5.out hdx hex)
  clear hd he hb hbx hkx hdx hex HW3 HPT
  go_wp2_with fail
  clear hW5 hx
  refine HP5.out.mono ?_
  rintro e w6 ⟨xx, rfl, ht, hg⟩
  have HE := Lib.hid (And.intro ht (grown_trans (grown_below (bt J5.out HB1.out) _) hg))
  clear ht hg
  go_wp2
  go_end0
  exact ⟨rfl, by rw [HC.out]; exact HE.out.1, HE.out.2⟩
end Go.Proofs.YtiimdmbalnhmmaaGreat
