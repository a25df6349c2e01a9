/-
  The reference's WriteAt of stage 16. The conditions are said at each.
-/
import Derived.Test.YtfopnfgfoicidaaGreatFRb
import Derived.Test.YtfopnfgfoicidaaGreatFiN
namespace Go.Proofs.YtfopnfgfoicidaaGreat
open Go Go.RowKit
set_option maxRecDepth 100000

attribute [local go_sem] cell_off4 cell_blk4
/-- What answers with a table of the reference's and an error. -/
def FbE (P : Nat → Prop) (w : World) (T : List Nd) (x : Int) (e : Ending) (w' : World) : Prop := ∃ g' n' c', e = .returned (.tuple #[.agg #[.slice (some ⟨g', 0, none⟩) n' c'], .int .i64 x]) ∧ NsR P w' (.slice (some ⟨g', 0, none⟩) n' c') T ∧ Below w.heap.size w w'
theorem fbe_back {P Q : Nat → Prop} {w W : World} {g n c : Nat} {t T : List Nd} {R : Nat} {x y : Int} (h : NsR Q W (.slice (some ⟨g, 0, none⟩) n c) t) (hq : ∀ b, Q b → P b ∧ b ≠ R) (hb : Below w.heap.size w W) (hR : w.heap.size ≤ R) (e1 : y = x) (e2 : T = t) : FbE P w T y (.returned (.tuple #[.agg #[.slice (some ⟨g, 0, none⟩) n c], .int .i64 x])) (W.setCell ⟨R, 0, none⟩ (.slice (some ⟨g, 0, none⟩) n c)) := by
  subst e1 e2
  exact ⟨g, n, c, rfl, (h.other (grown_setCell W ⟨R, 0, none⟩ _) (fun b hb => (hq b hb).2)).mono (fun b hb _ => (hq b hb).1), below_grown hb (grown_setCell _ _ _) hR⟩
theorem pad_step (D : List UInt8) (j : Nat) : D ++ List.replicate (j + 1) 0 = (D ++ List.replicate j 0) ++ [0] := by rw [List.append_assoc, ← List.replicate_succ']
theorem pad_drop (D b : List UInt8) (o : Nat) : (D ++ List.replicate (o - D.length) 0).drop (o + b.length) = D.drop (o + b.length) := by
  by_cases h : o ≤ D.length
  · rw [show o - D.length = 0 by omega, List.replicate_zero, List.append_nil]
  · rw [List.drop_eq_nil_of_le (by rw [List.length_append, List.length_replicate]; omega), List.drop_eq_nil_of_le (by omega)]
theorem ovr_pad (D b : List UInt8) (o : Nat) : (D ++ List.replicate (o - D.length) 0).take o ++ b ++ (D ++ List.replicate (o - D.length) 0).drop (o + b.length) = ovr D o b := by
  rw [pad_drop, List.append_assoc]
  rfl
/-- A node of the reference's put in its place. -/
theorem rwith_ns {P : Nat → Prop} {v : Value} {t : List Nd} {i : Int} {n : Nd} {vn vk : Value} {w : World} (h : NsR P w v t) (hl : t.length ≤ 24) (hi : 1 ≤ i ∧ i ≤ t.length) (hN : StrsR w vn (nmA (nmE n.ents))) (hK : IntsR w vk (idE n.ents)) (hpn : LP (fun b => P b ∧ b < w.heap.size) vn) (hpk : LP (fun b => P b ∧ b < w.heap.size) vk) (hP : ∀ b, w.heap.size ≤ b → P b) :
    Calls Tryz.prog 32 #[.agg #[v], .int .i64 i, .agg (rfC n vn vk)] w fun e w' => ∃ g' n' c', e = .returned (.agg #[.slice (some ⟨g', 0, none⟩) n' c']) ∧ NsR P w' (.slice (some ⟨g', 0, none⟩) n' c') (setT t i n) ∧ Below w.heap.size w w' := by
  obtain ⟨k, hk⟩ : ∃ k : Nat, i = (k : Int) + 1 := ⟨(i - 1).toNat, by omega⟩
  have h1 := rwith_any v t k n vn vk w w h (Below.refl _ _) hl (by omega) hN hK hpn hpk
  rw [← hk] at h1
  refine h1.mono ?_
  rintro e w' ⟨v', rfl, hf, hb⟩
  have hn := hf.ns hb hP
  obtain ⟨g', c', rfl⟩ := ns_form hn
  exact ⟨g', _, c', rfl, hn, hb⟩
set_option maxHeartbeats 8000000 in
theorem rfwrite_not {P : Nat → Prop} (v : Value) (t : List Nd) (c : Wh) (A0 : Option Addr) (m0 k0 : Nat) (i off : Int) (b : List UInt8) (w : World) (h : NsR P w v t) (hl : t.length ≤ 24) (hk : ¬ (tget t i).kind = 1) :
    Calls Tryz.prog 17 #[.agg #[v], .agg #[.int .i64 c.u, .int .i64 c.g, .slice A0 m0 k0], .int .i64 i, .int .i64 off, .string (bA b)] w (FbE P w (fwT t c i off b) (fwE t i off b)) := by
  obtain ⟨g, cc, rfl⟩ := ns_form h
  have e1 : fwE t i off b = 9 := if_pos hk
  have e2 : fwT t c i off b = t := if_neg (fun q => by rw [e1] at q; exact absurd q.1 (by decide))
  rw [e1, e2]
  have hb1 := ba w (.cells #[.slice (some ⟨g, 0, none⟩) t.length cc] 32)
  have h11 := Blk.new w 32 #[.slice (some ⟨g, 0, none⟩) t.length cc]
  obtain ⟨W1, hW1⟩ : ∃ W, w.alloc (.cells #[.slice (some ⟨g, 0, none⟩) t.length cc] 32) = W := ⟨_, rfl⟩
  rw [hW1] at hb1 h11
  have hb2 := al hb1 (.cells #[.int .i64 c.u, .int .i64 c.g, .slice A0 m0 k0] 37)
  have h12 := h11.alloc (.cells #[.int .i64 c.u, .int .i64 c.g, .slice A0 m0 k0] 37)
  have h22 := Blk.new W1 37 #[.int .i64 c.u, .int .i64 c.g, .slice A0 m0 k0]
  have ne12 : w.heap.size ≠ W1.heap.size := Nat.ne_of_lt h11.lt
  obtain ⟨W2, hW2⟩ : ∃ W, W1.alloc (.cells #[.int .i64 c.u, .int .i64 c.g, .slice A0 m0 k0] 37) = W := ⟨_, rfl⟩
  rw [hW2] at hb2 h12 h22
  have hb3 := al hb2 (.cells #[.slice none 0 0] 32)
  have h13 := h12.alloc (.cells #[.slice none 0 0] 32)
  have h23 := h22.alloc (.cells #[.slice none 0 0] 32)
  have h33 := Blk.new W2 32 #[.slice none 0 0]
  have ne13 : w.heap.size ≠ W2.heap.size := Nat.ne_of_lt h12.lt
  have ne23 : W1.heap.size ≠ W2.heap.size := Nat.ne_of_lt h22.lt
  obtain ⟨W3, hW3⟩ : ∃ W, W2.alloc (.cells #[.slice none 0 0] 32) = W := ⟨_, rfl⟩
  rw [hW3] at hb3 h13 h23 h33
  have lo2 : w.heap.size ≤ W1.heap.size := hb1.size
  obtain ⟨z2, hz2⟩ : ∃ z, W1.heap.size = z := ⟨_, rfl⟩
  rw [hz2] at h23 lo2 ne12 ne23
  have lo3 : w.heap.size ≤ W2.heap.size := hb2.size
  obtain ⟨R, hzR⟩ : ∃ z, W2.heap.size = z := ⟨_, rfl⟩
  rw [hzR] at h33 lo3 ne13 ne23
  have HN := Lib.hid (show NsR (fun b => P b ∧ b ≠ R) W3 (.slice (some ⟨g, 0, none⟩) t.length cc) t from (h.mono (fun b hb hl => ⟨hb, by omega⟩)).below hb3)
  have HGT := Lib.hid (rget_rf _ t i W3 HN.out hl)
  have HB3 := Lib.hid hb3
  have H1 := Lib.hid h13
  have H2 := Lib.hid h23
  have H3 := Lib.hid h33
  have HL3 := Lib.hid lo3
  have HNE1 := Lib.hid ne13
  have HNE2 := Lib.hid ne23
  have t0 := h13.cell 0
  simp at t0
  generalize tget t i = d at HGT hk
  have y1 : (d.kind != 1) = true := by simpa using hk
  clear h hl hk e1 e2 hb1 hb2 hb3 h11 h12 h22 h13 h23 h33 lo2 lo3 ne12 ne13 ne23
  go_enter Tryz.func17, Tryz.ntmps17
  go_wp2_with fail
  clear hW1 hW2 hz2 hW3 hzR
  refine HGT.out.mono ?_
  rintro e w4 ⟨vn, vk, rfl, hn, hk, hb4⟩
  obtain ⟨A1, k1, rfl⟩ := strs_form hn (nm_len _)
  obtain ⟨A2, k2, rfl⟩ := ints_form hk (idE_len _)
  have hbx := al hb4 (.cells #[.int .i64 d.kind, .int .i64 d.mode, .int .i64 d.uid, .int .i64 d.gid, .string (bA d.data), .slice A1 d.ents.length k1, .slice A2 d.ents.length k2, .string (bA d.target)] 82)
  have hf := Blk.new w4 82 #[.int .i64 d.kind, .int .i64 d.mode, .int .i64 d.uid, .int .i64 d.gid, .string (bA d.data), .slice A1 d.ents.length k1, .slice A2 d.ents.length k2, .string (bA d.target)]
  obtain ⟨W4, hW4⟩ : ∃ W, w4.alloc (.cells #[.int .i64 d.kind, .int .i64 d.mode, .int .i64 d.uid, .int .i64 d.gid, .string (bA d.data), .slice A1 d.ents.length k1, .slice A2 d.ents.length k2, .string (bA d.target)] 82) = W := ⟨_, rfl⟩
  obtain ⟨y, hy⟩ : ∃ z, w4.heap.size = z := ⟨_, rfl⟩
  have hny : R ≠ y := by rw [← hy]; exact Nat.ne_of_lt (H3.out.below hb4).lt
  rw [hW4] at hbx hf
  rw [hy] at hf
  have J4 := Lib.hid hbx
  obtain ⟨p0, p1, p2, p3, p4, p5, p6, p7⟩ := hf.c8
  clear hn hk hb4 hbx hf hny t0 HGT
  have hr := H3.out.below J4.out
  have hq := H1.out.below J4.out
  have r0 := hr.cell 0
  have r1 := hr.frozen 0
  have t0 := hq.cell 0
  simp at r0 t0
  have s0 : ∀ u, (W4.setCell ⟨R, 0, none⟩ u).cell? ⟨R, 0, none⟩ = some u := fun u => (hr.set_ 0 u).cell 0
  have HE := Lib.hid (fbe_back (P := P) (w := w) (R := R) (x := 9) (HN.out.below J4.out) (fun b hb => hb) (bt J4.out HB3.out) HL3.out ((show (9 : Int) = 9 ∧ t = t from ⟨rfl, rfl⟩)).1 ((show (9 : Int) = 9 ∧ t = t from ⟨rfl, rfl⟩)).2)
  clear hr hq
  go_wp2
  exact bodyPost_ret (v := .tuple #[.agg #[.slice (some ⟨g, 0, none⟩) t.length cc], .int .i64 9]) (by simp [results, Tryz.results17, go_sem, s0]) rfl HE.out
set_option maxHeartbeats 16000000 in
theorem rfwrite_file {P : Nat → Prop} (v : Value) (t : List Nd) (c : Wh) (A0 : Option Addr) (m0 k0 : Nat) (i off : Int) (b : List UInt8) (w : World) (h : NsR P w v t) (hl : t.length ≤ 24) (ho : okT t) (hbl : b.length ≤ 1000) (hP : ∀ b, w.heap.size ≤ b → P b) (hk : (tget t i).kind = 1) :
    Calls Tryz.prog 17 #[.agg #[v], .agg #[.int .i64 c.u, .int .i64 c.g, .slice A0 m0 k0], .int .i64 i, .int .i64 off, .string (bA b)] w (FbE P w (fwT t c i off b) (fwE t i off b)) := by
  obtain ⟨g, cc, rfl⟩ := ns_form h
  have hin := tis_in (kind_is hk)
  have hlen := (file_parts (tis_right ho (kind_is hk)) hk).2.2.2
  obtain ⟨X, hX⟩ : ∃ X, fwE t i off b = X := ⟨_, rfl⟩
  obtain ⟨T2, hT2⟩ : ∃ T, fwT t c i off b = T := ⟨_, rfl⟩
  have hx : X = if off < 0 then 22 else if b = [] then 0 else if 48 < off + (b.length : Int) then 27 else 0 := by rw [← hX]; unfold fwE; rw [if_neg (fun q => q hk)]
  have ht : T2 = if X = 0 ∧ b ≠ [] then setT t i (wrN c (tget t i) (ovr (tget t i).data off.toNat b)) else t := by rw [← hT2, ← hX]; rfl
  rw [hX, hT2]
  have hb1 := ba w (.cells #[.slice (some ⟨g, 0, none⟩) t.length cc] 32)
  have h11 := Blk.new w 32 #[.slice (some ⟨g, 0, none⟩) t.length cc]
  obtain ⟨W1, hW1⟩ : ∃ W, w.alloc (.cells #[.slice (some ⟨g, 0, none⟩) t.length cc] 32) = W := ⟨_, rfl⟩
  rw [hW1] at hb1 h11
  have hb2 := al hb1 (.cells #[.int .i64 c.u, .int .i64 c.g, .slice A0 m0 k0] 37)
  have h12 := h11.alloc (.cells #[.int .i64 c.u, .int .i64 c.g, .slice A0 m0 k0] 37)
  have h22 := Blk.new W1 37 #[.int .i64 c.u, .int .i64 c.g, .slice A0 m0 k0]
  have ne12 : w.heap.size ≠ W1.heap.size := Nat.ne_of_lt h11.lt
  obtain ⟨W2, hW2⟩ : ∃ W, W1.alloc (.cells #[.int .i64 c.u, .int .i64 c.g, .slice A0 m0 k0] 37) = W := ⟨_, rfl⟩
  rw [hW2] at hb2 h12 h22
  have hb3 := al hb2 (.cells #[.slice none 0 0] 32)
  have h13 := h12.alloc (.cells #[.slice none 0 0] 32)
  have h23 := h22.alloc (.cells #[.slice none 0 0] 32)
  have h33 := Blk.new W2 32 #[.slice none 0 0]
  have ne13 : w.heap.size ≠ W2.heap.size := Nat.ne_of_lt h12.lt
  have ne23 : W1.heap.size ≠ W2.heap.size := Nat.ne_of_lt h22.lt
  obtain ⟨W3, hW3⟩ : ∃ W, W2.alloc (.cells #[.slice none 0 0] 32) = W := ⟨_, rfl⟩
  rw [hW3] at hb3 h13 h23 h33
  have lo2 : w.heap.size ≤ W1.heap.size := hb1.size
  obtain ⟨z2, hz2⟩ : ∃ z, W1.heap.size = z := ⟨_, rfl⟩
  rw [hz2] at h23 lo2 ne12 ne23
  have lo3 : w.heap.size ≤ W2.heap.size := hb2.size
  obtain ⟨R, hzR⟩ : ∃ z, W2.heap.size = z := ⟨_, rfl⟩
  rw [hzR] at h33 lo3 ne13 ne23
  have HN := Lib.hid (show NsR (fun b => P b ∧ b ≠ R) W3 (.slice (some ⟨g, 0, none⟩) t.length cc) t from (h.mono (fun b hb hl => ⟨hb, by omega⟩)).below hb3)
  have HGT := Lib.hid (rgetp_any _ t i W3 HN.out hin hl)
  have HB3 := Lib.hid hb3
  have H1 := Lib.hid h13
  have H2 := Lib.hid h23
  have H3 := Lib.hid h33
  have HL3 := Lib.hid lo3
  have HNE1 := Lib.hid ne13
  have HNE2 := Lib.hid ne23
  have t0 := h13.cell 0
  simp at t0
  generalize tget t i = d at HGT hk hlen ht
  have y1 : (d.kind != 1) = false := by simpa using hk
  have HP := Lib.hid hP
  have HIN := Lib.hid (And.intro hin hl)
  have HXT0 := Lib.hid (And.intro hx ht)
  clear h hl ho hk hX hT2 hP hin hx ht hb1 hb2 hb3 h11 h12 h22 h13 h23 h33 lo2 lo3 ne12 ne13 ne23
  go_enter Tryz.func17, Tryz.ntmps17
  go_wp2_with fail
  clear hW1 hW2 hz2 hW3 hzR
  refine HGT.out.mono ?_
  rintro e w4 ⟨vn, vk, rfl, hn, hk, ln, lk, hb4⟩
  obtain ⟨A1, k1, rfl⟩ := strs_form hn (nm_len _)
  obtain ⟨A2, k2, rfl⟩ := ints_form hk (idE_len _)
  have hbx := al hb4 (.cells #[.int .i64 d.kind, .int .i64 d.mode, .int .i64 d.uid, .int .i64 d.gid, .string (bA d.data), .slice A1 d.ents.length k1, .slice A2 d.ents.length k2, .string (bA d.target)] 82)
  have hf := Blk.new w4 82 #[.int .i64 d.kind, .int .i64 d.mode, .int .i64 d.uid, .int .i64 d.gid, .string (bA d.data), .slice A1 d.ents.length k1, .slice A2 d.ents.length k2, .string (bA d.target)]
  obtain ⟨W4, hW4⟩ : ∃ W, w4.alloc (.cells #[.int .i64 d.kind, .int .i64 d.mode, .int .i64 d.uid, .int .i64 d.gid, .string (bA d.data), .slice A1 d.ents.length k1, .slice A2 d.ents.length k2, .string (bA d.target)] 82) = W := ⟨_, rfl⟩
  obtain ⟨y, hy⟩ : ∃ z, w4.heap.size = z := ⟨_, rfl⟩
  have hny : R ≠ y := by rw [← hy]; exact Nat.ne_of_lt (H3.out.below hb4).lt
  rw [hW4] at hbx hf
  rw [hy] at hf
  have hn4 := hn.below (ba w4 (.cells #[.int .i64 d.kind, .int .i64 d.mode, .int .i64 d.uid, .int .i64 d.gid, .string (bA d.data), .slice A1 d.ents.length k1, .slice A2 d.ents.length k2, .string (bA d.target)] 82))
  have hk4 := hk.below (ba w4 (.cells #[.int .i64 d.kind, .int .i64 d.mode, .int .i64 d.uid, .int .i64 d.gid, .string (bA d.data), .slice A1 d.ents.length k1, .slice A2 d.ents.length k2, .string (bA d.target)] 82))
  rw [hW4] at hn4 hk4
  have J4 := Lib.hid hbx
  have HF := Lib.hid hf
  have HNY := Lib.hid hny
  have HLN := Lib.hid (And.intro hn4 hk4)
  have HLP := Lib.hid (And.intro (ln.mono (fun b q => (⟨q.1, Nat.lt_of_lt_of_le q.2 hbx.size⟩ : (P b ∧ b ≠ R) ∧ b < W4.heap.size))) (lk.mono (fun b q => (⟨q.1, Nat.lt_of_lt_of_le q.2 hbx.size⟩ : (P b ∧ b ≠ R) ∧ b < W4.heap.size))))
  obtain ⟨p0, p1, p2, p3, p4, p5, p6, p7⟩ := hf.c8
  clear hn hk ln lk hn4 hk4 hb4 hbx hf hny t0 HGT
  obtain ⟨hx, ht⟩ := HXT0.out
  clear HXT0
  by_cases q1 : off < 0
  · rw [if_pos q1] at hx
    have HX := Lib.hid (show X = 22 ∧ T2 = t from ⟨hx, by rw [ht, hx]; rfl⟩)
    clear hx ht hlen
    have hr := H3.out.below J4.out
    have hq := H1.out.below J4.out
    have r0 := hr.cell 0
    have r1 := hr.frozen 0
    have t0 := hq.cell 0
    simp at r0 t0
    have s0 : ∀ u, (W4.setCell ⟨R, 0, none⟩ u).cell? ⟨R, 0, none⟩ = some u := fun u => (hr.set_ 0 u).cell 0
    have HE := Lib.hid (fbe_back (P := P) (w := w) (R := R) (x := 22) (HN.out.below J4.out) (fun b hb => hb) (bt J4.out HB3.out) HL3.out (HX.out).1 (HX.out).2)
    clear hr hq
    go_wp2
    exact bodyPost_ret (v := .tuple #[.agg #[.slice (some ⟨g, 0, none⟩) t.length cc], .int .i64 22]) (by simp [results, Tryz.results17, go_sem, s0]) rfl HE.out
  rw [if_neg q1] at hx
  obtain ⟨o, rfl⟩ : ∃ o : Nat, off = (o : Int) := ⟨off.toNat, by omega⟩
  by_cases q2 : b = []
  · have y2 : ((bA b).toList == ([] : List UInt8)) = true := (len0_iff b).2 q2
    rw [if_pos q2] at hx
    have HX := Lib.hid (show X = 0 ∧ T2 = t from ⟨hx, by rw [ht, if_neg (fun q => q.2 q2)]⟩)
    clear hx ht hlen q2
    have hr := H3.out.below J4.out
    have hq := H1.out.below J4.out
    have r0 := hr.cell 0
    have r1 := hr.frozen 0
    have t0 := hq.cell 0
    simp at r0 t0
    have s0 : ∀ u, (W4.setCell ⟨R, 0, none⟩ u).cell? ⟨R, 0, none⟩ = some u := fun u => (hr.set_ 0 u).cell 0
    have HE := Lib.hid (fbe_back (P := P) (w := w) (R := R) (x := 0) (HN.out.below J4.out) (fun b hb => hb) (bt J4.out HB3.out) HL3.out (HX.out).1 (HX.out).2)
    clear hr hq
    go_wp2
    exact bodyPost_ret (v := .tuple #[.agg #[.slice (some ⟨g, 0, none⟩) t.length cc], .int .i64 0]) (by simp [results, Tryz.results17, go_sem, s0]) rfl HE.out
  have y2 : ((bA b).toList == ([] : List UInt8)) = false := ne_nil_of b q2
  rw [if_neg q2] at hx
  have hsb := size_bA b
  by_cases q3 : o > 48
  · have y3 : (o : Int) > 48 := by omega
    rw [if_pos (by omega)] at hx
    have HX := Lib.hid (show X = 27 ∧ T2 = t from ⟨hx, by rw [ht, hx]; rfl⟩)
    clear hx ht hlen q2 q3
    have hr := H3.out.below J4.out
    have hq := H1.out.below J4.out
    have r0 := hr.cell 0
    have r1 := hr.frozen 0
    have t0 := hq.cell 0
    simp at r0 t0
    have s0 : ∀ u, (W4.setCell ⟨R, 0, none⟩ u).cell? ⟨R, 0, none⟩ = some u := fun u => (hr.set_ 0 u).cell 0
    have HE := Lib.hid (fbe_back (P := P) (w := w) (R := R) (x := 27) (HN.out.below J4.out) (fun b hb => hb) (bt J4.out HB3.out) HL3.out (HX.out).1 (HX.out).2)
    clear hr hq
    go_wp2
    exact bodyPost_ret (v := .tuple #[.agg #[.slice (some ⟨g, 0, none⟩) t.length cc], .int .i64 27]) (by simp [results, Tryz.results17, go_sem, s0]) rfl HE.out
  have y3 : ¬ (o : Int) > 48 := by omega
  by_cases q4 : o + b.length > 48
  · have y4 : IntKind.i64.wrap ((o : Int) + ((bA b).size : Int)) > 48 := by rw [IntKind.wrap_i64] <;> omega
    have y4' : (o : Int) + ((bA b).size : Int) > 48 := by omega
    rw [if_pos (by omega)] at hx
    have HX := Lib.hid (show X = 27 ∧ T2 = t from ⟨hx, by rw [ht, hx]; rfl⟩)
    clear hx ht hlen q2 q3 q4
    have hr := H3.out.below J4.out
    have hq := H1.out.below J4.out
    have r0 := hr.cell 0
    have r1 := hr.frozen 0
    have t0 := hq.cell 0
    simp at r0 t0
    have s0 : ∀ u, (W4.setCell ⟨R, 0, none⟩ u).cell? ⟨R, 0, none⟩ = some u := fun u => (hr.set_ 0 u).cell 0
    have HE := Lib.hid (fbe_back (P := P) (w := w) (R := R) (x := 27) (HN.out.below J4.out) (fun b hb => hb) (bt J4.out HB3.out) HL3.out (HX.out).1 (HX.out).2)
    clear hr hq
    go_wp2
    exact bodyPost_ret (v := .tuple #[.agg #[.slice (some ⟨g, 0, none⟩) t.length cc], .int .i64 27]) (by simp [results, Tryz.results17, go_sem, s0]) rfl HE.out
  have y4 : ¬ IntKind.i64.wrap ((o : Int) + ((bA b).size : Int)) > 48 := by rw [IntKind.wrap_i64] <;> omega
  have y4' : ¬ (o : Int) + ((bA b).size : Int) > 48 := by omega
  rw [if_neg (by omega)] at hx
  rw [if_pos ⟨hx, q2⟩, show ((o : Int)).toNat = o by omega] at ht
  have HX := Lib.hid (And.intro hx ht)
  have ho48 : o ≤ 48 := by omega
  have hb48 : (bA b).size ≤ 48 := by omega
  have hob : o + b.length ≤ 48 := by omega
  clear hx ht q2 q3 q4
  go_wp2
  go_loopg [13] (o - (bA d.data).size) (fun gh s13 wr => ∃ (j : Nat) (cur : ByteArray), s13 = .string cur ∧ (j = 0 ∨ d.data.length + j ≤ o) ∧ gh = o - cur.size ∧ tl cur = d.data ++ List.replicate j 0 ∧ W4 = wr)
  case atStart => exact ⟨0, bA d.data, rfl, .inl rfl, rfl, by rw [tl_bA]; simp, rfl⟩
  case round =>
    obtain ⟨j, cur, rfl, hj, rfl, hc, rfl⟩ := hrel
    have HC := Lib.hid hc
    have hcz : cur.size = d.data.length + j := by rw [← tl_len, hc, List.length_append, List.length_replicate]
    have hcz' : cur.size ≤ 48 := by omega
    clear hc
    by_cases h1 : cur.size < o
    · have y5 : (cur.size : Int) < (o : Int) := by omega
      have HN' := Lib.hid (show tl (cur ++ ⟨#[0]⟩) = d.data ++ List.replicate (j + 1) 0 from by rw [tl_app, HC.out, pad_step]; rfl)
      have hsz : (cur ++ ⟨#[0]⟩ : ByteArray).size = cur.size + 1 := by rw [← tl_len, HN'.out, List.length_append, List.length_replicate]; omega
      have HSZ := Lib.hid hsz
      have HZ := Lib.hid (And.intro hcz h1)
      clear hsz hcz h1 hj
      go_wp2
      go_roundg (o - (cur ++ ⟨#[0]⟩ : ByteArray).size)
      case measure => rw [HSZ.out]; have := HZ.out; omega
      case rel => exact ⟨j + 1, _, rfl, .inr (by have := HZ.out; omega), rfl, HN'.out, rfl⟩
    · have y5 : ¬ (cur.size : Int) < (o : Int) := by omega
      have hjo : j = o - d.data.length := by omega
      have hc := HC.out
      rw [hjo] at hc
      obtain ⟨z1, hz1⟩ : ∃ z, cur.extract 0 o = z := ⟨_, rfl⟩
      have hrun1 := run_slice_string_h W4 9 cur Tryz.underlying9 .i64 (o : Int) (by omega) (by omega)
      rw [show ((o : Int)).toNat = o by omega, hz1] at hrun1
      have ht1 : tl z1 = (tl cur).take o := by rw [← hz1, tl_ext, List.drop_zero]
      have hs1 : z1.size = o := by rw [← tl_len, ht1, List.length_take, tl_len]; omega
      have hs1' : z1.size ≤ 48 := by omega
      obtain ⟨out, hout⟩ : ∃ z, z1 ++ bA b = z := ⟨_, rfl⟩
      have ht2 : tl out = (tl cur).take o ++ b := by rw [← hout, tl_app, ht1, tl_bA]
      have hs2 : out.size = o + b.length := by rw [← tl_len, ht2, List.length_append, List.length_take, tl_len]; omega
      by_cases h2 : out.size < cur.size
      · have y6 : (z1.size : Int) + (b.length : Int) < (cur.size : Int) := by omega
        have hrun2 := run_slice_string_l W4 9 cur Tryz.underlying9 .i64 ((z1.size : Int) + (b.length : Int)) (by omega) (by omega)
        obtain ⟨z2', hz2'⟩ : ∃ z, cur.extract out.size cur.size = z := ⟨_, rfl⟩
        rw [show ((z1.size : Int) + (b.length : Int)).toNat = out.size by omega, hz2'] at hrun2
        have ht3 : tl z2' = (tl cur).drop (o + b.length) := by rw [← hz2', tl_ext, List.take_of_length_le (by rw [tl_len]; omega), hs2]
        have hs3 : z2'.size ≤ 48 := by rw [← tl_len, ht3, List.length_drop, tl_len]; omega
        have hs2' : (z1 ++ bA b : ByteArray).size ≤ 48 := by rw [hout]; omega
        have HO := Lib.hid (show bA (ovr d.data o b) = z1 ++ bA b ++ z2' from by rw [hout]; refine (bA_eq ?_).symm; rw [tl_app, ht2, ht3, hc, ovr_pad])
        clear hz1 ht1 hs1 hz2' ht3 hs2 ht2 hc hj hcz hjo h1 h2 hout
        have HWR := Lib.hid (fun (W : World) => show Calls Tryz.prog 33 #[.agg #[.int .i64 c.u, .int .i64 c.g, .slice A0 m0 k0], .agg #[.int .i64 d.kind, .int .i64 d.mode, .int .i64 d.uid, .int .i64 d.gid, .string (bA d.data), .slice A1 d.ents.length k1, .slice A2 d.ents.length k2, .string (bA d.target)], .string (z1 ++ bA b ++ z2')] W fun e w' => e = .returned (.agg (rfC (wrN c d (ovr d.data o b)) (.slice A1 d.ents.length k1) (.slice A2 d.ents.length k2))) ∧ Below W.heap.size W w' from by
          have h := rfwrt_any c A0 m0 k0 d A1 A2 d.ents.length k1 d.ents.length k2 (ovr d.data o b) W
          rw [HO.out] at h
          exact h)
        have HWT := Lib.hid (fun (W : World) (hb : Below W4.heap.size W4 W) => rwith_ns (n := wrN c d (ovr d.data o b)) (HN.out.below (bt hb J4.out)) HIN.out.2 HIN.out.1 (HLN.out.1.below hb) (HLN.out.2.below hb) (HLP.out.1.mono (fun b q => ⟨q.1, Nat.lt_of_lt_of_le q.2 hb.size⟩)) (HLP.out.2.mono (fun b q => ⟨q.1, Nat.lt_of_lt_of_le q.2 hb.size⟩)) (fun b q => ⟨HP.out b (by have h1 := (bt (bt hb J4.out) HB3.out).size; omega), by have h1 := (H3.out.below (bt hb J4.out)).lt; omega⟩))
        have HXT := Lib.hid (show X = 0 ∧ T2 = setT t i (wrN c d (ovr d.data o b)) from HX.out)
        generalize wrN c d (ovr d.data o b) = M at HWR HWT HXT
        have HPQ := Lib.hid (fun (W : World) (hb : Below W4.heap.size W4 W) => show W.cell? ⟨w.heap.size, 0, none⟩ = some (.slice (some ⟨g, 0, none⟩) t.length cc) ∧ W.cell? ⟨z2, 0, none⟩ = some (.int .i64 c.u) ∧ W.cell? ⟨z2, 1, none⟩ = some (.int .i64 c.g) ∧ W.cell? ⟨z2, 2, none⟩ = some (.slice A0 m0 k0) ∧ W.cell? ⟨y, 0, none⟩ = some (.int .i64 d.kind) ∧ W.cell? ⟨y, 1, none⟩ = some (.int .i64 d.mode) ∧ W.cell? ⟨y, 2, none⟩ = some (.int .i64 d.uid) ∧ W.cell? ⟨y, 3, none⟩ = some (.int .i64 d.gid) ∧ W.cell? ⟨y, 4, none⟩ = some (.string (bA d.data)) ∧ W.cell? ⟨y, 5, none⟩ = some (.slice A1 d.ents.length k1) ∧ W.cell? ⟨y, 6, none⟩ = some (.slice A2 d.ents.length k2) ∧ W.cell? ⟨y, 7, none⟩ = some (.string (bA d.target)) from ⟨(H1.out.below (bt hb J4.out)).cell 0, (H2.out.below (bt hb J4.out)).c3.1, (H2.out.below (bt hb J4.out)).c3.2.1, (H2.out.below (bt hb J4.out)).c3.2.2, (HF.out.below hb).c8⟩)
        have HPS := Lib.hid (fun (W0 : World) (hb : Below W4.heap.size W4 W0) (u : Value) => show (W0.setCell ⟨R, 0, none⟩ u).cell? ⟨w.heap.size, 0, none⟩ = some (.slice (some ⟨g, 0, none⟩) t.length cc) ∧ (W0.setCell ⟨R, 0, none⟩ u).cell? ⟨z2, 0, none⟩ = some (.int .i64 c.u) ∧ (W0.setCell ⟨R, 0, none⟩ u).cell? ⟨z2, 1, none⟩ = some (.int .i64 c.g) ∧ (W0.setCell ⟨R, 0, none⟩ u).cell? ⟨z2, 2, none⟩ = some (.slice A0 m0 k0) ∧ (W0.setCell ⟨R, 0, none⟩ u).cell? ⟨y, 0, none⟩ = some (.int .i64 d.kind) ∧ (W0.setCell ⟨R, 0, none⟩ u).cell? ⟨y, 1, none⟩ = some (.int .i64 d.mode) ∧ (W0.setCell ⟨R, 0, none⟩ u).cell? ⟨y, 2, none⟩ = some (.int .i64 d.uid) ∧ (W0.setCell ⟨R, 0, none⟩ u).cell? ⟨y, 3, none⟩ = some (.int .i64 d.gid) ∧ (W0.setCell ⟨R, 0, none⟩ u).cell? ⟨y, 4, none⟩ = some (.string (bA d.data)) ∧ (W0.setCell ⟨R, 0, none⟩ u).cell? ⟨y, 5, none⟩ = some (.slice A1 d.ents.length k1) ∧ (W0.setCell ⟨R, 0, none⟩ u).cell? ⟨y, 6, none⟩ = some (.slice A2 d.ents.length k2) ∧ (W0.setCell ⟨R, 0, none⟩ u).cell? ⟨y, 7, none⟩ = some (.string (bA d.target)) from by
          have hg := grown_setCell W0 ⟨R, 0, none⟩ u
          have a := (H1.out.below (bt hb J4.out)).kept hg (some_ne HNE1.out)
          have b := (H2.out.below (bt hb J4.out)).kept hg (some_ne HNE2.out)
          have c := (HF.out.below hb).kept hg (some_ne (fun q => HNY.out q.symm))
          exact ⟨a.cell 0, b.c3.1, b.c3.2.1, b.c3.2.2, c.c8⟩)
        have HDR := Lib.hid (show Below W4.heap.size W4 W4.drew from (Below.refl _ _).drew)
        clear p0 p1 p2 p3 p4 p5 p6 p7
        obtain ⟨-, -, -, -, p0, p1, p2, p3, p4, p5, p6, p7⟩ := HPQ.out W4 (Below.refl _ _)
        go_upto_region 16 with fail
        go_region_held3 (fun W => W.cell? ⟨w.heap.size, 0, none⟩ = some (.slice (some ⟨g, 0, none⟩) t.length cc) ∧ W.cell? ⟨z2, 0, none⟩ = some (.int .i64 c.u) ∧ W.cell? ⟨z2, 1, none⟩ = some (.int .i64 c.g) ∧ W.cell? ⟨z2, 2, none⟩ = some (.slice A0 m0 k0) ∧ W.cell? ⟨y, 0, none⟩ = some (.int .i64 d.kind) ∧ W.cell? ⟨y, 1, none⟩ = some (.int .i64 d.mode) ∧ W.cell? ⟨y, 2, none⟩ = some (.int .i64 d.uid) ∧ W.cell? ⟨y, 3, none⟩ = some (.int .i64 d.gid) ∧ W.cell? ⟨y, 4, none⟩ = some (.string (bA d.data)) ∧ W.cell? ⟨y, 5, none⟩ = some (.slice A1 d.ents.length k1) ∧ W.cell? ⟨y, 6, none⟩ = some (.slice A2 d.ents.length k2) ∧ W.cell? ⟨y, 7, none⟩ = some (.string (bA d.target)))
          (first | (with_reducible exact HPQ.out _ HDR.out) | (with_reducible exact HPQ.out _ J5.out) | (with_reducible exact HPQ.out _ J6.out) | (with_reducible exact ⟨t0, t1, t2, t3, t4, t5, t6, t7, t8, t9, t10, t11⟩))
          (first
          | (go_at_call 33; (with_reducible refine (HWR.out W4.drew).mono ?_); rintro e w5 ⟨rfl, hb5⟩; have J5 := Lib.hid (bt hb5 HDR.out); clear hb5)
          | (go_at_call 32; (with_reducible refine (HWT.out w5 J5.out).mono ?_); rintro e w6 ⟨g', n', c', rfl, h2, hb6⟩; have J6 := Lib.hid (bt hb6 J5.out); have HN6 := Lib.hid h2; have hr := H3.out.below (bt J6.out J4.out); have r0 := hr.cell 0; have r1 := hr.frozen 0; simp at r0; have s0 : ∀ u, (w6.setCell ⟨R, 0, none⟩ u).cell? ⟨R, 0, none⟩ = some u := (fun u => (hr.set_ 0 u).cell 0); obtain ⟨t0, t1, t2, t3, t4, t5, t6, t7, t8, t9, t10, t11⟩ := HPS.out w6 J6.out (.slice (some ⟨g', 0, none⟩) n' c'); clear h2 hb6 hr))
        all_goals (
          go_wp2
          exact bodyPost_ret (v := .tuple #[.agg #[.slice (some ⟨g', 0, none⟩) n' c'], .int .i64 0]) (by simp [results, Tryz.results17, go_sem, s0]) rfl (fbe_back (P := P) HN6.out (fun b hb => hb) (bt (bt J6.out J4.out) HB3.out) HL3.out HXT.out.1 HXT.out.2))
      · have y6 : ¬ (z1.size : Int) + (b.length : Int) < (cur.size : Int) := by omega
        have HO := Lib.hid (show bA (ovr d.data o b) = z1 ++ bA b from by
          rw [hout]
          refine (bA_eq ?_).symm
          rw [ht2, hc, ← ovr_pad, ← hc, List.drop_eq_nil_of_le (by rw [tl_len]; omega), List.append_nil])
        clear hz1 ht1 hs1 hs2 ht2 hc hj hcz hjo h1 h2 hout
        have HWR := Lib.hid (fun (W : World) => show Calls Tryz.prog 33 #[.agg #[.int .i64 c.u, .int .i64 c.g, .slice A0 m0 k0], .agg #[.int .i64 d.kind, .int .i64 d.mode, .int .i64 d.uid, .int .i64 d.gid, .string (bA d.data), .slice A1 d.ents.length k1, .slice A2 d.ents.length k2, .string (bA d.target)], .string (z1 ++ bA b)] W fun e w' => e = .returned (.agg (rfC (wrN c d (ovr d.data o b)) (.slice A1 d.ents.length k1) (.slice A2 d.ents.length k2))) ∧ Below W.heap.size W w' from by
          have h := rfwrt_any c A0 m0 k0 d A1 A2 d.ents.length k1 d.ents.length k2 (ovr d.data o b) W
          rw [HO.out] at h
          exact h)
        have HWT := Lib.hid (fun (W : World) (hb : Below W4.heap.size W4 W) => rwith_ns (n := wrN c d (ovr d.data o b)) (HN.out.below (bt hb J4.out)) HIN.out.2 HIN.out.1 (HLN.out.1.below hb) (HLN.out.2.below hb) (HLP.out.1.mono (fun b q => ⟨q.1, Nat.lt_of_lt_of_le q.2 hb.size⟩)) (HLP.out.2.mono (fun b q => ⟨q.1, Nat.lt_of_lt_of_le q.2 hb.size⟩)) (fun b q => ⟨HP.out b (by have h1 := (bt (bt hb J4.out) HB3.out).size; omega), by have h1 := (H3.out.below (bt hb J4.out)).lt; omega⟩))
        have HXT := Lib.hid (show X = 0 ∧ T2 = setT t i (wrN c d (ovr d.data o b)) from HX.out)
        generalize wrN c d (ovr d.data o b) = M at HWR HWT HXT
        have HPQ := Lib.hid (fun (W : World) (hb : Below W4.heap.size W4 W) => show W.cell? ⟨w.heap.size, 0, none⟩ = some (.slice (some ⟨g, 0, none⟩) t.length cc) ∧ W.cell? ⟨z2, 0, none⟩ = some (.int .i64 c.u) ∧ W.cell? ⟨z2, 1, none⟩ = some (.int .i64 c.g) ∧ W.cell? ⟨z2, 2, none⟩ = some (.slice A0 m0 k0) ∧ W.cell? ⟨y, 0, none⟩ = some (.int .i64 d.kind) ∧ W.cell? ⟨y, 1, none⟩ = some (.int .i64 d.mode) ∧ W.cell? ⟨y, 2, none⟩ = some (.int .i64 d.uid) ∧ W.cell? ⟨y, 3, none⟩ = some (.int .i64 d.gid) ∧ W.cell? ⟨y, 4, none⟩ = some (.string (bA d.data)) ∧ W.cell? ⟨y, 5, none⟩ = some (.slice A1 d.ents.length k1) ∧ W.cell? ⟨y, 6, none⟩ = some (.slice A2 d.ents.length k2) ∧ W.cell? ⟨y, 7, none⟩ = some (.string (bA d.target)) from ⟨(H1.out.below (bt hb J4.out)).cell 0, (H2.out.below (bt hb J4.out)).c3.1, (H2.out.below (bt hb J4.out)).c3.2.1, (H2.out.below (bt hb J4.out)).c3.2.2, (HF.out.below hb).c8⟩)
        have HPS := Lib.hid (fun (W0 : World) (hb : Below W4.heap.size W4 W0) (u : Value) => show (W0.setCell ⟨R, 0, none⟩ u).cell? ⟨w.heap.size, 0, none⟩ = some (.slice (some ⟨g, 0, none⟩) t.length cc) ∧ (W0.setCell ⟨R, 0, none⟩ u).cell? ⟨z2, 0, none⟩ = some (.int .i64 c.u) ∧ (W0.setCell ⟨R, 0, none⟩ u).cell? ⟨z2, 1, none⟩ = some (.int .i64 c.g) ∧ (W0.setCell ⟨R, 0, none⟩ u).cell? ⟨z2, 2, none⟩ = some (.slice A0 m0 k0) ∧ (W0.setCell ⟨R, 0, none⟩ u).cell? ⟨y, 0, none⟩ = some (.int .i64 d.kind) ∧ (W0.setCell ⟨R, 0, none⟩ u).cell? ⟨y, 1, none⟩ = some (.int .i64 d.mode) ∧ (W0.setCell ⟨R, 0, none⟩ u).cell? ⟨y, 2, none⟩ = some (.int .i64 d.uid) ∧ (W0.setCell ⟨R, 0, none⟩ u).cell? ⟨y, 3, none⟩ = some (.int .i64 d.gid) ∧ (W0.setCell ⟨R, 0, none⟩ u).cell? ⟨y, 4, none⟩ = some (.string (bA d.data)) ∧ (W0.setCell ⟨R, 0, none⟩ u).cell? ⟨y, 5, none⟩ = some (.slice A1 d.ents.length k1) ∧ (W0.setCell ⟨R, 0, none⟩ u).cell? ⟨y, 6, none⟩ = some (.slice A2 d.ents.length k2) ∧ (W0.setCell ⟨R, 0, none⟩ u).cell? ⟨y, 7, none⟩ = some (.string (bA d.target)) from by
          have hg := grown_setCell W0 ⟨R, 0, none⟩ u
          have a := (H1.out.below (bt hb J4.out)).kept hg (some_ne HNE1.out)
          have b := (H2.out.below (bt hb J4.out)).kept hg (some_ne HNE2.out)
          have c := (HF.out.below hb).kept hg (some_ne (fun q => HNY.out q.symm))
          exact ⟨a.cell 0, b.c3.1, b.c3.2.1, b.c3.2.2, c.c8⟩)
        have HDR := Lib.hid (show Below W4.heap.size W4 W4.drew from (Below.refl _ _).drew)
        clear p0 p1 p2 p3 p4 p5 p6 p7
        obtain ⟨-, -, -, -, p0, p1, p2, p3, p4, p5, p6, p7⟩ := HPQ.out W4 (Below.refl _ _)
        go_upto_region 16 with fail
        go_region_held3 (fun W => W.cell? ⟨w.heap.size, 0, none⟩ = some (.slice (some ⟨g, 0, none⟩) t.length cc) ∧ W.cell? ⟨z2, 0, none⟩ = some (.int .i64 c.u) ∧ W.cell? ⟨z2, 1, none⟩ = some (.int .i64 c.g) ∧ W.cell? ⟨z2, 2, none⟩ = some (.slice A0 m0 k0) ∧ W.cell? ⟨y, 0, none⟩ = some (.int .i64 d.kind) ∧ W.cell? ⟨y, 1, none⟩ = some (.int .i64 d.mode) ∧ W.cell? ⟨y, 2, none⟩ = some (.int .i64 d.uid) ∧ W.cell? ⟨y, 3, none⟩ = some (.int .i64 d.gid) ∧ W.cell? ⟨y, 4, none⟩ = some (.string (bA d.data)) ∧ W.cell? ⟨y, 5, none⟩ = some (.slice A1 d.ents.length k1) ∧ W.cell? ⟨y, 6, none⟩ = some (.slice A2 d.ents.length k2) ∧ W.cell? ⟨y, 7, none⟩ = some (.string (bA d.target)))
          (first | (with_reducible exact HPQ.out _ HDR.out) | (with_reducible exact HPQ.out _ J5.out) | (with_reducible exact HPQ.out _ J6.out) | (with_reducible exact ⟨t0, t1, t2, t3, t4, t5, t6, t7, t8, t9, t10, t11⟩))
          (first
          | (go_at_call 33; (with_reducible refine (HWR.out W4.drew).mono ?_); rintro e w5 ⟨rfl, hb5⟩; have J5 := Lib.hid (bt hb5 HDR.out); clear hb5)
          | (go_at_call 32; (with_reducible refine (HWT.out w5 J5.out).mono ?_); rintro e w6 ⟨g', n', c', rfl, h2, hb6⟩; have J6 := Lib.hid (bt hb6 J5.out); have HN6 := Lib.hid h2; have hr := H3.out.below (bt J6.out J4.out); have r0 := hr.cell 0; have r1 := hr.frozen 0; simp at r0; have s0 : ∀ u, (w6.setCell ⟨R, 0, none⟩ u).cell? ⟨R, 0, none⟩ = some u := (fun u => (hr.set_ 0 u).cell 0); obtain ⟨t0, t1, t2, t3, t4, t5, t6, t7, t8, t9, t10, t11⟩ := HPS.out w6 J6.out (.slice (some ⟨g', 0, none⟩) n' c'); clear h2 hb6 hr))
        all_goals (
          go_wp2
          exact bodyPost_ret (v := .tuple #[.agg #[.slice (some ⟨g', 0, none⟩) n' c'], .int .i64 0]) (by simp [results, Tryz.results17, go_sem, s0]) rfl (fbe_back (P := P) HN6.out (fun b hb => hb) (bt (bt J6.out J4.out) HB3.out) HL3.out HXT.out.1 HXT.out.2))
end Go.Proofs.YtfopnfgfoicidaaGreat
