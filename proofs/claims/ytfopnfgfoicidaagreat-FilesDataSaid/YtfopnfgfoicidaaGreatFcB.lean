/-
  The program's file and ReadAt: a node, if it is a file; what its bytes are, from a place on. The conditions are said at each.
-/
import Derived.Test.YtfopnfgfoicidaaGreatFcA
import Derived.Test.YtfopnfgfoicidaaGreatRR
import Derived.Deep.RegionWith
import Derived.Deep.RegionHeld3
import Derived.Deep.DeepCutAuto
namespace Go.Proofs.YtfopnfgfoicidaaGreat
open Go Go.RowKit
set_option maxRecDepth 100000

attribute [local go_sem] cell_off4 cell_blk4
set_option maxHeartbeats 8000000 in
/-- A node, and whether it is a file. -/
theorem file_any {v : Value} {t : List Nd} {W : World} (h : TabP W v t) (i : Int) (n : Nd) (hn : tget t i = n) :
    Calls Tryz.prog 42 #[v, .int .i64 i] W fun e w' => ∃ A1 c1 A2 c2, e = .returned (.tuple #[.agg #[.int .i64 n.kind, .int .i64 n.mode, .int .i64 n.uid, .int .i64 n.gid, .slice A1 n.data.length c1, .slice A2 n.ents.length c2, .string (bA n.target)], .bool (n.kind == 1)]) ∧ (BytesT w' (.slice A1 n.data.length c1) n.data ∧ EntsT w' (.slice A2 n.ents.length c2) n.ents ∧ (0 < n.data.length → n.data.length ≤ c1)) ∧ Below W.heap.size W w' := by
  obtain ⟨q, hq⟩ : ∃ q, tis t i = q := ⟨_, rfl⟩
  have hb0 := ba W (.cells ndZ 56)
  have hk0 := Blk.new W 56 ndZ
  obtain ⟨W0, hW0⟩ : ∃ V, W.alloc (.cells ndZ 56) = V := ⟨_, rfl⟩
  rw [hW0] at hb0 hk0
  have HG := Lib.hid (get_formsC (h.below hb0) i n q hn hq)
  have HB0 := Lib.hid hb0
  have HK0 := Lib.hid hk0
  clear h hn hq hb0 hk0
  go_enter Tryz.func42, Tryz.ntmps42
  go_wp2_with fail
  clear hW0
  refine HG.out.mono ?_
  rintro e w1 ⟨A1, c1, A2, c2, rfl, ⟨hd, he, hc⟩, hb⟩
  have hbx := al hb (.cells #[.int .i64 n.kind, .int .i64 n.mode, .int .i64 n.uid, .int .i64 n.gid, .slice A1 n.data.length c1, .slice A2 n.ents.length c2, .string (bA n.target)] 56)
  have hkx := Blk.new w1 56 #[.int .i64 n.kind, .int .i64 n.mode, .int .i64 n.uid, .int .i64 n.gid, .slice A1 n.data.length c1, .slice A2 n.ents.length c2, .string (bA n.target)]
  have hdx : BytesT (w1.alloc (.cells #[.int .i64 n.kind, .int .i64 n.mode, .int .i64 n.uid, .int .i64 n.gid, .slice A1 n.data.length c1, .slice A2 n.ents.length c2, .string (bA n.target)] 56)) (.slice A1 n.data.length c1) n.data := hd.below (ba _ _)
  have hex : EntsT (w1.alloc (.cells #[.int .i64 n.kind, .int .i64 n.mode, .int .i64 n.uid, .int .i64 n.gid, .slice A1 n.data.length c1, .slice A2 n.ents.length c2, .string (bA n.target)] 56)) (.slice A2 n.ents.length c2) n.ents := he.below (ba _ _)
  have hlt : W.heap.size < w1.heap.size := Nat.lt_of_lt_of_le HK0.out.lt hb.size
  obtain ⟨W1, hW1⟩ : ∃ V, w1.alloc (.cells #[.int .i64 n.kind, .int .i64 n.mode, .int .i64 n.uid, .int .i64 n.gid, .slice A1 n.data.length c1, .slice A2 n.ents.length c2, .string (bA n.target)] 56) = V := ⟨_, rfl⟩
  obtain ⟨z, hz⟩ : ∃ z, w1.heap.size = z := ⟨_, rfl⟩
  rw [hW1] at hbx hkx hdx hex
  rw [hz] at hkx hlt
  have hrx := HK0.out.below hbx
  have HKX := Lib.hid hkx
  have HRX := Lib.hid hrx
  have hzn : z ≠ W.heap.size := Nat.ne_of_gt hlt
  have ht : Blk (((((((W1.setCell ⟨W.heap.size, 0, none⟩ (.int .i64 n.kind)).setCell ⟨W.heap.size, 1, none⟩ (.int .i64 n.mode)).setCell ⟨W.heap.size, 2, none⟩ (.int .i64 n.uid)).setCell ⟨W.heap.size, 3, none⟩ (.int .i64 n.gid)).setCell ⟨W.heap.size, 4, none⟩ (.slice A1 n.data.length c1)).setCell ⟨W.heap.size, 5, none⟩ (.slice A2 n.ents.length c2)).setCell ⟨W.heap.size, 6, none⟩ (.string (bA n.target))) z 56 #[.int .i64 n.kind, .int .i64 n.mode, .int .i64 n.uid, .int .i64 n.gid, .slice A1 n.data.length c1, .slice A2 n.ents.length c2, .string (bA n.target)] := HKX.out.kept (grown7 W1 W.heap.size (.int .i64 n.kind) (.int .i64 n.mode) (.int .i64 n.uid) (.int .i64 n.gid) (.slice A1 n.data.length c1) (.slice A2 n.ents.length c2) (.string (bA n.target))) (some_ne hzn)
  have HT := Lib.hid ht
  have hgr := (grown7 W1 W.heap.size (.int .i64 n.kind) (.int .i64 n.mode) (.int .i64 n.uid) (.int .i64 n.gid) (.slice A1 n.data.length c1) (.slice A2 n.ents.length c2) (.string (bA n.target)))
  have HD8 := Lib.hid (hdx.other hgr (fun ad n c hv => by obtain ⟨cs2, hc2⟩ := hdx.2 ad n c hv; exact blk_ne hc2 hrx (by decide)))
  have HE8 := Lib.hid (hex.other hgr (fun ad n c hv => by obtain ⟨cs2, hc2⟩ := hex.2 ad n c hv; exact blk_ne hc2 hrx (by decide)))
  have HB8 := Lib.hid (below_grown (bt hbx HB0.out) hgr (Nat.le_refl _))
  have HC8 := Lib.hid hc
  clear hb hd he hc hbx hkx hdx hex hlt hrx ht hzn hgr HG HK0 HB0
  go_upto_region 2 with fail
  clear hW1 hz
  have HPR := Lib.hid (fun (V : World) (hb : Below W1.heap.size W1 V) => show V.cell? ⟨z, 0, none⟩ = some (.int .i64 n.kind) ∧ V.cell? ⟨z, 1, none⟩ = some (.int .i64 n.mode) ∧ V.cell? ⟨z, 2, none⟩ = some (.int .i64 n.uid) ∧ V.cell? ⟨z, 3, none⟩ = some (.int .i64 n.gid) ∧ V.cell? ⟨z, 4, none⟩ = some (.slice A1 n.data.length c1) ∧ V.cell? ⟨z, 5, none⟩ = some (.slice A2 n.ents.length c2) ∧ V.cell? ⟨z, 6, none⟩ = some (.string (bA n.target)) from (HKX.out.below hb).c7)
  have j0 := Lib.hid (show Below W1.heap.size W1 W1.drew from (Below.refl _ _).drew)
  obtain ⟨t0, t1, t2, t3, t4, t5, t6⟩ := (HT.out.below (Below.refl _ _).drew).c7
  obtain ⟨x0, x1, x2, x3, x4, x5, x6⟩ := HRX.out.c7
  obtain ⟨f0, f1, f2, f3, f4, f5, f6⟩ := HRX.out.f7
  obtain ⟨s0, s1, s2, s3, s4, s5, s6⟩ := HRX.out.s7
  go_region_held3 (fun V => V.cell? ⟨z, 0, none⟩ = some (.int .i64 n.kind) ∧ V.cell? ⟨z, 1, none⟩ = some (.int .i64 n.mode) ∧ V.cell? ⟨z, 2, none⟩ = some (.int .i64 n.uid) ∧ V.cell? ⟨z, 3, none⟩ = some (.int .i64 n.gid) ∧ V.cell? ⟨z, 4, none⟩ = some (.slice A1 n.data.length c1) ∧ V.cell? ⟨z, 5, none⟩ = some (.slice A2 n.ents.length c2) ∧ V.cell? ⟨z, 6, none⟩ = some (.string (bA n.target)))
    (first | (with_reducible exact HPR.out _ j0.out) | (with_reducible exact ⟨t0, t1, t2, t3, t4, t5, t6⟩))
    (fail)
  all_goals (
    go_wp2
    exact bodyPost_ret (v := .tuple #[.agg #[.int .i64 n.kind, .int .i64 n.mode, .int .i64 n.uid, .int .i64 n.gid, .slice A1 n.data.length c1, .slice A2 n.ents.length c2, .string (bA n.target)], .bool (n.kind == 1)]) (by simp [results, Tryz.results42, go_sem, s0, s1, s2, s3, s4, s5, s6]) rfl ⟨_, _, _, _, rfl, ⟨HD8.out.below (Below.refl _ _).drew, HE8.out.below (Below.refl _ _).drew, HC8.out⟩, HB8.out.drew⟩)
/-- What ReadAt answers. -/
def FrA (w : World) (E : Int) (B : List UInt8) (e : Ending) (w' : World) : Prop := ∃ vb, e = .returned (.tuple #[vb, .int .i64 E]) ∧ BytesT w' vb B ∧ Below w.heap.size w w'
theorem fra_nil {w w' : World} {E x : Int} {B : List UInt8} (h : x = E) (hB : B = []) (hb : Below w.heap.size w w') : FrA w E B (.returned (.tuple #[.slice none 0 0, .int .i64 x])) w' := ⟨_, by rw [h], by rw [hB]; exact BytesT.nil w', hb⟩
set_option maxHeartbeats 8000000 in
theorem fread_any (v : Value) (t : List Nd) (i off n : Int) (w : World) (h : TabP w v t) (ho : okT t) :
    Calls Tryz.prog 15 #[v, .int .i64 i, .int .i64 off, .int .i64 n] w (FrA w (faE t i off n) (faB t i off n)) := by
  obtain ⟨N, hN⟩ : ∃ N, tget t i = N := ⟨_, rfl⟩
  have HL := Lib.hid (show N.kind = 1 → N.data.length ≤ 48 from fun hk => by rw [← hN] at hk ⊢; exact (file_parts (tis_right ho (kind_is hk)) hk).2.2.2)
  have HG := Lib.hid (file_any h i N hN)
  obtain ⟨E, hE⟩ : ∃ E, faE t i off n = E := ⟨_, rfl⟩
  obtain ⟨B, hB⟩ : ∃ B, faB t i off n = B := ⟨_, rfl⟩
  have hB2 := hB
  unfold faB at hB2
  rw [hE] at hB2
  have hE2 := hE
  unfold faE at hE2
  rw [hN] at hE2 hB2
  rw [hE, hB]
  have HE := Lib.hid hE2
  have HB := Lib.hid hB2
  clear h ho hN hE hB hB2 hE2
  go_enter Tryz.func15, Tryz.ntmps15
  go_wp2_with fail
  refine HG.out.mono ?_
  rintro e w1 ⟨A1, c1, A2, c2, rfl, ⟨hd, he, hc⟩, hb⟩
  have hbx := al hb (.cells #[.int .i64 N.kind, .int .i64 N.mode, .int .i64 N.uid, .int .i64 N.gid, .slice A1 N.data.length c1, .slice A2 N.ents.length c2, .string (bA N.target)] 56)
  have hkx := Blk.new w1 56 #[.int .i64 N.kind, .int .i64 N.mode, .int .i64 N.uid, .int .i64 N.gid, .slice A1 N.data.length c1, .slice A2 N.ents.length c2, .string (bA N.target)]
  have hdx : BytesT (w1.alloc (.cells #[.int .i64 N.kind, .int .i64 N.mode, .int .i64 N.uid, .int .i64 N.gid, .slice A1 N.data.length c1, .slice A2 N.ents.length c2, .string (bA N.target)] 56)) (.slice A1 N.data.length c1) N.data := hd.below (ba _ _)
  obtain ⟨W1, hW1⟩ : ∃ W, w1.alloc (.cells #[.int .i64 N.kind, .int .i64 N.mode, .int .i64 N.uid, .int .i64 N.gid, .slice A1 N.data.length c1, .slice A2 N.ents.length c2, .string (bA N.target)] 56) = W := ⟨_, rfl⟩
  obtain ⟨z, hz⟩ : ∃ z, w1.heap.size = z := ⟨_, rfl⟩
  rw [hW1] at hbx hkx hdx
  rw [hz] at hkx
  have HKX := Lib.hid hkx
  have HDX := Lib.hid hdx
  have HBX := Lib.hid hbx
  have HC := Lib.hid hc
  clear hb hd he hc hbx hkx hdx HG
  go_upto_region 2 with fail
  clear hW1 hz
  obtain ⟨a0, -, -, -, a4, -, -⟩ := HKX.out.c7
  by_cases qk : N.kind = 1
  case neg =>
    have yk : (N.kind == 1) = false := by simpa using qk
    have e1 : (9 : Int) = E := by rw [← HE.out, if_pos qk]
    have e2 : B = [] := by rw [← HB.out, if_neg (by rw [← e1]; decide)]
    have H1 := Lib.hid (And.intro e1 e2)
    clear qk e1 e2
    go_wp2
    go_ret2
    exact fra_nil H1.out.1 H1.out.2 HBX.out
  have yk : (N.kind == 1) = true := by simpa using qk
  have HQK := Lib.hid qk
  clear qk
  by_cases qo : off < 0 ∨ n < 0
  · have e1 : (22 : Int) = E := by rw [← HE.out, if_neg (fun q => q HQK.out), if_pos qo]
    have e2 : B = [] := by rw [← HB.out, if_neg (by rw [← e1]; decide)]
    have H1 := Lib.hid (And.intro e1 e2)
    clear e1 e2
    by_cases q1 : off < 0
    · clear qo
      go_wp2
      go_ret2
      exact fra_nil H1.out.1 H1.out.2 HBX.out
    · have q2 : n < 0 := qo.resolve_left q1
      clear qo
      go_wp2
      go_ret2
      exact fra_nil H1.out.1 H1.out.2 HBX.out
  have e1 : (0 : Int) = E := by rw [← HE.out, if_neg (fun q => q HQK.out), if_neg qo]
  have HE0 := Lib.hid e1
  have hB0 := HB.out
  rw [if_pos e1.symm] at hB0
  have HB0 := Lib.hid hB0
  clear e1 hB0 HE HB
  obtain ⟨o9, rfl⟩ : ∃ o : Nat, off = (o : Int) := ⟨off.toNat, by omega⟩
  obtain ⟨n9, rfl⟩ : ∃ o : Nat, n = (o : Int) := ⟨n.toNat, by omega⟩
  have q1 : ¬ (o9 : Int) < 0 := by omega
  have q2 : ¬ (n9 : Int) < 0 := by omega
  have hl48 := HL.out HQK.out
  clear qo
  obtain ⟨m9, hm9⟩ : ∃ m, min o9 N.data.length = m := ⟨_, rfl⟩
  have hmo : min (o9 : Int) (N.data.length : Int) = (m9 : Int) := by omega
  have hcap : N.data.length ≤ c1 := by
    by_cases h0 : 0 < N.data.length
    · exact HC.out h0
    · omega
  obtain ⟨AT, kt, htl, htd0⟩ := tail_bytes HDX.out.1 (show m9 ≤ N.data.length by omega) hcap
  have hdr : N.data.drop m9 = N.data.drop o9 := by
    by_cases h0 : o9 ≤ N.data.length
    · rw [show m9 = o9 by omega]
    · rw [List.drop_eq_nil_of_le (by omega), List.drop_eq_nil_of_le (by omega)]
  rw [hdr] at htd0
  obtain ⟨l9, hl9⟩ : ∃ l, N.data.length - m9 = l := ⟨_, rfl⟩
  rw [hl9] at htl htd0
  have hdl : (N.data.drop o9).length = l9 := by rw [← hdr, List.length_drop]; exact hl9
  obtain ⟨k9, hk9⟩ : ∃ k, min n9 l9 = k := ⟨_, rfl⟩
  have hk1 : k9 ≤ 48 := by omega
  have hmin : min (n9 : Int) (l9 : Int) = (k9 : Int) := by omega
  have hmk := make_zero k9 (by omega) W1
  have hbm := al HBX.out (.cells (bCells (List.replicate k9 0)).toArray 5)
  have hkm : RowB (W1.alloc (.cells (bCells (List.replicate k9 0)).toArray 5)) W1.heap.size (List.replicate k9 0) := Blk.new W1 5 _
  have htd := htd0.below (ba W1 (.cells (bCells (List.replicate k9 0)).toArray 5))
  have hxm := HKX.out.below (ba W1 (.cells (bCells (List.replicate k9 0)).toArray 5))
  obtain ⟨W2, hW2⟩ : ∃ W, W1.alloc (.cells (bCells (List.replicate k9 0)).toArray 5) = W := ⟨_, rfl⟩
  have hgw := HBX.out.size
  obtain ⟨g, hg⟩ : ∃ g, W1.heap.size = g := ⟨_, rfl⟩
  rw [hW2] at hbm hkm htd hxm hmk
  rw [hg] at hkm hmk hgw
  obtain ⟨W3, hcp, hrow, hgr⟩ := copy_bytes (o := 0) (dl := k9) (dc := k9) hkm htd (k := k9) (Nat.min_eq_right (by omega)) (by rw [List.length_replicate]; omega)
  have HR := Lib.hid (show FrA w E B (.returned (.tuple #[.slice (some ⟨g, 0, none⟩) k9 k9, .int .i64 0])) W3 from ⟨_, by rw [HE0.out], by
    have e : B = (List.replicate k9 (0 : UInt8)).take 0 ++ (N.data.drop o9).take k9 ++ (List.replicate k9 (0 : UInt8)).drop (0 + k9) := by
      have e0 : (N.data.drop o9).take n9 = (N.data.drop o9).take k9 := by rw [List.take_eq_take_min, hdl, hk9]
      rw [← HB0.out]
      simp [e0]
    rw [e]
    exact hrow.bytesT (by rw [List.take_zero, List.nil_append, List.length_append, List.length_take, hdl, List.length_drop, List.length_replicate]; omega), below_grown hbm hgr hgw⟩)
  have htl1 := htl W1
  clear htd0 htd hdr hdl hrow hgr hbm hkm hxm hW2 hg hgw htl hk9 hl9 hm9 hcap
  go_upto_region 9 with fail
  go_wp2
  go_ret2
  exact HR.out
theorem freadC : ReadC := fun v t i off n w h ho => fread_any v t i off n w h ho
end Go.Proofs.YtfopnfgfoicidaaGreat
