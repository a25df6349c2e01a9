/-
  The walk of ClauseTurned: it answers true of every letters, sign and turn.
-/
import Derived.Test.YtbjajipeiigodaaDoorAwake
import Derived.Test.YtbjajipeiigodaaDoorTurnM
import Derived.Deep.QuietTactic
import Derived.BigQuiet
namespace Go.Proofs.YtbjajipeiigodaaDoor
open Go Go.RowKit

/-- A slice that reads as bytes. -/
def BytesR (w : World) (v : Value) (l : List UInt8) : Prop := ∃ A c, v = .slice A l.length c ∧ ∀ (k : Nat) (b : UInt8), l[k]? = some b → ∃ ad : Addr, A = some ad ∧ w.cell? (ad.add k) = some (.int .u8 (co b))
theorem BytesR.below {w w' : World} {v : Value} {l : List UInt8} (h : BytesR w v l) (hb : Below w.heap.size w w') : BytesR w' v l := by
  obtain ⟨A, c, hv, hc⟩ := h
  refine ⟨A, c, hv, fun k b hk => ?_⟩
  obtain ⟨ad, hA, h0⟩ := hc k b hk
  exact ⟨ad, hA, (hb.cell (World.block_lt_of_cell? _ _ h0)).trans h0⟩
theorem ext4 : ∀ j : Fin 4, ((⟨#[117, 103, 111, 97]⟩ : ByteArray).extract j.val (j.val + 1)).data.toList = [[117, 103, 111, 97].getD j.val 0] := by decide +kernel
theorem ext6 : ∀ j : Fin 6, ((⟨#[114, 119, 120, 88, 115, 116]⟩ : ByteArray).extract j.val (j.val + 1)).data.toList = [[114, 119, 120, 88, 115, 116].getD j.val 0] := by decide +kernel
theorem w4_of (b : UInt8) : w4 b = [117, 103, 111, 97].getD (b.toNat % 4) 0 := by
  have h : b.toNat % 4 < 4 := Nat.mod_lt _ (by decide)
  unfold w4
  obtain e | e | e | e : b.toNat % 4 = 0 ∨ b.toNat % 4 = 1 ∨ b.toNat % 4 = 2 ∨ b.toNat % 4 = 3 := by omega
  all_goals rw [e]; rfl
theorem p6_of (b : UInt8) : p6 b = [114, 119, 120, 88, 115, 116].getD (b.toNat % 6) 0 := by
  have h : b.toNat % 6 < 6 := Nat.mod_lt _ (by decide)
  unfold p6
  obtain e | e | e | e | e | e : b.toNat % 6 = 0 ∨ b.toNat % 6 = 1 ∨ b.toNat % 6 = 2 ∨ b.toNat % 6 = 3 ∨ b.toNat % 6 = 4 ∨ b.toNat % 6 = 5 := by omega
  all_goals rw [e]; rfl
theorem sl_run (s : ByteArray) (n : Nat) (h : n + 1 ≤ s.size) (w : World) : (Instr.slice 9 (.string s) (some (.int .i64 (n : Int))) (some (.int .i64 ((n : Int) + 1))) none).run Tryd.prog w = .ok (.string (s.extract n (n + 1))) w := by
  have e := run_slice_string w 9 s .i64 .i64 (n : Int) ((n : Int) + 1) Tryd.underlying9 (by omega) (by omega) (by omega)
  rwa [show ((n : Int)).toNat = n by omega, show ((n : Int) + 1).toNat = n + 1 by omega] at e
theorem sl4 (b : UInt8) : ∃ (j : Nat) (t : ByteArray), co b % 4 = (j : Int) ∧ t.data.toList = [w4 b] ∧ ∀ w : World, (Instr.slice 9 (.string ⟨#[117, 103, 111, 97]⟩) (some (.int .i64 (j : Int))) (some (.int .i64 ((j : Int) + 1))) none).run Tryd.prog w = .ok (.string t) w := by
  have h : b.toNat % 4 < 4 := Nat.mod_lt _ (by decide)
  exact ⟨b.toNat % 4, _, by unfold co; omega, by rw [w4_of]; exact ext4 ⟨b.toNat % 4, h⟩, fun w => sl_run ⟨#[117, 103, 111, 97]⟩ _ (by show _ ≤ 4; omega) w⟩
theorem sl6 (b : UInt8) : ∃ (j : Nat) (t : ByteArray), co b % 6 = (j : Int) ∧ t.data.toList = [p6 b] ∧ ∀ w : World, (Instr.slice 9 (.string ⟨#[114, 119, 120, 88, 115, 116]⟩) (some (.int .i64 (j : Int))) (some (.int .i64 ((j : Int) + 1))) none).run Tryd.prog w = .ok (.string t) w := by
  have h : b.toNat % 6 < 6 := Nat.mod_lt _ (by decide)
  exact ⟨b.toNat % 6, _, by unfold co; omega, by rw [p6_of]; exact ext6 ⟨b.toNat % 6, h⟩, fun w => sl_run ⟨#[114, 119, 120, 88, 115, 116]⟩ _ (by show _ ≤ 6; omega) w⟩
theorem ext3 : ∀ j : Fin 3, ((⟨#[43, 45, 61]⟩ : ByteArray).extract j.val (j.val + 1)).data.toList = [g3 j.val] := by decide +kernel
theorem size_of {a : ByteArray} {l : List UInt8} (h : a.data.toList = l) : a.size = l.length := by rw [← h]; simp
theorem sl3 (op : Int) : ∃ (j : Nat) (t : ByteArray), op % 3 = (j : Int) ∧ t.data.toList = [g3 j] ∧ ∀ w : World, (Instr.slice 9 (.string ⟨#[43, 45, 61]⟩) (some (.int .i64 (j : Int))) (some (.int .i64 ((j : Int) + 1))) none).run Tryd.prog w = .ok (.string t) w := by
  have h : (op % 3).toNat < 3 := by omega
  exact ⟨(op % 3).toNat, _, by omega, ext3 ⟨(op % 3).toNat, h⟩, fun w => sl_run ⟨#[43, 45, 61]⟩ _ (by show _ ≤ 3; omega) w⟩
theorem rot_snoc (l : List UInt8) (t k : Nat) : rot l t (k + 1) = rot l t k ++ [l.getD ((k + t) % l.length) 0] := by
  unfold rot
  rw [List.range_succ, List.map_append]
  rfl
/-- Each letter twice. -/
def dup (l : List UInt8) : List UInt8 := l.flatMap fun c => [p6 c, p6 c]
theorem dup_snoc (l : List UInt8) (c : UInt8) : dup (l ++ [c]) = dup l ++ [p6 c, p6 c] := by simp [dup]
theorem dup_len (l : List UInt8) : (dup l).length = 2 * l.length := by
  unfold dup
  induction l with
  | nil => rfl
  | cons c l ih => rw [List.flatMap_cons, List.length_append, ih, List.length_cons]; simp; omega
theorem drew_below (w : World) (n : Nat) : Below w.heap.size w (w.drewN n) := ⟨rfl, rfl, rfl, Nat.le_refl _, fun _ _ => rfl⟩
/-- Both texts have one clause, the same. -/
theorem turn_same (lw lp : List UInt8) (t : Nat) (g : UInt8) (hg : g = 43 ∨ g = 45 ∨ g = 61) : ∃ c : CC, c.acts.length ≤ 10000 ∧ parseC (lw.map w4 ++ g :: lp.map p6) = some [c] ∧ parseC ((rot lw t lw.length).map w4 ++ ((rot lw t lw.length).map w4 ++ g :: dup (rot lp t lp.length))) = some [c] := by
  have hW : ∀ (l : List UInt8), ∀ c ∈ l.map w4, c ∈ [117, 103, 111, 97] := by
    intro l c hc
    obtain ⟨d, _, rfl⟩ := List.mem_map.1 hc
    exact w4_mem d
  have h1 := turn_text (lw.map w4) (lp.map p6) g hg (hW lw) (by
    intro c hc
    obtain ⟨d, _, rfl⟩ := List.mem_map.1 hc
    exact p6_mem d)
  have h2 := turn_text ((rot lw t lw.length).map w4 ++ (rot lw t lw.length).map w4) (dup (rot lp t lp.length)) g hg (by
    intro c hc
    rcases List.mem_append.1 hc with hc | hc
    · exact hW _ c hc
    · exact hW _ c hc) (by
    intro c hc
    unfold dup at hc
    rw [List.mem_flatMap] at hc
    obtain ⟨d, _, hd⟩ := hc
    simp only [List.mem_cons, List.mem_nil_iff, or_false, or_self] at hd
    rw [hd]
    exact p6_mem d)
  rw [List.append_assoc] at h2
  have e1 : orN wN ((rot lw t lw.length).map w4 ++ (rot lw t lw.length).map w4) 0 = orN wN (lw.map w4) 0 := by
    apply orN_same
    intro c
    simp only [List.mem_append, or_self, List.mem_map]
    constructor
    · rintro ⟨d, hd, rfl⟩; exact ⟨d, (rot_mem lw t d).1 hd, rfl⟩
    · rintro ⟨d, hd, rfl⟩; exact ⟨d, (rot_mem lw t d).2 hd, rfl⟩
  have e2 : orN pN (dup (rot lp t lp.length)) 0 = orN pN (lp.map p6) 0 := by
    apply orN_same
    intro c
    unfold dup
    simp only [List.mem_flatMap, List.mem_cons, List.mem_nil_iff, or_false, or_self, List.mem_map]
    constructor
    · rintro ⟨d, hd, rfl⟩; exact ⟨d, (rot_mem lp t d).1 hd, rfl⟩
    · rintro ⟨d, hd, rfl⟩; exact ⟨d, (rot_mem lp t d).2 hd, rfl⟩
  rw [e1, e2] at h2
  exact ⟨_, by simp, h1, h2⟩
set_option maxRecDepth 100000 in
set_option maxHeartbeats 4000000 in
theorem turnLaw (vw vp : Value) (lw lp : List UInt8) (op : Int) (t : Nat) (w : World) (hw : BytesR w vw lw) (hp : BytesR w vp lp) (o0 : 0 ≤ op) (t1 : t ≤ 255) (nw : lw.length ≤ 20) (np : lp.length ≤ 20) :
    Calls Tryd.prog 7 #[vw, vp, .int .u8 op, .int .u8 (t : Int)] w fun e w' => e = .returned (.bool true) ∧ Below w.heap.size w w' := by
  have n1 : ¬ (20 : Int) < lw.length := by omega
  have n2 : ¬ (20 : Int) < lp.length := by omega
  have HW := Lib.hid hw
  have HP := Lib.hid hp
  obtain ⟨Aw, cw, rfl, -⟩ := hw
  obtain ⟨Ap, cp, rfl, -⟩ := hp
  go_enter Tryd.func7, Tryd.ntmps7
  go_wp2_with fail
  refine (awake_any _).mono ?_
  rintro e w1 ⟨rfl, hb1⟩
  have B1 := Lib.hid hb1
  have W1 := Lib.hid (HW.out.below hb1)
  have P1 := Lib.hid (HP.out.below hb1)
  clear hb1
  go_wp2
  go_loop [10, 11, 12] (fun sa sb i => ∃ (k : Nat) (a b : ByteArray), k ≤ lw.length ∧ i = .int .i64 k ∧ sa = .string a ∧ sb = .string b ∧ a.data.toList = (lw.take k).map w4 ∧ b.data.toList = (rot lw t k).map w4) (fun _ _ i => lw.length - (intOf i).toNat)
  case atStart => exact ⟨0, ⟨#[]⟩, ⟨#[]⟩, Nat.zero_le _, rfl, rfl, rfl, rfl, rfl⟩
  case round =>
    obtain ⟨k, a, b, hk, rfl, rfl, rfl, ha, hb⟩ := hrel
    have HA := Lib.hid ha
    have HBB := Lib.hid hb
    clear ha hb
    by_cases hlt : k < lw.length
    · obtain ⟨x, hx⟩ : ∃ x, lw[k]? = some x := ⟨_, List.getElem?_eq_getElem hlt⟩
      obtain ⟨A2, c2, e2, hcc⟩ := W1.out
      injection e2 with eA _ eC
      subst eA
      subst eC
      obtain ⟨ad, rfl, c0⟩ := hcc k x hx
      have hx0 : 0 ≤ co x := (co_bd x).1
      have hml : (k + t) % lw.length < lw.length := Nat.mod_lt _ (by omega)
      obtain ⟨y, hy⟩ : ∃ y, lw[(k + t) % lw.length]? = some y := ⟨_, List.getElem?_eq_getElem hml⟩
      obtain ⟨ad', e3, c1⟩ := hcc _ y hy
      injection e3 with e3
      subst e3
      have hy0 : 0 ≤ co y := (co_bd y).1
      have HN := Lib.hid (show (lw.take (k + 1)).map w4 = (lw.take k).map w4 ++ [w4 x] by rw [take_snoc' hx, List.map_append]; rfl)
      have HM := Lib.hid (show (rot lw t (k + 1)).map w4 = (rot lw t k).map w4 ++ [w4 y] by
        rw [rot_snoc, List.map_append, List.getD_eq_getElem?_getD, hy]
        rfl)
      obtain ⟨m, hm⟩ : ∃ m, (k + t) % lw.length = m := ⟨_, rfl⟩
      have hmI : ((k : Int) + (t : Int)) % (lw.length : Int) = (m : Int) := by rw [← hm]; simp
      rw [hm] at c1 hml
      have hz : ((lw.length : Int) == 0) = false := by rw [beq_eq_false_iff_ne]; omega
      obtain ⟨j1, s1, hj1, hs1, hr1⟩ := sl4 x
      obtain ⟨j2, s2, hj2, hs2, hr2⟩ := sl4 y
      have HS1 := Lib.hid hs1
      have HS2 := Lib.hid hs2
      have hj14 : (j1 : Int) < 4 := by omega
      have hj24 : (j2 : Int) < 4 := by omega
      clear hs1 hs2 hcc hx hy hm
      have za : a.size ≤ 20 := by have := size_of HA.out; simp at this; omega
      have zb : b.size ≤ 20 := by have := size_of HBB.out; simp [rot] at this; omega
      have z1 : s1.size ≤ 1 := by have := size_of HS1.out; simp at this; omega
      have z2 : s2.size ≤ 1 := by have := size_of HS2.out; simp at this; omega
      go_wp2
      go_round
      case rel => exact ⟨k + 1, a ++ s1, b ++ s2, by omega, by go_num, rfl, rfl, by rw [ByteArray.data_append, Array.toList_append, HA.out, HS1.out, HN.out], by rw [ByteArray.data_append, Array.toList_append, HBB.out, HS2.out, HM.out]⟩
      case measure => simp [intOf]; omega
    · have ha := HA.out
      have hb := HBB.out
      obtain rfl : k = lw.length := by omega
      rw [List.take_of_length_le (Nat.le_refl _)] at ha
      obtain ⟨jo, so, hjo, hso, hro⟩ := sl3 op
      have hjo3 : (jo : Int) < 3 := by omega
      have za : a.size ≤ 20 := by have := size_of ha; simp at this; omega
      have zb : b.size ≤ 20 := by have := size_of hb; simp [rot] at this; omega
      have zo : so.size ≤ 1 := by have := size_of hso; simp at this; omega
      have HA2 := Lib.hid ha
      have HB2 := Lib.hid hb
      have HSO := Lib.hid hso
      clear ha hb hso HA HBB
      go_wp2
      go_loopg [10, 11, 16] lp.length (fun g sa sb i wr => ∃ (k : Nat) (a' b' : ByteArray), k ≤ lp.length ∧ g = lp.length - k ∧ i = .int .i64 k ∧ sa = .string a' ∧ sb = .string b' ∧ a'.data.toList = lw.map w4 ++ g3 jo :: (lp.take k).map p6 ∧ b'.data.toList = (rot lw t lw.length).map w4 ++ ((rot lw t lw.length).map w4 ++ g3 jo :: dup (rot lp t k)) ∧ Below w.heap.size w wr ∧ BytesR wr (.slice Ap lp.length cp) lp)
      case atStart => exact ⟨0, a ++ so, b ++ (b ++ so), Nat.zero_le _, rfl, rfl, rfl, rfl, by rw [ByteArray.data_append, Array.toList_append, HA2.out, HSO.out]; rfl, by rw [ByteArray.data_append, Array.toList_append, ByteArray.data_append, Array.toList_append, HB2.out, HSO.out]; rfl, B1.out, P1.out⟩
      case round =>
        obtain ⟨k, a', b', hk, rfl, rfl, rfl, rfl, ha, hb, hbw, hbr⟩ := hrel
        have HA := Lib.hid ha
        have HBB := Lib.hid hb
        have BW := Lib.hid hbw
        have PW := Lib.hid hbr
        clear ha hb hbw hbr
        by_cases hlt : k < lp.length
        · obtain ⟨x, hx⟩ : ∃ x, lp[k]? = some x := ⟨_, List.getElem?_eq_getElem hlt⟩
          obtain ⟨A2, c2, e2, hcc⟩ := PW.out
          injection e2 with eA _ eC
          subst eA
          subst eC
          obtain ⟨ad, rfl, c0⟩ := hcc k x hx
          have hx0 : 0 ≤ co x := (co_bd x).1
          have hml : (k + t) % lp.length < lp.length := Nat.mod_lt _ (by omega)
          obtain ⟨y, hy⟩ : ∃ y, lp[(k + t) % lp.length]? = some y := ⟨_, List.getElem?_eq_getElem hml⟩
          obtain ⟨ad', e3, c1⟩ := hcc _ y hy
          injection e3 with e3
          subst e3
          have hy0 : 0 ≤ co y := (co_bd y).1
          have HN := Lib.hid (show (lp.take (k + 1)).map p6 = (lp.take k).map p6 ++ [p6 x] by rw [take_snoc' hx, List.map_append]; rfl)
          have HM := Lib.hid (show dup (rot lp t (k + 1)) = dup (rot lp t k) ++ [p6 y, p6 y] by
            rw [rot_snoc, dup_snoc, List.getD_eq_getElem?_getD, hy]
            rfl)
          obtain ⟨m, hm⟩ : ∃ m, (k + t) % lp.length = m := ⟨_, rfl⟩
          have hmI : ((k : Int) + (t : Int)) % (lp.length : Int) = (m : Int) := by rw [← hm]; simp
          rw [hm] at c1 hml
          have hz : ((lp.length : Int) == 0) = false := by rw [beq_eq_false_iff_ne]; omega
          obtain ⟨j1, s1, hj1, hs1, hr1⟩ := sl6 x
          obtain ⟨j2, s2, hj2, hs2, hr2⟩ := sl6 y
          have HS1 := Lib.hid hs1
          have HS2 := Lib.hid hs2
          have hj14 : (j1 : Int) < 6 := by omega
          have hj24 : (j2 : Int) < 6 := by omega
          have za' : a'.size ≤ 100 := by have := size_of HA.out; simp at this; omega
          have zb' : b'.size ≤ 200 := by have := size_of HBB.out; simp [rot, dup_len] at this; omega
          have z1 : s1.size ≤ 1 := by have := size_of HS1.out; simp at this; omega
          have z2 : s2.size ≤ 1 := by have := size_of HS2.out; simp at this; omega
          clear hs1 hs2 hcc hx hy hm
          go_wp2_with fail
          have hwr : IntKind.i64.wrap ((j2 : Int) + 1) = (j2 : Int) + 1 := by rw [IntKind.wrap_i64]; omega
          go_quiet (fail)
          clear hwr
          go_wp2
          go_roundg (lp.length - (k + 1))
          case measure => omega
          case rel => exact ⟨k + 1, a' ++ s1, b' ++ (s2 ++ s2), by omega, rfl, by go_num, rfl, rfl, by rw [ByteArray.data_append, Array.toList_append, HA.out, HS1.out, HN.out]; simp, by rw [ByteArray.data_append, Array.toList_append, ByteArray.data_append, Array.toList_append, HBB.out, HS2.out, HM.out]; simp, BW.out.trans ((drew_below _ _).mono BW.out.size), PW.out.below (drew_below _ _)⟩
        · have ha := HA.out
          have hb := HBB.out
          obtain rfl : k = lp.length := by omega
          rw [List.take_of_length_le (Nat.le_refl _)] at ha
          obtain ⟨c, hcl, hx, hy⟩ := turn_same lw lp t (g3 jo) (g3_mem jo)
          rw [← ha] at hx
          rw [← hb] at hy
          have za' : a'.size ≤ 1000000 := by have := size_of ha; simp at this; omega
          have zb' : b'.size ≤ 1000000 := by have := size_of hb; simp [rot, dup_len] at this; omega
          have HX := Lib.hid (fun w => parse_any a' w za')
          have HY := Lib.hid (fun w => parse_any b' w zb')
          rw [hx] at HX
          rw [hy] at HY
          unfold ParsePost at HX HY
          simp only at HX HY
          have HCL := Lib.hid (show ∀ d ∈ [c], d.acts.length ≤ 10000 by intro d hd; rw [List.mem_singleton] at hd; rw [hd]; exact hcl)
          clear ha hb hx hy hcl HA HBB HA2 HB2
          go_wp2_with fail
          refine (HX.out _).mono ?_
          rintro e w2 ⟨v2, hb2, ho2, rfl⟩
          have C2 := Lib.hid (BW.out.trans (hb2.mono BW.out.size))
          have X2 := Lib.hid ho2.cls
          clear hb2 ho2
          go_wp2_with fail
          refine (HY.out _).mono ?_
          rintro e w3 ⟨v3, hb3, ho3, rfl⟩
          have C3 := Lib.hid (C2.out.trans (hb3.mono C2.out.size))
          have X3 := Lib.hid (X2.out.below hb3)
          have Y3 := Lib.hid ho3.cls
          clear hb3 ho3
          obtain ⟨Ax, cx, ex, -⟩ := X3.out
          have hlen1 : [c].length = 1 := rfl
          rw [hlen1] at ex
          subst ex
          go_wp2_with fail
          refine (model_any _ [c] w3 Y3.out (by simp) HCL.out).mono ?_
          rintro e w4 ⟨v4, rfl, hc4, hb4⟩
          have C4 := Lib.hid (C3.out.trans (hb4.mono C3.out.size))
          have X4 := Lib.hid (X3.out.below hb4)
          have M4 := Lib.hid hc4
          clear hb4 hc4
          go_wp2_with fail
          refine (same_any _ v4 [c] w4 X4.out M4.out (by simp) HCL.out).mono ?_
          rintro e w5 ⟨rfl, hb5⟩
          have C5 := Lib.hid (C4.out.trans (hb5.mono C4.out.size))
          clear hb5
          go_wp2
          go_ret
          exact ⟨rfl, C5.out⟩
set_option maxRecDepth 100000 in
theorem turnFar (vw vp : Value) (lw lp : List UInt8) (op t : Int) (w : World) (hw : BytesR w vw lw) (hp : BytesR w vp lp) (nw : lw.length ≤ maxLen) (np : lp.length ≤ maxLen) (hc : 20 < lw.length ∨ 20 < lp.length) :
    Calls Tryd.prog 7 #[vw, vp, .int .u8 op, .int .u8 t] w fun e w' => e = .returned (.bool true) ∧ Below w.heap.size w w' := by
  unfold maxLen at nw np
  obtain ⟨Aw, cw, rfl, -⟩ := hw
  obtain ⟨Ap, cp, rfl, -⟩ := hp
  by_cases h1 : (20 : Int) < lw.length
  · clear hc
    go_enter Tryd.func7, Tryd.ntmps7
    go_wp2_with fail
    refine (awake_any _).mono ?_
    rintro e w1 ⟨rfl, hb1⟩
    have B1 := Lib.hid hb1
    clear hb1
    go_wp2
    go_ret
    exact ⟨rfl, B1.out⟩
  · have h2 : (20 : Int) < lp.length := by omega
    clear hc
    go_enter Tryd.func7, Tryd.ntmps7
    go_wp2_with fail
    refine (awake_any _).mono ?_
    rintro e w1 ⟨rfl, hb1⟩
    have B1 := Lib.hid hb1
    clear hb1
    go_wp2
    go_ret
    exact ⟨rfl, B1.out⟩
theorem turnedLaw (vw vp : Value) (lw lp : List UInt8) (op t : Int) (w : World) (hw : BytesR w vw lw ∧ lw.length ≤ maxLen) (hp : BytesR w vp lp ∧ lp.length ≤ maxLen) (o0 : 0 ≤ op) (t0 : 0 ≤ t) (t1 : t ≤ 255) :
    Calls Tryd.prog 7 #[vw, vp, .int .u8 op, .int .u8 t] w fun e w' => e = .returned (.bool true) ∧ Below w.heap.size w w' := by
  by_cases h : 20 < lw.length ∨ 20 < lp.length
  · exact turnFar vw vp lw lp op t w hw.1 hp.1 hw.2 hp.2 h
  · obtain ⟨n, rfl⟩ := Int.eq_ofNat_of_zero_le t0
    exact turnLaw vw vp lw lp op n w hw.1 hp.1 o0 (by omega) (by omega) (by omega)
end Go.Proofs.YtbjajipeiigodaaDoor
