/-
  The walk of ApplyTwice: it answers true, whatever it is handed.
-/
import Derived.Test.YtbjajipeiigodaaDoorAwake
import Derived.Test.YtbjajipeiigodaaDoorAMath
namespace Go.Proofs.YtbjajipeiigodaaDoor
open Go Go.RowKit

theorem t8_wf {n : Int} (h : (Lit.int .u8 n).wf = true) : 0 ≤ n ∧ n ≤ 255 := by simpa [Lit.wf, IntKind.min, IntKind.max, IntKind.signed, IntKind.bits] using h
theorem t16_wf {n : Int} (h : (Lit.int .u16 n).wf = true) : 0 ≤ n ∧ n ≤ 65535 := by simpa [Lit.wf, IntKind.min, IntKind.max, IntKind.signed, IntKind.bits] using h
theorem tsign_at : (⟨#[43, 45, 61]⟩ : ByteArray)[0].toNat = 43 ∧ (⟨#[43, 45, 61]⟩ : ByteArray)[1].toNat = 45 ∧ (⟨#[43, 45, 61]⟩ : ByteArray)[2].toNat = 61 := ⟨rfl, rfl, rfl⟩
theorem tone_apply (op : UInt8) (I who' c' : Int) (who p c m : Nat) (dir : Bool) (u : Int) (w : World) (hI : I = co op) (hwho : who' = (who : Int)) (hc' : c' = (c : Int)) (ho : op = 43 ∨ op = 45 ∨ op = 61) (hw : who < 8) (hp : p < 64) (hc : c ≤ 3) (hpc : p = 0 ∨ c = 0) (hm : m < 4096) :
    Calls Tryd.prog 29 #[.slice (some ⟨w.heap.size + 1, 0, none⟩) 1 1, .int .i64 (m : Int), .bool dir, .int .i64 u] ((w.alloc (.cells #[.int .u8 I, .int .i64 (p : Int), .int .i64 c'] 60)).alloc (.cells #[.int .i64 who', .slice (some ⟨w.heap.size, 0, none⟩) 1 1] 34))
      fun e w' => e = .returned (.int .i64 (actN op who (u % 4096).toNat p c m dir : Nat)) ∧ Below w.heap.size w w' := by
  subst hI hwho hc'
  have h := apply_any (.slice (some ⟨w.heap.size + 1, 0, none⟩) 1 1) [⟨(who : Int), [⟨op, (p : Int), (c : Int)⟩]⟩] (m : Int) dir u _ (one_cls w op (who : Int) (p : Int) (c : Int)) (by simp) (by intro x hx; simp only [List.mem_singleton] at hx; subst hx; simp)
  rw [applyM_one op who p c m dir u ho hw hp hc hpc hm] at h
  refine h.mono fun e w' ⟨he, hb⟩ => ⟨he, ?_⟩
  have hb0 : Below w.heap.size w ((w.alloc (.cells #[.int .u8 (co op), .int .i64 (p : Int), .int .i64 (c : Int)] 60)).alloc (.cells #[.int .i64 (who : Int), .slice (some ⟨w.heap.size, 0, none⟩) 1 1] 34)) := ((Below.refl _ _).alloc (Nat.le_refl _) _).alloc (by simp) _
  exact hb0.trans (hb.mono hb0.size)
/-- What the closure has caught. -/
structure TW (a6 a14 a10 a11 : Nat) (who : Int) (p : Nat) (dir : Bool) (u : Int) (w : World) : Prop where
  c6 : w.cell? ⟨a6, 0, none⟩ = some (.int .u8 who)
  c14 : w.cell? ⟨a14, 0, none⟩ = some (.int .i64 (p : Int))
  c10 : w.cell? ⟨a10, 0, none⟩ = some (.bool dir)
  c11 : w.cell? ⟨a11, 0, none⟩ = some (.int .u16 u)
theorem TW.below {a6 a14 a10 a11 : Nat} {who : Int} {p : Nat} {dir : Bool} {u : Int} {w w' : World} (h : TW a6 a14 a10 a11 who p dir u w) (hb : Below w.heap.size w w') : TW a6 a14 a10 a11 who p dir u w' :=
  ⟨(hb.cell (World.block_lt_of_cell? _ _ h.c6)).trans h.c6, (hb.cell (World.block_lt_of_cell? _ _ h.c14)).trans h.c14, (hb.cell (World.block_lt_of_cell? _ _ h.c10)).trans h.c10, (hb.cell (World.block_lt_of_cell? _ _ h.c11)).trans h.c11⟩
set_option maxHeartbeats 1000000 in
theorem tone_any (op : UInt8) (I who : Int) (W p m : Nat) (dir : Bool) (u : Int) (a6 a14 a10 a11 : Nat) (w : World) (hI : I = co op) (ho : op = 43 ∨ op = 45 ∨ op = 61) (hW : who % 8 = (W : Int)) (h0 : 0 ≤ who) (hp : p < 64) (hm : m < 4096) (u0 : 0 ≤ u) (u1 : u ≤ 65535) (h : TW a6 a14 a10 a11 who p dir u w) :
    Calls Tryd.prog 33 #[.int .u8 I, .int .i64 (m : Int), .pointer (some ⟨a6, 0, none⟩), .pointer (some ⟨a14, 0, none⟩), .pointer (some ⟨a10, 0, none⟩), .pointer (some ⟨a11, 0, none⟩)] w fun e w' => e = .returned (.int .i64 (actN op W (u % 4096).toNat p 0 m dir : Nat)) ∧ Below w.heap.size w w' := by
  obtain ⟨c6, c14, c10, c11⟩ := h
  have l10 := World.block_lt_of_cell? _ _ c10
  have l11 := World.block_lt_of_cell? _ _ c11
  simp only at l10 l11
  have n10 : a10 ≠ w.heap.size := by omega
  have n11 : a11 ≠ w.heap.size := by omega
  have m10 : a10 ≠ w.heap.size + 1 := by omega
  have m11 : a11 ≠ w.heap.size + 1 := by omega
  have d10 : ((w.alloc (.cells #[.int .u8 I, .int .i64 (p : Int), .int .i64 0] 60)).alloc (.cells #[.int .i64 (W : Int), .slice (some ⟨w.heap.size, 0, none⟩) 1 1] 34)).cell? ⟨a10, 0, none⟩ = some (.bool dir) := by
    rw [World.cell?_alloc_lt _ _ _ (by simp; omega), World.cell?_alloc_lt _ _ _ (by simpa using l10)]; exact c10
  have d11 : ((w.alloc (.cells #[.int .u8 I, .int .i64 (p : Int), .int .i64 0] 60)).alloc (.cells #[.int .i64 (W : Int), .slice (some ⟨w.heap.size, 0, none⟩) 1 1] 34)).cell? ⟨a11, 0, none⟩ = some (.int .u16 u) := by
    rw [World.cell?_alloc_lt _ _ _ (by simp; omega), World.cell?_alloc_lt _ _ _ (by simpa using l11)]; exact c11
  have HAP := Lib.hid (tone_apply op I W 0 W p 0 m dir u w hI rfl rfl ho (by omega) hp (by decide) (.inr rfl) hm)
  clear hI ho
  go_enter Tryd.func33, Tryd.ntmps33
  go_wp2_with fail
  refine HAP.out.mono ?_
  rintro e w2 ⟨rfl, hb2⟩
  have HB2 := Lib.hid hb2
  clear hb2
  go_wp2
  go_ret
  exact ⟨rfl, HB2.out⟩
theorem no8 : ∀ q : Fin 64, clearN q.val 8 < 64 ∧ (clearN q.val 8).testBit 3 = false := by decide +kernel
set_option maxRecDepth 100000 in
set_option maxHeartbeats 4000000 in
theorem twice0 (who op perms mode : Int) (dir : Bool) (u : Int) (w : World) (a0 : 0 ≤ who) (b0 : 0 ≤ op) (c0 : 0 ≤ perms) (d0 : 0 ≤ mode) (u0 : 0 ≤ u) (u1 : u ≤ 65535) (hop : op % 3 = 0) : Calls Tryd.prog 11 #[.int .u8 who, .int .u8 op, .int .u8 perms, .int .u16 mode, .bool dir, .int .u16 u] w fun e w' => e = .returned (.bool true) ∧ Below w.heap.size w w' := by
  have hmf : ∀ (fn : Fn) (first cap : Array Value) (w : World), (Instr.makeFunc fn first cap).run Tryd.prog w = .ok (.func fn first cap) w := fun _ _ _ _ => rfl
  obtain ⟨q, hq⟩ : ∃ q : Nat, perms % 64 = (q : Int) := ⟨(perms % 64).toNat, by omega⟩
  obtain ⟨m, hm⟩ : ∃ m : Nat, mode % 4096 = (m : Int) := ⟨(mode % 4096).toNat, by omega⟩
  obtain ⟨W, hW⟩ : ∃ W : Nat, who % 8 = (W : Int) := ⟨(who % 8).toNat, by omega⟩
  have hq64 : q < 64 := by omega
  have hm4 : m < 4096 := by omega
  have h8 := no8 ⟨q, hq64⟩
  simp only at h8
  have hP : bits .andNot .i64 (q : Int) 8 = (clearN q 8 : Nat) := andNot_nat q 8 (by omega)
  generalize clearN q 8 = p at h8 hP
  obtain ⟨hp64, hp3⟩ := h8
  obtain ⟨um, hum⟩ : ∃ um, (u % 4096).toNat = um := ⟨_, rfl⟩
  have t1 := twice (op := 43) (op' := 43) W um p m dir hp3 (by decide)
  have t2 := twice (op := 45) (op' := 43) W um p m dir hp3 (by decide)
  have t3 := twice (op := 43) (op' := 45) W um p m dir hp3 (by decide)
  have t4 := twice (op := 61) (op' := 43) W um p m dir hp3 (by decide)
  have l43 := actN_lt 43 W um p 0 m dir
  have l45 := actN_lt 45 W um p 0 m dir
  have l61 := actN_lt 61 W um p 0 m dir
  have K1 := Lib.hid (fun (w0 : World) (a6 a14 a10 a11 : Nat) (h : TW a6 a14 a10 a11 who p dir u w0) => tone_any 43 43 who W p m dir u a6 a14 a10 a11 w0 rfl (by decide) hW a0 hp64 hm4 u0 u1 h)
  simp only [hum] at K1
  have K2 := Lib.hid (fun (w0 : World) (a6 a14 a10 a11 : Nat) (h : TW a6 a14 a10 a11 who p dir u w0) => tone_any 43 43 who W p (actN 43 W um p 0 m dir) dir u a6 a14 a10 a11 w0 rfl (by decide) hW a0 hp64 l43 u0 u1 h)
  simp only [hum, t1] at K2
  have P1 := Lib.hid (fun (w0 : World) (a6 a14 a10 a11 : Nat) (h : TW a6 a14 a10 a11 who p dir u w0) => tone_any 43 43 who W p m dir u a6 a14 a10 a11 w0 rfl (by decide) hW a0 hp64 hm4 u0 u1 h)
  simp only [hum] at P1
  have M1 := Lib.hid (fun (w0 : World) (a6 a14 a10 a11 : Nat) (h : TW a6 a14 a10 a11 who p dir u w0) => tone_any 45 45 who W p m dir u a6 a14 a10 a11 w0 rfl (by decide) hW a0 hp64 hm4 u0 u1 h)
  simp only [hum] at M1
  have E1 := Lib.hid (fun (w0 : World) (a6 a14 a10 a11 : Nat) (h : TW a6 a14 a10 a11 who p dir u w0) => tone_any 61 61 who W p m dir u a6 a14 a10 a11 w0 rfl (by decide) hW a0 hp64 hm4 u0 u1 h)
  simp only [hum] at E1
  have MP := Lib.hid (fun (w0 : World) (a6 a14 a10 a11 : Nat) (h : TW a6 a14 a10 a11 who p dir u w0) => tone_any 45 45 who W p (actN 43 W um p 0 m dir) dir u a6 a14 a10 a11 w0 rfl (by decide) hW a0 hp64 l43 u0 u1 h)
  simp only [hum, t2] at MP
  have PM := Lib.hid (fun (w0 : World) (a6 a14 a10 a11 : Nat) (h : TW a6 a14 a10 a11 who p dir u w0) => tone_any 43 43 who W p (actN 45 W um p 0 m dir) dir u a6 a14 a10 a11 w0 rfl (by decide) hW a0 hp64 l45 u0 u1 h)
  simp only [hum, t3] at PM
  have EP := Lib.hid (fun (w0 : World) (a6 a14 a10 a11 : Nat) (h : TW a6 a14 a10 a11 who p dir u w0) => tone_any 61 61 who W p (actN 43 W um p 0 m dir) dir u a6 a14 a10 a11 w0 rfl (by decide) hW a0 hp64 l43 u0 u1 h)
  simp only [hum, t4] at EP
  obtain ⟨X43, e43⟩ : ∃ X, actN 43 W um p 0 m dir = X := ⟨_, rfl⟩
  obtain ⟨X45, e45⟩ : ∃ X, actN 45 W um p 0 m dir = X := ⟨_, rfl⟩
  obtain ⟨X61, e61⟩ : ∃ X, actN 61 W um p 0 m dir = X := ⟨_, rfl⟩
  simp only [e43, e45, e61] at K1 K2 P1 M1 E1 MP PM EP
  have hsg := tsign_at.1
  clear t1 t2 t3 t4 l43 l45 l61 e43 e45 e61 hum hW
  go_enter Tryd.func11, Tryd.ntmps11
  go_wp2_with fail
  refine (awake3_any _).mono ?_
  rintro e w1 ⟨rfl, hb1⟩
  have hb0 : Below w.heap.size w (((w.alloc (.cells #[.int .u8 who] 5)).alloc (.cells #[.bool dir] 4)).alloc (.cells #[.int .u16 u] 58)) := (((Below.refl _ _).alloc (Nat.le_refl _) _).alloc (by simp) _).alloc (by simp; omega) _
  have B1 := Lib.hid (hb0.trans (hb1.mono hb0.size))
  have hz : w.heap.size + 2 < w1.heap.size := by have := hb1.size; simp at this; omega
  have T0 : TW w.heap.size w1.heap.size (w.heap.size + 1) (w.heap.size + 2) who p dir u (w1.alloc (.cells #[.int .i64 (p : Int)] 3)) := by
    refine ⟨?_, by simp, ?_, ?_⟩
    · rw [World.cell?_alloc_lt _ _ _ (by simp; omega), hb1.cell (by simp; omega), World.cell?_alloc_lt _ _ _ (by simp; omega), World.cell?_alloc_lt _ _ _ (by simp)]; simp
    · rw [World.cell?_alloc_lt _ _ _ (by simp; omega), hb1.cell (by simp), World.cell?_alloc_lt _ _ _ (by simp)]
      have e : w.heap.size + 1 = (w.alloc (.cells #[.int .u8 who] 5)).heap.size := by simp
      rw [e]; simp
    · rw [World.cell?_alloc_lt _ _ _ (by simp; omega), hb1.cell (by simp)]
      have e : w.heap.size + 2 = ((w.alloc (.cells #[.int .u8 who] 5)).alloc (.cells #[.bool dir] 4)).heap.size := by simp
      rw [e]; exact ((Blk.new _ _ _).cell 0).trans rfl
  have BA := Lib.hid (B1.out.alloc B1.out.size (.cells #[.int .i64 (p : Int)] 3))
  have T1 := Lib.hid T0
  clear hb1 hb0 T0
  go_wp2_with fail
  refine (K1.out _ _ _ _ _ T1.out).mono ?_
  rintro e v0 ⟨rfl, hb⟩
  have S0 := Lib.hid (T1.out.below hb)
  have D0 := Lib.hid (BA.out.trans (hb.mono BA.out.size))
  clear hb
  go_wp2_with fail
  refine (K2.out _ _ _ _ _ S0.out).mono ?_
  rintro e v1 ⟨rfl, hb⟩
  have S1 := Lib.hid (S0.out.below hb)
  have D1 := Lib.hid (D0.out.trans (hb.mono D0.out.size))
  clear hb
  go_wp2_with fail
  refine (P1.out _ _ _ _ _ S1.out).mono ?_
  rintro e v2 ⟨rfl, hb⟩
  have S2 := Lib.hid (S1.out.below hb)
  have D2 := Lib.hid (D1.out.trans (hb.mono D1.out.size))
  clear hb
  go_wp2_with fail
  refine (MP.out _ _ _ _ _ S2.out).mono ?_
  rintro e v3 ⟨rfl, hb⟩
  have S3 := Lib.hid (S2.out.below hb)
  have D3 := Lib.hid (D2.out.trans (hb.mono D2.out.size))
  clear hb
  go_wp2_with fail
  refine (M1.out _ _ _ _ _ S3.out).mono ?_
  rintro e v4 ⟨rfl, hb⟩
  have S4 := Lib.hid (S3.out.below hb)
  have D4 := Lib.hid (D3.out.trans (hb.mono D3.out.size))
  clear hb
  go_wp2_with fail
  refine (M1.out _ _ _ _ _ S4.out).mono ?_
  rintro e v5 ⟨rfl, hb⟩
  have S5 := Lib.hid (S4.out.below hb)
  have D5 := Lib.hid (D4.out.trans (hb.mono D4.out.size))
  clear hb
  go_wp2_with fail
  refine (PM.out _ _ _ _ _ S5.out).mono ?_
  rintro e v6 ⟨rfl, hb⟩
  have S6 := Lib.hid (S5.out.below hb)
  have D6 := Lib.hid (D5.out.trans (hb.mono D5.out.size))
  clear hb
  go_wp2_with fail
  refine (P1.out _ _ _ _ _ S6.out).mono ?_
  rintro e v7 ⟨rfl, hb⟩
  have S7 := Lib.hid (S6.out.below hb)
  have D7 := Lib.hid (D6.out.trans (hb.mono D6.out.size))
  clear hb
  go_wp2_with fail
  refine (P1.out _ _ _ _ _ S7.out).mono ?_
  rintro e v8 ⟨rfl, hb⟩
  have S8 := Lib.hid (S7.out.below hb)
  have D8 := Lib.hid (D7.out.trans (hb.mono D7.out.size))
  clear hb
  go_wp2_with fail
  refine (EP.out _ _ _ _ _ S8.out).mono ?_
  rintro e v9 ⟨rfl, hb⟩
  have S9 := Lib.hid (S8.out.below hb)
  have D9 := Lib.hid (D8.out.trans (hb.mono D8.out.size))
  clear hb
  go_wp2_with fail
  refine (E1.out _ _ _ _ _ S9.out).mono ?_
  rintro e v10 ⟨rfl, hb⟩
  have S10 := Lib.hid (S9.out.below hb)
  have D10 := Lib.hid (D9.out.trans (hb.mono D9.out.size))
  clear hb
  go_wp2
  go_ret
  exact ⟨rfl, D10.out⟩
set_option maxRecDepth 100000 in
set_option maxHeartbeats 4000000 in
theorem twice1 (who op perms mode : Int) (dir : Bool) (u : Int) (w : World) (a0 : 0 ≤ who) (b0 : 0 ≤ op) (c0 : 0 ≤ perms) (d0 : 0 ≤ mode) (u0 : 0 ≤ u) (u1 : u ≤ 65535) (hop : op % 3 = 1) : Calls Tryd.prog 11 #[.int .u8 who, .int .u8 op, .int .u8 perms, .int .u16 mode, .bool dir, .int .u16 u] w fun e w' => e = .returned (.bool true) ∧ Below w.heap.size w w' := by
  have hmf : ∀ (fn : Fn) (first cap : Array Value) (w : World), (Instr.makeFunc fn first cap).run Tryd.prog w = .ok (.func fn first cap) w := fun _ _ _ _ => rfl
  obtain ⟨q, hq⟩ : ∃ q : Nat, perms % 64 = (q : Int) := ⟨(perms % 64).toNat, by omega⟩
  obtain ⟨m, hm⟩ : ∃ m : Nat, mode % 4096 = (m : Int) := ⟨(mode % 4096).toNat, by omega⟩
  obtain ⟨W, hW⟩ : ∃ W : Nat, who % 8 = (W : Int) := ⟨(who % 8).toNat, by omega⟩
  have hq64 : q < 64 := by omega
  have hm4 : m < 4096 := by omega
  have h8 := no8 ⟨q, hq64⟩
  simp only at h8
  have hP : bits .andNot .i64 (q : Int) 8 = (clearN q 8 : Nat) := andNot_nat q 8 (by omega)
  generalize clearN q 8 = p at h8 hP
  obtain ⟨hp64, hp3⟩ := h8
  obtain ⟨um, hum⟩ : ∃ um, (u % 4096).toNat = um := ⟨_, rfl⟩
  have t1 := twice (op := 45) (op' := 45) W um p m dir hp3 (by decide)
  have t2 := twice (op := 45) (op' := 43) W um p m dir hp3 (by decide)
  have t3 := twice (op := 43) (op' := 45) W um p m dir hp3 (by decide)
  have t4 := twice (op := 61) (op' := 43) W um p m dir hp3 (by decide)
  have l43 := actN_lt 43 W um p 0 m dir
  have l45 := actN_lt 45 W um p 0 m dir
  have l61 := actN_lt 61 W um p 0 m dir
  have K1 := Lib.hid (fun (w0 : World) (a6 a14 a10 a11 : Nat) (h : TW a6 a14 a10 a11 who p dir u w0) => tone_any 45 45 who W p m dir u a6 a14 a10 a11 w0 rfl (by decide) hW a0 hp64 hm4 u0 u1 h)
  simp only [hum] at K1
  have K2 := Lib.hid (fun (w0 : World) (a6 a14 a10 a11 : Nat) (h : TW a6 a14 a10 a11 who p dir u w0) => tone_any 45 45 who W p (actN 45 W um p 0 m dir) dir u a6 a14 a10 a11 w0 rfl (by decide) hW a0 hp64 l45 u0 u1 h)
  simp only [hum, t1] at K2
  have P1 := Lib.hid (fun (w0 : World) (a6 a14 a10 a11 : Nat) (h : TW a6 a14 a10 a11 who p dir u w0) => tone_any 43 43 who W p m dir u a6 a14 a10 a11 w0 rfl (by decide) hW a0 hp64 hm4 u0 u1 h)
  simp only [hum] at P1
  have M1 := Lib.hid (fun (w0 : World) (a6 a14 a10 a11 : Nat) (h : TW a6 a14 a10 a11 who p dir u w0) => tone_any 45 45 who W p m dir u a6 a14 a10 a11 w0 rfl (by decide) hW a0 hp64 hm4 u0 u1 h)
  simp only [hum] at M1
  have E1 := Lib.hid (fun (w0 : World) (a6 a14 a10 a11 : Nat) (h : TW a6 a14 a10 a11 who p dir u w0) => tone_any 61 61 who W p m dir u a6 a14 a10 a11 w0 rfl (by decide) hW a0 hp64 hm4 u0 u1 h)
  simp only [hum] at E1
  have MP := Lib.hid (fun (w0 : World) (a6 a14 a10 a11 : Nat) (h : TW a6 a14 a10 a11 who p dir u w0) => tone_any 45 45 who W p (actN 43 W um p 0 m dir) dir u a6 a14 a10 a11 w0 rfl (by decide) hW a0 hp64 l43 u0 u1 h)
  simp only [hum, t2] at MP
  have PM := Lib.hid (fun (w0 : World) (a6 a14 a10 a11 : Nat) (h : TW a6 a14 a10 a11 who p dir u w0) => tone_any 43 43 who W p (actN 45 W um p 0 m dir) dir u a6 a14 a10 a11 w0 rfl (by decide) hW a0 hp64 l45 u0 u1 h)
  simp only [hum, t3] at PM
  have EP := Lib.hid (fun (w0 : World) (a6 a14 a10 a11 : Nat) (h : TW a6 a14 a10 a11 who p dir u w0) => tone_any 61 61 who W p (actN 43 W um p 0 m dir) dir u a6 a14 a10 a11 w0 rfl (by decide) hW a0 hp64 l43 u0 u1 h)
  simp only [hum, t4] at EP
  obtain ⟨X43, e43⟩ : ∃ X, actN 43 W um p 0 m dir = X := ⟨_, rfl⟩
  obtain ⟨X45, e45⟩ : ∃ X, actN 45 W um p 0 m dir = X := ⟨_, rfl⟩
  obtain ⟨X61, e61⟩ : ∃ X, actN 61 W um p 0 m dir = X := ⟨_, rfl⟩
  simp only [e43, e45, e61] at K1 K2 P1 M1 E1 MP PM EP
  have hsg := tsign_at.2.1
  clear t1 t2 t3 t4 l43 l45 l61 e43 e45 e61 hum hW
  go_enter Tryd.func11, Tryd.ntmps11
  go_wp2_with fail
  refine (awake3_any _).mono ?_
  rintro e w1 ⟨rfl, hb1⟩
  have hb0 : Below w.heap.size w (((w.alloc (.cells #[.int .u8 who] 5)).alloc (.cells #[.bool dir] 4)).alloc (.cells #[.int .u16 u] 58)) := (((Below.refl _ _).alloc (Nat.le_refl _) _).alloc (by simp) _).alloc (by simp; omega) _
  have B1 := Lib.hid (hb0.trans (hb1.mono hb0.size))
  have hz : w.heap.size + 2 < w1.heap.size := by have := hb1.size; simp at this; omega
  have T0 : TW w.heap.size w1.heap.size (w.heap.size + 1) (w.heap.size + 2) who p dir u (w1.alloc (.cells #[.int .i64 (p : Int)] 3)) := by
    refine ⟨?_, by simp, ?_, ?_⟩
    · rw [World.cell?_alloc_lt _ _ _ (by simp; omega), hb1.cell (by simp; omega), World.cell?_alloc_lt _ _ _ (by simp; omega), World.cell?_alloc_lt _ _ _ (by simp)]; simp
    · rw [World.cell?_alloc_lt _ _ _ (by simp; omega), hb1.cell (by simp), World.cell?_alloc_lt _ _ _ (by simp)]
      have e : w.heap.size + 1 = (w.alloc (.cells #[.int .u8 who] 5)).heap.size := by simp
      rw [e]; simp
    · rw [World.cell?_alloc_lt _ _ _ (by simp; omega), hb1.cell (by simp)]
      have e : w.heap.size + 2 = ((w.alloc (.cells #[.int .u8 who] 5)).alloc (.cells #[.bool dir] 4)).heap.size := by simp
      rw [e]; exact ((Blk.new _ _ _).cell 0).trans rfl
  have BA := Lib.hid (B1.out.alloc B1.out.size (.cells #[.int .i64 (p : Int)] 3))
  have T1 := Lib.hid T0
  clear hb1 hb0 T0
  go_wp2_with fail
  refine (K1.out _ _ _ _ _ T1.out).mono ?_
  rintro e v0 ⟨rfl, hb⟩
  have S0 := Lib.hid (T1.out.below hb)
  have D0 := Lib.hid (BA.out.trans (hb.mono BA.out.size))
  clear hb
  go_wp2_with fail
  refine (K2.out _ _ _ _ _ S0.out).mono ?_
  rintro e v1 ⟨rfl, hb⟩
  have S1 := Lib.hid (S0.out.below hb)
  have D1 := Lib.hid (D0.out.trans (hb.mono D0.out.size))
  clear hb
  go_wp2_with fail
  refine (P1.out _ _ _ _ _ S1.out).mono ?_
  rintro e v2 ⟨rfl, hb⟩
  have S2 := Lib.hid (S1.out.below hb)
  have D2 := Lib.hid (D1.out.trans (hb.mono D1.out.size))
  clear hb
  go_wp2_with fail
  refine (MP.out _ _ _ _ _ S2.out).mono ?_
  rintro e v3 ⟨rfl, hb⟩
  have S3 := Lib.hid (S2.out.below hb)
  have D3 := Lib.hid (D2.out.trans (hb.mono D2.out.size))
  clear hb
  go_wp2_with fail
  refine (M1.out _ _ _ _ _ S3.out).mono ?_
  rintro e v4 ⟨rfl, hb⟩
  have S4 := Lib.hid (S3.out.below hb)
  have D4 := Lib.hid (D3.out.trans (hb.mono D3.out.size))
  clear hb
  go_wp2_with fail
  refine (M1.out _ _ _ _ _ S4.out).mono ?_
  rintro e v5 ⟨rfl, hb⟩
  have S5 := Lib.hid (S4.out.below hb)
  have D5 := Lib.hid (D4.out.trans (hb.mono D4.out.size))
  clear hb
  go_wp2_with fail
  refine (PM.out _ _ _ _ _ S5.out).mono ?_
  rintro e v6 ⟨rfl, hb⟩
  have S6 := Lib.hid (S5.out.below hb)
  have D6 := Lib.hid (D5.out.trans (hb.mono D5.out.size))
  clear hb
  go_wp2_with fail
  refine (P1.out _ _ _ _ _ S6.out).mono ?_
  rintro e v7 ⟨rfl, hb⟩
  have S7 := Lib.hid (S6.out.below hb)
  have D7 := Lib.hid (D6.out.trans (hb.mono D6.out.size))
  clear hb
  go_wp2_with fail
  refine (P1.out _ _ _ _ _ S7.out).mono ?_
  rintro e v8 ⟨rfl, hb⟩
  have S8 := Lib.hid (S7.out.below hb)
  have D8 := Lib.hid (D7.out.trans (hb.mono D7.out.size))
  clear hb
  go_wp2_with fail
  refine (EP.out _ _ _ _ _ S8.out).mono ?_
  rintro e v9 ⟨rfl, hb⟩
  have S9 := Lib.hid (S8.out.below hb)
  have D9 := Lib.hid (D8.out.trans (hb.mono D8.out.size))
  clear hb
  go_wp2_with fail
  refine (E1.out _ _ _ _ _ S9.out).mono ?_
  rintro e v10 ⟨rfl, hb⟩
  have S10 := Lib.hid (S9.out.below hb)
  have D10 := Lib.hid (D9.out.trans (hb.mono D9.out.size))
  clear hb
  go_wp2
  go_ret
  exact ⟨rfl, D10.out⟩
set_option maxRecDepth 100000 in
set_option maxHeartbeats 4000000 in
theorem twice2 (who op perms mode : Int) (dir : Bool) (u : Int) (w : World) (a0 : 0 ≤ who) (b0 : 0 ≤ op) (c0 : 0 ≤ perms) (d0 : 0 ≤ mode) (u0 : 0 ≤ u) (u1 : u ≤ 65535) (hop : op % 3 = 2) : Calls Tryd.prog 11 #[.int .u8 who, .int .u8 op, .int .u8 perms, .int .u16 mode, .bool dir, .int .u16 u] w fun e w' => e = .returned (.bool true) ∧ Below w.heap.size w w' := by
  have hmf : ∀ (fn : Fn) (first cap : Array Value) (w : World), (Instr.makeFunc fn first cap).run Tryd.prog w = .ok (.func fn first cap) w := fun _ _ _ _ => rfl
  obtain ⟨q, hq⟩ : ∃ q : Nat, perms % 64 = (q : Int) := ⟨(perms % 64).toNat, by omega⟩
  obtain ⟨m, hm⟩ : ∃ m : Nat, mode % 4096 = (m : Int) := ⟨(mode % 4096).toNat, by omega⟩
  obtain ⟨W, hW⟩ : ∃ W : Nat, who % 8 = (W : Int) := ⟨(who % 8).toNat, by omega⟩
  have hq64 : q < 64 := by omega
  have hm4 : m < 4096 := by omega
  have h8 := no8 ⟨q, hq64⟩
  simp only at h8
  have hP : bits .andNot .i64 (q : Int) 8 = (clearN q 8 : Nat) := andNot_nat q 8 (by omega)
  generalize clearN q 8 = p at h8 hP
  obtain ⟨hp64, hp3⟩ := h8
  obtain ⟨um, hum⟩ : ∃ um, (u % 4096).toNat = um := ⟨_, rfl⟩
  have t1 := twice (op := 61) (op' := 61) W um p m dir hp3 (by decide)
  have t2 := twice (op := 45) (op' := 43) W um p m dir hp3 (by decide)
  have t3 := twice (op := 43) (op' := 45) W um p m dir hp3 (by decide)
  have t4 := twice (op := 61) (op' := 43) W um p m dir hp3 (by decide)
  have l43 := actN_lt 43 W um p 0 m dir
  have l45 := actN_lt 45 W um p 0 m dir
  have l61 := actN_lt 61 W um p 0 m dir
  have K1 := Lib.hid (fun (w0 : World) (a6 a14 a10 a11 : Nat) (h : TW a6 a14 a10 a11 who p dir u w0) => tone_any 61 61 who W p m dir u a6 a14 a10 a11 w0 rfl (by decide) hW a0 hp64 hm4 u0 u1 h)
  simp only [hum] at K1
  have K2 := Lib.hid (fun (w0 : World) (a6 a14 a10 a11 : Nat) (h : TW a6 a14 a10 a11 who p dir u w0) => tone_any 61 61 who W p (actN 61 W um p 0 m dir) dir u a6 a14 a10 a11 w0 rfl (by decide) hW a0 hp64 l61 u0 u1 h)
  simp only [hum, t1] at K2
  have P1 := Lib.hid (fun (w0 : World) (a6 a14 a10 a11 : Nat) (h : TW a6 a14 a10 a11 who p dir u w0) => tone_any 43 43 who W p m dir u a6 a14 a10 a11 w0 rfl (by decide) hW a0 hp64 hm4 u0 u1 h)
  simp only [hum] at P1
  have M1 := Lib.hid (fun (w0 : World) (a6 a14 a10 a11 : Nat) (h : TW a6 a14 a10 a11 who p dir u w0) => tone_any 45 45 who W p m dir u a6 a14 a10 a11 w0 rfl (by decide) hW a0 hp64 hm4 u0 u1 h)
  simp only [hum] at M1
  have E1 := Lib.hid (fun (w0 : World) (a6 a14 a10 a11 : Nat) (h : TW a6 a14 a10 a11 who p dir u w0) => tone_any 61 61 who W p m dir u a6 a14 a10 a11 w0 rfl (by decide) hW a0 hp64 hm4 u0 u1 h)
  simp only [hum] at E1
  have MP := Lib.hid (fun (w0 : World) (a6 a14 a10 a11 : Nat) (h : TW a6 a14 a10 a11 who p dir u w0) => tone_any 45 45 who W p (actN 43 W um p 0 m dir) dir u a6 a14 a10 a11 w0 rfl (by decide) hW a0 hp64 l43 u0 u1 h)
  simp only [hum, t2] at MP
  have PM := Lib.hid (fun (w0 : World) (a6 a14 a10 a11 : Nat) (h : TW a6 a14 a10 a11 who p dir u w0) => tone_any 43 43 who W p (actN 45 W um p 0 m dir) dir u a6 a14 a10 a11 w0 rfl (by decide) hW a0 hp64 l45 u0 u1 h)
  simp only [hum, t3] at PM
  have EP := Lib.hid (fun (w0 : World) (a6 a14 a10 a11 : Nat) (h : TW a6 a14 a10 a11 who p dir u w0) => tone_any 61 61 who W p (actN 43 W um p 0 m dir) dir u a6 a14 a10 a11 w0 rfl (by decide) hW a0 hp64 l43 u0 u1 h)
  simp only [hum, t4] at EP
  obtain ⟨X43, e43⟩ : ∃ X, actN 43 W um p 0 m dir = X := ⟨_, rfl⟩
  obtain ⟨X45, e45⟩ : ∃ X, actN 45 W um p 0 m dir = X := ⟨_, rfl⟩
  obtain ⟨X61, e61⟩ : ∃ X, actN 61 W um p 0 m dir = X := ⟨_, rfl⟩
  simp only [e43, e45, e61] at K1 K2 P1 M1 E1 MP PM EP
  have hsg := tsign_at.2.2
  clear t1 t2 t3 t4 l43 l45 l61 e43 e45 e61 hum hW
  go_enter Tryd.func11, Tryd.ntmps11
  go_wp2_with fail
  refine (awake3_any _).mono ?_
  rintro e w1 ⟨rfl, hb1⟩
  have hb0 : Below w.heap.size w (((w.alloc (.cells #[.int .u8 who] 5)).alloc (.cells #[.bool dir] 4)).alloc (.cells #[.int .u16 u] 58)) := (((Below.refl _ _).alloc (Nat.le_refl _) _).alloc (by simp) _).alloc (by simp; omega) _
  have B1 := Lib.hid (hb0.trans (hb1.mono hb0.size))
  have hz : w.heap.size + 2 < w1.heap.size := by have := hb1.size; simp at this; omega
  have T0 : TW w.heap.size w1.heap.size (w.heap.size + 1) (w.heap.size + 2) who p dir u (w1.alloc (.cells #[.int .i64 (p : Int)] 3)) := by
    refine ⟨?_, by simp, ?_, ?_⟩
    · rw [World.cell?_alloc_lt _ _ _ (by simp; omega), hb1.cell (by simp; omega), World.cell?_alloc_lt _ _ _ (by simp; omega), World.cell?_alloc_lt _ _ _ (by simp)]; simp
    · rw [World.cell?_alloc_lt _ _ _ (by simp; omega), hb1.cell (by simp), World.cell?_alloc_lt _ _ _ (by simp)]
      have e : w.heap.size + 1 = (w.alloc (.cells #[.int .u8 who] 5)).heap.size := by simp
      rw [e]; simp
    · rw [World.cell?_alloc_lt _ _ _ (by simp; omega), hb1.cell (by simp)]
      have e : w.heap.size + 2 = ((w.alloc (.cells #[.int .u8 who] 5)).alloc (.cells #[.bool dir] 4)).heap.size := by simp
      rw [e]; exact ((Blk.new _ _ _).cell 0).trans rfl
  have BA := Lib.hid (B1.out.alloc B1.out.size (.cells #[.int .i64 (p : Int)] 3))
  have T1 := Lib.hid T0
  clear hb1 hb0 T0
  go_wp2_with fail
  refine (K1.out _ _ _ _ _ T1.out).mono ?_
  rintro e v0 ⟨rfl, hb⟩
  have S0 := Lib.hid (T1.out.below hb)
  have D0 := Lib.hid (BA.out.trans (hb.mono BA.out.size))
  clear hb
  go_wp2_with fail
  refine (K2.out _ _ _ _ _ S0.out).mono ?_
  rintro e v1 ⟨rfl, hb⟩
  have S1 := Lib.hid (S0.out.below hb)
  have D1 := Lib.hid (D0.out.trans (hb.mono D0.out.size))
  clear hb
  go_wp2_with fail
  refine (P1.out _ _ _ _ _ S1.out).mono ?_
  rintro e v2 ⟨rfl, hb⟩
  have S2 := Lib.hid (S1.out.below hb)
  have D2 := Lib.hid (D1.out.trans (hb.mono D1.out.size))
  clear hb
  go_wp2_with fail
  refine (MP.out _ _ _ _ _ S2.out).mono ?_
  rintro e v3 ⟨rfl, hb⟩
  have S3 := Lib.hid (S2.out.below hb)
  have D3 := Lib.hid (D2.out.trans (hb.mono D2.out.size))
  clear hb
  go_wp2_with fail
  refine (M1.out _ _ _ _ _ S3.out).mono ?_
  rintro e v4 ⟨rfl, hb⟩
  have S4 := Lib.hid (S3.out.below hb)
  have D4 := Lib.hid (D3.out.trans (hb.mono D3.out.size))
  clear hb
  go_wp2_with fail
  refine (M1.out _ _ _ _ _ S4.out).mono ?_
  rintro e v5 ⟨rfl, hb⟩
  have S5 := Lib.hid (S4.out.below hb)
  have D5 := Lib.hid (D4.out.trans (hb.mono D4.out.size))
  clear hb
  go_wp2_with fail
  refine (PM.out _ _ _ _ _ S5.out).mono ?_
  rintro e v6 ⟨rfl, hb⟩
  have S6 := Lib.hid (S5.out.below hb)
  have D6 := Lib.hid (D5.out.trans (hb.mono D5.out.size))
  clear hb
  go_wp2_with fail
  refine (P1.out _ _ _ _ _ S6.out).mono ?_
  rintro e v7 ⟨rfl, hb⟩
  have S7 := Lib.hid (S6.out.below hb)
  have D7 := Lib.hid (D6.out.trans (hb.mono D6.out.size))
  clear hb
  go_wp2_with fail
  refine (P1.out _ _ _ _ _ S7.out).mono ?_
  rintro e v8 ⟨rfl, hb⟩
  have S8 := Lib.hid (S7.out.below hb)
  have D8 := Lib.hid (D7.out.trans (hb.mono D7.out.size))
  clear hb
  go_wp2_with fail
  refine (EP.out _ _ _ _ _ S8.out).mono ?_
  rintro e v9 ⟨rfl, hb⟩
  have S9 := Lib.hid (S8.out.below hb)
  have D9 := Lib.hid (D8.out.trans (hb.mono D8.out.size))
  clear hb
  go_wp2_with fail
  refine (E1.out _ _ _ _ _ S9.out).mono ?_
  rintro e v10 ⟨rfl, hb⟩
  have S10 := Lib.hid (S9.out.below hb)
  have D10 := Lib.hid (D9.out.trans (hb.mono D9.out.size))
  clear hb
  go_wp2
  go_ret
  exact ⟨rfl, D10.out⟩
theorem twiceLaw (who op perms mode : Int) (dir : Bool) (u : Int) (w : World) (a0 : 0 ≤ who) (b0 : 0 ≤ op) (c0 : 0 ≤ perms) (d0 : 0 ≤ mode) (u0 : 0 ≤ u) (u1 : u ≤ 65535) : Calls Tryd.prog 11 #[.int .u8 who, .int .u8 op, .int .u8 perms, .int .u16 mode, .bool dir, .int .u16 u] w fun e w' => e = .returned (.bool true) ∧ Below w.heap.size w w' := by
  obtain h | h | h : op % 3 = 0 ∨ op % 3 = 1 ∨ op % 3 = 2 := by omega
  · exact twice0 who op perms mode dir u w a0 b0 c0 d0 u0 u1 h
  · exact twice1 who op perms mode dir u w a0 b0 c0 d0 u0 u1 h
  · exact twice2 who op perms mode dir u w a0 b0 c0 d0 u0 u1 h
end Go.Proofs.YtbjajipeiigodaaDoor
