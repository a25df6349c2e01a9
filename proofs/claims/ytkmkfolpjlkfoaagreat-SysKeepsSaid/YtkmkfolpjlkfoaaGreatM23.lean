/-
  Package sys: the map of calls, and Do. The conditions are said at each. Package sys: the table, the umask and the places of processes as they are told; a copy of groups. The conditions are said at each. Package sys: New. The conditions are said at each. Package sys: all that is said of it, together. No condition.
-/
import Derived.Test.YtkmkfolpjlkfoaaGreatM13
import Derived.Test.YtkmkfolpjlkfoaaGreatM19
import Derived.Test.YtkmkfolpjlkfoaaGreatM21
import Derived.Test.YtkmkfolpjlkfoaaGreatM22
import Derived.Maps.RangeRun
import Derived.Deep.AppendLies
namespace Go.Proofs.YtkmkfolpjlkfoaaGreat
open Go Go.RowKit
set_option maxRecDepth 100000

attribute [local go_sem] cell_off4 cell_blk4
def cE (k : Int) (F : FuncId) (b : Nat) : MapEntry := { key := .int .i64 k, val := .func (.func F) #[] #[], born := b }
def ce1 : MapEntry := cE 1 60 0
def ce2 : MapEntry := cE 2 61 1
def ce3 : MapEntry := cE 3 62 2
def ce4 : MapEntry := cE 4 63 3
def ce5 : MapEntry := cE 5 64 4
def ce6 : MapEntry := cE 6 65 5
def ce7 : MapEntry := cE 7 66 6
def ce8 : MapEntry := cE 8 67 7
def ce9 : MapEntry := cE 9 68 8
def ce10 : MapEntry := cE 10 69 9
def ce11 : MapEntry := cE 11 70 10
def ce12 : MapEntry := cE 12 71 11
def ce13 : MapEntry := cE 13 72 12
def ce14 : MapEntry := cE 14 73 13
def ce15 : MapEntry := cE 15 74 14
def ce16 : MapEntry := cE 16 75 15
def ce17 : MapEntry := cE 17 76 16
def ce18 : MapEntry := cE 18 77 17
def ces : Array MapEntry := #[ce1, ce2, ce3, ce4, ce5, ce6, ce7, ce8, ce9, ce10, ce11, ce12, ce13, ce14, ce15, ce16, ce17, ce18]
theorem updC (key : Int) (v : Value) (es : Array MapEntry) (c : Nat) (w : World) (h : Instr.findNow (.int .i64) (.int .i64 key) es.toList 0 = some none) :
    (Instr.mapUpdate 108 (.map (some w.heap.size)) (.int .i64 key) v).run Tryz.prog (w.alloc (.map es c)) = .ok () (w.alloc (.map (es.push { key := .int .i64 key, val := v, born := c }) (c + 1))) := by
  have hb : (w.alloc (.map es c)).heap[w.heap.size]? = some (.map es c) := (MapKept.heap_alloc w _).1
  have hk := MapKept.run_checkKey (P := Tryz.prog) (w := w.alloc (.map es c)) Tryz.underlying3 (k := .int .i64 key) rfl false 9999
  have hf := MapKept.run_findKey (P := Tryz.prog) (w := w.alloc (.map es c)) Tryz.underlying3 h
  simp only [Instr.mapUpdate, Sem.run_bind, run_underlying Tryz.underlying108, Result.andThen, MapKept.run_getObj_map hb, hk, hf, MapKept.run_setObj_map _ hb]
  have hp : ∀ (h : Array Obj) (x y : Obj), (h.push x).setIfInBounds h.size y = h.push y := by
    intro h x y
    apply Array.toList_inj.1
    simp
  show Result.ok () ({ w.alloc (.map es c) with heap := (w.heap.push (.map es c)).setIfInBounds w.heap.size (.map (es.push { key := .int .i64 key, val := v, born := c }) (c + 1)) } : World) = _
  rw [hp]
  rfl
theorem lookC (k : Int) (r : Option (Nat × Value)) (w : World) (bm : Nat) (hb : w.heap[bm]? = some (.map ces 18)) (hf : Instr.findNow (.int .i64) (.int .i64 k) ces.toList 0 = some r) :
    (Instr.lookup 108 (.map (some bm)) (.int .i64 k) false).run Tryz.prog w = .ok (match r with | some (_, v) => v | none => .nilFunc) w := by
  have hk := MapKept.run_checkKey (P := Tryz.prog) (w := w) Tryz.underlying3 (k := .int .i64 k) rfl false 9999
  have hf := MapKept.run_findKey (P := Tryz.prog) (w := w) Tryz.underlying3 hf
  have he : ces.isEmpty = false := rfl
  have hz : (zeroValue 107).run Tryz.prog w = .ok .nilFunc w := by kernel_rfl
  simp only [Instr.lookup, Sem.run_bind, run_underlying Tryz.underlying108, Result.andThen, MapKept.run_getObj_map hb, Sem.run_pure, he, hk, hf]
  cases r with
  | some x => rfl
  | none =>
    simp only [Sem.run_bind, hz, Result.andThen]
    rfl
theorem findN (k : Int) (h : k < 1 ∨ 18 < k) : Instr.findNow (.int .i64) (.int .i64 k) ces.toList 0 = some none := by
  have e : ∀ j : Int, 1 ≤ j ∧ j ≤ 18 → (k == j) = false := fun j hj => by
    rw [Bool.eq_false_iff]
    simp only [ne_eq, beq_iff_eq]
    omega
  simp [ces, cE, ce1, ce2, ce3, ce4, ce5, ce6, ce7, ce8, ce9, ce10, ce11, ce12, ce13, ce14, ce15, ce16, ce17, ce18, Instr.findNow, Instr.sameNow, e 1 (by decide), e 2 (by decide), e 3 (by decide), e 4 (by decide), e 5 (by decide), e 6 (by decide), e 7 (by decide), e 8 (by decide), e 9 (by decide), e 10 (by decide), e 11 (by decide), e 12 (by decide), e 13 (by decide), e 14 (by decide), e 15 (by decide), e 16 (by decide), e 17 (by decide), e 18 (by decide)]
set_option maxHeartbeats 4000000 in
theorem calls_any (w : World) : Calls Tryz.prog 38 #[] w fun e w' => e = .returned (.map (some w.heap.size)) ∧ w' = w.alloc (.map ces 18) := by
  have hmm := @run_makeMap Tryz.prog
  have h0 : (Instr.mapUpdate 108 (.map (some w.heap.size)) (.int .i64 1) (.func (.func 60) #[] #[])).run Tryz.prog (w.alloc (.map #[] 0)) = .ok () (w.alloc (.map #[ce1] 1)) := updC 1 (.func (.func 60) #[] #[]) #[] 0 w (by rfl)
  have h1 : (Instr.mapUpdate 108 (.map (some w.heap.size)) (.int .i64 2) (.func (.func 61) #[] #[])).run Tryz.prog (w.alloc (.map #[ce1] 1)) = .ok () (w.alloc (.map #[ce1, ce2] 2)) := updC 2 (.func (.func 61) #[] #[]) #[ce1] 1 w (by rfl)
  have h2 : (Instr.mapUpdate 108 (.map (some w.heap.size)) (.int .i64 3) (.func (.func 62) #[] #[])).run Tryz.prog (w.alloc (.map #[ce1, ce2] 2)) = .ok () (w.alloc (.map #[ce1, ce2, ce3] 3)) := updC 3 (.func (.func 62) #[] #[]) #[ce1, ce2] 2 w (by rfl)
  have h3 : (Instr.mapUpdate 108 (.map (some w.heap.size)) (.int .i64 4) (.func (.func 63) #[] #[])).run Tryz.prog (w.alloc (.map #[ce1, ce2, ce3] 3)) = .ok () (w.alloc (.map #[ce1, ce2, ce3, ce4] 4)) := updC 4 (.func (.func 63) #[] #[]) #[ce1, ce2, ce3] 3 w (by rfl)
  have h4 : (Instr.mapUpdate 108 (.map (some w.heap.size)) (.int .i64 5) (.func (.func 64) #[] #[])).run Tryz.prog (w.alloc (.map #[ce1, ce2, ce3, ce4] 4)) = .ok () (w.alloc (.map #[ce1, ce2, ce3, ce4, ce5] 5)) := updC 5 (.func (.func 64) #[] #[]) #[ce1, ce2, ce3, ce4] 4 w (by rfl)
  have h5 : (Instr.mapUpdate 108 (.map (some w.heap.size)) (.int .i64 6) (.func (.func 65) #[] #[])).run Tryz.prog (w.alloc (.map #[ce1, ce2, ce3, ce4, ce5] 5)) = .ok () (w.alloc (.map #[ce1, ce2, ce3, ce4, ce5, ce6] 6)) := updC 6 (.func (.func 65) #[] #[]) #[ce1, ce2, ce3, ce4, ce5] 5 w (by rfl)
  have h6 : (Instr.mapUpdate 108 (.map (some w.heap.size)) (.int .i64 7) (.func (.func 66) #[] #[])).run Tryz.prog (w.alloc (.map #[ce1, ce2, ce3, ce4, ce5, ce6] 6)) = .ok () (w.alloc (.map #[ce1, ce2, ce3, ce4, ce5, ce6, ce7] 7)) := updC 7 (.func (.func 66) #[] #[]) #[ce1, ce2, ce3, ce4, ce5, ce6] 6 w (by rfl)
  have h7 : (Instr.mapUpdate 108 (.map (some w.heap.size)) (.int .i64 8) (.func (.func 67) #[] #[])).run Tryz.prog (w.alloc (.map #[ce1, ce2, ce3, ce4, ce5, ce6, ce7] 7)) = .ok () (w.alloc (.map #[ce1, ce2, ce3, ce4, ce5, ce6, ce7, ce8] 8)) := updC 8 (.func (.func 67) #[] #[]) #[ce1, ce2, ce3, ce4, ce5, ce6, ce7] 7 w (by rfl)
  have h8 : (Instr.mapUpdate 108 (.map (some w.heap.size)) (.int .i64 9) (.func (.func 68) #[] #[])).run Tryz.prog (w.alloc (.map #[ce1, ce2, ce3, ce4, ce5, ce6, ce7, ce8] 8)) = .ok () (w.alloc (.map #[ce1, ce2, ce3, ce4, ce5, ce6, ce7, ce8, ce9] 9)) := updC 9 (.func (.func 68) #[] #[]) #[ce1, ce2, ce3, ce4, ce5, ce6, ce7, ce8] 8 w (by rfl)
  have h9 : (Instr.mapUpdate 108 (.map (some w.heap.size)) (.int .i64 10) (.func (.func 69) #[] #[])).run Tryz.prog (w.alloc (.map #[ce1, ce2, ce3, ce4, ce5, ce6, ce7, ce8, ce9] 9)) = .ok () (w.alloc (.map #[ce1, ce2, ce3, ce4, ce5, ce6, ce7, ce8, ce9, ce10] 10)) := updC 10 (.func (.func 69) #[] #[]) #[ce1, ce2, ce3, ce4, ce5, ce6, ce7, ce8, ce9] 9 w (by rfl)
  have h10 : (Instr.mapUpdate 108 (.map (some w.heap.size)) (.int .i64 11) (.func (.func 70) #[] #[])).run Tryz.prog (w.alloc (.map #[ce1, ce2, ce3, ce4, ce5, ce6, ce7, ce8, ce9, ce10] 10)) = .ok () (w.alloc (.map #[ce1, ce2, ce3, ce4, ce5, ce6, ce7, ce8, ce9, ce10, ce11] 11)) := updC 11 (.func (.func 70) #[] #[]) #[ce1, ce2, ce3, ce4, ce5, ce6, ce7, ce8, ce9, ce10] 10 w (by rfl)
  have h11 : (Instr.mapUpdate 108 (.map (some w.heap.size)) (.int .i64 12) (.func (.func 71) #[] #[])).run Tryz.prog (w.alloc (.map #[ce1, ce2, ce3, ce4, ce5, ce6, ce7, ce8, ce9, ce10, ce11] 11)) = .ok () (w.alloc (.map #[ce1, ce2, ce3, ce4, ce5, ce6, ce7, ce8, ce9, ce10, ce11, ce12] 12)) := updC 12 (.func (.func 71) #[] #[]) #[ce1, ce2, ce3, ce4, ce5, ce6, ce7, ce8, ce9, ce10, ce11] 11 w (by rfl)
  have h12 : (Instr.mapUpdate 108 (.map (some w.heap.size)) (.int .i64 13) (.func (.func 72) #[] #[])).run Tryz.prog (w.alloc (.map #[ce1, ce2, ce3, ce4, ce5, ce6, ce7, ce8, ce9, ce10, ce11, ce12] 12)) = .ok () (w.alloc (.map #[ce1, ce2, ce3, ce4, ce5, ce6, ce7, ce8, ce9, ce10, ce11, ce12, ce13] 13)) := updC 13 (.func (.func 72) #[] #[]) #[ce1, ce2, ce3, ce4, ce5, ce6, ce7, ce8, ce9, ce10, ce11, ce12] 12 w (by rfl)
  have h13 : (Instr.mapUpdate 108 (.map (some w.heap.size)) (.int .i64 14) (.func (.func 73) #[] #[])).run Tryz.prog (w.alloc (.map #[ce1, ce2, ce3, ce4, ce5, ce6, ce7, ce8, ce9, ce10, ce11, ce12, ce13] 13)) = .ok () (w.alloc (.map #[ce1, ce2, ce3, ce4, ce5, ce6, ce7, ce8, ce9, ce10, ce11, ce12, ce13, ce14] 14)) := updC 14 (.func (.func 73) #[] #[]) #[ce1, ce2, ce3, ce4, ce5, ce6, ce7, ce8, ce9, ce10, ce11, ce12, ce13] 13 w (by rfl)
  have h14 : (Instr.mapUpdate 108 (.map (some w.heap.size)) (.int .i64 15) (.func (.func 74) #[] #[])).run Tryz.prog (w.alloc (.map #[ce1, ce2, ce3, ce4, ce5, ce6, ce7, ce8, ce9, ce10, ce11, ce12, ce13, ce14] 14)) = .ok () (w.alloc (.map #[ce1, ce2, ce3, ce4, ce5, ce6, ce7, ce8, ce9, ce10, ce11, ce12, ce13, ce14, ce15] 15)) := updC 15 (.func (.func 74) #[] #[]) #[ce1, ce2, ce3, ce4, ce5, ce6, ce7, ce8, ce9, ce10, ce11, ce12, ce13, ce14] 14 w (by rfl)
  have h15 : (Instr.mapUpdate 108 (.map (some w.heap.size)) (.int .i64 16) (.func (.func 75) #[] #[])).run Tryz.prog (w.alloc (.map #[ce1, ce2, ce3, ce4, ce5, ce6, ce7, ce8, ce9, ce10, ce11, ce12, ce13, ce14, ce15] 15)) = .ok () (w.alloc (.map #[ce1, ce2, ce3, ce4, ce5, ce6, ce7, ce8, ce9, ce10, ce11, ce12, ce13, ce14, ce15, ce16] 16)) := updC 16 (.func (.func 75) #[] #[]) #[ce1, ce2, ce3, ce4, ce5, ce6, ce7, ce8, ce9, ce10, ce11, ce12, ce13, ce14, ce15] 15 w (by rfl)
  have h16 : (Instr.mapUpdate 108 (.map (some w.heap.size)) (.int .i64 17) (.func (.func 76) #[] #[])).run Tryz.prog (w.alloc (.map #[ce1, ce2, ce3, ce4, ce5, ce6, ce7, ce8, ce9, ce10, ce11, ce12, ce13, ce14, ce15, ce16] 16)) = .ok () (w.alloc (.map #[ce1, ce2, ce3, ce4, ce5, ce6, ce7, ce8, ce9, ce10, ce11, ce12, ce13, ce14, ce15, ce16, ce17] 17)) := updC 17 (.func (.func 76) #[] #[]) #[ce1, ce2, ce3, ce4, ce5, ce6, ce7, ce8, ce9, ce10, ce11, ce12, ce13, ce14, ce15, ce16] 16 w (by rfl)
  have h17 : (Instr.mapUpdate 108 (.map (some w.heap.size)) (.int .i64 18) (.func (.func 77) #[] #[])).run Tryz.prog (w.alloc (.map #[ce1, ce2, ce3, ce4, ce5, ce6, ce7, ce8, ce9, ce10, ce11, ce12, ce13, ce14, ce15, ce16, ce17] 17)) = .ok () (w.alloc (.map #[ce1, ce2, ce3, ce4, ce5, ce6, ce7, ce8, ce9, ce10, ce11, ce12, ce13, ce14, ce15, ce16, ce17, ce18] 18)) := updC 18 (.func (.func 77) #[] #[]) #[ce1, ce2, ce3, ce4, ce5, ce6, ce7, ce8, ce9, ce10, ce11, ce12, ce13, ce14, ce15, ce16, ce17] 17 w (by rfl)
  go_enter Tryz.func38, Tryz.ntmps38
  go_wp2
  go_ret
  exact ⟨rfl, rfl⟩
theorem eqF_f (F : FuncId) (W : World) : (Go.binOp .eql 107 (.func (.func F) #[] #[]) .nilFunc).run Tryz.prog W = .ok (.bool false) W := by
  first | rfl | kernel_rfl
theorem eqF_n (W : World) : (Go.binOp .eql 107 .nilFunc .nilFunc).run Tryz.prog W = .ok (.bool true) W := by
  first | rfl | kernel_rfl
set_option maxHeartbeats 4000000 in
theorem do_err (s : Nat) (pid : Int) (c : Cal) (vd pv fv : Value) (w : World) (hpc : ∀ V, Below w.heap.size w V → Calls Tryz.prog 37 #[.pointer (some ⟨s, 0, none⟩), .int .i64 pid] V fun e w' => e = .returned pv ∧ V = w') (hlk : ∀ (V : World) (bm : Nat), V.heap[bm]? = some (.map ces 18) → (Instr.lookup 108 (.map (some bm)) (.int .i64 c.kind) false).run Tryz.prog V = .ok fv V) (hbad : pv = .pointer none ∨ (∃ ad, pv = .pointer (some ad)) ∧ fv = .nilFunc) :
    Calls Tryz.prog 15 #[.pointer (some ⟨s, 0, none⟩), .int .i64 pid, .agg (calC c vd)] w fun e w' => e = .returned (.agg (resC (Rsm.e 22) (.slice none 0 0) (.slice none 0 0))) ∧ Below w.heap.size w w' := by
  obtain ⟨W1, hW1⟩ : ∃ W, (w.alloc (.cells (calC c vd) 48)).alloc (.cells resZ 56) = W := ⟨_, rfl⟩
  have hb1 : Below w.heap.size w W1 := by rw [← hW1]; exact al (ba _ _) _
  have hkc : Blk W1 w.heap.size 48 (calC c vd) := by rw [← hW1]; exact (Blk.new _ _ _).alloc _
  have hkr : Blk W1 (w.heap.size + 1) 56 resZ := by
    have h1 := Blk.new (w.alloc (.cells (calC c vd) 48)) 56 resZ
    rw [← hW1]
    simpa using h1
  obtain ⟨zr, hzr⟩ : ∃ z, w.heap.size + 1 = z := ⟨_, rfl⟩
  have hlr : w.heap.size ≤ zr := by omega
  rw [hzr] at hkr
  have HB1 := Lib.hid hb1
  have HKC := Lib.hid hkc
  have HKR := Lib.hid hkr
  have HLR := Lib.hid hlr
  have HPC := Lib.hid (fun (V : World) (hv : Below W1.heap.size W1 V) => hpc V (bt hv hb1))
  have HLK := Lib.hid hlk
  have HBD := Lib.hid hbad
  clear hpc hlk hbad hb1 hkr hlr
  have HCS := Lib.hid (fun (V : World) => calls_any V)
  have HPR := Lib.hid (fun (V : World) (hv : Below W1.heap.size W1 V) => show V.cell? ⟨w.heap.size, 0, none⟩ = some (.int .i64 c.kind) from (hkc.below hv).cell 0)
  have j0 := Lib.hid (show Below W1.heap.size W1 W1.drew from (Below.refl _ _).drew)
  go_enter Tryz.func15, Tryz.ntmps15
  go_upto_region 1 with fail
  clear hW1 hzr
  go_cut [7, 8] (fun s7 s8 wx => s7 = pv ∧ s8 = fv ∧ Below W1.heap.size W1 wx)
  case first =>
    go_region_held3 (fun V => V.cell? ⟨w.heap.size, 0, none⟩ = some (.int .i64 c.kind))
      (first | (with_reducible exact HPR.out _ j0.out) | (with_reducible exact HPR.out _ j1.out))
      (first
      | (go_at_call 37; (with_reducible refine (HPC.out _ j1.out).mono ?_); rintro e1 w3 ⟨rfl, rfl⟩)
      | (go_at_call 37; (with_reducible refine (HPC.out _ j0.out).mono ?_); rintro e1 w3 ⟨rfl, rfl⟩)
      | (go_at_call 38; (with_reducible refine (HCS.out _).mono ?_); rintro e2 w4 ⟨rfl, hw4⟩; obtain ⟨bm, hbm⟩ : ∃ bm, W1.drew.heap.size = bm := ⟨_, rfl⟩; rw [hbm]; have j1 := Lib.hid (show Below W1.heap.size W1 w4 from by rw [hw4]; exact al j0.out _); have hl9 := HLK.out w4 bm (by rw [hw4, ← hbm]; exact (MapKept.heap_alloc _ _).1); clear hw4 hbm))
    all_goals (
      go_wp2
      go_meet
      exact ⟨rfl, rfl, j1.out⟩)
  case rest =>
  obtain ⟨rfl, rfl, hbx⟩ := hcut
  obtain ⟨w5, hw5⟩ : ∃ W, wc = W := ⟨_, rfl⟩
  rw [hw5] at hbx ⊢
  clear hw5 HPC HLK HCS HPR j0
  have HBX := Lib.hid (bt hbx HB1.out)
  have HK5 := Lib.hid (HKR.out.below hbx)
  clear hbx hkc
  obtain ⟨x0, x1, x2, x3, x4, x5, x6, x7, x8, x9, x10, x11⟩ := HK5.out.c12
  obtain ⟨f0, f1, f2, f3, f4, f5, f6, f7, f8, f9, f10, f11⟩ := HK5.out.f12
  obtain ⟨s0, s1, s2, s3, s4, s5, s6, s7, s8, s9, s10, s11⟩ := HK5.out.s12
  have HE := Lib.hid (below_grown HBX.out (grown12 w5 zr (.int .i64 22) (.int .i64 0) (.int .i64 0) (.int .i64 0) (.int .i64 0) (.int .i64 0) (.int .i64 0) (.int .i64 0) (.int .i64 0) (.string ⟨#[]⟩) (.slice none 0 0) (.slice none 0 0)) HLR.out)
  have hq := eqF_n
  rcases HBD.out with q | ⟨⟨ad, q⟩, q2⟩
  · subst q
    go_wp2
    exact bodyPost_ret (v := .agg #[.int .i64 22, .int .i64 0, .int .i64 0, .int .i64 0, .int .i64 0, .int .i64 0, .int .i64 0, .int .i64 0, .int .i64 0, .string ⟨#[]⟩, .slice none 0 0, .slice none 0 0]) (by simp [results, Tryz.results15, go_sem, s0, s1, s2, s3, s4, s5, s6, s7, s8, s9, s10, s11]) rfl ⟨rfl, HE.out⟩
  · subst q
    subst q2
    go_wp2
    exact bodyPost_ret (v := .agg #[.int .i64 22, .int .i64 0, .int .i64 0, .int .i64 0, .int .i64 0, .int .i64 0, .int .i64 0, .int .i64 0, .int .i64 0, .string ⟨#[]⟩, .slice none 0 0, .slice none 0 0]) (by simp [results, Tryz.results15, go_sem, s0, s1, s2, s3, s4, s5, s6, s7, s8, s9, s10, s11]) rfl ⟨rfl, HE.out⟩
set_option maxHeartbeats 4000000 in
theorem do_call (F : FuncId) (k : Nat) (hM : MtC F k) (hcf : ∀ (args : Array Value) (W : World), (callFunc F args).run Tryz.prog W = .ok (.enter F args) W) (s g b cp i : Nat) (S : Sym) (p : Prm) (c : Cal) (vd : Value) (w : World) (h : Sq w s g b cp S) (hI : Inv S) (hn : (opnS S).length ≤ 1000) (hp : S.p[i]? = some p) (hd : BytesR w vd c.data) (hsh : shortC c) (hlk : ∀ (V : World) (bm : Nat), V.heap[bm]? = some (.map ces 18) → (Instr.lookup 108 (.map (some bm)) (.int .i64 c.kind) false).run Tryz.prog V = .ok (.func (.func F) #[] #[]) V) :
    Calls Tryz.prog 15 #[.pointer (some ⟨s, 0, none⟩), .int .i64 i, .agg (calC c vd)] w (DoQ w s g b cp (doK k S i p c)) := by
  obtain ⟨W1, hW1⟩ : ∃ W, (w.alloc (.cells (calC c vd) 48)).alloc (.cells resZ 56) = W := ⟨_, rfl⟩
  have hb1 : Below w.heap.size w W1 := by rw [← hW1]; exact al (ba _ _) _
  have hkc : Blk W1 w.heap.size 48 (calC c vd) := by rw [← hW1]; exact (Blk.new _ _ _).alloc _
  have hkr : Blk W1 (w.heap.size + 1) 56 resZ := by
    have h1 := Blk.new (w.alloc (.cells (calC c vd) 48)) 56 resZ
    rw [← hW1]
    simpa using h1
  obtain ⟨zr, hzr⟩ : ∃ z, w.heap.size + 1 = z := ⟨_, rfl⟩
  have hlr : w.heap.size ≤ zr := by omega
  rw [hzr] at hkr
  have HB1 := Lib.hid hb1
  have HKC := Lib.hid hkc
  have HKR := Lib.hid hkr
  have HLR := Lib.hid hlr
  have hil := (List.getElem?_eq_some_iff.1 hp).1
  have HPC := Lib.hid (fun (V : World) (hv : Below W1.heap.size W1 V) => proc_some s S.p.length cp b i _ V (h.below (bt hv hb1)).blk hil)
  have HLK := Lib.hid hlk
  have HCL := Lib.hid (fun (V : World) (hv : Below W1.heap.size W1 V) => hM s g b cp i S p c vd V (h.below (bt hv hb1)) hI hn hp (hd.below (bt hv hb1)) hsh)
  obtain ⟨X, hX⟩ : ∃ X, doK k S i p c = X := ⟨_, rfl⟩
  rw [hX] at HCL ⊢
  obtain ⟨pv, hpv⟩ : ∃ pv, Value.pointer (some ⟨b, i * 16, none⟩) = pv := ⟨_, rfl⟩
  obtain ⟨fv, hfv⟩ : ∃ fv, Value.func (.func F) #[] #[] = fv := ⟨_, rfl⟩
  rw [hpv] at HPC
  rw [hfv] at HLK
  have HPV := Lib.hid hpv
  have HFV := Lib.hid hfv
  have HS := Lib.hid h
  clear hlk hb1 hkr hlr hM h hI hn hp hd hsh hX hil hpv hfv
  have HCS := Lib.hid (fun (V : World) => calls_any V)
  have HPR := Lib.hid (fun (V : World) (hv : Below W1.heap.size W1 V) => show V.cell? ⟨w.heap.size, 0, none⟩ = some (.int .i64 c.kind) from (hkc.below hv).cell 0)
  have j0 := Lib.hid (show Below W1.heap.size W1 W1.drew from (Below.refl _ _).drew)
  go_enter Tryz.func15, Tryz.ntmps15
  go_upto_region 1 with fail
  clear hW1 hzr
  go_cut [7, 8] (fun s7 s8 wx => s7 = pv ∧ s8 = fv ∧ Below W1.heap.size W1 wx)
  case first =>
    go_region_held3 (fun V => V.cell? ⟨w.heap.size, 0, none⟩ = some (.int .i64 c.kind))
      (first | (with_reducible exact HPR.out _ j0.out) | (with_reducible exact HPR.out _ j1.out))
      (first
      | (go_at_call 37; (with_reducible refine (HPC.out _ j1.out).mono ?_); rintro e1 w3 ⟨rfl, rfl⟩)
      | (go_at_call 37; (with_reducible refine (HPC.out _ j0.out).mono ?_); rintro e1 w3 ⟨rfl, rfl⟩)
      | (go_at_call 38; (with_reducible refine (HCS.out _).mono ?_); rintro e2 w4 ⟨rfl, hw4⟩; obtain ⟨bm, hbm⟩ : ∃ bm, W1.drew.heap.size = bm := ⟨_, rfl⟩; rw [hbm]; have j1 := Lib.hid (show Below W1.heap.size W1 w4 from by rw [hw4]; exact al j0.out _); have hl9 := HLK.out w4 bm (by rw [hw4, ← hbm]; exact (MapKept.heap_alloc _ _).1); clear hw4 hbm))
    all_goals (
      go_wp2
      go_meet
      exact ⟨rfl, rfl, j1.out⟩)
  case rest =>
  obtain ⟨rfl, rfl, hbx⟩ := hcut
  obtain ⟨w5, hw5⟩ : ∃ W, wc = W := ⟨_, rfl⟩
  rw [hw5] at hbx ⊢
  clear hw5 HPC HLK HCS HPR j0
  have HBX := Lib.hid (bt hbx HB1.out)
  have HK5 := Lib.hid (HKR.out.below hbx)
  have HC5 := Lib.hid (HCL.out w5 hbx)
  obtain ⟨k0, k1, k2, k3, k4, k5⟩ : w5.cell? ⟨w.heap.size, 0, none⟩ = some (.int .i64 c.kind) ∧ w5.cell? ⟨w.heap.size, 1, none⟩ = some (.string (bA c.path)) ∧ w5.cell? ⟨w.heap.size, 2, none⟩ = some (.string (bA c.other)) ∧ w5.cell? ⟨w.heap.size, 3, none⟩ = some (.int .i64 c.a) ∧ w5.cell? ⟨w.heap.size, 4, none⟩ = some (.int .i64 c.b) ∧ w5.cell? ⟨w.heap.size, 5, none⟩ = some vd := ⟨(hkc.below hbx).cell 0, (hkc.below hbx).cell 1, (hkc.below hbx).cell 2, (hkc.below hbx).cell 3, (hkc.below hbx).cell 4, (hkc.below hbx).cell 5⟩
  have hq := eqF_f F
  have hp5 := HPV.out
  have hf5 := HFV.out
  subst hp5
  subst hf5
  have HNZ := Lib.hid (show ¬ zr ∈ [g, b] from by
    have h5 := HS.out.below HBX.out
    obtain ⟨ct, hct, -⟩ := h5.tab.blk
    obtain ⟨cs, hkb, -⟩ := h5.row
    intro q
    rcases List.mem_cons.1 q with q | q
    · exact blk_ne HK5.out hct (by decide) q
    · exact blk_ne HK5.out hkb (by decide) (List.mem_singleton.1 q))
  clear hbx hkc HCL
  go_wp2_with fail
  refine HC5.out.mono ?_
  rintro e w6 ⟨A1, n1, c1, A2, n2, c2, rfl, hr6, hs6, hf6⟩
  have HR6 := Lib.hid hr6
  have HS6 := Lib.hid hs6
  have HF6 := Lib.hid ((Fix.of_below HBX.out : Fix [g, b] _ _).trans hf6)
  have HK6 := Lib.hid (hf6.blk HK5.out HNZ.out)
  clear hr6 hs6 hf6 k0 k1 k2 k3 k4 k5
  obtain ⟨x0, x1, x2, x3, x4, x5, x6, x7, x8, x9, x10, x11⟩ := HK6.out.c12
  obtain ⟨f0, f1, f2, f3, f4, f5, f6, f7, f8, f9, f10, f11⟩ := HK6.out.f12
  obtain ⟨s0, s1, s2, s3, s4, s5, s6, s7, s8, s9, s10, s11⟩ := HK6.out.s12
  go_wp2
  exact bodyPost_ret (v := .agg #[.int .i64 X.2.err, .int .i64 X.2.n, .int .i64 X.2.stat.node, .int .i64 X.2.stat.kind, .int .i64 X.2.stat.mode, .int .i64 X.2.stat.uid, .int .i64 X.2.stat.gid, .int .i64 X.2.stat.links, .int .i64 X.2.stat.size, .string (bA X.2.text), .slice A1 n1 c1, .slice A2 n2 c2]) (by simp [results, Tryz.results15, go_sem, s0, s1, s2, s3, s4, s5, s6, s7, s8, s9, s10, s11]) rfl (doq_fin (S' := X.1) (r := X.2) HS6.out HF6.out HK6.out HLR.out HR6.out)
end Go.Proofs.YtkmkfolpjlkfoaaGreat
namespace Go.Proofs.YtkmkfolpjlkfoaaGreat
open Go Go.RowKit
set_option maxRecDepth 100000

attribute [local go_sem] cell_off4 cell_blk4
theorem stab_any (s g : Nat) (A : Option Addr) (n c : Nat) (t : List Nd) (w : World) (hk : Blk w s 104 #[.pointer (some ⟨g, 0, none⟩), .slice A n c]) (ht : TabR w g t (fun _ => True)) :
    Calls Tryz.prog 14 #[.pointer (some ⟨s, 0, none⟩)] w fun e w' => ∃ g, e = .returned (.pointer (some ⟨g, 0, none⟩)) ∧ w.heap.size ≤ g ∧ TabR w' g t (fun b => w.heap.size ≤ b) ∧ Below w.heap.size w w' := by
  have p0 := hk.cell 0
  simp at p0
  have HC := Lib.hid (clone_any g t (fun _ => True) (fun b => w.heap.size ≤ b) w ht (fun _ h => h))
  clear ht hk
  go_enter Tryz.func14, Tryz.ntmps14
  go_wp2_with fail
  refine HC.out.mono ?_
  rintro e w2 ⟨rfl, h1, h2⟩
  have H1 := Lib.hid (And.intro h1 h2)
  clear h1 h2 p0
  go_wp2
  go_ret
  exact ⟨_, rfl, Nat.le_refl _, H1.out.1, H1.out.2⟩
theorem smask_none (s : Nat) (pid : Int) (w : World) (hp : Calls Tryz.prog 37 #[.pointer (some ⟨s, 0, none⟩), .int .i64 pid] w fun e w' => e = .returned (.pointer none) ∧ w = w') :
    Calls Tryz.prog 23 #[.pointer (some ⟨s, 0, none⟩), .int .i64 pid] w fun e w' => e = .returned (.int .i64 0) ∧ Below w.heap.size w w' := by
  have HP := Lib.hid hp
  clear hp
  go_enter Tryz.func23, Tryz.ntmps23
  go_wp2_with fail
  refine HP.out.mono ?_
  rintro e w2 ⟨rfl, rfl⟩
  clear HP
  go_wp2
  go_ret
  exact ⟨rfl, Below.refl _ _⟩
theorem smask_some (s b o : Nat) (pid : Int) (p : Prm) (G : Option Addr) (m : Nat) (w : World) (hc : PrC w b o p G m) (hp : Calls Tryz.prog 37 #[.pointer (some ⟨s, 0, none⟩), .int .i64 pid] w fun e w' => e = .returned (.pointer (some ⟨b, o, none⟩)) ∧ w = w') :
    Calls Tryz.prog 23 #[.pointer (some ⟨s, 0, none⟩), .int .i64 pid] w fun e w' => e = .returned (.int .i64 p.um) ∧ Below w.heap.size w w' := by
  have HP := Lib.hid hp
  have c3 := hc.c3
  clear hp hc
  go_enter Tryz.func23, Tryz.ntmps23
  go_wp2_with fail
  refine HP.out.mono ?_
  rintro e w2 ⟨rfl, rfl⟩
  clear HP
  go_wp2
  go_ret
  exact ⟨rfl, Below.refl _ _⟩
abbrev fdZ : Array Value := #[.int .i64 0, .int .i64 0, .bool false, .bool false]
section
variable {w : World} {g : Nat} {t : TypeId} {a0 a1 a2 a3 : Value}
theorem Blk.s4 (h : Blk w g t #[a0, a1, a2, a3]) : (∀ u0, (w.setCell ⟨g, 0, none⟩ u0).cell? ⟨g, 0, none⟩ = some u0) ∧ (∀ u0 u1, ((w.setCell ⟨g, 0, none⟩ u0).setCell ⟨g, 1, none⟩ u1).cell? ⟨g, 1, none⟩ = some u1) ∧ (∀ u0 u1 u2, (((w.setCell ⟨g, 0, none⟩ u0).setCell ⟨g, 1, none⟩ u1).setCell ⟨g, 2, none⟩ u2).cell? ⟨g, 2, none⟩ = some u2) ∧ (∀ u0 u1 u2 u3, ((((w.setCell ⟨g, 0, none⟩ u0).setCell ⟨g, 1, none⟩ u1).setCell ⟨g, 2, none⟩ u2).setCell ⟨g, 3, none⟩ u3).cell? ⟨g, 3, none⟩ = some u3) := by
  have k0 : ∀ u0, Blk (w.setCell ⟨g, 0, none⟩ u0) g t #[u0, a1, a2, a3] := fun u0 => by simpa using h.set_ 0 u0
  have k1 : ∀ u0 u1, Blk ((w.setCell ⟨g, 0, none⟩ u0).setCell ⟨g, 1, none⟩ u1) g t #[u0, u1, a2, a3] := fun u0 u1 => by simpa using (k0 u0).set_ 1 u1
  have k2 : ∀ u0 u1 u2, Blk (((w.setCell ⟨g, 0, none⟩ u0).setCell ⟨g, 1, none⟩ u1).setCell ⟨g, 2, none⟩ u2) g t #[u0, u1, u2, a3] := fun u0 u1 u2 => by simpa using (k1 u0 u1).set_ 2 u2
  have k3 : ∀ u0 u1 u2 u3, Blk ((((w.setCell ⟨g, 0, none⟩ u0).setCell ⟨g, 1, none⟩ u1).setCell ⟨g, 2, none⟩ u2).setCell ⟨g, 3, none⟩ u3) g t #[u0, u1, u2, u3] := fun u0 u1 u2 u3 => by simpa using (k2 u0 u1 u2).set_ 3 u3
  exact ⟨fun u0 => (k0 u0).cell 0, fun u0 u1 => (k1 u0 u1).cell 1, fun u0 u1 u2 => (k2 u0 u1 u2).cell 2, fun u0 u1 u2 u3 => (k3 u0 u1 u2 u3).cell 3⟩
end
theorem grown4 (w : World) (g : Nat) (u0 u1 u2 u3 : Value) : w.grownBy ((((w.setCell ⟨g, 0, none⟩ u0).setCell ⟨g, 1, none⟩ u1).setCell ⟨g, 2, none⟩ u2).setCell ⟨g, 3, none⟩ u3) (some g) := by
  have h := fun (W : World) (i : Nat) (u : Value) => grown_setCell W ⟨g, i, none⟩ u
  exact grown_trans (grown_trans (grown_trans (h _ _ _) (h _ _ _)) (h _ _ _)) (h _ _ _)
theorem sfd_any (s : Nat) (pid i : Int) (pv fv : Option Addr) (f : Fdm) (w : World) (hp : ∀ V, Below w.heap.size w V → Calls Tryz.prog 37 #[.pointer (some ⟨s, 0, none⟩), .int .i64 pid] V fun e w' => e = .returned (.pointer pv) ∧ V = w') (ho : ∀ V, Below w.heap.size w V → Calls Tryz.prog 47 #[.pointer pv, .int .i64 i] V fun e w' => e = .returned (.pointer fv) ∧ V = w') (hf : (fv = none ∧ f = Fdm.zero) ∨ ∃ b q, fv = some ⟨b, q, none⟩ ∧ At4 w b q f) :
    Calls Tryz.prog 22 #[.pointer (some ⟨s, 0, none⟩), .int .i64 pid, .int .i64 i] w fun e w' => e = .returned (.agg (fdC f)) ∧ Below w.heap.size w w' := by
  have hb1 := ba w (.cells fdZ 74)
  have hk1 := Blk.new w 74 fdZ
  obtain ⟨W1, hW1⟩ : ∃ W, w.alloc (.cells fdZ 74) = W := ⟨_, rfl⟩
  rw [hW1] at hb1 hk1
  have HP := Lib.hid (hp W1 hb1)
  have HO := Lib.hid (ho W1 hb1)
  have HB := Lib.hid hb1
  have f0 := hk1.frozen 0
  have f1 := hk1.frozen 1
  have f2 := hk1.frozen 2
  have f3 := hk1.frozen 3
  have x0 := hk1.cell 0
  have x1 := hk1.cell 1
  have x2 := hk1.cell 2
  have x3 := hk1.cell 3
  simp at x0 x1 x2 x3
  obtain ⟨s0, s1, s2, s3⟩ := hk1.s4
  have HG := Lib.hid (fun (u0 u1 u2 u3 : Value) => below_grown hb1 (grown4 W1 w.heap.size u0 u1 u2 u3) (Nat.le_refl _))
  rcases hf with ⟨rfl, rfl⟩ | ⟨b, q, rfl, hat⟩
  · clear hp ho hb1 hk1
    go_enter Tryz.func22, Tryz.ntmps22
    go_wp2_with fail
    refine HP.out.mono ?_
    rintro e w2 ⟨rfl, rfl⟩
    go_wp2_with fail
    refine HO.out.mono ?_
    rintro e w2 ⟨rfl, rfl⟩
    clear HP HO hW1
    go_wp2
    exact bodyPost_ret (v := .agg #[.int .i64 0, .int .i64 0, .bool false, .bool false]) (by simp [results, Tryz.results22, go_sem, s0, s1, s2, s3]) rfl ⟨rfl, HG.out _ _ _ _⟩
  · have hat1 : At4 W1 b q f := ⟨bc hb1 hat.c0, bc hb1 hat.c1, bc hb1 hat.c2, bc hb1 hat.c3⟩
    obtain ⟨a0, a1, a2, a3⟩ := hat1
    clear hp ho hb1 hk1 hat
    go_enter Tryz.func22, Tryz.ntmps22
    go_wp2_with fail
    refine HP.out.mono ?_
    rintro e w2 ⟨rfl, rfl⟩
    go_wp2_with fail
    refine HO.out.mono ?_
    rintro e w2 ⟨rfl, rfl⟩
    clear HP HO hW1
    go_wp2
    exact bodyPost_ret (v := .agg #[.int .i64 f.node, .int .i64 f.off, .bool f.rd, .bool f.wr]) (by simp [results, Tryz.results22, go_sem, s0, s1, s2, s3]) rfl ⟨rfl, HG.out _ _ _ _⟩
theorem GrR.of_own {w : World} {B : Nat} {v : Value} {l : List Int} (h : w.ownsRow B 3 1 v l.length (iCells l)) : ∃ A c, v = .slice A l.length c ∧ GrR w A l.length c l := by
  have h0 := IntsR.of_own h
  obtain ⟨A, c, rfl⟩ := own_slice h
  refine ⟨A, c, rfl, h0, fun _ ad hA => ?_⟩
  rcases h.2 with ⟨q, -⟩ | ⟨g, cap, cur, q, -, hh, -⟩
  · injection q with q
    rw [q] at hA
    cases hA
  · injection q with q
    rw [q] at hA
    injection hA with hA
    rw [← hA]
    exact ⟨cur, hh⟩
theorem cln_src {w : World} {ad : Addr} {c : Nat} {l : List Int} (h : IntsR w (.slice (some ad) l.length c) l) : ∀ (j : Nat) (u : Value), (iCells l)[j]? = some u → w.cell? (ad.add j) = some u := fun j u hj => by
  have hlt : j < l.length := by
    have := (List.getElem?_eq_some_iff.1 hj).1
    simpa [iCells] using this
  obtain ⟨ad', hA, h0⟩ := ints_get h (List.getElem?_eq_getElem hlt)
  injection hA with hA
  subst hA
  rw [iCells_at l j _ (List.getElem?_eq_getElem hlt)] at hj
  injection hj with hj
  rw [← hj]
  exact h0
theorem eqS_n (n k : Nat) (W : World) : (Go.binOp .eql 31 (.slice none n k) (.slice none 0 0)).run Tryz.prog W = .ok (.bool true) W := by
  first | rfl | kernel_rfl
theorem eqS_s (ad : Addr) (n k : Nat) (W : World) : (Go.binOp .eql 31 (.slice (some ad) n k) (.slice none 0 0)).run Tryz.prog W = .ok (.bool false) W := by
  first | rfl | kernel_rfl
set_option maxHeartbeats 4000000 in
theorem clnI_any (A : Option Addr) (k : Nat) (l : List Int) (w : World) (h : IntsR w (.slice A l.length k) l) (hl : l.length ≤ 1048576) :
    Calls Tryz.prog 57 #[.slice A l.length k] w fun e w' => ∃ A' k', e = .returned (.slice A' l.length k') ∧ GrR w' A' l.length k' l ∧ Below w.heap.size w w' := by
  cases A with
  | none =>
    have hl0 : l = [] := by
      cases l with
      | nil => rfl
      | cons y m' =>
        obtain ⟨ad, e, _⟩ := ints_get h (show (y :: m')[0]? = some y from rfl)
        cases e
    subst hl0
    have hq := eqS_n
    clear h hl
    go_enter Tryz.func57, Tryz.ntmps57
    go_wp2
    go_ret
    exact ⟨_, _, rfl, ⟨IntsR.nil _, fun q => absurd rfl q⟩, Below.refl _ _⟩
  | some ad =>
    obtain ⟨i, hi0, hz0, hz1, hz2⟩ := info_parts info_int
    have hown : (w.alloc (.cells #[] 3)).ownsRow w.heap.size 3 1 (.slice (some ⟨w.heap.size, 0, none⟩) 0 0) 0 [] := ⟨rfl, .inr ⟨w.heap.size, 0, #[], rfl, Nat.le_refl _, (MapKept.heap_alloc w _).1, Nat.le_refl _, Nat.zero_le _, rfl, rfl⟩⟩
    have HO := Lib.hid hown
    have HS := Lib.hid (cln_src (h.below (ba w (.cells #[] 3))))
    have HB := Lib.hid (ba w (.cells #[] 3))
    have hq := eqS_s
    clear h hown
    go_enter Tryz.func57, Tryz.ntmps57
    go_wp2_with (at_builtin; refine wpList_append_own _ rfl (.tmp 5) (.tmp 6) _ rfl w.heap.size 3 i _ 1 8 Tryz.underlying31 hi0 hz0 hz1 hz2 rfl (by decide) (.slice (some ⟨w.heap.size, 0, none⟩) 0 0) 0 [] rfl HO.out ad l.length k (iCells l) rfl (by simp [iCells]) HS.out (iCells_one l) (by unfold maxLen; omega) (by omega) HB.out.size ?_; intro v5 w5 ho5 hg5 _; rw [Nat.zero_add, List.nil_append] at ho5; obtain ⟨A5, k5, hv5, hg6⟩ := GrR.of_own ho5; have HB5 := Lib.hid (HB.out.grown hg5 HB.out.size (fun q hq => (HO.out.lt q hq).1)); have HG5 := Lib.hid hg6; subst hv5; clear ho5 hg5 hg6)
    go_ret
    exact ⟨_, _, rfl, HG5.out, HB5.out⟩
end Go.Proofs.YtkmkfolpjlkfoaaGreat
namespace Go.Proofs.YtkmkfolpjlkfoaaGreat
open Go Go.RowKit
set_option maxRecDepth 100000

attribute [local go_sem] cell_off4 cell_blk4
def prL (um : Int) (q : Wh × Option Addr × Nat) : List Value := [.int .i64 q.1.u, .int .i64 q.1.g, .slice q.2.1 q.1.gs.length q.2.2, .int .i64 (um % 512), .int .i64 0, .int .i64 0, .bool false, .bool false, .int .i64 0, .int .i64 0, .bool false, .bool false, .int .i64 0, .int .i64 0, .bool false, .bool false]
def prs (um : Int) (ps : List (Wh × Option Addr × Nat)) : List Value := ps.flatMap (prL um)
theorem prs_at (um : Int) : ∀ {ps : List (Wh × Option Addr × Nat)} {k : Nat} {q : Wh × Option Addr × Nat}, ps[k]? = some q → ∀ j, j < 16 → (prs um ps)[k * 16 + j]? = (prL um q)[j]?
  | [], k, q, h, j, _ => by simp at h
  | x :: l, 0, q, h, j, hj => by
    have e : x = q := by simpa using h
    subst e
    show (prL um x ++ prs um l)[0 * 16 + j]? = _
    rw [Nat.zero_mul, Nat.zero_add, List.getElem?_append_left (by show j < 16; exact hj)]
  | x :: l, k + 1, q, h, j, hj => by
    have ih := prs_at um (ps := l) (k := k) (q := q) (by simpa using h) j hj
    show (prL um x ++ prs um l)[(k + 1) * 16 + j]? = _
    rw [List.getElem?_append_right (by show 16 ≤ _; omega), ← ih]
    congr 1
    show (k + 1) * 16 + j - 16 = _
    omega
theorem prs_snoc (um : Int) (ps : List (Wh × Option Addr × Nat)) (q : Wh × Option Addr × Nat) : prs um ps ++ prL um q = prs um (ps ++ [q]) := by unfold prs; rw [List.flatMap_append]; simp
theorem prL_one (um : Int) (q : Wh × Option Addr × Nat) : ∀ u ∈ prL um q, u.oneCell' = true := by
  intro u hu
  simp only [prL, List.mem_cons, List.not_mem_nil, or_false] at hu
  rcases hu with rfl | rfl | rfl | rfl | rfl | rfl | rfl | rfl | rfl | rfl | rfl | rfl | rfl | rfl | rfl | rfl <;> rfl
theorem info_prc : (Tryz.prog.info? 118).map (fun i => (i.zero, i.size, i.bytes)) = some (some (.agg #[.int .i64 0, .int .i64 0, .slice none 0 0, .int .i64 0, .int .i64 0, .int .i64 0, .bool false, .bool false, .int .i64 0, .int .i64 0, .bool false, .bool false, .int .i64 0, .int .i64 0, .bool false, .bool false]), 16, 120) := by kernel_rfl
theorem grown_nil {w w' : World} (h : w.grownBy w' none) : Below w.heap.size w w' := ⟨h.os, h.tape, h.output, h.size, fun i hi => h.block i hi (fun e => by cases e)⟩
structure Nw (w0 w : World) (s g : Nat) (t : List Nd) (um : Int) (cs : List Wh) (k : Nat) (A : Option Addr) (c : Nat) (ps : List (Wh × Option Addr × Nat)) : Prop where
  fst : ps.map (·.1) = cs.take k
  grs : ∀ q ∈ ps, GrR w q.2.1 q.1.gs.length q.2.2 q.1.gs
  blk : Blk w s 104 #[.pointer (some ⟨g, 0, none⟩), .slice A k c]
  own : w.ownsRow w0.heap.size 118 16 (.slice A k c) k (prs um ps)
  tab : TabR w g t (fun _ => True)
  blo : Below w0.heap.size w0 w
  ls : w0.heap.size ≤ s
  lg : w0.heap.size ≤ g
section
variable {w0 w w' : World} {s g : Nat} {t : List Nd} {um : Int} {cs : List Wh} {k : Nat} {A : Option Addr} {c : Nat} {ps : List (Wh × Option Addr × Nat)}
theorem Nw.below (h : Nw w0 w s g t um cs k A c ps) (hb : Below w.heap.size w w') : Nw w0 w' s g t um cs k A c ps :=
  ⟨h.fst, fun q hq => (h.grs q hq).below hb, h.blk.below hb, own_below h.own hb, h.tab.below hb, bt hb h.blo, h.ls, h.lg⟩
theorem Nw.grow (h : Nw w0 w s g t um cs k A c ps) (hg : w.grownBy w' (Value.slice A k c).ownBlock) : (∀ (G : Option Addr) (n m : Nat) (l : List Int), GrR w G n m l → GrR w' G n m l) ∧ Blk w' s 104 #[.pointer (some ⟨g, 0, none⟩), .slice A k c] ∧ TabR w' g t (fun _ => True) ∧ Below w0.heap.size w0 w' := by
  have hb := h.blo.grown hg h.blo.size (fun q hq => (h.own.lt q hq).1)
  cases A with
  | none =>
    have h1 := grown_nil hg
    exact ⟨fun _ _ _ _ hx => hx.below h1, h.blk.below h1, h.tab.below h1, hb⟩
  | some ad =>
    obtain ⟨cur, hcur⟩ : ∃ cur, Blk w ad.block 118 cur := by
      rcases h.own.2 with ⟨q, -⟩ | ⟨g', cap, cur, q, -, hh, -⟩
      · injection q with q
        cases q
      · injection q with q
        injection q with q
        rw [q]
        exact ⟨cur, hh⟩
    obtain ⟨ct, hct, -⟩ := h.tab.blk
    have hg' : w.grownBy w' (some ad.block) := hg
    exact ⟨fun _ _ _ _ hx => hx.kind hcur (by decide) hg', h.blk.kept hg' (some_ne (blk_ne h.blk hcur (by decide))), h.tab.kind hg' (blk_ne hct hcur (by decide)) hcur (by decide) (by decide), hb⟩
theorem Nw.app (h : Nw w0 w s g t um cs k A c ps) {x : Wh} {G : Option Addr} {m : Nat} {v' : Value} (hx : cs[k]? = some x) (hG : GrR w G x.gs.length m x.gs) (ho : w'.ownsRow w0.heap.size 118 16 v' (k + 1) (prs um ps ++ prL um (x, G, m))) (hg : w.grownBy w' (Value.slice A k c).ownBlock) :
    ∃ A' c', v' = .slice A' (k + 1) c' ∧ Nw w0 (w'.setCell ⟨s, 1, none⟩ v') s g t um cs (k + 1) A' c' (ps ++ [(x, G, m)]) := by
  obtain ⟨h1, h2, h3, h4⟩ := h.grow hg
  obtain ⟨A', c', rfl⟩ := own_slice ho
  have hs := grown_setCell w' ⟨s, 1, none⟩ (.slice A' (k + 1) c')
  obtain ⟨ct, hct, -⟩ := h3.blk
  refine ⟨A', c', rfl, ?_, fun q hq => ?_, by simpa using h2.set_ 1 (.slice A' (k + 1) c'), ?_, h3.kind hs (blk_ne hct h2 (by decide)) h2 (by decide) (by decide), below_grown h4 hs h.ls, h.ls, h.lg⟩
  · rw [List.map_append, h.fst, List.take_add_one, hx]
    rfl
  · rcases List.mem_append.1 hq with z | z
    · exact (h1 _ _ _ _ (h.grs q z)).kind h2 (by decide) hs
    · rw [List.mem_singleton.1 z]
      exact (h1 _ _ _ _ hG).kind h2 (by decide) hs
  · rw [prs_snoc] at ho
    exact ho.kept hs (.inr (own_blk_ne ho h2 (by decide)))
theorem Nw.sys (h : Nw w0 w s g t um cs cs.length A c ps) (hn : cs.length ≤ 1048576) : ∃ l, SysR w (.pointer (some ⟨s, 0, none⟩)) (newS t um cs) l ∧ (∀ b ∈ l, w0.heap.size ≤ b) ∧ Below w0.heap.size w0 w := by
  have hf := h.fst
  rw [List.take_length] at hf
  by_cases q : cs = []
  · subst q
    exact ⟨[g], ⟨s, g, rfl, .inl ⟨rfl, rfl, h.tab, A, c, h.blk⟩⟩, fun b hb => by rw [List.mem_singleton.1 hb]; exact h.lg, h.blo⟩
  · have hpos : 0 < cs.length := List.length_pos_iff.2 q
    obtain ⟨b, cap, cur, hv, hB, hblk, hsz, hrow⟩ := own_some h.own hpos
    injection hv with hA _ hcap
    subst hA
    subst hcap
    refine ⟨[g, b], ⟨s, g, rfl, .inr ⟨b, c, ⟨?_, h.tab, ⟨cur, hblk, by rw [newS_len]; exact hsz⟩, fun k p hk => ?_, by rw [newS_len]; exact hn⟩, rfl⟩⟩, fun x hx => ?_, h.blo⟩
    · rw [newS_len]
      exact h.blk
    · have hk2 : (cs.map (whoS um))[k]? = some p := hk
      rw [List.getElem?_map] at hk2
      obtain ⟨x, hx, rfl⟩ := Option.map_eq_some_iff.1 hk2
      have hps : (ps.map (·.1))[k]? = some x := by rw [hf]; exact hx
      rw [List.getElem?_map] at hps
      obtain ⟨y, hy, rfl⟩ := Option.map_eq_some_iff.1 hps
      have key : ∀ (j : Nat) (u : Value), j < 16 → (prL um y)[j]? = some u → w.cell? ⟨b, k * 16 + j, none⟩ = some u := fun j u hj hu => hrow _ _ ((prs_at um hy j hj).trans hu)
      refine ⟨y.2.1, y.2.2, key 0 _ (by decide) rfl, key 1 _ (by decide) rfl, key 2 _ (by decide) rfl, key 3 _ (by decide) rfl, rfl, fun i f hf => ?_, h.grs y (List.mem_of_getElem? hy)⟩
      match i, hf with
      | 0, hf =>
        have e : Fdm.zero = f := by simpa [whoS] using hf
        subst e
        exact ⟨⟨key 4 _ (by decide) rfl, key 5 _ (by decide) rfl, key 6 _ (by decide) rfl, key 7 _ (by decide) rfl⟩, fun _ => rfl⟩
      | 1, hf =>
        have e : Fdm.zero = f := by simpa [whoS] using hf
        subst e
        exact ⟨⟨key 8 _ (by decide) rfl, key 9 _ (by decide) rfl, key 10 _ (by decide) rfl, key 11 _ (by decide) rfl⟩, fun _ => rfl⟩
      | 2, hf =>
        have e : Fdm.zero = f := by simpa [whoS] using hf
        subst e
        exact ⟨⟨key 12 _ (by decide) rfl, key 13 _ (by decide) rfl, key 14 _ (by decide) rfl, key 15 _ (by decide) rfl⟩, fun _ => rfl⟩
      | i + 3, hf => simp [whoS] at hf
    · rcases List.mem_cons.1 hx with rfl | hx
      · exact h.lg
      · rw [List.mem_singleton.1 hx]
        exact hB
end
def NewQ (w : World) (t : List Nd) (um : Int) (cs : List Wh) (e : Ending) (w' : World) : Prop := ∃ v l, e = .returned v ∧ SysR w' v (newS t um cs) l ∧ (∀ b ∈ l, w.heap.size ≤ b) ∧ Below w.heap.size w w'
set_option maxHeartbeats 8000000 in
theorem snew_any (g : Nat) (t : List Nd) (P : Nat → Prop) (um : Int) (vc : Value) (cs : List Wh) (w : World) (ht : TabR w g t P) (hc : CdsR w vc cs) (hgs : ∀ c ∈ cs, c.gs.length ≤ 1048576) (hn : cs.length ≤ 1048576) :
    Calls Tryz.prog 28 #[.pointer (some ⟨g, 0, none⟩), .int .i64 um, vc] w (NewQ w t um cs) := by
  obtain ⟨A0, c0, rfl⟩ := cds_form hc
  have HT := Lib.hid ht
  have HC := Lib.hid hc
  have HG := Lib.hid hgs
  have HNW := Lib.hid (new_any 1 w)
  have hA := and511 um
  clear ht hc hgs
  go_enter Tryz.func28, Tryz.ntmps28
  go_wp2_with fail
  refine HNW.out.mono ?_
  rintro e w1 ⟨rfl, -, hb1, hz1⟩
  have hb2 := al hb1 (.cells #[.pointer (some ⟨w.heap.size, 0, none⟩), .slice none 0 0] 104)
  have hk2 := Blk.new w1 104 #[.pointer (some ⟨w.heap.size, 0, none⟩), .slice none 0 0]
  obtain ⟨W2, hW2⟩ : ∃ W, w1.alloc (.cells #[.pointer (some ⟨w.heap.size, 0, none⟩), .slice none 0 0] 104) = W := ⟨_, rfl⟩
  obtain ⟨s, hs⟩ : ∃ s, w1.heap.size = s := ⟨_, rfl⟩
  rw [hW2] at hb2 hk2
  rw [hs] at hk2
  have hls : w.heap.size ≤ s := by rw [← hs]; exact hb1.size
  have HB2 := Lib.hid hb2
  have HK2 := Lib.hid hk2
  have HLS := Lib.hid hls
  have HCL := Lib.hid (clone_any g t P (fun _ => True) W2 (HT.out.below hb2) (fun _ _ => trivial))
  clear hb1 hz1 hb2 hk2 hls HNW
  go_wp2_with fail
  clear hW2 hs
  refine HCL.out.mono ?_
  rintro e w3 ⟨rfl, ht3, hb3⟩
  obtain ⟨g3, hg3⟩ : ∃ g3, W2.heap.size = g3 := ⟨_, rfl⟩
  rw [hg3] at ht3
  have hk3 := HK2.out.below hb3
  have y0 := hk3.cell 0
  simp at y0
  have y1 := hk3.frozen 0
  obtain ⟨ct, hct, -⟩ := ht3.blk
  have hgs4 := grown_setCell w3 ⟨s, 0, none⟩ (.pointer (some ⟨g3, 0, none⟩))
  have hNW : Nw w (w3.setCell ⟨s, 0, none⟩ (.pointer (some ⟨g3, 0, none⟩))) s g3 t um cs 0 none 0 [] := by
    refine ⟨by rw [List.take_zero]; rfl, fun q hq => (by cases hq), by simpa using hk3.set_ 0 (.pointer (some ⟨g3, 0, none⟩)), World.ownsRow_nil _ _ _ _, ht3.kind hgs4 (blk_ne hct hk3 (by decide)) hk3 (by decide) (by decide), below_grown (bt hb3 HB2.out) hgs4 HLS.out, HLS.out, by rw [← hg3]; exact HB2.out.size⟩
  have HN0 := Lib.hid hNW
  clear ht3 hb3 hk3 hct hgs4 hNW HK2 HCL HT
  go_upto_block 0 with fail
  clear y0 y1
  obtain ⟨W4, hW4⟩ : ∃ W, w3.setCell ⟨s, 0, none⟩ (.pointer (some ⟨g3, 0, none⟩)) = W := ⟨_, rfl⟩
  rw [hW4] at HN0 ⊢
  clear hW4 hg3 HB2 HLS
  go_wp2
  go_loopg [22] cs.length (fun gh s22 wr => ∃ (k : Nat) (A : Option Addr) (c : Nat) (ps : List (Wh × Option Addr × Nat)), s22 = .int .i64 k ∧ k ≤ cs.length ∧ gh = cs.length - k ∧ Nw w wr s g3 t um cs k A c ps)
  case atStart => exact ⟨0, none, 0, [], rfl, Nat.zero_le _, rfl, HN0.out⟩
  case round =>
    obtain ⟨k, A, c, ps, rfl, hk, rfl, hN⟩ := hrel
    have HN := Lib.hid hN
    by_cases hlt : k < cs.length
    · have hlt' : (k : Int) < (cs.length : Int) := by omega
      obtain ⟨x, hx⟩ : ∃ x, cs[k]? = some x := ⟨_, List.getElem?_eq_getElem hlt⟩
      obtain ⟨ad, B, n, m, hA0, d0, d1, d2, hi⟩ := cds_get (HC.out.below hN.blo) hx
      subst hA0
      obtain ⟨B', m2, hv⟩ := ints_form hi rfl
      injection hv with e1 e2 e3
      subst e1
      subst e2
      subst e3
      have HX := Lib.hid hx
      have hxl := HG.out x (List.mem_of_getElem? hx)
      have HCN := Lib.hid (fun (V : World) (hv : Below wr.heap.size wr V) => clnI_any B m x.gs V (hi.below hv) hxl)
      have HB1 := Lib.hid (ba wr (.cells #[.int .i64 x.u, .int .i64 x.g, .slice B x.gs.length m] 35))
      have HK1 := Lib.hid (Blk.new wr 35 #[.int .i64 x.u, .int .i64 x.g, .slice B x.gs.length m])
      clear hx hxl hi hN
      go_wp2_with fail
      refine (HCN.out _ HB1.out).mono ?_
      rintro e w5 ⟨G, m5, rfl, hg5, hb5⟩
      obtain ⟨z, hz⟩ : ∃ z, wr.heap.size = z := ⟨_, rfl⟩
      have hzl : wr.heap.size ≤ z := by omega
      have hk5 := HK1.out.below hb5
      have hb6 := bt hb5 HB1.out
      rw [hz] at hk5 ⊢
      have hgs := grown_setCell w5 ⟨z, 2, none⟩ (.slice G x.gs.length m5)
      have HK6 := Lib.hid (show Blk (w5.setCell ⟨z, 2, none⟩ (.slice G x.gs.length m5)) z 35 #[.int .i64 x.u, .int .i64 x.g, .slice G x.gs.length m5] from by simpa using hk5.set_ 2 (.slice G x.gs.length m5))
      have HG6 := Lib.hid (hg5.kind hk5 (by decide) hgs)
      have HN6 := Lib.hid (HN.out.below (below_grown hb6 hgs hzl))
      have y2 := hk5.cell 2
      simp at y2
      have y3 := hk5.frozen 2
      clear HCN HB1 HK1 hg5 hb5 hk5 hb6 hgs d0 d1 d2
      go_upto_region 8 with fail
      clear y2 y3
      obtain ⟨W6, hW6⟩ : ∃ W, w5.setCell ⟨z, 2, none⟩ (.slice G x.gs.length m5) = W := ⟨_, rfl⟩
      rw [hW6] at HK6 HG6 HN6 ⊢
      clear hW6 hz hzl
      have hnv := HN6.out.below (Below.refl _ _).drew
      have HNV := Lib.hid (hnv.below (ba W6.drew (.cells (List.toArray [.int .i64 x.u, .int .i64 x.g, .slice G x.gs.length m5, .int .i64 (um % 512), .int .i64 0, .int .i64 0, .bool false, .bool false, .int .i64 0, .int .i64 0, .bool false, .bool false, .int .i64 0, .int .i64 0, .bool false, .bool false]) 118)))
      have HGV := Lib.hid ((HG6.out.below (Below.refl _ _).drew).below (ba W6.drew (.cells (List.toArray [.int .i64 x.u, .int .i64 x.g, .slice G x.gs.length m5, .int .i64 (um % 512), .int .i64 0, .int .i64 0, .bool false, .bool false, .int .i64 0, .int .i64 0, .bool false, .bool false, .int .i64 0, .int .i64 0, .bool false, .bool false]) 118)))
      obtain ⟨c0', c1', c2'⟩ := HK6.out.c3
      obtain ⟨c3', c4', c5'⟩ := (HK6.out.below (Below.refl _ _).drew).c3
      have s1 : W6.drew.cell? ⟨s, 1, none⟩ = some (.slice A k c) := hnv.blk.cell 1
      have s2 : (W6.alloc (.cells (List.toArray [.int .i64 x.u, .int .i64 x.g, .slice G x.gs.length m5, .int .i64 (um % 512), .int .i64 0, .int .i64 0, .bool false, .bool false, .int .i64 0, .int .i64 0, .bool false, .bool false, .int .i64 0, .int .i64 0, .bool false, .bool false]) 118)).cell? ⟨s, 1, none⟩ = some (.slice A k c) := (HN6.out.below (ba W6 (.cells (List.toArray [.int .i64 x.u, .int .i64 x.g, .slice G x.gs.length m5, .int .i64 (um % 512), .int .i64 0, .int .i64 0, .bool false, .bool false, .int .i64 0, .int .i64 0, .bool false, .bool false, .int .i64 0, .int .i64 0, .bool false, .bool false]) 118))).blk.cell 1
      have s1' : W6.cell? ⟨s, 1, none⟩ = some (.slice A k c) := s1
      have s0 : s < W6.drew.heap.size := hnv.blk.lt
      have HNEW := Lib.hid (fun j u (hj : ([.int .i64 x.u, .int .i64 x.g, .slice G x.gs.length m5, .int .i64 (um % 512), .int .i64 0, .int .i64 0, .bool false, .bool false, .int .i64 0, .int .i64 0, .bool false, .bool false, .int .i64 0, .int .i64 0, .bool false, .bool false] : List Value)[j]? = some u) => World.news_of_block (heap_alloc_new W6.drew (.cells (List.toArray [.int .i64 x.u, .int .i64 x.g, .slice G x.gs.length m5, .int .i64 (um % 512), .int .i64 0, .int .i64 0, .bool false, .bool false, .int .i64 0, .int .i64 0, .bool false, .bool false, .int .i64 0, .int .i64 0, .bool false, .bool false]) 118)) j u (by simpa using hj))
      have HBS := Lib.hid HNV.out.blo.size
      have HOWN := Lib.hid HNV.out.own
      have hkn : k < 1048576 := by omega
      obtain ⟨i0, hi0, hz0, hz1, hz2⟩ := info_parts info_prc
      clear hnv
      go_region_law (first
        | (refine step_append_lies _ rfl (.tmp 34) (.tmp 39) 102 rfl w.heap.size 118 i0 _ 16 120 Tryz.underlying102 hi0 hz0 hz1 hz2 rfl (by decide) (.slice A k c) k (prs um ps) (by simp [Act.eval]) HOWN.out ⟨W6.drew.heap.size, 0, none⟩ 1 1 [.int .i64 x.u, .int .i64 x.g, .slice G x.gs.length m5, .int .i64 (um % 512), .int .i64 0, .int .i64 0, .bool false, .bool false, .int .i64 0, .int .i64 0, .bool false, .bool false, .int .i64 0, .int .i64 0, .bool false, .bool false] (by simp [Act.eval]) rfl HNEW.out (prL_one um (x, G, m5)) (by decide) (by unfold maxLen; omega) (by omega) HBS.out _ rfl ?_; intro g1 cap1 w8 ho1 hg1 hat1 hlt1; obtain ⟨-, hk8, -, -⟩ := HNV.out.grow hg1; have s8 : w8.cell? ⟨s, 1, none⟩ = some (.slice A k c) := hk8.cell 1; have s9 := hk8.frozen 1; obtain ⟨A9, c9, hv9, hn9⟩ := HNV.out.app HX.out HGV.out ho1 hg1; have HN9 := Lib.hid hn9; clear ho1 hg1 hat1 hlt1 hk8 hn9))
      all_goals (
        go_wp2
        go_roundg (cs.length - (k + 1))
        case measure => omega
        case rel => exact ⟨k + 1, _, _, _, by go_num, by omega, rfl, HN9.out⟩)
    · have hlt' : ¬ (k : Int) < (cs.length : Int) := by omega
      have e : k = cs.length := by omega
      have HE := Lib.hid (show Nw w wr s g3 t um cs cs.length A c ps from by rw [← e]; exact hN)
      clear hN HN e
      go_wp2
      go_ret
      obtain ⟨l, h1, h2, h3⟩ := HE.out.sys hn
      exact ⟨.pointer (some ⟨s, 0, none⟩), l, rfl, h1, h2, h3⟩
end Go.Proofs.YtkmkfolpjlkfoaaGreat
namespace Go.Proofs.YtkmkfolpjlkfoaaGreat
open Go Go.RowKit
set_option maxRecDepth 100000

theorem cf_stat (args : Array Value) (W : World) : (callFunc 60 args).run Tryz.prog W = .ok (.enter 60 args) W := by
  first | (simp only [go_sem]; done) | rfl
theorem cf_lstat (args : Array Value) (W : World) : (callFunc 61 args).run Tryz.prog W = .ok (.enter 61 args) W := by
  first | (simp only [go_sem]; done) | rfl
theorem cf_readlink (args : Array Value) (W : World) : (callFunc 62 args).run Tryz.prog W = .ok (.enter 62 args) W := by
  first | (simp only [go_sem]; done) | rfl
theorem cf_list (args : Array Value) (W : World) : (callFunc 63 args).run Tryz.prog W = .ok (.enter 63 args) W := by
  first | (simp only [go_sem]; done) | rfl
theorem cf_chmod (args : Array Value) (W : World) : (callFunc 64 args).run Tryz.prog W = .ok (.enter 64 args) W := by
  first | (simp only [go_sem]; done) | rfl
theorem cf_chown (args : Array Value) (W : World) : (callFunc 65 args).run Tryz.prog W = .ok (.enter 65 args) W := by
  first | (simp only [go_sem]; done) | rfl
theorem cf_lchown (args : Array Value) (W : World) : (callFunc 66 args).run Tryz.prog W = .ok (.enter 66 args) W := by
  first | (simp only [go_sem]; done) | rfl
theorem cf_mkdir (args : Array Value) (W : World) : (callFunc 67 args).run Tryz.prog W = .ok (.enter 67 args) W := by
  first | (simp only [go_sem]; done) | rfl
theorem cf_symlink (args : Array Value) (W : World) : (callFunc 68 args).run Tryz.prog W = .ok (.enter 68 args) W := by
  first | (simp only [go_sem]; done) | rfl
theorem cf_unlink (args : Array Value) (W : World) : (callFunc 69 args).run Tryz.prog W = .ok (.enter 69 args) W := by
  first | (simp only [go_sem]; done) | rfl
theorem cf_rmdir (args : Array Value) (W : World) : (callFunc 70 args).run Tryz.prog W = .ok (.enter 70 args) W := by
  first | (simp only [go_sem]; done) | rfl
theorem cf_rename (args : Array Value) (W : World) : (callFunc 71 args).run Tryz.prog W = .ok (.enter 71 args) W := by
  first | (simp only [go_sem]; done) | rfl
theorem cf_open (args : Array Value) (W : World) : (callFunc 72 args).run Tryz.prog W = .ok (.enter 72 args) W := by
  first | (simp only [go_sem]; done) | rfl
theorem cf_read (args : Array Value) (W : World) : (callFunc 73 args).run Tryz.prog W = .ok (.enter 73 args) W := by
  first | (simp only [go_sem]; done) | rfl
theorem cf_write (args : Array Value) (W : World) : (callFunc 74 args).run Tryz.prog W = .ok (.enter 74 args) W := by
  first | (simp only [go_sem]; done) | rfl
theorem cf_close (args : Array Value) (W : World) : (callFunc 75 args).run Tryz.prog W = .ok (.enter 75 args) W := by
  first | (simp only [go_sem]; done) | rfl
theorem cf_mask (args : Array Value) (W : World) : (callFunc 76 args).run Tryz.prog W = .ok (.enter 76 args) W := by
  first | (simp only [go_sem]; done) | rfl
theorem cf_exit (args : Array Value) (W : World) : (callFunc 77 args).run Tryz.prog W = .ok (.enter 77 args) W := by
  first | (simp only [go_sem]; done) | rfl
theorem kind_cases (k : Int) : (k < 1 ∨ 18 < k) ∨ ∃ (F : FuncId) (n i : Nat), k = (n : Int) ∧ 1 ≤ n ∧ n ≤ 18 ∧ Instr.findNow (.int .i64) (.int .i64 k) ces.toList 0 = some (some (i, .func (.func F) #[] #[])) ∧ MtC F n ∧ ∀ (args : Array Value) (W : World), (callFunc F args).run Tryz.prog W = .ok (.enter F args) W := by
  by_cases h : k < 1 ∨ 18 < k
  · exact .inl h
  · right
    obtain rfl | rfl | rfl | rfl | rfl | rfl | rfl | rfl | rfl | rfl | rfl | rfl | rfl | rfl | rfl | rfl | rfl | rfl : k = 1 ∨ k = 2 ∨ k = 3 ∨ k = 4 ∨ k = 5 ∨ k = 6 ∨ k = 7 ∨ k = 8 ∨ k = 9 ∨ k = 10 ∨ k = 11 ∨ k = 12 ∨ k = 13 ∨ k = 14 ∨ k = 15 ∨ k = 16 ∨ k = 17 ∨ k = 18 := by omega
    · exact ⟨60, 1, 0, rfl, by decide, by decide, rfl, m_stat, cf_stat⟩
    · exact ⟨61, 2, 1, rfl, by decide, by decide, rfl, m_lstat, cf_lstat⟩
    · exact ⟨62, 3, 2, rfl, by decide, by decide, rfl, m_readlink, cf_readlink⟩
    · exact ⟨63, 4, 3, rfl, by decide, by decide, rfl, m_list, cf_list⟩
    · exact ⟨64, 5, 4, rfl, by decide, by decide, rfl, m_chmod, cf_chmod⟩
    · exact ⟨65, 6, 5, rfl, by decide, by decide, rfl, m_chown, cf_chown⟩
    · exact ⟨66, 7, 6, rfl, by decide, by decide, rfl, m_lchown, cf_lchown⟩
    · exact ⟨67, 8, 7, rfl, by decide, by decide, rfl, m_mkdir, cf_mkdir⟩
    · exact ⟨68, 9, 8, rfl, by decide, by decide, rfl, m_symlink, cf_symlink⟩
    · exact ⟨69, 10, 9, rfl, by decide, by decide, rfl, m_unlink, cf_unlink⟩
    · exact ⟨70, 11, 10, rfl, by decide, by decide, rfl, m_rmdir, cf_rmdir⟩
    · exact ⟨71, 12, 11, rfl, by decide, by decide, rfl, m_rename, cf_rename⟩
    · exact ⟨72, 13, 12, rfl, by decide, by decide, rfl, m_open, cf_open⟩
    · exact ⟨73, 14, 13, rfl, by decide, by decide, rfl, m_read, cf_read⟩
    · exact ⟨74, 15, 14, rfl, by decide, by decide, rfl, m_write, cf_write⟩
    · exact ⟨75, 16, 15, rfl, by decide, by decide, rfl, m_close, cf_close⟩
    · exact ⟨76, 17, 16, rfl, by decide, by decide, rfl, m_mask, cf_mask⟩
    · exact ⟨77, 18, 17, rfl, by decide, by decide, rfl, m_exit, cf_exit⟩
theorem sopn_nil (s c : Nat) (vg : Value) (A : Option Addr) (w : World) (h : Blk w s 104 #[vg, .slice A 0 c]) :
    Calls Tryz.prog 20 #[.pointer (some ⟨s, 0, none⟩)] w fun e w' => e = .returned (.slice none 0 0) ∧ w = w' := by
  have p1 : w.cell? ⟨s, 1, none⟩ = some (.slice A 0 c) := h.cell 1
  clear h
  go_enter Tryz.func20, Tryz.ntmps20
  go_wp2
  go_loopg [3, 15] 0 (fun gh s3 s15 wr => s3 = .slice none 0 0 ∧ s15 = .int .i64 0 ∧ gh = 0 ∧ w = wr)
  case atStart => exact ⟨rfl, rfl, rfl, rfl⟩
  case round =>
    obtain ⟨rfl, rfl, rfl, rfl⟩ := hrel
    go_wp2
    go_ret
    exact ⟨rfl, rfl⟩
theorem prI_none {S : Sym} {pid : Int} (h : prI S pid = none) : pid < 0 ∨ (S.p.length : Int) ≤ pid := by
  unfold prI at h
  by_cases q : 0 ≤ pid
  · rw [if_pos q] at h
    have := List.getElem?_eq_none_iff.1 h
    omega
  · omega
theorem sysr_blk {w : World} {v : Value} {S : Sym} {l : List Nat} (h : SysR w v S l) : ∃ (s g : Nat) (A : Option Addr) (c : Nat), v = .pointer (some ⟨s, 0, none⟩) ∧ Blk w s 104 #[.pointer (some ⟨g, 0, none⟩), .slice A S.p.length c] ∧ TabR w g S.t (fun _ => True) ∧ (∀ pid p, prI S pid = some p → ∃ b lb, A = some ⟨b, 0, none⟩ ∧ l = [g, b] ∧ lb = c ∧ Sq w s g b lb S) := by
  obtain ⟨s, g, rfl, ⟨h1, h2, ht, A, c, hk⟩ | ⟨b, c, hs, rfl⟩⟩ := h
  · refine ⟨s, g, A, c, rfl, by rw [h1]; exact hk, ht, fun pid p hp => ?_⟩
    have := (prI_at hp).1
    rw [h1] at this
    simp at this
  · exact ⟨s, g, some ⟨b, 0, none⟩, c, rfl, hs.blk, hs.tab, fun pid p _ => ⟨b, c, rfl, rfl, rfl, hs⟩⟩
theorem prI_nat {S : Sym} {pid : Int} {p : Prm} (h : prI S pid = some p) : ∃ k : Nat, pid = (k : Int) ∧ S.p[k]? = some p := by
  obtain ⟨h1, h2⟩ := prI_at h
  exact ⟨pid.toNat, by omega, h1⟩
theorem sdo_bad {w : World} {v : Value} {S : Sym} {l : List Nat} (h : SysR w v S l) {X : Sym × Rsm} (hX : X = (S, Rsm.e 22)) {e : Ending} {w' : World} (he : e = .returned (.agg (resC (Rsm.e 22) (.slice none 0 0) (.slice none 0 0))) ∧ Below w.heap.size w w') : DoA SysR w v X.1 X.2 l e w' := by
  subst hX
  obtain ⟨rfl, hb⟩ := he
  exact ⟨none, 0, 0, none, 0, 0, rfl, ⟨strs_none w', BytesT.nil w', fun ad q => by cases q⟩, sysr_below _ _ _ _ _ h hb, Fix.of_below hb⟩
theorem sdo_any (v : Value) (S : Sym) (l : List Nat) (pid : Int) (c : Cal) (vd : Value) (w : World) (hR : SysR w v S l) (hI : Inv S) (hn : (opnS S).length ≤ 1000) (hd : BytesR w vd c.data) (hsh : shortC c) :
    Calls Tryz.prog 15 #[v, .int .i64 pid, .agg (calC c vd)] w (DoA SysR w v (doS S pid c).1 (doS S pid c).2 l) := by
  obtain ⟨s, g, A, cp, rfl, hk, ht, hP⟩ := sysr_blk hR
  cases hp : prI S pid with
  | none =>
    have hX : doS S pid c = (S, Rsm.e 22) := by unfold doS; rw [hp]
    have hpc : ∀ V, Below w.heap.size w V → Calls Tryz.prog 37 #[.pointer (some ⟨s, 0, none⟩), .int .i64 pid] V fun e w' => e = .returned (.pointer none) ∧ V = w' := fun V hv => proc_none s S.p.length cp _ A pid V (hk.below hv) (prI_none hp)
    rcases kind_cases c.kind with q | ⟨F, n, i, -, -, -, hf, -, -⟩
    · exact (do_err s pid c vd (.pointer none) .nilFunc w hpc (fun V bm hb => lookC c.kind none V bm hb (findN c.kind q)) (.inl rfl)).mono (fun e w' he => sdo_bad hR hX he)
    · exact (do_err s pid c vd (.pointer none) (.func (.func F) #[] #[]) w hpc (fun V bm hb => lookC c.kind _ V bm hb hf) (.inl rfl)).mono (fun e w' he => sdo_bad hR hX he)
  | some p =>
    obtain ⟨b, cb, hA, rfl, rfl, hs⟩ := hP pid p hp
    obtain ⟨k, rfl, hpk⟩ := prI_nat hp
    rcases kind_cases c.kind with q | ⟨F, n, i, hkn, h1, h2, hf, hM, hcf⟩
    · have hX : doS S (k : Int) c = (S, Rsm.e 22) := by
        unfold doS
        rw [hp]
        exact if_neg (by omega)
      have hkl : k < S.p.length := (List.getElem?_eq_some_iff.1 hpk).1
      exact (do_err s k c vd (.pointer (some ⟨b, k * 16, none⟩)) .nilFunc w (fun V hv => (proc_some s S.p.length cb b k _ V (hs.blk.below hv) hkl)) (fun V bm hb => lookC c.kind none V bm hb (findN c.kind q)) (.inr ⟨⟨_, rfl⟩, rfl⟩)).mono (fun e w' he => sdo_bad hR hX he)
    · have hX : doS S (k : Int) c = doK n S k p c := by
        unfold doS
        rw [hp]
        show (if 1 ≤ c.kind ∧ c.kind ≤ 18 then doK c.kind.toNat S (k : Int).toNat p c else _) = _
        rw [if_pos (by omega), hkn]
        rfl
      rw [hX]
      refine (do_call F n hM hcf s g b cb k S p c vd w hs hI hn hpk hd hsh (fun V bm hb => lookC c.kind _ V bm hb hf)).mono ?_
      rintro e w' ⟨A1, n1, c1, A2, n2, c2, rfl, hr, hs', hfx⟩
      exact ⟨A1, n1, c1, A2, n2, c2, rfl, hr, ⟨s, g, rfl, .inr ⟨b, cb, hs', rfl⟩⟩, hfx⟩
theorem fd_zero {w : World} {b o : Nat} {p : Prm} {G : Option Addr} {m : Nat} (h : PrC w b o p G m) (i : Int) : ((p.fd i).node = 0 → p.fd i = Fdm.zero) ∧ ((p.fd i).node ≠ 0 → At4 w b (o + 4 + i.toNat * 4) (p.fd i)) := by
  refine ⟨fun q => ?_, fun q => (h.fd _ _ (fd_place q)).1⟩
  unfold Prm.fd at q ⊢
  by_cases h0 : 0 ≤ i
  · rw [if_pos h0] at q ⊢
    rw [List.getD_eq_getElem?_getD] at q ⊢
    cases hf : p.f[i.toNat]? with
    | none => rfl
    | some f =>
      rw [hf] at q
      exact (h.fd _ f hf).2 q
  · rw [if_neg h0]
theorem sysC : SysC SysR where
  lt := sysr_lt
  below := sysr_below
  oth := sysr_oth
  u8 := fun w v S l h b hb cs hk => by
    obtain ⟨s, g, rfl, ⟨h1, rfl, ht, -⟩ | ⟨x, c, hs, rfl⟩⟩ := h
    · obtain ⟨ct, hct, -⟩ := ht.blk
      rw [List.mem_singleton.1 hb] at hk
      exact blk_ne hct hk (by decide) rfl
    · obtain ⟨ct, hct, -⟩ := hs.tab.blk
      obtain ⟨cr, hcr, -⟩ := hs.row
      rcases List.mem_cons.1 hb with rfl | hb
      · exact blk_ne hct hk (by decide) rfl
      · rw [List.mem_singleton.1 hb] at hk
        exact blk_ne hcr hk (by decide) rfl
  new := fun g t P um vc cs w ht hc hg hn => snew_any g t P um vc cs w ht hc hg hn
  dos := sdo_any
  tab := fun v S l w h => by
    obtain ⟨s, g, A, c, rfl, hk, ht, -⟩ := sysr_blk h
    exact stab_any s g A _ c S.t w hk ht
  mask := fun v S l pid w h => by
    obtain ⟨s, g, A, c, rfl, hk, ht, hP⟩ := sysr_blk h
    cases hp : prI S pid with
    | none =>
      have e : umS S pid = 0 := by unfold umS; rw [hp]
      rw [e]
      exact smask_none s pid w (proc_none s S.p.length c _ A pid w hk (prI_none hp))
    | some p =>
      have e : umS S pid = p.um := by unfold umS; rw [hp]
      rw [e]
      obtain ⟨b, cb, hA, -, rfl, hs⟩ := hP pid p hp
      obtain ⟨k, rfl, hpk⟩ := prI_nat hp
      obtain ⟨G, m, hc⟩ := hs.prs k p hpk
      exact smask_some s b (k * 16) k p G m w hc (proc_some s S.p.length cb b k _ w hs.blk (List.getElem?_eq_some_iff.1 hpk).1)
  fds := fun v S l pid i w h => by
    obtain ⟨s, g, A, c, rfl, hk, ht, hP⟩ := sysr_blk h
    cases hp : prI S pid with
    | none =>
      have e : fdS S pid i = Fdm.zero := by unfold fdS; rw [hp]
      rw [e]
      exact sfd_any s pid i none none Fdm.zero w (fun V hv => proc_none s S.p.length c _ A pid V (hk.below hv) (prI_none hp)) (fun V _ => open_nil i V) (.inl ⟨rfl, rfl⟩)
    | some p =>
      have e : fdS S pid i = p.fd i := by unfold fdS; rw [hp]
      rw [e]
      obtain ⟨b, cb, hA, -, rfl, hs⟩ := hP pid p hp
      obtain ⟨k, rfl, hpk⟩ := prI_nat hp
      obtain ⟨G, m, hc⟩ := hs.prs k p hpk
      obtain ⟨hz, ha⟩ := fd_zero hc i
      refine sfd_any s k i (some ⟨b, k * 16, none⟩) (if (p.fd i).node = 0 then none else some ⟨b, k * 16 + 4 + i.toNat * 4, none⟩) (p.fd i) w (fun V hv => proc_some s S.p.length cb b k _ V (hs.blk.below hv) (List.getElem?_eq_some_iff.1 hpk).1) (fun V hv => opened_any i V (hc.below hv)) ?_
      by_cases q : (p.fd i).node = 0
      · exact .inl ⟨if_pos q, hz q⟩
      · exact .inr ⟨b, _, if_neg q, ha q⟩
  opn := fun v S l w h hn => by
    obtain ⟨s, g, rfl, ⟨h1, rfl, ht, A, c, hk⟩ | ⟨b, c, hs, rfl⟩⟩ := h
    · refine (sopn_nil s c _ A w hk).mono ?_
      rintro e w' ⟨rfl, rfl⟩
      have e : opnS S = [] := by unfold opnS; rw [h1]; rfl
      exact ⟨none, 0, 0, rfl, by rw [e]; exact IntsR.nil w, fun ad q => (by cases q), Below.refl _ _⟩
    · exact sopn_any s g b c S w hs hn
end Go.Proofs.YtkmkfolpjlkfoaaGreat
