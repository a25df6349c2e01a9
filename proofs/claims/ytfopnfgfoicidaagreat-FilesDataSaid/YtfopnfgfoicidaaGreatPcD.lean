/-
  Package plant's Mkdir, Symlink and Create: what they answer. The conditions are said at each.
-/
import Derived.Test.YtfopnfgfoicidaaGreatPcC
namespace Go.Proofs.YtfopnfgfoicidaaGreat
open Go Go.RowKit
set_option maxRecDepth 100000

attribute [local go_sem] cell_off4 cell_blk4
theorem cf_cr (args : Array Value) (W : World) : (callFunc 69 args).run Tryz.prog W = .ok (.enter 69 args) W := by
  first | (simp only [go_sem]; done) | rfl
theorem plant_any (g : Nat) (t : List Nd) (P : Nat → Prop) (c : Wh) (A0 : Option Addr) (m k : Nat) (p : Nm) (f : Bool) (Fn : FuncId) (caps : Array Value) (kd md : Int) (tg : Nm) (w : World) (h : TabR w g t P) (ht : okT t) (hc : CrR w c A0 m k) (hkd : 1 ≤ kd ∧ kd ≤ 3) (htl : tg.length ≤ 1000) (hP : ∀ b, w.heap.size ≤ b → P b) (hT : ClT w Fn caps kd md tg) (hcf : ∀ (args : Array Value) (W : World), (callFunc Fn args).run Tryz.prog W = .ok (.enter Fn args) W) :
    Calls Tryz.prog 68 #[.pointer (some ⟨g, 0, none⟩), .agg #[.int .i64 c.u, .int .i64 c.g, .slice A0 m k], .string (bA p), .bool f, .func (.func Fn) #[] caps] w fun e w' => e = .returned (.tuple #[.int .i64 (plI t c (resM t c p f) kd md tg), .int .i64 (plE t c (resM t c p f) kd md tg)]) ∧ TabR w' g (plT t c (resM t c p f) kd md tg) P ∧ w.grownBy w' (some g) := by
  obtain ⟨R, hR⟩ : ∃ R, resM t c p f = R := ⟨_, rfl⟩
  obtain ⟨F, E⟩ := R
  rw [hR]
  by_cases hz : E = 0
  · subst hz
    exact plant_go g t P c A0 m k p f Fn caps kd md tg w h ht hc hkd htl hP hT hcf F hR
  · have e1 : plE t c (F, E) kd md tg = E := pl_pre hz
    have e2 := pl_err (t := t) (c := c) (R := (F, E)) (k := kd) (m := md) (tg := tg) (by rw [e1]; exact hz)
    rw [e1, e2.1, e2.2]
    refine (plant_pre (.pointer (some ⟨g, 0, none⟩)) t c A0 m k p f Fn caps w h.ptr hc E (by rw [hR]) hz).mono ?_
    rintro e w' ⟨rfl, hb⟩
    exact ⟨rfl, h.below hb, grown_below hb _⟩
set_option maxHeartbeats 8000000 in
theorem create_of (v : Value) (c : Wh) (A0 : Option Addr) (m k : Nat) (umask : Int) (p : Nm) (mode : Int) (f : Bool) (w : World) (Q : Int → Int → World → Prop) (h1 : ∀ (mb ub : Nat) (W : World), Below w.heap.size w W → W.cell? ⟨mb, 0, none⟩ = some (.int .i64 mode) → W.cell? ⟨ub, 0, none⟩ = some (.int .i64 umask) →
      Calls Tryz.prog 68 #[v, .agg #[.int .i64 c.u, .int .i64 c.g, .slice A0 m k], .string (bA p), .bool f, .func (.func 69) #[] #[.pointer (some ⟨mb, 0, none⟩), .pointer (some ⟨ub, 0, none⟩)]] W fun e w' => ∃ i x, e = .returned (.tuple #[.int .i64 i, .int .i64 x]) ∧ Q i x w') :
    Calls Tryz.prog 40 #[v, .agg #[.int .i64 c.u, .int .i64 c.g, .slice A0 m k], .int .i64 umask, .string (bA p), .int .i64 mode, .bool f] w fun e w' => ∃ i x, e = .returned (.tuple #[.int .i64 i, .int .i64 x]) ∧ Q i x w' := by
  have hmf : ∀ (fn : Fn) (first cap : Array Value) (w : World), (Instr.makeFunc fn first cap).run Tryz.prog w = .ok (.func fn first cap) w := fun _ _ _ _ => rfl
  have hb1 := ba w (.cells #[.int .i64 c.u, .int .i64 c.g, .slice A0 m k] 25)
  have hk1 := Blk.new w 25 #[.int .i64 c.u, .int .i64 c.g, .slice A0 m k]
  obtain ⟨W1, hW1⟩ : ∃ W1, w.alloc (.cells #[.int .i64 c.u, .int .i64 c.g, .slice A0 m k] 25) = W1 := ⟨_, rfl⟩
  rw [hW1] at hb1 hk1
  have hb2 := al hb1 (.cells #[.int .i64 umask] 3)
  have hk2 := hk1.below (ba W1 (.cells #[.int .i64 umask] 3))
  have hu2 := Blk.new W1 3 #[.int .i64 umask]
  obtain ⟨ub, hub⟩ : ∃ ub, W1.heap.size = ub := ⟨_, rfl⟩
  obtain ⟨W2, hW2⟩ : ∃ W2, W1.alloc (.cells #[.int .i64 umask] 3) = W2 := ⟨_, rfl⟩
  rw [hW2] at hb2 hk2 hu2
  rw [hub] at hu2
  have hb3 := al hb2 (.cells #[.int .i64 mode] 3)
  have hk3 := hk2.below (ba W2 (.cells #[.int .i64 mode] 3))
  have hu3 := hu2.below (ba W2 (.cells #[.int .i64 mode] 3))
  have hm3 := Blk.new W2 3 #[.int .i64 mode]
  obtain ⟨mb, hmb⟩ : ∃ mb, W2.heap.size = mb := ⟨_, rfl⟩
  obtain ⟨W3, hW3⟩ : ∃ W3, W2.alloc (.cells #[.int .i64 mode] 3) = W3 := ⟨_, rfl⟩
  rw [hW3] at hb3 hk3 hu3 hm3
  rw [hmb] at hm3
  have p0 := hm3.cell 0
  have p1 := hu3.cell 0
  simp at p0 p1
  have HY := Lib.hid (h1 mb ub W3 hb3 p0 p1)
  obtain ⟨k0, k1, k2⟩ := hk3.c3
  clear h1 hb1 hk1 hb2 hk2 hu2 hb3 hk3 hu3 hm3
  go_enter Tryz.func40, Tryz.ntmps40
  go_wp2_with fail
  refine HY.out.mono ?_
  rintro e w4 ⟨i, x, rfl, h3⟩
  have H3 := Lib.hid h3
  clear h3
  go_wp2
  go_ret2
  exact ⟨_, _, rfl, H3.out⟩
theorem cl_cr (mb ub : Nat) (mode umask : Int) (w : World) (hm : w.cell? ⟨mb, 0, none⟩ = some (.int .i64 mode)) (hu : w.cell? ⟨ub, 0, none⟩ = some (.int .i64 umask)) : ClT w 69 #[.pointer (some ⟨mb, 0, none⟩), .pointer (some ⟨ub, 0, none⟩)] 1 (mskM mode umask) [] := fun n A A' i c i' c' W hb hn => by
  have h := crC_any mb ub mode umask n A A' i c i' c' W (bc hb hm) (bc hb hu)
  rw [if_neg (fun q => absurd q.2 (by decide))]
  exact h
theorem createC : CreateC := fun g t P c A0 m k umask p mode f w h ht hc hP => by
  refine (create_of (.pointer (some ⟨g, 0, none⟩)) c A0 m k umask p mode f w (fun i x w' => i = crI t c umask p mode f ∧ x = crE t c umask p mode f ∧ TabR w' g (crT t c umask p mode f) P ∧ w.grownBy w' (some g)) (fun mb ub W hb hm hu => ?_)).mono ?_
  · refine (plant_any g t P c A0 m k p f _ _ 1 (mskM mode umask) [] W (h.below hb) ht (hc.below hb) ⟨by decide, by decide⟩ (by decide) (fun b r => hP b (Nat.le_trans hb.size r)) (cl_cr mb ub mode umask W hm hu) cf_cr).mono ?_
    rintro e w' ⟨rfl, h2, h3⟩
    exact ⟨_, _, rfl, rfl, rfl, h2, grown_trans (grown_below hb _) h3⟩
  · rintro e w' ⟨i, x, rfl, rfl, rfl, h2, h3⟩
    exact ⟨rfl, h2, h3⟩
theorem res_nil (c : Wh) (p : Nm) (f : Bool) : (resM [] c p f).2 ≠ 0 := fun q => by
  have e : fitE [] p ≠ 0 := fun z => by
    have h1 := (fit_why.1 z).2.2.2
    rw [show tis [] 1 = false from by unfold tis; rw [tget_out (by simp)]; rfl] at h1
    cases h1
  unfold resM at q
  rw [if_pos e] at q
  exact e q
theorem createN : CreateN := fun c A0 m k umask p mode f w hc => by
  refine (create_of (.pointer none) c A0 m k umask p mode f w (fun _ x w' => x ≠ 0 ∧ Below w.heap.size w w') (fun mb ub W hb hm hu => ?_)).mono ?_
  · refine (plant_pre (.pointer none) [] c A0 m k p f _ _ W (TabP.none W) (hc.below hb) _ rfl (res_nil c p f)).mono ?_
    rintro e w' ⟨rfl, h2⟩
    exact ⟨_, _, rfl, res_nil c p f, bt h2 hb⟩
  · rintro e w' ⟨i, x, rfl, h2, h3⟩
    exact ⟨i, x, rfl, h2, h3⟩
/-- Why a link can't have a target. -/
def tfE (tg : Nm) : Int := if tg = [] then 2 else if 64 < tg.length then 36 else if tg.contains 0 = true then 22 else 0
end Go.Proofs.YtfopnfgfoicidaaGreat
