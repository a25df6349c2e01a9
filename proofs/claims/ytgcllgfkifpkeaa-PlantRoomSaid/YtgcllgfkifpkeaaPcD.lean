/-
  Package plant's Mkdir, Symlink and Create: what they answer. The conditions are said at each.
-/
import Derived.Test.YtgcllgfkifpkeaaPcC
namespace Go.Proofs.Ytgcllgfkifpkeaa
open Go Go.RowKit
set_option maxRecDepth 100000

attribute [local go_sem] cell_off4 cell_blk4
theorem cf_cr (args : Array Value) (W : World) : (callFunc 29 args).run Try.prog W = .ok (.enter 29 args) W := by
  first | (simp only [go_sem]; done) | rfl
theorem cf_mk (args : Array Value) (W : World) : (callFunc 23 args).run Try.prog W = .ok (.enter 23 args) W := by
  first | (simp only [go_sem]; done) | rfl
theorem cf_sy (args : Array Value) (W : World) : (callFunc 31 args).run Try.prog W = .ok (.enter 31 args) W := by
  first | (simp only [go_sem]; done) | rfl
theorem plant_any (g : Nat) (t : List Nd) (P : Nat → Prop) (c : Wh) (A0 : Option Addr) (m k : Nat) (p : Nm) (f : Bool) (Fn : FuncId) (caps : Array Value) (kd md : Int) (tg : Nm) (w : World) (h : TabR w g t P) (ht : Trx t) (hc : CrR w c A0 m k) (hkd : 1 ≤ kd ∧ kd ≤ 3) (htl : tg.length ≤ 1000) (hP : ∀ b, w.heap.size ≤ b → P b) (hT : ClT w Fn caps kd md tg) (hcf : ∀ (args : Array Value) (W : World), (callFunc Fn args).run Try.prog W = .ok (.enter Fn args) W) :
    Calls Try.prog 22 #[.pointer (some ⟨g, 0, none⟩), .agg #[.int .i64 c.u, .int .i64 c.g, .slice A0 m k], .string (bA p), .bool f, .func (.func Fn) #[] caps] w fun e w' => e = .returned (.tuple #[.int .i64 (plI t c (resM t c p f) kd md tg), .int .i64 (plE t c (resM t c p f) kd md tg)]) ∧ TabR w' g (plT t c (resM t c p f) kd md tg) P ∧ w.grownBy w' (some g) := by
  obtain ⟨R, hR⟩ : ∃ R, resM t c p f = R := ⟨_, rfl⟩
  obtain ⟨F, E⟩ := R
  rw [hR]
  by_cases hz : E = 0
  · subst hz
    exact plant_go g t P c A0 m k p f Fn caps kd md tg w h ht hc hkd htl hP hT hcf F hR
  · have e1 : plE t c (F, E) kd md tg = E := pl_pre hz
    have e2 := pl_err (t := t) (c := c) (R := (F, E)) (k := kd) (m := md) (tg := tg) (by rw [e1]; exact hz)
    rw [e1, e2.1, e2.2]
    refine (plant_pre (.pointer (some ⟨g, 0, none⟩)) t c A0 m k p f Fn caps w h.ptr hc E (by rw [hR]) hz).mono ?_
    rintro e w' ⟨rfl, hb⟩
    exact ⟨rfl, h.below hb, grown_below hb _⟩
set_option maxHeartbeats 8000000 in
theorem create_of (v : Value) (c : Wh) (A0 : Option Addr) (m k : Nat) (umask : Int) (p : Nm) (mode : Int) (f : Bool) (w : World) (Q : Int → Int → World → Prop) (h1 : ∀ (mb ub : Nat) (W : World), Below w.heap.size w W → W.cell? ⟨mb, 0, none⟩ = some (.int .i64 mode) → W.cell? ⟨ub, 0, none⟩ = some (.int .i64 umask) →
      Calls Try.prog 22 #[v, .agg #[.int .i64 c.u, .int .i64 c.g, .slice A0 m k], .string (bA p), .bool f, .func (.func 29) #[] #[.pointer (some ⟨mb, 0, none⟩), .pointer (some ⟨ub, 0, none⟩)]] W fun e w' => ∃ i x, e = .returned (.tuple #[.int .i64 i, .int .i64 x]) ∧ Q i x w') :
    Calls Try.prog 13 #[v, .agg #[.int .i64 c.u, .int .i64 c.g, .slice A0 m k], .int .i64 umask, .string (bA p), .int .i64 mode, .bool f] w fun e w' => ∃ i x, e = .returned (.tuple #[.int .i64 i, .int .i64 x]) ∧ Q i x w' := by
  have hmf : ∀ (fn : Fn) (first cap : Array Value) (w : World), (Instr.makeFunc fn first cap).run Try.prog w = .ok (.func fn first cap) w := fun _ _ _ _ => rfl
  have hb1 := ba w (.cells #[.int .i64 c.u, .int .i64 c.g, .slice A0 m k] 27)
  have hk1 := Blk.new w 27 #[.int .i64 c.u, .int .i64 c.g, .slice A0 m k]
  obtain ⟨W1, hW1⟩ : ∃ W1, w.alloc (.cells #[.int .i64 c.u, .int .i64 c.g, .slice A0 m k] 27) = W1 := ⟨_, rfl⟩
  rw [hW1] at hb1 hk1
  have hb2 := al hb1 (.cells #[.int .i64 umask] 3)
  have hk2 := hk1.below (ba W1 (.cells #[.int .i64 umask] 3))
  have hu2 := Blk.new W1 3 #[.int .i64 umask]
  obtain ⟨ub, hub⟩ : ∃ ub, W1.heap.size = ub := ⟨_, rfl⟩
  obtain ⟨W2, hW2⟩ : ∃ W2, W1.alloc (.cells #[.int .i64 umask] 3) = W2 := ⟨_, rfl⟩
  rw [hW2] at hb2 hk2 hu2
  rw [hub] at hu2
  have hb3 := al hb2 (.cells #[.int .i64 mode] 3)
  have hk3 := hk2.below (ba W2 (.cells #[.int .i64 mode] 3))
  have hu3 := hu2.below (ba W2 (.cells #[.int .i64 mode] 3))
  have hm3 := Blk.new W2 3 #[.int .i64 mode]
  obtain ⟨mb, hmb⟩ : ∃ mb, W2.heap.size = mb := ⟨_, rfl⟩
  obtain ⟨W3, hW3⟩ : ∃ W3, W2.alloc (.cells #[.int .i64 mode] 3) = W3 := ⟨_, rfl⟩
  rw [hW3] at hb3 hk3 hu3 hm3
  rw [hmb] at hm3
  have p0 := hm3.cell 0
  have p1 := hu3.cell 0
  simp at p0 p1
  have HY := Lib.hid (h1 mb ub W3 hb3 p0 p1)
  obtain ⟨k0, k1, k2⟩ := hk3.c3
  clear h1 hb1 hk1 hb2 hk2 hu2 hb3 hk3 hu3 hm3
  go_enter Try.func13, Try.ntmps13
  go_wp2_with fail
  refine HY.out.mono ?_
  rintro e w4 ⟨i, x, rfl, h3⟩
  have H3 := Lib.hid h3
  clear h3
  go_wp2
  go_ret2
  exact ⟨_, _, rfl, H3.out⟩
set_option maxHeartbeats 8000000 in
theorem mkdir_of (v : Value) (c : Wh) (A0 : Option Addr) (m k : Nat) (umask : Int) (p : Nm) (mode : Int) (w : World) (Q : Int → Int → World → Prop) (h1 : ∀ (mb ub : Nat) (W : World), Below w.heap.size w W → W.cell? ⟨mb, 0, none⟩ = some (.int .i64 mode) → W.cell? ⟨ub, 0, none⟩ = some (.int .i64 umask) →
      Calls Try.prog 22 #[v, .agg #[.int .i64 c.u, .int .i64 c.g, .slice A0 m k], .string (bA p), .bool false, .func (.func 23) #[] #[.pointer (some ⟨mb, 0, none⟩), .pointer (some ⟨ub, 0, none⟩)]] W fun e w' => ∃ i x, e = .returned (.tuple #[.int .i64 i, .int .i64 x]) ∧ Q i x w') :
    Calls Try.prog 11 #[v, .agg #[.int .i64 c.u, .int .i64 c.g, .slice A0 m k], .int .i64 umask, .string (bA p), .int .i64 mode] w fun e w' => ∃ i x, e = .returned (.int .i64 x) ∧ Q i x w' := by
  have hmf : ∀ (fn : Fn) (first cap : Array Value) (w : World), (Instr.makeFunc fn first cap).run Try.prog w = .ok (.func fn first cap) w := fun _ _ _ _ => rfl
  have hb1 := ba w (.cells #[.int .i64 c.u, .int .i64 c.g, .slice A0 m k] 27)
  have hk1 := Blk.new w 27 #[.int .i64 c.u, .int .i64 c.g, .slice A0 m k]
  obtain ⟨W1, hW1⟩ : ∃ W1, w.alloc (.cells #[.int .i64 c.u, .int .i64 c.g, .slice A0 m k] 27) = W1 := ⟨_, rfl⟩
  rw [hW1] at hb1 hk1
  have hb2 := al hb1 (.cells #[.int .i64 umask] 3)
  have hk2 := hk1.below (ba W1 (.cells #[.int .i64 umask] 3))
  have hu2 := Blk.new W1 3 #[.int .i64 umask]
  obtain ⟨ub, hub⟩ : ∃ ub, W1.heap.size = ub := ⟨_, rfl⟩
  obtain ⟨W2, hW2⟩ : ∃ W2, W1.alloc (.cells #[.int .i64 umask] 3) = W2 := ⟨_, rfl⟩
  rw [hW2] at hb2 hk2 hu2
  rw [hub] at hu2
  have hb3 := al hb2 (.cells #[.int .i64 mode] 3)
  have hk3 := hk2.below (ba W2 (.cells #[.int .i64 mode] 3))
  have hu3 := hu2.below (ba W2 (.cells #[.int .i64 mode] 3))
  have hm3 := Blk.new W2 3 #[.int .i64 mode]
  obtain ⟨mb, hmb⟩ : ∃ mb, W2.heap.size = mb := ⟨_, rfl⟩
  obtain ⟨W3, hW3⟩ : ∃ W3, W2.alloc (.cells #[.int .i64 mode] 3) = W3 := ⟨_, rfl⟩
  rw [hW3] at hb3 hk3 hu3 hm3
  rw [hmb] at hm3
  have p0 := hm3.cell 0
  have p1 := hu3.cell 0
  simp at p0 p1
  have HY := Lib.hid (h1 mb ub W3 hb3 p0 p1)
  obtain ⟨k0, k1, k2⟩ := hk3.c3
  clear h1 hb1 hk1 hb2 hk2 hu2 hb3 hk3 hu3 hm3
  go_enter Try.func11, Try.ntmps11
  go_wp2_with fail
  refine HY.out.mono ?_
  rintro e w4 ⟨i, x, rfl, h3⟩
  have H3 := Lib.hid h3
  clear h3
  go_wp2
  go_ret
  exact ⟨i, _, rfl, H3.out⟩
theorem cl_cr (mb ub : Nat) (mode umask : Int) (w : World) (hm : w.cell? ⟨mb, 0, none⟩ = some (.int .i64 mode)) (hu : w.cell? ⟨ub, 0, none⟩ = some (.int .i64 umask)) : ClT w 29 #[.pointer (some ⟨mb, 0, none⟩), .pointer (some ⟨ub, 0, none⟩)] 1 (mskM mode umask) [] := fun n A A' i c i' c' W hb hn => by
  have h := crC_any mb ub mode umask n A A' i c i' c' W (bc hb hm) (bc hb hu)
  rw [if_neg (fun q => absurd q.2 (by decide))]
  exact h
theorem cl_mk (mb ub : Nat) (mode umask : Int) (w : World) (hm : w.cell? ⟨mb, 0, none⟩ = some (.int .i64 mode)) (hu : w.cell? ⟨ub, 0, none⟩ = some (.int .i64 umask)) : ClT w 23 #[.pointer (some ⟨mb, 0, none⟩), .pointer (some ⟨ub, 0, none⟩)] 2 (mkM mode umask) [] := fun n A A' i c i' c' W hb hn => by
  have h := mkC_any mb ub mode umask n hn A A' i c i' c' W (bc hb hm) (bc hb hu)
  rw [show (if sgB n = true ∧ (2 : Int) = 2 then mkM mode umask + 1024 else mkM mode umask) = (if sgB n = true then mkM mode umask + 1024 else mkM mode umask) from by simp]
  exact h
theorem cl_sy (tb : Nat) (tg : Nm) (w : World) (hm : w.cell? ⟨tb, 0, none⟩ = some (.string (bA tg))) : ClT w 31 #[.pointer (some ⟨tb, 0, none⟩)] 3 511 tg := fun n A A' i c i' c' W hb hn => by
  have h := syC_any tb tg n A A' i c i' c' W (bc hb hm)
  rw [if_neg (fun q => absurd q.2 (by decide))]
  exact h
theorem mkdirC : MkdirC := fun g t P c A0 m k umask p mode w h ht hc hP => by
  refine (mkdir_of (.pointer (some ⟨g, 0, none⟩)) c A0 m k umask p mode w (fun _ x w' => x = mkE t c umask p mode ∧ TabR w' g (mkT t c umask p mode) P ∧ w.grownBy w' (some g)) (fun mb ub W hb hm hu => ?_)).mono ?_
  · refine (plant_any g t P c A0 m k p false _ _ 2 (mkM mode umask) [] W (h.below hb) ht (hc.below hb) ⟨by decide, by decide⟩ (by decide) (fun b r => hP b (Nat.le_trans hb.size r)) (cl_mk mb ub mode umask W hm hu) cf_mk).mono ?_
    rintro e w' ⟨rfl, h2, h3⟩
    exact ⟨_, _, rfl, rfl, h2, grown_trans (grown_below hb _) h3⟩
  · rintro e w' ⟨i, x, rfl, rfl, h2, h3⟩
    exact ⟨rfl, h2, h3⟩
theorem createC : CreateC := fun g t P c A0 m k umask p mode f w h ht hc hP => by
  refine (create_of (.pointer (some ⟨g, 0, none⟩)) c A0 m k umask p mode f w (fun i x w' => i = crI t c umask p mode f ∧ x = crE t c umask p mode f ∧ TabR w' g (crT t c umask p mode f) P ∧ w.grownBy w' (some g)) (fun mb ub W hb hm hu => ?_)).mono ?_
  · refine (plant_any g t P c A0 m k p f _ _ 1 (mskM mode umask) [] W (h.below hb) ht (hc.below hb) ⟨by decide, by decide⟩ (by decide) (fun b r => hP b (Nat.le_trans hb.size r)) (cl_cr mb ub mode umask W hm hu) cf_cr).mono ?_
    rintro e w' ⟨rfl, h2, h3⟩
    exact ⟨_, _, rfl, rfl, rfl, h2, grown_trans (grown_below hb _) h3⟩
  · rintro e w' ⟨i, x, rfl, rfl, rfl, h2, h3⟩
    exact ⟨rfl, h2, h3⟩
theorem res_nil (c : Wh) (p : Nm) (f : Bool) : (resM [] c p f).2 ≠ 0 := fun q => by
  have e : fitE [] p ≠ 0 := fun z => by
    have h1 := (fit_why.1 z).2.2.2
    rw [show tis [] 1 = false from by unfold tis; rw [tget_out (by simp)]; rfl] at h1
    cases h1
  unfold resM at q
  rw [if_pos e] at q
  exact e q
theorem createN : CreateN := fun c A0 m k umask p mode f w hc => by
  refine (create_of (.pointer none) c A0 m k umask p mode f w (fun _ x w' => x ≠ 0 ∧ Below w.heap.size w w') (fun mb ub W hb hm hu => ?_)).mono ?_
  · refine (plant_pre (.pointer none) [] c A0 m k p f _ _ W (TabP.none W) (hc.below hb) _ rfl (res_nil c p f)).mono ?_
    rintro e w' ⟨rfl, h2⟩
    exact ⟨_, _, rfl, res_nil c p f, bt h2 hb⟩
  · rintro e w' ⟨i, x, rfl, h2, h3⟩
    exact ⟨i, x, rfl, h2, h3⟩
/-- Why a link can't have a target. -/
def tfE (tg : Nm) : Int := if tg = [] then 2 else if 64 < tg.length then 36 else if tg.contains 0 = true then 22 else 0
set_option maxHeartbeats 4000000 in
theorem tf_any (tg : Nm) (w : World) : Calls Try.prog 30 #[.string (bA tg)] w fun e w' => e = .returned (.int .i64 (tfE tg)) ∧ w = w' := by
  have hs := size_bA tg
  by_cases h1 : tg = []
  · have e1 : ((bA tg).toList == ([] : List UInt8)) = true := (len0_iff tg).2 h1
    have HZ := Lib.hid (show tfE tg = 2 from if_pos h1)
    clear h1
    go_enter Try.func30, Try.ntmps30
    go_wp2
    go_ret
    exact ⟨by rw [HZ.out]; rfl, rfl⟩
  · have e1 : ((bA tg).toList == ([] : List UInt8)) = false := ne_nil_of tg h1
    by_cases h2 : 64 < tg.length
    · have e2 : ((bA tg).size : Int) > 64 := by rw [hs]; omega
      have HZ := Lib.hid (show tfE tg = 36 from by unfold tfE; rw [if_neg h1, if_pos h2])
      clear h1 h2 hs
      go_enter Try.func30, Try.ntmps30
      go_wp2
      go_ret
      exact ⟨by rw [HZ.out]; rfl, rfl⟩
    · have e2 : ¬ ((bA tg).size : Int) > 64 := by rw [hs]; omega
      have hfit : fitB (bA tg) 64 = !tg.contains 0 := by
        unfold fitB
        rw [tl_bA, hs, decide_eq_true (show 0 < tg.length ∧ tg.length ≤ 64 from ⟨List.length_pos_iff.2 h1, by have h3 := Nat.le_of_not_lt h2; exact h3⟩), Bool.true_and]
      have HF := Lib.hid (Fits_any (bA tg) w (by have h3 : 64 ≤ maxLen := (by decide); omega))
      rw [hfit] at HF
      have HZ := Lib.hid (show tfE tg = if tg.contains 0 = true then 22 else 0 from by unfold tfE; rw [if_neg h1, if_neg h2])
      generalize tg.contains 0 = q at HF HZ
      clear h1 h2 hs hfit
      cases q with
      | true =>
        go_enter Try.func30, Try.ntmps30
        go_wp2_with fail
        refine HF.out.mono ?_
        rintro e w' ⟨rfl, rfl⟩
        go_wp2
        go_ret
        exact ⟨by rw [HZ.out]; rfl, rfl⟩
      | false =>
        go_enter Try.func30, Try.ntmps30
        go_wp2_with fail
        refine HF.out.mono ?_
        rintro e w' ⟨rfl, rfl⟩
        go_wp2
        go_ret
        exact ⟨by rw [HZ.out]; rfl, rfl⟩
set_option maxHeartbeats 8000000 in
theorem symlinkC : SymlinkC := fun g t P c A0 m k tg p w h ht hc htl hP => by
  have hmf : ∀ (fn : Fn) (first cap : Array Value) (w : World), (Instr.makeFunc fn first cap).run Try.prog w = .ok (.func fn first cap) w := fun _ _ _ _ => rfl
  have hb1 := ba w (.cells #[.int .i64 c.u, .int .i64 c.g, .slice A0 m k] 27)
  have hk1 := Blk.new w 27 #[.int .i64 c.u, .int .i64 c.g, .slice A0 m k]
  obtain ⟨W1, hW1⟩ : ∃ W1, w.alloc (.cells #[.int .i64 c.u, .int .i64 c.g, .slice A0 m k] 27) = W1 := ⟨_, rfl⟩
  rw [hW1] at hb1 hk1
  have hb2 := al hb1 (.cells #[.string (bA tg)] 9)
  have hk2 := hk1.below (ba W1 (.cells #[.string (bA tg)] 9))
  have hm2 := Blk.new W1 9 #[.string (bA tg)]
  obtain ⟨tb, htb⟩ : ∃ tb, W1.heap.size = tb := ⟨_, rfl⟩
  obtain ⟨W2, hW2⟩ : ∃ W2, W1.alloc (.cells #[.string (bA tg)] 9) = W2 := ⟨_, rfl⟩
  rw [hW2] at hb2 hk2 hm2
  rw [htb] at hm2
  have p0 := hm2.cell 0
  simp at p0
  have HY := Lib.hid (plant_any g t P c A0 m k p false _ _ 3 511 tg W2 (h.below hb2) ht (hc.below hb2) ⟨by decide, by decide⟩ htl (fun b r => hP b (Nat.le_trans hb2.size r)) (cl_sy tb tg W2 p0) cf_sy)
  have HB := Lib.hid hb2
  have HT := Lib.hid (h.below hb2)
  have HF := Lib.hid (tf_any tg W2)
  have HE := Lib.hid (show syE t c tg p = if tfE tg = 0 then plE t c (resM t c p false) 3 511 tg else tfE tg from by
    unfold syE tfE
    by_cases h1 : tg = []
    · rw [if_pos h1, if_pos h1, if_neg (by decide)]
    · rw [if_neg h1, if_neg h1]
      by_cases h2 : 64 < tg.length
      · rw [if_pos h2, if_pos h2, if_neg (by decide)]
      · rw [if_neg h2, if_neg h2]
        by_cases h3 : tg.contains 0 = true
        · rw [if_pos h3, if_pos h3, if_neg (by decide)]
        · rw [if_neg h3, if_neg h3, if_pos rfl])
  have HX := Lib.hid (show syT t c tg p = if syE t c tg p = 0 then plT t c (resM t c p false) 3 511 tg else t from rfl)
  have HR := Lib.hid (show plE t c (resM t c p false) 3 511 tg ≠ 0 → plT t c (resM t c p false) 3 511 tg = t from fun q => (pl_err q).1)
  generalize syT t c tg p = ST at HX ⊢
  generalize syE t c tg p = SE at HE HX ⊢
  generalize plT t c (resM t c p false) 3 511 tg = PT at HX HY HR
  generalize plE t c (resM t c p false) 3 511 tg = PE at HE HY HR
  generalize plI t c (resM t c p false) 3 511 tg = PI at HY
  generalize tfE tg = X at HF HE
  obtain ⟨k0, k1, k2⟩ := hk2.c3
  clear h ht hc hP hb1 hk1 hb2 hk2 hm2 htl
  by_cases q : X = 0
  · have q1 : (X != 0) = false := by simpa using q
    have e1 := HE.out
    rw [if_pos q] at e1
    have HS := Lib.hid (show SE = PE ∧ ST = PT from ⟨e1, by
      have h1 := HX.out
      rw [e1] at h1
      by_cases z : PE = 0
      · rw [if_pos z] at h1; exact h1
      · rw [if_neg z] at h1; rw [h1, HR.out z]⟩)
    clear q e1
    go_enter Try.func14, Try.ntmps14
    go_wp2_with fail
    refine HF.out.mono ?_
    rintro e w3 ⟨rfl, rfl⟩
    go_wp2_with fail
    refine HY.out.mono ?_
    rintro e w4 ⟨rfl, h2, h3⟩
    have H2 := Lib.hid h2
    have H3 := Lib.hid (grown_trans (grown_below HB.out (some g)) h3)
    clear h2 h3
    go_wp2
    go_ret
    exact ⟨by rw [HS.out.1]; rfl, by rw [HS.out.2]; exact H2.out, H3.out⟩
  · have q1 : (X != 0) = true := by simpa using q
    have e1 := HE.out
    rw [if_neg q] at e1
    have HS := Lib.hid (show SE = X ∧ ST = t from ⟨e1, by have h1 := HX.out; rw [e1, if_neg q] at h1; exact h1⟩)
    clear q e1
    go_enter Try.func14, Try.ntmps14
    go_wp2_with fail
    refine HF.out.mono ?_
    rintro e w3 ⟨rfl, rfl⟩
    go_wp2
    go_ret
    exact ⟨by rw [HS.out.1]; rfl, by rw [HS.out.2]; exact HT.out, grown_below HB.out _⟩
end Go.Proofs.Ytgcllgfkifpkeaa
