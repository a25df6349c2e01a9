/-
  Package attr's Chmod and Chown. The conditions are said at each.
-/
import Derived.Test.YtinalglbibmmpaaGreatACc
namespace Go.Proofs.YtinalglbibmmpaaGreat
open Go Go.RowKit
set_option maxRecDepth 100000

attribute [local go_sem] cell_off4 cell_blk4
theorem change_any (g : Nat) (t : List Nd) (P : Nat → Prop) (c : Wh) (A0 : Option Addr) (m k : Nat) (p : Nm) (f : Bool) (F : FuncId) (caps : Array Value) (E : Nd → Int) (N : Nd → Nd) (w : World) (h : TabR w g t P) (hc : CrR w c A0 m k) (hP : ∀ b, w.heap.size ≤ b → P b) (hF : ClR w F caps E N) (hcf : ∀ (args : Array Value) (W : World), (callFunc F args).run Tryz.prog W = .ok (.enter F args) W) (hN : (staM t c p f).2 = 0 → rightP (N (tget t (staM t c p f).1.node))) (hD : ∀ n, (N n).data = n.data) (hE : ∀ n, (N n).ents = n.ents) :
    Calls Tryz.prog 28 #[.pointer (some ⟨g, 0, none⟩), .agg #[.int .i64 c.u, .int .i64 c.g, .slice A0 m k], .string (bA p), .bool f, .func (.func F) #[] caps] w fun e w' => e = .returned (.int .i64 (chgF t (staM t c p f) E)) ∧ TabR w' g (chgT t (staM t c p f) E N) P ∧ w.grownBy w' (some g) := by
  by_cases hz : (staM t c p f).2 = 0
  · refine (change_go g t P c A0 m k p f F caps E N w h hc hP hF hcf hz _ rfl (fun _ => hN hz) (hD _) (hE _)).mono ?_
    rintro e w' ⟨rfl, h1, h2⟩
    have e1 : chgF t (staM t c p f) E = E (tget t (staM t c p f).1.node) := if_neg (fun q => q hz)
    have e2 : chgT t (staM t c p f) E N = if E (tget t (staM t c p f).1.node) = 0 then setT t (staM t c p f).1.node (N (tget t (staM t c p f).1.node)) else t := by
      unfold chgT
      rw [e1]
      by_cases q : E (tget t (staM t c p f).1.node) = 0
      · rw [if_neg (fun r => r q), if_pos q]
      · rw [if_pos q, if_neg q]
    exact ⟨by rw [e1], by rw [e2]; exact h1, h2⟩
  · refine (change_err (.pointer (some ⟨g, 0, none⟩)) t c A0 m k p f F caps w h.ptr hc hz).mono ?_
    rintro e w' ⟨rfl, hb⟩
    have e1 : chgF t (staM t c p f) E = (staM t c p f).2 := if_pos hz
    have e2 : chgT t (staM t c p f) E N = t := by
      unfold chgT
      rw [e1, if_pos hz]
    exact ⟨by rw [e1], by rw [e2]; exact h.below hb, grown_below hb _⟩
/-- What Chmod's closure does. -/
theorem cl_chm (c : Wh) (A0 : Option Addr) (m k kb mb : Nat) (mode : Int) (w : World) (hk : Blk w kb 25 #[.int .i64 c.u, .int .i64 c.g, .slice A0 m k]) (hm : w.cell? ⟨mb, 0, none⟩ = some (.int .i64 mode)) (hi : CrR w c A0 m k) :
    ClR w 29 #[.pointer (some ⟨kb, 0, none⟩), .pointer (some ⟨mb, 0, none⟩)] (mayE c) (fun n => chmN c n mode) := fun n vd ve z W hb hz hzb => by
  have h1 := hk.lt
  have h2 := World.block_lt_of_cell? _ _ hm
  have h3 : mb < w.heap.size := h2
  exact chmC_any c A0 m k kb mb z mode n vd ve W (hk.below hb) (bc hb hm) (by omega) (by omega) (hi.below hb).1 (by have := hi.2; omega) hzb
/-- What Chown's closure does. -/
theorem cl_chw (c : Wh) (A0 : Option Addr) (m k kb ub gb : Nat) (uid gid : Int) (w : World) (hk : Blk w kb 25 #[.int .i64 c.u, .int .i64 c.g, .slice A0 m k]) (hu : w.cell? ⟨ub, 0, none⟩ = some (.int .i64 uid)) (hg : w.cell? ⟨gb, 0, none⟩ = some (.int .i64 gid)) (hi : CrR w c A0 m k) :
    ClR w 34 #[.pointer (some ⟨kb, 0, none⟩), .pointer (some ⟨ub, 0, none⟩), .pointer (some ⟨gb, 0, none⟩)] (ownE c uid gid) (ownN c uid gid) := fun n vd ve z W hb hz hzb => by
  have h1 := hk.lt
  have h3 : ub < w.heap.size := World.block_lt_of_cell? _ _ hu
  have h4 : gb < w.heap.size := World.block_lt_of_cell? _ _ hg
  exact chwC_any c A0 m k kb ub gb z uid gid n vd ve W (hk.below hb) (bc hb hu) (bc hb hg) (by omega) (by omega) (by omega) (hi.below hb).1 (by have := hi.2; omega) hzb
theorem chmN_data (c : Wh) (n : Nd) (mode : Int) : (chmN c n mode).data = n.data ∧ (chmN c n mode).ents = n.ents := ⟨rfl, rfl⟩
theorem ownN_data (c : Wh) (uid gid : Int) (n : Nd) : (ownN c uid gid n).data = n.data ∧ (ownN c uid gid n).ents = n.ents := by
  unfold ownN
  split
  · exact ⟨rfl, rfl⟩
  · exact ⟨rfl, rfl⟩
set_option maxHeartbeats 8000000 in
/-- Chmod, of what its change answers: of a table that is there, or of none. -/
theorem chmod_of (v : Value) (c : Wh) (A0 : Option Addr) (m k : Nat) (p : Nm) (mode : Int) (w : World) (Q : Int → World → Prop) (h0 : mode < 0 ∨ 4095 < mode → ∀ w', Below w.heap.size w w' → Q 22 w') (h1 : 0 ≤ mode ∧ mode ≤ 4095 → ∀ (kb mb : Nat) (W : World), Below w.heap.size w W → Blk W kb 25 #[.int .i64 c.u, .int .i64 c.g, .slice A0 m k] → W.cell? ⟨mb, 0, none⟩ = some (.int .i64 mode) →
      Calls Tryz.prog 28 #[v, .agg #[.int .i64 c.u, .int .i64 c.g, .slice A0 m k], .string (bA p), .bool true, .func (.func 29) #[] #[.pointer (some ⟨kb, 0, none⟩), .pointer (some ⟨mb, 0, none⟩)]] W fun e w' => ∃ x, e = .returned (.int .i64 x) ∧ Q x w') :
    Calls Tryz.prog 11 #[v, .agg #[.int .i64 c.u, .int .i64 c.g, .slice A0 m k], .string (bA p), .int .i64 mode] w fun e w' => ∃ x, e = .returned (.int .i64 x) ∧ Q x w' := by
  have hmf : ∀ (fn : Fn) (first cap : Array Value) (w : World), (Instr.makeFunc fn first cap).run Tryz.prog w = .ok (.func fn first cap) w := fun _ _ _ _ => rfl
  have hb1 := ba w (.cells #[.int .i64 c.u, .int .i64 c.g, .slice A0 m k] 25)
  have hk1 := Blk.new w 25 #[.int .i64 c.u, .int .i64 c.g, .slice A0 m k]
  obtain ⟨W1, hW1⟩ : ∃ W1, w.alloc (.cells #[.int .i64 c.u, .int .i64 c.g, .slice A0 m k] 25) = W1 := ⟨_, rfl⟩
  rw [hW1] at hb1 hk1
  have hb2 := al hb1 (.cells #[.int .i64 mode] 3)
  have hk2 := hk1.below (ba W1 (.cells #[.int .i64 mode] 3))
  have hm2 := Blk.new W1 3 #[.int .i64 mode]
  obtain ⟨mb, hmb⟩ : ∃ mb, W1.heap.size = mb := ⟨_, rfl⟩
  obtain ⟨W2, hW2⟩ : ∃ W2, W1.alloc (.cells #[.int .i64 mode] 3) = W2 := ⟨_, rfl⟩
  rw [hW2] at hb2 hk2 hm2
  rw [hmb] at hm2
  have p0 := hm2.cell 0
  simp at p0
  have H0 := Lib.hid (fun h => h0 h W2 hb2)
  have H1 := Lib.hid (fun h => h1 h _ mb W2 hb2 hk2 p0)
  obtain ⟨k0, k1, k2⟩ := hk2.c3
  clear h0 h1 hb1 hk1 hb2 hk2 hm2
  by_cases q0 : mode < 0
  · have y := H0.out (.inl q0)
    have HY := Lib.hid y
    clear y
    go_enter Tryz.func11, Tryz.ntmps11
    go_wp2
    go_ret
    exact ⟨_, rfl, HY.out⟩
  · by_cases q1 : mode > 4095
    · have y := H0.out (.inr q1)
      have HY := Lib.hid y
      clear y
      go_enter Tryz.func11, Tryz.ntmps11
      go_wp2
      go_ret
      exact ⟨_, rfl, HY.out⟩
    · have HY := Lib.hid (H1.out ⟨by omega, by omega⟩)
      go_enter Tryz.func11, Tryz.ntmps11
      go_wp2_with fail
      refine HY.out.mono ?_
      rintro e w3 ⟨x, rfl, h3⟩
      have H3 := Lib.hid h3
      clear h3
      go_wp2
      go_ret
      exact ⟨_, rfl, H3.out⟩
set_option maxHeartbeats 8000000 in
/-- Chown, of what its change answers: of a table that is there, or of none. -/
theorem chown_of (v : Value) (c : Wh) (A0 : Option Addr) (m k : Nat) (p : Nm) (uid gid : Int) (f : Bool) (w : World) (Q : Int → World → Prop) (h0 : 65535 < uid ∨ 65535 < gid → ∀ w', Below w.heap.size w w' → Q 22 w') (h1 : uid ≤ 65535 ∧ gid ≤ 65535 → ∀ (kb ub gb : Nat) (W : World), Below w.heap.size w W → Blk W kb 25 #[.int .i64 c.u, .int .i64 c.g, .slice A0 m k] → W.cell? ⟨ub, 0, none⟩ = some (.int .i64 uid) → W.cell? ⟨gb, 0, none⟩ = some (.int .i64 gid) →
      Calls Tryz.prog 28 #[v, .agg #[.int .i64 c.u, .int .i64 c.g, .slice A0 m k], .string (bA p), .bool f, .func (.func 34) #[] #[.pointer (some ⟨kb, 0, none⟩), .pointer (some ⟨ub, 0, none⟩), .pointer (some ⟨gb, 0, none⟩)]] W fun e w' => ∃ x, e = .returned (.int .i64 x) ∧ Q x w') :
    Calls Tryz.prog 14 #[v, .agg #[.int .i64 c.u, .int .i64 c.g, .slice A0 m k], .string (bA p), .int .i64 uid, .int .i64 gid, .bool f] w fun e w' => ∃ x, e = .returned (.int .i64 x) ∧ Q x w' := by
  have hmf : ∀ (fn : Fn) (first cap : Array Value) (w : World), (Instr.makeFunc fn first cap).run Tryz.prog w = .ok (.func fn first cap) w := fun _ _ _ _ => rfl
  have hb1 := ba w (.cells #[.int .i64 c.u, .int .i64 c.g, .slice A0 m k] 25)
  have hk1 := Blk.new w 25 #[.int .i64 c.u, .int .i64 c.g, .slice A0 m k]
  obtain ⟨W1, hW1⟩ : ∃ W1, w.alloc (.cells #[.int .i64 c.u, .int .i64 c.g, .slice A0 m k] 25) = W1 := ⟨_, rfl⟩
  rw [hW1] at hb1 hk1
  have hb2 := al hb1 (.cells #[.int .i64 uid] 3)
  have hk2 := hk1.below (ba W1 (.cells #[.int .i64 uid] 3))
  have hm2 := Blk.new W1 3 #[.int .i64 uid]
  obtain ⟨ub, hub⟩ : ∃ ub, W1.heap.size = ub := ⟨_, rfl⟩
  obtain ⟨W2, hW2⟩ : ∃ W2, W1.alloc (.cells #[.int .i64 uid] 3) = W2 := ⟨_, rfl⟩
  rw [hW2] at hb2 hk2 hm2
  rw [hub] at hm2
  have hb3 := al hb2 (.cells #[.int .i64 gid] 3)
  have hk3 := hk2.below (ba W2 (.cells #[.int .i64 gid] 3))
  have hu3 := hm2.below (ba W2 (.cells #[.int .i64 gid] 3))
  have hg3 := Blk.new W2 3 #[.int .i64 gid]
  obtain ⟨gb, hgb⟩ : ∃ gb, W2.heap.size = gb := ⟨_, rfl⟩
  obtain ⟨W3, hW3⟩ : ∃ W3, W2.alloc (.cells #[.int .i64 gid] 3) = W3 := ⟨_, rfl⟩
  rw [hW3] at hb3 hk3 hu3 hg3
  rw [hgb] at hg3
  have p0 := hu3.cell 0
  have p1 := hg3.cell 0
  simp at p0 p1
  have H0 := Lib.hid (fun h => h0 h W3 hb3)
  have H1 := Lib.hid (fun h => h1 h _ ub gb W3 hb3 hk3 p0 p1)
  obtain ⟨k0, k1, k2⟩ := hk3.c3
  clear h0 h1 hb1 hk1 hb2 hk2 hm2 hb3 hk3 hu3 hg3
  by_cases q0 : uid > 65535
  · have y := H0.out (.inl q0)
    have HY := Lib.hid y
    clear y
    go_enter Tryz.func14, Tryz.ntmps14
    go_wp2
    go_ret
    exact ⟨_, rfl, HY.out⟩
  · by_cases q1 : gid > 65535
    · have y := H0.out (.inr q1)
      have HY := Lib.hid y
      clear y
      go_enter Tryz.func14, Tryz.ntmps14
      go_wp2
      go_ret
      exact ⟨_, rfl, HY.out⟩
    · have HY := Lib.hid (H1.out ⟨by omega, by omega⟩)
      go_enter Tryz.func14, Tryz.ntmps14
      go_wp2_with fail
      refine HY.out.mono ?_
      rintro e w3 ⟨x, rfl, h3⟩
      have H3 := Lib.hid h3
      clear h3
      go_wp2
      go_ret
      exact ⟨_, rfl, H3.out⟩
theorem chmod_any (g : Nat) (t : List Nd) (P : Nat → Prop) (c : Wh) (A0 : Option Addr) (m k : Nat) (p : Nm) (mode : Int) (w : World) (h : TabR w g t P) (ht : Trx t) (hc : CrR w c A0 m k) (hP : ∀ b, w.heap.size ≤ b → P b) :
    Calls Tryz.prog 11 #[.pointer (some ⟨g, 0, none⟩), .agg #[.int .i64 c.u, .int .i64 c.g, .slice A0 m k], .string (bA p), .int .i64 mode] w fun e w' => e = .returned (.int .i64 (chmE t c p mode)) ∧ TabR w' g (chmT t c p mode) P ∧ w.grownBy w' (some g) := by
  refine (chmod_of (.pointer (some ⟨g, 0, none⟩)) c A0 m k p mode w (fun x w' => x = chmE t c p mode ∧ TabR w' g (chmT t c p mode) P ∧ w.grownBy w' (some g)) (fun hr w' hb => ?_) (fun hr kb mb W hb hk hm => ?_)).mono ?_
  · have e1 : chmE t c p mode = 22 := if_pos hr
    exact ⟨e1.symm, by rw [chmT_err (by rw [e1]; decide)]; exact h.below hb, grown_below hb _⟩
  · obtain ⟨e1, e2⟩ := chg_chm (t := t) (c := c) (p := p) hr
    refine (change_any g t P c A0 m k p true 29 _ (mayE c) (fun n => chmN c n mode) W (h.below hb) (hc.below hb) (fun b q => hP b (Nat.le_trans hb.size q)) (cl_chm c A0 m k kb mb mode W hk hm (hc.below hb)) cf_chm (fun hz => chg_m ht hz) (fun n => rfl) (fun n => rfl)).mono ?_
    rintro e w' ⟨rfl, h1, h2⟩
    rw [e1]
    rw [e2] at h1
    exact ⟨_, rfl, rfl, h1, grown_trans (grown_below hb _) h2⟩
  · rintro e w' ⟨x, rfl, rfl, h1, h2⟩
    exact ⟨rfl, h1, h2⟩
theorem chown_any (g : Nat) (t : List Nd) (P : Nat → Prop) (c : Wh) (A0 : Option Addr) (m k : Nat) (p : Nm) (uid gid : Int) (f : Bool) (w : World) (h : TabR w g t P) (ht : Trx t) (hc : CrR w c A0 m k) (hP : ∀ b, w.heap.size ≤ b → P b) :
    Calls Tryz.prog 14 #[.pointer (some ⟨g, 0, none⟩), .agg #[.int .i64 c.u, .int .i64 c.g, .slice A0 m k], .string (bA p), .int .i64 uid, .int .i64 gid, .bool f] w fun e w' => e = .returned (.int .i64 (chwE t c p uid gid f)) ∧ TabR w' g (chwT t c p uid gid f) P ∧ w.grownBy w' (some g) := by
  refine (chown_of (.pointer (some ⟨g, 0, none⟩)) c A0 m k p uid gid f w (fun x w' => x = chwE t c p uid gid f ∧ TabR w' g (chwT t c p uid gid f) P ∧ w.grownBy w' (some g)) (fun hr w' hb => ?_) (fun hr kb ub gb W hb hk hu hg => ?_)).mono ?_
  · have e1 : chwE t c p uid gid f = 22 := if_pos hr
    exact ⟨e1.symm, by rw [chwT_err (by rw [e1]; decide)]; exact h.below hb, grown_below hb _⟩
  · obtain ⟨e1, e2⟩ := chg_chw (t := t) (c := c) (p := p) (f := f) hr
    refine (change_any g t P c A0 m k p f 34 _ (ownE c uid gid) (ownN c uid gid) W (h.below hb) (hc.below hb) (fun b q => hP b (Nat.le_trans hb.size q)) (cl_chw c A0 m k kb ub gb uid gid W hk hu hg (hc.below hb)) cf_chw (fun hz => chg_w ht hr.1 hr.2 hz) (fun n => (ownN_data c uid gid n).1) (fun n => (ownN_data c uid gid n).2)).mono ?_
    rintro e w' ⟨rfl, h1, h2⟩
    rw [e1]
    rw [e2] at h1
    exact ⟨_, rfl, rfl, h1, grown_trans (grown_below hb _) h2⟩
  · rintro e w' ⟨x, rfl, rfl, h1, h2⟩
    exact ⟨rfl, h1, h2⟩
/-- Of no table. -/
theorem chmod_nil (c : Wh) (A0 : Option Addr) (m k : Nat) (p : Nm) (mode : Int) (w : World) (hc : CrR w c A0 m k) :
    Calls Tryz.prog 11 #[.pointer none, .agg #[.int .i64 c.u, .int .i64 c.g, .slice A0 m k], .string (bA p), .int .i64 mode] w fun e w' => ∃ x, e = .returned (.int .i64 x) ∧ x ≠ 0 ∧ Below w.heap.size w w' := by
  refine chmod_of (.pointer none) c A0 m k p mode w (fun x w' => x ≠ 0 ∧ Below w.heap.size w w') (fun hr w' hb => ⟨by decide, hb⟩) (fun hr kb mb W hb hk hm => ?_)
  refine (change_err (.pointer none) [] c A0 m k p true _ _ W (TabP.none W) (hc.below hb) (sta_nil c p true)).mono ?_
  rintro e w' ⟨rfl, h1⟩
  exact ⟨_, rfl, sta_nil c p true, bt h1 hb⟩
theorem chown_nil (c : Wh) (A0 : Option Addr) (m k : Nat) (p : Nm) (uid gid : Int) (f : Bool) (w : World) (hc : CrR w c A0 m k) :
    Calls Tryz.prog 14 #[.pointer none, .agg #[.int .i64 c.u, .int .i64 c.g, .slice A0 m k], .string (bA p), .int .i64 uid, .int .i64 gid, .bool f] w fun e w' => ∃ x, e = .returned (.int .i64 x) ∧ x ≠ 0 ∧ Below w.heap.size w w' := by
  refine chown_of (.pointer none) c A0 m k p uid gid f w (fun x w' => x ≠ 0 ∧ Below w.heap.size w w') (fun hr w' hb => ⟨by decide, hb⟩) (fun hr kb ub gb W hb hk hu hg => ?_)
  refine (change_err (.pointer none) [] c A0 m k p f _ _ W (TabP.none W) (hc.below hb) (sta_nil c p f)).mono ?_
  rintro e w' ⟨rfl, h1⟩
  exact ⟨_, rfl, sta_nil c p f, bt h1 hb⟩
end Go.Proofs.YtinalglbibmmpaaGreat
