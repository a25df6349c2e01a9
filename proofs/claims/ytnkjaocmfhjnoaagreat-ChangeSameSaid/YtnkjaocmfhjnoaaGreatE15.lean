/-
  Package prune's Unlink, Rmdir and Rename: what they answer. The conditions are said at each. Package sys: the functions of calls that leave another table. The conditions are said at each. Package sys: the map of calls, and Do. The conditions are said at each.
-/
import Derived.Test.YtnkjaocmfhjnoaaGreatE6
import Derived.Test.YtnkjaocmfhjnoaaGreatE9
import Derived.Test.YtnkjaocmfhjnoaaGreatE10
import Derived.Test.YtnkjaocmfhjnoaaGreatE11
import Derived.Test.YtnkjaocmfhjnoaaGreatE12
import Derived.Test.YtnkjaocmfhjnoaaGreatE14
import Derived.Deep.RegionHeld3
import Derived.Deep.RegionWith
import Derived.BigRegion
import Derived.Deep.RegionLaw
import Derived.Maps.RangeRun
namespace Go.Proofs.YtnkjaocmfhjnoaaGreat
open Go Go.RowKit
set_option maxRecDepth 100000

attribute [local go_sem] cell_off4 cell_blk4
theorem qres_nil (c : Wh) (p : Nm) (f : Bool) : (resM [] c p f).2 ≠ 0 := fun q => by
  have e : fitE [] p ≠ 0 := fun z => by
    have h1 := (fit_why.1 z).2.2.2
    rw [show tis [] 1 = false from by unfold tis; rw [tget_out (by simp)]; rfl] at h1
    cases h1
  unfold resM at q
  rw [if_pos e] at q
  exact e q
theorem qfn_nil (c : Wh) (p : Nm) : fnE [] c (resM [] c p false) ≠ 0 := fun q => qres_nil c p false (fn_zero.1 q).1
theorem qfn_fo {t : List Nd} {c : Wh} {R : Fo × Int} (h : fnE t c R = 0) : fnF t c R = R.1 := if_pos h
theorem qfp_fo {t : List Nd} {c : Wh} {R : Fo × Int} (h : fpE t c R = 0) : fpF t c R = R.1 := if_pos h
structure MvS (t : List Nd) (F G : Fo) : Prop where
  k1 : (tget t F.dir).kind = 2
  m1 : F.name ∈ nmE (tget t F.dir).ents
  two : G.node ≠ 0 → (tget (cutT t F.dir F.name) G.dir).kind = 2 ∧ G.name ∈ nmE (tget (cutT t F.dir F.name) G.dir).ents
  one : G.node = 0 → outE (tget (cutT t F.dir F.name) G.dir) G.name ≠ 0
  w : withE (tget (mv2 t F.dir F.name G.dir G.name G.node) G.dir) G.name F.node = 0
  len : G.name.length ≤ 1000
theorem mv_steps {t : List Nd} (h : okT t) {c : Wh} {p q : Nm} (hz : mvE t c (resM t c p false) (resM t c q false) = 0) (hne : (resM t c q false).1.node ≠ (resM t c p false).1.node) : MvS t (resM t c p false).1 (resM t c q false).1 := by
  obtain ⟨h1, h2, h3⟩ := mv_zero hz
  obtain ⟨E, hi⟩ := fn_ent h h1
  obtain ⟨y1, -, -, y4, -⟩ := mvY_zero h3 hne
  have G := res_ent h h2 y1
  have hw := (mv3_is h E.kind E.found hi G.kind G.found hne G.nam y4).2
  generalize (resM t c p false).1 = F at E hi hne hw ⊢
  generalize (resM t c q false).1 = K at G hne hw ⊢
  have c1 := cut_is h E.kind E.found hi
  have hp : ¬ (K.dir = F.dir ∧ K.name = F.name) := fun z => hne (by rw [← G.found, ← E.found, z.1, z.2])
  have hf : fnd (tget (cutT t F.dir F.name) K.dir).ents K.name = K.node := by rw [cut_fnd h c1, if_neg hp]; exact G.found
  have hk : (tget (cutT t F.dir F.name) K.dir).kind = 2 := by rw [kind_noE (c1.head K.dir)]; exact G.kind
  refine ⟨E.kind, fnd_mem (by rw [E.found]; exact hi), fun z => ⟨hk, fnd_mem (by rw [hf]; exact z)⟩, fun z => ?_, hw, by have h5 := (nok_nok G.nam).len; omega⟩
  unfold outE
  rw [if_neg (fun r => r hk), if_neg (fun r => ?_)]
  · decide
  · obtain ⟨e, he, -, h3⟩ := fnd_some r
    have := ok_pos c1.ok he
    omega
theorem qtake_two (g : Nat) (t : List Nd) (P : Nat → Prop) (F K : Fo) (w : World) (h : TabR w g (cutT t F.dir F.name) P) (s : MvS t F K) (hP : ∀ b, w.heap.size ≤ b → P b) :
    Calls Tryz.prog 143 #[.pointer (some ⟨g, 0, none⟩), .agg #[.int .i64 K.dir, .string (bA K.name), .int .i64 K.node]] w fun e w' => e = .returned (.tuple #[]) ∧ TabR w' g (mv2 t F.dir F.name K.dir K.name K.node) P ∧ w.grownBy w' (some g) := by
  by_cases hk : K.node = 0
  · have e : mv2 t F.dir F.name K.dir K.name K.node = cutT t F.dir F.name := if_neg (fun q => q hk)
    rw [e]
    exact qtake_no g _ P K w h (s.one hk)
  · have e : mv2 t F.dir F.name K.dir K.name K.node = cutT (cutT t F.dir F.name) K.dir K.name := if_pos hk
    rw [e]
    exact qtake_yes g _ P K w h (s.two hk).1 (s.two hk).2 hP
set_option maxHeartbeats 8000000 in
theorem qul_err (v : Value) (t : List Nd) (c : Wh) (A0 : Option Addr) (m k : Nat) (p : Nm) (A1 : Option Addr) (n1 k1 : Nat) (w : World) (h : TabP w v t) (hc : CrR w c A0 m k) (hz : fnE t c (resM t c p false) ≠ 0) :
    Calls Tryz.prog 105 #[v, .agg #[.int .i64 c.u, .int .i64 c.g, .slice A0 m k], .string (bA p), .slice A1 n1 k1] w fun e w' => e = .returned (.int .i64 (fnE t c (resM t c p false))) ∧ Below w.heap.size w w' := by
  have hb1 := ba w (.cells #[.int .i64 c.u, .int .i64 c.g, .slice A0 m k] 30)
  have h11 := Blk.new w 30 #[.int .i64 c.u, .int .i64 c.g, .slice A0 m k]
  obtain ⟨W1, hW1⟩ : ∃ W, w.alloc (.cells #[.int .i64 c.u, .int .i64 c.g, .slice A0 m k] 30) = W := ⟨_, rfl⟩
  rw [hW1] at hb1 h11
  obtain ⟨R, hR⟩ : ∃ R, resM t c p false = R := ⟨_, rfl⟩
  obtain ⟨F, E⟩ := R
  rw [hR] at hz ⊢
  have HFD := Lib.hid (qfind_any v t c A0 m k p W1 (h.below hb1) (hc.below hb1) F E hR)
  obtain ⟨X, hX⟩ : ∃ X, fnE t c (F, E) = X := ⟨_, rfl⟩
  obtain ⟨Y, hY⟩ : ∃ Y, fnF t c (F, E) = Y := ⟨_, rfl⟩
  rw [hX, hY] at HFD
  rw [hX] at hz ⊢
  have y0 : (X != 0) = true := by simpa using hz
  have HB1 := Lib.hid hb1
  obtain ⟨k0, k1', k2'⟩ := h11.c3
  clear h hc hz hR hX hY hb1 h11
  go_enter Tryz.func105, Tryz.ntmps105
  go_wp2_with fail
  clear hW1
  refine HFD.out.mono ?_
  rintro e w3 ⟨rfl, hb⟩
  have HB3 := Lib.hid (bt (al hb (.cells #[.int .i64 Y.dir, .string (bA Y.name), .int .i64 Y.node] 197)) HB1.out)
  clear hb k0 k1' k2' HFD
  go_wp2
  go_ret
  exact ⟨rfl, HB3.out⟩
set_option maxHeartbeats 8000000 in
theorem qrd_err (v : Value) (t : List Nd) (c : Wh) (A0 : Option Addr) (m k : Nat) (p : Nm) (w : World) (h : TabP w v t) (hc : CrR w c A0 m k) (hz : fnE t c (resM t c p false) ≠ 0) :
    Calls Tryz.prog 107 #[v, .agg #[.int .i64 c.u, .int .i64 c.g, .slice A0 m k], .string (bA p)] w fun e w' => e = .returned (.int .i64 (fnE t c (resM t c p false))) ∧ Below w.heap.size w w' := by
  have hb1 := ba w (.cells #[.int .i64 c.u, .int .i64 c.g, .slice A0 m k] 30)
  have h11 := Blk.new w 30 #[.int .i64 c.u, .int .i64 c.g, .slice A0 m k]
  obtain ⟨W1, hW1⟩ : ∃ W, w.alloc (.cells #[.int .i64 c.u, .int .i64 c.g, .slice A0 m k] 30) = W := ⟨_, rfl⟩
  rw [hW1] at hb1 h11
  obtain ⟨R, hR⟩ : ∃ R, resM t c p false = R := ⟨_, rfl⟩
  obtain ⟨F, E⟩ := R
  rw [hR] at hz ⊢
  have HFD := Lib.hid (qfind_any v t c A0 m k p W1 (h.below hb1) (hc.below hb1) F E hR)
  obtain ⟨X, hX⟩ : ∃ X, fnE t c (F, E) = X := ⟨_, rfl⟩
  obtain ⟨Y, hY⟩ : ∃ Y, fnF t c (F, E) = Y := ⟨_, rfl⟩
  rw [hX, hY] at HFD
  rw [hX] at hz ⊢
  have y0 : (X != 0) = true := by simpa using hz
  have HB1 := Lib.hid hb1
  obtain ⟨k0, k1', k2'⟩ := h11.c3
  clear h hc hz hR hX hY hb1 h11
  go_enter Tryz.func107, Tryz.ntmps107
  go_wp2_with fail
  clear hW1
  refine HFD.out.mono ?_
  rintro e w3 ⟨rfl, hb⟩
  have HB3 := Lib.hid (bt (al hb (.cells #[.int .i64 Y.dir, .string (bA Y.name), .int .i64 Y.node] 197)) HB1.out)
  clear hb k0 k1' k2' HFD
  go_wp2
  go_ret
  exact ⟨rfl, HB3.out⟩
set_option maxHeartbeats 8000000 in
theorem qmv_err (v : Value) (t : List Nd) (c : Wh) (A0 : Option Addr) (m k : Nat) (p q : Nm) (A1 : Option Addr) (n1 k1 : Nat) (w : World) (h : TabP w v t) (hc : CrR w c A0 m k) (hz : fnE t c (resM t c p false) ≠ 0) :
    Calls Tryz.prog 108 #[v, .agg #[.int .i64 c.u, .int .i64 c.g, .slice A0 m k], .string (bA p), .string (bA q), .slice A1 n1 k1] w fun e w' => e = .returned (.int .i64 (fnE t c (resM t c p false))) ∧ Below w.heap.size w w' := by
  have hb1 := ba w (.cells #[.int .i64 c.u, .int .i64 c.g, .slice A0 m k] 30)
  have h11 := Blk.new w 30 #[.int .i64 c.u, .int .i64 c.g, .slice A0 m k]
  obtain ⟨W1, hW1⟩ : ∃ W, w.alloc (.cells #[.int .i64 c.u, .int .i64 c.g, .slice A0 m k] 30) = W := ⟨_, rfl⟩
  rw [hW1] at hb1 h11
  obtain ⟨R, hR⟩ : ∃ R, resM t c p false = R := ⟨_, rfl⟩
  obtain ⟨F, E⟩ := R
  rw [hR] at hz ⊢
  have HFD := Lib.hid (qfind_any v t c A0 m k p W1 (h.below hb1) (hc.below hb1) F E hR)
  obtain ⟨X, hX⟩ : ∃ X, fnE t c (F, E) = X := ⟨_, rfl⟩
  obtain ⟨Y, hY⟩ : ∃ Y, fnF t c (F, E) = Y := ⟨_, rfl⟩
  rw [hX, hY] at HFD
  rw [hX] at hz ⊢
  have y0 : (X != 0) = true := by simpa using hz
  have HB1 := Lib.hid hb1
  obtain ⟨k0, k1', k2'⟩ := h11.c3
  clear h hc hz hR hX hY hb1 h11
  go_enter Tryz.func108, Tryz.ntmps108
  go_wp2_with fail
  clear hW1
  refine HFD.out.mono ?_
  rintro e w3 ⟨rfl, hb⟩
  have HB3 := Lib.hid (bt (al hb (.cells #[.int .i64 Y.dir, .string (bA Y.name), .int .i64 Y.node] 197)) HB1.out)
  clear hb k0 k1' k2' HFD
  go_wp2
  go_ret
  exact ⟨rfl, HB3.out⟩
set_option maxHeartbeats 16000000 in
theorem qul_go (g : Nat) (t : List Nd) (P : Nat → Prop) (c : Wh) (A0 : Option Addr) (m k : Nat) (p : Nm) (op : List Int) (A1 : Option Addr) (n1 k1 : Nat) (w : World) (h : TabR w g t P) (hc : CrR w c A0 m k) (hop : IntsR w (.slice A1 n1 k1) op) (hol : op.length ≤ 1000) (ho1 : Off A1 op g) (hP : ∀ b, w.heap.size ≤ b → P b) (F : Fo) (E : Int) (hR : resM t c p false = (F, E)) (hz : fnE t c (F, E) = 0) (hen : Ent t F ∧ F.node ≠ 0) :
    Calls Tryz.prog 105 #[.pointer (some ⟨g, 0, none⟩), .agg #[.int .i64 c.u, .int .i64 c.g, .slice A0 m k], .string (bA p), .slice A1 n1 k1] w fun e w' => e = .returned (.int .i64 (ulE t c (F, E))) ∧ TabR w' g (ulT t c (F, E) op) P ∧ w.grownBy w' (some g) := by
  obtain ⟨X, hXX⟩ : ∃ X, ulE t c (F, E) = X := ⟨_, rfl⟩
  obtain ⟨T2, hT2⟩ : ∃ T, ulT t c (F, E) op = T := ⟨_, rfl⟩
  have hX : X = if (tget t F.node).kind = 2 then 21 else 0 := by rw [← hXX]; unfold ulE; rw [if_neg (fun q => q hz)]
  have hT : T2 = if X = 0 then frT (cutT t F.dir F.name) F.node op else t := by rw [← hT2, ← hXX]; rfl
  rw [hXX, hT2]
  have hgw := h.lt
  have hb1 := ba w (.cells #[.int .i64 c.u, .int .i64 c.g, .slice A0 m k] 30)
  have h11 := Blk.new w 30 #[.int .i64 c.u, .int .i64 c.g, .slice A0 m k]
  obtain ⟨W1, hW1⟩ : ∃ W, w.alloc (.cells #[.int .i64 c.u, .int .i64 c.g, .slice A0 m k] 30) = W := ⟨_, rfl⟩
  rw [hW1] at hb1 h11
  have HFD := Lib.hid (qfind_any (.pointer (some ⟨g, 0, none⟩)) t c A0 m k p W1 (h.below hb1).ptr (hc.below hb1) F E hR)
  rw [qfn_fo hz, hz] at HFD
  have HKD := Lib.hid (fun (W : World) (hb : Below W1.heap.size W1 W) => qkind_any (.pointer (some ⟨g, 0, none⟩)) t F.node W ((h.below hb1).below hb).ptr)
  have HTK := Lib.hid (fun (W : World) (hb : Below W1.heap.size W1 W) => qtake_yes g t P F W ((h.below hb1).below hb) hen.1.kind (fnd_mem (by rw [hen.1.found]; exact hen.2)) (fun b q => hP b (Nat.le_trans hb1.size (Nat.le_trans hb.size q))))
  have HFR := Lib.hid (fun (W : World) (ht : TabR W g (cutT t F.dir F.name) P) (hi : IntsR W (.slice A1 n1 k1) op) => qfree_any g _ P F.node op A1 n1 k1 W ht hi hol)
  have HOP := Lib.hid (fun (W W' : World) (hb : Below W1.heap.size W1 W) (hg : W.grownBy W' (some g)) => ints_past ((hop.below hb1).below hb) hg ho1)
  have HT := Lib.hid (h.below hb1)
  have HB1 := Lib.hid hb1
  have HXT := Lib.hid (And.intro hX hT)
  have HGW := Lib.hid hgw
  generalize (tget t F.node).kind = KF at HKD HXT
  obtain ⟨k0, k1', k2'⟩ := h11.c3
  clear h hc hop ho1 hP hR hz hen hX hT hXX hT2 hgw hb1 h11
  go_enter Tryz.func105, Tryz.ntmps105
  go_wp2_with fail
  clear hW1
  refine HFD.out.mono ?_
  rintro e w3 ⟨rfl, hb⟩
  have hbx := al hb (.cells #[.int .i64 F.dir, .string (bA F.name), .int .i64 F.node] 197)
  have hfx := Blk.new w3 197 #[.int .i64 F.dir, .string (bA F.name), .int .i64 F.node]
  obtain ⟨W4, hW4⟩ : ∃ W, w3.alloc (.cells #[.int .i64 F.dir, .string (bA F.name), .int .i64 F.node] 197) = W := ⟨_, rfl⟩
  obtain ⟨y, hy⟩ : ∃ z, w3.heap.size = z := ⟨_, rfl⟩
  rw [hW4] at hbx hfx
  rw [hy] at hfx
  have J4 := Lib.hid hbx
  have H4 := Lib.hid hfx
  have HGY := Lib.hid (show some y ≠ some g from fun q => by injection q with q; have h1 := HGW.out; have h2 := HB1.out.size; have h3 := hb.size; omega)
  obtain ⟨b0, b1, b2⟩ := hfx.c3
  clear hb hbx hfx k0 k1' k2' HFD
  go_wp2_with fail
  clear hW4 hy
  refine (HKD.out W4 J4.out).mono ?_
  rintro e w5 ⟨rfl, hb5⟩
  have J5 := Lib.hid (bt hb5 J4.out)
  have H5 := Lib.hid (H4.out.below hb5)
  clear hb5 b0 b1 b2 HKD
  by_cases hk : KF = 2
  · have y1 : (KF == 2) = true := by simpa using hk
    have HZ := Lib.hid (show X = 21 ∧ T2 = t from by have h1 := HXT.out.1; rw [if_pos hk] at h1; exact ⟨h1, by rw [HXT.out.2, h1]; rfl⟩)
    clear hk
    go_wp2
    go_ret
    exact ⟨by rw [HZ.out.1]; rfl, by rw [HZ.out.2]; exact HT.out.below J5.out, grown_below (bt J5.out HB1.out) _⟩
  · have y1 : (KF == 2) = false := by simpa using hk
    have HZ := Lib.hid (show X = 0 ∧ T2 = frT (cutT t F.dir F.name) F.node op from by have h1 := HXT.out.1; rw [if_neg hk] at h1; exact ⟨h1, by rw [HXT.out.2, if_pos h1]⟩)
    obtain ⟨b0, b1, b2⟩ := H5.out.c3
    clear hk
    go_wp2_with fail
    refine (HTK.out w5 J5.out).mono ?_
    rintro e w6 ⟨rfl, h6, hg6⟩
    have H6 := Lib.hid (And.intro h6 hg6)
    have HI6 := Lib.hid (HOP.out w5 w6 J5.out hg6)
    have HF6 := Lib.hid (HFR.out w6 h6 HI6.out)
    clear b0 b1 b2
    obtain ⟨b0, b1, b2⟩ := (H5.out.kept hg6 HGY.out).c3
    clear h6 hg6
    go_wp2_with fail
    refine HF6.out.mono ?_
    rintro e w7 ⟨rfl, h7, hg7⟩
    have HE := Lib.hid (And.intro h7 (grown_trans (grown_trans (grown_below (bt J5.out HB1.out) _) H6.out.2) hg7))
    clear h7 hg7
    go_wp2
    go_ret
    exact ⟨by rw [HZ.out.1]; rfl, by rw [HZ.out.2]; exact HE.out.1, HE.out.2⟩
set_option maxHeartbeats 16000000 in
theorem qrd_go (g : Nat) (t : List Nd) (P : Nat → Prop) (c : Wh) (A0 : Option Addr) (m k : Nat) (p : Nm) (w : World) (h : TabR w g t P) (hc : CrR w c A0 m k) (hP : ∀ b, w.heap.size ≤ b → P b) (F : Fo) (E : Int) (hR : resM t c p false = (F, E)) (hz : fnE t c (F, E) = 0) (hen : Ent t F ∧ F.node ≠ 0) :
    Calls Tryz.prog 107 #[.pointer (some ⟨g, 0, none⟩), .agg #[.int .i64 c.u, .int .i64 c.g, .slice A0 m k], .string (bA p)] w fun e w' => e = .returned (.int .i64 (rdE t c (F, E))) ∧ TabR w' g (rdT t c (F, E)) P ∧ w.grownBy w' (some g) := by
  obtain ⟨X, hXX⟩ : ∃ X, rdE t c (F, E) = X := ⟨_, rfl⟩
  obtain ⟨T2, hT2⟩ : ∃ T, rdT t c (F, E) = T := ⟨_, rfl⟩
  have hX : X = if (tget t F.node).kind ≠ 2 then 20 else if 0 < (tget t F.node).ents.length then 39 else 0 := by
    rw [← hXX]
    unfold rdE
    rw [if_neg (fun q => q hz)]
    cases (tget t F.node).ents with
    | nil => simp
    | cons x xs => simp
  have hT : T2 = if X = 0 then dropT (cutT t F.dir F.name) F.node else t := by rw [← hT2, ← hXX]; rfl
  rw [hXX, hT2]
  have hgw := h.lt
  have hb1 := ba w (.cells #[.int .i64 c.u, .int .i64 c.g, .slice A0 m k] 30)
  have h11 := Blk.new w 30 #[.int .i64 c.u, .int .i64 c.g, .slice A0 m k]
  obtain ⟨W1, hW1⟩ : ∃ W, w.alloc (.cells #[.int .i64 c.u, .int .i64 c.g, .slice A0 m k] 30) = W := ⟨_, rfl⟩
  rw [hW1] at hb1 h11
  have HFD := Lib.hid (qfind_any (.pointer (some ⟨g, 0, none⟩)) t c A0 m k p W1 (h.below hb1).ptr (hc.below hb1) F E hR)
  rw [qfn_fo hz, hz] at HFD
  have HKD := Lib.hid (fun (W : World) (hb : Below W1.heap.size W1 W) => qkind_any (.pointer (some ⟨g, 0, none⟩)) t F.node W ((h.below hb1).below hb).ptr)
  have HEN := Lib.hid (fun (W : World) (hb : Below W1.heap.size W1 W) => qentries_any (.pointer (some ⟨g, 0, none⟩)) t F.node W ((h.below hb1).below hb).ptr)
  have HTK := Lib.hid (fun (W : World) (hb : Below W1.heap.size W1 W) => qtake_yes g t P F W ((h.below hb1).below hb) hen.1.kind (fnd_mem (by rw [hen.1.found]; exact hen.2)) (fun b q => hP b (Nat.le_trans hb1.size (Nat.le_trans hb.size q))))
  have HDR := Lib.hid (fun (W : World) (ht : TabR W g (cutT t F.dir F.name) P) => show Calls Tryz.prog 27 #[.pointer (some ⟨g, 0, none⟩), .int .i64 F.node] W fun e w' => e = .returned (.bool (tis (cutT t F.dir F.name) F.node)) ∧ TabR w' g (dropT (cutT t F.dir F.name) F.node) P ∧ W.grownBy w' (some g) from by
    have h1 := drop_any g (cutT t F.dir F.name) P F.node W ht 2 (by decide) (by decide) Nd.zero true
    rw [actT, if_neg (by decide), if_neg (by decide)] at h1
    exact h1)
  have HT := Lib.hid (h.below hb1)
  have HB1 := Lib.hid hb1
  have HXT := Lib.hid (And.intro hX hT)
  have HGW := Lib.hid hgw
  generalize (tget t F.node).kind = KF at HKD HXT
  generalize (tget t F.node).ents.length = n at HEN HXT
  obtain ⟨k0, k1', k2'⟩ := h11.c3
  clear h hc hP hR hz hen hX hT hXX hT2 hgw hb1 h11
  go_enter Tryz.func107, Tryz.ntmps107
  go_wp2_with fail
  clear hW1
  refine HFD.out.mono ?_
  rintro e w3 ⟨rfl, hb⟩
  have hbx := al hb (.cells #[.int .i64 F.dir, .string (bA F.name), .int .i64 F.node] 197)
  have hfx := Blk.new w3 197 #[.int .i64 F.dir, .string (bA F.name), .int .i64 F.node]
  obtain ⟨W4, hW4⟩ : ∃ W, w3.alloc (.cells #[.int .i64 F.dir, .string (bA F.name), .int .i64 F.node] 197) = W := ⟨_, rfl⟩
  obtain ⟨y, hy⟩ : ∃ z, w3.heap.size = z := ⟨_, rfl⟩
  rw [hW4] at hbx hfx
  rw [hy] at hfx
  have J4 := Lib.hid hbx
  have H4 := Lib.hid hfx
  have HGY := Lib.hid (show some y ≠ some g from fun q => by injection q with q; have h1 := HGW.out; have h2 := HB1.out.size; have h3 := hb.size; omega)
  obtain ⟨b0, b1, b2⟩ := hfx.c3
  clear hb hbx hfx k0 k1' k2' HFD
  go_wp2_with fail
  clear hW4 hy
  refine (HKD.out W4 J4.out).mono ?_
  rintro e w5 ⟨rfl, hb5⟩
  have J5 := Lib.hid (bt hb5 J4.out)
  have H5 := Lib.hid (H4.out.below hb5)
  clear hb5 b0 b1 b2 HKD
  by_cases hk : KF = 2
  · have y1 : (KF != 2) = false := by simpa using hk
    have HZ := Lib.hid (show X = if 0 < n then 39 else 0 from by have h1 := HXT.out.1; rw [if_neg (fun q => q hk)] at h1; exact h1)
    obtain ⟨b0, b1, b2⟩ := H5.out.c3
    clear hk
    go_wp2_with fail
    refine (HEN.out w5 J5.out).mono ?_
    rintro e w6 ⟨rfl, hb6⟩
    have J6 := Lib.hid (bt hb6 J5.out)
    have H6 := Lib.hid (H5.out.below hb6)
    clear hb6 b0 b1 b2
    by_cases hn : 0 < n
    · have yn : (n : Int) > 0 := by omega
      have HZ2 := Lib.hid (show X = 39 ∧ T2 = t from by have h1 := HZ.out; rw [if_pos hn] at h1; exact ⟨h1, by rw [HXT.out.2, h1]; rfl⟩)
      clear hn
      go_wp2
      go_ret
      exact ⟨by rw [HZ2.out.1]; rfl, by rw [HZ2.out.2]; exact HT.out.below J6.out, grown_below (bt J6.out HB1.out) _⟩
    · have yn : ¬ (n : Int) > 0 := by omega
      have HZ2 := Lib.hid (show X = 0 ∧ T2 = dropT (cutT t F.dir F.name) F.node from by have h1 := HZ.out; rw [if_neg hn] at h1; exact ⟨h1, by rw [HXT.out.2, if_pos h1]⟩)
      obtain ⟨b0, b1, b2⟩ := H6.out.c3
      clear hn
      go_wp2_with fail
      refine (HTK.out w6 J6.out).mono ?_
      rintro e w7 ⟨rfl, h7, hg7⟩
      have H7 := Lib.hid (And.intro h7 hg7)
      have HD7 := Lib.hid (HDR.out w7 h7)
      clear b0 b1 b2
      obtain ⟨b0, b1, b2⟩ := (H6.out.kept hg7 HGY.out).c3
      clear h7 hg7
      go_wp2_with fail
      refine HD7.out.mono ?_
      rintro e w8 ⟨rfl, h8, hg8⟩
      have HE := Lib.hid (And.intro h8 (grown_trans (grown_trans (grown_below (bt J6.out HB1.out) _) H7.out.2) hg8))
      clear h8 hg8
      go_wp2
      go_ret
      exact ⟨by rw [HZ2.out.1]; rfl, by rw [HZ2.out.2]; exact HE.out.1, HE.out.2⟩
  · have y1 : (KF != 2) = true := by simpa using hk
    have HZ := Lib.hid (show X = 20 ∧ T2 = t from by have h1 := HXT.out.1; rw [if_pos hk] at h1; exact ⟨h1, by rw [HXT.out.2, h1]; rfl⟩)
    clear hk
    go_wp2
    go_ret
    exact ⟨by rw [HZ.out.1]; rfl, by rw [HZ.out.2]; exact HT.out.below J5.out, grown_below (bt J5.out HB1.out) _⟩
set_option maxHeartbeats 32000000 in
theorem qmv_go (g : Nat) (t : List Nd) (P : Nat → Prop) (c : Wh) (A0 : Option Addr) (m k : Nat) (p q : Nm) (op : List Int) (A1 : Option Addr) (n1 k1 : Nat) (w : World) (h : TabR w g t P) (hc : CrR w c A0 m k) (hop : IntsR w (.slice A1 n1 k1) op) (hol : op.length ≤ 1000) (ho1 : Off A1 op g) (hP : ∀ b, w.heap.size ≤ b → P b) (F : Fo) (E : Int) (hR : resM t c p false = (F, E)) (hz : fnE t c (F, E) = 0) (K : Fo) (S : Int) (hS : resM t c q false = (K, S)) (hst : mvE t c (F, E) (K, S) = 0 → K.node ≠ F.node → MvS t F K) :
    Calls Tryz.prog 108 #[.pointer (some ⟨g, 0, none⟩), .agg #[.int .i64 c.u, .int .i64 c.g, .slice A0 m k], .string (bA p), .string (bA q), .slice A1 n1 k1] w fun e w' => e = .returned (.int .i64 (mvE t c (F, E) (K, S))) ∧ TabR w' g (mvT t c (F, E) (K, S) op) P ∧ w.grownBy w' (some g) := by
  obtain ⟨X, hXX⟩ : ∃ X, mvE t c (F, E) (K, S) = X := ⟨_, rfl⟩
  obtain ⟨T2, hT2⟩ : ∃ T, mvT t c (F, E) (K, S) op = T := ⟨_, rfl⟩
  have hX : X = if fpE t c (K, S) ≠ 0 then fpE t c (K, S) else if K.node = F.node then 0 else mvX t c F K := by rw [← hXX, mv_split, if_neg (fun q => q hz)]
  have hT : T2 = if X ≠ 0 ∨ K.node = F.node then t else frT (mv3 t F.dir F.name F.node K.dir K.name K.node) K.node op := by rw [← hT2, ← hXX]; rfl
  rw [hXX, hT2]
  rw [hXX] at hst
  have hgw := h.lt
  have hb1 := ba w (.cells #[.int .i64 c.u, .int .i64 c.g, .slice A0 m k] 30)
  have h11 := Blk.new w 30 #[.int .i64 c.u, .int .i64 c.g, .slice A0 m k]
  obtain ⟨W1, hW1⟩ : ∃ W, w.alloc (.cells #[.int .i64 c.u, .int .i64 c.g, .slice A0 m k] 30) = W := ⟨_, rfl⟩
  rw [hW1] at hb1 h11
  have HFD := Lib.hid (qfind_any (.pointer (some ⟨g, 0, none⟩)) t c A0 m k p W1 (h.below hb1).ptr (hc.below hb1) F E hR)
  rw [qfn_fo hz, hz] at HFD
  have HPL := Lib.hid (fun (W : World) (hb : Below W1.heap.size W1 W) => qplace_any (.pointer (some ⟨g, 0, none⟩)) t c A0 m k q W ((h.below hb1).below hb).ptr ((hc.below hb1).below hb) K S hS)
  have HMV := Lib.hid (fun (W : World) (hb : Below W1.heap.size W1 W) => qmove_any (.pointer (some ⟨g, 0, none⟩)) t c A0 m k F K W ((h.below hb1).below hb).ptr)
  have HPB := Lib.hid (fun (W : World) (hb : W1.heap.size ≤ W.heap.size) (b : Nat) (q : W.heap.size ≤ b) => hP b (Nat.le_trans hb1.size (Nat.le_trans hb q)))
  have HOP := Lib.hid (fun (W W' : World) (hb : Below W1.heap.size W1 W) (hg : W.grownBy W' (some g)) => ints_past ((hop.below hb1).below hb) hg ho1)
  have HO1 := Lib.hid ho1
  have HOL := Lib.hid hol
  have HST := Lib.hid hst
  have HT := Lib.hid (h.below hb1)
  have HB1 := Lib.hid hb1
  have H1 := Lib.hid h11
  have HXT := Lib.hid (And.intro hX hT)
  have HGW := Lib.hid hgw
  obtain ⟨FP, hFP⟩ : ∃ x, fpE t c (K, S) = x := ⟨_, rfl⟩
  obtain ⟨Y, hY⟩ : ∃ x, fpF t c (K, S) = x := ⟨_, rfl⟩
  obtain ⟨M, hM⟩ : ∃ x, mvX t c F K = x := ⟨_, rfl⟩
  have HYK := Lib.hid (show FP = 0 → Y = K from fun z => by rw [← hY]; exact qfp_fo (by rw [hFP]; exact z))
  rw [hFP, hY] at HPL
  rw [hM] at HMV
  rw [hFP, hM] at HXT
  obtain ⟨k0, k1', k2'⟩ := h11.c3
  clear h hc hop ho1 hol hP hR hz hS hst hX hT hXX hT2 hgw hFP hY hM hb1 h11
  go_enter Tryz.func108, Tryz.ntmps108
  go_wp2_with fail
  clear hW1
  refine HFD.out.mono ?_
  rintro e w3 ⟨rfl, hb⟩
  have hbx := al hb (.cells #[.int .i64 F.dir, .string (bA F.name), .int .i64 F.node] 197)
  have hfx := Blk.new w3 197 #[.int .i64 F.dir, .string (bA F.name), .int .i64 F.node]
  obtain ⟨W4, hW4⟩ : ∃ W, w3.alloc (.cells #[.int .i64 F.dir, .string (bA F.name), .int .i64 F.node] 197) = W := ⟨_, rfl⟩
  obtain ⟨y, hy⟩ : ∃ z, w3.heap.size = z := ⟨_, rfl⟩
  rw [hW4] at hbx hfx
  rw [hy] at hfx
  have J4 := Lib.hid hbx
  have H4 := Lib.hid hfx
  have HGY := Lib.hid (show some y ≠ some g from fun q => by injection q with q; have h1 := HGW.out; have h2 := HB1.out.size; have h3 := hb.size; omega)
  clear k0 k1' k2'
  obtain ⟨k0, k1', k2'⟩ := (H1.out.below hbx).c3
  clear hb hbx hfx HFD
  go_wp2_with fail
  clear hW4 hy
  refine (HPL.out W4 J4.out).mono ?_
  rintro e w5 ⟨rfl, hb⟩
  have hbx := al hb (.cells #[.int .i64 Y.dir, .string (bA Y.name), .int .i64 Y.node] 197)
  have hfx := Blk.new w5 197 #[.int .i64 Y.dir, .string (bA Y.name), .int .i64 Y.node]
  obtain ⟨W6, hW6⟩ : ∃ W, w5.alloc (.cells #[.int .i64 Y.dir, .string (bA Y.name), .int .i64 Y.node] 197) = W := ⟨_, rfl⟩
  obtain ⟨x, hx⟩ : ∃ z, w5.heap.size = z := ⟨_, rfl⟩
  rw [hW6] at hbx hfx
  rw [hx] at hfx
  have J6 := Lib.hid (bt hbx J4.out)
  have H6 := Lib.hid (H4.out.below hbx)
  have HI := Lib.hid hfx
  have HGX := Lib.hid (show some x ≠ some g from fun q => by injection q with q; have h1 := HGW.out; have h2 := HB1.out.size; have h3 := hb.size; have h4 := J4.out.size; omega)
  clear k0 k1' k2' hb hbx hfx HPL
  by_cases h0 : FP = 0
  · have y0 : (FP != 0) = false := by simpa using h0
    have hYK := HYK.out h0
    subst hYK
    have HXU := Lib.hid (show X = (if Y.node = F.node then 0 else M) ∧ T2 = _ from ⟨by have h1 := HXT.out.1; rw [if_neg (fun z => z h0)] at h1; exact h1, HXT.out.2⟩)
    clear h0 HXT
    obtain ⟨a0, a1, a2⟩ := H6.out.c3
    obtain ⟨b0, b1, b2⟩ := HI.out.c3
    by_cases hn : Y.node = F.node
    · have y1 : (Y.node == F.node) = true := by simpa using hn
      have HZ := Lib.hid (show X = 0 ∧ T2 = t from by have h1 := HXU.out.1; rw [if_pos hn] at h1; exact ⟨h1, by rw [HXU.out.2, if_pos (.inr hn)]⟩)
      clear hn
      go_wp2
      clear hW6 hx
      go_ret
      exact ⟨by rw [HZ.out.1]; rfl, by rw [HZ.out.2]; exact HT.out.below J6.out, grown_below (bt J6.out HB1.out) _⟩
    have y1 : (Y.node == F.node) = false := by simpa using hn
    obtain ⟨k0, k1', k2'⟩ := (H1.out.below J6.out).c3
    have HNE := Lib.hid hn
    clear hn
    go_wp2_with fail
    clear hW6 hx
    refine (HMV.out W6 J6.out).mono ?_
    rintro e w7 ⟨rfl, hb7⟩
    have J7 := Lib.hid (bt hb7 J6.out)
    have HA := Lib.hid (H6.out.below hb7)
    have HBB := Lib.hid (HI.out.below hb7)
    clear hb7 a0 a1 a2 b0 b1 b2 k0 k1' k2' HMV
    by_cases h2 : M = 0
    · have y2 : (M != 0) = false := by simpa using h2
      have hx0 : X = 0 := by have h1 := HXU.out.1; rw [if_neg HNE.out] at h1; rw [h1]; exact h2
      have HZ := Lib.hid (show X = 0 ∧ T2 = frT (mv3 t F.dir F.name F.node Y.dir Y.name Y.node) Y.node op from ⟨hx0, by rw [HXU.out.2, if_neg (fun z => z.elim (fun z => z hx0) HNE.out)]⟩)
      have HMS := Lib.hid (HST.out hx0 HNE.out)
      clear h2 hx0 HST HXU
      obtain ⟨a0, a1, a2⟩ := HA.out.c3
      have HTK := Lib.hid (qtake_yes g t P F w7 (HT.out.below J7.out) HMS.out.k1 HMS.out.m1 (HPB.out w7 J7.out.size))
      go_wp2_with fail
      refine HTK.out.mono ?_
      rintro e w8 ⟨rfl, h8, hg8⟩
      have H8 := Lib.hid (And.intro h8 hg8)
      have HI8 := Lib.hid (HOP.out w7 w8 J7.out hg8)
      have HA8 := Lib.hid (HA.out.kept hg8 HGY.out)
      have HB8 := Lib.hid (HBB.out.kept hg8 HGX.out)
      have HS8 := Lib.hid (show W1.heap.size ≤ w8.heap.size from Nat.le_trans J7.out.size hg8.size)
      have HT8 := Lib.hid (qtake_two g t P F Y w8 h8 HMS.out (HPB.out w8 HS8.out))
      clear a0 a1 a2 h8 hg8 HTK
      obtain ⟨b0, b1, b2⟩ := HB8.out.c3
      go_wp2_with fail
      refine HT8.out.mono ?_
      rintro e w9 ⟨rfl, h9, hg9⟩
      have H9 := Lib.hid (And.intro h9 hg9)
      have HI9 := Lib.hid (ints_past HI8.out hg9 HO1.out)
      have HA9 := Lib.hid (HA8.out.kept hg9 HGY.out)
      have HB9 := Lib.hid (HB8.out.kept hg9 HGX.out)
      have HS9 := Lib.hid (show W1.heap.size ≤ w9.heap.size from Nat.le_trans HS8.out hg9.size)
      have HGV := Lib.hid (qgive_any g _ P Y F.node w9 h9 HMS.out.w HMS.out.len (HPB.out w9 HS9.out))
      clear b0 b1 b2 h9 hg9 HT8
      obtain ⟨a0, a1, a2⟩ := HA9.out.c3
      obtain ⟨b0, b1, b2⟩ := HB9.out.c3
      go_wp2_with fail
      refine HGV.out.mono ?_
      rintro e w10 ⟨rfl, h10, hg10⟩
      have H10 := Lib.hid (And.intro h10 hg10)
      have HI10 := Lib.hid (ints_past HI9.out hg10 HO1.out)
      have HFR := Lib.hid (qfree_any g _ P Y.node op A1 n1 k1 w10 h10 HI10.out HOL.out)
      clear a0 a1 a2 b0 b1 b2
      obtain ⟨b0, b1, b2⟩ := (HB9.out.kept hg10 HGX.out).c3
      clear h10 hg10 HGV
      go_wp2_with fail
      refine HFR.out.mono ?_
      rintro e w11 ⟨rfl, h11, hg11⟩
      have HE := Lib.hid (And.intro h11 (grown_trans (grown_trans (grown_trans (grown_trans (grown_below (bt J7.out HB1.out) _) H8.out.2) H9.out.2) H10.out.2) hg11))
      clear h11 hg11 HFR
      go_wp2
      go_ret
      exact ⟨by rw [HZ.out.1]; rfl, by rw [HZ.out.2]; exact HE.out.1, HE.out.2⟩
    · have y2 : (M != 0) = true := by simpa using h2
      have hx0 : X = M := by have h1 := HXU.out.1; rw [if_neg HNE.out] at h1; exact h1
      have HZ := Lib.hid (show X = M ∧ T2 = t from ⟨hx0, by rw [HXU.out.2, if_pos (.inl (by rw [hx0]; exact h2))]⟩)
      clear h2 hx0
      go_wp2
      go_ret
      exact ⟨by rw [HZ.out.1]; rfl, by rw [HZ.out.2]; exact HT.out.below J7.out, grown_below (bt J7.out HB1.out) _⟩
  · have y0 : (FP != 0) = true := by simpa using h0
    have HZ := Lib.hid (show X = FP ∧ T2 = t from by have h1 := HXT.out.1; rw [if_pos h0] at h1; exact ⟨h1, by rw [HXT.out.2, if_pos (.inl (by rw [h1]; exact h0))]⟩)
    clear h0
    go_wp2
    clear hW6 hx
    go_ret
    exact ⟨by rw [HZ.out.1]; rfl, by rw [HZ.out.2]; exact HT.out.below J6.out, grown_below (bt J6.out HB1.out) _⟩
theorem unlinkC : UnlinkC := fun g t P c A0 m k p op A1 n1 k1 w h ht hc hop hol _ ho1 hP => by
  by_cases hz : fnE t c (resM t c p false) = 0
  · have hen := fn_ent ht hz
    obtain ⟨R, hR⟩ : ∃ R, resM t c p false = R := ⟨_, rfl⟩
    obtain ⟨F, E⟩ := R
    rw [hR] at hz hen ⊢
    exact qul_go g t P c A0 m k p op A1 n1 k1 w h hc hop hol ho1 hP F E hR hz hen
  · have e1 : ulE t c (resM t c p false) = fnE t c (resM t c p false) := if_pos hz
    have e2 : ulT t c (resM t c p false) op = t := if_neg (by rw [e1]; exact hz)
    rw [e1, e2]
    refine (qul_err _ t c A0 m k p A1 n1 k1 w h.ptr hc hz).mono ?_
    rintro e w' ⟨rfl, hb⟩
    exact ⟨rfl, h.below hb, grown_below hb _⟩
theorem rmdirC : RmdirC := fun g t P c A0 m k p w h ht hc _ hP => by
  by_cases hz : fnE t c (resM t c p false) = 0
  · have hen := fn_ent ht hz
    obtain ⟨R, hR⟩ : ∃ R, resM t c p false = R := ⟨_, rfl⟩
    obtain ⟨F, E⟩ := R
    rw [hR] at hz hen ⊢
    exact qrd_go g t P c A0 m k p w h hc hP F E hR hz hen
  · have e1 : rdE t c (resM t c p false) = fnE t c (resM t c p false) := if_pos hz
    have e2 : rdT t c (resM t c p false) = t := if_neg (by rw [e1]; exact hz)
    rw [e1, e2]
    refine (qrd_err _ t c A0 m k p w h.ptr hc hz).mono ?_
    rintro e w' ⟨rfl, hb⟩
    exact ⟨rfl, h.below hb, grown_below hb _⟩
theorem renameC : RenameC := fun g t P c A0 m k p q op A1 n1 k1 w h ht hc hop hol _ ho1 hP => by
  by_cases hz : fnE t c (resM t c p false) = 0
  · have hst : mvE t c (resM t c p false) (resM t c q false) = 0 → (resM t c q false).1.node ≠ (resM t c p false).1.node → MvS t (resM t c p false).1 (resM t c q false).1 := fun z y => mv_steps ht z y
    obtain ⟨R, hR⟩ : ∃ R, resM t c p false = R := ⟨_, rfl⟩
    obtain ⟨F, E⟩ := R
    obtain ⟨S, hS⟩ : ∃ S, resM t c q false = S := ⟨_, rfl⟩
    obtain ⟨K, S⟩ := S
    rw [hR] at hz
    rw [hR, hS] at hst ⊢
    exact qmv_go g t P c A0 m k p q op A1 n1 k1 w h hc hop hol ho1 hP F E hR hz K S hS hst
  · have e1 : mvE t c (resM t c p false) (resM t c q false) = fnE t c (resM t c p false) := if_pos hz
    have e2 : mvT t c (resM t c p false) (resM t c q false) op = t := if_pos (.inl (by rw [e1]; exact hz))
    rw [e1, e2]
    refine (qmv_err _ t c A0 m k p q A1 n1 k1 w h.ptr hc hz).mono ?_
    rintro e w' ⟨rfl, hb⟩
    exact ⟨rfl, h.below hb, grown_below hb _⟩
theorem pruneC : PruneC where
  ul := unlinkC
  rd := rmdirC
  rn := renameC
  fr := fun g t P i op A1 n1 k1 w h _ hop hol _ _ => qfree_any g t P i op A1 n1 k1 w h hop hol
  bl := fun g t P i d w h _ => qblw_any _ t i d w h.ptr
  uln := fun c A0 m k p w hc => (qul_err (.pointer none) [] c A0 m k p none 0 0 w (TabP.none w) hc (qfn_nil c p)).mono fun _ _ ⟨a, b⟩ => ⟨_, a, qfn_nil c p, b⟩
  rdn := fun c A0 m k p w hc => (qrd_err (.pointer none) [] c A0 m k p w (TabP.none w) hc (qfn_nil c p)).mono fun _ _ ⟨a, b⟩ => ⟨_, a, qfn_nil c p, b⟩
  rnn := fun c A0 m k p q w hc => (qmv_err (.pointer none) [] c A0 m k p q none 0 0 w (TabP.none w) hc (qfn_nil c p)).mono fun _ _ ⟨a, b⟩ => ⟨_, a, qfn_nil c p, b⟩
  frn := fun i w => qfree_no (.pointer none) [] i [] none 0 0 w (TabP.none w) (IntsR.nil w) (by decide) (by
    unfold frB
    rw [show tis [] i = false from by unfold tis; rw [tget_out (by simp; omega)]; rfl]
    simp)
end Go.Proofs.YtnkjaocmfhjnoaaGreat
namespace Go.Proofs.YtnkjaocmfhjnoaaGreat
open Go Go.RowKit
set_option maxRecDepth 100000

attribute [local go_sem] cell_off4 cell_blk4
set_option maxHeartbeats 4000000 in
theorem m_mkdir : MtC 74 8 := fun s g b cp i S p c vd w h hI hn hp hd hsh => by
  obtain ⟨o, ho⟩ : ∃ o, i * 16 = o := ⟨_, rfl⟩
  obtain ⟨W1, zr, G, m, hW1, hzr, hm⟩ := mw_start (vd := vd) (c := c) h hp ho
  rw [ho]
  have hgs := hI.gs p (List.mem_of_getElem? hp)
  have HM := Lib.hid hm
  obtain ⟨E, hE⟩ : ∃ E, mkE S.t p.c p.um c.path c.a = E := ⟨_, rfl⟩
  obtain ⟨T, hT⟩ : ∃ T, mkT S.t p.c p.um c.path c.a = T := ⟨_, rfl⟩
  have hK : doK 8 S i p c = (⟨T, S.p⟩, Rsm.e E) := by rw [← hE, ← hT]; rfl
  rw [hK]
  have HCL := Lib.hid (fun (V : World) (hv : Below W1.heap.size W1 V) => show Calls Tryz.prog 103 #[.pointer (some ⟨g, 0, none⟩), .agg #[.int .i64 p.c.u, .int .i64 p.c.g, .slice G p.c.gs.length m], .int .i64 p.um, .string (bA c.path), .int .i64 c.a] V fun e w' => e = .returned (.int .i64 E) ∧ TabR w' g T (fun _ => True) ∧ V.grownBy w' (some g) from by
    have h1 := hm.below hv
    obtain ⟨ct, hct, -⟩ := h1.sq.tab.blk
    rw [← hE, ← hT]
    exact mkdirC g S.t (fun _ => True) p.c G p.c.gs.length m p.um c.path c.a V h1.sq.tab h1.sq.tab.ok (h1.pc.crr hgs) (fun _ _ => trivial))
  have HPR := Lib.hid (fun (V : World) (hv : Below W1.heap.size W1 V) => (hm.below hv).all)
  have HPG := Lib.hid (fun (V w5 : World) (hv : Below W1.heap.size W1 V) (ht : TabR w5 g T (fun _ => True)) (hg : V.grownBy w5 (some g)) => (hm.below hv).after ht hg)
  have HPX := Lib.hid (fun (V w5 : World) (hv : Below W1.heap.size W1 V) (ht : TabR w5 g T (fun _ => True)) (hg : V.grownBy w5 (some g)) (u0 u1 u2 u3 u4 u5 u6 u7 u8 u9 u10 u11 : Value) => (hm.below hv).done ht hg u0 u1 u2 u3 u4 u5 u6 u7 u8 u9 u10 u11)
  have HGL := Lib.hid (show ∀ V : World, Below W1.heap.size W1 V → g < V.heap.size from fun V hv => (hm.below hv).sq.tab.lt)
  have j0 := Lib.hid (show Below W1.heap.size W1 W1.drew from (Below.refl _ _).drew)
  clear hm h hI hn hp hd hsh hgs hE hT hK ho
  go_enter Tryz.func74, Tryz.ntmps74
  go_upto_region 1 with fail
  clear hW1 hzr
  go_region_held3 (fun V => V.cell? ⟨s, 0, none⟩ = some (.pointer (some ⟨g, 0, none⟩)) ∧ V.cell? ⟨b, o, none⟩ = some (.int .i64 p.c.u) ∧ V.cell? ⟨b, o + 1, none⟩ = some (.int .i64 p.c.g) ∧ V.cell? ⟨b, o + 2, none⟩ = some (.slice G p.c.gs.length m) ∧ V.cell? ⟨b, o + 3, none⟩ = some (.int .i64 p.um) ∧ V.cell? ⟨w.heap.size, 1, none⟩ = some (.string (bA c.path)) ∧ V.cell? ⟨w.heap.size, 2, none⟩ = some (.string (bA c.other)) ∧ V.cell? ⟨w.heap.size, 3, none⟩ = some (.int .i64 c.a) ∧ V.cell? ⟨w.heap.size, 4, none⟩ = some (.int .i64 c.b) ∧ V.cell? ⟨w.heap.size, 5, none⟩ = some vd)
    (first | (with_reducible exact HPR.out _ j0.out) | (with_reducible exact HPG.out _ _ j0.out H5.out.1 H5.out.2) | (with_reducible exact HPX.out _ _ j0.out H5.out.1 H5.out.2 _ _ _ _ _ _ _ _ _ _ _ _))
    (first
    | (go_at_call 103; (with_reducible refine (HCL.out _ j0.out).mono ?_); rintro e2 w5 ⟨rfl, ht, hg⟩; obtain ⟨hsq, hfx, hkr, -⟩ := (HM.out.below j0.out).tabbed ht hg; have H5 := Lib.hid (And.intro ht hg); have SQ := Lib.hid hsq; have FX := Lib.hid hfx; have KR := Lib.hid hkr; obtain ⟨x0, x1, x2, x3, x4, x5, x6, x7, x8, x9, x10, x11⟩ := hkr.c12; obtain ⟨f0, f1, f2, f3, f4, f5, f6, f7, f8, f9, f10, f11⟩ := hkr.f12; obtain ⟨s0, s1, s2, s3, s4, s5, s6, s7, s8, s9, s10, s11⟩ := hkr.s12; clear ht hg hsq hfx hkr))
  all_goals (
    go_wp2
    exact bodyPost_ret (v := .agg #[.int .i64 E, .int .i64 0, .int .i64 0, .int .i64 0, .int .i64 0, .int .i64 0, .int .i64 0, .int .i64 0, .int .i64 0, .string ⟨#[]⟩, .slice none 0 0, .slice none 0 0]) (by simp [results, Tryz.results74, go_sem, s0, s1, s2, s3, s4, s5, s6, s7, s8, s9, s10, s11]) rfl (doq_e E SQ.out FX.out KR.out HM.out.lr))
set_option maxHeartbeats 4000000 in
theorem m_rename : MtC 78 12 := fun s g b cp i S p c vd w h hI hn hp hd hsh => by
  obtain ⟨o, ho⟩ : ∃ o, i * 16 = o := ⟨_, rfl⟩
  obtain ⟨W1, zr, G, m, hW1, hzr, hm⟩ := mw_start (vd := vd) (c := c) h hp ho
  rw [ho]
  have hgs := hI.gs p (List.mem_of_getElem? hp)
  have HM := Lib.hid hm
  obtain ⟨E, hE⟩ : ∃ E, mvE S.t p.c (resM S.t p.c c.path false) (resM S.t p.c c.other false) = E := ⟨_, rfl⟩
  obtain ⟨T, hT⟩ : ∃ T, mvT S.t p.c (resM S.t p.c c.path false) (resM S.t p.c c.other false) (opnS S) = T := ⟨_, rfl⟩
  have hK : doK 12 S i p c = (⟨T, S.p⟩, Rsm.e E) := by rw [← hE, ← hT]; rfl
  rw [hK]
  have HOP := Lib.hid (fun (V : World) (hv : Below W1.heap.size W1 V) => sopn_any s g b cp S V (hm.sq.below hv) hn)
  have HCL := Lib.hid (fun (V : World) (hv : Below W1.heap.size W1 V) (A9 : Option Addr) (n9 k9 : Nat) (h9 : IntsR V (.slice A9 n9 k9) (opnS S)) (ha : Off A9 (opnS S) g) => show Calls Tryz.prog 108 #[.pointer (some ⟨g, 0, none⟩), .agg #[.int .i64 p.c.u, .int .i64 p.c.g, .slice G p.c.gs.length m], .string (bA c.path), .string (bA c.other), .slice A9 n9 k9] V fun e w' => e = .returned (.int .i64 E) ∧ TabR w' g T (fun _ => True) ∧ V.grownBy w' (some g) from by
    have h1 := hm.below hv
    obtain ⟨ct, hct, -⟩ := h1.sq.tab.blk
    rw [← hE, ← hT]
    exact pruneC.rn g S.t (fun _ => True) p.c G p.c.gs.length m c.path c.other (opnS S) A9 n9 k9 V h1.sq.tab h1.sq.tab.ok (h1.pc.crr hgs) h9 hn (h1.pc.gs.off hct (by decide)) ha (fun _ _ => trivial))
  have HPR := Lib.hid (fun (V : World) (hv : Below W1.heap.size W1 V) => (hm.below hv).all)
  have HPG := Lib.hid (fun (V w5 : World) (hv : Below W1.heap.size W1 V) (ht : TabR w5 g T (fun _ => True)) (hg : V.grownBy w5 (some g)) => (hm.below hv).after ht hg)
  have HPX := Lib.hid (fun (V w5 : World) (hv : Below W1.heap.size W1 V) (ht : TabR w5 g T (fun _ => True)) (hg : V.grownBy w5 (some g)) (u0 u1 u2 u3 u4 u5 u6 u7 u8 u9 u10 u11 : Value) => (hm.below hv).done ht hg u0 u1 u2 u3 u4 u5 u6 u7 u8 u9 u10 u11)
  have HGL := Lib.hid (show ∀ V : World, Below W1.heap.size W1 V → g < V.heap.size from fun V hv => (hm.below hv).sq.tab.lt)
  have j0 := Lib.hid (show Below W1.heap.size W1 W1.drew from (Below.refl _ _).drew)
  clear hm h hI hn hp hd hsh hgs hE hT hK ho
  go_enter Tryz.func78, Tryz.ntmps78
  go_upto_region 1 with fail
  clear hW1 hzr
  go_region_held3 (fun V => V.cell? ⟨s, 0, none⟩ = some (.pointer (some ⟨g, 0, none⟩)) ∧ V.cell? ⟨b, o, none⟩ = some (.int .i64 p.c.u) ∧ V.cell? ⟨b, o + 1, none⟩ = some (.int .i64 p.c.g) ∧ V.cell? ⟨b, o + 2, none⟩ = some (.slice G p.c.gs.length m) ∧ V.cell? ⟨b, o + 3, none⟩ = some (.int .i64 p.um) ∧ V.cell? ⟨w.heap.size, 1, none⟩ = some (.string (bA c.path)) ∧ V.cell? ⟨w.heap.size, 2, none⟩ = some (.string (bA c.other)) ∧ V.cell? ⟨w.heap.size, 3, none⟩ = some (.int .i64 c.a) ∧ V.cell? ⟨w.heap.size, 4, none⟩ = some (.int .i64 c.b) ∧ V.cell? ⟨w.heap.size, 5, none⟩ = some vd)
    (first | (with_reducible exact HPR.out _ j0.out) | (with_reducible exact HPR.out _ j1.out) | (with_reducible exact HPG.out _ _ j1.out H5.out.1 H5.out.2) | (with_reducible exact HPX.out _ _ j1.out H5.out.1 H5.out.2 _ _ _ _ _ _ _ _ _ _ _ _))
    (first
    | (go_at_call 106; (with_reducible refine (HOP.out _ j0.out).mono ?_); rintro e1 w4 ⟨A9, n9, k9, rfl, hi9, ha9, hb9⟩; have j1 := Lib.hid (bt hb9 j0.out); have I9 := Lib.hid hi9; have O9 := Lib.hid (show Off A9 (opnS S) g from fun _ ad hA q => by have h1 := ha9 ad hA; have h2 := HGL.out _ j0.out; omega); clear hi9 ha9 hb9)
    | (go_at_call 108; (with_reducible refine (HCL.out _ j1.out A9 n9 k9 I9.out O9.out).mono ?_); rintro e2 w5 ⟨rfl, ht, hg⟩; obtain ⟨hsq, hfx, hkr, -⟩ := (HM.out.below j1.out).tabbed ht hg; have H5 := Lib.hid (And.intro ht hg); have SQ := Lib.hid hsq; have FX := Lib.hid hfx; have KR := Lib.hid hkr; obtain ⟨x0, x1, x2, x3, x4, x5, x6, x7, x8, x9, x10, x11⟩ := hkr.c12; obtain ⟨f0, f1, f2, f3, f4, f5, f6, f7, f8, f9, f10, f11⟩ := hkr.f12; obtain ⟨s0, s1, s2, s3, s4, s5, s6, s7, s8, s9, s10, s11⟩ := hkr.s12; clear ht hg hsq hfx hkr))
  all_goals (
    go_wp2
    exact bodyPost_ret (v := .agg #[.int .i64 E, .int .i64 0, .int .i64 0, .int .i64 0, .int .i64 0, .int .i64 0, .int .i64 0, .int .i64 0, .int .i64 0, .string ⟨#[]⟩, .slice none 0 0, .slice none 0 0]) (by simp [results, Tryz.results78, go_sem, s0, s1, s2, s3, s4, s5, s6, s7, s8, s9, s10, s11]) rfl (doq_e E SQ.out FX.out KR.out HM.out.lr))
end Go.Proofs.YtnkjaocmfhjnoaaGreat
namespace Go.Proofs.YtnkjaocmfhjnoaaGreat
open Go Go.RowKit
set_option maxRecDepth 100000

attribute [local go_sem] cell_off4 cell_blk4
def cE (k : Int) (F : FuncId) (b : Nat) : MapEntry := { key := .int .i64 k, val := .func (.func F) #[] #[], born := b }
def ce1 : MapEntry := cE 1 67 0
def ce2 : MapEntry := cE 2 68 1
def ce3 : MapEntry := cE 3 69 2
def ce4 : MapEntry := cE 4 70 3
def ce5 : MapEntry := cE 5 71 4
def ce6 : MapEntry := cE 6 72 5
def ce7 : MapEntry := cE 7 73 6
def ce8 : MapEntry := cE 8 74 7
def ce9 : MapEntry := cE 9 75 8
def ce10 : MapEntry := cE 10 76 9
def ce11 : MapEntry := cE 11 77 10
def ce12 : MapEntry := cE 12 78 11
def ce13 : MapEntry := cE 13 79 12
def ce14 : MapEntry := cE 14 80 13
def ce15 : MapEntry := cE 15 81 14
def ce16 : MapEntry := cE 16 82 15
def ce17 : MapEntry := cE 17 83 16
def ce18 : MapEntry := cE 18 84 17
def ces : Array MapEntry := #[ce1, ce2, ce3, ce4, ce5, ce6, ce7, ce8, ce9, ce10, ce11, ce12, ce13, ce14, ce15, ce16, ce17, ce18]
theorem updC (key : Int) (v : Value) (es : Array MapEntry) (c : Nat) (w : World) (h : Instr.findNow (.int .i64) (.int .i64 key) es.toList 0 = some none) :
    (Instr.mapUpdate 119 (.map (some w.heap.size)) (.int .i64 key) v).run Tryz.prog (w.alloc (.map es c)) = .ok () (w.alloc (.map (es.push { key := .int .i64 key, val := v, born := c }) (c + 1))) := by
  have hb : (w.alloc (.map es c)).heap[w.heap.size]? = some (.map es c) := (MapKept.heap_alloc w _).1
  have hk := MapKept.run_checkKey (P := Tryz.prog) (w := w.alloc (.map es c)) Tryz.underlying3 (k := .int .i64 key) rfl false 9999
  have hf := MapKept.run_findKey (P := Tryz.prog) (w := w.alloc (.map es c)) Tryz.underlying3 h
  simp only [Instr.mapUpdate, Sem.run_bind, run_underlying Tryz.underlying119, Result.andThen, MapKept.run_getObj_map hb, hk, hf, MapKept.run_setObj_map _ hb]
  have hp : ∀ (h : Array Obj) (x y : Obj), (h.push x).setIfInBounds h.size y = h.push y := by
    intro h x y
    apply Array.toList_inj.1
    simp
  show Result.ok () ({ w.alloc (.map es c) with heap := (w.heap.push (.map es c)).setIfInBounds w.heap.size (.map (es.push { key := .int .i64 key, val := v, born := c }) (c + 1)) } : World) = _
  rw [hp]
  rfl
theorem lookC (k : Int) (r : Option (Nat × Value)) (w : World) (bm : Nat) (hb : w.heap[bm]? = some (.map ces 18)) (hf : Instr.findNow (.int .i64) (.int .i64 k) ces.toList 0 = some r) :
    (Instr.lookup 119 (.map (some bm)) (.int .i64 k) false).run Tryz.prog w = .ok (match r with | some (_, v) => v | none => .nilFunc) w := by
  have hk := MapKept.run_checkKey (P := Tryz.prog) (w := w) Tryz.underlying3 (k := .int .i64 k) rfl false 9999
  have hf := MapKept.run_findKey (P := Tryz.prog) (w := w) Tryz.underlying3 hf
  have he : ces.isEmpty = false := rfl
  have hz : (zeroValue 118).run Tryz.prog w = .ok .nilFunc w := by kernel_rfl
  simp only [Instr.lookup, Sem.run_bind, run_underlying Tryz.underlying119, Result.andThen, MapKept.run_getObj_map hb, Sem.run_pure, he, hk, hf]
  cases r with
  | some x => rfl
  | none =>
    simp only [Sem.run_bind, hz, Result.andThen]
    rfl
set_option maxHeartbeats 4000000 in
theorem calls_any (w : World) : Calls Tryz.prog 47 #[] w fun e w' => e = .returned (.map (some w.heap.size)) ∧ w' = w.alloc (.map ces 18) := by
  have hmm := @run_makeMap Tryz.prog
  have h0 : (Instr.mapUpdate 119 (.map (some w.heap.size)) (.int .i64 1) (.func (.func 67) #[] #[])).run Tryz.prog (w.alloc (.map #[] 0)) = .ok () (w.alloc (.map #[ce1] 1)) := updC 1 (.func (.func 67) #[] #[]) #[] 0 w (by rfl)
  have h1 : (Instr.mapUpdate 119 (.map (some w.heap.size)) (.int .i64 2) (.func (.func 68) #[] #[])).run Tryz.prog (w.alloc (.map #[ce1] 1)) = .ok () (w.alloc (.map #[ce1, ce2] 2)) := updC 2 (.func (.func 68) #[] #[]) #[ce1] 1 w (by rfl)
  have h2 : (Instr.mapUpdate 119 (.map (some w.heap.size)) (.int .i64 3) (.func (.func 69) #[] #[])).run Tryz.prog (w.alloc (.map #[ce1, ce2] 2)) = .ok () (w.alloc (.map #[ce1, ce2, ce3] 3)) := updC 3 (.func (.func 69) #[] #[]) #[ce1, ce2] 2 w (by rfl)
  have h3 : (Instr.mapUpdate 119 (.map (some w.heap.size)) (.int .i64 4) (.func (.func 70) #[] #[])).run Tryz.prog (w.alloc (.map #[ce1, ce2, ce3] 3)) = .ok () (w.alloc (.map #[ce1, ce2, ce3, ce4] 4)) := updC 4 (.func (.func 70) #[] #[]) #[ce1, ce2, ce3] 3 w (by rfl)
  have h4 : (Instr.mapUpdate 119 (.map (some w.heap.size)) (.int .i64 5) (.func (.func 71) #[] #[])).run Tryz.prog (w.alloc (.map #[ce1, ce2, ce3, ce4] 4)) = .ok () (w.alloc (.map #[ce1, ce2, ce3, ce4, ce5] 5)) := updC 5 (.func (.func 71) #[] #[]) #[ce1, ce2, ce3, ce4] 4 w (by rfl)
  have h5 : (Instr.mapUpdate 119 (.map (some w.heap.size)) (.int .i64 6) (.func (.func 72) #[] #[])).run Tryz.prog (w.alloc (.map #[ce1, ce2, ce3, ce4, ce5] 5)) = .ok () (w.alloc (.map #[ce1, ce2, ce3, ce4, ce5, ce6] 6)) := updC 6 (.func (.func 72) #[] #[]) #[ce1, ce2, ce3, ce4, ce5] 5 w (by rfl)
  have h6 : (Instr.mapUpdate 119 (.map (some w.heap.size)) (.int .i64 7) (.func (.func 73) #[] #[])).run Tryz.prog (w.alloc (.map #[ce1, ce2, ce3, ce4, ce5, ce6] 6)) = .ok () (w.alloc (.map #[ce1, ce2, ce3, ce4, ce5, ce6, ce7] 7)) := updC 7 (.func (.func 73) #[] #[]) #[ce1, ce2, ce3, ce4, ce5, ce6] 6 w (by rfl)
  have h7 : (Instr.mapUpdate 119 (.map (some w.heap.size)) (.int .i64 8) (.func (.func 74) #[] #[])).run Tryz.prog (w.alloc (.map #[ce1, ce2, ce3, ce4, ce5, ce6, ce7] 7)) = .ok () (w.alloc (.map #[ce1, ce2, ce3, ce4, ce5, ce6, ce7, ce8] 8)) := updC 8 (.func (.func 74) #[] #[]) #[ce1, ce2, ce3, ce4, ce5, ce6, ce7] 7 w (by rfl)
  have h8 : (Instr.mapUpdate 119 (.map (some w.heap.size)) (.int .i64 9) (.func (.func 75) #[] #[])).run Tryz.prog (w.alloc (.map #[ce1, ce2, ce3, ce4, ce5, ce6, ce7, ce8] 8)) = .ok () (w.alloc (.map #[ce1, ce2, ce3, ce4, ce5, ce6, ce7, ce8, ce9] 9)) := updC 9 (.func (.func 75) #[] #[]) #[ce1, ce2, ce3, ce4, ce5, ce6, ce7, ce8] 8 w (by rfl)
  have h9 : (Instr.mapUpdate 119 (.map (some w.heap.size)) (.int .i64 10) (.func (.func 76) #[] #[])).run Tryz.prog (w.alloc (.map #[ce1, ce2, ce3, ce4, ce5, ce6, ce7, ce8, ce9] 9)) = .ok () (w.alloc (.map #[ce1, ce2, ce3, ce4, ce5, ce6, ce7, ce8, ce9, ce10] 10)) := updC 10 (.func (.func 76) #[] #[]) #[ce1, ce2, ce3, ce4, ce5, ce6, ce7, ce8, ce9] 9 w (by rfl)
  have h10 : (Instr.mapUpdate 119 (.map (some w.heap.size)) (.int .i64 11) (.func (.func 77) #[] #[])).run Tryz.prog (w.alloc (.map #[ce1, ce2, ce3, ce4, ce5, ce6, ce7, ce8, ce9, ce10] 10)) = .ok () (w.alloc (.map #[ce1, ce2, ce3, ce4, ce5, ce6, ce7, ce8, ce9, ce10, ce11] 11)) := updC 11 (.func (.func 77) #[] #[]) #[ce1, ce2, ce3, ce4, ce5, ce6, ce7, ce8, ce9, ce10] 10 w (by rfl)
  have h11 : (Instr.mapUpdate 119 (.map (some w.heap.size)) (.int .i64 12) (.func (.func 78) #[] #[])).run Tryz.prog (w.alloc (.map #[ce1, ce2, ce3, ce4, ce5, ce6, ce7, ce8, ce9, ce10, ce11] 11)) = .ok () (w.alloc (.map #[ce1, ce2, ce3, ce4, ce5, ce6, ce7, ce8, ce9, ce10, ce11, ce12] 12)) := updC 12 (.func (.func 78) #[] #[]) #[ce1, ce2, ce3, ce4, ce5, ce6, ce7, ce8, ce9, ce10, ce11] 11 w (by rfl)
  have h12 : (Instr.mapUpdate 119 (.map (some w.heap.size)) (.int .i64 13) (.func (.func 79) #[] #[])).run Tryz.prog (w.alloc (.map #[ce1, ce2, ce3, ce4, ce5, ce6, ce7, ce8, ce9, ce10, ce11, ce12] 12)) = .ok () (w.alloc (.map #[ce1, ce2, ce3, ce4, ce5, ce6, ce7, ce8, ce9, ce10, ce11, ce12, ce13] 13)) := updC 13 (.func (.func 79) #[] #[]) #[ce1, ce2, ce3, ce4, ce5, ce6, ce7, ce8, ce9, ce10, ce11, ce12] 12 w (by rfl)
  have h13 : (Instr.mapUpdate 119 (.map (some w.heap.size)) (.int .i64 14) (.func (.func 80) #[] #[])).run Tryz.prog (w.alloc (.map #[ce1, ce2, ce3, ce4, ce5, ce6, ce7, ce8, ce9, ce10, ce11, ce12, ce13] 13)) = .ok () (w.alloc (.map #[ce1, ce2, ce3, ce4, ce5, ce6, ce7, ce8, ce9, ce10, ce11, ce12, ce13, ce14] 14)) := updC 14 (.func (.func 80) #[] #[]) #[ce1, ce2, ce3, ce4, ce5, ce6, ce7, ce8, ce9, ce10, ce11, ce12, ce13] 13 w (by rfl)
  have h14 : (Instr.mapUpdate 119 (.map (some w.heap.size)) (.int .i64 15) (.func (.func 81) #[] #[])).run Tryz.prog (w.alloc (.map #[ce1, ce2, ce3, ce4, ce5, ce6, ce7, ce8, ce9, ce10, ce11, ce12, ce13, ce14] 14)) = .ok () (w.alloc (.map #[ce1, ce2, ce3, ce4, ce5, ce6, ce7, ce8, ce9, ce10, ce11, ce12, ce13, ce14, ce15] 15)) := updC 15 (.func (.func 81) #[] #[]) #[ce1, ce2, ce3, ce4, ce5, ce6, ce7, ce8, ce9, ce10, ce11, ce12, ce13, ce14] 14 w (by rfl)
  have h15 : (Instr.mapUpdate 119 (.map (some w.heap.size)) (.int .i64 16) (.func (.func 82) #[] #[])).run Tryz.prog (w.alloc (.map #[ce1, ce2, ce3, ce4, ce5, ce6, ce7, ce8, ce9, ce10, ce11, ce12, ce13, ce14, ce15] 15)) = .ok () (w.alloc (.map #[ce1, ce2, ce3, ce4, ce5, ce6, ce7, ce8, ce9, ce10, ce11, ce12, ce13, ce14, ce15, ce16] 16)) := updC 16 (.func (.func 82) #[] #[]) #[ce1, ce2, ce3, ce4, ce5, ce6, ce7, ce8, ce9, ce10, ce11, ce12, ce13, ce14, ce15] 15 w (by rfl)
  have h16 : (Instr.mapUpdate 119 (.map (some w.heap.size)) (.int .i64 17) (.func (.func 83) #[] #[])).run Tryz.prog (w.alloc (.map #[ce1, ce2, ce3, ce4, ce5, ce6, ce7, ce8, ce9, ce10, ce11, ce12, ce13, ce14, ce15, ce16] 16)) = .ok () (w.alloc (.map #[ce1, ce2, ce3, ce4, ce5, ce6, ce7, ce8, ce9, ce10, ce11, ce12, ce13, ce14, ce15, ce16, ce17] 17)) := updC 17 (.func (.func 83) #[] #[]) #[ce1, ce2, ce3, ce4, ce5, ce6, ce7, ce8, ce9, ce10, ce11, ce12, ce13, ce14, ce15, ce16] 16 w (by rfl)
  have h17 : (Instr.mapUpdate 119 (.map (some w.heap.size)) (.int .i64 18) (.func (.func 84) #[] #[])).run Tryz.prog (w.alloc (.map #[ce1, ce2, ce3, ce4, ce5, ce6, ce7, ce8, ce9, ce10, ce11, ce12, ce13, ce14, ce15, ce16, ce17] 17)) = .ok () (w.alloc (.map #[ce1, ce2, ce3, ce4, ce5, ce6, ce7, ce8, ce9, ce10, ce11, ce12, ce13, ce14, ce15, ce16, ce17, ce18] 18)) := updC 18 (.func (.func 84) #[] #[]) #[ce1, ce2, ce3, ce4, ce5, ce6, ce7, ce8, ce9, ce10, ce11, ce12, ce13, ce14, ce15, ce16, ce17] 17 w (by rfl)
  go_enter Tryz.func47, Tryz.ntmps47
  go_wp2
  go_ret
  exact ⟨rfl, rfl⟩
theorem eqF_f (F : FuncId) (W : World) : (Go.binOp .eql 118 (.func (.func F) #[] #[]) .nilFunc).run Tryz.prog W = .ok (.bool false) W := by
  first | rfl | kernel_rfl
theorem eqF_n (W : World) : (Go.binOp .eql 118 .nilFunc .nilFunc).run Tryz.prog W = .ok (.bool true) W := by
  first | rfl | kernel_rfl
set_option maxHeartbeats 4000000 in
theorem do_err (s : Nat) (pid : Int) (c : Cal) (vd pv fv : Value) (w : World) (hpc : ∀ V, Below w.heap.size w V → Calls Tryz.prog 46 #[.pointer (some ⟨s, 0, none⟩), .int .i64 pid] V fun e w' => e = .returned pv ∧ V = w') (hlk : ∀ (V : World) (bm : Nat), V.heap[bm]? = some (.map ces 18) → (Instr.lookup 119 (.map (some bm)) (.int .i64 c.kind) false).run Tryz.prog V = .ok fv V) (hbad : pv = .pointer none ∨ (∃ ad, pv = .pointer (some ad)) ∧ fv = .nilFunc) :
    Calls Tryz.prog 18 #[.pointer (some ⟨s, 0, none⟩), .int .i64 pid, .agg (calC c vd)] w fun e w' => e = .returned (.agg (resC (Rsm.e 22) (.slice none 0 0) (.slice none 0 0))) ∧ Below w.heap.size w w' := by
  obtain ⟨W1, hW1⟩ : ∃ W, (w.alloc (.cells (calC c vd) 51)).alloc (.cells resZ 57) = W := ⟨_, rfl⟩
  have hb1 : Below w.heap.size w W1 := by rw [← hW1]; exact al (ba _ _) _
  have hkc : Blk W1 w.heap.size 51 (calC c vd) := by rw [← hW1]; exact (Blk.new _ _ _).alloc _
  have hkr : Blk W1 (w.heap.size + 1) 57 resZ := by
    have h1 := Blk.new (w.alloc (.cells (calC c vd) 51)) 57 resZ
    rw [← hW1]
    simpa using h1
  obtain ⟨zr, hzr⟩ : ∃ z, w.heap.size + 1 = z := ⟨_, rfl⟩
  have hlr : w.heap.size ≤ zr := by omega
  rw [hzr] at hkr
  have HB1 := Lib.hid hb1
  have HKC := Lib.hid hkc
  have HKR := Lib.hid hkr
  have HLR := Lib.hid hlr
  have HPC := Lib.hid (fun (V : World) (hv : Below W1.heap.size W1 V) => hpc V (bt hv hb1))
  have HLK := Lib.hid hlk
  have HBD := Lib.hid hbad
  clear hpc hlk hbad hb1 hkr hlr
  have HCS := Lib.hid (fun (V : World) => calls_any V)
  have HPR := Lib.hid (fun (V : World) (hv : Below W1.heap.size W1 V) => show V.cell? ⟨w.heap.size, 0, none⟩ = some (.int .i64 c.kind) from (hkc.below hv).cell 0)
  have j0 := Lib.hid (show Below W1.heap.size W1 W1.drew from (Below.refl _ _).drew)
  go_enter Tryz.func18, Tryz.ntmps18
  go_upto_region 1 with fail
  clear hW1 hzr
  go_cut [7, 8] (fun s7 s8 wx => s7 = pv ∧ s8 = fv ∧ Below W1.heap.size W1 wx)
  case first =>
    go_region_held3 (fun V => V.cell? ⟨w.heap.size, 0, none⟩ = some (.int .i64 c.kind))
      (first | (with_reducible exact HPR.out _ j0.out) | (with_reducible exact HPR.out _ j1.out))
      (first
      | (go_at_call 46; (with_reducible refine (HPC.out _ j1.out).mono ?_); rintro e1 w3 ⟨rfl, rfl⟩)
      | (go_at_call 46; (with_reducible refine (HPC.out _ j0.out).mono ?_); rintro e1 w3 ⟨rfl, rfl⟩)
      | (go_at_call 47; (with_reducible refine (HCS.out _).mono ?_); rintro e2 w4 ⟨rfl, hw4⟩; obtain ⟨bm, hbm⟩ : ∃ bm, W1.drew.heap.size = bm := ⟨_, rfl⟩; rw [hbm]; have j1 := Lib.hid (show Below W1.heap.size W1 w4 from by rw [hw4]; exact al j0.out _); have hl9 := HLK.out w4 bm (by rw [hw4, ← hbm]; exact (MapKept.heap_alloc _ _).1); clear hw4 hbm))
    all_goals (
      go_wp2
      go_meet
      exact ⟨rfl, rfl, j1.out⟩)
  case rest =>
  obtain ⟨rfl, rfl, hbx⟩ := hcut
  obtain ⟨w5, hw5⟩ : ∃ W, wc = W := ⟨_, rfl⟩
  rw [hw5] at hbx ⊢
  clear hw5 HPC HLK HCS HPR j0
  have HBX := Lib.hid (bt hbx HB1.out)
  have HK5 := Lib.hid (HKR.out.below hbx)
  clear hbx hkc
  obtain ⟨x0, x1, x2, x3, x4, x5, x6, x7, x8, x9, x10, x11⟩ := HK5.out.c12
  obtain ⟨f0, f1, f2, f3, f4, f5, f6, f7, f8, f9, f10, f11⟩ := HK5.out.f12
  obtain ⟨s0, s1, s2, s3, s4, s5, s6, s7, s8, s9, s10, s11⟩ := HK5.out.s12
  have HE := Lib.hid (below_grown HBX.out (grown12 w5 zr (.int .i64 22) (.int .i64 0) (.int .i64 0) (.int .i64 0) (.int .i64 0) (.int .i64 0) (.int .i64 0) (.int .i64 0) (.int .i64 0) (.string ⟨#[]⟩) (.slice none 0 0) (.slice none 0 0)) HLR.out)
  have hq := eqF_n
  rcases HBD.out with q | ⟨⟨ad, q⟩, q2⟩
  · subst q
    go_wp2
    exact bodyPost_ret (v := .agg #[.int .i64 22, .int .i64 0, .int .i64 0, .int .i64 0, .int .i64 0, .int .i64 0, .int .i64 0, .int .i64 0, .int .i64 0, .string ⟨#[]⟩, .slice none 0 0, .slice none 0 0]) (by simp [results, Tryz.results18, go_sem, s0, s1, s2, s3, s4, s5, s6, s7, s8, s9, s10, s11]) rfl ⟨rfl, HE.out⟩
  · subst q
    subst q2
    go_wp2
    exact bodyPost_ret (v := .agg #[.int .i64 22, .int .i64 0, .int .i64 0, .int .i64 0, .int .i64 0, .int .i64 0, .int .i64 0, .int .i64 0, .int .i64 0, .string ⟨#[]⟩, .slice none 0 0, .slice none 0 0]) (by simp [results, Tryz.results18, go_sem, s0, s1, s2, s3, s4, s5, s6, s7, s8, s9, s10, s11]) rfl ⟨rfl, HE.out⟩
set_option maxHeartbeats 4000000 in
theorem do_call (F : FuncId) (k : Nat) (hM : MtC F k) (hcf : ∀ (args : Array Value) (W : World), (callFunc F args).run Tryz.prog W = .ok (.enter F args) W) (s g b cp i : Nat) (S : Sym) (p : Prm) (c : Cal) (vd : Value) (w : World) (h : Sq w s g b cp S) (hI : Inv S) (hn : (opnS S).length ≤ 1000) (hp : S.p[i]? = some p) (hd : BytesR w vd c.data) (hsh : shortC c) (hlk : ∀ (V : World) (bm : Nat), V.heap[bm]? = some (.map ces 18) → (Instr.lookup 119 (.map (some bm)) (.int .i64 c.kind) false).run Tryz.prog V = .ok (.func (.func F) #[] #[]) V) :
    Calls Tryz.prog 18 #[.pointer (some ⟨s, 0, none⟩), .int .i64 i, .agg (calC c vd)] w (DoQ w s g b cp (doK k S i p c)) := by
  obtain ⟨W1, hW1⟩ : ∃ W, (w.alloc (.cells (calC c vd) 51)).alloc (.cells resZ 57) = W := ⟨_, rfl⟩
  have hb1 : Below w.heap.size w W1 := by rw [← hW1]; exact al (ba _ _) _
  have hkc : Blk W1 w.heap.size 51 (calC c vd) := by rw [← hW1]; exact (Blk.new _ _ _).alloc _
  have hkr : Blk W1 (w.heap.size + 1) 57 resZ := by
    have h1 := Blk.new (w.alloc (.cells (calC c vd) 51)) 57 resZ
    rw [← hW1]
    simpa using h1
  obtain ⟨zr, hzr⟩ : ∃ z, w.heap.size + 1 = z := ⟨_, rfl⟩
  have hlr : w.heap.size ≤ zr := by omega
  rw [hzr] at hkr
  have HB1 := Lib.hid hb1
  have HKC := Lib.hid hkc
  have HKR := Lib.hid hkr
  have HLR := Lib.hid hlr
  have hil := (List.getElem?_eq_some_iff.1 hp).1
  have HPC := Lib.hid (fun (V : World) (hv : Below W1.heap.size W1 V) => proc_some s S.p.length cp b i _ V (h.below (bt hv hb1)).blk hil)
  have HLK := Lib.hid hlk
  have HCL := Lib.hid (fun (V : World) (hv : Below W1.heap.size W1 V) => hM s g b cp i S p c vd V (h.below (bt hv hb1)) hI hn hp (hd.below (bt hv hb1)) hsh)
  obtain ⟨X, hX⟩ : ∃ X, doK k S i p c = X := ⟨_, rfl⟩
  rw [hX] at HCL ⊢
  obtain ⟨pv, hpv⟩ : ∃ pv, Value.pointer (some ⟨b, i * 16, none⟩) = pv := ⟨_, rfl⟩
  obtain ⟨fv, hfv⟩ : ∃ fv, Value.func (.func F) #[] #[] = fv := ⟨_, rfl⟩
  rw [hpv] at HPC
  rw [hfv] at HLK
  have HPV := Lib.hid hpv
  have HFV := Lib.hid hfv
  have HS := Lib.hid h
  clear hlk hb1 hkr hlr hM h hI hn hp hd hsh hX hil hpv hfv
  have HCS := Lib.hid (fun (V : World) => calls_any V)
  have HPR := Lib.hid (fun (V : World) (hv : Below W1.heap.size W1 V) => show V.cell? ⟨w.heap.size, 0, none⟩ = some (.int .i64 c.kind) from (hkc.below hv).cell 0)
  have j0 := Lib.hid (show Below W1.heap.size W1 W1.drew from (Below.refl _ _).drew)
  go_enter Tryz.func18, Tryz.ntmps18
  go_upto_region 1 with fail
  clear hW1 hzr
  go_cut [7, 8] (fun s7 s8 wx => s7 = pv ∧ s8 = fv ∧ Below W1.heap.size W1 wx)
  case first =>
    go_region_held3 (fun V => V.cell? ⟨w.heap.size, 0, none⟩ = some (.int .i64 c.kind))
      (first | (with_reducible exact HPR.out _ j0.out) | (with_reducible exact HPR.out _ j1.out))
      (first
      | (go_at_call 46; (with_reducible refine (HPC.out _ j1.out).mono ?_); rintro e1 w3 ⟨rfl, rfl⟩)
      | (go_at_call 46; (with_reducible refine (HPC.out _ j0.out).mono ?_); rintro e1 w3 ⟨rfl, rfl⟩)
      | (go_at_call 47; (with_reducible refine (HCS.out _).mono ?_); rintro e2 w4 ⟨rfl, hw4⟩; obtain ⟨bm, hbm⟩ : ∃ bm, W1.drew.heap.size = bm := ⟨_, rfl⟩; rw [hbm]; have j1 := Lib.hid (show Below W1.heap.size W1 w4 from by rw [hw4]; exact al j0.out _); have hl9 := HLK.out w4 bm (by rw [hw4, ← hbm]; exact (MapKept.heap_alloc _ _).1); clear hw4 hbm))
    all_goals (
      go_wp2
      go_meet
      exact ⟨rfl, rfl, j1.out⟩)
  case rest =>
  obtain ⟨rfl, rfl, hbx⟩ := hcut
  obtain ⟨w5, hw5⟩ : ∃ W, wc = W := ⟨_, rfl⟩
  rw [hw5] at hbx ⊢
  clear hw5 HPC HLK HCS HPR j0
  have HBX := Lib.hid (bt hbx HB1.out)
  have HK5 := Lib.hid (HKR.out.below hbx)
  have HC5 := Lib.hid (HCL.out w5 hbx)
  obtain ⟨k0, k1, k2, k3, k4, k5⟩ : w5.cell? ⟨w.heap.size, 0, none⟩ = some (.int .i64 c.kind) ∧ w5.cell? ⟨w.heap.size, 1, none⟩ = some (.string (bA c.path)) ∧ w5.cell? ⟨w.heap.size, 2, none⟩ = some (.string (bA c.other)) ∧ w5.cell? ⟨w.heap.size, 3, none⟩ = some (.int .i64 c.a) ∧ w5.cell? ⟨w.heap.size, 4, none⟩ = some (.int .i64 c.b) ∧ w5.cell? ⟨w.heap.size, 5, none⟩ = some vd := ⟨(hkc.below hbx).cell 0, (hkc.below hbx).cell 1, (hkc.below hbx).cell 2, (hkc.below hbx).cell 3, (hkc.below hbx).cell 4, (hkc.below hbx).cell 5⟩
  have hq := eqF_f F
  have hp5 := HPV.out
  have hf5 := HFV.out
  subst hp5
  subst hf5
  have HNZ := Lib.hid (show ¬ zr ∈ [g, b] from by
    have h5 := HS.out.below HBX.out
    obtain ⟨ct, hct, -⟩ := h5.tab.blk
    obtain ⟨cs, hkb, -⟩ := h5.row
    intro q
    rcases List.mem_cons.1 q with q | q
    · exact blk_ne HK5.out hct (by decide) q
    · exact blk_ne HK5.out hkb (by decide) (List.mem_singleton.1 q))
  clear hbx hkc HCL
  go_wp2_with fail
  refine HC5.out.mono ?_
  rintro e w6 ⟨A1, n1, c1, A2, n2, c2, rfl, hr6, hs6, hf6⟩
  have HR6 := Lib.hid hr6
  have HS6 := Lib.hid hs6
  have HF6 := Lib.hid ((Fix.of_below HBX.out : Fix [g, b] _ _).trans hf6)
  have HK6 := Lib.hid (hf6.blk HK5.out HNZ.out)
  clear hr6 hs6 hf6 k0 k1 k2 k3 k4 k5
  obtain ⟨x0, x1, x2, x3, x4, x5, x6, x7, x8, x9, x10, x11⟩ := HK6.out.c12
  obtain ⟨f0, f1, f2, f3, f4, f5, f6, f7, f8, f9, f10, f11⟩ := HK6.out.f12
  obtain ⟨s0, s1, s2, s3, s4, s5, s6, s7, s8, s9, s10, s11⟩ := HK6.out.s12
  go_wp2
  exact bodyPost_ret (v := .agg #[.int .i64 X.2.err, .int .i64 X.2.n, .int .i64 X.2.stat.node, .int .i64 X.2.stat.kind, .int .i64 X.2.stat.mode, .int .i64 X.2.stat.uid, .int .i64 X.2.stat.gid, .int .i64 X.2.stat.links, .int .i64 X.2.stat.size, .string (bA X.2.text), .slice A1 n1 c1, .slice A2 n2 c2]) (by simp [results, Tryz.results18, go_sem, s0, s1, s2, s3, s4, s5, s6, s7, s8, s9, s10, s11]) rfl (doq_fin (S' := X.1) (r := X.2) HS6.out HF6.out HK6.out HLR.out HR6.out)
end Go.Proofs.YtnkjaocmfhjnoaaGreat
