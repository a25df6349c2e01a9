/-
  Package prune's Unlink, Rmdir and Rename: what they answer. The conditions are said at each.
-/
import Derived.Test.YtkmkfolpjlkfoaaGreatM17
namespace Go.Proofs.YtkmkfolpjlkfoaaGreat
open Go Go.RowKit
set_option maxRecDepth 100000

attribute [local go_sem] cell_off4 cell_blk4
theorem qres_nil (c : Wh) (p : Nm) (f : Bool) : (resM [] c p f).2 ≠ 0 := fun q => by
  have e : fitE [] p ≠ 0 := fun z => by
    have h1 := (fit_why.1 z).2.2.2
    rw [show tis [] 1 = false from by unfold tis; rw [tget_out (by simp)]; rfl] at h1
    cases h1
  unfold resM at q
  rw [if_pos e] at q
  exact e q
theorem qfn_nil (c : Wh) (p : Nm) : fnE [] c (resM [] c p false) ≠ 0 := fun q => qres_nil c p false (fn_zero.1 q).1
theorem qfn_fo {t : List Nd} {c : Wh} {R : Fo × Int} (h : fnE t c R = 0) : fnF t c R = R.1 := if_pos h
theorem qfp_fo {t : List Nd} {c : Wh} {R : Fo × Int} (h : fpE t c R = 0) : fpF t c R = R.1 := if_pos h
structure MvS (t : List Nd) (F G : Fo) : Prop where
  k1 : (tget t F.dir).kind = 2
  m1 : F.name ∈ nmE (tget t F.dir).ents
  two : G.node ≠ 0 → (tget (cutT t F.dir F.name) G.dir).kind = 2 ∧ G.name ∈ nmE (tget (cutT t F.dir F.name) G.dir).ents
  one : G.node = 0 → outE (tget (cutT t F.dir F.name) G.dir) G.name ≠ 0
  w : withE (tget (mv2 t F.dir F.name G.dir G.name G.node) G.dir) G.name F.node = 0
  len : G.name.length ≤ 1000
theorem mv_steps {t : List Nd} (h : okT t) {c : Wh} {p q : Nm} (hz : mvE t c (resM t c p false) (resM t c q false) = 0) (hne : (resM t c q false).1.node ≠ (resM t c p false).1.node) : MvS t (resM t c p false).1 (resM t c q false).1 := by
  obtain ⟨h1, h2, h3⟩ := mv_zero hz
  obtain ⟨E, hi⟩ := fn_ent h h1
  obtain ⟨y1, -, -, y4, -⟩ := mvY_zero h3 hne
  have G := res_ent h h2 y1
  have hw := (mv3_is h E.kind E.found hi G.kind G.found hne G.nam y4).2
  generalize (resM t c p false).1 = F at E hi hne hw ⊢
  generalize (resM t c q false).1 = K at G hne hw ⊢
  have c1 := cut_is h E.kind E.found hi
  have hp : ¬ (K.dir = F.dir ∧ K.name = F.name) := fun z => hne (by rw [← G.found, ← E.found, z.1, z.2])
  have hf : fnd (tget (cutT t F.dir F.name) K.dir).ents K.name = K.node := by rw [cut_fnd h c1, if_neg hp]; exact G.found
  have hk : (tget (cutT t F.dir F.name) K.dir).kind = 2 := by rw [kind_noE (c1.head K.dir)]; exact G.kind
  refine ⟨E.kind, fnd_mem (by rw [E.found]; exact hi), fun z => ⟨hk, fnd_mem (by rw [hf]; exact z)⟩, fun z => ?_, hw, by have h5 := (nok_nok G.nam).len; omega⟩
  unfold outE
  rw [if_neg (fun r => r hk), if_neg (fun r => ?_)]
  · decide
  · obtain ⟨e, he, -, h3⟩ := fnd_some r
    have := ok_pos c1.ok he
    omega
theorem qtake_two (g : Nat) (t : List Nd) (P : Nat → Prop) (F K : Fo) (w : World) (h : TabR w g (cutT t F.dir F.name) P) (s : MvS t F K) (hP : ∀ b, w.heap.size ≤ b → P b) :
    Calls Tryz.prog 166 #[.pointer (some ⟨g, 0, none⟩), .agg #[.int .i64 K.dir, .string (bA K.name), .int .i64 K.node]] w fun e w' => e = .returned (.tuple #[]) ∧ TabR w' g (mv2 t F.dir F.name K.dir K.name K.node) P ∧ w.grownBy w' (some g) := by
  by_cases hk : K.node = 0
  · have e : mv2 t F.dir F.name K.dir K.name K.node = cutT t F.dir F.name := if_neg (fun q => q hk)
    rw [e]
    exact qtake_no g _ P K w h (s.one hk)
  · have e : mv2 t F.dir F.name K.dir K.name K.node = cutT (cutT t F.dir F.name) K.dir K.name := if_pos hk
    rw [e]
    exact qtake_yes g _ P K w h (s.two hk).1 (s.two hk).2 hP
set_option maxHeartbeats 8000000 in
theorem qul_err (v : Value) (t : List Nd) (c : Wh) (A0 : Option Addr) (m k : Nat) (p : Nm) (A1 : Option Addr) (n1 k1 : Nat) (w : World) (h : TabP w v t) (hc : CrR w c A0 m k) (hz : fnE t c (resM t c p false) ≠ 0) :
    Calls Tryz.prog 114 #[v, .agg #[.int .i64 c.u, .int .i64 c.g, .slice A0 m k], .string (bA p), .slice A1 n1 k1] w fun e w' => e = .returned (.int .i64 (fnE t c (resM t c p false))) ∧ Below w.heap.size w w' := by
  have hb1 := ba w (.cells #[.int .i64 c.u, .int .i64 c.g, .slice A0 m k] 35)
  have h11 := Blk.new w 35 #[.int .i64 c.u, .int .i64 c.g, .slice A0 m k]
  obtain ⟨W1, hW1⟩ : ∃ W, w.alloc (.cells #[.int .i64 c.u, .int .i64 c.g, .slice A0 m k] 35) = W := ⟨_, rfl⟩
  rw [hW1] at hb1 h11
  obtain ⟨R, hR⟩ : ∃ R, resM t c p false = R := ⟨_, rfl⟩
  obtain ⟨F, E⟩ := R
  rw [hR] at hz ⊢
  have HFD := Lib.hid (qfind_any v t c A0 m k p W1 (h.below hb1) (hc.below hb1) F E hR)
  obtain ⟨X, hX⟩ : ∃ X, fnE t c (F, E) = X := ⟨_, rfl⟩
  obtain ⟨Y, hY⟩ : ∃ Y, fnF t c (F, E) = Y := ⟨_, rfl⟩
  rw [hX, hY] at HFD
  rw [hX] at hz ⊢
  have y0 : (X != 0) = true := by simpa using hz
  have HB1 := Lib.hid hb1
  obtain ⟨k0, k1', k2'⟩ := h11.c3
  clear h hc hz hR hX hY hb1 h11
  go_enter Tryz.func114, Tryz.ntmps114
  go_wp2_with fail
  clear hW1
  refine HFD.out.mono ?_
  rintro e w3 ⟨rfl, hb⟩
  have HB3 := Lib.hid (bt (al hb (.cells #[.int .i64 Y.dir, .string (bA Y.name), .int .i64 Y.node] 223)) HB1.out)
  clear hb k0 k1' k2' HFD
  go_wp2
  go_ret
  exact ⟨rfl, HB3.out⟩
set_option maxHeartbeats 8000000 in
theorem qrd_err (v : Value) (t : List Nd) (c : Wh) (A0 : Option Addr) (m k : Nat) (p : Nm) (w : World) (h : TabP w v t) (hc : CrR w c A0 m k) (hz : fnE t c (resM t c p false) ≠ 0) :
    Calls Tryz.prog 115 #[v, .agg #[.int .i64 c.u, .int .i64 c.g, .slice A0 m k], .string (bA p)] w fun e w' => e = .returned (.int .i64 (fnE t c (resM t c p false))) ∧ Below w.heap.size w w' := by
  have hb1 := ba w (.cells #[.int .i64 c.u, .int .i64 c.g, .slice A0 m k] 35)
  have h11 := Blk.new w 35 #[.int .i64 c.u, .int .i64 c.g, .slice A0 m k]
  obtain ⟨W1, hW1⟩ : ∃ W, w.alloc (.cells #[.int .i64 c.u, .int .i64 c.g, .slice A0 m k] 35) = W := ⟨_, rfl⟩
  rw [hW1] at hb1 h11
  obtain ⟨R, hR⟩ : ∃ R, resM t c p false = R := ⟨_, rfl⟩
  obtain ⟨F, E⟩ := R
  rw [hR] at hz ⊢
  have HFD := Lib.hid (qfind_any v t c A0 m k p W1 (h.below hb1) (hc.below hb1) F E hR)
  obtain ⟨X, hX⟩ : ∃ X, fnE t c (F, E) = X := ⟨_, rfl⟩
  obtain ⟨Y, hY⟩ : ∃ Y, fnF t c (F, E) = Y := ⟨_, rfl⟩
  rw [hX, hY] at HFD
  rw [hX] at hz ⊢
  have y0 : (X != 0) = true := by simpa using hz
  have HB1 := Lib.hid hb1
  obtain ⟨k0, k1', k2'⟩ := h11.c3
  clear h hc hz hR hX hY hb1 h11
  go_enter Tryz.func115, Tryz.ntmps115
  go_wp2_with fail
  clear hW1
  refine HFD.out.mono ?_
  rintro e w3 ⟨rfl, hb⟩
  have HB3 := Lib.hid (bt (al hb (.cells #[.int .i64 Y.dir, .string (bA Y.name), .int .i64 Y.node] 223)) HB1.out)
  clear hb k0 k1' k2' HFD
  go_wp2
  go_ret
  exact ⟨rfl, HB3.out⟩
set_option maxHeartbeats 8000000 in
theorem qmv_err (v : Value) (t : List Nd) (c : Wh) (A0 : Option Addr) (m k : Nat) (p q : Nm) (A1 : Option Addr) (n1 k1 : Nat) (w : World) (h : TabP w v t) (hc : CrR w c A0 m k) (hz : fnE t c (resM t c p false) ≠ 0) :
    Calls Tryz.prog 116 #[v, .agg #[.int .i64 c.u, .int .i64 c.g, .slice A0 m k], .string (bA p), .string (bA q), .slice A1 n1 k1] w fun e w' => e = .returned (.int .i64 (fnE t c (resM t c p false))) ∧ Below w.heap.size w w' := by
  have hb1 := ba w (.cells #[.int .i64 c.u, .int .i64 c.g, .slice A0 m k] 35)
  have h11 := Blk.new w 35 #[.int .i64 c.u, .int .i64 c.g, .slice A0 m k]
  obtain ⟨W1, hW1⟩ : ∃ W, w.alloc (.cells #[.int .i64 c.u, .int .i64 c.g, .slice A0 m k] 35) = W := ⟨_, rfl⟩
  rw [hW1] at hb1 h11
  obtain ⟨R, hR⟩ : ∃ R, resM t c p false = R := ⟨_, rfl⟩
  obtain ⟨F, E⟩ := R
  rw [hR] at hz ⊢
  have HFD := Lib.hid (qfind_any v t c A0 m k p W1 (h.below hb1) (hc.below hb1) F E hR)
  obtain ⟨X, hX⟩ : ∃ X, fnE t c (F, E) = X := ⟨_, rfl⟩
  obtain ⟨Y, hY⟩ : ∃ Y, fnF t c (F, E) = Y := ⟨_, rfl⟩
  rw [hX, hY] at HFD
  rw [hX] at hz ⊢
  have y0 : (X != 0) = true := by simpa using hz
  have HB1 := Lib.hid hb1
  obtain ⟨k0, k1', k2'⟩ := h11.c3
  clear h hc hz hR hX hY hb1 h11
  go_enter Tryz.func116, Tryz.ntmps116
  go_wp2_with fail
  clear hW1
  refine HFD.out.mono ?_
  rintro e w3 ⟨rfl, hb⟩
  have HB3 := Lib.hid (bt (al hb (.cells #[.int .i64 Y.dir, .string (bA Y.name), .int .i64 Y.node] 223)) HB1.out)
  clear hb k0 k1' k2' HFD
  go_wp2
  go_ret
  exact ⟨rfl, HB3.out⟩
set_option maxHeartbeats 16000000 in
theorem qul_go (g : Nat) (t : List Nd) (P : Nat → Prop) (c : Wh) (A0 : Option Addr) (m k : Nat) (p : Nm) (op : List Int) (A1 : Option Addr) (n1 k1 : Nat) (w : World) (h : TabR w g t P) (hc : CrR w c A0 m k) (hop : IntsR w (.slice A1 n1 k1) op) (hol : op.length ≤ 1000) (ho1 : Off A1 op g) (hP : ∀ b, w.heap.size ≤ b → P b) (F : Fo) (E : Int) (hR : resM t c p false = (F, E)) (hz : fnE t c (F, E) = 0) (hen : Ent t F ∧ F.node ≠ 0) :
    Calls Tryz.prog 114 #[.pointer (some ⟨g, 0, none⟩), .agg #[.int .i64 c.u, .int .i64 c.g, .slice A0 m k], .string (bA p), .slice A1 n1 k1] w fun e w' => e = .returned (.int .i64 (ulE t c (F, E))) ∧ TabR w' g (ulT t c (F, E) op) P ∧ w.grownBy w' (some g) := by
  obtain ⟨X, hXX⟩ : ∃ X, ulE t c (F, E) = X := ⟨_, rfl⟩
  obtain ⟨T2, hT2⟩ : ∃ T, ulT t c (F, E) op = T := ⟨_, rfl⟩
  have hX : X = if (tget t F.node).kind = 2 then 21 else 0 := by rw [← hXX]; unfold ulE; rw [if_neg (fun q => q hz)]
  have hT : T2 = if X = 0 then frT (cutT t F.dir F.name) F.node op else t := by rw [← hT2, ← hXX]; rfl
  rw [hXX, hT2]
  have hgw := h.lt
  have hb1 := ba w (.cells #[.int .i64 c.u, .int .i64 c.g, .slice A0 m k] 35)
  have h11 := Blk.new w 35 #[.int .i64 c.u, .int .i64 c.g, .slice A0 m k]
  obtain ⟨W1, hW1⟩ : ∃ W, w.alloc (.cells #[.int .i64 c.u, .int .i64 c.g, .slice A0 m k] 35) = W := ⟨_, rfl⟩
  rw [hW1] at hb1 h11
  have HFD := Lib.hid (qfind_any (.pointer (some ⟨g, 0, none⟩)) t c A0 m k p W1 (h.below hb1).ptr (hc.below hb1) F E hR)
  rw [qfn_fo hz, hz] at HFD
  have HKD := Lib.hid (fun (W : World) (hb : Below W1.heap.size W1 W) => qkind_any (.pointer (some ⟨g, 0, none⟩)) t F.node W ((h.below hb1).below hb).ptr)
  have HTK := Lib.hid (fun (W : World) (hb : Below W1.heap.size W1 W) => qtake_yes g t P F W ((h.below hb1).below hb) hen.1.kind (fnd_mem (by rw [hen.1.found]; exact hen.2)) (fun b q => hP b (Nat.le_trans hb1.size (Nat.le_trans hb.size q))))
  have HFR := Lib.hid (fun (W : World) (ht : TabR W g (cutT t F.dir F.name) P) (hi : IntsR W (.slice A1 n1 k1) op) => qfree_any g _ P F.node op A1 n1 k1 W ht hi hol)
  have HOP := Lib.hid (fun (W W' : World) (hb : Below W1.heap.size W1 W) (hg : W.grownBy W' (some g)) => ints_past ((hop.below hb1).below hb) hg ho1)
  have HT := Lib.hid (h.below hb1)
  have HB1 := Lib.hid hb1
  have HXT := Lib.hid (And.intro hX hT)
  have HGW := Lib.hid hgw
  generalize (tget t F.node).kind = KF at HKD HXT
  obtain ⟨k0, k1', k2'⟩ := h11.c3
  clear h hc hop ho1 hP hR hz hen hX hT hXX hT2 hgw hb1 h11
  go_enter Tryz.func114, Tryz.ntmps114
  go_wp2_with fail
  clear hW1
  refine HFD.out.mono ?_
  rintro e w3 ⟨rfl, hb⟩
  have hbx := al hb (.cells #[.int .i64 F.dir, .string (bA F.name), .int .i64 F.node] 223)
  have hfx := Blk.new w3 223 #[.int .i64 F.dir, .string (bA F.name), .int .i64 F.node]
  obtain ⟨W4, hW4⟩ : ∃ W, w3.alloc (.cells #[.int .i64 F.dir, .string (bA F.name), .int .i64 F.node] 223) = W := ⟨_, rfl⟩
  obtain ⟨y, hy⟩ : ∃ z, w3.heap.size = z := ⟨_, rfl⟩
  rw [hW4] at hbx hfx
  rw [hy] at hfx
  have J4 := Lib.hid hbx
  have H4 := Lib.hid hfx
  have HGY := Lib.hid (show some y ≠ some g from fun q => by injection q with q; have h1 := HGW.out; have h2 := HB1.out.size; have h3 := hb.size; omega)
  obtain ⟨b0, b1, b2⟩ := hfx.c3
  clear hb hbx hfx k0 k1' k2' HFD
  go_wp2_with fail
  clear hW4 hy
  refine (HKD.out W4 J4.out).mono ?_
  rintro e w5 ⟨rfl, hb5⟩
  have J5 := Lib.hid (bt hb5 J4.out)
  have H5 := Lib.hid (H4.out.below hb5)
  clear hb5 b0 b1 b2 HKD
  by_cases hk : KF = 2
  · have y1 : (KF == 2) = true := by simpa using hk
    have HZ := Lib.hid (show X = 21 ∧ T2 = t from by have h1 := HXT.out.1; rw [if_pos hk] at h1; exact ⟨h1, by rw [HXT.out.2, h1]; rfl⟩)
    clear hk
    go_wp2
    go_ret
    exact ⟨by rw [HZ.out.1]; rfl, by rw [HZ.out.2]; exact HT.out.below J5.out, grown_below (bt J5.out HB1.out) _⟩
  · have y1 : (KF == 2) = false := by simpa using hk
    have HZ := Lib.hid (show X = 0 ∧ T2 = frT (cutT t F.dir F.name) F.node op from by have h1 := HXT.out.1; rw [if_neg hk] at h1; exact ⟨h1, by rw [HXT.out.2, if_pos h1]⟩)
    obtain ⟨b0, b1, b2⟩ := H5.out.c3
    clear hk
    go_wp2_with fail
    refine (HTK.out w5 J5.out).mono ?_
    rintro e w6 ⟨rfl, h6, hg6⟩
    have H6 := Lib.hid (And.intro h6 hg6)
    have HI6 := Lib.hid (HOP.out w5 w6 J5.out hg6)
    have HF6 := Lib.hid (HFR.out w6 h6 HI6.out)
    clear b0 b1 b2
    obtain ⟨b0, b1, b2⟩ := (H5.out.kept hg6 HGY.out).c3
    clear h6 hg6
    go_wp2_with fail
    refine HF6.out.mono ?_
    rintro e w7 ⟨rfl, h7, hg7⟩
    have HE := Lib.hid (And.intro h7 (grown_trans (grown_trans (grown_below (bt J5.out HB1.out) _) H6.out.2) hg7))
    clear h7 hg7
    go_wp2
    go_ret
    exact ⟨by rw [HZ.out.1]; rfl, by rw [HZ.out.2]; exact HE.out.1, HE.out.2⟩
set_option maxHeartbeats 16000000 in
theorem qrd_go (g : Nat) (t : List Nd) (P : Nat → Prop) (c : Wh) (A0 : Option Addr) (m k : Nat) (p : Nm) (w : World) (h : TabR w g t P) (hc : CrR w c A0 m k) (hP : ∀ b, w.heap.size ≤ b → P b) (F : Fo) (E : Int) (hR : resM t c p false = (F, E)) (hz : fnE t c (F, E) = 0) (hen : Ent t F ∧ F.node ≠ 0) :
    Calls Tryz.prog 115 #[.pointer (some ⟨g, 0, none⟩), .agg #[.int .i64 c.u, .int .i64 c.g, .slice A0 m k], .string (bA p)] w fun e w' => e = .returned (.int .i64 (rdE t c (F, E))) ∧ TabR w' g (rdT t c (F, E)) P ∧ w.grownBy w' (some g) := by
  obtain ⟨X, hXX⟩ : ∃ X, rdE t c (F, E) = X := ⟨_, rfl⟩
  obtain ⟨T2, hT2⟩ : ∃ T, rdT t c (F, E) = T := ⟨_, rfl⟩
  have hX : X = if (tget t F.node).kind ≠ 2 then 20 else if 0 < (tget t F.node).ents.length then 39 else 0 := by
    rw [← hXX]
    unfold rdE
    rw [if_neg (fun q => q hz)]
    cases (tget t F.node).ents with
    | nil => simp
    | cons x xs => simp
  have hT : T2 = if X = 0 then dropT (cutT t F.dir F.name) F.node else t := by rw [← hT2, ← hXX]; rfl
  rw [hXX, hT2]
  have hgw := h.lt
  have hb1 := ba w (.cells #[.int .i64 c.u, .int .i64 c.g, .slice A0 m k] 35)
  have h11 := Blk.new w 35 #[.int .i64 c.u, .int .i64 c.g, .slice A0 m k]
  obtain ⟨W1, hW1⟩ : ∃ W, w.alloc (.cells #[.int .i64 c.u, .int .i64 c.g, .slice A0 m k] 35) = W := ⟨_, rfl⟩
  rw [hW1] at hb1 h11
  have HFD := Lib.hid (qfind_any (.pointer (some ⟨g, 0, none⟩)) t c A0 m k p W1 (h.below hb1).ptr (hc.below hb1) F E hR)
  rw [qfn_fo hz, hz] at HFD
  have HKD := Lib.hid (fun (W : World) (hb : Below W1.heap.size W1 W) => qkind_any (.pointer (some ⟨g, 0, none⟩)) t F.node W ((h.below hb1).below hb).ptr)
  have HEN := Lib.hid (fun (W : World) (hb : Below W1.heap.size W1 W) => qentries_any (.pointer (some ⟨g, 0, none⟩)) t F.node W ((h.below hb1).below hb).ptr)
  have HTK := Lib.hid (fun (W : World) (hb : Below W1.heap.size W1 W) => qtake_yes g t P F W ((h.below hb1).below hb) hen.1.kind (fnd_mem (by rw [hen.1.found]; exact hen.2)) (fun b q => hP b (Nat.le_trans hb1.size (Nat.le_trans hb.size q))))
  have HDR := Lib.hid (fun (W : World) (ht : TabR W g (cutT t F.dir F.name) P) => show Calls Tryz.prog 168 #[.pointer (some ⟨g, 0, none⟩), .int .i64 F.node] W fun e w' => e = .returned (.bool (tis (cutT t F.dir F.name) F.node)) ∧ TabR w' g (dropT (cutT t F.dir F.name) F.node) P ∧ W.grownBy w' (some g) from by
    have h1 := drop_any g (cutT t F.dir F.name) P F.node W ht 2 (by decide) (by decide) Nd.zero true
    rw [actT, if_neg (by decide), if_neg (by decide)] at h1
    exact h1)
  have HT := Lib.hid (h.below hb1)
  have HB1 := Lib.hid hb1
  have HXT := Lib.hid (And.intro hX hT)
  have HGW := Lib.hid hgw
  generalize (tget t F.node).kind = KF at HKD HXT
  generalize (tget t F.node).ents.length = n at HEN HXT
  obtain ⟨k0, k1', k2'⟩ := h11.c3
  clear h hc hP hR hz hen hX hT hXX hT2 hgw hb1 h11
  go_enter Tryz.func115, Tryz.ntmps115
  go_wp2_with fail
  clear hW1
  refine HFD.out.mono ?_
  rintro e w3 ⟨rfl, hb⟩
  have hbx := al hb (.cells #[.int .i64 F.dir, .string (bA F.name), .int .i64 F.node] 223)
  have hfx := Blk.new w3 223 #[.int .i64 F.dir, .string (bA F.name), .int .i64 F.node]
  obtain ⟨W4, hW4⟩ : ∃ W, w3.alloc (.cells #[.int .i64 F.dir, .string (bA F.name), .int .i64 F.node] 223) = W := ⟨_, rfl⟩
  obtain ⟨y, hy⟩ : ∃ z, w3.heap.size = z := ⟨_, rfl⟩
  rw [hW4] at hbx hfx
  rw [hy] at hfx
  have J4 := Lib.hid hbx
  have H4 := Lib.hid hfx
  have HGY := Lib.hid (show some y ≠ some g from fun q => by injection q with q; have h1 := HGW.out; have h2 := HB1.out.size; have h3 := hb.size; omega)
  obtain ⟨b0, b1, b2⟩ := hfx.c3
  clear hb hbx hfx k0 k1' k2' HFD
  go_wp2_with fail
  clear hW4 hy
  refine (HKD.out W4 J4.out).mono ?_
  rintro e w5 ⟨rfl, hb5⟩
  have J5 := Lib.hid (bt hb5 J4.out)
  have H5 := Lib.hid (H4.out.below hb5)
  clear hb5 b0 b1 b2 HKD
  by_cases hk : KF = 2
  · have y1 : (KF != 2) = false := by simpa using hk
    have HZ := Lib.hid (show X = if 0 < n then 39 else 0 from by have h1 := HXT.out.1; rw [if_neg (fun q => q hk)] at h1; exact h1)
    obtain ⟨b0, b1, b2⟩ := H5.out.c3
    clear hk
    go_wp2_with fail
    refine (HEN.out w5 J5.out).mono ?_
    rintro e w6 ⟨rfl, hb6⟩
    have J6 := Lib.hid (bt hb6 J5.out)
    have H6 := Lib.hid (H5.out.below hb6)
    clear hb6 b0 b1 b2
    by_cases hn : 0 < n
    · have yn : (n : Int) > 0 := by omega
      have HZ2 := Lib.hid (show X = 39 ∧ T2 = t from by have h1 := HZ.out; rw [if_pos hn] at h1; exact ⟨h1, by rw [HXT.out.2, h1]; rfl⟩)
      clear hn
      go_wp2
      go_ret
      exact ⟨by rw [HZ2.out.1]; rfl, by rw [HZ2.out.2]; exact HT.out.below J6.out, grown_below (bt J6.out HB1.out) _⟩
    · have yn : ¬ (n : Int) > 0 := by omega
      have HZ2 := Lib.hid (show X = 0 ∧ T2 = dropT (cutT t F.dir F.name) F.node from by have h1 := HZ.out; rw [if_neg hn] at h1; exact ⟨h1, by rw [HXT.out.2, if_pos h1]⟩)
      obtain ⟨b0, b1, b2⟩ := H6.out.c3
      clear hn
      go_wp2_with fail
      refine (HTK.out w6 J6.out).mono ?_
      rintro e w7 ⟨rfl, h7, hg7⟩
      have H7 := Lib.hid (And.intro h7 hg7)
      have HD7 := Lib.hid (HDR.out w7 h7)
      clear b0 b1 b2
      obtain ⟨b0, b1, b2⟩ := (H6.out.kept hg7 HGY.out).c3
      clear h7 hg7
      go_wp2_with fail
      refine HD7.out.mono ?_
      rintro e w8 ⟨rfl, h8, hg8⟩
      have HE := Lib.hid (And.intro h8 (grown_trans (grown_trans (grown_below (bt J6.out HB1.out) _) H7.out.2) hg8))
      clear h8 hg8
      go_wp2
      go_ret
      exact ⟨by rw [HZ2.out.1]; rfl, by rw [HZ2.out.2]; exact HE.out.1, HE.out.2⟩
  · have y1 : (KF != 2) = true := by simpa using hk
    have HZ := Lib.hid (show X = 20 ∧ T2 = t from by have h1 := HXT.out.1; rw [if_pos hk] at h1; exact ⟨h1, by rw [HXT.out.2, h1]; rfl⟩)
    clear hk
    go_wp2
    go_ret
    exact ⟨by rw [HZ.out.1]; rfl, by rw [HZ.out.2]; exact HT.out.below J5.out, grown_below (bt J5.out HB1.out) _⟩
set_option maxHeartbeats 32000000 in
theorem qmv_go (g : Nat) (t : List Nd) (P : Nat → Prop) (c : Wh) (A0 : Option Addr) (m k : Nat) (p q : Nm) (op : List Int) (A1 : Option Addr) (n1 k1 : Nat) (w : World) (h : TabR w g t P) (hc : CrR w c A0 m k) (hop : IntsR w (.slice A1 n1 k1) op) (hol : op.length ≤ 1000) (ho1 : Off A1 op g) (hP : ∀ b, w.heap.size ≤ b → P b) (F : Fo) (E : Int) (hR : resM t c p false = (F, E)) (hz : fnE t c (F, E) = 0) (K : Fo) (S : Int) (hS : resM t c q false = (K, S)) (hst : mvE t c (F, E) (K, S) = 0 → K.node ≠ F.node → MvS t F K) :
    Calls Tryz.prog 116 #[.pointer (some ⟨g, 0, none⟩), .agg #[.int .i64 c.u, .int .i64 c.g, .slice A0 m k], .string (bA p), .string (bA q), .slice A1 n1 k1] w fun e w' => e = .returned (.int .i64 (mvE t c (F, E) (K, S))) ∧ TabR w' g (mvT t c (F, E) (K, S) op) P ∧ w.grownBy w' (some g) := by
  obtain ⟨X, hXX⟩ : ∃ X, mvE t c (F, E) (K, S) = X := ⟨_, rfl⟩
  obtain ⟨T2, hT2⟩ : ∃ T, mvT t c (F, E) (K, S) op = T := ⟨_, rfl⟩
  have hX : X = if fpE t c (K, S) ≠ 0 then fpE t c (K, S) else if K.node = F.node then 0 else mvX t c F K := by rw [← hXX, mv_split, if_neg (fun q => q hz)]
  have hT : T2 = if X ≠ 0 ∨ K.node = F.node then t else frT (mv3 t F.dir F.name F.node K.dir K.name K.node) K.node op := by rw [← hT2, ← hXX]; rfl
  rw [hXX, hT2]
  rw [hXX] at hst
  have hgw := h.lt
  have hb1 := ba w (.cells #[.int .i64 c.u, .int .i64 c.g, .slice A0 m k] 35)
  have h11 := Blk.new w 35 #[.int .i64 c.u, .int .i64 c.g, .slice A0 m k]
  obtain ⟨W1, hW1⟩ : ∃ W, w.alloc (.cells #[.int .i64 c.u, .int .i64 c.g, .slice A0 m k] 35) = W := ⟨_, rfl⟩
  rw [hW1] at hb1 h11
  have HFD := Lib.hid (qfind_any (.pointer (some ⟨g, 0, none⟩)) t c A0 m k p W1 (h.below hb1).ptr (hc.below hb1) F E hR)
  rw [qfn_fo hz, hz] at HFD
  have HPL := Lib.hid (fun (W : World) (hb : Below W1.heap.size W1 W) => qplace_any (.pointer (some ⟨g, 0, none⟩)) t c A0 m k q W ((h.below hb1).below hb).ptr ((hc.below hb1).below hb) K S hS)
  have HMV := Lib.hid (fun (W : World) (hb : Below W1.heap.size W1 W) => qmove_any (.pointer (some ⟨g, 0, none⟩)) t c A0 m k F K W ((h.below hb1).below hb).ptr)
  have HPB := Lib.hid (fun (W : World) (hb : W1.heap.size ≤ W.heap.size) (b : Nat) (q : W.heap.size ≤ b) => hP b (Nat.le_trans hb1.size (Nat.le_trans hb q)))
  have HOP := Lib.hid (fun (W W' : World) (hb : Below W1.heap.size W1 W) (hg : W.grownBy W' (some g)) => ints_past ((hop.below hb1).below hb) hg ho1)
  have HO1 := Lib.hid ho1
  have HOL := Lib.hid hol
  have HST := Lib.hid hst
  have HT := Lib.hid (h.below hb1)
  have HB1 := Lib.hid hb1
  have H1 := Lib.hid h11
  have HXT := Lib.hid (And.intro hX hT)
  have HGW := Lib.hid hgw
  obtain ⟨FP, hFP⟩ : ∃ x, fpE t c (K, S) = x := ⟨_, rfl⟩
  obtain ⟨Y, hY⟩ : ∃ x, fpF t c (K, S) = x := ⟨_, rfl⟩
  obtain ⟨M, hM⟩ : ∃ x, mvX t c F K = x := ⟨_, rfl⟩
  have HYK := Lib.hid (show FP = 0 → Y = K from fun z => by rw [← hY]; exact qfp_fo (by rw [hFP]; exact z))
  rw [hFP, hY] at HPL
  rw [hM] at HMV
  rw [hFP, hM] at HXT
  obtain ⟨k0, k1', k2'⟩ := h11.c3
  clear h hc hop ho1 hol hP hR hz hS hst hX hT hXX hT2 hgw hFP hY hM hb1 h11
  go_enter Tryz.func116, Tryz.ntmps116
  go_wp2_with fail
  clear hW1
  refine HFD.out.mono ?_
  rintro e w3 ⟨rfl, hb⟩
  have hbx := al hb (.cells #[.int .i64 F.dir, .string (bA F.name), .int .i64 F.node] 223)
  have hfx := Blk.new w3 223 #[.int .i64 F.dir, .string (bA F.name), .int .i64 F.node]
  obtain ⟨W4, hW4⟩ : ∃ W, w3.alloc (.cells #[.int .i64 F.dir, .string (bA F.name), .int .i64 F.node] 223) = W := ⟨_, rfl⟩
  obtain ⟨y, hy⟩ : ∃ z, w3.heap.size = z := ⟨_, rfl⟩
  rw [hW4] at hbx hfx
  rw [hy] at hfx
  have J4 := Lib.hid hbx
  have H4 := Lib.hid hfx
  have HGY := Lib.hid (show some y ≠ some g from fun q => by injection q with q; have h1 := HGW.out; have h2 := HB1.out.size; have h3 := hb.size; omega)
  clear k0 k1' k2'
  obtain ⟨k0, k1', k2'⟩ := (H1.out.below hbx).c3
  clear hb hbx hfx HFD
  go_wp2_with fail
  clear hW4 hy
  refine (HPL.out W4 J4.out).mono ?_
  rintro e w5 ⟨rfl, hb⟩
  have hbx := al hb (.cells #[.int .i64 Y.dir, .string (bA Y.name), .int .i64 Y.node] 223)
  have hfx := Blk.new w5 223 #[.int .i64 Y.dir, .string (bA Y.name), .int .i64 Y.node]
  obtain ⟨W6, hW6⟩ : ∃ W, w5.alloc (.cells #[.int .i64 Y.dir, .string (bA Y.name), .int .i64 Y.node] 223) = W := ⟨_, rfl⟩
  obtain ⟨x, hx⟩ : ∃ z, w5.heap.size = z := ⟨_, rfl⟩
  rw [hW6] at hbx hfx
  rw [hx] at hfx
  have J6 := Lib.hid (bt hbx J4.out)
  have H6 := Lib.hid (H4.out.below hbx)
  have HI := Lib.hid hfx
  have HGX := Lib.hid (show some x ≠ some g from fun q => by injection q with q; have h1 := HGW.out; have h2 := HB1.out.size; have h3 := hb.size; have h4 := J4.out.size; omega)
  clear k0 k1' k2' hb hbx hfx HPL
  by_cases h0 : FP = 0
  · have y0 : (FP != 0) = false := by simpa using h0
    have hYK := HYK.out h0
    subst hYK
    have HXU := Lib.hid (show X = (if Y.node = F.node then 0 else M) ∧ T2 = _ from ⟨by have h1 := HXT.out.1; rw [if_neg (fun z => z h0)] at h1; exact h1, HXT.out.2⟩)
    clear h0 HXT
    obtain ⟨a0, a1, a2⟩ := H6.out.c3
    obtain ⟨b0, b1, b2⟩ := HI.out.c3
    by_cases hn : Y.node = F.node
    · have y1 : (Y.node == F.node) = true := by simpa using hn
      have HZ := Lib.hid (show X = 0 ∧ T2 = t from by have h1 := HXU.out.1; rw [if_pos hn] at h1; exact ⟨h1, by rw [HXU.out.2, if_pos (.inr hn)]⟩)
      clear hn
      go_wp2
      clear hW6 hx
      go_ret
      exact ⟨by rw [HZ.out.1]; rfl, by rw [HZ.out.2]; exact HT.out.below J6.out, grown_below (bt J6.out HB1.out) _⟩
    have y1 : (Y.node == F.node) = false := by simpa using hn
    obtain ⟨k0, k1', k2'⟩ := (H1.out.below J6.out).c3
    have HNE := Lib.hid hn
    clear hn
    go_wp2_with fail
    clear hW6 hx
    refine (HMV.out W6 J6.out).mono ?_
    rintro e w7 ⟨rfl, hb7⟩
    have J7 := Lib.hid (bt hb7 J6.out)
    have HA := Lib.hid (H6.out.below hb7)
    have HBB := Lib.hid (HI.out.below hb7)
    clear hb7 a0 a1 a2 b0 b1 b2 k0 k1' k2' HMV
    by_cases h2 : M = 0
    · have y2 : (M != 0) = false := by simpa using h2
      have hx0 : X = 0 := by have h1 := HXU.out.1; rw [if_neg HNE.out] at h1; rw [h1]; exact h2
      have HZ := Lib.hid (show X = 0 ∧ T2 = frT (mv3 t F.dir F.name F.node Y.dir Y.name Y.node) Y.node op from ⟨hx0, by rw [HXU.out.2, if_neg (fun z => z.elim (fun z => z hx0) HNE.out)]⟩)
      have HMS := Lib.hid (HST.out hx0 HNE.out)
      clear h2 hx0 HST HXU
      obtain ⟨a0, a1, a2⟩ := HA.out.c3
      have HTK := Lib.hid (qtake_yes g t P F w7 (HT.out.below J7.out) HMS.out.k1 HMS.out.m1 (HPB.out w7 J7.out.size))
      go_wp2_with fail
      refine HTK.out.mono ?_
      rintro e w8 ⟨rfl, h8, hg8⟩
      have H8 := Lib.hid (And.intro h8 hg8)
      have HI8 := Lib.hid (HOP.out w7 w8 J7.out hg8)
      have HA8 := Lib.hid (HA.out.kept hg8 HGY.out)
      have HB8 := Lib.hid (HBB.out.kept hg8 HGX.out)
      have HS8 := Lib.hid (show W1.heap.size ≤ w8.heap.size from Nat.le_trans J7.out.size hg8.size)
      have HT8 := Lib.hid (qtake_two g t P F Y w8 h8 HMS.out (HPB.out w8 HS8.out))
      clear a0 a1 a2 h8 hg8 HTK
      obtain ⟨b0, b1, b2⟩ := HB8.out.c3
      go_wp2_with fail
      refine HT8.out.mono ?_
      rintro e w9 ⟨rfl, h9, hg9⟩
      have H9 := Lib.hid (And.intro h9 hg9)
      have HI9 := Lib.hid (ints_past HI8.out hg9 HO1.out)
      have HA9 := Lib.hid (HA8.out.kept hg9 HGY.out)
      have HB9 := Lib.hid (HB8.out.kept hg9 HGX.out)
      have HS9 := Lib.hid (show W1.heap.size ≤ w9.heap.size from Nat.le_trans HS8.out hg9.size)
      have HGV := Lib.hid (qgive_any g _ P Y F.node w9 h9 HMS.out.w HMS.out.len (HPB.out w9 HS9.out))
      clear b0 b1 b2 h9 hg9 HT8
      obtain ⟨a0, a1, a2⟩ := HA9.out.c3
      obtain ⟨b0, b1, b2⟩ := HB9.out.c3
      go_wp2_with fail
      refine HGV.out.mono ?_
      rintro e w10 ⟨rfl, h10, hg10⟩
      have H10 := Lib.hid (And.intro h10 hg10)
      have HI10 := Lib.hid (ints_past HI9.out hg10 HO1.out)
      have HFR := Lib.hid (qfree_any g _ P Y.node op A1 n1 k1 w10 h10 HI10.out HOL.out)
      clear a0 a1 a2 b0 b1 b2
      obtain ⟨b0, b1, b2⟩ := (HB9.out.kept hg10 HGX.out).c3
      clear h10 hg10 HGV
      go_wp2_with fail
      refine HFR.out.mono ?_
      rintro e w11 ⟨rfl, h11, hg11⟩
      have HE := Lib.hid (And.intro h11 (grown_trans (grown_trans (grown_trans (grown_trans (grown_below (bt J7.out HB1.out) _) H8.out.2) H9.out.2) H10.out.2) hg11))
      clear h11 hg11 HFR
      go_wp2
      go_ret
      exact ⟨by rw [HZ.out.1]; rfl, by rw [HZ.out.2]; exact HE.out.1, HE.out.2⟩
    · have y2 : (M != 0) = true := by simpa using h2
      have hx0 : X = M := by have h1 := HXU.out.1; rw [if_neg HNE.out] at h1; exact h1
      have HZ := Lib.hid (show X = M ∧ T2 = t from ⟨hx0, by rw [HXU.out.2, if_pos (.inl (by rw [hx0]; exact h2))]⟩)
      clear h2 hx0
      go_wp2
      go_ret
      exact ⟨by rw [HZ.out.1]; rfl, by rw [HZ.out.2]; exact HT.out.below J7.out, grown_below (bt J7.out HB1.out) _⟩
  · have y0 : (FP != 0) = true := by simpa using h0
    have HZ := Lib.hid (show X = FP ∧ T2 = t from by have h1 := HXT.out.1; rw [if_pos h0] at h1; exact ⟨h1, by rw [HXT.out.2, if_pos (.inl (by rw [h1]; exact h0))]⟩)
    clear h0
    go_wp2
    clear hW6 hx
    go_ret
    exact ⟨by rw [HZ.out.1]; rfl, by rw [HZ.out.2]; exact HT.out.below J6.out, grown_below (bt J6.out HB1.out) _⟩
theorem unlinkC : UnlinkC := fun g t P c A0 m k p op A1 n1 k1 w h ht hc hop hol _ ho1 hP => by
  by_cases hz : fnE t c (resM t c p false) = 0
  · have hen := fn_ent ht hz
    obtain ⟨R, hR⟩ : ∃ R, resM t c p false = R := ⟨_, rfl⟩
    obtain ⟨F, E⟩ := R
    rw [hR] at hz hen ⊢
    exact qul_go g t P c A0 m k p op A1 n1 k1 w h hc hop hol ho1 hP F E hR hz hen
  · have e1 : ulE t c (resM t c p false) = fnE t c (resM t c p false) := if_pos hz
    have e2 : ulT t c (resM t c p false) op = t := if_neg (by rw [e1]; exact hz)
    rw [e1, e2]
    refine (qul_err _ t c A0 m k p A1 n1 k1 w h.ptr hc hz).mono ?_
    rintro e w' ⟨rfl, hb⟩
    exact ⟨rfl, h.below hb, grown_below hb _⟩
theorem rmdirC : RmdirC := fun g t P c A0 m k p w h ht hc _ hP => by
  by_cases hz : fnE t c (resM t c p false) = 0
  · have hen := fn_ent ht hz
    obtain ⟨R, hR⟩ : ∃ R, resM t c p false = R := ⟨_, rfl⟩
    obtain ⟨F, E⟩ := R
    rw [hR] at hz hen ⊢
    exact qrd_go g t P c A0 m k p w h hc hP F E hR hz hen
  · have e1 : rdE t c (resM t c p false) = fnE t c (resM t c p false) := if_pos hz
    have e2 : rdT t c (resM t c p false) = t := if_neg (by rw [e1]; exact hz)
    rw [e1, e2]
    refine (qrd_err _ t c A0 m k p w h.ptr hc hz).mono ?_
    rintro e w' ⟨rfl, hb⟩
    exact ⟨rfl, h.below hb, grown_below hb _⟩
theorem renameC : RenameC := fun g t P c A0 m k p q op A1 n1 k1 w h ht hc hop hol _ ho1 hP => by
  by_cases hz : fnE t c (resM t c p false) = 0
  · have hst : mvE t c (resM t c p false) (resM t c q false) = 0 → (resM t c q false).1.node ≠ (resM t c p false).1.node → MvS t (resM t c p false).1 (resM t c q false).1 := fun z y => mv_steps ht z y
    obtain ⟨R, hR⟩ : ∃ R, resM t c p false = R := ⟨_, rfl⟩
    obtain ⟨F, E⟩ := R
    obtain ⟨S, hS⟩ : ∃ S, resM t c q false = S := ⟨_, rfl⟩
    obtain ⟨K, S⟩ := S
    rw [hR] at hz
    rw [hR, hS] at hst ⊢
    exact qmv_go g t P c A0 m k p q op A1 n1 k1 w h hc hop hol ho1 hP F E hR hz K S hS hst
  · have e1 : mvE t c (resM t c p false) (resM t c q false) = fnE t c (resM t c p false) := if_pos hz
    have e2 : mvT t c (resM t c p false) (resM t c q false) op = t := if_pos (.inl (by rw [e1]; exact hz))
    rw [e1, e2]
    refine (qmv_err _ t c A0 m k p q A1 n1 k1 w h.ptr hc hz).mono ?_
    rintro e w' ⟨rfl, hb⟩
    exact ⟨rfl, h.below hb, grown_below hb _⟩
theorem pruneC : PruneC where
  ul := unlinkC
  rd := rmdirC
  rn := renameC
  fr := fun g t P i op A1 n1 k1 w h _ hop hol _ _ => qfree_any g t P i op A1 n1 k1 w h hop hol
  bl := fun g t P i d w h _ => qblw_any _ t i d w h.ptr
  uln := fun c A0 m k p w hc => (qul_err (.pointer none) [] c A0 m k p none 0 0 w (TabP.none w) hc (qfn_nil c p)).mono fun _ _ ⟨a, b⟩ => ⟨_, a, qfn_nil c p, b⟩
  rdn := fun c A0 m k p w hc => (qrd_err (.pointer none) [] c A0 m k p w (TabP.none w) hc (qfn_nil c p)).mono fun _ _ ⟨a, b⟩ => ⟨_, a, qfn_nil c p, b⟩
  rnn := fun c A0 m k p q w hc => (qmv_err (.pointer none) [] c A0 m k p q none 0 0 w (TabP.none w) hc (qfn_nil c p)).mono fun _ _ ⟨a, b⟩ => ⟨_, a, qfn_nil c p, b⟩
  frn := fun i w => qfree_no (.pointer none) [] i [] none 0 0 w (TabP.none w) (IntsR.nil w) (by decide) (by
    unfold frB
    rw [show tis [] i = false from by unfold tis; rw [tget_out (by simp; omega)]; rfl]
    simp)
end Go.Proofs.YtkmkfolpjlkfoaaGreat
