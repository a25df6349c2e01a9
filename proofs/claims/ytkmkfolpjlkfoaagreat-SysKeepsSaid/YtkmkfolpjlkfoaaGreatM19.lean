/-
  Package sys: the functions of calls that leave another table. The conditions are said at each. Package sys: the functions of calls that read. The conditions are said at each.
-/
import Derived.Test.YtkmkfolpjlkfoaaGreatM13
import Derived.Test.YtkmkfolpjlkfoaaGreatM14
import Derived.Test.YtkmkfolpjlkfoaaGreatM16
import Derived.Test.YtkmkfolpjlkfoaaGreatM18
namespace Go.Proofs.YtkmkfolpjlkfoaaGreat
open Go Go.RowKit
set_option maxRecDepth 100000

attribute [local go_sem] cell_off4 cell_blk4
set_option maxHeartbeats 4000000 in
theorem m_chmod : MtC 64 5 := fun s g b cp i S p c vd w h hI hn hp hd hsh => by
  obtain ⟨o, ho⟩ : ∃ o, i * 16 = o := ⟨_, rfl⟩
  obtain ⟨W1, zr, G, m, hW1, hzr, hm⟩ := mw_start (vd := vd) (c := c) h hp ho
  rw [ho]
  have hgs := hI.gs p (List.mem_of_getElem? hp)
  have HM := Lib.hid hm
  obtain ⟨E, hE⟩ : ∃ E, chmE S.t p.c c.path c.a = E := ⟨_, rfl⟩
  obtain ⟨T, hT⟩ : ∃ T, chmT S.t p.c c.path c.a = T := ⟨_, rfl⟩
  have hK : doK 5 S i p c = (⟨T, S.p⟩, Rsm.e E) := by rw [← hE, ← hT]; rfl
  rw [hK]
  have HCL := Lib.hid (fun (V : World) (hv : Below W1.heap.size W1 V) => show Calls Tryz.prog 110 #[.pointer (some ⟨g, 0, none⟩), .agg #[.int .i64 p.c.u, .int .i64 p.c.g, .slice G p.c.gs.length m], .string (bA c.path), .int .i64 c.a] V fun e w' => e = .returned (.int .i64 E) ∧ TabR w' g T (fun _ => True) ∧ V.grownBy w' (some g) from by
    have h1 := hm.below hv
    obtain ⟨ct, hct, -⟩ := h1.sq.tab.blk
    rw [← hE, ← hT]
    exact chmod_any g S.t (fun _ => True) p.c G p.c.gs.length m c.path c.a V h1.sq.tab h1.sq.tab.ok (by rw [hI.tro.one]; decide) (h1.pc.crr hgs) (fun _ _ => trivial))
  have HPR := Lib.hid (fun (V : World) (hv : Below W1.heap.size W1 V) => (hm.below hv).all)
  have HPG := Lib.hid (fun (V w5 : World) (hv : Below W1.heap.size W1 V) (ht : TabR w5 g T (fun _ => True)) (hg : V.grownBy w5 (some g)) => (hm.below hv).after ht hg)
  have HPX := Lib.hid (fun (V w5 : World) (hv : Below W1.heap.size W1 V) (ht : TabR w5 g T (fun _ => True)) (hg : V.grownBy w5 (some g)) (u0 u1 u2 u3 u4 u5 u6 u7 u8 u9 u10 u11 : Value) => (hm.below hv).done ht hg u0 u1 u2 u3 u4 u5 u6 u7 u8 u9 u10 u11)
  have HGL := Lib.hid (show ∀ V : World, Below W1.heap.size W1 V → g < V.heap.size from fun V hv => (hm.below hv).sq.tab.lt)
  have j0 := Lib.hid (show Below W1.heap.size W1 W1.drew from (Below.refl _ _).drew)
  clear hm h hI hn hp hd hsh hgs hE hT hK ho
  go_enter Tryz.func64, Tryz.ntmps64
  go_upto_region 1 with fail
  clear hW1 hzr
  go_region_held3 (fun V => V.cell? ⟨s, 0, none⟩ = some (.pointer (some ⟨g, 0, none⟩)) ∧ V.cell? ⟨b, o, none⟩ = some (.int .i64 p.c.u) ∧ V.cell? ⟨b, o + 1, none⟩ = some (.int .i64 p.c.g) ∧ V.cell? ⟨b, o + 2, none⟩ = some (.slice G p.c.gs.length m) ∧ V.cell? ⟨b, o + 3, none⟩ = some (.int .i64 p.um) ∧ V.cell? ⟨w.heap.size, 1, none⟩ = some (.string (bA c.path)) ∧ V.cell? ⟨w.heap.size, 2, none⟩ = some (.string (bA c.other)) ∧ V.cell? ⟨w.heap.size, 3, none⟩ = some (.int .i64 c.a) ∧ V.cell? ⟨w.heap.size, 4, none⟩ = some (.int .i64 c.b) ∧ V.cell? ⟨w.heap.size, 5, none⟩ = some vd)
    (first | (with_reducible exact HPR.out _ j0.out) | (with_reducible exact HPG.out _ _ j0.out H5.out.1 H5.out.2) | (with_reducible exact HPX.out _ _ j0.out H5.out.1 H5.out.2 _ _ _ _ _ _ _ _ _ _ _ _))
    (first
    | (go_at_call 110; (with_reducible refine (HCL.out _ j0.out).mono ?_); rintro e2 w5 ⟨rfl, ht, hg⟩; obtain ⟨hsq, hfx, hkr, -⟩ := (HM.out.below j0.out).tabbed ht hg; have H5 := Lib.hid (And.intro ht hg); have SQ := Lib.hid hsq; have FX := Lib.hid hfx; have KR := Lib.hid hkr; obtain ⟨x0, x1, x2, x3, x4, x5, x6, x7, x8, x9, x10, x11⟩ := hkr.c12; obtain ⟨f0, f1, f2, f3, f4, f5, f6, f7, f8, f9, f10, f11⟩ := hkr.f12; obtain ⟨s0, s1, s2, s3, s4, s5, s6, s7, s8, s9, s10, s11⟩ := hkr.s12; clear ht hg hsq hfx hkr))
  all_goals (
    go_wp2
    exact bodyPost_ret (v := .agg #[.int .i64 E, .int .i64 0, .int .i64 0, .int .i64 0, .int .i64 0, .int .i64 0, .int .i64 0, .int .i64 0, .int .i64 0, .string ⟨#[]⟩, .slice none 0 0, .slice none 0 0]) (by simp [results, Tryz.results64, go_sem, s0, s1, s2, s3, s4, s5, s6, s7, s8, s9, s10, s11]) rfl (doq_e E SQ.out FX.out KR.out HM.out.lr))
set_option maxHeartbeats 4000000 in
theorem m_chown : MtC 65 6 := fun s g b cp i S p c vd w h hI hn hp hd hsh => by
  obtain ⟨o, ho⟩ : ∃ o, i * 16 = o := ⟨_, rfl⟩
  obtain ⟨W1, zr, G, m, hW1, hzr, hm⟩ := mw_start (vd := vd) (c := c) h hp ho
  rw [ho]
  have hgs := hI.gs p (List.mem_of_getElem? hp)
  have HM := Lib.hid hm
  obtain ⟨E, hE⟩ : ∃ E, chwE S.t p.c c.path c.a c.b true = E := ⟨_, rfl⟩
  obtain ⟨T, hT⟩ : ∃ T, chwT S.t p.c c.path c.a c.b true = T := ⟨_, rfl⟩
  have hK : doK 6 S i p c = (⟨T, S.p⟩, Rsm.e E) := by rw [← hE, ← hT]; rfl
  rw [hK]
  have HCL := Lib.hid (fun (V : World) (hv : Below W1.heap.size W1 V) => show Calls Tryz.prog 111 #[.pointer (some ⟨g, 0, none⟩), .agg #[.int .i64 p.c.u, .int .i64 p.c.g, .slice G p.c.gs.length m], .string (bA c.path), .int .i64 c.a, .int .i64 c.b, .bool true] V fun e w' => e = .returned (.int .i64 E) ∧ TabR w' g T (fun _ => True) ∧ V.grownBy w' (some g) from by
    have h1 := hm.below hv
    obtain ⟨ct, hct, -⟩ := h1.sq.tab.blk
    rw [← hE, ← hT]
    exact chown_any g S.t (fun _ => True) p.c G p.c.gs.length m c.path c.a c.b true V h1.sq.tab h1.sq.tab.ok (h1.pc.crr hgs) (fun _ _ => trivial))
  have HPR := Lib.hid (fun (V : World) (hv : Below W1.heap.size W1 V) => (hm.below hv).all)
  have HPG := Lib.hid (fun (V w5 : World) (hv : Below W1.heap.size W1 V) (ht : TabR w5 g T (fun _ => True)) (hg : V.grownBy w5 (some g)) => (hm.below hv).after ht hg)
  have HPX := Lib.hid (fun (V w5 : World) (hv : Below W1.heap.size W1 V) (ht : TabR w5 g T (fun _ => True)) (hg : V.grownBy w5 (some g)) (u0 u1 u2 u3 u4 u5 u6 u7 u8 u9 u10 u11 : Value) => (hm.below hv).done ht hg u0 u1 u2 u3 u4 u5 u6 u7 u8 u9 u10 u11)
  have HGL := Lib.hid (show ∀ V : World, Below W1.heap.size W1 V → g < V.heap.size from fun V hv => (hm.below hv).sq.tab.lt)
  have j0 := Lib.hid (show Below W1.heap.size W1 W1.drew from (Below.refl _ _).drew)
  clear hm h hI hn hp hd hsh hgs hE hT hK ho
  go_enter Tryz.func65, Tryz.ntmps65
  go_upto_region 1 with fail
  clear hW1 hzr
  go_region_held3 (fun V => V.cell? ⟨s, 0, none⟩ = some (.pointer (some ⟨g, 0, none⟩)) ∧ V.cell? ⟨b, o, none⟩ = some (.int .i64 p.c.u) ∧ V.cell? ⟨b, o + 1, none⟩ = some (.int .i64 p.c.g) ∧ V.cell? ⟨b, o + 2, none⟩ = some (.slice G p.c.gs.length m) ∧ V.cell? ⟨b, o + 3, none⟩ = some (.int .i64 p.um) ∧ V.cell? ⟨w.heap.size, 1, none⟩ = some (.string (bA c.path)) ∧ V.cell? ⟨w.heap.size, 2, none⟩ = some (.string (bA c.other)) ∧ V.cell? ⟨w.heap.size, 3, none⟩ = some (.int .i64 c.a) ∧ V.cell? ⟨w.heap.size, 4, none⟩ = some (.int .i64 c.b) ∧ V.cell? ⟨w.heap.size, 5, none⟩ = some vd)
    (first | (with_reducible exact HPR.out _ j0.out) | (with_reducible exact HPG.out _ _ j0.out H5.out.1 H5.out.2) | (with_reducible exact HPX.out _ _ j0.out H5.out.1 H5.out.2 _ _ _ _ _ _ _ _ _ _ _ _))
    (first
    | (go_at_call 111; (with_reducible refine (HCL.out _ j0.out).mono ?_); rintro e2 w5 ⟨rfl, ht, hg⟩; obtain ⟨hsq, hfx, hkr, -⟩ := (HM.out.below j0.out).tabbed ht hg; have H5 := Lib.hid (And.intro ht hg); have SQ := Lib.hid hsq; have FX := Lib.hid hfx; have KR := Lib.hid hkr; obtain ⟨x0, x1, x2, x3, x4, x5, x6, x7, x8, x9, x10, x11⟩ := hkr.c12; obtain ⟨f0, f1, f2, f3, f4, f5, f6, f7, f8, f9, f10, f11⟩ := hkr.f12; obtain ⟨s0, s1, s2, s3, s4, s5, s6, s7, s8, s9, s10, s11⟩ := hkr.s12; clear ht hg hsq hfx hkr))
  all_goals (
    go_wp2
    exact bodyPost_ret (v := .agg #[.int .i64 E, .int .i64 0, .int .i64 0, .int .i64 0, .int .i64 0, .int .i64 0, .int .i64 0, .int .i64 0, .int .i64 0, .string ⟨#[]⟩, .slice none 0 0, .slice none 0 0]) (by simp [results, Tryz.results65, go_sem, s0, s1, s2, s3, s4, s5, s6, s7, s8, s9, s10, s11]) rfl (doq_e E SQ.out FX.out KR.out HM.out.lr))
set_option maxHeartbeats 4000000 in
theorem m_lchown : MtC 66 7 := fun s g b cp i S p c vd w h hI hn hp hd hsh => by
  obtain ⟨o, ho⟩ : ∃ o, i * 16 = o := ⟨_, rfl⟩
  obtain ⟨W1, zr, G, m, hW1, hzr, hm⟩ := mw_start (vd := vd) (c := c) h hp ho
  rw [ho]
  have hgs := hI.gs p (List.mem_of_getElem? hp)
  have HM := Lib.hid hm
  obtain ⟨E, hE⟩ : ∃ E, chwE S.t p.c c.path c.a c.b false = E := ⟨_, rfl⟩
  obtain ⟨T, hT⟩ : ∃ T, chwT S.t p.c c.path c.a c.b false = T := ⟨_, rfl⟩
  have hK : doK 7 S i p c = (⟨T, S.p⟩, Rsm.e E) := by rw [← hE, ← hT]; rfl
  rw [hK]
  have HCL := Lib.hid (fun (V : World) (hv : Below W1.heap.size W1 V) => show Calls Tryz.prog 111 #[.pointer (some ⟨g, 0, none⟩), .agg #[.int .i64 p.c.u, .int .i64 p.c.g, .slice G p.c.gs.length m], .string (bA c.path), .int .i64 c.a, .int .i64 c.b, .bool false] V fun e w' => e = .returned (.int .i64 E) ∧ TabR w' g T (fun _ => True) ∧ V.grownBy w' (some g) from by
    have h1 := hm.below hv
    obtain ⟨ct, hct, -⟩ := h1.sq.tab.blk
    rw [← hE, ← hT]
    exact chown_any g S.t (fun _ => True) p.c G p.c.gs.length m c.path c.a c.b false V h1.sq.tab h1.sq.tab.ok (h1.pc.crr hgs) (fun _ _ => trivial))
  have HPR := Lib.hid (fun (V : World) (hv : Below W1.heap.size W1 V) => (hm.below hv).all)
  have HPG := Lib.hid (fun (V w5 : World) (hv : Below W1.heap.size W1 V) (ht : TabR w5 g T (fun _ => True)) (hg : V.grownBy w5 (some g)) => (hm.below hv).after ht hg)
  have HPX := Lib.hid (fun (V w5 : World) (hv : Below W1.heap.size W1 V) (ht : TabR w5 g T (fun _ => True)) (hg : V.grownBy w5 (some g)) (u0 u1 u2 u3 u4 u5 u6 u7 u8 u9 u10 u11 : Value) => (hm.below hv).done ht hg u0 u1 u2 u3 u4 u5 u6 u7 u8 u9 u10 u11)
  have HGL := Lib.hid (show ∀ V : World, Below W1.heap.size W1 V → g < V.heap.size from fun V hv => (hm.below hv).sq.tab.lt)
  have j0 := Lib.hid (show Below W1.heap.size W1 W1.drew from (Below.refl _ _).drew)
  clear hm h hI hn hp hd hsh hgs hE hT hK ho
  go_enter Tryz.func66, Tryz.ntmps66
  go_upto_region 1 with fail
  clear hW1 hzr
  go_region_held3 (fun V => V.cell? ⟨s, 0, none⟩ = some (.pointer (some ⟨g, 0, none⟩)) ∧ V.cell? ⟨b, o, none⟩ = some (.int .i64 p.c.u) ∧ V.cell? ⟨b, o + 1, none⟩ = some (.int .i64 p.c.g) ∧ V.cell? ⟨b, o + 2, none⟩ = some (.slice G p.c.gs.length m) ∧ V.cell? ⟨b, o + 3, none⟩ = some (.int .i64 p.um) ∧ V.cell? ⟨w.heap.size, 1, none⟩ = some (.string (bA c.path)) ∧ V.cell? ⟨w.heap.size, 2, none⟩ = some (.string (bA c.other)) ∧ V.cell? ⟨w.heap.size, 3, none⟩ = some (.int .i64 c.a) ∧ V.cell? ⟨w.heap.size, 4, none⟩ = some (.int .i64 c.b) ∧ V.cell? ⟨w.heap.size, 5, none⟩ = some vd)
    (first | (with_reducible exact HPR.out _ j0.out) | (with_reducible exact HPG.out _ _ j0.out H5.out.1 H5.out.2) | (with_reducible exact HPX.out _ _ j0.out H5.out.1 H5.out.2 _ _ _ _ _ _ _ _ _ _ _ _))
    (first
    | (go_at_call 111; (with_reducible refine (HCL.out _ j0.out).mono ?_); rintro e2 w5 ⟨rfl, ht, hg⟩; obtain ⟨hsq, hfx, hkr, -⟩ := (HM.out.below j0.out).tabbed ht hg; have H5 := Lib.hid (And.intro ht hg); have SQ := Lib.hid hsq; have FX := Lib.hid hfx; have KR := Lib.hid hkr; obtain ⟨x0, x1, x2, x3, x4, x5, x6, x7, x8, x9, x10, x11⟩ := hkr.c12; obtain ⟨f0, f1, f2, f3, f4, f5, f6, f7, f8, f9, f10, f11⟩ := hkr.f12; obtain ⟨s0, s1, s2, s3, s4, s5, s6, s7, s8, s9, s10, s11⟩ := hkr.s12; clear ht hg hsq hfx hkr))
  all_goals (
    go_wp2
    exact bodyPost_ret (v := .agg #[.int .i64 E, .int .i64 0, .int .i64 0, .int .i64 0, .int .i64 0, .int .i64 0, .int .i64 0, .int .i64 0, .int .i64 0, .string ⟨#[]⟩, .slice none 0 0, .slice none 0 0]) (by simp [results, Tryz.results66, go_sem, s0, s1, s2, s3, s4, s5, s6, s7, s8, s9, s10, s11]) rfl (doq_e E SQ.out FX.out KR.out HM.out.lr))
set_option maxHeartbeats 4000000 in
theorem m_mkdir : MtC 67 8 := fun s g b cp i S p c vd w h hI hn hp hd hsh => by
  obtain ⟨o, ho⟩ : ∃ o, i * 16 = o := ⟨_, rfl⟩
  obtain ⟨W1, zr, G, m, hW1, hzr, hm⟩ := mw_start (vd := vd) (c := c) h hp ho
  rw [ho]
  have hgs := hI.gs p (List.mem_of_getElem? hp)
  have HM := Lib.hid hm
  obtain ⟨E, hE⟩ : ∃ E, mkE S.t p.c p.um c.path c.a = E := ⟨_, rfl⟩
  obtain ⟨T, hT⟩ : ∃ T, mkT S.t p.c p.um c.path c.a = T := ⟨_, rfl⟩
  have hK : doK 8 S i p c = (⟨T, S.p⟩, Rsm.e E) := by rw [← hE, ← hT]; rfl
  rw [hK]
  have HCL := Lib.hid (fun (V : World) (hv : Below W1.heap.size W1 V) => show Calls Tryz.prog 112 #[.pointer (some ⟨g, 0, none⟩), .agg #[.int .i64 p.c.u, .int .i64 p.c.g, .slice G p.c.gs.length m], .int .i64 p.um, .string (bA c.path), .int .i64 c.a] V fun e w' => e = .returned (.int .i64 E) ∧ TabR w' g T (fun _ => True) ∧ V.grownBy w' (some g) from by
    have h1 := hm.below hv
    obtain ⟨ct, hct, -⟩ := h1.sq.tab.blk
    rw [← hE, ← hT]
    exact mkdirC g S.t (fun _ => True) p.c G p.c.gs.length m p.um c.path c.a V h1.sq.tab h1.sq.tab.ok (h1.pc.crr hgs) (fun _ _ => trivial))
  have HPR := Lib.hid (fun (V : World) (hv : Below W1.heap.size W1 V) => (hm.below hv).all)
  have HPG := Lib.hid (fun (V w5 : World) (hv : Below W1.heap.size W1 V) (ht : TabR w5 g T (fun _ => True)) (hg : V.grownBy w5 (some g)) => (hm.below hv).after ht hg)
  have HPX := Lib.hid (fun (V w5 : World) (hv : Below W1.heap.size W1 V) (ht : TabR w5 g T (fun _ => True)) (hg : V.grownBy w5 (some g)) (u0 u1 u2 u3 u4 u5 u6 u7 u8 u9 u10 u11 : Value) => (hm.below hv).done ht hg u0 u1 u2 u3 u4 u5 u6 u7 u8 u9 u10 u11)
  have HGL := Lib.hid (show ∀ V : World, Below W1.heap.size W1 V → g < V.heap.size from fun V hv => (hm.below hv).sq.tab.lt)
  have j0 := Lib.hid (show Below W1.heap.size W1 W1.drew from (Below.refl _ _).drew)
  clear hm h hI hn hp hd hsh hgs hE hT hK ho
  go_enter Tryz.func67, Tryz.ntmps67
  go_upto_region 1 with fail
  clear hW1 hzr
  go_region_held3 (fun V => V.cell? ⟨s, 0, none⟩ = some (.pointer (some ⟨g, 0, none⟩)) ∧ V.cell? ⟨b, o, none⟩ = some (.int .i64 p.c.u) ∧ V.cell? ⟨b, o + 1, none⟩ = some (.int .i64 p.c.g) ∧ V.cell? ⟨b, o + 2, none⟩ = some (.slice G p.c.gs.length m) ∧ V.cell? ⟨b, o + 3, none⟩ = some (.int .i64 p.um) ∧ V.cell? ⟨w.heap.size, 1, none⟩ = some (.string (bA c.path)) ∧ V.cell? ⟨w.heap.size, 2, none⟩ = some (.string (bA c.other)) ∧ V.cell? ⟨w.heap.size, 3, none⟩ = some (.int .i64 c.a) ∧ V.cell? ⟨w.heap.size, 4, none⟩ = some (.int .i64 c.b) ∧ V.cell? ⟨w.heap.size, 5, none⟩ = some vd)
    (first | (with_reducible exact HPR.out _ j0.out) | (with_reducible exact HPG.out _ _ j0.out H5.out.1 H5.out.2) | (with_reducible exact HPX.out _ _ j0.out H5.out.1 H5.out.2 _ _ _ _ _ _ _ _ _ _ _ _))
    (first
    | (go_at_call 112; (with_reducible refine (HCL.out _ j0.out).mono ?_); rintro e2 w5 ⟨rfl, ht, hg⟩; obtain ⟨hsq, hfx, hkr, -⟩ := (HM.out.below j0.out).tabbed ht hg; have H5 := Lib.hid (And.intro ht hg); have SQ := Lib.hid hsq; have FX := Lib.hid hfx; have KR := Lib.hid hkr; obtain ⟨x0, x1, x2, x3, x4, x5, x6, x7, x8, x9, x10, x11⟩ := hkr.c12; obtain ⟨f0, f1, f2, f3, f4, f5, f6, f7, f8, f9, f10, f11⟩ := hkr.f12; obtain ⟨s0, s1, s2, s3, s4, s5, s6, s7, s8, s9, s10, s11⟩ := hkr.s12; clear ht hg hsq hfx hkr))
  all_goals (
    go_wp2
    exact bodyPost_ret (v := .agg #[.int .i64 E, .int .i64 0, .int .i64 0, .int .i64 0, .int .i64 0, .int .i64 0, .int .i64 0, .int .i64 0, .int .i64 0, .string ⟨#[]⟩, .slice none 0 0, .slice none 0 0]) (by simp [results, Tryz.results67, go_sem, s0, s1, s2, s3, s4, s5, s6, s7, s8, s9, s10, s11]) rfl (doq_e E SQ.out FX.out KR.out HM.out.lr))
set_option maxHeartbeats 4000000 in
theorem m_symlink : MtC 68 9 := fun s g b cp i S p c vd w h hI hn hp hd hsh => by
  obtain ⟨o, ho⟩ : ∃ o, i * 16 = o := ⟨_, rfl⟩
  obtain ⟨W1, zr, G, m, hW1, hzr, hm⟩ := mw_start (vd := vd) (c := c) h hp ho
  rw [ho]
  have hgs := hI.gs p (List.mem_of_getElem? hp)
  have HM := Lib.hid hm
  obtain ⟨E, hE⟩ : ∃ E, syE S.t p.c c.other c.path = E := ⟨_, rfl⟩
  obtain ⟨T, hT⟩ : ∃ T, syT S.t p.c c.other c.path = T := ⟨_, rfl⟩
  have hK : doK 9 S i p c = (⟨T, S.p⟩, Rsm.e E) := by rw [← hE, ← hT]; rfl
  rw [hK]
  have HCL := Lib.hid (fun (V : World) (hv : Below W1.heap.size W1 V) => show Calls Tryz.prog 113 #[.pointer (some ⟨g, 0, none⟩), .agg #[.int .i64 p.c.u, .int .i64 p.c.g, .slice G p.c.gs.length m], .string (bA c.other), .string (bA c.path)] V fun e w' => e = .returned (.int .i64 E) ∧ TabR w' g T (fun _ => True) ∧ V.grownBy w' (some g) from by
    have h1 := hm.below hv
    obtain ⟨ct, hct, -⟩ := h1.sq.tab.blk
    rw [← hE, ← hT]
    exact symlinkC g S.t (fun _ => True) p.c G p.c.gs.length m c.other c.path V h1.sq.tab h1.sq.tab.ok (h1.pc.crr hgs) (by have := hsh.2.1; omega) (fun _ _ => trivial))
  have HPR := Lib.hid (fun (V : World) (hv : Below W1.heap.size W1 V) => (hm.below hv).all)
  have HPG := Lib.hid (fun (V w5 : World) (hv : Below W1.heap.size W1 V) (ht : TabR w5 g T (fun _ => True)) (hg : V.grownBy w5 (some g)) => (hm.below hv).after ht hg)
  have HPX := Lib.hid (fun (V w5 : World) (hv : Below W1.heap.size W1 V) (ht : TabR w5 g T (fun _ => True)) (hg : V.grownBy w5 (some g)) (u0 u1 u2 u3 u4 u5 u6 u7 u8 u9 u10 u11 : Value) => (hm.below hv).done ht hg u0 u1 u2 u3 u4 u5 u6 u7 u8 u9 u10 u11)
  have HGL := Lib.hid (show ∀ V : World, Below W1.heap.size W1 V → g < V.heap.size from fun V hv => (hm.below hv).sq.tab.lt)
  have j0 := Lib.hid (show Below W1.heap.size W1 W1.drew from (Below.refl _ _).drew)
  clear hm h hI hn hp hd hsh hgs hE hT hK ho
  go_enter Tryz.func68, Tryz.ntmps68
  go_upto_region 1 with fail
  clear hW1 hzr
  go_region_held3 (fun V => V.cell? ⟨s, 0, none⟩ = some (.pointer (some ⟨g, 0, none⟩)) ∧ V.cell? ⟨b, o, none⟩ = some (.int .i64 p.c.u) ∧ V.cell? ⟨b, o + 1, none⟩ = some (.int .i64 p.c.g) ∧ V.cell? ⟨b, o + 2, none⟩ = some (.slice G p.c.gs.length m) ∧ V.cell? ⟨b, o + 3, none⟩ = some (.int .i64 p.um) ∧ V.cell? ⟨w.heap.size, 1, none⟩ = some (.string (bA c.path)) ∧ V.cell? ⟨w.heap.size, 2, none⟩ = some (.string (bA c.other)) ∧ V.cell? ⟨w.heap.size, 3, none⟩ = some (.int .i64 c.a) ∧ V.cell? ⟨w.heap.size, 4, none⟩ = some (.int .i64 c.b) ∧ V.cell? ⟨w.heap.size, 5, none⟩ = some vd)
    (first | (with_reducible exact HPR.out _ j0.out) | (with_reducible exact HPG.out _ _ j0.out H5.out.1 H5.out.2) | (with_reducible exact HPX.out _ _ j0.out H5.out.1 H5.out.2 _ _ _ _ _ _ _ _ _ _ _ _))
    (first
    | (go_at_call 113; (with_reducible refine (HCL.out _ j0.out).mono ?_); rintro e2 w5 ⟨rfl, ht, hg⟩; obtain ⟨hsq, hfx, hkr, -⟩ := (HM.out.below j0.out).tabbed ht hg; have H5 := Lib.hid (And.intro ht hg); have SQ := Lib.hid hsq; have FX := Lib.hid hfx; have KR := Lib.hid hkr; obtain ⟨x0, x1, x2, x3, x4, x5, x6, x7, x8, x9, x10, x11⟩ := hkr.c12; obtain ⟨f0, f1, f2, f3, f4, f5, f6, f7, f8, f9, f10, f11⟩ := hkr.f12; obtain ⟨s0, s1, s2, s3, s4, s5, s6, s7, s8, s9, s10, s11⟩ := hkr.s12; clear ht hg hsq hfx hkr))
  all_goals (
    go_wp2
    exact bodyPost_ret (v := .agg #[.int .i64 E, .int .i64 0, .int .i64 0, .int .i64 0, .int .i64 0, .int .i64 0, .int .i64 0, .int .i64 0, .int .i64 0, .string ⟨#[]⟩, .slice none 0 0, .slice none 0 0]) (by simp [results, Tryz.results68, go_sem, s0, s1, s2, s3, s4, s5, s6, s7, s8, s9, s10, s11]) rfl (doq_e E SQ.out FX.out KR.out HM.out.lr))
set_option maxHeartbeats 4000000 in
theorem m_rmdir : MtC 70 11 := fun s g b cp i S p c vd w h hI hn hp hd hsh => by
  obtain ⟨o, ho⟩ : ∃ o, i * 16 = o := ⟨_, rfl⟩
  obtain ⟨W1, zr, G, m, hW1, hzr, hm⟩ := mw_start (vd := vd) (c := c) h hp ho
  rw [ho]
  have hgs := hI.gs p (List.mem_of_getElem? hp)
  have HM := Lib.hid hm
  obtain ⟨E, hE⟩ : ∃ E, rdE S.t p.c (resM S.t p.c c.path false) = E := ⟨_, rfl⟩
  obtain ⟨T, hT⟩ : ∃ T, rdT S.t p.c (resM S.t p.c c.path false) = T := ⟨_, rfl⟩
  have hK : doK 11 S i p c = (⟨T, S.p⟩, Rsm.e E) := by rw [← hE, ← hT]; rfl
  rw [hK]
  have HCL := Lib.hid (fun (V : World) (hv : Below W1.heap.size W1 V) => show Calls Tryz.prog 115 #[.pointer (some ⟨g, 0, none⟩), .agg #[.int .i64 p.c.u, .int .i64 p.c.g, .slice G p.c.gs.length m], .string (bA c.path)] V fun e w' => e = .returned (.int .i64 E) ∧ TabR w' g T (fun _ => True) ∧ V.grownBy w' (some g) from by
    have h1 := hm.below hv
    obtain ⟨ct, hct, -⟩ := h1.sq.tab.blk
    rw [← hE, ← hT]
    exact pruneC.rd g S.t (fun _ => True) p.c G p.c.gs.length m c.path V h1.sq.tab h1.sq.tab.ok (h1.pc.crr hgs) (h1.pc.gs.off hct (by decide)) (fun _ _ => trivial))
  have HPR := Lib.hid (fun (V : World) (hv : Below W1.heap.size W1 V) => (hm.below hv).all)
  have HPG := Lib.hid (fun (V w5 : World) (hv : Below W1.heap.size W1 V) (ht : TabR w5 g T (fun _ => True)) (hg : V.grownBy w5 (some g)) => (hm.below hv).after ht hg)
  have HPX := Lib.hid (fun (V w5 : World) (hv : Below W1.heap.size W1 V) (ht : TabR w5 g T (fun _ => True)) (hg : V.grownBy w5 (some g)) (u0 u1 u2 u3 u4 u5 u6 u7 u8 u9 u10 u11 : Value) => (hm.below hv).done ht hg u0 u1 u2 u3 u4 u5 u6 u7 u8 u9 u10 u11)
  have HGL := Lib.hid (show ∀ V : World, Below W1.heap.size W1 V → g < V.heap.size from fun V hv => (hm.below hv).sq.tab.lt)
  have j0 := Lib.hid (show Below W1.heap.size W1 W1.drew from (Below.refl _ _).drew)
  clear hm h hI hn hp hd hsh hgs hE hT hK ho
  go_enter Tryz.func70, Tryz.ntmps70
  go_upto_region 1 with fail
  clear hW1 hzr
  go_region_held3 (fun V => V.cell? ⟨s, 0, none⟩ = some (.pointer (some ⟨g, 0, none⟩)) ∧ V.cell? ⟨b, o, none⟩ = some (.int .i64 p.c.u) ∧ V.cell? ⟨b, o + 1, none⟩ = some (.int .i64 p.c.g) ∧ V.cell? ⟨b, o + 2, none⟩ = some (.slice G p.c.gs.length m) ∧ V.cell? ⟨b, o + 3, none⟩ = some (.int .i64 p.um) ∧ V.cell? ⟨w.heap.size, 1, none⟩ = some (.string (bA c.path)) ∧ V.cell? ⟨w.heap.size, 2, none⟩ = some (.string (bA c.other)) ∧ V.cell? ⟨w.heap.size, 3, none⟩ = some (.int .i64 c.a) ∧ V.cell? ⟨w.heap.size, 4, none⟩ = some (.int .i64 c.b) ∧ V.cell? ⟨w.heap.size, 5, none⟩ = some vd)
    (first | (with_reducible exact HPR.out _ j0.out) | (with_reducible exact HPG.out _ _ j0.out H5.out.1 H5.out.2) | (with_reducible exact HPX.out _ _ j0.out H5.out.1 H5.out.2 _ _ _ _ _ _ _ _ _ _ _ _))
    (first
    | (go_at_call 115; (with_reducible refine (HCL.out _ j0.out).mono ?_); rintro e2 w5 ⟨rfl, ht, hg⟩; obtain ⟨hsq, hfx, hkr, -⟩ := (HM.out.below j0.out).tabbed ht hg; have H5 := Lib.hid (And.intro ht hg); have SQ := Lib.hid hsq; have FX := Lib.hid hfx; have KR := Lib.hid hkr; obtain ⟨x0, x1, x2, x3, x4, x5, x6, x7, x8, x9, x10, x11⟩ := hkr.c12; obtain ⟨f0, f1, f2, f3, f4, f5, f6, f7, f8, f9, f10, f11⟩ := hkr.f12; obtain ⟨s0, s1, s2, s3, s4, s5, s6, s7, s8, s9, s10, s11⟩ := hkr.s12; clear ht hg hsq hfx hkr))
  all_goals (
    go_wp2
    exact bodyPost_ret (v := .agg #[.int .i64 E, .int .i64 0, .int .i64 0, .int .i64 0, .int .i64 0, .int .i64 0, .int .i64 0, .int .i64 0, .int .i64 0, .string ⟨#[]⟩, .slice none 0 0, .slice none 0 0]) (by simp [results, Tryz.results70, go_sem, s0, s1, s2, s3, s4, s5, s6, s7, s8, s9, s10, s11]) rfl (doq_e E SQ.out FX.out KR.out HM.out.lr))
set_option maxHeartbeats 4000000 in
theorem m_unlink : MtC 69 10 := fun s g b cp i S p c vd w h hI hn hp hd hsh => by
  obtain ⟨o, ho⟩ : ∃ o, i * 16 = o := ⟨_, rfl⟩
  obtain ⟨W1, zr, G, m, hW1, hzr, hm⟩ := mw_start (vd := vd) (c := c) h hp ho
  rw [ho]
  have hgs := hI.gs p (List.mem_of_getElem? hp)
  have HM := Lib.hid hm
  obtain ⟨E, hE⟩ : ∃ E, ulE S.t p.c (resM S.t p.c c.path false) = E := ⟨_, rfl⟩
  obtain ⟨T, hT⟩ : ∃ T, ulT S.t p.c (resM S.t p.c c.path false) (opnS S) = T := ⟨_, rfl⟩
  have hK : doK 10 S i p c = (⟨T, S.p⟩, Rsm.e E) := by rw [← hE, ← hT]; rfl
  rw [hK]
  have HOP := Lib.hid (fun (V : World) (hv : Below W1.heap.size W1 V) => sopn_any s g b cp S V (hm.sq.below hv) hn)
  have HCL := Lib.hid (fun (V : World) (hv : Below W1.heap.size W1 V) (A9 : Option Addr) (n9 k9 : Nat) (h9 : IntsR V (.slice A9 n9 k9) (opnS S)) (ha : Off A9 (opnS S) g) => show Calls Tryz.prog 114 #[.pointer (some ⟨g, 0, none⟩), .agg #[.int .i64 p.c.u, .int .i64 p.c.g, .slice G p.c.gs.length m], .string (bA c.path), .slice A9 n9 k9] V fun e w' => e = .returned (.int .i64 E) ∧ TabR w' g T (fun _ => True) ∧ V.grownBy w' (some g) from by
    have h1 := hm.below hv
    obtain ⟨ct, hct, -⟩ := h1.sq.tab.blk
    rw [← hE, ← hT]
    exact pruneC.ul g S.t (fun _ => True) p.c G p.c.gs.length m c.path (opnS S) A9 n9 k9 V h1.sq.tab h1.sq.tab.ok (h1.pc.crr hgs) h9 hn (h1.pc.gs.off hct (by decide)) ha (fun _ _ => trivial))
  have HPR := Lib.hid (fun (V : World) (hv : Below W1.heap.size W1 V) => (hm.below hv).all)
  have HPG := Lib.hid (fun (V w5 : World) (hv : Below W1.heap.size W1 V) (ht : TabR w5 g T (fun _ => True)) (hg : V.grownBy w5 (some g)) => (hm.below hv).after ht hg)
  have HPX := Lib.hid (fun (V w5 : World) (hv : Below W1.heap.size W1 V) (ht : TabR w5 g T (fun _ => True)) (hg : V.grownBy w5 (some g)) (u0 u1 u2 u3 u4 u5 u6 u7 u8 u9 u10 u11 : Value) => (hm.below hv).done ht hg u0 u1 u2 u3 u4 u5 u6 u7 u8 u9 u10 u11)
  have HGL := Lib.hid (show ∀ V : World, Below W1.heap.size W1 V → g < V.heap.size from fun V hv => (hm.below hv).sq.tab.lt)
  have j0 := Lib.hid (show Below W1.heap.size W1 W1.drew from (Below.refl _ _).drew)
  clear hm h hI hn hp hd hsh hgs hE hT hK ho
  go_enter Tryz.func69, Tryz.ntmps69
  go_upto_region 1 with fail
  clear hW1 hzr
  go_region_held3 (fun V => V.cell? ⟨s, 0, none⟩ = some (.pointer (some ⟨g, 0, none⟩)) ∧ V.cell? ⟨b, o, none⟩ = some (.int .i64 p.c.u) ∧ V.cell? ⟨b, o + 1, none⟩ = some (.int .i64 p.c.g) ∧ V.cell? ⟨b, o + 2, none⟩ = some (.slice G p.c.gs.length m) ∧ V.cell? ⟨b, o + 3, none⟩ = some (.int .i64 p.um) ∧ V.cell? ⟨w.heap.size, 1, none⟩ = some (.string (bA c.path)) ∧ V.cell? ⟨w.heap.size, 2, none⟩ = some (.string (bA c.other)) ∧ V.cell? ⟨w.heap.size, 3, none⟩ = some (.int .i64 c.a) ∧ V.cell? ⟨w.heap.size, 4, none⟩ = some (.int .i64 c.b) ∧ V.cell? ⟨w.heap.size, 5, none⟩ = some vd)
    (first | (with_reducible exact HPR.out _ j0.out) | (with_reducible exact HPR.out _ j1.out) | (with_reducible exact HPG.out _ _ j1.out H5.out.1 H5.out.2) | (with_reducible exact HPX.out _ _ j1.out H5.out.1 H5.out.2 _ _ _ _ _ _ _ _ _ _ _ _))
    (first
    | (go_at_call 20; (with_reducible refine (HOP.out _ j0.out).mono ?_); rintro e1 w4 ⟨A9, n9, k9, rfl, hi9, ha9, hb9⟩; have j1 := Lib.hid (bt hb9 j0.out); have I9 := Lib.hid hi9; have O9 := Lib.hid (show Off A9 (opnS S) g from fun _ ad hA q => by have h1 := ha9 ad hA; have h2 := HGL.out _ j0.out; omega); clear hi9 ha9 hb9)
    | (go_at_call 114; (with_reducible refine (HCL.out _ j1.out A9 n9 k9 I9.out O9.out).mono ?_); rintro e2 w5 ⟨rfl, ht, hg⟩; obtain ⟨hsq, hfx, hkr, -⟩ := (HM.out.below j1.out).tabbed ht hg; have H5 := Lib.hid (And.intro ht hg); have SQ := Lib.hid hsq; have FX := Lib.hid hfx; have KR := Lib.hid hkr; obtain ⟨x0, x1, x2, x3, x4, x5, x6, x7, x8, x9, x10, x11⟩ := hkr.c12; obtain ⟨f0, f1, f2, f3, f4, f5, f6, f7, f8, f9, f10, f11⟩ := hkr.f12; obtain ⟨s0, s1, s2, s3, s4, s5, s6, s7, s8, s9, s10, s11⟩ := hkr.s12; clear ht hg hsq hfx hkr))
  all_goals (
    go_wp2
    exact bodyPost_ret (v := .agg #[.int .i64 E, .int .i64 0, .int .i64 0, .int .i64 0, .int .i64 0, .int .i64 0, .int .i64 0, .int .i64 0, .int .i64 0, .string ⟨#[]⟩, .slice none 0 0, .slice none 0 0]) (by simp [results, Tryz.results69, go_sem, s0, s1, s2, s3, s4, s5, s6, s7, s8, s9, s10, s11]) rfl (doq_e E SQ.out FX.out KR.out HM.out.lr))
set_option maxHeartbeats 4000000 in
theorem m_rename : MtC 71 12 := fun s g b cp i S p c vd w h hI hn hp hd hsh => by
  obtain ⟨o, ho⟩ : ∃ o, i * 16 = o := ⟨_, rfl⟩
  obtain ⟨W1, zr, G, m, hW1, hzr, hm⟩ := mw_start (vd := vd) (c := c) h hp ho
  rw [ho]
  have hgs := hI.gs p (List.mem_of_getElem? hp)
  have HM := Lib.hid hm
  obtain ⟨E, hE⟩ : ∃ E, mvE S.t p.c (resM S.t p.c c.path false) (resM S.t p.c c.other false) = E := ⟨_, rfl⟩
  obtain ⟨T, hT⟩ : ∃ T, mvT S.t p.c (resM S.t p.c c.path false) (resM S.t p.c c.other false) (opnS S) = T := ⟨_, rfl⟩
  have hK : doK 12 S i p c = (⟨T, S.p⟩, Rsm.e E) := by rw [← hE, ← hT]; rfl
  rw [hK]
  have HOP := Lib.hid (fun (V : World) (hv : Below W1.heap.size W1 V) => sopn_any s g b cp S V (hm.sq.below hv) hn)
  have HCL := Lib.hid (fun (V : World) (hv : Below W1.heap.size W1 V) (A9 : Option Addr) (n9 k9 : Nat) (h9 : IntsR V (.slice A9 n9 k9) (opnS S)) (ha : Off A9 (opnS S) g) => show Calls Tryz.prog 116 #[.pointer (some ⟨g, 0, none⟩), .agg #[.int .i64 p.c.u, .int .i64 p.c.g, .slice G p.c.gs.length m], .string (bA c.path), .string (bA c.other), .slice A9 n9 k9] V fun e w' => e = .returned (.int .i64 E) ∧ TabR w' g T (fun _ => True) ∧ V.grownBy w' (some g) from by
    have h1 := hm.below hv
    obtain ⟨ct, hct, -⟩ := h1.sq.tab.blk
    rw [← hE, ← hT]
    exact pruneC.rn g S.t (fun _ => True) p.c G p.c.gs.length m c.path c.other (opnS S) A9 n9 k9 V h1.sq.tab h1.sq.tab.ok (h1.pc.crr hgs) h9 hn (h1.pc.gs.off hct (by decide)) ha (fun _ _ => trivial))
  have HPR := Lib.hid (fun (V : World) (hv : Below W1.heap.size W1 V) => (hm.below hv).all)
  have HPG := Lib.hid (fun (V w5 : World) (hv : Below W1.heap.size W1 V) (ht : TabR w5 g T (fun _ => True)) (hg : V.grownBy w5 (some g)) => (hm.below hv).after ht hg)
  have HPX := Lib.hid (fun (V w5 : World) (hv : Below W1.heap.size W1 V) (ht : TabR w5 g T (fun _ => True)) (hg : V.grownBy w5 (some g)) (u0 u1 u2 u3 u4 u5 u6 u7 u8 u9 u10 u11 : Value) => (hm.below hv).done ht hg u0 u1 u2 u3 u4 u5 u6 u7 u8 u9 u10 u11)
  have HGL := Lib.hid (show ∀ V : World, Below W1.heap.size W1 V → g < V.heap.size from fun V hv => (hm.below hv).sq.tab.lt)
  have j0 := Lib.hid (show Below W1.heap.size W1 W1.drew from (Below.refl _ _).drew)
  clear hm h hI hn hp hd hsh hgs hE hT hK ho
  go_enter Tryz.func71, Tryz.ntmps71
  go_upto_region 1 with fail
  clear hW1 hzr
  go_region_held3 (fun V => V.cell? ⟨s, 0, none⟩ = some (.pointer (some ⟨g, 0, none⟩)) ∧ V.cell? ⟨b, o, none⟩ = some (.int .i64 p.c.u) ∧ V.cell? ⟨b, o + 1, none⟩ = some (.int .i64 p.c.g) ∧ V.cell? ⟨b, o + 2, none⟩ = some (.slice G p.c.gs.length m) ∧ V.cell? ⟨b, o + 3, none⟩ = some (.int .i64 p.um) ∧ V.cell? ⟨w.heap.size, 1, none⟩ = some (.string (bA c.path)) ∧ V.cell? ⟨w.heap.size, 2, none⟩ = some (.string (bA c.other)) ∧ V.cell? ⟨w.heap.size, 3, none⟩ = some (.int .i64 c.a) ∧ V.cell? ⟨w.heap.size, 4, none⟩ = some (.int .i64 c.b) ∧ V.cell? ⟨w.heap.size, 5, none⟩ = some vd)
    (first | (with_reducible exact HPR.out _ j0.out) | (with_reducible exact HPR.out _ j1.out) | (with_reducible exact HPG.out _ _ j1.out H5.out.1 H5.out.2) | (with_reducible exact HPX.out _ _ j1.out H5.out.1 H5.out.2 _ _ _ _ _ _ _ _ _ _ _ _))
    (first
    | (go_at_call 20; (with_reducible refine (HOP.out _ j0.out).mono ?_); rintro e1 w4 ⟨A9, n9, k9, rfl, hi9, ha9, hb9⟩; have j1 := Lib.hid (bt hb9 j0.out); have I9 := Lib.hid hi9; have O9 := Lib.hid (show Off A9 (opnS S) g from fun _ ad hA q => by have h1 := ha9 ad hA; have h2 := HGL.out _ j0.out; omega); clear hi9 ha9 hb9)
    | (go_at_call 116; (with_reducible refine (HCL.out _ j1.out A9 n9 k9 I9.out O9.out).mono ?_); rintro e2 w5 ⟨rfl, ht, hg⟩; obtain ⟨hsq, hfx, hkr, -⟩ := (HM.out.below j1.out).tabbed ht hg; have H5 := Lib.hid (And.intro ht hg); have SQ := Lib.hid hsq; have FX := Lib.hid hfx; have KR := Lib.hid hkr; obtain ⟨x0, x1, x2, x3, x4, x5, x6, x7, x8, x9, x10, x11⟩ := hkr.c12; obtain ⟨f0, f1, f2, f3, f4, f5, f6, f7, f8, f9, f10, f11⟩ := hkr.f12; obtain ⟨s0, s1, s2, s3, s4, s5, s6, s7, s8, s9, s10, s11⟩ := hkr.s12; clear ht hg hsq hfx hkr))
  all_goals (
    go_wp2
    exact bodyPost_ret (v := .agg #[.int .i64 E, .int .i64 0, .int .i64 0, .int .i64 0, .int .i64 0, .int .i64 0, .int .i64 0, .int .i64 0, .int .i64 0, .string ⟨#[]⟩, .slice none 0 0, .slice none 0 0]) (by simp [results, Tryz.results71, go_sem, s0, s1, s2, s3, s4, s5, s6, s7, s8, s9, s10, s11]) rfl (doq_e E SQ.out FX.out KR.out HM.out.lr))
end Go.Proofs.YtkmkfolpjlkfoaaGreat
namespace Go.Proofs.YtkmkfolpjlkfoaaGreat
open Go Go.RowKit
set_option maxRecDepth 100000

attribute [local go_sem] cell_off4 cell_blk4
theorem st_below {W1 w5 : World} {z : Nat} (hb : Below W1.heap.size W1 w5) (hz : W1.heap.size ≤ z) (u0 u1 u2 u3 u4 u5 u6 : Value) : Below W1.heap.size W1 (((((((w5.setCell ⟨z, 0, none⟩ u0).setCell ⟨z, 1, none⟩ u1).setCell ⟨z, 2, none⟩ u2).setCell ⟨z, 3, none⟩ u3).setCell ⟨z, 4, none⟩ u4).setCell ⟨z, 5, none⟩ u5).setCell ⟨z, 6, none⟩ u6) := below_grown hb (grown7 w5 z u0 u1 u2 u3 u4 u5 u6) hz
theorem st_put {W1 w5 : World} {z : Nat} {a0 a1 a2 a3 a4 a5 a6 : Value} (hk : Blk w5 z 53 #[a0, a1, a2, a3, a4, a5, a6]) (hb : Below W1.heap.size W1 w5) (hz : W1.heap.size ≤ z) (u0 u1 u2 u3 u4 u5 u6 : Value) : Below W1.heap.size W1 (((((((w5.setCell ⟨z, 0, none⟩ u0).setCell ⟨z, 1, none⟩ u1).setCell ⟨z, 2, none⟩ u2).setCell ⟨z, 3, none⟩ u3).setCell ⟨z, 4, none⟩ u4).setCell ⟨z, 5, none⟩ u5).setCell ⟨z, 6, none⟩ u6) ∧ Blk (((((((w5.setCell ⟨z, 0, none⟩ u0).setCell ⟨z, 1, none⟩ u1).setCell ⟨z, 2, none⟩ u2).setCell ⟨z, 3, none⟩ u3).setCell ⟨z, 4, none⟩ u4).setCell ⟨z, 5, none⟩ u5).setCell ⟨z, 6, none⟩ u6) z 53 #[u0, u1, u2, u3, u4, u5, u6] :=
  ⟨below_grown hb (grown7 w5 z u0 u1 u2 u3 u4 u5 u6) hz, hk.put7 u0 u1 u2 u3 u4 u5 u6⟩
set_option maxHeartbeats 4000000 in
theorem m_stat : MtC 60 1 := fun s g b cp i S p c vd w h hI hn hp hd hsh => by
  obtain ⟨o, ho⟩ : ∃ o, i * 16 = o := ⟨_, rfl⟩
  obtain ⟨W1, zr, G, m, hW1, hzr, hm⟩ := mw_start (vd := vd) (c := c) h hp ho
  rw [ho]
  have hgs := hI.gs p (List.mem_of_getElem? hp)
  have HM := Lib.hid hm
  obtain ⟨st, E, hX⟩ : ∃ st E, staM S.t p.c c.path true = (st, E) := ⟨_, _, rfl⟩
  have hK : doK 1 S i p c = (S, ⟨E, 0, st, [], [], []⟩) := by
    show (S, _) = _
    rw [hX]
  rw [hK]
  have HCL := Lib.hid (fun (V : World) (hv : Below W1.heap.size W1 V) => show Calls Tryz.prog 106 #[.pointer (some ⟨g, 0, none⟩), .agg #[.int .i64 p.c.u, .int .i64 p.c.g, .slice G p.c.gs.length m], .string (bA c.path)] V fun e w' => e = .returned (.tuple #[.agg #[.int .i64 st.node, .int .i64 st.kind, .int .i64 st.mode, .int .i64 st.uid, .int .i64 st.gid, .int .i64 st.links, .int .i64 st.size], .int .i64 E]) ∧ Below V.heap.size V w' from by
    have h1 := hm.below hv
    exact stat_any (.pointer (some ⟨g, 0, none⟩)) S.t p.c G p.c.gs.length m c.path V h1.sq.tab.ptr (h1.pc.crr hgs) (st, E) hX)
  have HPR := Lib.hid (fun (V : World) (hv : Below W1.heap.size W1 V) => (hm.below hv).all)
  have j0 := Lib.hid (show Below W1.heap.size W1 W1.drew from (Below.refl _ _).drew)
  have ja := Lib.hid (show Below W1.heap.size W1 (W1.alloc (.cells #[.int .i64 0, .int .i64 0, .int .i64 0, .int .i64 0, .int .i64 0, .int .i64 0, .int .i64 0] 53)).drew from (ba W1 _).drew)
  have HKA := Lib.hid (show Blk (W1.alloc (.cells #[.int .i64 0, .int .i64 0, .int .i64 0, .int .i64 0, .int .i64 0, .int .i64 0, .int .i64 0] 53)).drew W1.heap.size 53 #[.int .i64 0, .int .i64 0, .int .i64 0, .int .i64 0, .int .i64 0, .int .i64 0, .int .i64 0] from (Blk.new W1 _ _).below (Below.refl _ _).drew)
  have HPS := Lib.hid (fun (V : World) (hv : Below W1.heap.size W1 V) (u0 u1 u2 u3 u4 u5 u6 : Value) => (hm.below (st_below hv (Nat.le_refl _) u0 u1 u2 u3 u4 u5 u6)).all)
  clear hm h hI hn hp hd hsh hgs hX hK ho
  go_enter Tryz.func60, Tryz.ntmps60
  go_upto_region 1 with fail
  clear hW1 hzr
  go_cut [7, 8] (fun s7 s8 wx => ∃ z, s7 = .pointer (some ⟨z, 0, none⟩) ∧ s8 = .int .i64 E ∧ Below W1.heap.size W1 wx ∧ Blk wx z 53 #[.int .i64 st.node, .int .i64 st.kind, .int .i64 st.mode, .int .i64 st.uid, .int .i64 st.gid, .int .i64 st.links, .int .i64 st.size])
  case first =>
    go_region_held3 (fun V => V.cell? ⟨s, 0, none⟩ = some (.pointer (some ⟨g, 0, none⟩)) ∧ V.cell? ⟨b, o, none⟩ = some (.int .i64 p.c.u) ∧ V.cell? ⟨b, o + 1, none⟩ = some (.int .i64 p.c.g) ∧ V.cell? ⟨b, o + 2, none⟩ = some (.slice G p.c.gs.length m) ∧ V.cell? ⟨b, o + 3, none⟩ = some (.int .i64 p.um) ∧ V.cell? ⟨w.heap.size, 1, none⟩ = some (.string (bA c.path)) ∧ V.cell? ⟨w.heap.size, 2, none⟩ = some (.string (bA c.other)) ∧ V.cell? ⟨w.heap.size, 3, none⟩ = some (.int .i64 c.a) ∧ V.cell? ⟨w.heap.size, 4, none⟩ = some (.int .i64 c.b) ∧ V.cell? ⟨w.heap.size, 5, none⟩ = some vd)
      (first | (with_reducible exact HPR.out _ j0.out) | (with_reducible exact HPR.out _ ja.out) | (with_reducible exact HPR.out _ j1.out) | (with_reducible exact HPR.out _ (al j1.out _)) | (with_reducible exact HPS.out _ j1.out _ _ _ _ _ _ _))
      (first
      | (go_at_call 106; (with_reducible refine (HCL.out W1.drew j0.out).mono ?_); rintro e2 w5 ⟨rfl, hb5⟩; have j1 := Lib.hid (bt hb5 j0.out); clear hb5)
      | (go_at_call 106; (with_reducible refine (HCL.out (W1.alloc (.cells #[.int .i64 0, .int .i64 0, .int .i64 0, .int .i64 0, .int .i64 0, .int .i64 0, .int .i64 0] 53)).drew ja.out).mono ?_); rintro e2 w5 ⟨rfl, hb5⟩; have j1 := Lib.hid (bt hb5 ja.out); have hk5 := HKA.out.below hb5; have K5 := Lib.hid hk5; obtain ⟨y0, y1, y2, y3, y4, y5, y6⟩ := hk5.c7; obtain ⟨g0, g1, g2, g3, g4, g5, g6⟩ := hk5.f7; obtain ⟨t0, t1, t2, t3, t4, t5, t6⟩ := hk5.s7; clear hb5 hk5))
    all_goals (
      go_wp2
      go_meet
      first
        | with_reducible exact ⟨_, rfl, rfl, st_put K5.out j1.out (Nat.le_refl _) _ _ _ _ _ _ _⟩
        | exact ⟨_, rfl, rfl, al j1.out _, Blk.new _ _ _⟩)
  case rest =>
  obtain ⟨z, rfl, rfl, hbx, hkx⟩ := hcut
  have HM5 := Lib.hid (HM.out.below hbx)
  obtain ⟨y0, y1, y2, y3, y4, y5, y6⟩ := hkx.c7
  obtain ⟨x0, x1, x2, x3, x4, x5, x6, x7, x8, x9, x10, x11⟩ := HM5.out.kr.c12
  obtain ⟨f0, f1, f2, f3, f4, f5, f6, f7, f8, f9, f10, f11⟩ := HM5.out.kr.f12
  obtain ⟨s0, s1, s2, s3, s4, s5, s6, s7, s8, s9, s10, s11⟩ := HM5.out.kr.s12
  clear hbx hkx HCL HPR HPS j0 ja HKA
  go_wp2
  exact bodyPost_ret (v := .agg #[.int .i64 E, .int .i64 0, .int .i64 st.node, .int .i64 st.kind, .int .i64 st.mode, .int .i64 st.uid, .int .i64 st.gid, .int .i64 st.links, .int .i64 st.size, .string ⟨#[]⟩, .slice none 0 0, .slice none 0 0]) (by simp [results, Tryz.results60, go_sem, s0, s1, s2, s3, s4, s5, s6, s7, s8, s9, s10, s11]) rfl (doq_s E st HM5.out.sq (Fix.of_below HM5.out.blo) HM5.out.kr HM5.out.lr)
set_option maxHeartbeats 4000000 in
theorem m_lstat : MtC 61 2 := fun s g b cp i S p c vd w h hI hn hp hd hsh => by
  obtain ⟨o, ho⟩ : ∃ o, i * 16 = o := ⟨_, rfl⟩
  obtain ⟨W1, zr, G, m, hW1, hzr, hm⟩ := mw_start (vd := vd) (c := c) h hp ho
  rw [ho]
  have hgs := hI.gs p (List.mem_of_getElem? hp)
  have HM := Lib.hid hm
  obtain ⟨st, E, hX⟩ : ∃ st E, staM S.t p.c c.path false = (st, E) := ⟨_, _, rfl⟩
  have hK : doK 2 S i p c = (S, ⟨E, 0, st, [], [], []⟩) := by
    show (S, _) = _
    rw [hX]
  rw [hK]
  have HCL := Lib.hid (fun (V : World) (hv : Below W1.heap.size W1 V) => show Calls Tryz.prog 107 #[.pointer (some ⟨g, 0, none⟩), .agg #[.int .i64 p.c.u, .int .i64 p.c.g, .slice G p.c.gs.length m], .string (bA c.path)] V fun e w' => e = .returned (.tuple #[.agg #[.int .i64 st.node, .int .i64 st.kind, .int .i64 st.mode, .int .i64 st.uid, .int .i64 st.gid, .int .i64 st.links, .int .i64 st.size], .int .i64 E]) ∧ Below V.heap.size V w' from by
    have h1 := hm.below hv
    exact lstat_any (.pointer (some ⟨g, 0, none⟩)) S.t p.c G p.c.gs.length m c.path V h1.sq.tab.ptr (h1.pc.crr hgs) (st, E) hX)
  have HPR := Lib.hid (fun (V : World) (hv : Below W1.heap.size W1 V) => (hm.below hv).all)
  have j0 := Lib.hid (show Below W1.heap.size W1 W1.drew from (Below.refl _ _).drew)
  have ja := Lib.hid (show Below W1.heap.size W1 (W1.alloc (.cells #[.int .i64 0, .int .i64 0, .int .i64 0, .int .i64 0, .int .i64 0, .int .i64 0, .int .i64 0] 53)).drew from (ba W1 _).drew)
  have HKA := Lib.hid (show Blk (W1.alloc (.cells #[.int .i64 0, .int .i64 0, .int .i64 0, .int .i64 0, .int .i64 0, .int .i64 0, .int .i64 0] 53)).drew W1.heap.size 53 #[.int .i64 0, .int .i64 0, .int .i64 0, .int .i64 0, .int .i64 0, .int .i64 0, .int .i64 0] from (Blk.new W1 _ _).below (Below.refl _ _).drew)
  have HPS := Lib.hid (fun (V : World) (hv : Below W1.heap.size W1 V) (u0 u1 u2 u3 u4 u5 u6 : Value) => (hm.below (st_below hv (Nat.le_refl _) u0 u1 u2 u3 u4 u5 u6)).all)
  clear hm h hI hn hp hd hsh hgs hX hK ho
  go_enter Tryz.func61, Tryz.ntmps61
  go_upto_region 1 with fail
  clear hW1 hzr
  go_cut [7, 8] (fun s7 s8 wx => ∃ z, s7 = .pointer (some ⟨z, 0, none⟩) ∧ s8 = .int .i64 E ∧ Below W1.heap.size W1 wx ∧ Blk wx z 53 #[.int .i64 st.node, .int .i64 st.kind, .int .i64 st.mode, .int .i64 st.uid, .int .i64 st.gid, .int .i64 st.links, .int .i64 st.size])
  case first =>
    go_region_held3 (fun V => V.cell? ⟨s, 0, none⟩ = some (.pointer (some ⟨g, 0, none⟩)) ∧ V.cell? ⟨b, o, none⟩ = some (.int .i64 p.c.u) ∧ V.cell? ⟨b, o + 1, none⟩ = some (.int .i64 p.c.g) ∧ V.cell? ⟨b, o + 2, none⟩ = some (.slice G p.c.gs.length m) ∧ V.cell? ⟨b, o + 3, none⟩ = some (.int .i64 p.um) ∧ V.cell? ⟨w.heap.size, 1, none⟩ = some (.string (bA c.path)) ∧ V.cell? ⟨w.heap.size, 2, none⟩ = some (.string (bA c.other)) ∧ V.cell? ⟨w.heap.size, 3, none⟩ = some (.int .i64 c.a) ∧ V.cell? ⟨w.heap.size, 4, none⟩ = some (.int .i64 c.b) ∧ V.cell? ⟨w.heap.size, 5, none⟩ = some vd)
      (first | (with_reducible exact HPR.out _ j0.out) | (with_reducible exact HPR.out _ ja.out) | (with_reducible exact HPR.out _ j1.out) | (with_reducible exact HPR.out _ (al j1.out _)) | (with_reducible exact HPS.out _ j1.out _ _ _ _ _ _ _))
      (first
      | (go_at_call 107; (with_reducible refine (HCL.out W1.drew j0.out).mono ?_); rintro e2 w5 ⟨rfl, hb5⟩; have j1 := Lib.hid (bt hb5 j0.out); clear hb5)
      | (go_at_call 107; (with_reducible refine (HCL.out (W1.alloc (.cells #[.int .i64 0, .int .i64 0, .int .i64 0, .int .i64 0, .int .i64 0, .int .i64 0, .int .i64 0] 53)).drew ja.out).mono ?_); rintro e2 w5 ⟨rfl, hb5⟩; have j1 := Lib.hid (bt hb5 ja.out); have hk5 := HKA.out.below hb5; have K5 := Lib.hid hk5; obtain ⟨y0, y1, y2, y3, y4, y5, y6⟩ := hk5.c7; obtain ⟨g0, g1, g2, g3, g4, g5, g6⟩ := hk5.f7; obtain ⟨t0, t1, t2, t3, t4, t5, t6⟩ := hk5.s7; clear hb5 hk5))
    all_goals (
      go_wp2
      go_meet
      first
        | with_reducible exact ⟨_, rfl, rfl, st_put K5.out j1.out (Nat.le_refl _) _ _ _ _ _ _ _⟩
        | exact ⟨_, rfl, rfl, al j1.out _, Blk.new _ _ _⟩)
  case rest =>
  obtain ⟨z, rfl, rfl, hbx, hkx⟩ := hcut
  have HM5 := Lib.hid (HM.out.below hbx)
  obtain ⟨y0, y1, y2, y3, y4, y5, y6⟩ := hkx.c7
  obtain ⟨x0, x1, x2, x3, x4, x5, x6, x7, x8, x9, x10, x11⟩ := HM5.out.kr.c12
  obtain ⟨f0, f1, f2, f3, f4, f5, f6, f7, f8, f9, f10, f11⟩ := HM5.out.kr.f12
  obtain ⟨s0, s1, s2, s3, s4, s5, s6, s7, s8, s9, s10, s11⟩ := HM5.out.kr.s12
  clear hbx hkx HCL HPR HPS j0 ja HKA
  go_wp2
  exact bodyPost_ret (v := .agg #[.int .i64 E, .int .i64 0, .int .i64 st.node, .int .i64 st.kind, .int .i64 st.mode, .int .i64 st.uid, .int .i64 st.gid, .int .i64 st.links, .int .i64 st.size, .string ⟨#[]⟩, .slice none 0 0, .slice none 0 0]) (by simp [results, Tryz.results61, go_sem, s0, s1, s2, s3, s4, s5, s6, s7, s8, s9, s10, s11]) rfl (doq_s E st HM5.out.sq (Fix.of_below HM5.out.blo) HM5.out.kr HM5.out.lr)
set_option maxHeartbeats 4000000 in
theorem m_readlink : MtC 62 3 := fun s g b cp i S p c vd w h hI hn hp hd hsh => by
  obtain ⟨o, ho⟩ : ∃ o, i * 16 = o := ⟨_, rfl⟩
  obtain ⟨W1, zr, G, m, hW1, hzr, hm⟩ := mw_start (vd := vd) (c := c) h hp ho
  rw [ho]
  have hgs := hI.gs p (List.mem_of_getElem? hp)
  have HM := Lib.hid hm
  obtain ⟨X, E, hX⟩ : ∃ X E, rdlM S.t p.c c.path = (X, E) := ⟨_, _, rfl⟩
  have hK : doK 3 S i p c = (S, ⟨E, 0, Sta.zero, X, [], []⟩) := by
    show (S, _) = _
    rw [hX]
  rw [hK]
  have HCL := Lib.hid (fun (V : World) (hv : Below W1.heap.size W1 V) => show Calls Tryz.prog 108 #[.pointer (some ⟨g, 0, none⟩), .agg #[.int .i64 p.c.u, .int .i64 p.c.g, .slice G p.c.gs.length m], .string (bA c.path)] V fun e w' => e = .returned (.tuple #[.string (bA X), .int .i64 E]) ∧ Below V.heap.size V w' from by
    have h1 := hm.below hv
    exact readlink_any (.pointer (some ⟨g, 0, none⟩)) S.t p.c G p.c.gs.length m c.path V h1.sq.tab.ptr (h1.pc.crr hgs) (X, E) hX)
  have HPR := Lib.hid (fun (V : World) (hv : Below W1.heap.size W1 V) => (hm.below hv).all)
  have j0 := Lib.hid (show Below W1.heap.size W1 W1.drew from (Below.refl _ _).drew)
  clear hm h hI hn hp hd hsh hgs hX hK ho
  go_enter Tryz.func62, Tryz.ntmps62
  go_upto_region 1 with fail
  clear hW1 hzr
  go_region_held3 (fun V => V.cell? ⟨s, 0, none⟩ = some (.pointer (some ⟨g, 0, none⟩)) ∧ V.cell? ⟨b, o, none⟩ = some (.int .i64 p.c.u) ∧ V.cell? ⟨b, o + 1, none⟩ = some (.int .i64 p.c.g) ∧ V.cell? ⟨b, o + 2, none⟩ = some (.slice G p.c.gs.length m) ∧ V.cell? ⟨b, o + 3, none⟩ = some (.int .i64 p.um) ∧ V.cell? ⟨w.heap.size, 1, none⟩ = some (.string (bA c.path)) ∧ V.cell? ⟨w.heap.size, 2, none⟩ = some (.string (bA c.other)) ∧ V.cell? ⟨w.heap.size, 3, none⟩ = some (.int .i64 c.a) ∧ V.cell? ⟨w.heap.size, 4, none⟩ = some (.int .i64 c.b) ∧ V.cell? ⟨w.heap.size, 5, none⟩ = some vd)
    (first | (with_reducible exact HPR.out _ j0.out) | (with_reducible exact HPR.out _ j1.out))
    (first
    | (go_at_call 108; (with_reducible refine (HCL.out _ j0.out).mono ?_); rintro e2 w5 ⟨rfl, hb5⟩; have j1 := Lib.hid (bt hb5 j0.out); have HM5 := Lib.hid (HM.out.below j1.out); obtain ⟨x0, x1, x2, x3, x4, x5, x6, x7, x8, x9, x10, x11⟩ := HM5.out.kr.c12; obtain ⟨f0, f1, f2, f3, f4, f5, f6, f7, f8, f9, f10, f11⟩ := HM5.out.kr.f12; obtain ⟨s0, s1, s2, s3, s4, s5, s6, s7, s8, s9, s10, s11⟩ := HM5.out.kr.s12; clear hb5))
  all_goals (
    go_wp2
    exact bodyPost_ret (v := .agg #[.int .i64 E, .int .i64 0, .int .i64 0, .int .i64 0, .int .i64 0, .int .i64 0, .int .i64 0, .int .i64 0, .int .i64 0, .string (bA X), .slice none 0 0, .slice none 0 0]) (by simp [results, Tryz.results62, go_sem, s0, s1, s2, s3, s4, s5, s6, s7, s8, s9, s10, s11]) rfl (doq_t E X HM5.out.sq (Fix.of_below HM5.out.blo) HM5.out.kr HM5.out.lr))
set_option maxHeartbeats 4000000 in
theorem m_list : MtC 63 4 := fun s g b cp i S p c vd w h hI hn hp hd hsh => by
  obtain ⟨o, ho⟩ : ∃ o, i * 16 = o := ⟨_, rfl⟩
  obtain ⟨W1, zr, G, m, hW1, hzr, hm⟩ := mw_start (vd := vd) (c := c) h hp ho
  rw [ho]
  have hgs := hI.gs p (List.mem_of_getElem? hp)
  have HM := Lib.hid hm
  obtain ⟨X, E, hX⟩ : ∃ X E, lstM S.t p.c c.path = (X, E) := ⟨_, _, rfl⟩
  have hK : doK 4 S i p c = (S, ⟨E, 0, Sta.zero, [], X, []⟩) := by
    show (S, _) = _
    rw [hX]
  rw [hK]
  have HCL := Lib.hid (fun (V : World) (hv : Below W1.heap.size W1 V) => show Calls Tryz.prog 109 #[.pointer (some ⟨g, 0, none⟩), .agg #[.int .i64 p.c.u, .int .i64 p.c.g, .slice G p.c.gs.length m], .string (bA c.path)] V fun e w' => ∃ A n k, e = .returned (.tuple #[.slice A n k, .int .i64 E]) ∧ (StrsR w' (.slice A n k) (nmA X) ∧ StrK w' (.slice A n k)) ∧ Below V.heap.size V w' from by
    have h1 := hm.below hv
    refine (listT_any (.pointer (some ⟨g, 0, none⟩)) S.t p.c G p.c.gs.length m c.path V h1.sq.tab.ptr (h1.pc.crr hgs) (X, E) hX).mono ?_
    rintro e w' ⟨u, rfl, hu, hb⟩
    obtain ⟨A, k9, rfl⟩ := strs_form hu.1 rfl
    exact ⟨A, _, k9, rfl, hu, hb⟩)
  have HPR := Lib.hid (fun (V : World) (hv : Below W1.heap.size W1 V) => (hm.below hv).all)
  have j0 := Lib.hid (show Below W1.heap.size W1 W1.drew from (Below.refl _ _).drew)
  clear hm h hI hn hp hd hsh hgs hX hK ho
  go_enter Tryz.func63, Tryz.ntmps63
  go_upto_region 1 with fail
  clear hW1 hzr
  go_region_held3 (fun V => V.cell? ⟨s, 0, none⟩ = some (.pointer (some ⟨g, 0, none⟩)) ∧ V.cell? ⟨b, o, none⟩ = some (.int .i64 p.c.u) ∧ V.cell? ⟨b, o + 1, none⟩ = some (.int .i64 p.c.g) ∧ V.cell? ⟨b, o + 2, none⟩ = some (.slice G p.c.gs.length m) ∧ V.cell? ⟨b, o + 3, none⟩ = some (.int .i64 p.um) ∧ V.cell? ⟨w.heap.size, 1, none⟩ = some (.string (bA c.path)) ∧ V.cell? ⟨w.heap.size, 2, none⟩ = some (.string (bA c.other)) ∧ V.cell? ⟨w.heap.size, 3, none⟩ = some (.int .i64 c.a) ∧ V.cell? ⟨w.heap.size, 4, none⟩ = some (.int .i64 c.b) ∧ V.cell? ⟨w.heap.size, 5, none⟩ = some vd)
    (first | (with_reducible exact HPR.out _ j0.out) | (with_reducible exact HPR.out _ j1.out))
    (first
    | (go_at_call 109; (with_reducible refine (HCL.out _ j0.out).mono ?_); rintro e2 w5 ⟨A9, n9, k9, rfl, hu5, hb5⟩; have j1 := Lib.hid (bt hb5 j0.out); have U5 := Lib.hid hu5; clear hu5; have HM5 := Lib.hid (HM.out.below j1.out); obtain ⟨x0, x1, x2, x3, x4, x5, x6, x7, x8, x9, x10, x11⟩ := HM5.out.kr.c12; obtain ⟨f0, f1, f2, f3, f4, f5, f6, f7, f8, f9, f10, f11⟩ := HM5.out.kr.f12; obtain ⟨s0, s1, s2, s3, s4, s5, s6, s7, s8, s9, s10, s11⟩ := HM5.out.kr.s12; clear hb5))
  all_goals (
    go_wp2
    exact bodyPost_ret (v := .agg #[.int .i64 E, .int .i64 0, .int .i64 0, .int .i64 0, .int .i64 0, .int .i64 0, .int .i64 0, .int .i64 0, .int .i64 0, .string ⟨#[]⟩, .slice A9 n9 k9, .slice none 0 0]) (by simp [results, Tryz.results63, go_sem, s0, s1, s2, s3, s4, s5, s6, s7, s8, s9, s10, s11]) rfl (doq_n E X A9 n9 k9 HM5.out.sq (Fix.of_below HM5.out.blo) HM5.out.kr HM5.out.lr U5.out.1 U5.out.2))
end Go.Proofs.YtkmkfolpjlkfoaaGreat
