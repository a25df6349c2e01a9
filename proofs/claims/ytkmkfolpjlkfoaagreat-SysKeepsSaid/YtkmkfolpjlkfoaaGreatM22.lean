/-
  Package sys: the functions Umask, Read and Write of calls. The conditions are said at each. Package sys: the functions Close and Exit of calls. The conditions are said at each.
-/
import Derived.Test.YtkmkfolpjlkfoaaGreatM13
import Derived.Test.YtkmkfolpjlkfoaaGreatM15
import Derived.Test.YtkmkfolpjlkfoaaGreatM18
import Derived.Test.YtkmkfolpjlkfoaaGreatM21
namespace Go.Proofs.YtkmkfolpjlkfoaaGreat
open Go Go.RowKit
set_option maxRecDepth 100000

attribute [local go_sem] cell_off4 cell_blk4

/-! The same, as plain mathematics. -/
theorem set_there {α : Type} {l : List α} {i : Nat} {a : α} (h : l[i]? = some a) : l.set i a = l := by
  obtain ⟨h1, h2⟩ := List.getElem?_eq_some_iff.1 h
  rw [← h2]
  exact List.set_getElem_self h1
theorem fd_place {p : Prm} {a : Int} (h : (p.fd a).node ≠ 0) : p.f[a.toNat]? = some (p.fd a) := by
  obtain ⟨-, hl, e⟩ := fd_at h
  rw [List.getElem?_eq_getElem hl, ← e]
theorem setF_there {p : Prm} {j : Nat} {f : Fdm} (h : p.f[j]? = some f) : p.setF j f = p := by
  unfold Prm.setF
  rw [set_there h]
theorem rea_eq {S : Sym} {i : Nat} {p : Prm} {c : Cal} (hp : S.p[i]? = some p) (h0 : (p.fd c.a).node ≠ 0) (h1 : (p.fd c.a).rd = true) :
    reaK S i p c = (⟨S.t, S.p.set i (p.setF c.a.toNat ⟨(p.fd c.a).node, (p.fd c.a).off + (faB S.t (p.fd c.a).node (p.fd c.a).off c.b).length, (p.fd c.a).rd, (p.fd c.a).wr⟩)⟩, ⟨faE S.t (p.fd c.a).node (p.fd c.a).off c.b, 0, Sta.zero, [], [], faB S.t (p.fd c.a).node (p.fd c.a).off c.b⟩) := by
  unfold reaK
  rw [if_neg (fun q => by rcases q with q | q; exact h0 q; rw [h1] at q; cases q)]
  by_cases q : faE S.t (p.fd c.a).node (p.fd c.a).off c.b = 0
  · rw [if_neg (fun z => z q), q]
  · have e : faB S.t (p.fd c.a).node (p.fd c.a).off c.b = [] := if_neg q
    rw [if_pos q, e]
    have e2 : p.setF c.a.toNat ⟨(p.fd c.a).node, (p.fd c.a).off + (([] : List UInt8).length : Int), (p.fd c.a).rd, (p.fd c.a).wr⟩ = p := by
      refine setF_there ?_
      rw [fd_place h0]
      simp
    rw [e2, set_there hp]
    rfl
theorem rea_bad {S : Sym} {i : Nat} {p : Prm} {c : Cal} (h : (p.fd c.a).node = 0 ∨ (p.fd c.a).rd = false) : reaK S i p c = (S, Rsm.e 9) := if_pos h
theorem wri_bad {S : Sym} {i : Nat} {p : Prm} {c : Cal} (h : (p.fd c.a).node = 0 ∨ (p.fd c.a).wr = false) : wriK S i p c = (S, Rsm.e 9) := if_pos h
theorem fw_stay {t : List Nd} {c : Wh} {i off : Int} {b : List UInt8} (h : fwE t i off b ≠ 0) : fwT t c i off b = t := if_neg (fun q => h q.1)
theorem wri_err {S : Sym} {i : Nat} {p : Prm} {c : Cal} (h0 : (p.fd c.a).node ≠ 0) (h1 : (p.fd c.a).wr = true) (h : fwE S.t (p.fd c.a).node (p.fd c.a).off c.data ≠ 0) : wriK S i p c = (⟨fwT S.t p.c (p.fd c.a).node (p.fd c.a).off c.data, S.p⟩, Rsm.e (fwE S.t (p.fd c.a).node (p.fd c.a).off c.data)) := by
  unfold wriK
  rw [if_neg (fun q => by rcases q with q | q; exact h0 q; rw [h1] at q; cases q), if_pos h, fw_stay h]
theorem wri_good {S : Sym} {i : Nat} {p : Prm} {c : Cal} (h0 : (p.fd c.a).node ≠ 0) (h1 : (p.fd c.a).wr = true) (h : fwE S.t (p.fd c.a).node (p.fd c.a).off c.data = 0) : wriK S i p c = (⟨fwT S.t p.c (p.fd c.a).node (p.fd c.a).off c.data, S.p.set i (p.setF c.a.toNat ⟨(p.fd c.a).node, (p.fd c.a).off + c.data.length, (p.fd c.a).rd, (p.fd c.a).wr⟩)⟩, Rsm.k c.data.length) := by
  unfold wriK
  rw [if_neg (fun q => by rcases q with q | q; exact h0 q; rw [h1] at q; cases q), if_neg (fun q => q h)]
theorem opened_any {b o : Nat} {p : Prm} {G : Option Addr} {m : Nat} (a : Int) (w : World) (h : PrC w b o p G m) :
    Calls Tryz.prog 47 #[.pointer (some ⟨b, o, none⟩), .int .i64 a] w fun e w' => e = .returned (.pointer (if (p.fd a).node = 0 then none else some ⟨b, o + 4 + a.toNat * 4, none⟩)) ∧ w = w' := by
  by_cases q0 : a < 0
  · have e : (p.fd a).node = 0 := by unfold Prm.fd; rw [if_neg (by omega)]; rfl
    rw [if_pos e]
    exact open_out b o a w (.inl q0)
  · by_cases q1 : 3 ≤ a
    · have e : (p.fd a).node = 0 := by
        unfold Prm.fd
        rw [if_pos (by omega), List.getD_eq_getElem?_getD, List.getElem?_eq_none (by rw [h.len]; omega)]
        rfl
      rw [if_pos e]
      exact open_out b o a w (.inr q1)
    · obtain ⟨j, rfl⟩ : ∃ j : Nat, a = (j : Int) := ⟨a.toNat, by omega⟩
      have hj : j < 3 := by omega
      have e : p.f[j]? = some (p.fd j) := by
        unfold Prm.fd
        rw [if_pos (by omega), List.getD_eq_getElem?_getD]
        have hl : j < p.f.length := by rw [h.len]; exact hj
        show p.f[j]? = some (p.f[j]?.getD Fdm.zero)
        rw [List.getElem?_eq_getElem hl]
        rfl
      have h1 := open_in b o j (p.fd j) w hj (h.fd j _ e).1
      exact h1
set_option maxHeartbeats 4000000 in
theorem m_mask : MtC 76 17 := fun s g b cp i S p c vd w h hI hn hp hd hsh => by
  obtain ⟨o, ho⟩ : ∃ o, i * 16 = o := ⟨_, rfl⟩
  obtain ⟨W1, zr, G, m, hW1, hzr, hm⟩ := mw_start (vd := vd) (c := c) h hp ho
  rw [ho]
  have hgs := hI.gs p (List.mem_of_getElem? hp)
  have HM := Lib.hid hm
  have hK : doK 17 S i p c = (⟨S.t, S.p.set i ⟨p.c, c.a % 512, p.f⟩⟩, Rsm.k p.um) := rfl
  rw [hK]
  have hA := and511 c.a
  obtain ⟨cs, hkb, -⟩ := hm.sq.row
  have fb := hkb.frozen (o + 3)
  have q3 := hm.pc.c3
  have k3 := hm.cal.2.2.1
  have hzb : zr ≠ b := fun e => blk_ne hkb hm.kr (by decide) e.symm
  have hg := grown_setCell W1 ⟨b, o + 3, none⟩ (.int .i64 (c.a % 512))
  have HU := Lib.hid (show Sq (W1.setCell ⟨b, o + 3, none⟩ (.int .i64 (c.a % 512))) s g b cp ⟨S.t, S.p.set i ⟨p.c, c.a % 512, p.f⟩⟩ from by rw [← ho]; exact hm.sq.putU hp _)
  have HKR := Lib.hid (hm.kr.kept hg (some_ne hzb))
  have HFX := Lib.hid ((Fix.of_below hm.blo).trans (Fix.of_grown hg (List.mem_cons_of_mem _ (List.mem_singleton.2 rfl)) : Fix [g, b] _ _))
  clear hm h hI hn hp hd hsh hgs hK ho hkb hzb hg
  go_enter Tryz.func76, Tryz.ntmps76
  go_upto_region 3 with fail
  clear hW1 hzr q3 k3 fb
  obtain ⟨W2, hW2⟩ : ∃ W, W1.setCell ⟨b, o + 3, none⟩ (.int .i64 (c.a % 512)) = W := ⟨_, rfl⟩
  rw [hW2] at HU HKR HFX ⊢
  clear hW2
  obtain ⟨x0, x1, x2, x3, x4, x5, x6, x7, x8, x9, x10, x11⟩ := HKR.out.c12
  obtain ⟨f0, f1, f2, f3, f4, f5, f6, f7, f8, f9, f10, f11⟩ := HKR.out.f12
  obtain ⟨s0, s1, s2, s3, s4, s5, s6, s7, s8, s9, s10, s11⟩ := HKR.out.s12
  go_wp2
  exact bodyPost_ret (v := .agg #[.int .i64 0, .int .i64 p.um, .int .i64 0, .int .i64 0, .int .i64 0, .int .i64 0, .int .i64 0, .int .i64 0, .int .i64 0, .string ⟨#[]⟩, .slice none 0 0, .slice none 0 0]) (by simp [results, Tryz.results76, go_sem, s0, s1, s2, s3, s4, s5, s6, s7, s8, s9, s10, s11]) rfl (doq_k p.um HU.out HFX.out HKR.out HM.out.lr)
set_option maxHeartbeats 4000000 in
theorem m_read : MtC 73 14 := fun s g b cp i S p c vd w h hI hn hp hd hsh => by
  obtain ⟨o, ho⟩ : ∃ o, i * 16 = o := ⟨_, rfl⟩
  obtain ⟨W1, zr, G, m, hW1, hzr, hm⟩ := mw_start (vd := vd) (c := c) h hp ho
  rw [ho]
  have hgs := hI.gs p (List.mem_of_getElem? hp)
  have HM := Lib.hid hm
  have HOC := Lib.hid (opened_any (p := p) c.a W1 hm.pc)
  have k3 := hm.cal.2.2.1
  by_cases q0 : (p.fd c.a).node = 0
  · have hK : doK 14 S i p c = (S, Rsm.e 9) := rea_bad (.inl q0)
    rw [hK]
    rw [if_pos q0] at HOC
    clear hm h hI hn hp hd hsh hgs hK ho q0
    go_enter Tryz.func73, Tryz.ntmps73
    go_wp2_with fail
    refine HOC.out.mono ?_
    rintro e w2 ⟨rfl, rfl⟩
    clear hW1 hzr HOC k3
    obtain ⟨x0, x1, x2, x3, x4, x5, x6, x7, x8, x9, x10, x11⟩ := HM.out.kr.c12
    obtain ⟨f0, f1, f2, f3, f4, f5, f6, f7, f8, f9, f10, f11⟩ := HM.out.kr.f12
    obtain ⟨s0, s1, s2, s3, s4, s5, s6, s7, s8, s9, s10, s11⟩ := HM.out.kr.s12
    go_wp2
    exact bodyPost_ret (v := .agg #[.int .i64 9, .int .i64 0, .int .i64 0, .int .i64 0, .int .i64 0, .int .i64 0, .int .i64 0, .int .i64 0, .int .i64 0, .string ⟨#[]⟩, .slice none 0 0, .slice none 0 0]) (by simp [results, Tryz.results73, go_sem, s0, s1, s2, s3, s4, s5, s6, s7, s8, s9, s10, s11]) rfl (doq_e 9 HM.out.sq (Fix.of_below HM.out.blo) HM.out.kr HM.out.lr)
  rw [if_neg q0] at HOC
  obtain ⟨f, hf⟩ : ∃ f, p.fd c.a = f := ⟨_, rfl⟩
  obtain ⟨j, hj⟩ : ∃ j, c.a.toNat = j := ⟨_, rfl⟩
  have hpl := fd_place q0
  rw [hf, hj] at hpl
  rw [hj] at HOC
  obtain ⟨hat, hz0⟩ := hm.pc.fd j f hpl
  have hmem := fd_mem q0
  rw [hf] at q0 hmem
  obtain ⟨q, hq⟩ : ∃ q, o + 4 + j * 4 = q := ⟨_, rfl⟩
  rw [hq] at HOC hat
  by_cases qf : f.rd = false
  · have hK : doK 14 S i p c = (S, Rsm.e 9) := rea_bad (.inr (by rw [hf]; exact qf))
    rw [hK]
    have a2 := hat.c2
    rw [qf] at a2
    clear hm h hI hn hp hd hsh hgs hK ho q0 hf hj hpl hat hz0 hq qf hmem
    go_enter Tryz.func73, Tryz.ntmps73
    go_wp2_with fail
    refine HOC.out.mono ?_
    rintro e w2 ⟨rfl, rfl⟩
    clear hW1 hzr HOC k3
    obtain ⟨x0, x1, x2, x3, x4, x5, x6, x7, x8, x9, x10, x11⟩ := HM.out.kr.c12
    obtain ⟨f0, f1, f2, f3, f4, f5, f6, f7, f8, f9, f10, f11⟩ := HM.out.kr.f12
    obtain ⟨s0, s1, s2, s3, s4, s5, s6, s7, s8, s9, s10, s11⟩ := HM.out.kr.s12
    go_wp2
    exact bodyPost_ret (v := .agg #[.int .i64 9, .int .i64 0, .int .i64 0, .int .i64 0, .int .i64 0, .int .i64 0, .int .i64 0, .int .i64 0, .int .i64 0, .string ⟨#[]⟩, .slice none 0 0, .slice none 0 0]) (by simp [results, Tryz.results73, go_sem, s0, s1, s2, s3, s4, s5, s6, s7, s8, s9, s10, s11]) rfl (doq_e 9 HM.out.sq (Fix.of_below HM.out.blo) HM.out.kr HM.out.lr)
  have qf : f.rd = true := by simpa using qf
  have hK := rea_eq (c := c) hp (by rw [hf]; exact q0) (by rw [hf]; exact qf)
  rw [hf, hj] at hK
  have hoff := hI.off p (List.mem_of_getElem? hp) f hmem
  have hon : f.node ∈ opnS S := opnP_at hp (opnF_mem.2 ⟨f, hmem, q0, rfl⟩)
  have hd48 : (tget S.t f.node).data.length ≤ 48 := (file_parts (tis_right hI.tro.ok (hI.here _ hon)) (hI.fil _ hon)).2.2.2
  have hln := fa_len S.t f.node f.off c.b hd48 hoff.1 hoff.2
  obtain ⟨E, hE⟩ : ∃ E, faE S.t f.node f.off c.b = E := ⟨_, rfl⟩
  obtain ⟨D, hD⟩ : ∃ D, faB S.t f.node f.off c.b = D := ⟨_, rfl⟩
  rw [hE, hD] at hK
  rw [hD] at hln
  have hK2 : doK 14 S i p c = (⟨S.t, S.p.set i (p.setF j ⟨f.node, f.off + D.length, f.rd, f.wr⟩)⟩, ⟨E, 0, Sta.zero, [], [], D⟩) := hK
  rw [hK2]
  have hwr : IntKind.i64.wrap (f.off + (D.length : Int)) = f.off + (D.length : Int) := by rw [IntKind.wrap_i64] <;> omega
  have HCL := Lib.hid (fun (V : World) (hv : Below W1.heap.size W1 V) => show Calls Tryz.prog 119 #[.pointer (some ⟨g, 0, none⟩), .int .i64 f.node, .int .i64 f.off, .int .i64 c.b] V fun e w' => ∃ A k, e = .returned (.tuple #[.slice A D.length k, .int .i64 E]) ∧ BytesT w' (.slice A D.length k) D ∧ Below V.heap.size V w' from by
    refine (filesC.rd (.pointer (some ⟨g, 0, none⟩)) S.t f.node f.off c.b V (hm.sq.below hv).tab.ptr hm.sq.tab.ok).mono ?_
    rintro e w' ⟨vb, rfl, hb, hbb⟩
    rw [hE, hD] at *
    obtain ⟨A, k, rfl⟩ := bytesT_form hb
    exact ⟨A, k, rfl, hb, hbb⟩)
  have HPR := Lib.hid (fun (V : World) (hv : Below W1.heap.size W1 V) => show V.cell? ⟨s, 0, none⟩ = some (.pointer (some ⟨g, 0, none⟩)) ∧ V.cell? ⟨b, o, none⟩ = some (.int .i64 p.c.u) ∧ V.cell? ⟨b, o + 1, none⟩ = some (.int .i64 p.c.g) ∧ V.cell? ⟨b, o + 2, none⟩ = some (.slice G p.c.gs.length m) ∧ V.cell? ⟨b, o + 3, none⟩ = some (.int .i64 p.um) ∧ V.cell? ⟨w.heap.size, 1, none⟩ = some (.string (bA c.path)) ∧ V.cell? ⟨w.heap.size, 2, none⟩ = some (.string (bA c.other)) ∧ V.cell? ⟨w.heap.size, 3, none⟩ = some (.int .i64 c.a) ∧ V.cell? ⟨w.heap.size, 4, none⟩ = some (.int .i64 c.b) ∧ V.cell? ⟨w.heap.size, 5, none⟩ = some vd ∧ V.cell? ⟨b, q, none⟩ = some (.int .i64 f.node) ∧ V.cell? ⟨b, q + 1, none⟩ = some (.int .i64 f.off) from by
    obtain ⟨b0, b1, b2, b3, b4, b5, b6, b7, b8, b9⟩ := (hm.below hv).all
    exact ⟨b0, b1, b2, b3, b4, b5, b6, b7, b8, b9, bc hv hat.c0, bc hv hat.c1⟩)
  have j0 := Lib.hid (show Below W1.heap.size W1 W1.drew from (Below.refl _ _).drew)
  have HSO := Lib.hid (fun (V : World) (hv : Below W1.heap.size W1 V) => show Sq (V.setCell ⟨b, q + 1, none⟩ (.int .i64 (f.off + (D.length : Int)))) s g b cp ⟨S.t, S.p.set i (p.setF j ⟨f.node, f.off + D.length, f.rd, f.wr⟩)⟩ from by
    rw [← hq, ← ho]
    exact (hm.sq.below hv).putO hp hpl q0 _)
  have a2 := hat.c2
  rw [qf] at a2
  obtain ⟨cs, hkb, -⟩ := hm.sq.row
  have HKB := Lib.hid hkb
  have HNZ := Lib.hid (show zr ≠ b from fun e => blk_ne hkb hm.kr (by decide) e.symm)
  clear hm h hI hn hp hd hsh hgs hK hK2 ho q0 hf hj hpl hat hz0 hq qf hmem hE hD hd48 hon hkb hoff hln
  go_enter Tryz.func73, Tryz.ntmps73
  go_wp2_with fail
  refine HOC.out.mono ?_
  rintro e w2 ⟨rfl, rfl⟩
  clear hW1 hzr HOC k3
  go_upto_region 4 with fail
  clear a2
  go_cut [8, 9] (fun s8 s9 wx => ∃ A k, s8 = .slice A D.length k ∧ s9 = .int .i64 E ∧ Below W1.heap.size W1 wx ∧ BytesT wx (.slice A D.length k) D)
  case first =>
    go_region_held3 (fun V => V.cell? ⟨s, 0, none⟩ = some (.pointer (some ⟨g, 0, none⟩)) ∧ V.cell? ⟨b, o, none⟩ = some (.int .i64 p.c.u) ∧ V.cell? ⟨b, o + 1, none⟩ = some (.int .i64 p.c.g) ∧ V.cell? ⟨b, o + 2, none⟩ = some (.slice G p.c.gs.length m) ∧ V.cell? ⟨b, o + 3, none⟩ = some (.int .i64 p.um) ∧ V.cell? ⟨w.heap.size, 1, none⟩ = some (.string (bA c.path)) ∧ V.cell? ⟨w.heap.size, 2, none⟩ = some (.string (bA c.other)) ∧ V.cell? ⟨w.heap.size, 3, none⟩ = some (.int .i64 c.a) ∧ V.cell? ⟨w.heap.size, 4, none⟩ = some (.int .i64 c.b) ∧ V.cell? ⟨w.heap.size, 5, none⟩ = some vd ∧ V.cell? ⟨b, q, none⟩ = some (.int .i64 f.node) ∧ V.cell? ⟨b, q + 1, none⟩ = some (.int .i64 f.off))
      (first | (with_reducible exact HPR.out _ j0.out) | (with_reducible exact HPR.out _ j1.out))
      (first
      | (go_at_call 119; (with_reducible refine (HCL.out _ j0.out).mono ?_); rintro e2 w5 ⟨A9, k9, rfl, hd5, hb5⟩; have j1 := Lib.hid (bt hb5 j0.out); have D5 := Lib.hid hd5; clear hb5 hd5))
    all_goals (
      go_wp2
      go_meet
      exact ⟨_, _, rfl, rfl, j1.out, D5.out⟩)
  case rest =>
  obtain ⟨A9, k9, rfl, rfl, hbx, hdx⟩ := hcut
  obtain ⟨w5, hw5⟩ : ∃ W, wc = W := ⟨_, rfl⟩
  rw [hw5] at hbx hdx ⊢
  have HM5 := Lib.hid (HM.out.below hbx)
  have HD5 := Lib.hid hdx
  have HS5 := Lib.hid (HSO.out w5 hbx)
  have HK5 := Lib.hid (HKB.out.below hbx)
  have a1 := (HPR.out w5 hbx).2.2.2.2.2.2.2.2.2.2.2
  have fb := HK5.out.frozen (q + 1)
  clear hbx hdx hw5 HPR HCL HSO HKB j0
  go_upto_region 6 with fail
  have hg := grown_setCell w5 ⟨b, q + 1, none⟩ (.int .i64 (f.off + (D.length : Int)))
  have HKR := Lib.hid (HM5.out.kr.kept hg (some_ne HNZ.out))
  have HFX := Lib.hid ((Fix.of_below HM5.out.blo).trans (Fix.of_grown hg (List.mem_cons_of_mem _ (List.mem_singleton.2 rfl)) : Fix [g, b] _ _))
  have HD6 := Lib.hid (HD5.out.other hg (fun ad n c hv => by obtain ⟨ds, hds⟩ := HD5.out.2 ad n c hv; exact blk_ne hds HK5.out (by decide)))
  clear a1 fb hg
  obtain ⟨W6, hW6⟩ : ∃ W, w5.setCell ⟨b, q + 1, none⟩ (.int .i64 (f.off + (D.length : Int))) = W := ⟨_, rfl⟩
  rw [hW6] at HS5 HKR HFX HD6 ⊢
  clear hW6 HK5 HD5
  obtain ⟨x0, x1, x2, x3, x4, x5, x6, x7, x8, x9, x10, x11⟩ := HKR.out.c12
  obtain ⟨f0, f1, f2, f3, f4, f5, f6, f7, f8, f9, f10, f11⟩ := HKR.out.f12
  obtain ⟨s0, s1, s2, s3, s4, s5, s6, s7, s8, s9, s10, s11⟩ := HKR.out.s12
  go_wp2
  exact bodyPost_ret (v := .agg #[.int .i64 E, .int .i64 0, .int .i64 0, .int .i64 0, .int .i64 0, .int .i64 0, .int .i64 0, .int .i64 0, .int .i64 0, .string ⟨#[]⟩, .slice none 0 0, .slice A9 D.length k9]) (by simp [results, Tryz.results73, go_sem, s0, s1, s2, s3, s4, s5, s6, s7, s8, s9, s10, s11]) rfl (doq_d E D A9 D.length k9 HS5.out HFX.out HKR.out HM.out.lr HD6.out)
set_option maxHeartbeats 4000000 in
theorem m_write : MtC 74 15 := fun s g b cp i S p c vd w h hI hn hp hd hsh => by
  obtain ⟨o, ho⟩ : ∃ o, i * 16 = o := ⟨_, rfl⟩
  obtain ⟨W1, zr, G, m, hW1, hzr, hm⟩ := mw_start (vd := vd) (c := c) h hp ho
  rw [ho]
  have hgs := hI.gs p (List.mem_of_getElem? hp)
  have HM := Lib.hid hm
  have HOC := Lib.hid (opened_any (p := p) c.a W1 hm.pc)
  have k3 := hm.cal.2.2.1
  by_cases q0 : (p.fd c.a).node = 0
  · have hK : doK 15 S i p c = (S, Rsm.e 9) := wri_bad (.inl q0)
    rw [hK]
    rw [if_pos q0] at HOC
    clear hm h hI hn hp hd hsh hgs hK ho q0
    go_enter Tryz.func74, Tryz.ntmps74
    go_wp2_with fail
    refine HOC.out.mono ?_
    rintro e w2 ⟨rfl, rfl⟩
    clear hW1 hzr HOC k3
    obtain ⟨x0, x1, x2, x3, x4, x5, x6, x7, x8, x9, x10, x11⟩ := HM.out.kr.c12
    obtain ⟨f0, f1, f2, f3, f4, f5, f6, f7, f8, f9, f10, f11⟩ := HM.out.kr.f12
    obtain ⟨s0, s1, s2, s3, s4, s5, s6, s7, s8, s9, s10, s11⟩ := HM.out.kr.s12
    go_wp2
    exact bodyPost_ret (v := .agg #[.int .i64 9, .int .i64 0, .int .i64 0, .int .i64 0, .int .i64 0, .int .i64 0, .int .i64 0, .int .i64 0, .int .i64 0, .string ⟨#[]⟩, .slice none 0 0, .slice none 0 0]) (by simp [results, Tryz.results74, go_sem, s0, s1, s2, s3, s4, s5, s6, s7, s8, s9, s10, s11]) rfl (doq_e 9 HM.out.sq (Fix.of_below HM.out.blo) HM.out.kr HM.out.lr)
  rw [if_neg q0] at HOC
  obtain ⟨f, hf⟩ : ∃ f, p.fd c.a = f := ⟨_, rfl⟩
  obtain ⟨j, hj⟩ : ∃ j, c.a.toNat = j := ⟨_, rfl⟩
  have hpl := fd_place q0
  rw [hf, hj] at hpl
  rw [hj] at HOC
  obtain ⟨hat, hz0⟩ := hm.pc.fd j f hpl
  have hmem := fd_mem q0
  rw [hf] at q0 hmem
  obtain ⟨q, hq⟩ : ∃ q, o + 4 + j * 4 = q := ⟨_, rfl⟩
  rw [hq] at HOC hat
  by_cases qf : f.wr = false
  · have hK : doK 15 S i p c = (S, Rsm.e 9) := wri_bad (.inr (by rw [hf]; exact qf))
    rw [hK]
    have a3 := hat.c3
    rw [qf] at a3
    clear hm h hI hn hp hd hsh hgs hK ho q0 hf hj hpl hat hz0 hq qf hmem
    go_enter Tryz.func74, Tryz.ntmps74
    go_wp2_with fail
    refine HOC.out.mono ?_
    rintro e w2 ⟨rfl, rfl⟩
    clear hW1 hzr HOC k3
    obtain ⟨x0, x1, x2, x3, x4, x5, x6, x7, x8, x9, x10, x11⟩ := HM.out.kr.c12
    obtain ⟨f0, f1, f2, f3, f4, f5, f6, f7, f8, f9, f10, f11⟩ := HM.out.kr.f12
    obtain ⟨s0, s1, s2, s3, s4, s5, s6, s7, s8, s9, s10, s11⟩ := HM.out.kr.s12
    go_wp2
    exact bodyPost_ret (v := .agg #[.int .i64 9, .int .i64 0, .int .i64 0, .int .i64 0, .int .i64 0, .int .i64 0, .int .i64 0, .int .i64 0, .int .i64 0, .string ⟨#[]⟩, .slice none 0 0, .slice none 0 0]) (by simp [results, Tryz.results74, go_sem, s0, s1, s2, s3, s4, s5, s6, s7, s8, s9, s10, s11]) rfl (doq_e 9 HM.out.sq (Fix.of_below HM.out.blo) HM.out.kr HM.out.lr)
  have qf : f.wr = true := by simpa using qf
  obtain ⟨A9, k9, rfl⟩ := bytes_form hd rfl
  have hoff := hI.off p (List.mem_of_getElem? hp) f hmem
  obtain ⟨E, hE⟩ : ∃ E, fwE S.t f.node f.off c.data = E := ⟨_, rfl⟩
  obtain ⟨T, hT⟩ : ∃ T, fwT S.t p.c f.node f.off c.data = T := ⟨_, rfl⟩
  obtain ⟨X, hX⟩ : ∃ X, doK 15 S i p c = X := ⟨_, rfl⟩
  have HK1 := Lib.hid (fun (z : E ≠ 0) => show X = (⟨T, S.p⟩, Rsm.e E) from by
    rw [← hX]
    have h1 := wri_err (i := i) (S := S) (p := p) (c := c) (by rw [hf]; exact q0) (by rw [hf]; exact qf) (by rw [hf, hE]; exact z)
    rw [hf, hE, hT] at h1
    exact h1)
  have HK2 := Lib.hid (fun (z : E = 0) => show X = (⟨T, S.p.set i (p.setF j ⟨f.node, f.off + c.data.length, f.rd, f.wr⟩)⟩, Rsm.k c.data.length) from by
    rw [← hX]
    have h1 := wri_good (i := i) (S := S) (p := p) (c := c) (by rw [hf]; exact q0) (by rw [hf]; exact qf) (by rw [hf, hE]; exact z)
    rw [hf, hT, hj] at h1
    exact h1)
  rw [hX]
  have hln : c.data.length ≤ 100 := hsh.2.2
  have hwr : IntKind.i64.wrap (f.off + (c.data.length : Int)) = f.off + (c.data.length : Int) := by rw [IntKind.wrap_i64] <;> omega
  have HCL := Lib.hid (fun (V : World) (hv : Below W1.heap.size W1 V) => show Calls Tryz.prog 120 #[.pointer (some ⟨g, 0, none⟩), .agg #[.int .i64 p.c.u, .int .i64 p.c.g, .slice G p.c.gs.length m], .int .i64 f.node, .int .i64 f.off, .slice A9 c.data.length k9] V fun e w' => e = .returned (.int .i64 E) ∧ TabR w' g T (fun _ => True) ∧ V.grownBy w' (some g) from by
    have h1 := hm.below hv
    rw [← hE, ← hT]
    exact filesC.wr g S.t (fun _ => True) p.c G p.c.gs.length m f.node f.off c.data (.slice A9 c.data.length k9) V h1.sq.tab h1.sq.tab.ok (h1.pc.crr hgs) (hd.below (bt hv hm.blo)) (by omega) (fun _ _ => trivial))
  have HPR := Lib.hid (fun (V : World) (hv : Below W1.heap.size W1 V) => show V.cell? ⟨s, 0, none⟩ = some (.pointer (some ⟨g, 0, none⟩)) ∧ V.cell? ⟨b, o, none⟩ = some (.int .i64 p.c.u) ∧ V.cell? ⟨b, o + 1, none⟩ = some (.int .i64 p.c.g) ∧ V.cell? ⟨b, o + 2, none⟩ = some (.slice G p.c.gs.length m) ∧ V.cell? ⟨b, o + 3, none⟩ = some (.int .i64 p.um) ∧ V.cell? ⟨w.heap.size, 1, none⟩ = some (.string (bA c.path)) ∧ V.cell? ⟨w.heap.size, 2, none⟩ = some (.string (bA c.other)) ∧ V.cell? ⟨w.heap.size, 3, none⟩ = some (.int .i64 c.a) ∧ V.cell? ⟨w.heap.size, 4, none⟩ = some (.int .i64 c.b) ∧ V.cell? ⟨w.heap.size, 5, none⟩ = some (.slice A9 c.data.length k9) ∧ V.cell? ⟨b, q, none⟩ = some (.int .i64 f.node) ∧ V.cell? ⟨b, q + 1, none⟩ = some (.int .i64 f.off) from by
    obtain ⟨b0, b1, b2, b3, b4, b5, b6, b7, b8, b9⟩ := (hm.below hv).all
    exact ⟨b0, b1, b2, b3, b4, b5, b6, b7, b8, b9, bc hv hat.c0, bc hv hat.c1⟩)
  have HPG := Lib.hid (fun (V w5 : World) (hv : Below W1.heap.size W1 V) (ht : TabR w5 g T (fun _ => True)) (hg : V.grownBy w5 (some g)) => show w5.cell? ⟨s, 0, none⟩ = some (.pointer (some ⟨g, 0, none⟩)) ∧ w5.cell? ⟨b, o, none⟩ = some (.int .i64 p.c.u) ∧ w5.cell? ⟨b, o + 1, none⟩ = some (.int .i64 p.c.g) ∧ w5.cell? ⟨b, o + 2, none⟩ = some (.slice G p.c.gs.length m) ∧ w5.cell? ⟨b, o + 3, none⟩ = some (.int .i64 p.um) ∧ w5.cell? ⟨w.heap.size, 1, none⟩ = some (.string (bA c.path)) ∧ w5.cell? ⟨w.heap.size, 2, none⟩ = some (.string (bA c.other)) ∧ w5.cell? ⟨w.heap.size, 3, none⟩ = some (.int .i64 c.a) ∧ w5.cell? ⟨w.heap.size, 4, none⟩ = some (.int .i64 c.b) ∧ w5.cell? ⟨w.heap.size, 5, none⟩ = some (.slice A9 c.data.length k9) ∧ w5.cell? ⟨b, q, none⟩ = some (.int .i64 f.node) ∧ w5.cell? ⟨b, q + 1, none⟩ = some (.int .i64 f.off) from by
    obtain ⟨b0, b1, b2, b3, b4, b5, b6, b7, b8, b9⟩ := (hm.below hv).after ht hg
    obtain ⟨-, -, -, -, hp5⟩ := (hm.below hv).tabbed ht hg
    have h5 := (hp5.fd j f hpl).1
    rw [hq] at h5
    exact ⟨b0, b1, b2, b3, b4, b5, b6, b7, b8, b9, h5.c0, h5.c1⟩)
  have j0 := Lib.hid (show Below W1.heap.size W1 W1.drew from (Below.refl _ _).drew)
  have HSO := Lib.hid (fun (V : World) (hv : Sq V s g b cp ⟨T, S.p⟩) => show Sq (V.setCell ⟨b, q + 1, none⟩ (.int .i64 (f.off + (c.data.length : Int)))) s g b cp ⟨T, S.p.set i (p.setF j ⟨f.node, f.off + c.data.length, f.rd, f.wr⟩)⟩ from by
    rw [← hq, ← ho]
    exact hv.putO hp hpl q0 _)
  have a3 := hat.c3
  rw [qf] at a3
  clear hm h hI hn hp hd hsh hgs ho q0 hf hj hpl hat hz0 hq qf hmem hE hT hoff hln hX
  go_enter Tryz.func74, Tryz.ntmps74
  go_wp2_with fail
  refine HOC.out.mono ?_
  rintro e w2 ⟨rfl, rfl⟩
  clear hW1 hzr HOC k3
  go_upto_region 4 with fail
  clear a3
  go_cut [8] (fun s8 wx => s8 = .int .i64 E ∧ TabR wx g T (fun _ => True) ∧ ∃ V, Below W1.heap.size W1 V ∧ V.grownBy wx (some g))
  case first =>
    go_region_held3 (fun V => V.cell? ⟨s, 0, none⟩ = some (.pointer (some ⟨g, 0, none⟩)) ∧ V.cell? ⟨b, o, none⟩ = some (.int .i64 p.c.u) ∧ V.cell? ⟨b, o + 1, none⟩ = some (.int .i64 p.c.g) ∧ V.cell? ⟨b, o + 2, none⟩ = some (.slice G p.c.gs.length m) ∧ V.cell? ⟨b, o + 3, none⟩ = some (.int .i64 p.um) ∧ V.cell? ⟨w.heap.size, 1, none⟩ = some (.string (bA c.path)) ∧ V.cell? ⟨w.heap.size, 2, none⟩ = some (.string (bA c.other)) ∧ V.cell? ⟨w.heap.size, 3, none⟩ = some (.int .i64 c.a) ∧ V.cell? ⟨w.heap.size, 4, none⟩ = some (.int .i64 c.b) ∧ V.cell? ⟨w.heap.size, 5, none⟩ = some (.slice A9 c.data.length k9) ∧ V.cell? ⟨b, q, none⟩ = some (.int .i64 f.node) ∧ V.cell? ⟨b, q + 1, none⟩ = some (.int .i64 f.off))
      (first | (with_reducible exact HPR.out _ j0.out) | (with_reducible exact HPG.out _ _ j0.out H5.out.1 H5.out.2))
      (first
      | (go_at_call 120; (with_reducible refine (HCL.out _ j0.out).mono ?_); rintro e2 w5 ⟨rfl, ht, hg⟩; have H5 := Lib.hid (And.intro ht hg); clear ht hg))
    all_goals (
      go_wp2
      go_meet
      exact ⟨rfl, H5.out.1, _, j0.out, H5.out.2⟩)
  case rest =>
  obtain ⟨rfl, htx, V, hvx, hgx⟩ := hcut
  obtain ⟨w5, hw5⟩ : ∃ W, wc = W := ⟨_, rfl⟩
  rw [hw5] at htx hgx ⊢
  obtain ⟨hs5, hf5, hr5, hc5, hp5⟩ := (HM.out.below hvx).tabbed htx hgx
  have HS5 := Lib.hid hs5
  have HF5 := Lib.hid hf5
  have HR5 := Lib.hid hr5
  obtain ⟨b0, b1, b2, b3, b4, b5, b6, b7, b8, b9, b10, b11⟩ := HPG.out _ _ hvx htx hgx
  clear hw5 htx hgx hvx hs5 hf5 hr5 hp5 HPR HPG HCL j0 b0 b1 b2 b3 b4 b5 b6 b7 b8 b10
  by_cases qe : E = 0
  · have e0 : (E != 0) = false := by simpa using qe
    have HX2 := Lib.hid (HK2.out qe)
    have HC5 := Lib.hid hc5
    have B9 := Lib.hid b9
    have B11 := Lib.hid b11
    obtain ⟨cs, hkb, -⟩ := HS5.out.row
    have HKB := Lib.hid hkb
    have HNZ := Lib.hid (show zr ≠ b from fun e => blk_ne hkb HR5.out (by decide) e.symm)
    have HNC := Lib.hid (show w.heap.size ≠ b from fun e => blk_ne hkb hc5 (by decide) e.symm)
    clear qe HK1 HK2 hkb hc5 b9 b11
    go_upto_region 7 with fail
    have b9 : w5.drew.cell? ⟨w.heap.size, 5, none⟩ = some (.slice A9 c.data.length k9) := B9.out
    have b11 : w5.drew.cell? ⟨b, q + 1, none⟩ = some (.int .i64 f.off) := B11.out
    have b9' := B9.out
    have b11' := B11.out
    go_still_tail 10, (by kernel_rfl)
    repeat still_step
    try refine wpStill_nil ?_
    change wpList _ _ _ _ _ (World.drew _)
    have HSD := Lib.hid (HS5.out.below (Below.refl _ _).drew)
    have HRD := Lib.hid (HR5.out.below (Below.refl _ _).drew)
    have HCD := Lib.hid (HC5.out.below (Below.refl _ _).drew)
    have HKD := Lib.hid (HKB.out.below (Below.refl _ _).drew)
    have HFD := Lib.hid (HF5.out.drew)
    clear b9 b9' b11' HS5 HF5 HR5 HC5 HKB B9 B11
    generalize w5.drew = w6 at HSD HRD HCD HKD HFD b11 ⊢
    have fb := HKD.out.frozen (q + 1)
    go_upto_region 8 with fail
    have hg := grown_setCell w6 ⟨b, q + 1, none⟩ (.int .i64 (f.off + (c.data.length : Int)))
    have HS6 := Lib.hid (HSO.out w6 HSD.out)
    have HKR := Lib.hid (HRD.out.kept hg (some_ne HNZ.out))
    have hck := (HCD.out.kept hg (some_ne HNC.out)).cell 5
    have HFX := Lib.hid (HFD.out.trans (Fix.of_grown hg (List.mem_cons_of_mem _ (List.mem_singleton.2 rfl)) : Fix [g, b] _ _))
    clear fb hg b11
    obtain ⟨W6, hW6⟩ : ∃ W, w6.setCell ⟨b, q + 1, none⟩ (.int .i64 (f.off + (c.data.length : Int))) = W := ⟨_, rfl⟩
    rw [hW6] at HS6 HKR HFX hck ⊢
    have c5 : W6.cell? ⟨w.heap.size, 5, none⟩ = some (.slice A9 c.data.length k9) := hck
    clear hW6 HSD HRD HCD HKD HFD hck
    obtain ⟨x0, x1, x2, x3, x4, x5, x6, x7, x8, x9, x10, x11⟩ := HKR.out.c12
    obtain ⟨f0, f1, f2, f3, f4, f5, f6, f7, f8, f9, f10, f11⟩ := HKR.out.f12
    obtain ⟨s0, s1, s2, s3, s4, s5, s6, s7, s8, s9, s10, s11⟩ := HKR.out.s12
    go_wp2
    exact bodyPost_ret (v := .agg #[.int .i64 0, .int .i64 (c.data.length : Int), .int .i64 0, .int .i64 0, .int .i64 0, .int .i64 0, .int .i64 0, .int .i64 0, .int .i64 0, .string ⟨#[]⟩, .slice none 0 0, .slice none 0 0]) (by simp [results, Tryz.results74, go_sem, s0, s1, s2, s3, s4, s5, s6, s7, s8, s9, s10, s11]) rfl (by rw [HX2.out]; exact doq_k (c.data.length : Int) HS6.out HFX.out HKR.out HM.out.lr)
  · have e0 : (E != 0) = true := by simpa using qe
    have HX2 := Lib.hid (HK1.out qe)
    clear qe HK1 HK2 hc5 b9 b11
    obtain ⟨x0, x1, x2, x3, x4, x5, x6, x7, x8, x9, x10, x11⟩ := HR5.out.c12
    obtain ⟨f0, f1, f2, f3, f4, f5, f6, f7, f8, f9, f10, f11⟩ := HR5.out.f12
    obtain ⟨s0, s1, s2, s3, s4, s5, s6, s7, s8, s9, s10, s11⟩ := HR5.out.s12
    go_wp2
    exact bodyPost_ret (v := .agg #[.int .i64 E, .int .i64 0, .int .i64 0, .int .i64 0, .int .i64 0, .int .i64 0, .int .i64 0, .int .i64 0, .int .i64 0, .string ⟨#[]⟩, .slice none 0 0, .slice none 0 0]) (by simp [results, Tryz.results74, go_sem, s0, s1, s2, s3, s4, s5, s6, s7, s8, s9, s10, s11]) rfl (by rw [HX2.out]; exact doq_e E HS5.out HF5.out HR5.out HM.out.lr)
end Go.Proofs.YtkmkfolpjlkfoaaGreat
namespace Go.Proofs.YtkmkfolpjlkfoaaGreat
open Go Go.RowKit
set_option maxRecDepth 100000

attribute [local go_sem] cell_off4 cell_blk4
theorem opnP_set_le {l : List Prm} {i : Nat} {p q : Prm} (h : l[i]? = some p) (hf : (opnF q.f).length ≤ (opnF p.f).length) : (opnP (l.set i q)).length ≤ (opnP l).length := by
  induction l generalizing i with
  | nil => exact Nat.le_refl _
  | cons x l ih =>
    cases i with
    | zero =>
      have e : x = p := by simpa using h
      subst e
      show (opnF q.f ++ opnP l).length ≤ (opnF x.f ++ opnP l).length
      rw [List.length_append, List.length_append]
      omega
    | succ i =>
      have h1 := ih (i := i) (by simpa using h)
      show (opnF x.f ++ opnP (l.set i q)).length ≤ (opnF x.f ++ opnP l).length
      rw [List.length_append, List.length_append]
      omega
theorem opnF_zero_le (l : List Fdm) (j : Nat) : (opnF (l.set j Fdm.zero)).length ≤ (opnF l).length := by
  induction l generalizing j with
  | nil => exact Nat.le_refl _
  | cons x l ih =>
    have e : ∀ (y : Fdm) (m : List Fdm), (opnF (y :: m)).length = (if y.node = 0 then 0 else 1) + (opnF m).length := fun y m => by
      unfold opnF
      by_cases q : y.node = 0
      · simp [q]
      · simp [q]
        omega
    cases j with
    | zero =>
      rw [List.set_cons_zero, e, e]
      show 0 + _ ≤ _
      omega
    | succ j =>
      rw [List.set_cons_succ, e, e]
      have := ih j
      omega
theorem shu_len {S : Sym} {i : Nat} {p : Prm} (h : S.p[i]? = some p) (a : Nat) : (opnP (S.p.set i (p.setF a Fdm.zero))).length ≤ (opnS S).length := opnP_set_le h (opnF_zero_le p.f a)
theorem clo_bad {S : Sym} {i : Nat} {p : Prm} {c : Cal} (h : (p.fd c.a).node = 0) : cloK S i p c = (S, Rsm.e 9) := if_pos h
theorem clo_good {S : Sym} {i : Nat} {p : Prm} {c : Cal} (h : (p.fd c.a).node ≠ 0) : cloK S i p c = (⟨frT S.t (p.fd c.a).node (opnP (S.p.set i (p.setF c.a.toNat Fdm.zero))), S.p.set i (p.setF c.a.toNat Fdm.zero)⟩, Rsm.e 0) := by
  unfold cloK shuS
  rw [if_neg h, fd_getD h]
def shN (S : Sym) (i : Nat) : Nat → Sym
  | 0 => S
  | k + 1 => sh1 (shN S i k) i k
theorem sh1_plen (S : Sym) (i a : Nat) : (sh1 S i a).p.length = S.p.length := by
  unfold sh1
  split
  · rfl
  · split
    · rfl
    · exact List.length_set ..
theorem sh1_olen (S : Sym) (i a : Nat) : (opnS (sh1 S i a)).length ≤ (opnS S).length := by
  unfold sh1
  split
  · exact Nat.le_refl _
  · rename_i p hp
    split
    · exact Nat.le_refl _
    · exact shu_len hp a
theorem shN_plen (S : Sym) (i k : Nat) : (shN S i k).p.length = S.p.length := by
  induction k with
  | zero => rfl
  | succ k ih => exact (sh1_plen _ _ _).trans ih
theorem shN_olen (S : Sym) (i k : Nat) : (opnS (shN S i k)).length ≤ (opnS S).length := by
  induction k with
  | zero => exact Nat.le_refl _
  | succ k ih => exact Nat.le_trans (sh1_olen _ _ _) ih
theorem shN_inv {S : Sym} (h : Inv S) (i k : Nat) : Inv (shN S i k) := by
  induction k with
  | zero => exact h
  | succ k ih => exact inv_sh1 ih i k
theorem clo_sh1 {S : Sym} {i : Nat} {p : Prm} (h : S.p[i]? = some p) (c : Cal) (k : Nat) (hc : c.a = k) : (cloK S i p c).1 = sh1 S i k := by
  have e : p.fd c.a = p.f.getD k Fdm.zero := by
    unfold Prm.fd
    rw [hc, if_pos (by omega)]
    rfl
  unfold cloK sh1
  rw [h, e]
  by_cases q : (p.f.getD k Fdm.zero).node = 0
  · rw [if_pos q]
    show S = if _ then _ else _
    rw [if_pos q]
  · rw [if_neg q]
    show shuS S i p c.a.toNat = if _ then _ else _
    rw [if_neg q, hc]
    rfl
set_option maxHeartbeats 4000000 in
theorem m_close : MtC 75 16 := fun s g b cp i S p c vd w h hI hn hp hd hsh => by
  obtain ⟨o, ho⟩ : ∃ o, i * 16 = o := ⟨_, rfl⟩
  obtain ⟨W1, zr, G, m, hW1, hzr, hm⟩ := mw_start (vd := vd) (c := c) h hp ho
  rw [ho]
  have hgs := hI.gs p (List.mem_of_getElem? hp)
  have HM := Lib.hid hm
  have HOC := Lib.hid (opened_any (p := p) c.a W1 hm.pc)
  have k3 := hm.cal.2.2.1
  by_cases q0 : (p.fd c.a).node = 0
  · have hK : doK 16 S i p c = (S, Rsm.e 9) := clo_bad q0
    rw [hK]
    rw [if_pos q0] at HOC
    clear hm h hI hn hp hd hsh hgs hK ho q0
    go_enter Tryz.func75, Tryz.ntmps75
    go_wp2_with fail
    refine HOC.out.mono ?_
    rintro e w2 ⟨rfl, rfl⟩
    clear hW1 hzr HOC k3
    obtain ⟨x0, x1, x2, x3, x4, x5, x6, x7, x8, x9, x10, x11⟩ := HM.out.kr.c12
    obtain ⟨f0, f1, f2, f3, f4, f5, f6, f7, f8, f9, f10, f11⟩ := HM.out.kr.f12
    obtain ⟨s0, s1, s2, s3, s4, s5, s6, s7, s8, s9, s10, s11⟩ := HM.out.kr.s12
    go_wp2
    exact bodyPost_ret (v := .agg #[.int .i64 9, .int .i64 0, .int .i64 0, .int .i64 0, .int .i64 0, .int .i64 0, .int .i64 0, .int .i64 0, .int .i64 0, .string ⟨#[]⟩, .slice none 0 0, .slice none 0 0]) (by simp [results, Tryz.results75, go_sem, s0, s1, s2, s3, s4, s5, s6, s7, s8, s9, s10, s11]) rfl (doq_e 9 HM.out.sq (Fix.of_below HM.out.blo) HM.out.kr HM.out.lr)
  rw [if_neg q0] at HOC
  have hK := clo_good (S := S) (i := i) q0
  obtain ⟨f, hf⟩ : ∃ f, p.fd c.a = f := ⟨_, rfl⟩
  obtain ⟨j, hj⟩ : ∃ j, c.a.toNat = j := ⟨_, rfl⟩
  have hpl := fd_place q0
  rw [hf, hj] at hpl hK
  rw [hj] at HOC
  have hj3 : j < 3 := by have h1 := (List.getElem?_eq_some_iff.1 hpl).1; rw [hm.pc.len] at h1; exact h1
  have hat := (hm.pc.fd j f hpl).1
  obtain ⟨T, hT⟩ : ∃ T, frT S.t f.node (opnP (S.p.set i (p.setF j Fdm.zero))) = T := ⟨_, rfl⟩
  rw [hT] at hK
  have hK2 : doK 16 S i p c = (⟨T, S.p.set i (p.setF j Fdm.zero)⟩, Rsm.e 0) := hK
  rw [hK2]
  have hs2 : Sq (putF W1 b (o + 4 + j * 4) (.int .i64 0) (.int .i64 0) (.bool false) (.bool false)) s g b cp ⟨S.t, S.p.set i (p.setF j Fdm.zero)⟩ := by
    have h1 := hm.sq.putF hp hj3 (f := Fdm.zero) (fun _ => rfl)
    rw [ho] at h1
    exact h1
  have hn2 : (opnS ⟨S.t, S.p.set i (p.setF j Fdm.zero)⟩).length ≤ 1000 := Nat.le_trans (shu_len hp j) hn
  obtain ⟨q, hq⟩ : ∃ q, o + 4 + j * 4 = q := ⟨_, rfl⟩
  rw [hq] at HOC hat hs2
  obtain ⟨S2, hS2⟩ : ∃ S2 : Sym, (⟨S.t, S.p.set i (p.setF j Fdm.zero)⟩ : Sym) = S2 := ⟨_, rfl⟩
  have hT2 : frT S2.t f.node (opnS S2) = T := by rw [← hS2]; exact hT
  have hS3 : (⟨T, S.p.set i (p.setF j Fdm.zero)⟩ : Sym) = ⟨T, S2.p⟩ := by rw [← hS2]
  rw [hS2] at hs2 hn2
  rw [hS3]
  obtain ⟨cs, hkb, -⟩ := hm.sq.row
  have hg := grownF W1 b q (.int .i64 0) (.int .i64 0) (.bool false) (.bool false)
  have hkr2 := hm.kr.kept hg (some_ne (fun e => blk_ne hkb hm.kr (by decide) e.symm))
  have hfx2 : Fix [g, b] w (putF W1 b q (.int .i64 0) (.int .i64 0) (.bool false) (.bool false)) := (Fix.of_below hm.blo).trans (Fix.of_grown hg (List.mem_cons_of_mem _ (List.mem_singleton.2 rfl)))
  obtain ⟨a0, a1, a2, a3⟩ := hat
  have fb := fun k => hkb.frozen k
  have hlr := hm.lr
  have HLR := Lib.hid hlr
  unfold putF at hs2 hkr2 hfx2
  obtain ⟨W2, hW2⟩ : ∃ W, (((W1.setCell ⟨b, q, none⟩ (.int .i64 0)).setCell ⟨b, q + 1, none⟩ (.int .i64 0)).setCell ⟨b, q + 2, none⟩ (.bool false)).setCell ⟨b, q + 3, none⟩ (.bool false) = W := ⟨_, rfl⟩
  rw [hW2] at hs2 hkr2 hfx2
  have HS2 := Lib.hid hs2
  have HKR2 := Lib.hid hkr2
  have HFX2 := Lib.hid hfx2
  have HW2 := Lib.hid hW2
  have HOP := Lib.hid (fun (V : World) (hv : Below W2.heap.size W2 V) => sopn_any s g b cp S2 V (hs2.below hv) hn2)
  have HCL := Lib.hid (fun (V : World) (hv : Below W2.heap.size W2 V) (A9 : Option Addr) (n9 k9 : Nat) (h9 : IntsR V (.slice A9 n9 k9) (opnS S2)) (ha : Off A9 (opnS S2) g) => show Calls Tryz.prog 121 #[.pointer (some ⟨g, 0, none⟩), .int .i64 f.node, .slice A9 n9 k9] V fun e w' => (∃ x, e = .returned (.bool x)) ∧ TabR w' g T (fun _ => True) ∧ V.grownBy w' (some g) from by
    have h1 := hs2.below hv
    rw [← hT2]
    refine (pruneC.fr g S2.t (fun _ => True) f.node (opnS S2) A9 n9 k9 V h1.tab h1.tab.ok h9 hn2 ha (fun _ _ => trivial)).mono ?_
    rintro e w' ⟨rfl, h2, h3⟩
    exact ⟨⟨_, rfl⟩, h2, h3⟩)
  have HPR := Lib.hid (fun (V : World) (hv : Below W2.heap.size W2 V) => show V.cell? ⟨s, 0, none⟩ = some (.pointer (some ⟨g, 0, none⟩)) from by have := (hs2.below hv).blk.cell 0; simpa using this)
  have HPG := Lib.hid (fun (V w5 : World) (hv : Below W2.heap.size W2 V) (ht : TabR w5 g T (fun _ => True)) (hg : V.grownBy w5 (some g)) => show w5.cell? ⟨s, 0, none⟩ = some (.pointer (some ⟨g, 0, none⟩)) from by have := ((hs2.below hv).tabbed ht hg).blk.cell 0; simpa using this)
  have HGL := Lib.hid (show ∀ V : World, Below W2.heap.size W2 V → g < V.heap.size from fun V hv => (hs2.below hv).tab.lt)
  have j0 := Lib.hid (show Below W2.heap.size W2 W2.drew from (Below.refl _ _).drew)
  clear hm h hI hn hp hd hsh hgs ho q0 hf hj hpl hq hT hK hK2 hs2 hn2 hS2 hT2 hS3 hkb hg hkr2 hfx2 hW2 hj3 hlr
  go_enter Tryz.func75, Tryz.ntmps75
  go_wp2_with fail
  refine HOC.out.mono ?_
  rintro e w2 ⟨rfl, rfl⟩
  clear hW1 hzr HOC k3
  go_upto_region 6 with fail
  rw [HW2.out]
  clear a0 a1 a2 a3 fb HW2
  go_cut [] (fun wx => TabR wx g T (fun _ => True) ∧ ∃ V, Below W2.heap.size W2 V ∧ V.grownBy wx (some g))
  case first =>
    go_region_held3 (fun V => V.cell? ⟨s, 0, none⟩ = some (.pointer (some ⟨g, 0, none⟩)))
      (first | (with_reducible exact HPR.out _ j0.out) | (with_reducible exact HPR.out _ j1.out) | (with_reducible exact HPG.out _ _ j1.out H5.out.1 H5.out.2))
      (first
      | (go_at_call 20; (with_reducible refine (HOP.out _ j0.out).mono ?_); rintro e1 w4 ⟨A9, n9, k9, rfl, hi9, ha9, hb9⟩; have j1 := Lib.hid (bt hb9 j0.out); have I9 := Lib.hid hi9; have O9 := Lib.hid (show Off A9 (opnS S2) g from fun _ ad hA q => by have h1 := ha9 ad hA; have h2 := HGL.out _ j0.out; omega); clear hi9 ha9 hb9)
      | (go_at_call 121; (with_reducible refine (HCL.out _ j1.out A9 n9 k9 I9.out O9.out).mono ?_); rintro e2 w5 ⟨⟨x, rfl⟩, ht, hg⟩; have H5 := Lib.hid (And.intro ht hg); clear ht hg))
    all_goals (
      go_wp2
      go_meet
      exact ⟨H5.out.1, _, j1.out, H5.out.2⟩)
  case rest =>
  obtain ⟨htx, V, hvx, hgx⟩ := hcut
  obtain ⟨w5, hw5⟩ : ∃ W, wc = W := ⟨_, rfl⟩
  rw [hw5] at htx hgx ⊢
  have HSX := Lib.hid ((HS2.out.below hvx).tabbed htx hgx)
  obtain ⟨ct, hct, -⟩ := (HS2.out.below hvx).tab.blk
  have hkv := HKR2.out.below hvx
  have HKX := Lib.hid (hkv.kept hgx (some_ne (blk_ne hkv hct (by decide))))
  have HFX := Lib.hid ((HFX2.out.trans (Fix.of_below hvx)).trans (Fix.of_grown hgx (List.mem_cons_self ..) : Fix [g, b] _ _))
  clear htx hvx hgx hw5 hct hkv HS2 HKR2 HFX2 HOP HCL HPR HPG HGL j0
  obtain ⟨x0, x1, x2, x3, x4, x5, x6, x7, x8, x9, x10, x11⟩ := HKX.out.c12
  obtain ⟨f0, f1, f2, f3, f4, f5, f6, f7, f8, f9, f10, f11⟩ := HKX.out.f12
  obtain ⟨s0, s1, s2, s3, s4, s5, s6, s7, s8, s9, s10, s11⟩ := HKX.out.s12
  go_wp2
  exact bodyPost_ret (v := .agg #[.int .i64 0, .int .i64 0, .int .i64 0, .int .i64 0, .int .i64 0, .int .i64 0, .int .i64 0, .int .i64 0, .int .i64 0, .string ⟨#[]⟩, .slice none 0 0, .slice none 0 0]) (by simp [results, Tryz.results75, go_sem, s0, s1, s2, s3, s4, s5, s6, s7, s8, s9, s10, s11]) rfl (doq_e 0 HSX.out HFX.out HKX.out HLR.out)
set_option maxHeartbeats 4000000 in
theorem m_exit : MtC 77 18 := fun s g b cp i S p c vd w h hI hn hp hd hsh => by
  obtain ⟨W1, zr, G, m, hW1, hzr, hm⟩ := mw_start (vd := vd) (c := c) h hp rfl
  have hK : doK 18 S i p c = (shN S i 3, Rsm.e 0) := rfl
  rw [hK]
  have HM := Lib.hid hm
  have hil := (List.getElem?_eq_some_iff.1 hp).1
  have HCL := Lib.hid (fun (k : Nat) (V : World) (hv : Sq V s g b cp (shN S i k)) => show Calls Tryz.prog 75 #[.pointer (some ⟨s, 0, none⟩), .pointer (some ⟨b, i * 16, none⟩), .agg #[.int .i64 0, .string ⟨#[]⟩, .string ⟨#[]⟩, .int .i64 k, .int .i64 0, .slice none 0 0]] V fun e w' => (∃ x, e = .returned x) ∧ Sq w' s g b cp (shN S i (k + 1)) ∧ Fix [g, b] V w' from by
    have hk : i < (shN S i k).p.length := by rw [shN_plen]; exact hil
    refine (m_close s g b cp i (shN S i k) _ ⟨0, [], [], k, 0, []⟩ (.slice none 0 0) V hv (shN_inv hI i k) (Nat.le_trans (shN_olen S i k) hn) (List.getElem?_eq_getElem hk) (BytesR.nil V) ⟨Nat.zero_le _, Nat.zero_le _, Nat.zero_le _⟩).mono ?_
    rintro e w' ⟨A1, n1, c1, A2, n2, c2, rfl, -, h1, h2⟩
    have e1 : (doK 16 (shN S i k) i (shN S i k).p[i] ⟨0, [], [], k, 0, []⟩).1 = shN S i (k + 1) := clo_sh1 (List.getElem?_eq_getElem hk) _ k rfl
    rw [e1] at h1
    exact ⟨⟨_, rfl⟩, h1, h2⟩)
  clear hm h hI hn hp hd hsh hK hil
  go_enter Tryz.func77, Tryz.ntmps77
  go_wp2
  clear hW1 hzr
  go_loopg [8] 3 (fun gh s8 wr => ∃ k : Nat, s8 = .int .i64 k ∧ k ≤ 3 ∧ gh = 3 - k ∧ Sq wr s g b cp (shN S i k) ∧ Fix [g, b] w wr ∧ Blk wr zr 56 resZ)
  case atStart => exact ⟨0, rfl, Nat.zero_le _, rfl, HM.out.sq, Fix.of_below HM.out.blo, HM.out.kr⟩
  case round =>
    obtain ⟨k, rfl, hk, rfl, hs, hf, hz⟩ := hrel
    by_cases hlt : k < 3
    · have hlt' : (k : Int) < 3 := by omega
      have HC := Lib.hid (HCL.out k wr hs)
      have HF := Lib.hid hf
      have HZ := Lib.hid hz
      have HNZ := Lib.hid (show ¬ zr ∈ [g, b] from by
        obtain ⟨ct, hct, -⟩ := hs.tab.blk
        obtain ⟨cs, hkb, -⟩ := hs.row
        intro q
        rcases List.mem_cons.1 q with q | q
        · exact blk_ne hz hct (by decide) q
        · exact blk_ne hz hkb (by decide) (List.mem_singleton.1 q))
      clear hs hf hz HCL
      go_wp2_with fail
      refine HC.out.mono ?_
      rintro e w2 ⟨⟨x, rfl⟩, hs2, hf2⟩
      have HS2 := Lib.hid hs2
      have HF2 := Lib.hid (HF.out.trans hf2)
      have HZ2 := Lib.hid (hf2.blk HZ.out HNZ.out)
      clear hs2 hf2 HC
      go_wp2
      go_roundg (3 - (k + 1))
      case measure => omega
      case rel => exact ⟨k + 1, by go_num, by omega, rfl, HS2.out, HF2.out, HZ2.out⟩
    · have hlt' : ¬ (k : Int) < 3 := by omega
      have e3 : k = 3 := by omega
      have HS := Lib.hid (show Sq wr s g b cp (shN S i 3) from by rw [← e3]; exact hs)
      have HF := Lib.hid hf
      have HZ := Lib.hid hz
      clear hs hf hz e3 HCL
      obtain ⟨x0, x1, x2, x3, x4, x5, x6, x7, x8, x9, x10, x11⟩ := HZ.out.c12
      obtain ⟨f0, f1, f2, f3, f4, f5, f6, f7, f8, f9, f10, f11⟩ := HZ.out.f12
      obtain ⟨s0, s1, s2, s3, s4, s5, s6, s7, s8, s9, s10, s11⟩ := HZ.out.s12
      go_wp2
      exact bodyPost_ret (v := .agg #[.int .i64 0, .int .i64 0, .int .i64 0, .int .i64 0, .int .i64 0, .int .i64 0, .int .i64 0, .int .i64 0, .int .i64 0, .string ⟨#[]⟩, .slice none 0 0, .slice none 0 0]) (by simp [results, Tryz.results77, go_sem, s0, s1, s2, s3, s4, s5, s6, s7, s8, s9, s10, s11]) rfl (doq_e 0 HS.out HF.out HZ.out HM.out.lr)
end Go.Proofs.YtkmkfolpjlkfoaaGreat
