/-
  What lead of package resolve answers: names are taken, one behind the other. The conditions: no more groups than a million, a path of a thousand bytes at most.
-/
import Derived.Test.YtilepnepcamnaaaGreatRsC
import Derived.Test.YtilepnepcamnaaaGreatRsU
import Derived.Test.YtilepnepcamnaaaGreatRsL
import Derived.Deep.DeepCutAuto
import Derived.WalkMore
namespace Go.Proofs.YtilepnepcamnaaaGreat
open Go Go.RowKit
set_option maxRecDepth 100000

attribute [local go_sem] cell_off4 cell_blk4
def put3 (w : World) (g : Nat) (u0 u1 u2 : Value) : World := (((w.setCell ⟨g, 0, none⟩ u0).setCell ⟨g, 1, none⟩ u1).setCell ⟨g, 2, none⟩ u2)
section
variable {w : World} {g : Nat} {t : TypeId} {a0 a1 a2 : Value}
theorem Blk.set3_0 (h : Blk w g t #[a0, a1, a2]) (u : Value) : Blk (w.setCell ⟨g, 0, none⟩ u) g t #[u, a1, a2] := by simpa using h.set_ 0 u
theorem Blk.set3_1 (h : Blk w g t #[a0, a1, a2]) (u : Value) : Blk (w.setCell ⟨g, 1, none⟩ u) g t #[a0, u, a2] := by simpa using h.set_ 1 u
theorem Blk.set3_2 (h : Blk w g t #[a0, a1, a2]) (u : Value) : Blk (w.setCell ⟨g, 2, none⟩ u) g t #[a0, a1, u] := by simpa using h.set_ 2 u
theorem Blk.put3 (h : Blk w g t #[a0, a1, a2]) (u0 u1 u2 : Value) : Blk (put3 w g u0 u1 u2) g t #[u0, u1, u2] := (((h.set3_0 u0).set3_1 u1).set3_2 u2)
theorem Blk.c3 (h : Blk w g t #[a0, a1, a2]) : w.cell? ⟨g, 0, none⟩ = some a0 ∧ w.cell? ⟨g, 1, none⟩ = some a1 ∧ w.cell? ⟨g, 2, none⟩ = some a2 := ⟨h.cell 0, h.cell 1, h.cell 2⟩
theorem Blk.f3 (h : Blk w g t #[a0, a1, a2]) : w.frozen? ⟨g, 0, none⟩ = false ∧ w.frozen? ⟨g, 1, none⟩ = false ∧ w.frozen? ⟨g, 2, none⟩ = false := ⟨h.frozen 0, h.frozen 1, h.frozen 2⟩
theorem Blk.s3 (h : Blk w g t #[a0, a1, a2]) : (∀ u0, (w.setCell ⟨g, 0, none⟩ u0).cell? ⟨g, 0, none⟩ = some u0) ∧
    (∀ u0 u1, ((w.setCell ⟨g, 0, none⟩ u0).setCell ⟨g, 1, none⟩ u1).cell? ⟨g, 1, none⟩ = some u1) ∧
    (∀ u0 u1 u2, (((w.setCell ⟨g, 0, none⟩ u0).setCell ⟨g, 1, none⟩ u1).setCell ⟨g, 2, none⟩ u2).cell? ⟨g, 2, none⟩ = some u2) :=
  ⟨fun u0 => (h.set3_0 u0).cell 0,
    fun u0 u1 => ((h.set3_0 u0).set3_1 u1).cell 1,
    fun u0 u1 u2 => (((h.set3_0 u0).set3_1 u1).set3_2 u2).cell 2⟩
end
theorem grown3 (w : World) (g : Nat) (u0 u1 u2 : Value) : w.grownBy (put3 w g u0 u1 u2) (some g) := by
  have h := fun (W : World) (i : Nat) (u : Value) => grown_setCell W ⟨g, i, none⟩ u
  exact (grown_trans (grown_trans (h _ _ _) (h _ _ _)) (h _ _ _))

theorem zero_kindM {t : List Nd} : (tget t 0).kind = 0 := by
  rw [tget_out (by omega)]
  rfl
/-- Where lead's loop stands. -/
structure LdS (w wr : World) (C R L A B : Nat) (vl : Value) (l : List Nm) (i : Int) (f : Nat) (c : Wh) (A0 : Option Addr) (m k : Nat) : Prop where
  below : Below w.heap.size w wr
  kc : Blk wr C 25 #[.int .i64 c.u, .int .i64 c.g, .slice A0 m k]
  kr : Blk wr R 105 #[.int .i64 0, .string ⟨#[]⟩, .int .i64 0]
  k3 : LdK wr L A B vl l i f
  lo : w.heap.size ≤ L ∧ w.heap.size ≤ A ∧ w.heap.size ≤ B
theorem LdS.later {w wr w' : World} {C R L A B : Nat} {vl : Value} {l : List Nm} {i : Int} {f : Nat} {c : Wh} {A0 : Option Addr} {m k : Nat} (h : LdS w wr C R L A B vl l i f c A0 m k) (hb : Below wr.heap.size wr w') : LdS w w' C R L A B vl l i f c A0 m k :=
  ⟨bt hb h.below, h.kc.below hb, h.kr.below hb, h.k3.later hb, h.lo⟩
section
variable {w wr : World} {C R L A B : Nat} {vl : Value} {l : List Nm} {i : Int} {f : Nat} {c : Wh} {A0 : Option Addr} {m k : Nat}
theorem LdS.cl (h : LdS w wr C R L A B vl l i f c A0 m k) : C ≠ L ∧ C ≠ A ∧ C ≠ B ∧ R ≠ L ∧ R ≠ A ∧ R ≠ B :=
  ⟨blk_ne h.kc h.k3.kl (by decide), blk_ne h.kc h.k3.ka (by decide), blk_ne h.kc h.k3.kb (by decide), blk_ne h.kr h.k3.kl (by decide), blk_ne h.kr h.k3.ka (by decide), blk_ne h.kr h.k3.kb (by decide)⟩
theorem LdS.setL (h : LdS w wr C R L A B vl l i f c A0 m k) {v' : Value} {l' : List Nm} (hn : StrsT wr v' (bAs l')) : LdS w (wr.setCell ⟨L, 0, none⟩ v') C R L A B v' l' i f c A0 m k :=
  have hg := grown_setCell wr ⟨L, 0, none⟩ v'
  ⟨below_grown h.below hg h.lo.1, h.kc.kept hg (some_ne h.cl.1), h.kr.kept hg (some_ne h.cl.2.2.2.1), h.k3.setL hn, h.lo⟩
theorem LdS.setA (h : LdS w wr C R L A B vl l i f c A0 m k) (j : Int) : LdS w (wr.setCell ⟨A, 0, none⟩ (.int .i64 j)) C R L A B vl l j f c A0 m k :=
  have hg := grown_setCell wr ⟨A, 0, none⟩ (.int .i64 j)
  ⟨below_grown h.below hg h.lo.2.1, h.kc.kept hg (some_ne h.cl.2.1), h.kr.kept hg (some_ne h.cl.2.2.2.2.1), h.k3.setA j, h.lo⟩
theorem LdS.went {w' : World} {vl' : Value} {l' : List Nm} {j : Int} {g : Nat} (h : LdS w wr C R L A B vl l i f c A0 m k) (hc : Ch3 wr w' L A B) (hk : LdK w' L A B vl' l' j g) : LdS w w' C R L A B vl' l' j g c A0 m k :=
  ⟨hc.below h.below h.lo.1 h.lo.2.1 h.lo.2.2, hc.blk h.kc h.cl.1 h.cl.2.1 h.cl.2.2.1, hc.blk h.kr h.cl.2.2.2.1 h.cl.2.2.2.2.1 h.cl.2.2.2.2.2, hk, h.lo⟩
theorem lds_start {w2 w3 : World} {v3 : Value} {S : List Nm} (hb : Below w.heap.size w w2) (hk : Blk w2 C 25 #[.int .i64 c.u, .int .i64 c.g, .slice A0 m k]) (hr : Blk w2 R 105 #[.int .i64 0, .string ⟨#[]⟩, .int .i64 0]) (hb3 : Below w2.heap.size w2 w3) (hn : StrsT w3 v3 (bAs S)) :
    LdS w (((w3.alloc (.cells #[v3] 51)).alloc (.cells #[.int .i64 1] 3)).alloc (.cells #[.int .i64 0] 3)) C R w3.heap.size (w3.heap.size + 1) (w3.heap.size + 1 + 1) v3 S 1 0 c A0 m k := by
  have b1 := ba w3 (.cells #[v3] 51)
  have k1 := Blk.new w3 51 #[v3]
  have e1 : (w3.alloc (.cells #[v3] 51)).heap.size = w3.heap.size + 1 := by simp
  generalize w3.alloc (.cells #[v3] 51) = x1 at b1 k1 e1 ⊢
  have b2 := ba x1 (.cells #[.int .i64 1] 3)
  have k2 := Blk.new x1 3 #[.int .i64 1]
  have e2 : (x1.alloc (.cells #[.int .i64 1] 3)).heap.size = w3.heap.size + 1 + 1 := by simp [e1]
  rw [e1] at k2
  generalize x1.alloc (.cells #[.int .i64 1] 3) = x2 at b2 k2 e2 ⊢
  have b3 := ba x2 (.cells #[.int .i64 0] 3)
  have k3 := Blk.new x2 3 #[.int .i64 0]
  rw [e2] at k3
  have bb := bt b3 (bt b2 b1)
  have hs : w.heap.size ≤ w3.heap.size := Nat.le_trans hb.size hb3.size
  exact ⟨bt bb (bt hb3 hb), (hk.below hb3).below bb, (hr.below hb3).below bb, ⟨(k1.below b2).below b3, k2.below b3, k3, by omega, hn.below bb⟩, by omega, by omega, by omega⟩
end
set_option maxHeartbeats 8000000 in
theorem lead_any (v : Value) (t : List Nd) (c : Wh) (A0 : Option Addr) (m k : Nat) (p : Nm) (f : Bool) (w : World) (h : TabP w v t) (hc : CrR w c A0 m k) (hp : p.length ≤ 1000) (F : Fo) (E : Int) (hR : wlk t c f 8 (splitP p) 1 = (F, E)) :
    Calls Tryz.prog 72 #[v, .agg #[.int .i64 c.u, .int .i64 c.g, .slice A0 m k], .string (bA p), .bool f] w fun e w' => e = .returned (.tuple #[.agg #[.int .i64 F.dir, .string (bA F.name), .int .i64 F.node], .int .i64 E]) ∧ Below w.heap.size w w' := by
  have hmf : ∀ (fn : Fn) (first cap : Array Value) (w : World), (Instr.makeFunc fn first cap).run Tryz.prog w = .ok (.func fn first cap) w := fun _ _ _ _ => rfl
  have hb1 := ba w (.cells #[.int .i64 c.u, .int .i64 c.g, .slice A0 m k] 25)
  have hk1 := Blk.new w 25 #[.int .i64 c.u, .int .i64 c.g, .slice A0 m k]
  obtain ⟨W1, hW1⟩ : ∃ W1, w.alloc (.cells #[.int .i64 c.u, .int .i64 c.g, .slice A0 m k] 25) = W1 := ⟨_, rfl⟩
  rw [hW1] at hb1 hk1
  have hb2 := al hb1 (.cells #[.int .i64 0, .string ⟨#[]⟩, .int .i64 0] 105)
  have hk2 := hk1.below (ba W1 (.cells #[.int .i64 0, .string ⟨#[]⟩, .int .i64 0] 105))
  have hr2 := Blk.new W1 105 #[.int .i64 0, .string ⟨#[]⟩, .int .i64 0]
  obtain ⟨W2, hW2⟩ : ∃ W2, W1.alloc (.cells #[.int .i64 0, .string ⟨#[]⟩, .int .i64 0] 105) = W2 := ⟨_, rfl⟩
  rw [hW2] at hb2 hk2 hr2
  obtain ⟨R, hR1⟩ : ∃ R, W1.heap.size = R := ⟨_, rfl⟩
  rw [hR1] at hr2
  have HRW := Lib.hid (show w.heap.size ≤ R by rw [← hR1]; exact hb1.size)
  have HS := Lib.hid (split_own (bA p) W2 (by rw [size_bA]; omega))
  rw [tl_bA] at HS
  have HSL := Lib.hid (spl_len p)
  have HT := Lib.hid h
  have HC := Lib.hid hc
  have HB2 := Lib.hid hb2
  have HK2 := Lib.hid hk2
  have HR2 := Lib.hid hr2
  have HWK := Lib.hid hR
  generalize splitP p = S at HS HSL HWK
  generalize absP p = ap at HS
  clear h hc hb1 hk1 hb2 hk2 hr2 hR
  go_enter Tryz.func72, Tryz.ntmps72
  go_wp2
  go_step3
  go_wp2_with fail
  refine HS.out.mono ?_
  rintro e w3 ⟨v3, rfl, ho, hb3⟩
  obtain ⟨A3, c3, rfl⟩ := own_slice ho
  go_wp2
  go_step3
  go_wp2
  have hS := lds_start HB2.out HK2.out HR2.out hb3 (StrsT.of_own ho)
  have hSl : S.length ≤ 1002 := by have := HSL.out; omega
  clear hmf hW1 hW2 hR1 HB2 HK2 HR2 HS HSL ho hb3
  generalize w3.heap.size + 1 + 1 = B at hS ⊢
  generalize w3.heap.size + 1 = A at hS ⊢
  generalize w3.heap.size = L at hS ⊢
  have HS0 := Lib.hid hS
  have HSl := Lib.hid hSl
  clear hS hSl
  go_loopg [] (8000 + S.length) (fun gh wr => ∃ (vl : Value) (l : List Nm) (i : Int) (g : Nat), gh = (8 - g) * 1000 + l.length ∧ g ≤ 8 ∧ l.length ≤ 1002 + 66 * g ∧ LdS w wr w.heap.size R L A B vl l i g c A0 m k ∧ wlk t c f (8 - g) l i = (F, E))
  case atStart =>
    have h1 := HSl.out
    exact ⟨_, S, 1, 0, by omega, by omega, by omega, HS0.out, HWK.out⟩
  case round =>
    clear HS0 HSl HWK
    obtain ⟨vl, l, i, g, rfl, hg, hl, hS, hw⟩ := hrel
    have HS := Lib.hid hS
    have HW := Lib.hid hw
    clear hS hw
    cases l with
    | nil =>
      have HZ := Lib.hid (show F = ⟨i, [], i⟩ ∧ E = 0 from by have h := HW.out; rw [wlk_nil] at h; injection h with h1 h2; exact ⟨h1.symm, h2.symm⟩)
      obtain ⟨Av, cv, hv⟩ : ∃ (Av : Option Addr) (cv : Nat), vl = .slice Av 0 cv := by obtain ⟨A', c', e, -⟩ := HS.out.k3.names.1; exact ⟨A', c', e⟩
      subst hv
      obtain ⟨⟨l0, l1⟩, ⟨a0, a1⟩, -⟩ := HS.out.k3.facts
      obtain ⟨p0, p1, p2⟩ := HS.out.kr.c3
      obtain ⟨q0, q1, q2⟩ := HS.out.kr.f3
      obtain ⟨s0, s1, s2⟩ := HS.out.kr.s3
      have HG := Lib.hid (grown3 wr R (.int .i64 i) (.string ⟨#[]⟩) (.int .i64 i))
      go_wp2
      rw [Exit.noGoto_ret]
      exact bodyPost_ret (v := .tuple #[.agg #[.int .i64 i, .string ⟨#[]⟩, .int .i64 i], .int .i64 0]) (by simp [results, Tryz.results72, go_sem, s0, s1, s2]) rfl ⟨by rw [HZ.out.1, HZ.out.2]; rfl, below_grown HS.out.below HG.out HRW.out⟩
    | cons n r =>
      have hlr : r.length + 1 ≤ 1002 + 66 * g := by simpa using hl
      obtain ⟨ad, c1, c2, A2, hv, h0, hT, hrun⟩ := tail_run (show StrsT wr vl (bA n :: bAs r) from HS.out.k3.names)
      have hbr : (bAs r).length = r.length := bAs_len r
      generalize (bAs r).length = N at hv hT hrun hbr
      have HBR := Lib.hid hbr
      clear hbr
      subst hv
      have hS1 := HS.out.setL hT
      have HS1 := Lib.hid hS1
      have HSR := Lib.hid (searched_any v t c A0 m k i _ (HT.out.below hS1.below) (HC.out.below hS1.below))
      obtain ⟨⟨l0, l1⟩, -, -⟩ := HS.out.k3.facts
      obtain ⟨k0, k1, k2⟩ := hS1.kc.c3
      obtain ⟨-, ⟨a0, -⟩, -⟩ := hS1.k3.facts
      have hgt : (N : Int) + 1 > 0 := by omega
      clear hS1 hl HS
      go_wp2_with fail
      refine HSR.out.mono ?_
      rintro e w5 ⟨nd, A5, A6, k5, k6, rfl, hsr, hb5⟩
      have hbx := al hb5 (.cells (ndC nd (.slice A5 nd.data.length k5) (.slice A6 nd.ents.length k6)) 70)
      have hbw := ba w5 (.cells (ndC nd (.slice A5 nd.data.length k5) (.slice A6 nd.ents.length k6)) 70)
      have hS6 := HS1.out.later hbx
      have hkn := Blk.new w5 70 (ndC nd (.slice A5 nd.data.length k5) (.slice A6 nd.ents.length k6))
      have HND := Lib.hid (fun h => (show nd = tget t i ∧ BytesR _ (.slice A5 nd.data.length k5) nd.data ∧ EntsR _ (.slice A6 nd.ents.length k6) nd.ents from ⟨(hsr h).1, (hsr h).2.1.below hbw, (hsr h).2.2.below hbw⟩))
      obtain ⟨x, hx⟩ : ∃ x, w5.heap.size = x := ⟨_, rfl⟩
      obtain ⟨W6, hW6⟩ : ∃ W6, w5.alloc (.cells (ndC nd (.slice A5 nd.data.length k5) (.slice A6 nd.ents.length k6)) 70) = W6 := ⟨_, rfl⟩
      rw [hW6] at hS6 hkn HND
      rw [hx] at hkn
      have HS6 := Lib.hid hS6
      have HKN := Lib.hid hkn
      clear hb5 hbx hbw hsr hS6 hkn HSR HS1 l0 l1 k0 k1 k2 a0 h0 hT hrun
      by_cases q : srE t c i = 0
      · obtain ⟨hnd, hd6, he6⟩ := HND.out q
        have HNE := Lib.hid hnd
        have HD6 := Lib.hid hd6
        have HE6 := Lib.hid he6
        have HQ := Lib.hid q
        have hkn := HKN.out
        rw [q]
        clear hnd hd6 he6 q HND
        by_cases n1 : n = [46]
        · have e1 : ((bA n).toList == ([46] : List UInt8)) = true := by rw [bA_list, n1]; rfl
          have HWN := Lib.hid (show wlk t c f (8 - g) r i = (F, E) from by have h := HW.out; rw [wlk_dot HQ.out n1] at h; exact h)
          clear n1 HW hkn
          go_wp2
          go_roundg ((8 - g) * 1000 + r.length)
          case measure => rw [List.length_cons]; omega
          case rel => exact ⟨_, r, i, g, rfl, hg, by omega, HS6.out, HWN.out⟩
        have e1 : ((bA n).toList == ([46] : List UInt8)) = false := by rw [bA_list]; simpa using n1
        by_cases n2 : n = [46, 46]
        · have e2 : ((bA n).toList == ([46, 46] : List UInt8)) = true := by rw [bA_list, n2]; rfl
          have HWN := Lib.hid (show wlk t c f (8 - g) r (upI t i) = (F, E) from by have h := HW.out; rw [wlk_up HQ.out n2] at h; exact h)
          have HUP := Lib.hid (resup_any v t i W6 (HT.out.below HS6.out.below))
          obtain ⟨-, ⟨a0, a1⟩, -⟩ := HS6.out.k3.facts
          generalize upI t i = up at HWN HUP
          clear n1 n2 HW hkn
          go_wp2_with fail
          refine HUP.out.mono ?_
          rintro e w7 ⟨rfl, hb7⟩
          have hS7 := HS6.out.later hb7
          have HS8 := Lib.hid (hS7.setA up)
          clear a0 a1 hb7
          obtain ⟨-, ⟨a0, a1⟩, -⟩ := hS7.k3.facts
          clear hS7 HS6
          go_wp2
          go_roundg ((8 - g) * 1000 + r.length)
          case measure => rw [List.length_cons]; omega
          case rel => exact ⟨_, r, up, g, rfl, hg, by omega, HS8.out, HWN.out⟩
        have e2 : ((bA n).toList == ([46, 46] : List UInt8)) = false := by rw [bA_list]; simpa using n2
        have HN := Lib.hid (show n ≠ [46] ∧ n ≠ [46, 46] from ⟨n1, n2⟩)
        clear n1 n2
        have HFEW := Lib.hid (show nd.ents.length ≤ 1000 from by rw [HNE.out]; have := (ok_few HT.out.ok.1 i).ents; omega)
        have HFD := Lib.hid (fun W (hb : Below W6.heap.size W6 W) => find_any nd _ _ n W (HD6.out.below hb) (HE6.out.below hb) HFEW.out)
        unfold nodeV at HFD
        obtain ⟨id, hid⟩ : ∃ id, fnd nd.ents n = id := ⟨_, rfl⟩
        rw [hid] at HFD
        have HID := Lib.hid (show fnd (tget t i).ents n = id from by rw [← HNE.out]; exact hid)
        clear hid
        obtain ⟨n0, n1, n2, n3, n4, n5, n6⟩ := hkn.c7
        obtain ⟨⟨l0, -⟩, -, -⟩ := HS6.out.k3.facts
        have hs0 : W6.drew.cell? ⟨x, 0, none⟩ = some (.int .i64 nd.kind) := n0
        have hs1 : W6.drew.cell? ⟨x, 1, none⟩ = some (.int .i64 nd.mode) := n1
        have hs2 : W6.drew.cell? ⟨x, 2, none⟩ = some (.int .i64 nd.uid) := n2
        have hs3 : W6.drew.cell? ⟨x, 3, none⟩ = some (.int .i64 nd.gid) := n3
        have hs4 : W6.drew.cell? ⟨x, 4, none⟩ = some (.slice A5 nd.data.length k5) := n4
        have hs5 : W6.drew.cell? ⟨x, 5, none⟩ = some (.slice A6 nd.ents.length k6) := n5
        have hs6 : W6.drew.cell? ⟨x, 6, none⟩ = some (.string (bA nd.target)) := n6
        have hs7 : W6.drew.cell? ⟨L, 0, none⟩ = some (.slice A2 N c2) := l0
        have hs8 : Below W6.heap.size W6 W6.drew := (Below.refl _ _).drew
        clear n0 n1 n2 n3 n4 n5 n6 l0 hkn
        go_upto_region 14 with fail
        go_region_held3 (fun w' => w'.cell? ⟨x, 0, none⟩ = some (.int .i64 nd.kind) ∧ w'.cell? ⟨x, 1, none⟩ = some (.int .i64 nd.mode) ∧ w'.cell? ⟨x, 2, none⟩ = some (.int .i64 nd.uid) ∧ w'.cell? ⟨x, 3, none⟩ = some (.int .i64 nd.gid) ∧ w'.cell? ⟨x, 4, none⟩ = some (.slice A5 nd.data.length k5) ∧ w'.cell? ⟨x, 5, none⟩ = some (.slice A6 nd.ents.length k6) ∧ w'.cell? ⟨x, 6, none⟩ = some (.string (bA nd.target)) ∧ w'.cell? ⟨L, 0, none⟩ = some (.slice A2 N c2) ∧ Below W6.heap.size W6 w')
          (first | exact ⟨hs0, hs1, hs2, hs3, hs4, hs5, hs6, hs7, hs8⟩ | exact ⟨bc h1 hs0, bc h1 hs1, bc h1 hs2, bc h1 hs3, bc h1 hs4, bc h1 hs5, bc h1 hs6, bc h1 hs7, bt h1 hs8⟩)
          (first | (go_at_call 98; (with_reducible refine (HFD.out _ hs8).mono ?_); rintro e1 w7 ⟨rfl, h1⟩))
        have hS7 := HS6.out.later (bt h1 hs8)
        have HS7 := Lib.hid hS7
        have HG := Lib.hid (get_any v t id w7 (HT.out.below hS7.below))
        obtain ⟨n2, hn2⟩ : ∃ n2, tget t id = n2 := ⟨_, rfl⟩
        rw [hn2] at HG
        have HN2 := Lib.hid hn2
        clear hs0 hs1 hs2 hs3 hs4 hs5 hs6 hs7 hs8 h1 hS7 hn2
        generalize tis t id = b2 at HG
        unfold nodeV at HG
        go_wp2_with fail
        refine HG.out.mono ?_
        rintro e w8 ⟨vd, ve, rfl, hd8, he8, -, -, hb8⟩
        obtain ⟨A7, k7, rfl⟩ := bytesT_form hd8
        obtain ⟨A8, k8, rfl⟩ := entsT_form he8
        have hS9 := HS7.out.later (al hb8 (.cells (ndC n2 (.slice A7 n2.data.length k7) (.slice A8 n2.ents.length k8)) 70))
        have hkm := Blk.new w8 70 (ndC n2 (.slice A7 n2.data.length k7) (.slice A8 n2.ents.length k8))
        obtain ⟨y, hy⟩ : ∃ y, w8.heap.size = y := ⟨_, rfl⟩
        obtain ⟨W9, hW9⟩ : ∃ W9, w8.alloc (.cells (ndC n2 (.slice A7 n2.data.length k7) (.slice A8 n2.ents.length k8)) 70) = W9 := ⟨_, rfl⟩
        rw [hW9] at hS9 hkm
        rw [hy] at hkm
        have HS9 := Lib.hid hS9
        obtain ⟨n0, n1, n2c, n3, n4, n5, n6⟩ := hkm.c7
        clear hd8 he8 hb8 HG HS7 HS6 hkm HD6 HE6 HFD HKN HNE HFEW
        have hsz := size_bA n
        by_cases h12 : 12 < n.length
        · have e3 : ((bA n).size : Int) > 12 := by rw [hsz]; omega
          have HZ := Lib.hid (show F = Fo.zero ∧ E = 36 from by have h := HW.out; rw [wlk_long HQ.out HN.out.1 HN.out.2 h12] at h; injection h with h1 h2; exact ⟨h1.symm, h2.symm⟩)
          obtain ⟨p0, p1, p2⟩ := hS9.kr.c3
          obtain ⟨q0, q1, q2⟩ := hS9.kr.f3
          obtain ⟨s0, s1, s2⟩ := hS9.kr.s3
          have HGR := Lib.hid (grown3 W9 R (.int .i64 0) (.string ⟨#[]⟩) (.int .i64 0))
          clear hS9 h12 hsz
          go_wp2
          rw [Exit.noGoto_ret]
          exact bodyPost_ret (v := .tuple #[.agg #[.int .i64 0, .string ⟨#[]⟩, .int .i64 0], .int .i64 36]) (by simp [results, Tryz.results72, go_sem, s0, s1, s2]) rfl ⟨by rw [HZ.out.1, HZ.out.2]; try rfl, below_grown HS9.out.below HGR.out HRW.out⟩
        have e3 : ¬ ((bA n).size : Int) > 12 := by rw [hsz]; omega
        have H12 := Lib.hid h12
        clear h12 hsz
        have HBN := HBR.out
        by_cases hr : r = []
        · have eN : ((N : Int) == 0) = true := by rw [HBN, hr]; rfl
          have HR0 := Lib.hid hr
          clear hr HBN
          by_cases hk : n2.kind = 3
          · have eK : (n2.kind == 3) = true := by simpa using hk
            have HIZ := Lib.hid (show id ≠ 0 from fun q => by have h := HN2.out; rw [q] at h; rw [← h, zero_kindM] at hk; exact absurd hk (by decide))
            have eI : (id == 0) = false := by rw [beq_eq_false_iff_ne]; exact HIZ.out
            cases f with
            | true =>
              by_cases hg8 : g = 8
              · have e8 : ((g : Int) == 8) = true := by rw [hg8]; rfl
                have hw8 : 8 - g = 0 := by omega
                have HW0 := Lib.hid (show wlk t c true 0 (n :: r) i = (F, E) from by have h := HW.out; rw [hw8] at h; exact h)
                obtain ⟨-, -, ⟨b0, b1⟩⟩ := hS9.k3.facts
                have HZ := Lib.hid (show F = Fo.zero ∧ E = 40 from by have h := HW0.out; rw [wlk_loop HQ.out HN.out.1 HN.out.2 H12.out (fun q => HIZ.out (by rw [← HID.out]; exact q.1)) ⟨by rw [HID.out, HN2.out]; exact hk, .inl rfl⟩] at h; injection h with h1 h2; exact ⟨h1.symm, h2.symm⟩)
                obtain ⟨p0, p1, p2⟩ := hS9.kr.c3
                obtain ⟨q0, q1, q2⟩ := hS9.kr.f3
                obtain ⟨s0, s1, s2⟩ := hS9.kr.s3
                have HGR := Lib.hid (grown3 W9 R (.int .i64 0) (.string ⟨#[]⟩) (.int .i64 0))
                clear hS9 hg8 hw8 hk
                go_wp2
                rw [Exit.noGoto_ret]
                exact bodyPost_ret (v := .tuple #[.agg #[.int .i64 0, .string ⟨#[]⟩, .int .i64 0], .int .i64 40]) (by simp [results, Tryz.results72, go_sem, s0, s1, s2]) rfl ⟨by rw [HZ.out.1, HZ.out.2]; try rfl, below_grown HS9.out.below HGR.out HRW.out⟩
              · have e8 : ((g : Int) == 8) = false := by rw [beq_eq_false_iff_ne]; omega
                obtain ⟨j, hj⟩ : ∃ j, 8 - g = j + 1 := ⟨7 - g, by omega⟩
                have HWN := Lib.hid (show wlk t c true (8 - (g + 1)) (splitP n2.target ++ r) (if absP n2.target = true then 1 else i) = (F, E) from by have h := HW.out; rw [hj, wlk_link HQ.out HN.out.1 HN.out.2 H12.out (fun q => HIZ.out (by rw [← HID.out]; exact q.1)) ⟨by rw [HID.out, HN2.out]; exact hk, .inl rfl⟩, HID.out, HN2.out] at h; rw [show 8 - (g + 1) = j by omega]; exact h)
                have HTL := Lib.hid (show n2.target.length ≤ 64 from by rw [← HN2.out]; exact target_len HT.out.ok.1 id)
                have HGA := Lib.hid (goAlong_any n2.target r L A B _ i g W9 hS9.k3 (by have := HTL.out; omega) (by omega) (by omega))
                obtain ⟨-, -, ⟨b0, b1⟩⟩ := hS9.k3.facts
                have HL2 := Lib.hid (spl_len n2.target)
                generalize splitP n2.target = sp at HWN HGA HL2
                generalize (if absP n2.target = true then 1 else i) = i2 at HWN HGA
                clear hS9 hk hj
                go_wp2_with fail
                refine HGA.out.mono ?_
                rintro e w10 ⟨rfl, ⟨vl', hk10⟩, hch⟩
                have HS10 := Lib.hid (HS9.out.went hch hk10)
                clear hk10 hch
                go_wp2
                go_roundg ((8 - (g + 1)) * 1000 + (sp ++ r).length)
                case measure => have h1 := HL2.out; have h2 := HTL.out; rw [List.length_append, List.length_cons]; omega
                case rel => exact ⟨_, sp ++ r, i2, g + 1, rfl, by omega, by have h1 := HL2.out; have h2 := HTL.out; rw [List.length_append]; omega, HS10.out, HWN.out⟩
            | false =>
              obtain ⟨-, ⟨a0, a1⟩, -⟩ := hS9.k3.facts
              have HZ := Lib.hid (show F = ⟨i, n, id⟩ ∧ E = 0 from by have h := HW.out; rw [wlk_last HQ.out HN.out.1 HN.out.2 H12.out (fun q => q.2.elim (fun q => by cases q) (fun q => q HR0.out)) HR0.out, HID.out] at h; injection h with h1 h2; exact ⟨h1.symm, h2.symm⟩)
              obtain ⟨p0, p1, p2⟩ := hS9.kr.c3
              obtain ⟨q0, q1, q2⟩ := hS9.kr.f3
              obtain ⟨s0, s1, s2⟩ := hS9.kr.s3
              have HGR := Lib.hid (grown3 W9 R (.int .i64 i) (.string (bA n)) (.int .i64 id))
              clear hS9 hk
              go_wp2
              rw [Exit.noGoto_ret]
              exact bodyPost_ret (v := .tuple #[.agg #[.int .i64 i, .string (bA n), .int .i64 id], .int .i64 0]) (by simp [results, Tryz.results72, go_sem, s0, s1, s2]) rfl ⟨by rw [HZ.out.1, HZ.out.2]; try rfl, below_grown HS9.out.below HGR.out HRW.out⟩
          · have eK : (n2.kind == 3) = false := by simpa using hk
            have HL3 := Lib.hid (show ¬ ((tget t (fnd (tget t i).ents n)).kind = 3 ∧ (f = true ∨ r ≠ [])) from fun q => hk (by have h := q.1; rw [HID.out, HN2.out] at h; exact h))
            clear hk
            by_cases hz : id = 0
            · have eI : (id == 0) = true := by simpa using hz
              have HZ0 := Lib.hid hz
              clear hz
              obtain ⟨-, ⟨a0, a1⟩, -⟩ := hS9.k3.facts
              have HZ := Lib.hid (show F = ⟨i, n, id⟩ ∧ E = 0 from by have h := HW.out; rw [wlk_last HQ.out HN.out.1 HN.out.2 H12.out (HL3.out) HR0.out, HID.out] at h; injection h with h1 h2; exact ⟨h1.symm, h2.symm⟩)
              obtain ⟨p0, p1, p2⟩ := hS9.kr.c3
              obtain ⟨q0, q1, q2⟩ := hS9.kr.f3
              obtain ⟨s0, s1, s2⟩ := hS9.kr.s3
              have HGR := Lib.hid (grown3 W9 R (.int .i64 i) (.string (bA n)) (.int .i64 id))
              clear hS9 
              go_wp2
              rw [Exit.noGoto_ret]
              exact bodyPost_ret (v := .tuple #[.agg #[.int .i64 i, .string (bA n), .int .i64 id], .int .i64 0]) (by simp [results, Tryz.results72, go_sem, s0, s1, s2]) rfl ⟨by rw [HZ.out.1, HZ.out.2]; try rfl, below_grown HS9.out.below HGR.out HRW.out⟩
            · have eI : (id == 0) = false := by simpa using hz
              clear hz
              obtain ⟨-, ⟨a0, a1⟩, -⟩ := hS9.k3.facts
              have HZ := Lib.hid (show F = ⟨i, n, id⟩ ∧ E = 0 from by have h := HW.out; rw [wlk_last HQ.out HN.out.1 HN.out.2 H12.out (HL3.out) HR0.out, HID.out] at h; injection h with h1 h2; exact ⟨h1.symm, h2.symm⟩)
              obtain ⟨p0, p1, p2⟩ := hS9.kr.c3
              obtain ⟨q0, q1, q2⟩ := hS9.kr.f3
              obtain ⟨s0, s1, s2⟩ := hS9.kr.s3
              have HGR := Lib.hid (grown3 W9 R (.int .i64 i) (.string (bA n)) (.int .i64 id))
              clear hS9 
              go_wp2
              rw [Exit.noGoto_ret]
              exact bodyPost_ret (v := .tuple #[.agg #[.int .i64 i, .string (bA n), .int .i64 id], .int .i64 0]) (by simp [results, Tryz.results72, go_sem, s0, s1, s2]) rfl ⟨by rw [HZ.out.1, HZ.out.2]; try rfl, below_grown HS9.out.below HGR.out HRW.out⟩
        have eN : ((N : Int) == 0) = false := by rw [HBN, beq_eq_false_iff_ne]; intro q; exact hr (List.length_eq_zero_iff.1 (by omega))
        have HR0 := Lib.hid hr
        clear hr HBN
        by_cases hz : id = 0
        · have eI : (id == 0) = true := by simpa using hz
          have HZ0 := Lib.hid hz
          have HZ := Lib.hid (show F = Fo.zero ∧ E = 2 from by have h := HW.out; rw [wlk_gone HQ.out HN.out.1 HN.out.2 H12.out (by rw [HID.out]; exact HZ0.out) HR0.out] at h; injection h with h1 h2; exact ⟨h1.symm, h2.symm⟩)
          obtain ⟨p0, p1, p2⟩ := hS9.kr.c3
          obtain ⟨q0, q1, q2⟩ := hS9.kr.f3
          obtain ⟨s0, s1, s2⟩ := hS9.kr.s3
          have HGR := Lib.hid (grown3 W9 R (.int .i64 0) (.string ⟨#[]⟩) (.int .i64 0))
          clear hS9 hz
          go_wp2
          rw [Exit.noGoto_ret]
          exact bodyPost_ret (v := .tuple #[.agg #[.int .i64 0, .string ⟨#[]⟩, .int .i64 0], .int .i64 2]) (by simp [results, Tryz.results72, go_sem, s0, s1, s2]) rfl ⟨by rw [HZ.out.1, HZ.out.2]; try rfl, below_grown HS9.out.below HGR.out HRW.out⟩
        have HIZ := Lib.hid hz
        have eI : (id == 0) = false := by simpa using hz
        clear hz
        by_cases hk : n2.kind = 3
        · have eK : (n2.kind == 3) = true := by simpa using hk
          cases f with
          | true =>
            by_cases hg8 : g = 8
            · have e8 : ((g : Int) == 8) = true := by rw [hg8]; rfl
              have hw8 : 8 - g = 0 := by omega
              have HW0 := Lib.hid (show wlk t c true 0 (n :: r) i = (F, E) from by have h := HW.out; rw [hw8] at h; exact h)
              obtain ⟨-, -, ⟨b0, b1⟩⟩ := hS9.k3.facts
              have HZ := Lib.hid (show F = Fo.zero ∧ E = 40 from by have h := HW0.out; rw [wlk_loop HQ.out HN.out.1 HN.out.2 H12.out (fun q => HIZ.out (by rw [← HID.out]; exact q.1)) ⟨by rw [HID.out, HN2.out]; exact hk, .inr HR0.out⟩] at h; injection h with h1 h2; exact ⟨h1.symm, h2.symm⟩)
              obtain ⟨p0, p1, p2⟩ := hS9.kr.c3
              obtain ⟨q0, q1, q2⟩ := hS9.kr.f3
              obtain ⟨s0, s1, s2⟩ := hS9.kr.s3
              have HGR := Lib.hid (grown3 W9 R (.int .i64 0) (.string ⟨#[]⟩) (.int .i64 0))
              clear hS9 hg8 hw8 hk
              go_wp2
              rw [Exit.noGoto_ret]
              exact bodyPost_ret (v := .tuple #[.agg #[.int .i64 0, .string ⟨#[]⟩, .int .i64 0], .int .i64 40]) (by simp [results, Tryz.results72, go_sem, s0, s1, s2]) rfl ⟨by rw [HZ.out.1, HZ.out.2]; try rfl, below_grown HS9.out.below HGR.out HRW.out⟩
            · have e8 : ((g : Int) == 8) = false := by rw [beq_eq_false_iff_ne]; omega
              obtain ⟨j, hj⟩ : ∃ j, 8 - g = j + 1 := ⟨7 - g, by omega⟩
              have HWN := Lib.hid (show wlk t c true (8 - (g + 1)) (splitP n2.target ++ r) (if absP n2.target = true then 1 else i) = (F, E) from by have h := HW.out; rw [hj, wlk_link HQ.out HN.out.1 HN.out.2 H12.out (fun q => HIZ.out (by rw [← HID.out]; exact q.1)) ⟨by rw [HID.out, HN2.out]; exact hk, .inr HR0.out⟩, HID.out, HN2.out] at h; rw [show 8 - (g + 1) = j by omega]; exact h)
              have HTL := Lib.hid (show n2.target.length ≤ 64 from by rw [← HN2.out]; exact target_len HT.out.ok.1 id)
              have HGA := Lib.hid (goAlong_any n2.target r L A B _ i g W9 hS9.k3 (by have := HTL.out; omega) (by omega) (by omega))
              obtain ⟨-, -, ⟨b0, b1⟩⟩ := hS9.k3.facts
              have HL2 := Lib.hid (spl_len n2.target)
              generalize splitP n2.target = sp at HWN HGA HL2
              generalize (if absP n2.target = true then 1 else i) = i2 at HWN HGA
              clear hS9 hk hj
              go_wp2_with fail
              refine HGA.out.mono ?_
              rintro e w10 ⟨rfl, ⟨vl', hk10⟩, hch⟩
              have HS10 := Lib.hid (HS9.out.went hch hk10)
              clear hk10 hch
              go_wp2
              go_roundg ((8 - (g + 1)) * 1000 + (sp ++ r).length)
              case measure => have h1 := HL2.out; have h2 := HTL.out; rw [List.length_append, List.length_cons]; omega
              case rel => exact ⟨_, sp ++ r, i2, g + 1, rfl, by omega, by have h1 := HL2.out; have h2 := HTL.out; rw [List.length_append]; omega, HS10.out, HWN.out⟩
          | false =>
            by_cases hg8 : g = 8
            · have e8 : ((g : Int) == 8) = true := by rw [hg8]; rfl
              have hw8 : 8 - g = 0 := by omega
              have HW0 := Lib.hid (show wlk t c false 0 (n :: r) i = (F, E) from by have h := HW.out; rw [hw8] at h; exact h)
              obtain ⟨-, -, ⟨b0, b1⟩⟩ := hS9.k3.facts
              have HZ := Lib.hid (show F = Fo.zero ∧ E = 40 from by have h := HW0.out; rw [wlk_loop HQ.out HN.out.1 HN.out.2 H12.out (fun q => HIZ.out (by rw [← HID.out]; exact q.1)) ⟨by rw [HID.out, HN2.out]; exact hk, .inr HR0.out⟩] at h; injection h with h1 h2; exact ⟨h1.symm, h2.symm⟩)
              obtain ⟨p0, p1, p2⟩ := hS9.kr.c3
              obtain ⟨q0, q1, q2⟩ := hS9.kr.f3
              obtain ⟨s0, s1, s2⟩ := hS9.kr.s3
              have HGR := Lib.hid (grown3 W9 R (.int .i64 0) (.string ⟨#[]⟩) (.int .i64 0))
              clear hS9 hg8 hw8 hk
              go_wp2
              rw [Exit.noGoto_ret]
              exact bodyPost_ret (v := .tuple #[.agg #[.int .i64 0, .string ⟨#[]⟩, .int .i64 0], .int .i64 40]) (by simp [results, Tryz.results72, go_sem, s0, s1, s2]) rfl ⟨by rw [HZ.out.1, HZ.out.2]; try rfl, below_grown HS9.out.below HGR.out HRW.out⟩
            · have e8 : ((g : Int) == 8) = false := by rw [beq_eq_false_iff_ne]; omega
              obtain ⟨j, hj⟩ : ∃ j, 8 - g = j + 1 := ⟨7 - g, by omega⟩
              have HWN := Lib.hid (show wlk t c false (8 - (g + 1)) (splitP n2.target ++ r) (if absP n2.target = true then 1 else i) = (F, E) from by have h := HW.out; rw [hj, wlk_link HQ.out HN.out.1 HN.out.2 H12.out (fun q => HIZ.out (by rw [← HID.out]; exact q.1)) ⟨by rw [HID.out, HN2.out]; exact hk, .inr HR0.out⟩, HID.out, HN2.out] at h; rw [show 8 - (g + 1) = j by omega]; exact h)
              have HTL := Lib.hid (show n2.target.length ≤ 64 from by rw [← HN2.out]; exact target_len HT.out.ok.1 id)
              have HGA := Lib.hid (goAlong_any n2.target r L A B _ i g W9 hS9.k3 (by have := HTL.out; omega) (by omega) (by omega))
              obtain ⟨-, -, ⟨b0, b1⟩⟩ := hS9.k3.facts
              have HL2 := Lib.hid (spl_len n2.target)
              generalize splitP n2.target = sp at HWN HGA HL2
              generalize (if absP n2.target = true then 1 else i) = i2 at HWN HGA
              clear hS9 hk hj
              go_wp2_with fail
              refine HGA.out.mono ?_
              rintro e w10 ⟨rfl, ⟨vl', hk10⟩, hch⟩
              have HS10 := Lib.hid (HS9.out.went hch hk10)
              clear hk10 hch
              go_wp2
              go_roundg ((8 - (g + 1)) * 1000 + (sp ++ r).length)
              case measure => have h1 := HL2.out; have h2 := HTL.out; rw [List.length_append, List.length_cons]; omega
              case rel => exact ⟨_, sp ++ r, i2, g + 1, rfl, by omega, by have h1 := HL2.out; have h2 := HTL.out; rw [List.length_append]; omega, HS10.out, HWN.out⟩
        · have eK : (n2.kind == 3) = false := by simpa using hk
          have HWN := Lib.hid (show wlk t c f (8 - g) r id = (F, E) from by have h := HW.out; rw [wlk_on HQ.out HN.out.1 HN.out.2 H12.out (by rw [HID.out]; exact HIZ.out) (fun q => hk (by have h := q.1; rw [HID.out, HN2.out] at h; exact h)) HR0.out, HID.out] at h; exact h)
          obtain ⟨-, ⟨a0, a1⟩, -⟩ := hS9.k3.facts
          have HS10 := Lib.hid (hS9.setA id)
          clear hS9 hk
          go_wp2
          go_roundg ((8 - g) * 1000 + r.length)
          case measure => rw [List.length_cons]; omega
          case rel => exact ⟨_, r, id, g, rfl, hg, by omega, HS10.out, HWN.out⟩
      · have HZ := Lib.hid (show F = Fo.zero ∧ E = srE t c i from by have h := HW.out; rw [wlk_sr q] at h; injection h with h1 h2; exact ⟨h1.symm, h2.symm⟩)
        have q3 : (srE t c i != 0) = true := by simpa using q
        obtain ⟨p0, p1, p2⟩ := HS6.out.kr.c3
        obtain ⟨q0, q1, q2⟩ := HS6.out.kr.f3
        obtain ⟨s0, s1, s2⟩ := HS6.out.kr.s3
        have HG := Lib.hid (grown3 W6 R (.int .i64 0) (.string ⟨#[]⟩) (.int .i64 0))
        generalize srE t c i = sr at q3 HZ ⊢
        clear q HND
        go_wp2
        rw [Exit.noGoto_ret]
        exact bodyPost_ret (v := .tuple #[.agg #[.int .i64 0, .string ⟨#[]⟩, .int .i64 0], .int .i64 sr]) (by simp [results, Tryz.results72, go_sem, s0, s1, s2]) rfl ⟨by rw [HZ.out.1, HZ.out.2]; rfl, below_grown HS6.out.below HG.out HRW.out⟩
end Go.Proofs.YtilepnepcamnaaaGreat
