/-
  The reference's Build, of whatever is told. The condition: what is told is short.
-/
import Derived.Test.YtnecnnajngfooaaROn2
namespace Go.Proofs.Ytnecnnajngfooaa
open Go Go.RowKit
set_option maxRecDepth 100000

attribute [local go_sem] cell_off4 cell_blk4
/-- What the reference's Build answers. -/
def RBldAns (X : BR) (e : Ending) (w' : World) : Prop :=
  match X with
  | .bad k err => e = .returned (.tuple #[.agg #[.slice none 0 0], .int .i64 (k : Int), .int .i64 err])
  | .good T => ∃ g n c, e = .returned (.tuple #[.agg #[.slice (some ⟨g, 0, none⟩) n c], .int .i64 0, .int .i64 0]) ∧ NsR (fun _ => True) w' (.slice (some ⟨g, 0, none⟩) n c) T
theorem rbad_ans {w' : World} {X : BR} {k : Nat} {err : Int} (h : X = .bad k err) : RBldAns X (.returned (.tuple #[.agg #[.slice none 0 0], .int .i64 (k : Int), .int .i64 err])) w' := by
  subst h
  rfl
theorem rgood_ans {w' : World} {X : BR} {g n c : Nat} {T : List Nd} (h : X = .good T) (hn : NsR (fun _ => True) w' (.slice (some ⟨g, 0, none⟩) n c) T) : RBldAns X (.returned (.tuple #[.agg #[.slice (some ⟨g, 0, none⟩) n c], .int .i64 0, .int .i64 0])) w' := by
  subst h
  exact ⟨g, n, c, rfl, hn⟩
theorem rr_cells {w : World} {B : Nat} {A : Option Addr} {n c : Nat} {l : List Rw} (h : RsX w B (.slice A n c) l) {k : Nat} {r : Rw} (hk : l[k]? = some r) : ∃ g, A = some ⟨g, 0, none⟩ ∧ w.cell? ⟨g, k * 11, none⟩ = some (.int .i64 r.kind) ∧ w.cell? ⟨g, k * 11 + 1, none⟩ = some (.int .i64 r.mode) ∧ w.cell? ⟨g, k * 11 + 2, none⟩ = some (.int .i64 r.uid) ∧ w.cell? ⟨g, k * 11 + 3, none⟩ = some (.int .i64 r.gid) ∧ w.cell? ⟨g, k * 11 + 4, none⟩ = some (.string (bA r.data)) ∧ w.cell? ⟨g, k * 11 + 5, none⟩ = some (.slice none 0 0) ∧ w.cell? ⟨g, k * 11 + 6, none⟩ = some (.slice none 0 0) ∧ w.cell? ⟨g, k * 11 + 7, none⟩ = some (.string (bA r.target)) ∧ w.cell? ⟨g, k * 11 + 8, none⟩ = some (.int .i64 r.parent) ∧ w.cell? ⟨g, k * 11 + 9, none⟩ = some (.string (bA r.name)) ∧ w.cell? ⟨g, k * 11 + 10, none⟩ = some (.int .i64 r.node) := by
  obtain ⟨g, rfl, -, hc⟩ := rs_get h hk
  exact ⟨g, rfl, hc 0 _ (by decide) rfl, hc 1 _ (by decide) rfl, hc 2 _ (by decide) rfl, hc 3 _ (by decide) rfl, hc 4 _ (by decide) rfl, hc 5 _ (by decide) rfl, hc 6 _ (by decide) rfl, hc 7 _ (by decide) rfl, hc 8 _ (by decide) rfl, hc 9 _ (by decide) rfl, hc 10 _ (by decide) rfl⟩
theorem n8_of {w : World} {B gr n c : Nat} {r : Rw} {l0 : List Rw} (h : RsX w B (.slice (some ⟨gr, 0, none⟩) n c) (r :: l0)) : (w.cell? ⟨gr, 0, none⟩ = some (.int .i64 r.kind) ∧ w.cell? ⟨gr, 1, none⟩ = some (.int .i64 r.mode) ∧ w.cell? ⟨gr, 2, none⟩ = some (.int .i64 r.uid) ∧ w.cell? ⟨gr, 3, none⟩ = some (.int .i64 r.gid) ∧ w.cell? ⟨gr, 4, none⟩ = some (.string (bA r.data)) ∧ w.cell? ⟨gr, 5, none⟩ = some (.slice none 0 0) ∧ w.cell? ⟨gr, 6, none⟩ = some (.slice none 0 0) ∧ w.cell? ⟨gr, 7, none⟩ = some (.string (bA r.target))) ∧ w.cell? ⟨gr, 8, none⟩ = some (.int .i64 r.parent) ∧ w.cell? ⟨gr, 9, none⟩ = some (.string (bA r.name)) := by
  obtain ⟨g, hg, h0, h1, h2, h3, h4, h5, h6, h7, h8, h9, -⟩ := rr_cells h (k := 0) rfl
  injection hg with hg
  injection hg with hg
  subst hg
  simp only [Nat.zero_mul, Nat.zero_add] at h0 h1 h2 h3 h4 h5 h6 h7 h8 h9
  exact ⟨⟨h0, h1, h2, h3, h4, h5, h6, h7⟩, h8, h9⟩
theorem rt_act {t : List Nd} {r : Rw} (h : addE t (toB (rightP r.nd)) = 0) : rtT t r = actT t 1 0 r.nd (toB (rightP r.nd)) := by
  obtain ⟨h1, h2⟩ := addE_zero.1 h
  unfold rtT actT
  rw [if_neg (show ¬ (1 : Int) = 0 by decide), if_pos rfl, toB_true h1, if_pos ⟨rfl, h2⟩]
/-- The first one is added: the table in a box of its own. -/
structure RB (W wx : World) (b y : Nat) (v9 : Value) (T : List Nd) : Prop where
  box : Blk wx y 29 #[v9]
  ns : NsR (fun x => x ≠ y ∧ x ≠ b) wx v9 T
  below : Below W.heap.size W wx
  lo : W.heap.size ≤ y
theorem RB.fresh {W w8 : World} {b : Nat} {v9 : Value} {T : List Nd} (h : NsR (fun x => x ≠ b) w8 v9 T) (hb : Below W.heap.size W w8) : RB W (w8.alloc (.cells #[v9] 29)) b w8.heap.size v9 T :=
  ⟨Blk.new _ _ _, (h.mono (fun x hx hlt => ⟨by omega, hx⟩)).below (ba _ _), al hb _, hb.size⟩
theorem RB.put {W w8 : World} {b y : Nat} {v8 v9 : Value} {T : List Nd} (hk : Blk w8 y 29 #[v8]) (h : NsR (fun x => x ≠ y ∧ x ≠ b) w8 v9 T) (hb : Below W.heap.size W w8) (hy : W.heap.size ≤ y) : RB W (w8.setCell ⟨y, 0, none⟩ v9) b y v9 T :=
  have hg : w8.grownBy (w8.setCell ⟨y, 0, none⟩ v9) (some y) := grown_setCell w8 ⟨y, 0, none⟩ v9
  ⟨by simpa using hk.set_ 0 v9, h.other hg (fun x hx => hx.1), below_grown hb hg hy, hy⟩
theorem RB.later {W wx w' : World} {b y : Nat} {v9 : Value} {T : List Nd} (h : RB W wx b y v9 T) (hb : Below wx.heap.size wx w') : RB W w' b y v9 T := ⟨h.box.below hb, h.ns.below hb, bt hb h.below, h.lo⟩
set_option maxHeartbeats 8000000 in
theorem rbuild_any (m : Int) (B : Nat) (v : Value) (l : List Rw) (w : World) (h : RsX w B v l) (hf : fewR l) :
    Calls Try.prog 43 #[.int .i64 m, v] w fun e w' => RBldAns (bldA m l) e w' ∧ Below w.heap.size w w' := by
  obtain ⟨A, c, rfl⟩ := rs_form h
  have hlen := hf.2
  have hb2 := al (ba w (.cells #[.slice none 0 0] 29)) (.cells #[.slice none 0 0] 29)
  have hr2 := (Blk.new w 29 #[.slice none 0 0]).alloc (.cells #[.slice none 0 0] 29)
  have hn2 := Blk.new (w.alloc (.cells #[.slice none 0 0] 29)) 29 #[.slice none 0 0]
  have ez : (w.alloc (.cells #[.slice none 0 0] 29)).heap.size = w.heap.size + 1 := by simp
  rw [ez] at hn2
  have hx2 := own_below h hb2
  obtain ⟨X, hX⟩ : ∃ X, bldA m l = X := ⟨_, rfl⟩
  rw [hX]
  have HF := Lib.hid hf.1
  clear h hf ez
  go_enter Try.func43, Try.ntmps43
  go_upto_region 2 with fail
  obtain ⟨W2, hW2⟩ : ∃ W2, (w.alloc (.cells #[.slice none 0 0] 29)).alloc (.cells #[.slice none 0 0] 29) = W2 := ⟨_, rfl⟩
  rw [hW2] at hb2 hr2 hn2 hx2 ⊢
  clear hW2
  have HB2 := Lib.hid hb2
  have HR2 := Lib.hid hr2
  have HN2 := Lib.hid hn2
  have HX2 := Lib.hid (show RsX W2 B (.slice A l.length c) l from hx2)
  obtain ⟨r0, r1, r2⟩ : W2.cell? ⟨w.heap.size, 0, none⟩ = some (.slice none 0 0) ∧ W2.frozen? ⟨w.heap.size, 0, none⟩ = false ∧ ∀ u, (W2.setCell ⟨w.heap.size, 0, none⟩ u).cell? ⟨w.heap.size, 0, none⟩ = some u := ⟨hr2.cell 0, hr2.frozen 0, fun u => (hr2.set_ 0 u).cell 0⟩
  have n0 : W2.cell? ⟨w.heap.size + 1, 0, none⟩ = some (.slice none 0 0) := hn2.cell 0
  have HBB := Lib.hid (show ∀ (W : World) (u : Value), Below w.heap.size w W → Below w.heap.size w (W.setCell ⟨w.heap.size, 0, none⟩ u) from fun W u hb => below_grown hb (grown_setCell W ⟨w.heap.size, 0, none⟩ u) (Nat.le_refl _))
  cases l with
  | nil =>
    have HZ := Lib.hid (show X = .bad 0 22 from hX.symm)
    clear hlen hb2 hr2 hn2 hX hx2
    go_wp2
    exact bodyPost_ret (v := .tuple #[.agg #[.slice none 0 0], .int .i64 0, .int .i64 22]) (by simp [results, Try.results43, go_sem, r2]) rfl ⟨rbad_ans HZ.out, HBB.out _ _ HB2.out⟩
  | cons r l0 =>
    obtain ⟨l, hl⟩ : ∃ l, r :: l0 = l := ⟨_, rfl⟩
    have HRO := Lib.hid (bldAt_root (m := m) (l := r :: l0) (r := r) rfl)
    have HST := Lib.hid (fun (k : Nat) (T : List Nd) (q : Rw) (h : BldAt m (r :: l0) k T) (hk : k ≠ 0) (hr : (r :: l0)[k]? = some q) => bldAt_step h hk hr)
    have HEND := Lib.hid (fun (k : Nat) (T : List Nd) (h : BldAt m (r :: l0) k T) (hk : (r :: l0).length ≤ k) => bldAt_end h (by simp) hk)
    rw [hX] at HRO HST HEND
    obtain ⟨gr, hA⟩ : ∃ gr, A = some ⟨gr, 0, none⟩ := by obtain ⟨g, hg, -⟩ := rr_cells HX2.out (k := 0) (r := r) rfl; exact ⟨g, hg⟩
    subst hA
    have HRT := Lib.hid (show rtE (newN m) r = if r.kind ≠ 2 ∨ r.parent ≠ 0 ∨ r.name ≠ [] then 22 else addE (newN m) (toB (rightP r.nd)) from rfl)
    obtain ⟨h8, p8, p9⟩ := n8_of HX2.out
    have H8 := Lib.hid h8
    obtain ⟨p0, -⟩ := h8
    have hz : (((r :: l0).length : Int) == 0) = false := by rw [beq_eq_false_iff_ne, List.length_cons]; omega
    have HS := Lib.hid (HF.out r (List.mem_cons_self ..))
    have hln : (r :: l0).length = l0.length + 1 := rfl
    rw [hl] at HX2 HRO HST HEND hz HF
    have HLE := Lib.hid (show l.length ≤ 50 from by rw [← hl]; exact hlen)
    have HL1 := Lib.hid (show 1 ≤ l.length from by rw [← hl, List.length_cons]; omega)
    have HLL := Lib.hid hl
    rw [hl]
    clear hlen hb2 hr2 hn2 hX hx2 hln hl
    by_cases q1 : r.kind = 2
    · have e1 : (r.kind != 2) = false := by simpa using q1
      by_cases q2 : r.parent = 0
      · have e2 : (r.parent != 0) = false := by simpa using q2
        by_cases q3 : r.name = []
        · have e3 : ((bA r.name).toList == ([] : List UInt8)) = true := (len0_iff _).2 q3
          have e4 : ((bA r.name).toList != ([] : List UInt8)) = false := by
            show (!((bA r.name).toList == ([] : List UInt8))) = false
            rw [e3]; rfl
          have HE := Lib.hid (show rtE (newN m) r = addE (newN m) (toB (rightP r.nd)) from by rw [HRT.out, if_neg (by rintro (z | z | z); exact z q1; exact z q2; exact z q3)])
          clear q1 q2 q3
          go_upto_region 4 with fail
          have zB : w.heap.size < W2.heap.size := HR2.out.lt
          obtain ⟨AC, hAC⟩ : ∃ AC, actT (newN m) 1 0 r.nd (toB (rightP r.nd)) = AC := ⟨_, rfl⟩
          obtain ⟨E, hE⟩ : ∃ E, addE (newN m) (toB (rightP r.nd)) = E := ⟨_, rfl⟩
          have HRAC := Lib.hid (show E = 0 → rtT (newN m) r = AC from fun h => by rw [← hAC]; exact rt_act (hE.trans h))
          have HADD := Lib.hid (fun (P : Nat → Prop) (g1 k1 : Nat) (W : World) (hn : NsR P W (.slice (some ⟨g1, 0, none⟩) (newL m) k1) (newN m)) (hP : ∀ x, W.heap.size ≤ x → P x) => show Calls Try.prog 18 #[.agg #[.slice (some ⟨g1, 0, none⟩) (newL m) k1], .agg #[.int .i64 r.kind, .int .i64 r.mode, .int .i64 r.uid, .int .i64 r.gid, .string (bA r.data), .slice none 0 0, .slice none 0 0, .string (bA r.target)]] W (TabAns P W (actT (newN m) 1 0 r.nd (toB (rightP r.nd))) (fun v' => .tuple #[.agg #[v'], .int .i64 (addI (newN m) (toB (rightP r.nd))), .int .i64 (addE (newN m) (toB (rightP r.nd)))])) from radd_any (P := P) _ (newN m) 0 r.nd (.slice none 0 0) (.slice none 0 0) W hn (by rw [new_len]; exact (newL_bd m).2) (StrsR.nil _) (IntsR.nil _) HS.out.few (LP.nil _) (LP.nil _) hP)
          rw [hAC, hE] at HADD
          rw [hE] at HE
          have HOKN := Lib.hid (show E = 0 → okT AC ∧ AC.length ≤ 24 from fun h => by
            have h1 := HRAC.out h
            rw [← h1]
            exact ⟨rt_ok (ok_new _) (by rw [HE.out]; exact h), by rw [rt_len, new_len]; exact (newL_bd m).2⟩)
          have HDR := Lib.hid (show Below W2.heap.size W2 W2.drew from (Below.refl _ _).drew)
          have HAD := Lib.hid (show Below W2.heap.size W2 (W2.alloc (.cells #[.slice none 0 0] 29)).drew from (ba W2 _).drew)
          have SX : (W2.drew.cell? ⟨gr, 0, none⟩ = some (.int .i64 r.kind) ∧ W2.drew.cell? ⟨gr, 1, none⟩ = some (.int .i64 r.mode) ∧ W2.drew.cell? ⟨gr, 2, none⟩ = some (.int .i64 r.uid) ∧ W2.drew.cell? ⟨gr, 3, none⟩ = some (.int .i64 r.gid) ∧ W2.drew.cell? ⟨gr, 4, none⟩ = some (.string (bA r.data)) ∧ W2.drew.cell? ⟨gr, 5, none⟩ = some (.slice none 0 0) ∧ W2.drew.cell? ⟨gr, 6, none⟩ = some (.slice none 0 0) ∧ W2.drew.cell? ⟨gr, 7, none⟩ = some (.string (bA r.target))) := H8.out
          have SA : ((W2.alloc (.cells #[.slice none 0 0] 29)).drew.cell? ⟨gr, 0, none⟩ = some (.int .i64 r.kind) ∧ (W2.alloc (.cells #[.slice none 0 0] 29)).drew.cell? ⟨gr, 1, none⟩ = some (.int .i64 r.mode) ∧ (W2.alloc (.cells #[.slice none 0 0] 29)).drew.cell? ⟨gr, 2, none⟩ = some (.int .i64 r.uid) ∧ (W2.alloc (.cells #[.slice none 0 0] 29)).drew.cell? ⟨gr, 3, none⟩ = some (.int .i64 r.gid) ∧ (W2.alloc (.cells #[.slice none 0 0] 29)).drew.cell? ⟨gr, 4, none⟩ = some (.string (bA r.data)) ∧ (W2.alloc (.cells #[.slice none 0 0] 29)).drew.cell? ⟨gr, 5, none⟩ = some (.slice none 0 0) ∧ (W2.alloc (.cells #[.slice none 0 0] 29)).drew.cell? ⟨gr, 6, none⟩ = some (.slice none 0 0) ∧ (W2.alloc (.cells #[.slice none 0 0] 29)).drew.cell? ⟨gr, 7, none⟩ = some (.string (bA r.target))) := (n8_of (l0 := l0) (by rw [HLL.out]; exact own_below HX2.out (ba W2 (.cells #[.slice none 0 0] 29)).drew)).1
          have hda : (W2.alloc (.cells #[.slice none 0 0] 29)).drew.heap.size = W2.heap.size + 1 := (show (W2.alloc (.cells #[.slice none 0 0] 29)).heap.size = W2.heap.size + 1 by simp)
          have HDA := Lib.hid hda
          generalize addI (newN m) (toB (rightP r.nd)) = I at HADD
          clear hAC hE p0 p8 p9 r0 r1 r2 n0 hda
          go_cut [8, 10] (fun s8 s10 wx => ∃ (y g9 n9 k9 : Nat), s8 = .pointer (some ⟨y, 0, none⟩) ∧ s10 = .int .i64 E ∧ RB W2 wx w.heap.size y (.slice (some ⟨g9, 0, none⟩) n9 k9) AC)
          case first =>
            go_region_held3 (fun w' => (w'.cell? ⟨gr, 0, none⟩ = some (.int .i64 r.kind) ∧ w'.cell? ⟨gr, 1, none⟩ = some (.int .i64 r.mode) ∧ w'.cell? ⟨gr, 2, none⟩ = some (.int .i64 r.uid) ∧ w'.cell? ⟨gr, 3, none⟩ = some (.int .i64 r.gid) ∧ w'.cell? ⟨gr, 4, none⟩ = some (.string (bA r.data)) ∧ w'.cell? ⟨gr, 5, none⟩ = some (.slice none 0 0) ∧ w'.cell? ⟨gr, 6, none⟩ = some (.slice none 0 0) ∧ w'.cell? ⟨gr, 7, none⟩ = some (.string (bA r.target))))
              (first | (with_reducible exact SX) | (with_reducible exact SA) | (with_reducible exact S7) | (with_reducible exact SU) | (with_reducible exact S8) | (with_reducible exact S8a) | (with_reducible exact S8b) | (with_reducible exact ST))
              (first
              | (go_at_call 14; (with_reducible refine (rnew_any m W2.drew).mono ?_); rintro e1 w7 ⟨v1, rfl, hn7, hb7, hz7⟩; obtain ⟨g1, k1, hv1⟩ := ns_form (hn7 (fun _ => True) trivial); subst hv1; have hn7' : ∀ P : Nat → Prop, P (W2.drew.heap.size + 1) → NsR P w7 (.slice (some ⟨g1, 0, none⟩) (newL m) k1) (newN m) := (fun P hp => by have h := hn7 P hp; rw [List.length_replicate] at h; exact h); have HNS := Lib.hid hn7'; have hzz : W2.drew.heap.size = W2.heap.size := rfl; have HZZ := Lib.hid hzz; have HB7 := Lib.hid (bt hb7 HDR.out); have hx7 := own_below HX2.out HB7.out; have hx7' : RsX w7 B (.slice (some ⟨gr, 0, none⟩) l.length c) (r :: l0) := (by rw [HLL.out]; exact hx7); have S7 : (w7.cell? ⟨gr, 0, none⟩ = some (.int .i64 r.kind) ∧ w7.cell? ⟨gr, 1, none⟩ = some (.int .i64 r.mode) ∧ w7.cell? ⟨gr, 2, none⟩ = some (.int .i64 r.uid) ∧ w7.cell? ⟨gr, 3, none⟩ = some (.int .i64 r.gid) ∧ w7.cell? ⟨gr, 4, none⟩ = some (.string (bA r.data)) ∧ w7.cell? ⟨gr, 5, none⟩ = some (.slice none 0 0) ∧ w7.cell? ⟨gr, 6, none⟩ = some (.slice none 0 0) ∧ w7.cell? ⟨gr, 7, none⟩ = some (.string (bA r.target))) := (n8_of hx7').1; have SU : ((w7.alloc (.cells #[.slice none 0 0] 29)).cell? ⟨gr, 0, none⟩ = some (.int .i64 r.kind) ∧ (w7.alloc (.cells #[.slice none 0 0] 29)).cell? ⟨gr, 1, none⟩ = some (.int .i64 r.mode) ∧ (w7.alloc (.cells #[.slice none 0 0] 29)).cell? ⟨gr, 2, none⟩ = some (.int .i64 r.uid) ∧ (w7.alloc (.cells #[.slice none 0 0] 29)).cell? ⟨gr, 3, none⟩ = some (.int .i64 r.gid) ∧ (w7.alloc (.cells #[.slice none 0 0] 29)).cell? ⟨gr, 4, none⟩ = some (.string (bA r.data)) ∧ (w7.alloc (.cells #[.slice none 0 0] 29)).cell? ⟨gr, 5, none⟩ = some (.slice none 0 0) ∧ (w7.alloc (.cells #[.slice none 0 0] 29)).cell? ⟨gr, 6, none⟩ = some (.slice none 0 0) ∧ (w7.alloc (.cells #[.slice none 0 0] 29)).cell? ⟨gr, 7, none⟩ = some (.string (bA r.target))) := (n8_of (own_below hx7' (ba w7 (.cells #[.slice none 0 0] 29)))).1; have HX7 := Lib.hid hx7'; have HZ7 := Lib.hid (show w.heap.size < w7.heap.size ∧ W2.heap.size ≤ w7.heap.size from ⟨Nat.lt_of_lt_of_le zB HB7.out.size, HB7.out.size⟩); have HZ2 := Lib.hid hz7; clear hn7 hn7' hb7 hz7 hzz hx7 hx7')
              | (go_at_call 14; (with_reducible refine (rnew_any m (W2.alloc (.cells #[.slice none 0 0] 29)).drew).mono ?_); rintro e1 w7 ⟨v1, rfl, hn7, hb7, hz7⟩; obtain ⟨g1, k1, hv1⟩ := ns_form (hn7 (fun _ => True) trivial); subst hv1; have hn7' : ∀ P : Nat → Prop, P ((W2.alloc (.cells #[.slice none 0 0] 29)).drew.heap.size + 1) → NsR P w7 (.slice (some ⟨g1, 0, none⟩) (newL m) k1) (newN m) := (fun P hp => by have h := hn7 P hp; rw [List.length_replicate] at h; exact h); have HNS := Lib.hid hn7'; have hzz := HDA.out; have HZZ := Lib.hid hzz; have HB7 := Lib.hid (bt hb7 HAD.out); have HBX := Lib.hid (show Blk w7 W2.heap.size 29 #[.slice none 0 0] from Blk.below (w := (W2.alloc (.cells #[.slice none 0 0] 29)).drew) (Blk.new W2 29 #[.slice none 0 0]) hb7); have hx7 := own_below HX2.out HB7.out; have hx7' : RsX w7 B (.slice (some ⟨gr, 0, none⟩) l.length c) (r :: l0) := (by rw [HLL.out]; exact hx7); have S7 : (w7.cell? ⟨gr, 0, none⟩ = some (.int .i64 r.kind) ∧ w7.cell? ⟨gr, 1, none⟩ = some (.int .i64 r.mode) ∧ w7.cell? ⟨gr, 2, none⟩ = some (.int .i64 r.uid) ∧ w7.cell? ⟨gr, 3, none⟩ = some (.int .i64 r.gid) ∧ w7.cell? ⟨gr, 4, none⟩ = some (.string (bA r.data)) ∧ w7.cell? ⟨gr, 5, none⟩ = some (.slice none 0 0) ∧ w7.cell? ⟨gr, 6, none⟩ = some (.slice none 0 0) ∧ w7.cell? ⟨gr, 7, none⟩ = some (.string (bA r.target))) := (n8_of hx7').1; have SU : ((w7.alloc (.cells #[.slice none 0 0] 29)).cell? ⟨gr, 0, none⟩ = some (.int .i64 r.kind) ∧ (w7.alloc (.cells #[.slice none 0 0] 29)).cell? ⟨gr, 1, none⟩ = some (.int .i64 r.mode) ∧ (w7.alloc (.cells #[.slice none 0 0] 29)).cell? ⟨gr, 2, none⟩ = some (.int .i64 r.uid) ∧ (w7.alloc (.cells #[.slice none 0 0] 29)).cell? ⟨gr, 3, none⟩ = some (.int .i64 r.gid) ∧ (w7.alloc (.cells #[.slice none 0 0] 29)).cell? ⟨gr, 4, none⟩ = some (.string (bA r.data)) ∧ (w7.alloc (.cells #[.slice none 0 0] 29)).cell? ⟨gr, 5, none⟩ = some (.slice none 0 0) ∧ (w7.alloc (.cells #[.slice none 0 0] 29)).cell? ⟨gr, 6, none⟩ = some (.slice none 0 0) ∧ (w7.alloc (.cells #[.slice none 0 0] 29)).cell? ⟨gr, 7, none⟩ = some (.string (bA r.target))) := (n8_of (own_below hx7' (ba w7 (.cells #[.slice none 0 0] 29)))).1; have HX7 := Lib.hid hx7'; have HZ7 := Lib.hid (show w.heap.size < w7.heap.size ∧ W2.heap.size ≤ w7.heap.size from ⟨Nat.lt_of_lt_of_le zB HB7.out.size, HB7.out.size⟩); have HZ2 := Lib.hid hz7; clear hn7 hn7' hb7 hz7 hzz hx7 hx7')
              | (go_at_call 18; (with_reducible refine (HADD.out (fun x => x ≠ w7.heap.size ∧ x ≠ w.heap.size) g1 k1 (w7.alloc (.cells #[.slice none 0 0] 29)) ((HNS.out (fun x => x ≠ w7.heap.size ∧ x ≠ w.heap.size) (by have := HZZ.out; have := HZ7.out; have := HZ2.out; constructor <;> omega)).below (ba w7 (.cells #[.slice none 0 0] 29))) (by intro x hx; have h1 : (w7.alloc (.cells #[.slice none 0 0] 29)).heap.size = w7.heap.size + 1 := (by simp); have := HZ7.out; constructor <;> omega)).mono ?_); rintro e2 w8 ⟨v9, rfl, hn8, hb8⟩; obtain ⟨g9, k9, hv9⟩ := ns_form hn8; subst hv9; have HB8 := Lib.hid (bt hb8 (al HB7.out (.cells #[.slice none 0 0] 29))); have hx8 := Blk.below (Blk.new w7 29 #[.slice none 0 0]) hb8; have y0 := hx8.cell 0; have f0 := hx8.frozen 0; have HRB := Lib.hid (RB.put hx8 hn8 HB8.out HB7.out.size); have hx9 : RsX w8 B (.slice (some ⟨gr, 0, none⟩) l.length c) (r :: l0) := (by rw [HLL.out]; exact own_below HX2.out HB8.out); have S8 : (w8.cell? ⟨gr, 0, none⟩ = some (.int .i64 r.kind) ∧ w8.cell? ⟨gr, 1, none⟩ = some (.int .i64 r.mode) ∧ w8.cell? ⟨gr, 2, none⟩ = some (.int .i64 r.uid) ∧ w8.cell? ⟨gr, 3, none⟩ = some (.int .i64 r.gid) ∧ w8.cell? ⟨gr, 4, none⟩ = some (.string (bA r.data)) ∧ w8.cell? ⟨gr, 5, none⟩ = some (.slice none 0 0) ∧ w8.cell? ⟨gr, 6, none⟩ = some (.slice none 0 0) ∧ w8.cell? ⟨gr, 7, none⟩ = some (.string (bA r.target))) := (n8_of hx9).1; have S8a : ((w8.alloc (.cells #[.slice none 0 0] 29)).cell? ⟨gr, 0, none⟩ = some (.int .i64 r.kind) ∧ (w8.alloc (.cells #[.slice none 0 0] 29)).cell? ⟨gr, 1, none⟩ = some (.int .i64 r.mode) ∧ (w8.alloc (.cells #[.slice none 0 0] 29)).cell? ⟨gr, 2, none⟩ = some (.int .i64 r.uid) ∧ (w8.alloc (.cells #[.slice none 0 0] 29)).cell? ⟨gr, 3, none⟩ = some (.int .i64 r.gid) ∧ (w8.alloc (.cells #[.slice none 0 0] 29)).cell? ⟨gr, 4, none⟩ = some (.string (bA r.data)) ∧ (w8.alloc (.cells #[.slice none 0 0] 29)).cell? ⟨gr, 5, none⟩ = some (.slice none 0 0) ∧ (w8.alloc (.cells #[.slice none 0 0] 29)).cell? ⟨gr, 6, none⟩ = some (.slice none 0 0) ∧ (w8.alloc (.cells #[.slice none 0 0] 29)).cell? ⟨gr, 7, none⟩ = some (.string (bA r.target))) := (n8_of (own_below hx9 (ba w8 (.cells #[.slice none 0 0] 29)))).1; have S8b : ((w8.alloc (.cells #[.slice (some ⟨g9, 0, none⟩) AC.length k9] 29)).cell? ⟨gr, 0, none⟩ = some (.int .i64 r.kind) ∧ (w8.alloc (.cells #[.slice (some ⟨g9, 0, none⟩) AC.length k9] 29)).cell? ⟨gr, 1, none⟩ = some (.int .i64 r.mode) ∧ (w8.alloc (.cells #[.slice (some ⟨g9, 0, none⟩) AC.length k9] 29)).cell? ⟨gr, 2, none⟩ = some (.int .i64 r.uid) ∧ (w8.alloc (.cells #[.slice (some ⟨g9, 0, none⟩) AC.length k9] 29)).cell? ⟨gr, 3, none⟩ = some (.int .i64 r.gid) ∧ (w8.alloc (.cells #[.slice (some ⟨g9, 0, none⟩) AC.length k9] 29)).cell? ⟨gr, 4, none⟩ = some (.string (bA r.data)) ∧ (w8.alloc (.cells #[.slice (some ⟨g9, 0, none⟩) AC.length k9] 29)).cell? ⟨gr, 5, none⟩ = some (.slice none 0 0) ∧ (w8.alloc (.cells #[.slice (some ⟨g9, 0, none⟩) AC.length k9] 29)).cell? ⟨gr, 6, none⟩ = some (.slice none 0 0) ∧ (w8.alloc (.cells #[.slice (some ⟨g9, 0, none⟩) AC.length k9] 29)).cell? ⟨gr, 7, none⟩ = some (.string (bA r.target))) := (n8_of (own_below hx9 (ba w8 (.cells #[.slice (some ⟨g9, 0, none⟩) AC.length k9] 29)))).1; have ST : ((w8.setCell ⟨w7.heap.size, 0, none⟩ (.slice (some ⟨g9, 0, none⟩) AC.length k9)).cell? ⟨gr, 0, none⟩ = some (.int .i64 r.kind) ∧ (w8.setCell ⟨w7.heap.size, 0, none⟩ (.slice (some ⟨g9, 0, none⟩) AC.length k9)).cell? ⟨gr, 1, none⟩ = some (.int .i64 r.mode) ∧ (w8.setCell ⟨w7.heap.size, 0, none⟩ (.slice (some ⟨g9, 0, none⟩) AC.length k9)).cell? ⟨gr, 2, none⟩ = some (.int .i64 r.uid) ∧ (w8.setCell ⟨w7.heap.size, 0, none⟩ (.slice (some ⟨g9, 0, none⟩) AC.length k9)).cell? ⟨gr, 3, none⟩ = some (.int .i64 r.gid) ∧ (w8.setCell ⟨w7.heap.size, 0, none⟩ (.slice (some ⟨g9, 0, none⟩) AC.length k9)).cell? ⟨gr, 4, none⟩ = some (.string (bA r.data)) ∧ (w8.setCell ⟨w7.heap.size, 0, none⟩ (.slice (some ⟨g9, 0, none⟩) AC.length k9)).cell? ⟨gr, 5, none⟩ = some (.slice none 0 0) ∧ (w8.setCell ⟨w7.heap.size, 0, none⟩ (.slice (some ⟨g9, 0, none⟩) AC.length k9)).cell? ⟨gr, 6, none⟩ = some (.slice none 0 0) ∧ (w8.setCell ⟨w7.heap.size, 0, none⟩ (.slice (some ⟨g9, 0, none⟩) AC.length k9)).cell? ⟨gr, 7, none⟩ = some (.string (bA r.target))) := (n8_of (World.ownsRow.kept hx9 (grown_setCell w8 ⟨w7.heap.size, 0, none⟩ (.slice (some ⟨g9, 0, none⟩) AC.length k9)) (.inr (own_blk_ne hx9 hx8 (by decide))))).1; clear hn8 hb8 hx8 hx9)
              | (go_at_call 18; (with_reducible refine (HADD.out (fun x => x ≠ W2.heap.size ∧ x ≠ w.heap.size) g1 k1 w7 (HNS.out (fun x => x ≠ W2.heap.size ∧ x ≠ w.heap.size) (by have := HZZ.out; constructor <;> omega)) (by intro x hx; have := HBX.out.lt; have := HZ7.out; constructor <;> omega)).mono ?_); rintro e2 w8 ⟨v9, rfl, hn8, hb8⟩; obtain ⟨g9, k9, hv9⟩ := ns_form hn8; subst hv9; have HB8 := Lib.hid (bt hb8 HB7.out); have hx8 := HBX.out.below hb8; have y0 := hx8.cell 0; have f0 := hx8.frozen 0; have HRB := Lib.hid (RB.put hx8 hn8 HB8.out (Nat.le_refl _)); have hx9 : RsX w8 B (.slice (some ⟨gr, 0, none⟩) l.length c) (r :: l0) := (by rw [HLL.out]; exact own_below HX2.out HB8.out); have S8 : (w8.cell? ⟨gr, 0, none⟩ = some (.int .i64 r.kind) ∧ w8.cell? ⟨gr, 1, none⟩ = some (.int .i64 r.mode) ∧ w8.cell? ⟨gr, 2, none⟩ = some (.int .i64 r.uid) ∧ w8.cell? ⟨gr, 3, none⟩ = some (.int .i64 r.gid) ∧ w8.cell? ⟨gr, 4, none⟩ = some (.string (bA r.data)) ∧ w8.cell? ⟨gr, 5, none⟩ = some (.slice none 0 0) ∧ w8.cell? ⟨gr, 6, none⟩ = some (.slice none 0 0) ∧ w8.cell? ⟨gr, 7, none⟩ = some (.string (bA r.target))) := (n8_of hx9).1; have S8a : ((w8.alloc (.cells #[.slice none 0 0] 29)).cell? ⟨gr, 0, none⟩ = some (.int .i64 r.kind) ∧ (w8.alloc (.cells #[.slice none 0 0] 29)).cell? ⟨gr, 1, none⟩ = some (.int .i64 r.mode) ∧ (w8.alloc (.cells #[.slice none 0 0] 29)).cell? ⟨gr, 2, none⟩ = some (.int .i64 r.uid) ∧ (w8.alloc (.cells #[.slice none 0 0] 29)).cell? ⟨gr, 3, none⟩ = some (.int .i64 r.gid) ∧ (w8.alloc (.cells #[.slice none 0 0] 29)).cell? ⟨gr, 4, none⟩ = some (.string (bA r.data)) ∧ (w8.alloc (.cells #[.slice none 0 0] 29)).cell? ⟨gr, 5, none⟩ = some (.slice none 0 0) ∧ (w8.alloc (.cells #[.slice none 0 0] 29)).cell? ⟨gr, 6, none⟩ = some (.slice none 0 0) ∧ (w8.alloc (.cells #[.slice none 0 0] 29)).cell? ⟨gr, 7, none⟩ = some (.string (bA r.target))) := (n8_of (own_below hx9 (ba w8 (.cells #[.slice none 0 0] 29)))).1; have S8b : ((w8.alloc (.cells #[.slice (some ⟨g9, 0, none⟩) AC.length k9] 29)).cell? ⟨gr, 0, none⟩ = some (.int .i64 r.kind) ∧ (w8.alloc (.cells #[.slice (some ⟨g9, 0, none⟩) AC.length k9] 29)).cell? ⟨gr, 1, none⟩ = some (.int .i64 r.mode) ∧ (w8.alloc (.cells #[.slice (some ⟨g9, 0, none⟩) AC.length k9] 29)).cell? ⟨gr, 2, none⟩ = some (.int .i64 r.uid) ∧ (w8.alloc (.cells #[.slice (some ⟨g9, 0, none⟩) AC.length k9] 29)).cell? ⟨gr, 3, none⟩ = some (.int .i64 r.gid) ∧ (w8.alloc (.cells #[.slice (some ⟨g9, 0, none⟩) AC.length k9] 29)).cell? ⟨gr, 4, none⟩ = some (.string (bA r.data)) ∧ (w8.alloc (.cells #[.slice (some ⟨g9, 0, none⟩) AC.length k9] 29)).cell? ⟨gr, 5, none⟩ = some (.slice none 0 0) ∧ (w8.alloc (.cells #[.slice (some ⟨g9, 0, none⟩) AC.length k9] 29)).cell? ⟨gr, 6, none⟩ = some (.slice none 0 0) ∧ (w8.alloc (.cells #[.slice (some ⟨g9, 0, none⟩) AC.length k9] 29)).cell? ⟨gr, 7, none⟩ = some (.string (bA r.target))) := (n8_of (own_below hx9 (ba w8 (.cells #[.slice (some ⟨g9, 0, none⟩) AC.length k9] 29)))).1; have ST : ((w8.setCell ⟨W2.heap.size, 0, none⟩ (.slice (some ⟨g9, 0, none⟩) AC.length k9)).cell? ⟨gr, 0, none⟩ = some (.int .i64 r.kind) ∧ (w8.setCell ⟨W2.heap.size, 0, none⟩ (.slice (some ⟨g9, 0, none⟩) AC.length k9)).cell? ⟨gr, 1, none⟩ = some (.int .i64 r.mode) ∧ (w8.setCell ⟨W2.heap.size, 0, none⟩ (.slice (some ⟨g9, 0, none⟩) AC.length k9)).cell? ⟨gr, 2, none⟩ = some (.int .i64 r.uid) ∧ (w8.setCell ⟨W2.heap.size, 0, none⟩ (.slice (some ⟨g9, 0, none⟩) AC.length k9)).cell? ⟨gr, 3, none⟩ = some (.int .i64 r.gid) ∧ (w8.setCell ⟨W2.heap.size, 0, none⟩ (.slice (some ⟨g9, 0, none⟩) AC.length k9)).cell? ⟨gr, 4, none⟩ = some (.string (bA r.data)) ∧ (w8.setCell ⟨W2.heap.size, 0, none⟩ (.slice (some ⟨g9, 0, none⟩) AC.length k9)).cell? ⟨gr, 5, none⟩ = some (.slice none 0 0) ∧ (w8.setCell ⟨W2.heap.size, 0, none⟩ (.slice (some ⟨g9, 0, none⟩) AC.length k9)).cell? ⟨gr, 6, none⟩ = some (.slice none 0 0) ∧ (w8.setCell ⟨W2.heap.size, 0, none⟩ (.slice (some ⟨g9, 0, none⟩) AC.length k9)).cell? ⟨gr, 7, none⟩ = some (.string (bA r.target))) := (n8_of (World.ownsRow.kept hx9 (grown_setCell w8 ⟨W2.heap.size, 0, none⟩ (.slice (some ⟨g9, 0, none⟩) AC.length k9)) (.inr (own_blk_ne hx9 hx8 (by decide))))).1; clear hn8 hb8 hx8 hx9)
              | (go_at_call 18; (with_reducible refine (HADD.out (fun x => x ≠ w.heap.size) g1 k1 w7 (HNS.out (fun x => x ≠ w.heap.size) (by have := HZZ.out; omega)) (by intro x hx; have := HZ7.out; omega)).mono ?_); rintro e2 w8 ⟨v9, rfl, hn8, hb8⟩; obtain ⟨g9, k9, hv9⟩ := ns_form hn8; subst hv9; have HB8 := Lib.hid (bt hb8 HB7.out); have HRB := Lib.hid (RB.fresh hn8 HB8.out); have ST := True.intro; have hx9 : RsX w8 B (.slice (some ⟨gr, 0, none⟩) l.length c) (r :: l0) := (by rw [HLL.out]; exact own_below HX2.out HB8.out); have S8 : (w8.cell? ⟨gr, 0, none⟩ = some (.int .i64 r.kind) ∧ w8.cell? ⟨gr, 1, none⟩ = some (.int .i64 r.mode) ∧ w8.cell? ⟨gr, 2, none⟩ = some (.int .i64 r.uid) ∧ w8.cell? ⟨gr, 3, none⟩ = some (.int .i64 r.gid) ∧ w8.cell? ⟨gr, 4, none⟩ = some (.string (bA r.data)) ∧ w8.cell? ⟨gr, 5, none⟩ = some (.slice none 0 0) ∧ w8.cell? ⟨gr, 6, none⟩ = some (.slice none 0 0) ∧ w8.cell? ⟨gr, 7, none⟩ = some (.string (bA r.target))) := (n8_of hx9).1; have S8a : ((w8.alloc (.cells #[.slice none 0 0] 29)).cell? ⟨gr, 0, none⟩ = some (.int .i64 r.kind) ∧ (w8.alloc (.cells #[.slice none 0 0] 29)).cell? ⟨gr, 1, none⟩ = some (.int .i64 r.mode) ∧ (w8.alloc (.cells #[.slice none 0 0] 29)).cell? ⟨gr, 2, none⟩ = some (.int .i64 r.uid) ∧ (w8.alloc (.cells #[.slice none 0 0] 29)).cell? ⟨gr, 3, none⟩ = some (.int .i64 r.gid) ∧ (w8.alloc (.cells #[.slice none 0 0] 29)).cell? ⟨gr, 4, none⟩ = some (.string (bA r.data)) ∧ (w8.alloc (.cells #[.slice none 0 0] 29)).cell? ⟨gr, 5, none⟩ = some (.slice none 0 0) ∧ (w8.alloc (.cells #[.slice none 0 0] 29)).cell? ⟨gr, 6, none⟩ = some (.slice none 0 0) ∧ (w8.alloc (.cells #[.slice none 0 0] 29)).cell? ⟨gr, 7, none⟩ = some (.string (bA r.target))) := (n8_of (own_below hx9 (ba w8 (.cells #[.slice none 0 0] 29)))).1; have S8b : ((w8.alloc (.cells #[.slice (some ⟨g9, 0, none⟩) AC.length k9] 29)).cell? ⟨gr, 0, none⟩ = some (.int .i64 r.kind) ∧ (w8.alloc (.cells #[.slice (some ⟨g9, 0, none⟩) AC.length k9] 29)).cell? ⟨gr, 1, none⟩ = some (.int .i64 r.mode) ∧ (w8.alloc (.cells #[.slice (some ⟨g9, 0, none⟩) AC.length k9] 29)).cell? ⟨gr, 2, none⟩ = some (.int .i64 r.uid) ∧ (w8.alloc (.cells #[.slice (some ⟨g9, 0, none⟩) AC.length k9] 29)).cell? ⟨gr, 3, none⟩ = some (.int .i64 r.gid) ∧ (w8.alloc (.cells #[.slice (some ⟨g9, 0, none⟩) AC.length k9] 29)).cell? ⟨gr, 4, none⟩ = some (.string (bA r.data)) ∧ (w8.alloc (.cells #[.slice (some ⟨g9, 0, none⟩) AC.length k9] 29)).cell? ⟨gr, 5, none⟩ = some (.slice none 0 0) ∧ (w8.alloc (.cells #[.slice (some ⟨g9, 0, none⟩) AC.length k9] 29)).cell? ⟨gr, 6, none⟩ = some (.slice none 0 0) ∧ (w8.alloc (.cells #[.slice (some ⟨g9, 0, none⟩) AC.length k9] 29)).cell? ⟨gr, 7, none⟩ = some (.string (bA r.target))) := (n8_of (own_below hx9 (ba w8 (.cells #[.slice (some ⟨g9, 0, none⟩) AC.length k9] 29)))).1; clear hn8 hb8 hx9))
            all_goals (
              go_wp2
              go_meet
              exact ⟨_, g9, _, k9, rfl, rfl, HRB.out⟩)
          case rest =>
            obtain ⟨y, g9, n9, k9, rfl, rfl, hrb⟩ := hcut
            have HRB := Lib.hid hrb
            have hrw := HR2.out.below hrb.below
            have n0 : wc.cell? ⟨w.heap.size + 1, 0, none⟩ = some (.slice none 0 0) := (HN2.out.below hrb.below).cell 0
            have HBWC := Lib.hid (bt hrb.below HB2.out)
            obtain ⟨r0, r1, r2⟩ : wc.cell? ⟨w.heap.size, 0, none⟩ = some (.slice none 0 0) ∧ wc.frozen? ⟨w.heap.size, 0, none⟩ = false ∧ ∀ u, (wc.setCell ⟨w.heap.size, 0, none⟩ u).cell? ⟨w.heap.size, 0, none⟩ = some u := ⟨hrw.cell 0, hrw.frozen 0, fun u => (hrw.set_ 0 u).cell 0⟩
            clear hrb hrw SX SA zB
            by_cases qE : E = 0
            · have eE : (E != 0) = false := by simpa using qE
              have HAT := Lib.hid (show BldAt m l 1 AC from by have h := HRO.out.1 (by rw [HE.out]; exact qE); rw [HRAC.out qE] at h; exact h)
              have HOK := Lib.hid (HOKN.out qE)
              clear qE n0 r0 r1 r2
              go_wp2
              go_loopg [11] (l.length - 1) (fun gh s11 wr => ∃ (k : Nat) (T : List Nd) (g9 n9 k9 : Nat), s11 = .int .i64 k ∧ 1 ≤ k ∧ k ≤ l.length ∧ gh = l.length - k ∧ RB W2 wr w.heap.size y (.slice (some ⟨g9, 0, none⟩) n9 k9) T ∧ okT T ∧ T.length ≤ 24 ∧ BldAt m l k T)
              case atStart => exact ⟨1, AC, g9, n9, k9, rfl, Nat.le_refl _, HL1.out, rfl, HRB.out, HOK.out.1, HOK.out.2, HAT.out⟩
              case round =>
                clear HRB HAT HOK HBWC
                obtain ⟨k, T, g9, n9, k9, rfl, hk1, hk, rfl, hrb, hok, hT, hat⟩ := hrel
                have HRB := Lib.hid hrb
                have HOK := Lib.hid (show okT T ∧ T.length ≤ 24 from ⟨hok, hT⟩)
                have HAT := Lib.hid hat
                have HBR := Lib.hid (bt hrb.below HB2.out)
                have hxr := own_below HX2.out hrb.below
                have hrw := HR2.out.below hrb.below
                have HRW := Lib.hid hrw
                have HNW := Lib.hid (HN2.out.below hrb.below)
                have y0 : wr.cell? ⟨y, 0, none⟩ = some (.slice (some ⟨g9, 0, none⟩) n9 k9) := hrb.box.cell 0
                clear hok hT hat
                have hle50 := HLE.out
                by_cases hlt : k < l.length
                · have hlt' : (k : Int) < (l.length : Int) := by omega
                  obtain ⟨q, hq⟩ : ∃ q, l[k]? = some q := ⟨_, List.getElem?_eq_getElem hlt⟩
                  obtain ⟨g', hg', c0, c1, c2, c3, c4, c5, c6, c7, c8, c9, c10⟩ := rr_cells hxr hq
                  injection hg' with hg'
                  injection hg' with hg'
                  subst hg'
                  have hrbd := hrb.later (Below.refl _ _).drew
                  have HSTEP := Lib.hid (HST.out k T q HAT.out (by omega) hq)
                  have HOK2 := Lib.hid (show blE T q = 0 → okT (blT T q) ∧ (blT T q).length ≤ 24 from fun h => ⟨bl_ok HOK.out.1 h, by rw [bl_len]; exact HOK.out.2⟩)
                  have HONE := Lib.hid (one_any (P := fun x => x ≠ y ∧ x ≠ w.heap.size) _ T q wr.drew hrbd.ns HOK.out.2 HOK.out.1 (HF.out q (List.mem_of_getElem? hq)) (fun x hx => by have h1 := hrbd.box.lt; have h2 := HRW.out.lt; have h3 : wr.drew.heap.size = wr.heap.size := rfl; constructor <;> omega))
                  have hdr : Below wr.heap.size wr wr.drew := (Below.refl _ _).drew
                  have y1 := bc hdr y0
                  have d0 := bc hdr c0
                  have d1 := bc hdr c1
                  have d2 := bc hdr c2
                  have d3 := bc hdr c3
                  have d4 := bc hdr c4
                  have d5 := bc hdr c5
                  have d6 := bc hdr c6
                  have d7 := bc hdr c7
                  have d8 := bc hdr c8
                  have d9 := bc hdr c9
                  have d10 := bc hdr c10
                  have HDR2 := Lib.hid hdr
                  clear hxr hrb hrbd hrw hq hdr
                  go_upto_region 10 with fail
                  go_region_with (go_at_call 68; (with_reducible refine HONE.out.mono ?_); rintro e2 w7 ⟨g7, n7, k7, rfl, hn7, hb7⟩; have hb9 := bt hb7 HDR2.out; have hx7 := HRB.out.later hb9; have HX7 := Lib.hid hx7; have HN7 := Lib.hid hn7; have HRW7 := Lib.hid (HRW.out.below hb9); have HNW7 := Lib.hid (HNW.out.below hb9); have HBR7 := Lib.hid (bt hb9 HBR.out); have z0 : w7.cell? ⟨y, 0, none⟩ = some (.slice (some ⟨g9, 0, none⟩) n9 k9) := hx7.box.cell 0; have z1 := hx7.box.frozen 0; clear hn7 hb7 hb9 hx7)
                  all_goals (
                    generalize blE T q = E2 at HSTEP HOK2 HN7 ⊢
                    by_cases q2 : E2 = 0
                    · have e2 : (E2 != 0) = false := by simpa using q2
                      have HRB8 := Lib.hid (RB.put HX7.out.box (HN7.out q2) HX7.out.below HX7.out.lo)
                      have HAT8 := Lib.hid (HSTEP.out.1 q2)
                      have HOK8 := Lib.hid (HOK2.out q2)
                      clear q2 y0 y1 z0 z1 c0 c1 c2 c3 c4 c5 c6 c7 c8 c9 c10 d0 d1 d2 d3 d4 d5 d6 d7 d8 d9 d10
                      go_wp2
                      go_roundg (l.length - (k + 1))
                      case measure => omega
                      case rel => exact ⟨k + 1, blT T q, g7, n7, k7, by go_num, by omega, by omega, rfl, HRB8.out, HOK8.out.1, HOK8.out.2, HAT8.out⟩
                    · have e2 : (E2 != 0) = true := by simpa using q2
                      have HZ := Lib.hid (HSTEP.out.2 q2)
                      have hgy := grown_setCell w7 ⟨y, 0, none⟩ (.slice (some ⟨g7, 0, none⟩) n7 k7)
                      have hwy : w.heap.size ≠ y := by have h1 := HX7.out.lo; have h2 := HR2.out.lt; omega
                      have hr8 := HRW7.out.kept hgy ((fun e => by injection e with e; exact hwy e))
                      have hn8 := HNW7.out.kept hgy (fun e => by injection e with e; have e2 : w.heap.size + 1 = y := e; have h1 := HX7.out.lo; have h2 := HN2.out.lt; omega)
                      have HB8 := Lib.hid (below_grown HBR7.out hgy (by have h1 := HX7.out.lo; have h2 := HB2.out.size; show w.heap.size ≤ y; omega))
                      have n0 : (w7.setCell ⟨y, 0, none⟩ (.slice (some ⟨g7, 0, none⟩) n7 k7)).cell? ⟨w.heap.size + 1, 0, none⟩ = some (.slice none 0 0) := hn8.cell 0
                      obtain ⟨r0, r1, r2⟩ : (w7.setCell ⟨y, 0, none⟩ (.slice (some ⟨g7, 0, none⟩) n7 k7)).cell? ⟨w.heap.size, 0, none⟩ = some (.slice none 0 0) ∧ (w7.setCell ⟨y, 0, none⟩ (.slice (some ⟨g7, 0, none⟩) n7 k7)).frozen? ⟨w.heap.size, 0, none⟩ = false ∧ ∀ u, ((w7.setCell ⟨y, 0, none⟩ (.slice (some ⟨g7, 0, none⟩) n7 k7)).setCell ⟨w.heap.size, 0, none⟩ u).cell? ⟨w.heap.size, 0, none⟩ = some u := ⟨hr8.cell 0, hr8.frozen 0, fun u => (hr8.set_ 0 u).cell 0⟩
                      clear q2 y0 y1 z0 z1 c0 c1 c2 c3 c4 c5 c6 c7 c8 c9 c10 d0 d1 d2 d3 d4 d5 d6 d7 d8 d9 d10 hr8 hn8 hgy hwy
                      go_wp2
                      exact bodyPost_ret (v := .tuple #[.agg #[.slice none 0 0], .int .i64 (k : Int), .int .i64 E2]) (by simp [results, Try.results43, go_sem, r2]) rfl ⟨rbad_ans HZ.out, HBB.out _ _ HB8.out⟩)
                · have hlt' : ¬ (k : Int) < (l.length : Int) := by omega
                  have HZ := Lib.hid (HEND.out k T HAT.out (by omega))
                  have HNS := Lib.hid (show NsR (fun _ => True) (wr.setCell ⟨w.heap.size, 0, none⟩ (.slice (some ⟨g9, 0, none⟩) n9 k9)) (.slice (some ⟨g9, 0, none⟩) n9 k9) T from (hrb.ns.other (grown_setCell wr ⟨w.heap.size, 0, none⟩ _) (fun x hx => hx.2)).mono (fun x _ _ => trivial))
                  obtain ⟨r0, r1, r2⟩ : wr.cell? ⟨w.heap.size, 0, none⟩ = some (.slice none 0 0) ∧ wr.frozen? ⟨w.heap.size, 0, none⟩ = false ∧ ∀ u, (wr.setCell ⟨w.heap.size, 0, none⟩ u).cell? ⟨w.heap.size, 0, none⟩ = some u := ⟨hrw.cell 0, hrw.frozen 0, fun u => (hrw.set_ 0 u).cell 0⟩
                  clear hrb hrw hxr
                  go_wp2
                  exact bodyPost_ret (v := .tuple #[.agg #[.slice (some ⟨g9, 0, none⟩) n9 k9], .int .i64 0, .int .i64 0]) (by simp [results, Try.results43, go_sem, r2]) rfl ⟨rgood_ans HZ.out HNS.out, HBB.out _ _ HBR.out⟩
            · have eE : (E != 0) = true := by simpa using qE
              have HZ := Lib.hid (show X = .bad 0 E from by have h := HRO.out.2; rw [HE.out] at h; exact h qE)
              clear qE
              go_wp2
              exact bodyPost_ret (v := .tuple #[.agg #[.slice none 0 0], .int .i64 0, .int .i64 E]) (by simp [results, Try.results43, go_sem, r2]) rfl ⟨rbad_ans HZ.out, HBB.out _ _ HBWC.out⟩
        · have e3 : ((bA r.name).toList == ([] : List UInt8)) = false := ne_nil_of _ q3
          have e4 : ((bA r.name).toList != ([] : List UInt8)) = true := by
            show (!((bA r.name).toList == ([] : List UInt8))) = true
            rw [e3]; rfl
          have HZ := Lib.hid (show X = .bad 0 22 from by have h := HRO.out.2; rw [HRT.out, if_pos (.inr (.inr q3))] at h; exact h (by decide))
          clear q1 q2 q3
          go_wp2
          exact bodyPost_ret (v := .tuple #[.agg #[.slice none 0 0], .int .i64 0, .int .i64 22]) (by simp [results, Try.results43, go_sem, r2]) rfl ⟨rbad_ans HZ.out, HBB.out _ _ HB2.out⟩
      · have e2 : (r.parent != 0) = true := by simpa using q2
        have HZ := Lib.hid (show X = .bad 0 22 from by have h := HRO.out.2; rw [HRT.out, if_pos (.inr (.inl q2))] at h; exact h (by decide))
        clear q1 q2
        go_wp2
        exact bodyPost_ret (v := .tuple #[.agg #[.slice none 0 0], .int .i64 0, .int .i64 22]) (by simp [results, Try.results43, go_sem, r2]) rfl ⟨rbad_ans HZ.out, HBB.out _ _ HB2.out⟩
    · have e1 : (r.kind != 2) = true := by simpa using q1
      have HZ := Lib.hid (show X = .bad 0 22 from by have h := HRO.out.2; rw [HRT.out, if_pos (.inl q1)] at h; exact h (by decide))
      clear q1
      go_wp2
      exact bodyPost_ret (v := .tuple #[.agg #[.slice none 0 0], .int .i64 0, .int .i64 22]) (by simp [results, Try.results43, go_sem, r2]) rfl ⟨rbad_ans HZ.out, HBB.out _ _ HB2.out⟩
end Go.Proofs.Ytnecnnajngfooaa
