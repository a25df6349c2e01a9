/-
  The reference's step of building, one. The conditions: what is told is short.
-/
import Derived.Test.YtnecnnajngfooaaRtl
import Derived.Test.YtnecnnajngfooaaWC
import Derived.Test.YtnecnnajngfooaaBldB
import Derived.Deep.DeepCutAuto
namespace Go.Proofs.Ytnecnnajngfooaa
open Go Go.RowKit
set_option maxRecDepth 100000

attribute [local go_sem] cell_off4 cell_blk4
theorem kind_of8' (x : Int) (a1 a2 a3 a4 a5 a6 a7 : Value) (w : World) : (Instr.field 34 (.agg #[.int .i64 x, a1, a2, a3, a4, a5, a6, a7]) 0).run Try.prog w = .ok (.int .i64 x) w := by kernel_rfl
attribute [local go_sem] kind_of8'
/-- Blocks that are none of three, side by side. -/
def Out3 (P : Nat → Prop) (b : Nat) (x : Nat) : Prop := P x ∧ x ≠ b ∧ x ≠ b + 1 ∧ x ≠ b + 1 + 1
/-- Where 'one' stands: a table in a box, what is told, and the result's box. -/
structure ON (w W : World) (b : Nat) (P : Nat → Prop) (v : Value) (t : List Nd) (r : Rw) : Prop where
  ns : NsR (Out3 P b) W v t
  kb : Blk W b 29 #[v]
  kr : Blk W (b + 1) 84 (rrC r)
  ks : Blk W (b + 1 + 1) 29 #[.slice none 0 0]
  below : Below w.heap.size w W
  hb : w.heap.size ≤ b
  hP : ∀ x, w.heap.size ≤ x → P x
section
variable {w W W' : World} {b : Nat} {P : Nat → Prop} {v v' : Value} {t t' : List Nd} {r : Rw}
theorem ON.later (h : ON w W b P v t r) (hb : Below W.heap.size W W') : ON w W' b P v t r :=
  ⟨h.ns.below hb, h.kb.below hb, h.kr.below hb, h.ks.below hb, bt hb h.below, h.hb, h.hP⟩
theorem ON.above (h : ON w W b P v t r) : ∀ x, W.heap.size ≤ x → Out3 P b x := fun x hx => by
  have h1 := h.ks.lt
  have h2 := h.below.size
  exact ⟨h.hP x (by omega), by omega, by omega, by omega⟩
/-- The box has another table. -/
theorem ON.boxed (h : ON w W b P v t r) (hn : NsR (Out3 P b) W v' t') : ON w (W.setCell ⟨b, 0, none⟩ v') b P v' t' r :=
  have hg : W.grownBy (W.setCell ⟨b, 0, none⟩ v') (some b) := grown_setCell W ⟨b, 0, none⟩ v'
  ⟨hn.other hg (fun x hx => hx.2.1), h.kb.set_ 0 v', h.kr.kept hg (by intro e; injection e with e; omega), h.ks.kept hg (by intro e; injection e with e; omega), below_grown h.below hg h.hb, h.hb, h.hP⟩
/-- What 'one' answers. -/
def OnePost (w : World) (P : Nat → Prop) (t : List Nd) (r : Rw) (e : Ending) (w' : World) : Prop :=
  ∃ g n c, e = .returned (.tuple #[.agg #[.slice (some ⟨g, 0, none⟩) n c], .int .i64 (blE t r)]) ∧ (blE t r = 0 → NsR P w' (.slice (some ⟨g, 0, none⟩) n c) (blT t r)) ∧ Below w.heap.size w w'
/-- With an error the table is handed back. -/
theorem ON.bad {g c X : Nat} (h : ON w W b P (.slice (some ⟨g, 0, none⟩) X c) t r) {t0 : List Nd} {E : Int} (hE : blE t0 r = E) (hne : E ≠ 0) : OnePost w P t0 r (.returned (.tuple #[.agg #[.slice (some ⟨g, 0, none⟩) X c], .int .i64 E])) (W.setCell ⟨b + 1 + 1, 0, none⟩ (.slice (some ⟨g, 0, none⟩) X c)) := by
  refine ⟨g, X, c, by rw [hE], fun h0 => absurd (hE.symm.trans h0) hne, below_grown h.below (grown_setCell W ⟨b + 1 + 1, 0, none⟩ _) (by have := h.hb; show w.heap.size ≤ b + 1 + 1; omega)⟩
end
/-- Behind With: the node in a box of its own. -/
structure OP (w W : World) (b d : Nat) (P : Nat → Prop) (v : Value) (t : List Nd) (r : Rw) (n : Nd) (vn vk : Value) : Prop where
  on : ON w W b P v t r
  box : Blk W d 34 (rfC n vn vk)
  nm : StrsR W vn (nmA (nmE n.ents))
  kd : IntsR W vk (idE n.ents)
  pn : LP (fun x => Out3 P b x ∧ x < W.heap.size) vn
  pk : LP (fun x => Out3 P b x ∧ x < W.heap.size) vk
theorem OP.mk1 {w X1 w8 : World} {b : Nat} {P : Nat → Prop} {v : Value} {t : List Nd} {r : Rw} {n : Nd} {vn vk : Value} (h : ON w X1 b P v t r) (hb : Below X1.heap.size X1 w8) (hn : StrsR w8 vn (nmA (nmE n.ents))) (hk : IntsR w8 vk (idE n.ents)) (hp : LP (fun x => X1.heap.size ≤ x ∧ x < w8.heap.size) vn) (hq : LP (fun x => X1.heap.size ≤ x ∧ x < w8.heap.size) vk) :
    OP w (w8.alloc (.cells (rfC n vn vk) 34)) b w8.heap.size P v t r n vn vk := by
  have hz : (w8.alloc (.cells (rfC n vn vk) 34)).heap.size = w8.heap.size + 1 := by simp
  exact ⟨(h.later hb).later (ba _ _), Blk.new _ _ _, hn.below (ba _ _), hk.below (ba _ _), hp.mono (fun x hx => ⟨h.above x hx.1, by omega⟩), hq.mono (fun x hx => ⟨h.above x hx.1, by omega⟩)⟩
theorem OP.mk2 {w X0 w8 : World} {b d : Nat} {P : Nat → Prop} {v : Value} {t : List Nd} {r : Rw} {n : Nd} {vn vk : Value} (h : ON w X0 b P v t r) (hd : X0.heap.size = d) (hb : Below X0.heap.size X0 w8) (hk8 : Blk w8 d 34 rfZ) (hn : StrsR w8 vn (nmA (nmE n.ents))) (hk : IntsR w8 vk (idE n.ents)) (hp : LP (fun x => X0.heap.size < x ∧ x < w8.heap.size) vn) (hq : LP (fun x => X0.heap.size < x ∧ x < w8.heap.size) vk) :
    OP w (put8 w8 d (.int .i64 n.kind) (.int .i64 n.mode) (.int .i64 n.uid) (.int .i64 n.gid) (.string (bA n.data)) vn vk (.string (bA n.target))) b d P v t r n vn vk := by
  have hg := grown8 w8 d (.int .i64 n.kind) (.int .i64 n.mode) (.int .i64 n.uid) (.int .i64 n.gid) (.string (bA n.data)) vn vk (.string (bA n.target))
  have h8 := h.later hb
  have hns := ((h.ns.mono (Q := fun x => Out3 P b x ∧ x ≠ d) (fun x hx hlt => ⟨hx, by omega⟩)).below hb).other hg (fun x hx => hx.2)
  have hsz := hg.size
  have hwd : w.heap.size ≤ d := by rw [← hd]; exact h.below.size
  exact ⟨⟨hns.mono (fun x hx _ => hx.1), h8.kb.kept hg (by intro e; injection e with e; exact blk_ne h8.kb hk8 (by decide) e), h8.kr.kept hg (by intro e; injection e with e; exact blk_ne h8.kr hk8 (by decide) e), h8.ks.kept hg (by intro e; injection e with e; exact blk_ne h8.ks hk8 (by decide) e), below_grown h8.below hg hwd, h.hb, h.hP⟩, hk8.put8 _ _ _ _ _ _ _ _, hn.other hg (fun ad n c hv => by have := hp ad n c hv; omega), hk.other hg (fun ad n c hv => by have := hq ad n c hv; omega), hp.mono (fun x hx => ⟨h.above x (by omega), by omega⟩), hq.mono (fun x hx => ⟨h.above x (by omega), by omega⟩)⟩
theorem OP.held {w W : World} {b d g k X : Nat} {P : Nat → Prop} {t : List Nd} {r : Rw} {n : Nd} {vn vk : Value} (h : OP w W b d P (.slice (some ⟨g, 0, none⟩) X k) t r n vn vk) : W.cell? ⟨b, 0, none⟩ = some (.slice (some ⟨g, 0, none⟩) X k) ∧ W.cell? ⟨b + 1, 8, none⟩ = some (.int .i64 r.parent) ∧ W.cell? ⟨b + 1, 9, none⟩ = some (.string (bA r.name)) :=
  ⟨h.on.kb.cell 0, h.on.kr.cell 8, h.on.kr.cell 9⟩
set_option maxHeartbeats 2000000 in
theorem one_any {P : Nat → Prop} (v : Value) (t : List Nd) (r : Rw) (w : World) (h : NsR P w v t) (hl : t.length ≤ 24) (ho : okT t) (hs : shortR r) (hP : ∀ x, w.heap.size ≤ x → P x) :
    Calls Try.prog 68 #[.agg #[v], .agg (rrC r)] w (OnePost w P t r) := by
  obtain ⟨g, k0, rfl⟩ := ns_form h
  have HON0 : ON w (((w.alloc (.cells #[.slice (some ⟨g, 0, none⟩) t.length k0] 29)).alloc (.cells (rrC r) 84)).alloc (.cells #[.slice none 0 0] 29)) w.heap.size P (.slice (some ⟨g, 0, none⟩) t.length k0) t r := by
    have hb := al (al (ba w (.cells #[.slice (some ⟨g, 0, none⟩) t.length k0] 29)) (.cells (rrC r) 84)) (.cells #[.slice none 0 0] 29)
    refine ⟨(h.mono (fun x hx hlt => ⟨hx, by omega, by omega, by omega⟩)).below hb, ((Blk.new w 29 #[.slice (some ⟨g, 0, none⟩) t.length k0]).alloc _).alloc _, ?_, ?_, hb, Nat.le_refl _, hP⟩
    · have := (Blk.new (w.alloc (.cells #[.slice (some ⟨g, 0, none⟩) t.length k0] 29)) 84 (rrC r)).alloc (.cells #[.slice none 0 0] 29)
      simpa using this
    · have := Blk.new ((w.alloc (.cells #[.slice (some ⟨g, 0, none⟩) t.length k0] 29)).alloc (.cells (rrC r) 84)) 29 #[.slice none 0 0]
      simpa using this
  obtain ⟨W1, hW1⟩ : ∃ W1, ((w.alloc (.cells #[.slice (some ⟨g, 0, none⟩) t.length k0] 29)).alloc (.cells (rrC r) 84)).alloc (.cells #[.slice none 0 0] 29) = W1 := ⟨_, rfl⟩
  rw [hW1] at HON0
  have HON := Lib.hid HON0
  have HBL := Lib.hid (show blE t r = if tis t r.parent = false then 2 else if enE t r = 0 then withE (tget t r.parent) r.name (enI t r) else enE t r from rfl)
  obtain ⟨p0, p1, p2, p3, p4, p5, p6, p7, p8, p9, p10⟩ := HON0.kr.c11
  have b0 := HON0.kb.cell 0
  clear h hP HON0
  go_enter Try.func68, Try.ntmps68
  go_wp2_with fail
  clear hW1
  obtain ⟨b, hbz⟩ : ∃ b, w.heap.size = b := ⟨_, rfl⟩
  rw [hbz] at HON b0 p0 p1 p2 p3 p4 p5 p6 p7 p8 p9 p10
  refine (ris_any _ t r.parent W1 HON.out.ns hl).mono ?_
  rintro e w2 ⟨rfl, hb2⟩
  have HON2 := Lib.hid (HON.out.later hb2)
  have HBZ := Lib.hid hbz
  clear b0 p0 p1 p2 p3 p4 p5 p6 p7 p8 p9 p10 hb2 HON hbz
  obtain ⟨p0, p1, p2, p3, p4, p5, p6, p7, p8, p9, p10⟩ := HON2.out.kr.c11
  have b0 : w2.cell? ⟨b, 0, none⟩ = some (.slice (some ⟨g, 0, none⟩) t.length k0) := HON2.out.kb.cell 0
  have b1 : w2.frozen? ⟨b, 0, none⟩ = false := HON2.out.kb.frozen 0
  have r0 : w2.cell? ⟨b + 1 + 1, 0, none⟩ = some (.slice none 0 0) := HON2.out.ks.cell 0
  have r1 : w2.frozen? ⟨b + 1 + 1, 0, none⟩ = false := HON2.out.ks.frozen 0
  have s0 : ∀ u, (w2.setCell ⟨b + 1 + 1, 0, none⟩ u).cell? ⟨b + 1 + 1, 0, none⟩ = some u := fun u => (HON2.out.ks.set_ 0 u).cell 0
  rw [HBZ.out]
  cases hX : tis t r.parent
  · have hZ := HBL.out
    rw [hX, if_pos rfl] at hZ
    have HZ := Lib.hid hZ
    clear hZ hX
    go_wp2
    exact bodyPost_ret (v := .tuple #[.agg #[.slice (some ⟨g, 0, none⟩) t.length k0], .int .i64 2]) (by simp [results, Try.results68, go_sem, s0]) rfl (HON2.out.bad HZ.out (by decide))
  · have hZ := HBL.out
    rw [hX, if_neg (by decide)] at hZ
    have HX := Lib.hid hX
    have HBL2 := Lib.hid hZ
    clear hX hZ HBL
    obtain ⟨E, hE⟩ : ∃ E, enE t r = E := ⟨_, rfl⟩
    obtain ⟨I, hI⟩ : ∃ I, enI t r = I := ⟨_, rfl⟩
    obtain ⟨T1, hT1⟩ : ∃ T1, enT t r = T1 := ⟨_, rfl⟩
    have HE := Lib.hid hE
    have HI := Lib.hid hI
    have HT1 := Lib.hid hT1
    clear hE hI hT1
    go_upto_if 26 with fail
    go_cut [7] (fun s7 wx => ∃ (g' k' : Nat), s7 = .int .i64 I ∧ E = 0 ∧ ON w wx b P (.slice (some ⟨g', 0, none⟩) T1.length k') T1 r)
    case first =>
      by_cases h4 : r.kind = 4
      · have e4 : (r.kind == 4) = true := by simpa using h4
        have HE4 := Lib.hid (show E = if tis t r.node = false then 2 else if (tget t r.node).kind = 2 then 1 else 0 by rw [← HE.out]; unfold enE; rw [if_pos h4])
        have HI4 := Lib.hid (show E = 0 → I = r.node ∧ T1 = t from fun h => by
          constructor
          · rw [← HI.out]; unfold enI; rw [HE.out, if_pos h, if_pos h4]
          · rw [← HT1.out]; unfold enT; rw [HE.out, if_pos h, if_pos h4])
        have HTI := Lib.hid (show (tis t r.node = false ↔ (tget t r.node).kind = 0) by unfold tis; simp)
        have HGT := Lib.hid (rget_any _ t r.node w2 HON2.out.ns hl)
        generalize tis t r.node = Q at HE4 HTI
        generalize tget t r.node = n at HE4 HTI HGT
        clear h4
        go_wp2_with fail
        refine HGT.out.mono ?_
        rintro e w3 ⟨u, rfl, ⟨vn, vk, rfl, -, -⟩, hb3⟩
        have HON3 := Lib.hid (HON2.out.later hb3)
        clear hb3 p0 p1 p2 p3 p4 p5 p6 p7 p8 p9 p10 b0 b1 r0 r1 s0 HON2 HGT
        have b0 : w3.cell? ⟨b, 0, none⟩ = some (.slice (some ⟨g, 0, none⟩) t.length k0) := HON3.out.kb.cell 0
        have r0 : w3.cell? ⟨b + 1 + 1, 0, none⟩ = some (.slice none 0 0) := HON3.out.ks.cell 0
        have r1 : w3.frozen? ⟨b + 1 + 1, 0, none⟩ = false := HON3.out.ks.frozen 0
        have s0 : ∀ u, (w3.setCell ⟨b + 1 + 1, 0, none⟩ u).cell? ⟨b + 1 + 1, 0, none⟩ = some u := fun u => (HON3.out.ks.set_ 0 u).cell 0
        unfold refV
        by_cases q0 : n.kind = 0
        · have e0 : (n.kind == 0) = true := by simpa using q0
          have hE2 : E = 2 := by rw [HE4.out, if_pos (HTI.out.2 q0)]
          have HZ := Lib.hid (show blE t r = 2 by rw [HBL2.out, HE.out, hE2]; rfl)
          clear q0 hE2
          go_wp2
          exact bodyPost_ret (v := .tuple #[.agg #[.slice (some ⟨g, 0, none⟩) t.length k0], .int .i64 2]) (by simp [results, Try.results68, go_sem, s0]) rfl (HON3.out.bad HZ.out (by decide))
        · have e0 : (n.kind == 0) = false := by simpa using q0
          have hQ : ¬ Q = false := fun z => q0 (HTI.out.1 z)
          by_cases q2 : n.kind = 2
          · have e2 : (n.kind == 2) = true := by simpa using q2
            have hE2 : E = 1 := by rw [HE4.out, if_neg hQ, if_pos q2]
            have HZ := Lib.hid (show blE t r = 1 by rw [HBL2.out, HE.out, hE2]; rfl)
            clear q0 q2 hQ hE2
            go_wp2
            exact bodyPost_ret (v := .tuple #[.agg #[.slice (some ⟨g, 0, none⟩) t.length k0], .int .i64 1]) (by simp [results, Try.results68, go_sem, s0]) rfl (HON3.out.bad HZ.out (by decide))
          · have e2 : (n.kind == 2) = false := by simpa using q2
            have hE2 : E = 0 := by rw [HE4.out, if_neg hQ, if_neg q2]
            have HE0 := Lib.hid hE2
            have HII := Lib.hid (HI4.out hE2)
            clear q0 q2 hQ hE2
            go_wp2
            go_meet
            exact ⟨g, k0, by rw [HII.out.1], HE0.out, by rw [HII.out.2]; exact HON3.out⟩
      · have e4 : (r.kind == 4) = false := by simpa using h4
        obtain ⟨h1, h2, h3⟩ := en_new (t := t) h4 0
        rw [HE.out] at h1
        rw [HI.out] at h2
        rw [HT1.out] at h3
        have HAD := Lib.hid (radd_any _ t 0 r.nd (.slice none 0 0) (.slice none 0 0) w2 HON2.out.ns hl (StrsR.nil _) (IntsR.nil _) hs.few (LP.nil _) (LP.nil _) HON2.out.above)
        rw [← h1, ← h2, ← h3] at HAD
        clear h4 h1 h2 h3
        go_wp2_with fail
        refine HAD.out.mono ?_
        rintro e w3 ⟨v9, rfl, hn3, hb3⟩
        obtain ⟨g9, k9, rfl⟩ := ns_form hn3
        have hbl := ba w3 (.cells #[.slice (some ⟨g9, 0, none⟩) T1.length k9] 29)
        have HON4 := Lib.hid ((HON2.out.later hb3).later hbl)
        have HN4 := Lib.hid (hn3.below hbl)
        have hx4 := Blk.new w3 29 #[.slice (some ⟨g9, 0, none⟩) T1.length k9]
        obtain ⟨W4, hW4⟩ : ∃ W4, w3.alloc (.cells #[.slice (some ⟨g9, 0, none⟩) T1.length k9] 29) = W4 := ⟨_, rfl⟩
        rw [hW4] at HON4 HN4 hx4
        clear hb3 hn3 hbl p0 p1 p2 p3 p4 p5 p6 p7 p8 p9 p10 b0 b1 r0 r1 s0 HON2 HAD
        have b0 : W4.cell? ⟨b, 0, none⟩ = some (.slice (some ⟨g, 0, none⟩) t.length k0) := HON4.out.kb.cell 0
        have b1 : W4.frozen? ⟨b, 0, none⟩ = false := HON4.out.kb.frozen 0
        have x0 : W4.cell? ⟨w3.heap.size, 0, none⟩ = some (.slice (some ⟨g9, 0, none⟩) T1.length k9) := hx4.cell 0
        have r0 : W4.cell? ⟨b + 1 + 1, 0, none⟩ = some (.slice none 0 0) := HON4.out.ks.cell 0
        have r1 : W4.frozen? ⟨b + 1 + 1, 0, none⟩ = false := HON4.out.ks.frozen 0
        have s0 : ∀ u, (W4.setCell ⟨b + 1 + 1, 0, none⟩ u).cell? ⟨b + 1 + 1, 0, none⟩ = some u := fun u => (HON4.out.ks.set_ 0 u).cell 0
        clear hx4
        by_cases qE : E = 0
        · have eE : (E != 0) = false := by simpa using qE
          have HE0 := Lib.hid qE
          have HON5 := Lib.hid (HON4.out.boxed HN4.out)
          clear qE
          go_wp2
          clear hW4
          go_meet
          exact ⟨g9, k9, rfl, HE0.out, HON5.out⟩
        · have eE : (E != 0) = true := by simpa using qE
          have HZ := Lib.hid (show blE t r = E by rw [HBL2.out, HE.out, if_neg qE])
          have HNZ := Lib.hid qE
          clear qE
          go_wp2
          clear hW4
          exact bodyPost_ret (v := .tuple #[.agg #[.slice (some ⟨g, 0, none⟩) t.length k0], .int .i64 E]) (by simp [results, Try.results68, go_sem, s0]) rfl (HON4.out.bad HZ.out HNZ.out)
    case rest =>
      obtain ⟨g', k', rfl, hE0, hon⟩ := hcut
      have HON := Lib.hid hon
      have hT1l : T1.length ≤ 24 := by rw [← HT1.out, en_len]; exact hl
      have HGT := Lib.hid (fun W (hb : Below wc.heap.size wc W) => rget_any _ T1 r.parent W (HON.out.ns.below hb) hT1l)
      have hgn : tget T1 r.parent = tget t r.parent := by rw [← HT1.out]; exact en_get HX.out
      rw [hgn] at HGT
      have HFN := Lib.hid (ok_few ho r.parent)
      have HOKT := Lib.hid (tis_right ho HX.out)
      have HWE := Lib.hid (show blE t r = withE (tget t r.parent) r.name I by rw [HBL2.out, HE.out, hE0, if_pos rfl, HI.out])
      have HBT := Lib.hid (show blT t r = setT T1 r.parent (withM (tget t r.parent) r.name I) by unfold blT; rw [HT1.out, HI.out])
      have HTP := Lib.hid (show tis T1 r.parent = true by rw [← HT1.out]; exact en_tis HX.out)
      have hrn : r.name.length ≤ 1000 := by have := hs.1; omega
      have HL1 := Lib.hid hT1l
      generalize tget t r.parent = n at HGT HFN HOKT HWE HBT
      obtain ⟨Z, hZ⟩ : ∃ Z, withE n r.name I = Z := ⟨_, rfl⟩
      obtain ⟨N, hN⟩ : ∃ N, withM n r.name I = N := ⟨_, rfl⟩
      have HRN := Lib.hid (show Z = 0 → rightP N from fun h => by rw [← hN]; exact (right_with HOKT.out (by rw [hZ]; exact h)).1)
      have HNZ := Lib.hid hN
      have HZZ := Lib.hid hZ
      rw [hZ] at HWE
      rw [hN] at HBT
      have q8 : wc.drew.cell? ⟨b + 1, 8, none⟩ = some (.int .i64 r.parent) := (hon.later (Below.refl _ _).drew).kr.cell 8
      have q9 : wc.drew.cell? ⟨b + 1, 9, none⟩ = some (.string (bA r.name)) := (hon.later (Below.refl _ _).drew).kr.cell 9
      have q0 : wc.drew.cell? ⟨b, 0, none⟩ = some (.slice (some ⟨g', 0, none⟩) T1.length k') := (hon.later (Below.refl _ _).drew).kb.cell 0
      have u8' : wc.cell? ⟨b + 1, 8, none⟩ = some (.int .i64 r.parent) := hon.kr.cell 8
      have u9' : wc.cell? ⟨b + 1, 9, none⟩ = some (.string (bA r.name)) := hon.kr.cell 9
      have u0' : wc.cell? ⟨b, 0, none⟩ = some (.slice (some ⟨g', 0, none⟩) T1.length k') := hon.kb.cell 0
      have z1 := hon.kr.lt
      have z0 := hon.kb.lt
      clear hon hE0 hgn hZ hN hT1l HON2 p0 p1 p2 p3 p4 p5 p6 p7 p8 p9 p10 b0 b1 r0 r1 s0
      go_upto_region 16 with fail
      go_cut [12, 13] (fun s12 s13 wx => ∃ (d : Nat) (A8 A9 : Option Addr) (c8 c9 : Nat), s12 = .pointer (some ⟨d, 0, none⟩) ∧ s13 = .int .i64 Z ∧ OP w wx b d P (.slice (some ⟨g', 0, none⟩) T1.length k') T1 r N (.slice A8 N.ents.length c8) (.slice A9 N.ents.length c9))
      case first =>
        have hona := HON.out.later (ba wc (.cells rfZ 34)).drew
        have a0 : (wc.alloc (.cells rfZ 34)).drew.cell? ⟨b, 0, none⟩ = some (.slice (some ⟨g', 0, none⟩) T1.length k') := hona.kb.cell 0
        have a8 : (wc.alloc (.cells rfZ 34)).drew.cell? ⟨b + 1, 8, none⟩ = some (.int .i64 r.parent) := hona.kr.cell 8
        have a9 : (wc.alloc (.cells rfZ 34)).drew.cell? ⟨b + 1, 9, none⟩ = some (.string (bA r.name)) := hona.kr.cell 9
        clear hona
        go_region_held3 (fun w' => w'.cell? ⟨b, 0, none⟩ = some (.slice (some ⟨g', 0, none⟩) T1.length k') ∧ w'.cell? ⟨b + 1, 8, none⟩ = some (.int .i64 r.parent) ∧ w'.cell? ⟨b + 1, 9, none⟩ = some (.string (bA r.name)))
          (first | (with_reducible exact ⟨q0, q8, q9⟩) | (with_reducible exact ⟨a0, a8, a9⟩) | (with_reducible exact ⟨r0, r8, r9⟩) | (with_reducible exact ⟨u0, u8, u9⟩) | (with_reducible exact ⟨v0, v8, v9⟩) | (with_reducible exact ⟨t0, t8, t9⟩) | (with_reducible exact ⟨bc (ba w8 _) v0, bc (ba w8 _) v8, bc (ba w8 _) v9⟩))
          (first
          | (go_at_call 25; (with_reducible refine (HGT.out wc.drew (Below.refl _ _).drew).mono ?_); rintro e x ⟨u, rfl, ⟨vn, vk, rfl, sn, sk⟩, h1⟩; have HONX := HON.out.later (Below.refl _ _).drew; have HX1 := Lib.hid (HONX.later h1); have SN := Lib.hid sn; have SKI := Lib.hid sk; have r0 : x.cell? ⟨b, 0, none⟩ = some (.slice (some ⟨g', 0, none⟩) T1.length k') := HX1.out.kb.cell 0; have r8 : x.cell? ⟨b + 1, 8, none⟩ = some (.int .i64 r.parent) := HX1.out.kr.cell 8; have r9 : x.cell? ⟨b + 1, 9, none⟩ = some (.string (bA r.name)) := HX1.out.kr.cell 9; have u0 : (x.alloc (.cells rfZ 34)).cell? ⟨b, 0, none⟩ = some (.slice (some ⟨g', 0, none⟩) T1.length k') := (HX1.out.later (ba x (.cells rfZ 34))).kb.cell 0; have u8 : (x.alloc (.cells rfZ 34)).cell? ⟨b + 1, 8, none⟩ = some (.int .i64 r.parent) := (HX1.out.later (ba x (.cells rfZ 34))).kr.cell 8; have u9 : (x.alloc (.cells rfZ 34)).cell? ⟨b + 1, 9, none⟩ = some (.string (bA r.name)) := (HX1.out.later (ba x (.cells rfZ 34))).kr.cell 9; have z8 : b + 1 < x.heap.size := HX1.out.kr.lt; unfold refV; clear HONX sn sk)
          | (go_at_call 25; (with_reducible refine (HGT.out (wc.alloc (.cells rfZ 34)).drew (ba _ _).drew).mono ?_); rintro e x ⟨u, rfl, ⟨vn, vk, rfl, sn, sk⟩, h1⟩; have HONX := HON.out.later (ba wc (.cells rfZ 34)).drew; have HAL := Lib.hid (Blk.below (w := (wc.alloc (.cells rfZ 34)).drew) (Blk.new wc 34 rfZ) h1); have HAB := Lib.hid (bt h1 (ba wc (.cells rfZ 34)).drew); have HAS := Lib.hid (show wc.heap.size < x.heap.size from HAL.out.lt); have HX1 := Lib.hid (HONX.later h1); have SN := Lib.hid sn; have SKI := Lib.hid sk; have r0 : x.cell? ⟨b, 0, none⟩ = some (.slice (some ⟨g', 0, none⟩) T1.length k') := HX1.out.kb.cell 0; have r8 : x.cell? ⟨b + 1, 8, none⟩ = some (.int .i64 r.parent) := HX1.out.kr.cell 8; have r9 : x.cell? ⟨b + 1, 9, none⟩ = some (.string (bA r.name)) := HX1.out.kr.cell 9; have u0 : (x.alloc (.cells rfZ 34)).cell? ⟨b, 0, none⟩ = some (.slice (some ⟨g', 0, none⟩) T1.length k') := (HX1.out.later (ba x (.cells rfZ 34))).kb.cell 0; have u8 : (x.alloc (.cells rfZ 34)).cell? ⟨b + 1, 8, none⟩ = some (.int .i64 r.parent) := (HX1.out.later (ba x (.cells rfZ 34))).kr.cell 8; have u9 : (x.alloc (.cells rfZ 34)).cell? ⟨b + 1, 9, none⟩ = some (.string (bA r.name)) := (HX1.out.later (ba x (.cells rfZ 34))).kr.cell 9; have z8 : b + 1 < x.heap.size := HX1.out.kr.lt; unfold refV; clear HONX sn sk)
          | (go_at_call 96; (with_reducible refine (ref_with n _ _ r.name I (x.alloc (.cells rfZ 34)) (SN.out.below (ba x _)) (SKI.out.below (ba x _)) HFN.out.ents HFN.out.names hrn).mono ?_); rw [HZZ.out, HNZ.out]; rintro e w8 ⟨v8', rfl, ⟨vn8, vk8, rfl, hn8, hk8, hp8, hq8⟩, hb8⟩; obtain ⟨A8, c8, hv8⟩ := strs_form hn8 (nm_len _); obtain ⟨A9, c9, hv9⟩ := ints_form hk8 (idE_len _); subst hv8 hv9; have hkz := (Blk.new x 34 rfZ).below hb8; have HOP := Lib.hid (OP.mk2 HX1.out rfl (bt hb8 (ba x _)) hkz hn8 hk8 (hp8.mono (fun z hz => ⟨by have h := hz.1; simp at h; omega, hz.2⟩)) (hq8.mono (fun z hz => ⟨by have h := hz.1; simp at h; omega, hz.2⟩))); have v0 := bc hb8 u0; have v8 := bc hb8 u8; have v9 := bc hb8 u9; have hsp := OP.held HOP.out; have t0 : ((((((((w8.setCell ⟨x.heap.size, 0, none⟩ (.int .i64 N.kind)).setCell ⟨x.heap.size, 1, none⟩ (.int .i64 N.mode)).setCell ⟨x.heap.size, 2, none⟩ (.int .i64 N.uid)).setCell ⟨x.heap.size, 3, none⟩ (.int .i64 N.gid)).setCell ⟨x.heap.size, 4, none⟩ (.string (bA N.data))).setCell ⟨x.heap.size, 5, none⟩ (.slice A8 N.ents.length c8)).setCell ⟨x.heap.size, 6, none⟩ (.slice A9 N.ents.length c9)).setCell ⟨x.heap.size, 7, none⟩ (.string (bA N.target))).cell? ⟨b, 0, none⟩ = some (.slice (some ⟨g', 0, none⟩) T1.length k') := hsp.1; have t8 : ((((((((w8.setCell ⟨x.heap.size, 0, none⟩ (.int .i64 N.kind)).setCell ⟨x.heap.size, 1, none⟩ (.int .i64 N.mode)).setCell ⟨x.heap.size, 2, none⟩ (.int .i64 N.uid)).setCell ⟨x.heap.size, 3, none⟩ (.int .i64 N.gid)).setCell ⟨x.heap.size, 4, none⟩ (.string (bA N.data))).setCell ⟨x.heap.size, 5, none⟩ (.slice A8 N.ents.length c8)).setCell ⟨x.heap.size, 6, none⟩ (.slice A9 N.ents.length c9)).setCell ⟨x.heap.size, 7, none⟩ (.string (bA N.target))).cell? ⟨b + 1, 8, none⟩ = some (.int .i64 r.parent) := hsp.2.1; have t9 : ((((((((w8.setCell ⟨x.heap.size, 0, none⟩ (.int .i64 N.kind)).setCell ⟨x.heap.size, 1, none⟩ (.int .i64 N.mode)).setCell ⟨x.heap.size, 2, none⟩ (.int .i64 N.uid)).setCell ⟨x.heap.size, 3, none⟩ (.int .i64 N.gid)).setCell ⟨x.heap.size, 4, none⟩ (.string (bA N.data))).setCell ⟨x.heap.size, 5, none⟩ (.slice A8 N.ents.length c8)).setCell ⟨x.heap.size, 6, none⟩ (.slice A9 N.ents.length c9)).setCell ⟨x.heap.size, 7, none⟩ (.string (bA N.target))).cell? ⟨b + 1, 9, none⟩ = some (.string (bA r.name)) := hsp.2.2; clear hsp; obtain ⟨y0, y1, y2, y3, y4, y5, y6, y7⟩ := hkz.c8; obtain ⟨f0, f1, f2, f3, f4, f5, f6, f7⟩ := hkz.f8; clear hkz; unfold refV; clear hn8 hk8 hp8 hq8)
          | (go_at_call 96; (with_reducible refine (ref_with n _ _ r.name I x SN.out SKI.out HFN.out.ents HFN.out.names hrn).mono ?_); rw [HZZ.out, HNZ.out]; rintro e w8 ⟨v8', rfl, ⟨vn8, vk8, rfl, hn8, hk8, hp8, hq8⟩, hb8⟩; obtain ⟨A8, c8, hv8⟩ := strs_form hn8 (nm_len _); obtain ⟨A9, c9, hv9⟩ := ints_form hk8 (idE_len _); subst hv8 hv9; have hkz := HAL.out.below hb8; have HOP := Lib.hid (OP.mk2 HON.out rfl (bt hb8 HAB.out) hkz hn8 hk8 (hp8.mono (fun z hz => ⟨by have := HAS.out; omega, hz.2⟩)) (hq8.mono (fun z hz => ⟨by have := HAS.out; omega, hz.2⟩))); have v0 := bc hb8 r0; have v8 := bc hb8 r8; have v9 := bc hb8 r9; have hsp := OP.held HOP.out; have t0 : ((((((((w8.setCell ⟨wc.heap.size, 0, none⟩ (.int .i64 N.kind)).setCell ⟨wc.heap.size, 1, none⟩ (.int .i64 N.mode)).setCell ⟨wc.heap.size, 2, none⟩ (.int .i64 N.uid)).setCell ⟨wc.heap.size, 3, none⟩ (.int .i64 N.gid)).setCell ⟨wc.heap.size, 4, none⟩ (.string (bA N.data))).setCell ⟨wc.heap.size, 5, none⟩ (.slice A8 N.ents.length c8)).setCell ⟨wc.heap.size, 6, none⟩ (.slice A9 N.ents.length c9)).setCell ⟨wc.heap.size, 7, none⟩ (.string (bA N.target))).cell? ⟨b, 0, none⟩ = some (.slice (some ⟨g', 0, none⟩) T1.length k') := hsp.1; have t8 : ((((((((w8.setCell ⟨wc.heap.size, 0, none⟩ (.int .i64 N.kind)).setCell ⟨wc.heap.size, 1, none⟩ (.int .i64 N.mode)).setCell ⟨wc.heap.size, 2, none⟩ (.int .i64 N.uid)).setCell ⟨wc.heap.size, 3, none⟩ (.int .i64 N.gid)).setCell ⟨wc.heap.size, 4, none⟩ (.string (bA N.data))).setCell ⟨wc.heap.size, 5, none⟩ (.slice A8 N.ents.length c8)).setCell ⟨wc.heap.size, 6, none⟩ (.slice A9 N.ents.length c9)).setCell ⟨wc.heap.size, 7, none⟩ (.string (bA N.target))).cell? ⟨b + 1, 8, none⟩ = some (.int .i64 r.parent) := hsp.2.1; have t9 : ((((((((w8.setCell ⟨wc.heap.size, 0, none⟩ (.int .i64 N.kind)).setCell ⟨wc.heap.size, 1, none⟩ (.int .i64 N.mode)).setCell ⟨wc.heap.size, 2, none⟩ (.int .i64 N.uid)).setCell ⟨wc.heap.size, 3, none⟩ (.int .i64 N.gid)).setCell ⟨wc.heap.size, 4, none⟩ (.string (bA N.data))).setCell ⟨wc.heap.size, 5, none⟩ (.slice A8 N.ents.length c8)).setCell ⟨wc.heap.size, 6, none⟩ (.slice A9 N.ents.length c9)).setCell ⟨wc.heap.size, 7, none⟩ (.string (bA N.target))).cell? ⟨b + 1, 9, none⟩ = some (.string (bA r.name)) := hsp.2.2; clear hsp; obtain ⟨y0, y1, y2, y3, y4, y5, y6, y7⟩ := hkz.c8; obtain ⟨f0, f1, f2, f3, f4, f5, f6, f7⟩ := hkz.f8; clear hkz; unfold refV; clear hn8 hk8 hp8 hq8)
          | (go_at_call 96; (with_reducible refine (ref_with n _ _ r.name I x SN.out SKI.out HFN.out.ents HFN.out.names hrn).mono ?_); rw [HZZ.out, HNZ.out]; rintro e w8 ⟨v8', rfl, ⟨vn8, vk8, rfl, hn8, hk8, hp8, hq8⟩, hb8⟩; obtain ⟨A8, c8, hv8⟩ := strs_form hn8 (nm_len _); obtain ⟨A9, c9, hv9⟩ := ints_form hk8 (idE_len _); subst hv8 hv9; have HOP := Lib.hid (OP.mk1 HX1.out hb8 hn8 hk8 hp8 hq8); have v0 := bc hb8 r0; have v8 := bc hb8 r8; have v9 := bc hb8 r9; unfold refV; clear hn8 hk8 hp8 hq8))
        all_goals (
          go_wp2
          go_meet
          exact ⟨_, A8, A9, c8, c9, rfl, rfl, HOP.out⟩)
      case rest =>
        obtain ⟨d, A8, A9, c8, c9, rfl, rfl, hop⟩ := hcut
        have HOP := Lib.hid hop
        have b0 : wc.cell? ⟨b, 0, none⟩ = some (.slice (some ⟨g', 0, none⟩) T1.length k') := hop.on.kb.cell 0
        have p8 : wc.cell? ⟨b + 1, 8, none⟩ = some (.int .i64 r.parent) := hop.on.kr.cell 8
        have r0 : wc.cell? ⟨b + 1 + 1, 0, none⟩ = some (.slice none 0 0) := hop.on.ks.cell 0
        have r1 : wc.frozen? ⟨b + 1 + 1, 0, none⟩ = false := hop.on.ks.frozen 0
        have s0 : ∀ u, (wc.setCell ⟨b + 1 + 1, 0, none⟩ u).cell? ⟨b + 1 + 1, 0, none⟩ = some u := fun u => (hop.on.ks.set_ 0 u).cell 0
        obtain ⟨x0, x1, x2, x3, x4, x5, x6, x7⟩ := hop.box.c8
        clear hop q0 q8 q9 u8' u9' u0' z0 z1
        by_cases qZ : Z = 0
        · have eZ : (Z != 0) = false := by simpa using qZ
          have HZ0 := Lib.hid qZ
          have HR := Lib.hid (HRN.out qZ)
          have hpt : putE T1 r.parent (toB (rightP N)) = 0 := by
            unfold putE
            rw [HTP.out, toB_true HR.out]
            rfl
          have hac : actT T1 0 r.parent N (toB (rightP N)) = blT t r := by
            rw [HBT.out]
            unfold actT
            rw [if_pos rfl, if_pos ⟨HTP.out, toB_true HR.out⟩]
          have HPU := Lib.hid (rput_any (P := Out3 P b) _ T1 r.parent N _ _ wc HOP.out.on.ns HL1.out HOP.out.nm HOP.out.kd (right_few HR.out) HOP.out.pn HOP.out.pk HOP.out.on.above)
          rw [hpt, hac] at HPU
          clear qZ hpt hac
          go_wp2_with fail
          refine HPU.out.mono ?_
          rintro e w3 ⟨v9, rfl, hn3, hb3⟩
          obtain ⟨g9, k9, rfl⟩ := ns_form hn3
          have HON3 := Lib.hid (HOP.out.on.later hb3)
          have HN3 := Lib.hid hn3
          clear b0 p8 r0 r1 s0 x0 x1 x2 x3 x4 x5 x6 x7 hb3 hn3 HPU
          have r0 : w3.cell? ⟨b + 1 + 1, 0, none⟩ = some (.slice none 0 0) := HON3.out.ks.cell 0
          have r1 : w3.frozen? ⟨b + 1 + 1, 0, none⟩ = false := HON3.out.ks.frozen 0
          have s0 : ∀ u, (w3.setCell ⟨b + 1 + 1, 0, none⟩ u).cell? ⟨b + 1 + 1, 0, none⟩ = some u := fun u => (HON3.out.ks.set_ 0 u).cell 0
          generalize (blT t r).length = L9 at HN3 ⊢
          go_wp2
          exact bodyPost_ret (v := .tuple #[.agg #[.slice (some ⟨g9, 0, none⟩) L9 k9], .int .i64 0]) (by simp [results, Try.results68, go_sem, s0]) rfl ⟨g9, L9, k9, by rw [HWE.out, HZ0.out], fun _ => (HN3.out.other (grown_setCell w3 ⟨b + 1 + 1, 0, none⟩ _) (fun x hx => hx.2.2.2)).mono (fun x hx _ => hx.1), below_grown HON3.out.below (grown_setCell w3 ⟨b + 1 + 1, 0, none⟩ _) (by have := HON3.out.hb; show w.heap.size ≤ b + 1 + 1; omega)⟩
        · have eZ : (Z != 0) = true := by simpa using qZ
          have HNZ2 := Lib.hid qZ
          clear qZ x0 x1 x2 x3 x4 x5 x6 x7
          go_wp2
          exact bodyPost_ret (v := .tuple #[.agg #[.slice (some ⟨g', 0, none⟩) T1.length k'], .int .i64 Z]) (by simp [results, Try.results68, go_sem, s0]) rfl (HOP.out.on.bad HWE.out HNZ2.out)
end Go.Proofs.Ytnecnnajngfooaa
