/-
  A table as it lies in memory: room, and nodes side by side, in a block of its own; what of it stands where other blocks are changed. No condition.
-/
import Derived.Test.YtmapkmjhpebcbaaFew
import Derived.Test.YtmapkmjhpebcbaaTabM3
namespace Go.Proofs.Ytmapkmjhpebcbaa
open Go Go.RowKit

/-- Bytes, and their row is one of bytes. -/
def BytesT (w : World) (v : Value) (l : List UInt8) : Prop := BytesR w v l ∧ ∀ (ad : Addr) (n c : Nat), v = .slice (some ad) n c → ∃ cs, Blk w ad.block 5 cs
theorem BytesT.below {w w' : World} {v : Value} {l : List UInt8} (h : BytesT w v l) (hb : Below w.heap.size w w') : BytesT w' v l :=
  ⟨h.1.below hb, fun ad n c hv => by obtain ⟨cs, hc⟩ := h.2 ad n c hv; exact ⟨cs, hc.below hb⟩⟩
theorem BytesT.nil (w : World) : BytesT w (.slice none 0 0) [] := ⟨BytesR.nil w, fun ad n c h => by injection h with h; cases h⟩
theorem BytesR.other {w w' : World} {g : Nat} {v : Value} {l : List UInt8} (h : BytesR w v l) (hg : w.grownBy w' (some g)) (hne : ∀ (ad : Addr) (n c : Nat), v = .slice (some ad) n c → ad.block ≠ g) : BytesR w' v l := by
  obtain ⟨A, c, rfl, hc⟩ := h
  refine ⟨A, c, rfl, fun k e hk => ?_⟩
  obtain ⟨ad, rfl, h0⟩ := hc k e hk
  have e1 : (ad.add k).block = ad.block := by unfold Addr.add; split <;> rfl
  refine ⟨ad, rfl, ?_⟩
  rw [← h0]
  exact World.cell?_of_block (hg.block _ (World.block_lt_of_cell? _ _ h0) (by rw [e1]; intro q; injection q with q; exact hne ad _ _ rfl q))
theorem EntsR.other {w w' : World} {g : Nat} {v : Value} {l : List En} (h : EntsR w v l) (hg : w.grownBy w' (some g)) (hne : ∀ (ad : Addr) (n c : Nat), v = .slice (some ad) n c → ad.block ≠ g) : EntsR w' v l := by
  obtain ⟨A, c, rfl, hc⟩ := h
  refine ⟨A, c, rfl, fun k e hk => ?_⟩
  obtain ⟨ad, rfl, h0, h1⟩ := hc k e hk
  have e1 : (ad.add (k * 2)).block = ad.block := by unfold Addr.add; split <;> rfl
  have key : ∀ (p : Addr) (u : Value), p.block = ad.block → w.cell? p = some u → w'.cell? p = some u := by
    intro p u hp hu
    rw [← hu]
    exact World.cell?_of_block (hg.block p.block (World.block_lt_of_cell? _ _ hu) (by rw [hp]; intro q; injection q with q; exact hne ad _ _ rfl q))
  exact ⟨ad, rfl, key _ _ e1 h0, key _ _ e1 h1⟩
theorem blk_ne {w : World} {g h : Nat} {t s : TypeId} {cs ds : Array Value} (hg : Blk w g t cs) (hh : Blk w h s ds) (hne : t ≠ s) : g ≠ h := by
  rintro rfl
  unfold Blk at hg hh
  rw [hg] at hh
  injection hh with hh
  injection hh with _ hh
  exact hne hh
theorem BytesT.other {w w' : World} {g : Nat} {v : Value} {l : List UInt8} (h : BytesT w v l) (hg : w.grownBy w' (some g)) (hne : ∀ (ad : Addr) (n c : Nat), v = .slice (some ad) n c → ad.block ≠ g) : BytesT w' v l :=
  ⟨h.1.other hg hne, fun ad n c hv => by obtain ⟨cs, hc⟩ := h.2 ad n c hv; exact ⟨cs, hc.kept hg (fun e => hne ad n c hv (by injection e))⟩⟩
theorem EntsT.other {w w' : World} {g : Nat} {v : Value} {l : List En} (h : EntsT w v l) (hg : w.grownBy w' (some g)) (hne : ∀ (ad : Addr) (n c : Nat), v = .slice (some ad) n c → ad.block ≠ g) : EntsT w' v l :=
  ⟨h.1.other hg hne, fun ad n c hv => by obtain ⟨cs, hc⟩ := h.2 ad n c hv; exact ⟨cs, hc.kept hg (fun e => hne ad n c hv (by injection e))⟩⟩
/-- Lists in blocks of which something holds. -/
def LP (P : Nat → Prop) (v : Value) : Prop := ∀ (ad : Addr) (n c : Nat), v = .slice (some ad) n c → P ad.block
theorem LP.nil (P : Nat → Prop) : LP P (.slice none 0 0) := fun ad n c h => by injection h with h; cases h
theorem LP.mono {P Q : Nat → Prop} {v : Value} (h : LP P v) (hq : ∀ b, P b → Q b) : LP Q v := fun ad n c hv => hq _ (h ad n c hv)
/-- A node in cells side by side. -/
structure At7 (w : World) (g o : Nat) (n : Nd) (vd ve : Value) : Prop where
  c0 : w.cell? ⟨g, o, none⟩ = some (.int .i64 n.kind)
  c1 : w.cell? ⟨g, o + 1, none⟩ = some (.int .i64 n.mode)
  c2 : w.cell? ⟨g, o + 2, none⟩ = some (.int .i64 n.uid)
  c3 : w.cell? ⟨g, o + 3, none⟩ = some (.int .i64 n.gid)
  c4 : w.cell? ⟨g, o + 4, none⟩ = some vd
  c5 : w.cell? ⟨g, o + 5, none⟩ = some ve
  c6 : w.cell? ⟨g, o + 6, none⟩ = some (.string (bA n.target))
theorem At7.other {w w' : World} {g o : Nat} {n : Nd} {vd ve : Value} (h : At7 w g o n vd ve) (hc : ∀ j, j < 7 → w'.cell? ⟨g, o + j, none⟩ = w.cell? ⟨g, o + j, none⟩) : At7 w' g o n vd ve :=
  ⟨(hc 0 (by decide)).trans h.c0, (hc 1 (by decide)).trans h.c1, (hc 2 (by decide)).trans h.c2, (hc 3 (by decide)).trans h.c3, (hc 4 (by decide)).trans h.c4, (hc 5 (by decide)).trans h.c5, (hc 6 (by decide)).trans h.c6⟩
/-- A table in a block. -/
structure TabR (w : World) (g : Nat) (t : List Nd) (P : Nat → Prop) : Prop where
  blk : ∃ cs, Blk w g 79 cs ∧ cs.size = 169
  room : w.cell? ⟨g, 0, none⟩ = some (.int .i64 (t.length : Int))
  lo : 1 ≤ t.length
  hi : t.length ≤ 24
  ok : okT t
  node : ∀ (k : Nat) (n : Nd), t[k]? = some n → ∃ vd ve, At7 w g (1 + k * 7) n vd ve ∧ BytesT w vd n.data ∧ EntsT w ve n.ents ∧ LP P vd ∧ LP P ve
theorem TabR.lt {w : World} {g : Nat} {t : List Nd} {P : Nat → Prop} (h : TabR w g t P) : g < w.heap.size := by obtain ⟨cs, hb, _⟩ := h.blk; exact hb.lt
theorem TabR.frozen {w : World} {g : Nat} {t : List Nd} {P : Nat → Prop} (h : TabR w g t P) (i : Nat) : w.frozen? ⟨g, i, none⟩ = false := by obtain ⟨cs, hb, _⟩ := h.blk; exact hb.frozen i
theorem TabR.mono {w : World} {g : Nat} {t : List Nd} {P Q : Nat → Prop} (h : TabR w g t P) (hq : ∀ b, P b → Q b) : TabR w g t Q :=
  ⟨h.blk, h.room, h.lo, h.hi, h.ok, fun k n hk => by obtain ⟨vd, ve, h1, h2, h3, h4, h5⟩ := h.node k n hk; exact ⟨vd, ve, h1, h2, h3, h4.mono hq, h5.mono hq⟩⟩
/-- All lists lie in blocks that are there. -/
theorem TabR.within {w : World} {g : Nat} {t : List Nd} {P : Nat → Prop} (h : TabR w g t P) : TabR w g t (fun b => P b ∧ b < w.heap.size) :=
  ⟨h.blk, h.room, h.lo, h.hi, h.ok, fun k n hk => by
    obtain ⟨vd, ve, h1, h2, h3, h4, h5⟩ := h.node k n hk
    refine ⟨vd, ve, h1, h2, h3, fun ad n c hv => ⟨h4 ad n c hv, ?_⟩, fun ad n c hv => ⟨h5 ad n c hv, ?_⟩⟩
    · obtain ⟨cs, hb⟩ := h2.2 ad n c hv; exact hb.lt
    · obtain ⟨cs, hb⟩ := h3.2 ad n c hv; exact hb.lt⟩
theorem TabR.below {w w' : World} {g : Nat} {t : List Nd} {P : Nat → Prop} (h : TabR w g t P) (hb : Below w.heap.size w w') : TabR w' g t P := by
  obtain ⟨cs, hc, hs⟩ := h.blk
  refine ⟨⟨cs, hc.below hb, hs⟩, bc hb h.room, h.lo, h.hi, h.ok, fun k n hk => ?_⟩
  obtain ⟨vd, ve, h1, h2, h3, h4⟩ := h.node k n hk
  exact ⟨vd, ve, ⟨bc hb h1.c0, bc hb h1.c1, bc hb h1.c2, bc hb h1.c3, bc hb h1.c4, bc hb h1.c5, bc hb h1.c6⟩, h2.below hb, h3.below hb, h4⟩
/-- Another block is changed: one where no list of the table lies. -/
theorem TabR.other {w w' : World} {g m : Nat} {t : List Nd} {P : Nat → Prop} (h : TabR w g t P) (hg : w.grownBy w' (some m)) (hne : g ≠ m) (hP : ∀ b, P b → b < w.heap.size → (∃ cs, Blk w b 5 cs) ∨ (∃ cs, Blk w b 72 cs) → b ≠ m) : TabR w' g t P := by
  obtain ⟨cs, hc, hs⟩ := h.blk
  have key : ∀ (i : Nat) (u : Value), w.cell? ⟨g, i, none⟩ = some u → w'.cell? ⟨g, i, none⟩ = some u := by
    intro i u hu
    rw [← hu]
    exact World.cell?_of_block (hg.block g hc.lt (by intro q; injection q with q; exact hne q))
  refine ⟨⟨cs, hc.kept hg (by intro q; injection q with q; exact hne q), hs⟩, key _ _ h.room, h.lo, h.hi, h.ok, fun k n hk => ?_⟩
  obtain ⟨vd, ve, h1, h2, h3, h4, h5⟩ := h.node k n hk
  refine ⟨vd, ve, ⟨key _ _ h1.c0, key _ _ h1.c1, key _ _ h1.c2, key _ _ h1.c3, key _ _ h1.c4, key _ _ h1.c5, key _ _ h1.c6⟩, h2.other hg (fun ad n c hv => ?_), h3.other hg (fun ad n c hv => ?_), h4, h5⟩
  · obtain ⟨cs', hb⟩ := h2.2 ad n c hv
    exact hP _ (h4 ad n c hv) hb.lt (.inl ⟨cs', hb⟩)
  · obtain ⟨cs', hb⟩ := h3.2 ad n c hv
    exact hP _ (h5 ad n c hv) hb.lt (.inr ⟨cs', hb⟩)
/-- A block of another kind is changed. -/
theorem TabR.kind {w w' : World} {g m : Nat} {t : List Nd} {P : Nat → Prop} {s : TypeId} {cs : Array Value} (h : TabR w g t P) (hg : w.grownBy w' (some m)) (hne : g ≠ m) (hm : Blk w m s cs) (h1 : s ≠ 5) (h2 : s ≠ 72) : TabR w' g t P :=
  h.other hg hne (fun b _ _ hb => by
    rcases hb with ⟨ds, hb⟩ | ⟨ds, hb⟩
    · exact blk_ne hb hm (fun e => h1 e.symm)
    · exact blk_ne hb hm (fun e => h2 e.symm))
/-- A table by its pointer; nil is a table without nodes. -/
def TabP (w : World) (v : Value) (t : List Nd) : Prop := (v = .pointer none ∧ t = []) ∨ ∃ g P, v = .pointer (some ⟨g, 0, none⟩) ∧ TabR w g t P
theorem TabR.ptr {w : World} {g : Nat} {t : List Nd} {P : Nat → Prop} (h : TabR w g t P) : TabP w (.pointer (some ⟨g, 0, none⟩)) t := .inr ⟨g, P, rfl, h⟩
theorem TabP.none (w : World) : TabP w (.pointer none) [] := .inl ⟨rfl, rfl⟩
theorem TabP.below {w w' : World} {v : Value} {t : List Nd} (h : TabP w v t) (hb : Below w.heap.size w w') : TabP w' v t := by
  rcases h with h | ⟨g, P, hv, h⟩
  · exact .inl h
  · exact .inr ⟨g, P, hv, h.below hb⟩
theorem TabP.ok {w : World} {v : Value} {t : List Nd} (h : TabP w v t) : okT t ∧ t.length ≤ 24 := by
  rcases h with ⟨-, rfl⟩ | ⟨g, P, hv, h⟩
  · exact ⟨fun n hn => (by cases hn), Nat.zero_le _⟩
  · exact ⟨h.ok, h.hi⟩
/-- What may be is small. -/
theorem right_few {n : Nd} (h : rightP n) : Few n := by
  rcases h.2 with ⟨_, h2, h3, h4⟩ | ⟨_, h2, h3, h4⟩ | ⟨_, h2, h3, _, h4⟩
  · refine ⟨by omega, (by rw [h2]; simp), (fun e he => by rw [h2] at he; cases he), (by rw [h3]; simp)⟩
  · refine ⟨(by rw [h2]; simp), (by have := h4.2.2; omega), (fun e he => ?_), (by rw [h3]; simp)⟩
    have h5 := (h4.1 e he).1
    unfold nok at h5
    rw [Bool.and_eq_true] at h5
    have := of_decide_eq_true h5.2
    omega
  · refine ⟨(by rw [h2]; simp), (by rw [h3]; simp), (fun e he => by rw [h3] at he; cases he), ?_⟩
    unfold fok at h4
    rw [Bool.and_eq_true] at h4
    have := of_decide_eq_true h4.1
    omega
theorem zero_few : Few Nd.zero := ⟨by decide, by decide, (fun e he => by cases he), by decide⟩
theorem ok_few {t : List Nd} (h : okT t) (i : Int) : Few (tget t i) := by
  rcases ok_tget h i with q | q
  · rw [q]; exact zero_few
  · exact right_few q
set_option maxRecDepth 100000 in
theorem room_any (v : Value) (t : List Nd) (w : World) (h : TabP w v t) :
    Calls Try.prog 29 #[v] w fun e w' => e = .returned (.int .i64 (t.length : Int)) ∧ w = w' := by
  rcases h with ⟨rfl, rfl⟩ | ⟨g, P, rfl, h⟩
  · go_enter Try.func29, Try.ntmps29
    go_wp2
    go_ret
    exact ⟨rfl, rfl⟩
  · have h0 := h.room
    clear h
    go_enter Try.func29, Try.ntmps29
    go_wp2
    go_ret
    exact ⟨rfl, rfl⟩
end Go.Proofs.Ytmapkmjhpebcbaa
