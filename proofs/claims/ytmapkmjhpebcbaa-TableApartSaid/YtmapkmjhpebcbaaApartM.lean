/-
  Two tables that share no memory, while other blocks are changed. No condition.
-/
import Derived.Test.YtmapkmjhpebcbaaCountsW
import Derived.Test.YtmapkmjhpebcbaaTabF
namespace Go.Proofs.Ytmapkmjhpebcbaa
open Go Go.RowKit

theorem frozen_blk {w : World} {t : TypeId} {cs : Array Value} {ad : Addr} (h : Blk w ad.block t cs) : w.frozen? ad = false := by
  unfold Blk at h
  simp [World.frozen?, h]
theorem frozen_blk1 {w : World} {t : TypeId} {cs : Array Value} {ad : Addr} (i : Nat) (h : Blk w ad.block t cs) : w.frozen? ⟨ad.block, i, none⟩ = false := h.frozen i
theorem sam_refl (T : List Nd) : toB (sam24 T T) = true := toB_true (fun _ _ => rfl)
/-- Two tables with the same nodes; their lists lie below Z. -/
structure TD (w W : World) (g gd Z : Nat) (T : List Nd) : Prop where
  t : TabR W g T (fun b => b < Z)
  d : TabR W gd T (fun b => b < Z)
  below : Below w.heap.size w W
  hw : w.heap.size ≤ Z
  hg : g < Z
  hd : gd < Z
  hZ : Z ≤ W.heap.size
  ne : g ≠ gd
section
variable {w W W' : World} {g gd Z : Nat} {T : List Nd}
theorem TD.later (h : TD w W g gd Z T) (hb : Below W.heap.size W W') : TD w W' g gd Z T :=
  ⟨h.t.below hb, h.d.below hb, bt hb h.below, h.hw, h.hg, h.hd, Nat.le_trans h.hZ hb.size, h.ne⟩
theorem TD.wrote {D : Nat} (h : TD w W g gd Z T) (hg : W.grownBy W' (some D)) (hD : Z ≤ D) : TD w W' g gd Z T := by
  have h1 := h.hg
  have h2 := h.hd
  exact ⟨h.t.other hg (by omega) (fun b hb _ _ => by omega), h.d.other hg (by omega) (fun b hb _ _ => by omega), below_grown h.below hg (Nat.le_trans h.hw hD), h.hw, h.hg, h.hd, Nat.le_trans h.hZ hg.size, h.ne⟩
theorem TD.same (h : TD w W g gd Z T) : Calls Try.prog 35 #[.pointer (some ⟨gd, 0, none⟩), .pointer (some ⟨g, 0, none⟩)] W fun e w' => e = .returned (.bool true) ∧ TD w w' g gd Z T := by
  refine (tsame_any _ _ T T W h.d.ptr h.t.ptr).mono ?_
  rintro e w' ⟨rfl, hb⟩
  exact ⟨by rw [sam_refl], h.later hb⟩
theorem TD.get (h : TD w W g gd Z T) (i : Int) : Calls Try.prog 19 #[.pointer (some ⟨g, 0, none⟩), .int .i64 i] W fun e w' => ∃ vd ve, e = .returned (.tuple #[nodeV (tget T i) vd ve, .bool (tis T i)]) ∧ BytesT w' vd (tget T i).data ∧ EntsT w' ve (tget T i).ents ∧ LP (fun b => Z ≤ b) vd ∧ LP (fun b => Z ≤ b) ve ∧ TD w w' g gd Z T := by
  refine (get_any _ T i W h.t.ptr).mono ?_
  rintro e w' ⟨vd, ve, rfl, h1, h2, h3, h4, hb⟩
  exact ⟨vd, ve, rfl, h1, h2, h3.mono (fun b hb => Nat.le_trans h.hZ hb), h4.mono (fun b hb => Nat.le_trans h.hZ hb), h.later hb⟩
theorem TD.clone (h : TD w W g gd Z T) : Calls Try.prog 30 #[.pointer (some ⟨g, 0, none⟩)] W fun e w' => ∃ gx, e = .returned (.pointer (some ⟨gx, 0, none⟩)) ∧ TabR w' gx T (fun _ => True) ∧ TD w w' g gd Z T := by
  refine (clone_any g T _ (fun _ => True) W h.t (fun _ _ => trivial)).mono ?_
  rintro e w' ⟨rfl, ht, hb⟩
  exact ⟨_, rfl, ht, h.later hb⟩
theorem same_two {gx : Nat} {P Q : Nat → Prop} (h : TabR W gx T P) (h' : TabR W g T Q) : Calls Try.prog 35 #[.pointer (some ⟨gx, 0, none⟩), .pointer (some ⟨g, 0, none⟩)] W fun e w' => e = .returned (.bool true) ∧ Below W.heap.size W w' := by
  refine (tsame_any _ _ T T W h.ptr h'.ptr).mono ?_
  rintro e w' ⟨rfl, hb⟩
  exact ⟨by rw [sam_refl], hb⟩
end
/-- The node of two bytes. -/
def twN : Nd := ⟨1, 0, 0, 0, [1, 2], [], []⟩
theorem tw_right : rightP twN := ⟨⟨⟨by decide, by decide⟩, ⟨by decide, by decide⟩, ⟨by decide, by decide⟩⟩, .inl ⟨rfl, rfl, rfl, by decide⟩⟩
/-- Behind the node that is added to the second table: M is where the bytes lie that were handed in. -/
structure TE (w W : World) (g gd Z M : Nat) (T T' : List Nd) : Prop where
  t : TabR W g T (fun b => b < Z)
  d : TabR W gd T' (fun b => b ≠ M)
  below : Below w.heap.size w W
  hg : g < Z
  hd : gd < Z
  hM : Z ≤ M
  hMl : M < W.heap.size
  hw : w.heap.size ≤ Z
section
variable {w W W' : World} {g gd Z M : Nat} {T T' : List Nd}
theorem TE.later (h : TE w W g gd Z M T T') (hb : Below W.heap.size W W') : TE w W' g gd Z M T T' :=
  ⟨h.t.below hb, h.d.below hb, bt hb h.below, h.hg, h.hd, h.hM, Nat.lt_of_lt_of_le h.hMl hb.size, h.hw⟩
theorem TE.wrote (h : TE w W g gd Z M T T') (hg : W.grownBy W' (some M)) : TE w W' g gd Z M T T' := by
  have h1 := h.hg
  have h2 := h.hd
  have h3 := h.hM
  exact ⟨h.t.other hg (by omega) (fun b hb _ _ => by omega), h.d.other hg (by omega) (fun b hb _ _ => hb), below_grown h.below hg (Nat.le_trans h.hw h.hM), h.hg, h.hd, h.hM, Nat.lt_of_lt_of_le h.hMl hg.size, h.hw⟩
theorem TE.get (h : TE w W g gd Z M T T') (i : Int) : Calls Try.prog 19 #[.pointer (some ⟨gd, 0, none⟩), .int .i64 i] W fun e w' => ∃ vd ve, e = .returned (.tuple #[nodeV (tget T' i) vd ve, .bool (tis T' i)]) ∧ BytesT w' vd (tget T' i).data ∧ EntsT w' ve (tget T' i).ents ∧ TE w w' g gd Z M T T' := by
  refine (get_any _ T' i W h.d.ptr).mono ?_
  rintro e w' ⟨vd, ve, rfl, h1, h2, -, -, hb⟩
  exact ⟨vd, ve, rfl, h1, h2, h.later hb⟩
theorem TE.same (h : TE w W g gd Z M T T) : Calls Try.prog 35 #[.pointer (some ⟨gd, 0, none⟩), .pointer (some ⟨g, 0, none⟩)] W fun e w' => e = .returned (.bool true) ∧ TE w w' g gd Z M T T := by
  refine (tsame_any _ _ T T W h.d.ptr h.t.ptr).mono ?_
  rintro e w' ⟨rfl, hb⟩
  exact ⟨by rw [sam_refl], h.later hb⟩
theorem TE.clone (h : TE w W g gd Z M T T') : Calls Try.prog 30 #[.pointer (some ⟨g, 0, none⟩)] W fun e w' => ∃ gx, e = .returned (.pointer (some ⟨gx, 0, none⟩)) ∧ TabR w' gx T (fun _ => True) ∧ TE w w' g gd Z M T T' := by
  refine (clone_any g T _ (fun _ => True) W h.t (fun _ _ => trivial)).mono ?_
  rintro e w' ⟨rfl, ht, hb⟩
  exact ⟨_, rfl, ht, h.later hb⟩
/-- The world behind the two bytes and the node that has them. -/
def twW (W : World) : World := (W.alloc (.cells #[.int .u8 1, .int .u8 2] 5)).alloc (.cells #[.int .i64 1, .int .i64 0, .int .i64 0, .int .i64 0, .slice (some ⟨W.heap.size, 0, none⟩) 2 2, .slice none 0 0, .string ⟨#[]⟩] 39)
theorem tw_below (W : World) : Below W.heap.size W (twW W) := al (ba _ _) _
theorem tw_bytes (W : World) : Blk (twW W) W.heap.size 5 #[.int .u8 1, .int .u8 2] := (Blk.new W 5 _).alloc _
theorem tw_data (W : World) : BytesR (twW W) (.slice (some ⟨W.heap.size, 0, none⟩) 2 2) twN.data := BytesR.of_blk (l := [1, 2]) 2 rfl (tw_bytes W)
/-- What the addition answers. -/
theorem TD.add (h : TD w W g gd Z T) (hwg : w.heap.size ≤ gd) : Calls Try.prog 16 #[.pointer (some ⟨gd, 0, none⟩), .agg #[.int .i64 1, .int .i64 0, .int .i64 0, .int .i64 0, .slice (some ⟨W.heap.size, 0, none⟩) 2 2, .slice none 0 0, .string ⟨#[]⟩]] (twW W) fun e w' =>
    e = .returned (.tuple #[.int .i64 (freeT T 0 : Int), .int .i64 (if freeT T 0 = 0 then 28 else 0)]) ∧ TE w w' g gd Z W.heap.size T (if freeT T 0 = 0 then T else setT T (freeT T 0 : Int) twN) ∧ (twW W).grownBy w' (some gd) := by
  have h2 := h.later (tw_below W)
  have hz : (twW W).heap.size = W.heap.size + 2 := by unfold twW; simp
  have hne := h.ne
  refine (add_right gd T (fun b => b ≠ W.heap.size) twN _ (.slice none 0 0) (twW W) (h2.d.mono (fun b hb => by have := h.hZ; omega)) (tw_data W) (EntsR.nil _) (right_few tw_right) tw_right (fun b hb => by omega)).mono ?_
  rintro e w' ⟨rfl, ht, hg⟩
  obtain ⟨cs, hk, -⟩ := h2.d.blk
  have hZ := h.hZ
  exact ⟨rfl, ⟨h2.t.kind hg hne hk (by decide) (by decide), ht, below_grown h2.below hg hwg, h.hg, h.hd, hZ, by have := hg.size; omega, h.hw⟩, hg⟩
theorem tw_node (W : World) : Blk (twW W) (W.heap.size + 1) 39 #[.int .i64 1, .int .i64 0, .int .i64 0, .int .i64 0, .slice (some ⟨W.heap.size, 0, none⟩) 2 2, .slice none 0 0, .string ⟨#[]⟩] := by
  have := Blk.new (W.alloc (.cells #[.int .u8 1, .int .u8 2] 5)) 39 #[.int .i64 1, .int .i64 0, .int .i64 0, .int .i64 0, .slice (some ⟨W.heap.size, 0, none⟩) 2 2, .slice none 0 0, .string ⟨#[]⟩]
  rw [show (W.alloc (.cells #[.int .u8 1, .int .u8 2] 5)).heap.size = W.heap.size + 1 by simp] at this
  exact this
/-- What is left to read behind the addition. -/
theorem tw_after (h : TD w W g gd Z T) (hg : (twW W).grownBy W' (some gd)) : Blk W' W.heap.size 5 #[.int .u8 1, .int .u8 2] ∧ Blk W' (W.heap.size + 1) 39 #[.int .i64 1, .int .i64 0, .int .i64 0, .int .i64 0, .slice (some ⟨W.heap.size, 0, none⟩) 2 2, .slice none 0 0, .string ⟨#[]⟩] := by
  have h1 := h.hZ
  have h2 := h.hd
  exact ⟨(tw_bytes W).kept hg (by intro e; injection e with e; omega), (tw_node W).kept hg (by intro e; injection e with e; omega)⟩
end
end Go.Proofs.Ytmapkmjhpebcbaa
