/-
  Changing a table: Drop. No condition.
-/
import Derived.Test.YtmapkmjhpebcbaaTabP
namespace Go.Proofs.Ytmapkmjhpebcbaa
open Go Go.RowKit

attribute [local go_sem] cell_off4 cell_blk4
set_option maxRecDepth 100000 in
set_option maxHeartbeats 4000000 in
theorem drop_none (v : Value) (t : List Nd) (i : Int) (w : World) (h : TabP w v t) (hi : tis t i = false) :
    Calls Try.prog 18 #[v, .int .i64 i] w fun e w' => e = .returned (.bool false) ∧ Below w.heap.size w w' := by
  have HH := Lib.hid (fun W (hb : Below w.heap.size w W) => thas_any v t i W (h.below hb))
  rw [hi] at HH
  clear h hi
  go_enter Try.func18, Try.ntmps18
  go_wp2_with fail
  refine (HH.out _ (Below.refl _ _)).mono ?_
  rintro e w2 ⟨rfl, hb2⟩
  have HB2 := Lib.hid hb2
  clear hb2
  go_wp2
  go_ret
  exact ⟨rfl, HB2.out⟩
theorem drop_end {w w5 : World} {g k : Nat} {t : List Nd} {P : Nat → Prop} (h : TabR w5 g t P) (hk : k < t.length) (hg : w.grownBy w5 (some g)) :
    TabR (putA w5 g (1 + k * 7) (.int .i64 0) (.int .i64 0) (.int .i64 0) (.int .i64 0) (.slice none 0 0) (.slice none 0 0) (.string ⟨#[]⟩)) g (setT t ((k : Int) + 1) Nd.zero) P ∧ w.grownBy (putA w5 g (1 + k * 7) (.int .i64 0) (.int .i64 0) (.int .i64 0) (.int .i64 0) (.slice none 0 0) (.slice none 0 0) (.string ⟨#[]⟩)) (some g) := by
  rw [setT_at]
  have h1 := h.put (n := Nd.zero) (vd := .slice none 0 0) (ve := .slice none 0 0) hk (.inl rfl) (BytesT.nil _) (EntsT.nil _) (LP.nil _) (LP.nil _)
  rw [show Nd.zero.kind = 0 from rfl, show Nd.zero.mode = 0 from rfl, show Nd.zero.uid = 0 from rfl, show Nd.zero.gid = 0 from rfl, show bA Nd.zero.target = (⟨#[]⟩ : ByteArray) from rfl] at h1
  have h2 := grownA w5 g (1 + k * 7) (.int .i64 0) (.int .i64 0) (.int .i64 0) (.int .i64 0) (.slice none 0 0) (.slice none 0 0) (.string ⟨#[]⟩)
  exact ⟨h1, grown_trans hg h2⟩
set_option maxRecDepth 100000 in
set_option maxHeartbeats 8000000 in
theorem drop_yes (g : Nat) (t : List Nd) (P : Nat → Prop) (k : Nat) (w : World) (h : TabR w g t P) (hk : k < t.length) (hi : tis t ((k : Int) + 1) = true) :
    Calls Try.prog 18 #[.pointer (some ⟨g, 0, none⟩), .int .i64 ((k : Int) + 1)] w fun e w' => e = .returned (.bool true) ∧ TabR w' g (setT t ((k : Int) + 1) Nd.zero) P ∧ w.grownBy w' (some g) := by
  have HH := Lib.hid (fun W (hb : Below w.heap.size w W) => thas_any (.pointer (some ⟨g, 0, none⟩)) t ((k : Int) + 1) W ((h.below hb).ptr))
  rw [hi] at HH
  have hhi := h.hi
  have HT := Lib.hid h
  clear h hi
  go_enter Try.func18, Try.ntmps18
  go_wp2_with fail
  refine (HH.out _ (Below.refl _ _)).mono ?_
  rintro e w2 ⟨rfl, hb2⟩
  have ht2 := HT.out.below hb2
  obtain ⟨cs5, hk5, hs5⟩ := ht2.blk
  obtain ⟨⟨x0, q0⟩, ⟨x1, q1⟩, ⟨x2, q2⟩, ⟨x3, q3⟩, ⟨x4, q4⟩, ⟨x5, q5⟩, ⟨x6, q6⟩⟩ := putA_there (o := 1 + k * 7) hk5 (by omega)
  have f5 := fun i => ht2.frozen i
  have hS := drop_end (w := w) ht2 hk (grown_below hb2 (some g))
  unfold putA at hS
  have HS := Lib.hid hS
  have j3 : (k : Int) < 24 := by omega
  have j4 : k < 24 := by omega
  clear ht2 hb2 hk5 hs5 hS
  go_wp2
  go_ret
  exact ⟨rfl, HS.out.1, HS.out.2⟩
/-- Drop, of a table that is there. -/
theorem drop_any (g : Nat) (t : List Nd) (P : Nat → Prop) (i : Int) (w : World) (h : TabR w g t P) (d : Int) (h0 : d ≠ 0) (h1 : d ≠ 1) (n : Nd) (r : Bool) :
    Calls Try.prog 18 #[.pointer (some ⟨g, 0, none⟩), .int .i64 i] w fun e w' => e = .returned (.bool (tis t i)) ∧ TabR w' g (actT t d i n r) P ∧ w.grownBy w' (some g) := by
  cases hi : tis t i with
  | false =>
    refine (drop_none _ t i w h.ptr hi).mono ?_
    rintro e w' ⟨rfl, hb⟩
    refine ⟨rfl, ?_, grown_below hb _⟩
    rw [actT, if_neg h0, if_neg h1, if_neg (by rw [hi]; exact Bool.noConfusion)]
    exact h.below hb
  | true =>
    have hin := tis_in hi
    obtain ⟨k, hk⟩ : ∃ k : Nat, i = (k : Int) + 1 := ⟨(i - 1).toNat, by omega⟩
    subst hk
    refine (drop_yes g t P k w h (by omega) hi).mono ?_
    rintro e w' ⟨rfl, ht, hg⟩
    refine ⟨rfl, ?_, hg⟩
    rw [actT, if_neg h0, if_neg h1, if_pos hi]
    exact ht
end Go.Proofs.Ytmapkmjhpebcbaa
