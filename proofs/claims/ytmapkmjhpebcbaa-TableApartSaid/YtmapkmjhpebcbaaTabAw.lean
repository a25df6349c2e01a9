/-
  awake: the document's example answers true. No condition.
-/
import Derived.Test.YtmapkmjhpebcbaaTabY
import Derived.Test.YtmapkmjhpebcbaaTabU
namespace Go.Proofs.Ytmapkmjhpebcbaa
open Go Go.RowKit

attribute [local go_sem] cell_off4 cell_blk4
/-- The node of the example. -/
def exN : Nd := ⟨2, 493, 0, 0, [], [], []⟩
theorem ex_right : rightP exN := ⟨⟨⟨by decide, by decide⟩, ⟨by decide, by decide⟩, ⟨by decide, by decide⟩⟩, .inr (.inl ⟨rfl, rfl, rfl, ⟨fun e h => (by cases h), List.Pairwise.nil, by decide⟩⟩)⟩
theorem ex_few : Few exN := right_few ex_right
/-- The example, step by step. -/
structure AwS (w W : World) (t : List Nd) : Prop where
  tab : TabR W w.heap.size t (fun _ => True)
  below : Below w.heap.size w W
  box : Blk W (w.heap.size + 1) 39 #[.int .i64 2, .int .i64 493, .int .i64 0, .int .i64 0, .slice none 0 0, .slice none 0 0, .string ⟨#[]⟩]
theorem AwS.next {w W W' : World} {t t' : List Nd} (h : AwS w W t) (ht : TabR W' w.heap.size t' (fun _ => True)) (hg : W.grownBy W' (some w.heap.size)) : AwS w W' t' :=
  ⟨ht, below_grown h.below hg (Nat.le_refl _), h.box.kept hg (by simp)⟩
theorem aw_add {w W : World} {t : List Nd} (h : AwS w W t) (x : Int) (hx : freeT t 0 ≠ 0) (hx2 : (freeT t 0 : Int) = x) :
    Calls Try.prog 16 #[.pointer (some ⟨w.heap.size, 0, none⟩), .agg #[.int .i64 2, .int .i64 493, .int .i64 0, .int .i64 0, .slice none 0 0, .slice none 0 0, .string ⟨#[]⟩]] W fun e w' => e = .returned (.tuple #[.int .i64 x, .int .i64 0]) ∧ AwS w w' (setT t x exN) := by
  refine (add_any w.heap.size t (fun _ => True) exN (.slice none 0 0) (.slice none 0 0) W h.tab (BytesR.nil W) (EntsR.nil W) ex_few (fun _ _ => trivial) 0).mono ?_
  rintro e w' ⟨rfl, ht, hg⟩
  rw [toB_true ex_right] at ht ⊢
  rw [actT, if_neg (by decide), if_pos rfl, if_pos ⟨rfl, hx⟩, hx2] at ht
  refine ⟨?_, h.next ht hg⟩
  rw [addI, if_pos rfl, addE, if_neg (by decide), if_neg hx, hx2]
theorem aw_full {w W : World} {t : List Nd} (h : AwS w W t) (hx : freeT t 0 = 0) :
    Calls Try.prog 16 #[.pointer (some ⟨w.heap.size, 0, none⟩), .agg #[.int .i64 2, .int .i64 493, .int .i64 0, .int .i64 0, .slice none 0 0, .slice none 0 0, .string ⟨#[]⟩]] W fun e w' => e = .returned (.tuple #[.int .i64 0, .int .i64 28]) ∧ AwS w w' t := by
  refine (add_any w.heap.size t (fun _ => True) exN (.slice none 0 0) (.slice none 0 0) W h.tab (BytesR.nil W) (EntsR.nil W) ex_few (fun _ _ => trivial) 0).mono ?_
  rintro e w' ⟨rfl, ht, hg⟩
  rw [toB_true ex_right] at ht ⊢
  rw [actT, if_neg (by decide), if_pos rfl, if_neg (fun q => q.2 hx)] at ht
  refine ⟨?_, h.next ht hg⟩
  rw [addI, if_pos rfl, addE, if_neg (by decide), if_pos hx, hx]
  rfl
theorem aw_drop {w W : World} {t : List Nd} (h : AwS w W t) (hx : tis t 1 = true) :
    Calls Try.prog 18 #[.pointer (some ⟨w.heap.size, 0, none⟩), .int .i64 1] W fun e w' => e = .returned (.bool true) ∧ AwS w w' (setT t 1 Nd.zero) := by
  refine (drop_any w.heap.size t (fun _ => True) 1 W h.tab 2 (by decide) (by decide) exN true).mono ?_
  rintro e w' ⟨rfl, ht, hg⟩
  rw [actT, if_neg (by decide), if_neg (by decide), if_pos hx] at ht
  exact ⟨by rw [hx], h.next ht hg⟩
theorem aw_room {w W : World} {t : List Nd} (h : AwS w W t) (x : Int) (hx : (t.length : Int) = x) :
    Calls Try.prog 29 #[.pointer (some ⟨w.heap.size, 0, none⟩)] W fun e w' => e = .returned (.int .i64 x) ∧ W = w' := by
  refine (room_any _ t W h.tab.ptr).mono ?_
  rintro e w' ⟨rfl, rfl⟩
  exact ⟨by rw [hx], rfl⟩
theorem aw_used {w W : World} {t : List Nd} (h : AwS w W t) (x : Int) (hx : (usedT t : Int) = x) :
    Calls Try.prog 27 #[.pointer (some ⟨w.heap.size, 0, none⟩)] W fun e w' => e = .returned (.int .i64 x) ∧ Below W.heap.size W w' := by
  refine (used_any _ t W h.tab.ptr).mono ?_
  rintro e w' ⟨rfl, hb⟩
  exact ⟨by rw [hx], hb⟩
theorem aw_new (w : World) : Calls Try.prog 10 #[.int .i64 2] w fun e w' => e = .returned (.pointer (some ⟨w.heap.size, 0, none⟩)) ∧ TabR w' w.heap.size [Nd.zero, Nd.zero] (fun _ => True) ∧ Below w.heap.size w w' ∧ w'.heap.size = w.heap.size + 1 := by
  refine (new_any 2 w).mono ?_
  rintro e w' ⟨rfl, ht, hb, hz⟩
  exact ⟨rfl, ht _, hb, hz⟩
set_option maxRecDepth 100000 in
set_option maxHeartbeats 8000000 in
theorem awake_any (w : World) : Calls Try.prog 8 #[] w fun e w' => e = .returned (.bool true) ∧ Below w.heap.size w w' := by
  go_enter Try.func8, Try.ntmps8
  go_wp2_with fail
  refine (aw_new w).mono ?_
  rintro e w1 ⟨rfl, ht1, hb1, hz1⟩
  have HS1 := Lib.hid (show AwS w (w1.alloc (.cells #[.int .i64 2, .int .i64 493, .int .i64 0, .int .i64 0, .slice none 0 0, .slice none 0 0, .string ⟨#[]⟩] 39)) [Nd.zero, Nd.zero] from
    ⟨ht1.below (ba _ _), bt (ba _ _) hb1, by have := Blk.new w1 39 #[.int .i64 2, .int .i64 493, .int .i64 0, .int .i64 0, .slice none 0 0, .slice none 0 0, .string ⟨#[]⟩]; rw [hz1] at this; exact this⟩)
  clear ht1 hb1
  go_wp2_with fail
  clear hz1
  refine (aw_add HS1.out 1 (by decide) rfl).mono ?_
  rintro e w2 ⟨rfl, hs2⟩
  have HS2 := Lib.hid hs2
  obtain ⟨p0, p1, p2, p3, p4, p5, p6⟩ := hs2.box.c7
  clear hs2 HS1
  go_wp2_with fail
  refine (aw_add HS2.out 2 (by decide) rfl).mono ?_
  rintro e w3 ⟨rfl, hs3⟩
  have HS3 := Lib.hid hs3
  clear p0 p1 p2 p3 p4 p5 p6 HS2
  obtain ⟨p0, p1, p2, p3, p4, p5, p6⟩ := hs3.box.c7
  clear hs3
  go_wp2_with fail
  refine (aw_full HS3.out (by decide)).mono ?_
  rintro e w4 ⟨rfl, hs4⟩
  have HS4 := Lib.hid hs4
  clear p0 p1 p2 p3 p4 p5 p6 HS3
  obtain ⟨p0, p1, p2, p3, p4, p5, p6⟩ := hs4.box.c7
  clear hs4
  go_wp2_with fail
  refine (aw_drop HS4.out (by decide)).mono ?_
  rintro e w5 ⟨rfl, hs5⟩
  have HS5 := Lib.hid hs5
  clear p0 p1 p2 p3 p4 p5 p6 HS4
  obtain ⟨p0, p1, p2, p3, p4, p5, p6⟩ := hs5.box.c7
  clear hs5
  go_wp2_with fail
  refine (aw_add HS5.out 1 (by decide) rfl).mono ?_
  rintro e w6 ⟨rfl, hs6⟩
  have HS6 := Lib.hid hs6
  clear p0 p1 p2 p3 p4 p5 p6 HS5
  clear hs6
  go_wp2_with fail
  refine (aw_room HS6.out 2 rfl).mono ?_
  rintro e w7 ⟨rfl, rfl⟩
  go_wp2_with fail
  refine (aw_used HS6.out 2 rfl).mono ?_
  rintro e w8 ⟨rfl, hb8⟩
  have HB8 := Lib.hid (bt hb8 HS6.out.below)
  clear hb8
  go_wp2
  go_ret
  exact ⟨rfl, HB8.out⟩
end Go.Proofs.Ytmapkmjhpebcbaa
