/-
  Changing a table: Add. No condition.
-/
import Derived.Test.YtmapkmjhpebcbaaTabP
namespace Go.Proofs.Ytmapkmjhpebcbaa
open Go Go.RowKit

attribute [local go_sem] cell_off4 cell_blk4
set_option maxRecDepth 100000 in
set_option maxHeartbeats 4000000 in
/-- The node may not be. -/
theorem add_wrong (v : Value) (n : Nd) (vd ve : Value) (w : World) (hd : BytesR w vd n.data) (he : EntsR w ve n.ents) (hf : Few n) (hn : toB (rightP n) = false) :
    Calls Try.prog 16 #[v, nodeV n vd ve] w fun e w' => e = .returned (.tuple #[.int .i64 0, .int .i64 22]) ∧ Below w.heap.size w w' := by
  have HR := Lib.hid (fun W (hb : Below w.heap.size w W) => right_any n vd ve W (hd.below hb) (he.below hb) hf)
  rw [hn] at HR
  have HB1 := Lib.hid (ba w (.cells (ndC n vd ve) 39))
  obtain ⟨A1, c1, rfl⟩ := bytes_form hd rfl
  obtain ⟨A2, c2, rfl⟩ := ents_form he rfl
  clear hd he hf hn
  unfold nodeV
  go_enter Try.func16, Try.ntmps16
  go_wp2_with fail
  refine (HR.out _ HB1.out).mono ?_
  rintro e w3 ⟨rfl, hb3⟩
  have HB3 := Lib.hid (bt hb3 HB1.out)
  clear hb3
  go_wp2
  go_ret2
  exact ⟨rfl, HB3.out⟩
/-- The first free place, from the front. -/
theorem free_ge : ∀ (t : List Nd) (d k : Nat), (∀ j, j < k → j < t.length → tis t ((j : Int) + 1) = true) → k ≤ t.length → (k = t.length → freeT t d = 0) ∧ (∀ h : k < t.length, (t[k]).kind = 0 → freeT t d = d + k + 1)
  | [], d, k, _, hk => ⟨fun _ => rfl, fun h => absurd h (Nat.not_lt_zero _)⟩
  | n :: t, d, 0, _, hk => ⟨fun h => (by cases h), fun h h2 => (by
    have h3 : n.kind = 0 := h2
    rw [freeT, if_pos h3])⟩
  | n :: t, d, k + 1, hj, hk => by
    have h0 : ¬ n.kind = 0 := by
      have := hj 0 (by omega) (by simp)
      rw [tis] at this
      have := of_decide_eq_true this
      rw [tget_at (by simp : 0 < (n :: t).length)] at this
      exact this
    have ih := free_ge t (d + 1) k (fun j h1 h2 => by
      have h3 := hj (j + 1) (by omega) (by rw [List.length_cons]; omega)
      rw [tis, tget_at (by rw [List.length_cons]; omega)] at h3
      rw [tis, tget_at h2]
      exact h3) (by rw [List.length_cons] at hk; omega)
    rw [freeT, if_neg h0]
    refine ⟨fun h => ih.1 (by rw [List.length_cons] at h; omega), fun h h2 => ?_⟩
    rw [ih.2 (by rw [List.length_cons] at h; omega) h2]
    omega
/-- What Add answers of a node that may be, and leaves. -/
def AddPost (w : World) (g : Nat) (t : List Nd) (P : Nat → Prop) (n : Nd) (F : Nat) (e : Ending) (w' : World) : Prop :=
  e = .returned (.tuple #[.int .i64 (F : Int), .int .i64 (if F = 0 then 28 else 0)]) ∧ TabR w' g (if F = 0 then t else setT t (F : Int) n) P ∧ w.grownBy w' (some g)
theorem AddPost.yes {w w' : World} {g : Nat} {t : List Nd} {P : Nat → Prop} {n : Nd} {F k : Nat} (hF : F = k + 1) (h : TabR w' g (setT t ((k : Int) + 1) n) P ∧ w.grownBy w' (some g)) : AddPost w g t P n F (.returned (.tuple #[.int .i64 ((k : Int) + 1), .int .i64 0])) w' := by
  subst hF
  refine ⟨by rw [if_neg (Nat.succ_ne_zero k)]; rfl, ?_, h.2⟩
  rw [if_neg (Nat.succ_ne_zero k)]
  exact h.1
theorem AddPost.no {w w' : World} {g : Nat} {t : List Nd} {P : Nat → Prop} {n : Nd} {F : Nat} (hF : F = 0) (h : TabR w' g t P) (hg : w.grownBy w' (some g)) : AddPost w g t P n F (.returned (.tuple #[.int .i64 0, .int .i64 28])) w' := by
  subst hF
  exact ⟨rfl, h, hg⟩
set_option maxRecDepth 100000 in
set_option maxHeartbeats 8000000 in
theorem add_right (g : Nat) (t : List Nd) (P : Nat → Prop) (n : Nd) (vd ve : Value) (w : World) (h : TabR w g t P) (hd : BytesR w vd n.data) (he : EntsR w ve n.ents) (hf : Few n) (hn : rightP n) (hP : ∀ b, w.heap.size ≤ b → P b) :
    Calls Try.prog 16 #[.pointer (some ⟨g, 0, none⟩), nodeV n vd ve] w (AddPost w g t P n (freeT t 0)) := by
  have HR := Lib.hid (fun W (hb : Below w.heap.size w W) => right_any n vd ve W (hd.below hb) (he.below hb) hf)
  rw [toB_true hn] at HR
  have HRM := Lib.hid (fun W (hb : Below w.heap.size w W) => room_any (.pointer (some ⟨g, 0, none⟩)) t W ((h.below hb).ptr))
  have HH := Lib.hid (fun W i (hb : Below w.heap.size w W) => thas_any (.pointer (some ⟨g, 0, none⟩)) t i W ((h.below hb).ptr))
  have HB1 := Lib.hid (ba w (.cells (ndC n vd ve) 39))
  have HK1 := Lib.hid (Blk.new w 39 (ndC n vd ve))
  have hhi := h.hi
  have HT := Lib.hid h
  obtain ⟨A1, c1, rfl⟩ := bytes_form hd rfl
  obtain ⟨A2, c2, rfl⟩ := ents_form he rfl
  have HD := Lib.hid hd
  have HE := Lib.hid he
  have HF := Lib.hid hf
  have HN := Lib.hid hn
  have HPP := Lib.hid hP
  have HFR := Lib.hid (fun k => free_ge t 0 k)
  have HC := Lib.hid (fun W (hb : Below w.heap.size w W) => copied_any n _ _ W (HD.out.below hb) (HE.out.below hb) HF.out)
  clear h hd he hf hn hP
  generalize freeT t 0 = F at HFR ⊢
  unfold nodeV
  go_enter Try.func16, Try.ntmps16
  go_wp2_with fail
  refine (HR.out _ HB1.out).mono ?_
  rintro e w2 ⟨rfl, hb2⟩
  have HB2 := Lib.hid (bt hb2 HB1.out)
  have HK2 := Lib.hid (HK1.out.below hb2)
  clear hb2
  go_wp2_with fail
  refine (HRM.out _ HB2.out).mono ?_
  rintro e w3 ⟨rfl, rfl⟩
  go_wp2
  go_loopg [12] t.length (fun gh s12 wr => ∃ k : Nat, s12 = .int .i64 k ∧ k ≤ t.length ∧ gh = t.length - k ∧ (∀ j, j < k → j < t.length → tis t ((j : Int) + 1) = true) ∧ Below w2.heap.size w2 wr)
  case atStart => exact ⟨0, rfl, Nat.zero_le _, rfl, fun j h => absurd h (Nat.not_lt_zero _), Below.refl _ _⟩
  case round =>
    obtain ⟨k, rfl, hk, rfl, hall, hbr⟩ := hrel
    have HALL := Lib.hid hall
    have HBR := Lib.hid hbr
    have HBW := Lib.hid (bt hbr HB2.out)
    have hkr := HK2.out.below hbr
    have HKR := Lib.hid hkr
    clear hall hbr hkr
    by_cases hlt : k < t.length
    · have hlt' : (k : Int) < (t.length : Int) := by omega
      have j0 : IntKind.i64.wrap ((k : Int) + 1) = (k : Int) + 1 := by rw [IntKind.wrap_i64]; omega
      cases hi : tis t ((k : Int) + 1) with
      | true =>
        have HI := Lib.hid hi
        have HHK := HH.out wr ((k : Int) + 1) HBW.out
        rw [hi] at HHK
        have HHK2 := Lib.hid HHK
        clear hi HHK
        go_wp2_with fail
        refine HHK2.out.mono ?_
        rintro e w4 ⟨rfl, hb4⟩
        have HB4 := Lib.hid (bt hb4 HBR.out)
        clear hb4
        go_wp2
        go_roundg (t.length - (k + 1))
        case measure => omega
        case rel => exact ⟨k + 1, by go_num, by omega, rfl, (fun j h1 h2 => by
          by_cases q : j < k
          · exact HALL.out j q h2
          · rw [show j = k by omega]; exact HI.out), HB4.out⟩
      | false =>
        have HX := Lib.hid (show F = k + 1 by
          have h1 := (HFR.out k HALL.out hk).2 hlt (by
            have := of_decide_eq_false hi
            rw [tget_at hlt] at this
            omega)
          omega)
        have HHK := HH.out wr ((k : Int) + 1) HBW.out
        rw [hi] at HHK
        have HHK2 := Lib.hid HHK
        clear hi HHK
        go_wp2_with fail
        refine HHK2.out.mono ?_
        rintro e w4 ⟨rfl, hb4⟩
        have HB4 := Lib.hid (bt hb4 HBW.out)
        have hk4 := HKR.out.below hb4
        obtain ⟨p0, p1, p2, p3, p4, p5, p6⟩ := hk4.c7
        clear hb4 hk4
        have HBD := Lib.hid (show Below w.heap.size w w4.drew from bdN HB4.out 1)
        have j3 : (k : Int) < 24 := by omega
        have j4 : k < 24 := by omega
        clear j0
        go_wp2_with fail
        go_region_with (go_at_call 41; refine (HC.out _ HBD.out).mono ?_; rintro e w5 ⟨vd5, ve5, rfl, hd5, he5, hl5, hm5, hb5⟩; have ht5 := (HT.out.below HBD.out).below hb5; obtain ⟨cs5, hk5, hs5⟩ := ht5.blk; obtain ⟨⟨x0, q0⟩, ⟨x1, q1⟩, ⟨x2, q2⟩, ⟨x3, q3⟩, ⟨x4, q4⟩, ⟨x5, q5⟩, ⟨x6, q6⟩⟩ := putA_there (o := 1 + k * 7) hk5 (by omega); obtain ⟨A5, k5, hv5⟩ := bytesT_form hd5; obtain ⟨A6, k6, hv6⟩ := entsT_form he5; subst hv5 hv6; unfold nodeV; have f5 := fun i => ht5.frozen i; have HT5 := Lib.hid ht5; have HD5 := Lib.hid hd5; have HE5 := Lib.hid he5; have HL5 := Lib.hid hl5; have HM5 := Lib.hid hm5; have HB5 := Lib.hid (bt hb5 HBD.out); clear hb5 ht5 hd5 he5 hl5 hm5 hk5 hs5)
        have hS := put_end HT5.out hlt rfl HN.out HD5.out HE5.out (HL5.out.mono (fun b hb => HPP.out b (Nat.le_trans HBD.out.size hb))) (HM5.out.mono (fun b hb => HPP.out b (Nat.le_trans HBD.out.size hb))) (grown_below HB5.out (some g))
        unfold putA at hS
        have HS := Lib.hid hS
        clear hS q0 q1 q2 q3 q4 q5 q6 f5
        go_wp2
        go_ret2
        exact AddPost.yes HX.out HS.out
    · have hlt' : ¬ (k : Int) < (t.length : Int) := by omega
      have HX := Lib.hid (show F = 0 from (HFR.out k HALL.out hk).1 (by omega))
      go_wp2
      go_ret2
      exact AddPost.no HX.out (HT.out.below HBW.out) (grown_below HBW.out (some g))
/-- What Add answers: a number, and an error. -/
def addI (t : List Nd) (r : Bool) : Int := if r = true then (freeT t 0 : Int) else 0
/-- Add, of a table that is there. -/
theorem add_any (g : Nat) (t : List Nd) (P : Nat → Prop) (n : Nd) (vd ve : Value) (w : World) (h : TabR w g t P) (hd : BytesR w vd n.data) (he : EntsR w ve n.ents) (hf : Few n) (hP : ∀ b, w.heap.size ≤ b → P b) (i : Int) :
    Calls Try.prog 16 #[.pointer (some ⟨g, 0, none⟩), nodeV n vd ve] w fun e w' => e = .returned (.tuple #[.int .i64 (addI t (toB (rightP n))), .int .i64 (addE t (toB (rightP n)))]) ∧ TabR w' g (actT t 1 i n (toB (rightP n))) P ∧ w.grownBy w' (some g) := by
  by_cases hn : rightP n
  · refine (add_right g t P n vd ve w h hd he hf hn hP).mono ?_
    rintro e w' ⟨rfl, ht, hg⟩
    refine ⟨by rw [addI, addE, toB_true hn]; rfl, ?_, hg⟩
    rw [actT, if_neg (by decide), if_pos rfl, toB_true hn]
    by_cases q : freeT t 0 = 0
    · rw [if_pos q] at ht
      rw [if_neg (fun h => h.2 q)]
      exact ht
    · rw [if_neg q] at ht
      rw [if_pos ⟨rfl, q⟩]
      exact ht
  · refine (add_wrong _ n vd ve w hd he hf (toB_false hn)).mono ?_
    rintro e w' ⟨rfl, hb⟩
    refine ⟨by rw [addI, addE, toB_false hn]; rfl, ?_, grown_below hb _⟩
    rw [actT, if_neg (by decide), if_pos rfl, if_neg (by rw [toB_false hn]; rintro ⟨q, -⟩; cases q)]
    exact h.below hb
set_option maxRecDepth 100000 in
set_option maxHeartbeats 4000000 in
/-- Add, of nil. -/
theorem add_nil (n : Nd) (vd ve : Value) (w : World) (hd : BytesR w vd n.data) (he : EntsR w ve n.ents) (hf : Few n) :
    Calls Try.prog 16 #[.pointer none, nodeV n vd ve] w fun e w' => e = .returned (.tuple #[.int .i64 0, .int .i64 (addE [] (toB (rightP n)))]) ∧ Below w.heap.size w w' := by
  by_cases hn : rightP n
  · have HR := Lib.hid (fun W (hb : Below w.heap.size w W) => right_any n vd ve W (hd.below hb) (he.below hb) hf)
    have HX := Lib.hid (show addE [] (toB (rightP n)) = 28 by rw [toB_true hn]; rfl)
    rw [toB_true hn] at HR
    generalize addE [] (toB (rightP n)) = X at HX ⊢
    have HB1 := Lib.hid (ba w (.cells (ndC n vd ve) 39))
    have HRM := Lib.hid (fun W => room_any (.pointer none) [] W (TabP.none W))
    obtain ⟨A1, c1, rfl⟩ := bytes_form hd rfl
    obtain ⟨A2, c2, rfl⟩ := ents_form he rfl
    clear hd he hf hn
    unfold nodeV
    go_enter Try.func16, Try.ntmps16
    go_wp2_with fail
    refine (HR.out _ HB1.out).mono ?_
    rintro e w2 ⟨rfl, hb2⟩
    have HB2 := Lib.hid (bt hb2 HB1.out)
    clear hb2
    go_wp2_with fail
    refine (HRM.out _).mono ?_
    rintro e w3 ⟨rfl, rfl⟩
    go_wp2
    go_loopg [12] 1 (fun gh s12 wr => s12 = .int .i64 0 ∧ gh = 1 ∧ w2 = wr)
    case atStart => exact ⟨rfl, rfl, rfl⟩
    case round =>
      obtain ⟨rfl, rfl, rfl⟩ := hrel
      go_wp2
      go_ret2
      exact ⟨(by rw [HX.out]; rfl), HB2.out⟩
  · refine (add_wrong _ n vd ve w hd he hf (toB_false hn)).mono ?_
    rintro e w' ⟨rfl, hb⟩
    exact ⟨by rw [addE, toB_false hn]; rfl, hb⟩
end Go.Proofs.Ytmapkmjhpebcbaa
