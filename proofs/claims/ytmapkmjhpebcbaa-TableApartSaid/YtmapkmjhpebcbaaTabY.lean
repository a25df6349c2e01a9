/-
  Acts on a table, one behind the other: play. The condition: acts are few.
-/
import Derived.Test.YtmapkmjhpebcbaaTabK
namespace Go.Proofs.Ytmapkmjhpebcbaa
open Go Go.RowKit

/-- An act on a table. -/
noncomputable def acT (t : List Nd) (a : Ac) : List Nd := actT t (co a.d) a.i a.n (toB (rightP a.n))
noncomputable def playT (t : List Nd) (l : List Ac) : List Nd := l.foldl acT t
theorem playT_snoc {t : List Nd} {l : List Ac} {k : Nat} {a : Ac} (h : l[k]? = some a) : playT t (l.take (k + 1)) = acT (playT t (l.take k)) a := by
  unfold playT
  rw [take_snoc' h, List.foldl_append]
  rfl
theorem len_acT (t : List Nd) (a : Ac) : (acT t a).length = t.length := len_act _ _ _ _ _
theorem len_play : ∀ (l : List Ac) (t : List Nd), (playT t l).length = t.length
  | [], t => rfl
  | a :: l, t => by
    show (playT (acT t a) l).length = t.length
    rw [len_play l, len_acT]
theorem grown_bl {w0 w w' : World} {g : Nat} (hb : Below w0.heap.size w0 w) (hg : w.grownBy w' (some g)) (h : w0.heap.size ≤ g) : Below w0.heap.size w0 w' := below_grown hb hg h
theorem co_zero {c : UInt8} (h : co c = 0) : (co c == 0) = true := by simpa using h
set_option maxRecDepth 100000 in
set_option maxHeartbeats 8000000 in
theorem play_any (g : Nat) (t : List Nd) (P : Nat → Prop) (v : Value) (l : List Ac) (w0 w : World) (h : TabR w g t P) (ha : ActsR w0 v l) (hb : Below w0.heap.size w0 w) (hg : w0.heap.size ≤ g) (hl : smallP l) (hP : ∀ b, w.heap.size ≤ b → P b) :
    Calls Try.prog 32 #[.pointer (some ⟨g, 0, none⟩), v] w fun e w' => e = .returned (.tuple #[]) ∧ TabR w' g (playT t l) P ∧ w.grownBy w' (some g) := by
  have hll := hl.2
  have HL := Lib.hid hl
  have HT0 := Lib.hid h
  have HP := Lib.hid hP
  have HB := Lib.hid hb
  have HA := Lib.hid ha
  obtain ⟨A, c, rfl⟩ := acts_form ha
  clear h ha hb hl hP
  go_enter Try.func32, Try.ntmps32
  go_wp2
  go_loopg [4] l.length (fun gh s4 wr => ∃ k : Nat, s4 = .int .i64 k ∧ k ≤ l.length ∧ gh = l.length - k ∧ TabR wr g (playT t (l.take k)) P ∧ w.grownBy wr (some g))
  case atStart => exact ⟨0, rfl, Nat.zero_le _, rfl, HT0.out, ⟨rfl, rfl, rfl, Nat.le_refl _, fun _ _ _ => rfl⟩⟩
  case round =>
    obtain ⟨k, rfl, hk, rfl, ht, hgr⟩ := hrel
    have HT := Lib.hid ht
    have HG := Lib.hid hgr
    have HBR := Lib.hid (grown_bl HB.out hgr hg)
    clear ht hgr
    by_cases hlt : k < l.length
    · have hlt' : (k : Int) < (l.length : Int) := by omega
      obtain ⟨a, hka⟩ : ∃ a, l[k]? = some a := ⟨_, List.getElem?_eq_getElem hlt⟩
      obtain ⟨ad, vd, ve, hA, d0, d1, ⟨c0, c1, c2, c3, c4, c5, c6⟩, hd, he, -⟩ := acts_get (HA.out.below HBR.out) hka
      subst hA
      have HF := Lib.hid (HL.out.1 a (List.mem_of_getElem? hka)).few
      have HS := Lib.hid (playT_snoc (t := t) hka)
      have HPR := Lib.hid (show ∀ b, wr.heap.size ≤ b → P b from fun b hb => HP.out b (Nat.le_trans HG.out.size hb))
      have HD := Lib.hid hd
      have HE := Lib.hid he
      have HT1 := Lib.hid HT.out
      obtain ⟨A1, k1, rfl⟩ := bytes_form hd rfl
      obtain ⟨A2, k2, rfl⟩ := ents_form he rfl
      generalize playT t (l.take k) = T at HT HS HT1
      clear hka hd he
      by_cases q0 : co a.d = 0
      · have e0 : (co a.d == 0) = true := by simpa using q0
        have HX := Lib.hid (show acT T a = actT T 0 a.i a.n (toB (rightP a.n)) by unfold acT; rw [q0])
        have HC := Lib.hid (put_any g T P a.i a.n _ _ wr.drew (HT.out.below (Below.refl _ _).drew) (HD.out.below (Below.refl _ _).drew) (HE.out.below (Below.refl _ _).drew) HF.out HPR.out)
        unfold nodeV at HC
        clear q0
        go_wp2
        go_region_with (go_at_call 14; refine HC.out.mono ?_; rintro e w5 ⟨rfl, ht5, hg5⟩; have HT5 := Lib.hid ht5; have HG5 := Lib.hid hg5; clear ht5 hg5)
        all_goals (
          go_wp2
          go_roundg (l.length - (k + 1))
          case measure => omega
          case rel => exact ⟨k + 1, by go_num, by omega, rfl, by rw [HS.out, HX.out]; exact HT5.out, grown_trans HG.out (grown_trans (grown_below (Below.refl _ _).drew _) HG5.out)⟩)
      · have e0 : (co a.d == 0) = false := by simpa using q0
        by_cases q1 : co a.d = 1
        · have e1 : (co a.d == 1) = true := by simpa using q1
          have HX := Lib.hid (show acT T a = actT T 1 a.i a.n (toB (rightP a.n)) by unfold acT; rw [q1])
          have HC := Lib.hid (add_any g T P a.n _ _ wr HT.out HD.out HE.out HF.out HPR.out a.i)
          unfold nodeV at HC
          clear q0 q1
          go_wp2_with fail
          refine HC.out.mono ?_
          rintro e w5 ⟨rfl, ht5, hg5⟩
          have HT5 := Lib.hid ht5
          have HG5 := Lib.hid hg5
          clear ht5 hg5
          go_wp2
          go_roundg (l.length - (k + 1))
          case measure => omega
          case rel => exact ⟨k + 1, by go_num, by omega, rfl, by rw [HS.out, HX.out]; exact HT5.out, grown_trans HG.out HG5.out⟩
        · have e1 : (co a.d == 1) = false := by simpa using q1
          have HC := Lib.hid (drop_any g T P a.i wr HT.out (co a.d) q0 q1 a.n (toB (rightP a.n)))
          clear q0 q1
          go_wp2_with fail
          refine HC.out.mono ?_
          rintro e w5 ⟨rfl, ht5, hg5⟩
          have HT5 := Lib.hid ht5
          have HG5 := Lib.hid hg5
          clear ht5 hg5
          go_wp2
          go_roundg (l.length - (k + 1))
          case measure => omega
          case rel => exact ⟨k + 1, by go_num, by omega, rfl, by rw [HS.out]; exact HT5.out, grown_trans HG.out HG5.out⟩
    · have hlt' : ¬ (k : Int) < (l.length : Int) := by omega
      have hke : l.take k = l := List.take_of_length_le (by omega)
      rw [hke] at HT
      clear hke
      go_wp2
      go_end0
      exact ⟨rfl, HT.out, HG.out⟩
end Go.Proofs.Ytmapkmjhpebcbaa
