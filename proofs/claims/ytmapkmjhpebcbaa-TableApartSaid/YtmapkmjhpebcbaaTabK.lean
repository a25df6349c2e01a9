/-
  Acts on a table: how they lie in memory, small, play. The conditions: no list of acts is longer than a machine can hold.
-/
import Derived.Test.YtmapkmjhpebcbaaTabD
import Derived.Test.YtmapkmjhpebcbaaTabB
import Derived.Test.YtmapkmjhpebcbaaTabN
namespace Go.Proofs.Ytmapkmjhpebcbaa
open Go Go.RowKit

/-- An act: what is done, a number, a node. -/
structure Ac where
  d : UInt8
  i : Int
  n : Nd
/-- A node in cells side by side, from an address on. -/
structure At9 (w : World) (b o : Nat) (n : Nd) (vd ve : Value) : Prop where
  c0 : w.cell? ⟨b, o + 2, none⟩ = some (.int .i64 n.kind)
  c1 : w.cell? ⟨b, o + 3, none⟩ = some (.int .i64 n.mode)
  c2 : w.cell? ⟨b, o + 4, none⟩ = some (.int .i64 n.uid)
  c3 : w.cell? ⟨b, o + 5, none⟩ = some (.int .i64 n.gid)
  c4 : w.cell? ⟨b, o + 6, none⟩ = some vd
  c5 : w.cell? ⟨b, o + 7, none⟩ = some ve
  c6 : w.cell? ⟨b, o + 8, none⟩ = some (.string (bA n.target))
/-- A slice that reads as acts. -/
def ActsR (w : World) (v : Value) (l : List Ac) : Prop := ∃ A c, v = .slice A l.length c ∧ ∀ (k : Nat) (a : Ac), l[k]? = some a → ∃ (ad : Addr) (vd ve : Value), A = some ad ∧
  w.cell? (ad.add (k * 9)) = some (.int .u8 (co a.d)) ∧ w.cell? ⟨(ad.add (k * 9)).block, (ad.add (k * 9)).off + 1, none⟩ = some (.int .i64 a.i) ∧ At9 w (ad.add (k * 9)).block (ad.add (k * 9)).off a.n vd ve ∧ BytesR w vd a.n.data ∧ EntsR w ve a.n.ents ∧ a.n.ents.length ≤ maxLen
theorem ActsR.below {w w' : World} {v : Value} {l : List Ac} (h : ActsR w v l) (hb : Below w.heap.size w w') : ActsR w' v l := by
  obtain ⟨A, c, hv, hc⟩ := h
  refine ⟨A, c, hv, fun k a hk => ?_⟩
  obtain ⟨ad, vd, ve, hA, h0, h1, h2, h3, h4, h5⟩ := hc k a hk
  exact ⟨ad, vd, ve, hA, bc hb h0, bc hb h1, ⟨bc hb h2.c0, bc hb h2.c1, bc hb h2.c2, bc hb h2.c3, bc hb h2.c4, bc hb h2.c5, bc hb h2.c6⟩, h3.below hb, h4.below hb, h5⟩
theorem acts_form {w : World} {v : Value} {l : List Ac} (h : ActsR w v l) : ∃ A c, v = .slice A l.length c := by
  obtain ⟨A, c, rfl, -⟩ := h
  exact ⟨A, c, rfl⟩
theorem acts_get {w : World} {A : Option Addr} {n c : Nat} {l : List Ac} (h : ActsR w (.slice A n c) l) {k : Nat} {a : Ac} (hk : l[k]? = some a) : ∃ (ad : Addr) (vd ve : Value), A = some ad ∧
    w.cell? (ad.add (k * 9)) = some (.int .u8 (co a.d)) ∧ w.cell? ⟨(ad.add (k * 9)).block, (ad.add (k * 9)).off + 1, none⟩ = some (.int .i64 a.i) ∧ At9 w (ad.add (k * 9)).block (ad.add (k * 9)).off a.n vd ve ∧ BytesR w vd a.n.data ∧ EntsR w ve a.n.ents ∧ a.n.ents.length ≤ maxLen := by
  obtain ⟨A', c', hv, hc⟩ := h
  injection hv with hA
  subst hA
  exact hc k a hk
/-- Are acts few? -/
def smallP (l : List Ac) : Prop := (∀ a ∈ l, fewP a.n) ∧ l.length ≤ 40
set_option maxRecDepth 100000 in
set_option maxHeartbeats 4000000 in
theorem small_any (v : Value) (l : List Ac) (w : World) (h : ActsR w v l) (hl : l.length ≤ maxLen) :
    Calls Try.prog 9 #[v] w fun e w' => e = .returned (.bool (toB (smallP l))) ∧ Below w.heap.size w w' := by
  have hl' : l.length ≤ 9223372036854775807 := by unfold maxLen at hl; omega
  have HN := Lib.hid (fun (k : Nat) (a : Ac) (hk : l[k]? = some a) (hf : toB (fewP a.n) = false) => show toB (smallP l) = false from toB_false (fun hp => by
    rw [toB_true (hp.1 a (List.mem_of_getElem? hk))] at hf; cases hf))
  have HY := Lib.hid (fun (hf : ∀ a ∈ l, fewP a.n) => show toB (smallP l) = decide ((l.length : Int) ≤ 40) by
    by_cases h1 : l.length ≤ 40
    · rw [toB_true ⟨hf, h1⟩, decide_eq_true (by omega)]
    · rw [toB_false (fun hp => h1 hp.2), decide_eq_false (by omega)])
  generalize toB (smallP l) = X at HN HY ⊢
  obtain ⟨A, c, rfl⟩ := acts_form h
  have HA := Lib.hid h
  clear h hl
  go_enter Try.func9, Try.ntmps9
  go_wp2
  go_loopg [3] l.length (fun gh s3 wr => ∃ k : Nat, s3 = .int .i64 k ∧ k ≤ l.length ∧ gh = l.length - k ∧ (∀ a ∈ l.take k, fewP a.n) ∧ Below w.heap.size w wr)
  case atStart => exact ⟨0, rfl, Nat.zero_le _, rfl, fun e h => by simp at h, Below.refl _ _⟩
  case round =>
    obtain ⟨k, rfl, hk, rfl, hgo, hbr⟩ := hrel
    have HG := Lib.hid hgo
    have HB := Lib.hid hbr
    clear hgo hbr
    by_cases hlt : k < l.length
    · have hlt' : (k : Int) < (l.length : Int) := by omega
      obtain ⟨a, ha⟩ : ∃ a, l[k]? = some a := ⟨_, List.getElem?_eq_getElem hlt⟩
      obtain ⟨ad, vd, ve, hA, -, -, ⟨c0, c1, c2, c3, c4, c5, c6⟩, hd, he, hm⟩ := acts_get (HA.out.below HB.out) ha
      subst hA
      have HK := Lib.hid ha
      have HFW := Lib.hid (few_any a.n vd ve wr hd he hm)
      obtain ⟨A1, k1, rfl⟩ := bytes_form hd rfl
      obtain ⟨A2, k2, rfl⟩ := ents_form he rfl
      have HTK := Lib.hid (take_snoc' ha)
      clear ha hd he hm
      unfold nodeV at HFW
      by_cases q : fewP a.n
      · rw [toB_true q] at HFW
        have HQ := Lib.hid q
        clear q
        go_wp2_with fail
        refine HFW.out.mono ?_
        rintro e w4 ⟨rfl, hb4⟩
        have HB4 := Lib.hid (bt hb4 HB.out)
        clear hb4 c0 c1 c2 c3 c4 c5 c6
        go_wp2
        go_roundg (l.length - (k + 1))
        case measure => omega
        case rel => exact ⟨k + 1, by go_num, by omega, rfl, (fun b hb => by
          rw [HTK.out] at hb
          rcases List.mem_append.1 hb with hb | hb
          · exact HG.out b hb
          · rw [List.mem_singleton] at hb
            rw [hb]
            exact HQ.out), HB4.out⟩
      · rw [toB_false q] at HFW
        have HX := Lib.hid (HN.out k a HK.out (toB_false q))
        clear q
        go_wp2_with fail
        refine HFW.out.mono ?_
        rintro e w4 ⟨rfl, hb4⟩
        have HB4 := Lib.hid (bt hb4 HB.out)
        clear hb4 c0 c1 c2 c3 c4 c5 c6
        go_wp2
        go_ret
        exact ⟨ret_bool HX.out.symm, HB4.out⟩
    · have hlt' : ¬ (k : Int) < (l.length : Int) := by omega
      have HX := Lib.hid (HY.out (by have := HG.out; rw [List.take_of_length_le (by omega)] at this; exact this))
      go_wp2
      go_ret
      exact ⟨ret_bool HX.out.symm, HB.out⟩
end Go.Proofs.Ytmapkmjhpebcbaa
