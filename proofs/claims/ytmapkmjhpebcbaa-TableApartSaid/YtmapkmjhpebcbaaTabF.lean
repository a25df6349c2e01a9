/-
  A table like another one: Clone. No condition.
-/
import Derived.Test.YtmapkmjhpebcbaaTabE
namespace Go.Proofs.Ytmapkmjhpebcbaa
open Go Go.RowKit

attribute [local go_sem] cell_off4 cell_blk4
/-- A table's first nodes, and then none. -/
def upT (t : List Nd) (k : Nat) : List Nd := t.take k ++ List.replicate (t.length - k) Nd.zero
theorem len_upT {t : List Nd} {k : Nat} (h : k ≤ t.length) : (upT t k).length = t.length := by
  unfold upT
  rw [List.length_append, List.length_take, List.length_replicate]
  omega
theorem upT_zero (t : List Nd) : upT t 0 = List.replicate t.length Nd.zero := by unfold upT; simp
theorem upT_all (t : List Nd) : upT t t.length = t := by unfold upT; simp
theorem upT_set {t : List Nd} {k : Nat} {n : Nd} (h : t[k]? = some n) : (upT t k).set k n = upT t (k + 1) := by
  have hlt : k < t.length := (List.getElem?_eq_some_iff.1 h).1
  unfold upT
  rw [List.set_append_right _ _ (by rw [List.length_take]; omega), take_snoc' h, List.length_take, show k - min k t.length = 0 by omega, show t.length - k = (t.length - (k + 1)) + 1 by omega, List.replicate_succ, List.set_cons_zero, List.append_assoc]
  rfl
set_option maxRecDepth 100000 in
set_option maxHeartbeats 4000000 in
theorem clone_nil (w : World) : Calls Try.prog 30 #[.pointer none] w fun e w' => e = .returned (.pointer none) ∧ Below w.heap.size w w' := by
  have HB := Lib.hid (Below.refl w.heap.size w)
  go_enter Try.func30, Try.ntmps30
  go_wp2
  go_ret
  exact ⟨rfl, HB.out⟩
theorem mem_fewC {t : List Nd} (h : okT t) {n : Nd} (hn : n ∈ t) : Few n := by
  rcases h n hn with q | q
  · rw [q]; exact zero_few
  · exact right_few q
theorem clone_end {w w5 : World} {k : Nat} {t : List Nd} {Q : Nat → Prop} {n : Nd} {vd ve : Value} (h : TabR w5 w.heap.size (upT t k) Q) (hn : t[k]? = some n) (ho : okT t) (hd : BytesT w5 vd n.data) (he : EntsT w5 ve n.ents) (hpd : LP Q vd) (hpe : LP Q ve) (hb : Below w.heap.size w w5) :
    TabR (putA w5 w.heap.size (1 + k * 7) (.int .i64 n.kind) (.int .i64 n.mode) (.int .i64 n.uid) (.int .i64 n.gid) vd ve (.string (bA n.target))) w.heap.size (upT t (k + 1)) Q ∧ Below w.heap.size w (putA w5 w.heap.size (1 + k * 7) (.int .i64 n.kind) (.int .i64 n.mode) (.int .i64 n.uid) (.int .i64 n.gid) vd ve (.string (bA n.target))) := by
  have hlt : k < t.length := (List.getElem?_eq_some_iff.1 hn).1
  have h1 := h.put (k := k) (n := n) (vd := vd) (ve := ve) (by rw [len_upT (by omega)]; exact hlt) (ho n (List.mem_of_getElem? hn)) hd he hpd hpe
  rw [upT_set hn] at h1
  exact ⟨h1, below_grown hb (grownA _ _ _ _ _ _ _ _ _ _) (Nat.le_refl _)⟩
set_option maxRecDepth 100000 in
set_option maxHeartbeats 8000000 in
theorem clone_any (g : Nat) (t : List Nd) (P Q : Nat → Prop) (w : World) (h : TabR w g t P) (hQ : ∀ b, w.heap.size ≤ b → Q b) :
    Calls Try.prog 30 #[.pointer (some ⟨g, 0, none⟩)] w fun e w' => e = .returned (.pointer (some ⟨w.heap.size, 0, none⟩)) ∧ TabR w' w.heap.size t Q ∧ Below w.heap.size w w' := by
  have h0 := h.room
  have hlo := h.lo
  have hhi := h.hi
  have hgl := h.lt
  have HT := Lib.hid h
  have HQ := Lib.hid hQ
  have HN := Lib.hid (tab_new w t.length hlo hhi Q)
  have HB1 := Lib.hid (ba w (.cells (Try.zeroCells79.setIfInBounds 0 (.int .i64 (t.length : Int))) 79))
  have hr1 := bc HB1.out h0
  clear h hQ
  go_enter Try.func30, Try.ntmps30
  go_wp2
  go_loopg [17] t.length (fun gh s17 wr => ∃ k : Nat, s17 = .int .i64 k ∧ k ≤ t.length ∧ gh = t.length - k ∧ TabR wr w.heap.size (upT t k) Q ∧ Below w.heap.size w wr)
  case atStart => exact ⟨0, rfl, Nat.zero_le _, rfl, by rw [upT_zero]; exact HN.out, HB1.out⟩
  case round =>
    obtain ⟨k, rfl, hk, rfl, ht, hbr⟩ := hrel
    have HTC := Lib.hid ht
    have HBR := Lib.hid hbr
    clear hbr ht
    by_cases hlt : k < t.length
    · have hlt' : (k : Int) < (t.length : Int) := by omega
      have hlt24 : (k : Int) < 24 := by omega
      have hlt25 : k < 24 := by omega
      obtain ⟨n, hn⟩ : ∃ n, t[k]? = some n := ⟨_, List.getElem?_eq_getElem hlt⟩
      have hTr := HT.out.below HBR.out
      obtain ⟨vd, ve, ⟨c0, c1, c2, c3, c4, c5, c6⟩, hd, he, -, -⟩ := hTr.node k n hn
      have HF := Lib.hid (mem_fewC HT.out.ok (List.mem_of_getElem? hn))
      obtain ⟨A1, k1, rfl⟩ := bytesT_form hd
      obtain ⟨A2, k2, rfl⟩ := entsT_form he
      have HBD := Lib.hid (show Below w.heap.size w wr.drew from bdN HBR.out 1)
      have HC := Lib.hid (copied_any n _ _ wr.drew (hd.1.below (Below.refl _ _).drew) (he.1.below (Below.refl _ _).drew) HF.out)
      have HNK := Lib.hid hn
      unfold nodeV at HC
      clear hn hTr hd he
      go_wp2
      go_region_with (go_at_call 41; refine HC.out.mono ?_; rintro e w5 ⟨vd5, ve5, rfl, hd5, he5, hl5, hm5, hb5⟩; have ht5 := (HTC.out.below (Below.refl _ _).drew).below hb5; obtain ⟨cs5, hk5, hs5⟩ := ht5.blk; obtain ⟨⟨x0, q0⟩, ⟨x1, q1⟩, ⟨x2, q2⟩, ⟨x3, q3⟩, ⟨x4, q4⟩, ⟨x5, q5⟩, ⟨x6, q6⟩⟩ := putA_there (o := 1 + k * 7) hk5 (by omega); obtain ⟨A5, k5, hv5⟩ := bytesT_form hd5; obtain ⟨A6, k6, hv6⟩ := entsT_form he5; subst hv5 hv6; have f5 := fun i => ht5.frozen i; have HT5 := Lib.hid ht5; have HD5 := Lib.hid hd5; have HE5 := Lib.hid he5; have HL5 := Lib.hid hl5; have HM5 := Lib.hid hm5; have HB5 := Lib.hid (bt hb5 HBD.out); clear hb5 ht5 hd5 he5 hl5 hm5 hk5 hs5)
      all_goals (
        have hS := clone_end HT5.out HNK.out HT.out.ok HD5.out HE5.out (HL5.out.mono (fun b hb => HQ.out b (Nat.le_trans HBD.out.size hb))) (HM5.out.mono (fun b hb => HQ.out b (Nat.le_trans HBD.out.size hb))) HB5.out
        unfold putA at hS
        have HS := Lib.hid hS
        clear hS q0 q1 q2 q3 q4 q5 q6 f5 c0 c1 c2 c3 c4 c5 c6
        go_wp2
        go_roundg (t.length - (k + 1))
        case measure => omega
        case rel => exact ⟨k + 1, by go_num, by omega, rfl, HS.out.1, HS.out.2⟩)
    · have hlt' : ¬ (k : Int) < (t.length : Int) := by omega
      have HTE := Lib.hid (show TabR wr w.heap.size t Q by have := HTC.out; rw [show k = t.length by omega, upT_all] at this; exact this)
      go_wp2
      go_ret
      exact ⟨rfl, HTE.out, HBR.out⟩
end Go.Proofs.Ytmapkmjhpebcbaa
