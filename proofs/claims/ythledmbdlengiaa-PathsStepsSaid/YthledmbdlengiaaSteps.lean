/-
  What Steps answers: the beginnings of any path. The only condition is that a path has a million bytes at most.
-/
import Derived.Test.YthledmbdlengiaaSpans
namespace Go.Proofs.Ythledmbdlengiaa
open Go Go.RowKit

/-- Lists of bytes as texts. -/
def bAs (l : List (List UInt8)) : List ByteArray := l.map bA
theorem bAs_len (l : List (List UInt8)) : (bAs l).length = l.length := by rw [bAs, List.length_map]
theorem bAs_at {l : List (List UInt8)} {k : Nat} {x : List UInt8} (h : l[k]? = some x) : (bAs l)[k]? = some (bA x) := by rw [bAs, List.getElem?_map, h]; rfl
/-- The first k beginnings. -/
def pre (p : ByteArray) (k : Nat) : List ByteArray := ((sps (tl p)).take k).map fun x => p.extract 0 x.2
theorem pre_snoc {p : ByteArray} {k a b : Nat} (h : (sps (tl p))[k]? = some (a, b)) : pre p (k + 1) = pre p k ++ [p.extract 0 b] := by
  rw [pre, take_snoc' h, List.map_append]
  rfl
theorem pre_len {p : ByteArray} {k : Nat} (h : k ≤ (sps (tl p)).length) : (pre p k).length = k := by rw [pre, List.length_map, List.length_take]; omega
theorem pre_all (p : ByteArray) : pre p (sps (tl p)).length = bAs (stp (tl p)) := by
  rw [pre, List.take_length, bAs, ← sps_steps, List.map_map]
  apply List.map_congr_left
  intro x _
  exact pre_bA p x.2
set_option maxRecDepth 100000 in
set_option maxHeartbeats 8000000 in
theorem steps_any (p : ByteArray) (w : World) (hp : p.size ≤ 1000000) :
    Calls Try.prog 16 #[.string p] w fun e w' => ∃ v, e = .returned v ∧ StrsR w' v (bAs (stp (tl p))) ∧ Below w.heap.size w w' := by
  have HS := Lib.hid (spans_any p w hp)
  have hsl := sps_len (tl p)
  rw [tl_len] at hsl
  have HP0 := Lib.hid (show pre p 0 = [] from rfl)
  go_enter Try.func16, Try.ntmps16
  go_wp2_with fail
  refine HS.out.mono ?_
  rintro e W ⟨v, rfl, hsp, hb⟩
  obtain ⟨A, c, rfl, hc⟩ := hsp
  have HC := Lib.hid hc
  have HB := Lib.hid hb
  clear hc hb HS
  go_wp2
  go_loopg [3, 9] (sps (tl p)).length (fun gh s3 s9 wr => ∃ (k : Nat), s9 = .int .i64 k ∧ k ≤ (sps (tl p)).length ∧ gh = (sps (tl p)).length - k ∧ wr.ownsRow W.heap.size 9 1 s3 (pre p k).length (sCells (pre p k)) ∧ Below W.heap.size W wr)
  case atStart => exact ⟨0, rfl, Nat.zero_le _, rfl, by rw [HP0.out]; exact own_nil_str _, Below.refl _ _⟩
  case round =>
    obtain ⟨k, rfl, hk, rfl, ho, hbr⟩ := hrel
    obtain ⟨vl, rfl⟩ : ∃ vl, vl = u3 := ⟨_, rfl⟩
    have HO := Lib.hid ho
    have HBR := Lib.hid hbr
    have hB0 := hbr.size
    clear ho hbr
    have hln := pre_len hk
    by_cases hlt : k < (sps (tl p)).length
    · obtain ⟨⟨a, b⟩, hx⟩ : ∃ x, (sps (tl p))[k]? = some x := ⟨_, List.getElem?_eq_getElem hlt⟩
      obtain ⟨ad, rfl, c0, c1⟩ := HC.out k _ hx
      have e0 := bc HBR.out c0
      have e1 := bc HBR.out c1
      have hbd := sps_bd hx
      rw [tl_len] at hbd
      have HN := Lib.hid (pre_snoc hx)
      clear c0 c1 hx
      obtain ⟨ha, hb⟩ := hbd
      have HZ := Lib.hid (show (wr.alloc (.cells #[.int .i64 (a : Int), .int .i64 (b : Int)] 41)).heap.size = wr.heap.size + 1 by simp)
      have HOA := Lib.hid (HO.out.alloc (.cells #[.int .i64 (a : Int), .int .i64 (b : Int)] 41))
      have HBA := Lib.hid (HBR.out.alloc hB0 (.cells #[.int .i64 (a : Int), .int .i64 (b : Int)] 41))
      go_wp2_with (at_builtin; refine wpList_append_one rfl (.tmp 13) (.tmp 18) _ rfl W.heap.size 9 _ 1 16 Try.underlying23 info_str rfl (by decide) vl (pre p k).length (sCells (pre p k)) rfl (wr.alloc (.cells #[.int .i64 (a : Int), .int .i64 (b : Int)] 41)) [.string (p.extract 0 b)] rfl (str_one _) HOA.out (by rw [HZ.out]; rfl) (by omega) (by omega) HBA.out.size ?_; intro v5 w5 ho hg; obtain ⟨A5, c5, hv5, ho5, hb5⟩ := app_one HBA.out HBA.out.size HOA.out ho hg; subst hv5; have HO5 := Lib.hid ho5; have HB5 := Lib.hid hb5; clear ho hg ho5 hb5)
      go_roundg ((sps (tl p)).length - (k + 1))
      case measure => omega
      case rel => exact ⟨k + 1, by go_num, by omega, rfl, by have h := HO5.out; rw [hln] at h; rw [HN.out]; exact h, HB5.out⟩
    · have HR := Lib.hid (show StrsR wr vl (bAs (stp (tl p))) by
        rw [← pre_all, show (sps (tl p)).length = k by omega]
        exact StrsR.of_own HO.out)
      go_wp2
      go_ret
      exact ⟨_, rfl, HR.out, bt HBR.out HB.out⟩
end Go.Proofs.Ythledmbdlengiaa
