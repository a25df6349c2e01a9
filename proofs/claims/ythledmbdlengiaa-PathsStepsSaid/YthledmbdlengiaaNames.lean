/-
  What namesOf answers: the names of any path. The only condition is that a path has a million bytes at most.
-/
import Derived.Test.YthledmbdlengiaaSteps
import Derived.Laws.IdiomStrings
import Derived.Deep.Onto
namespace Go.Proofs.Ythledmbdlengiaa
open Go Go.RowKit

/-- The first k names. -/
def nam (p : ByteArray) (k : Nat) : List ByteArray := ((sps (tl p)).take k).map fun x => bA (((tl p).take x.2).drop x.1)
theorem nam_snoc {p : ByteArray} {k a b : Nat} (h : (sps (tl p))[k]? = some (a, b)) : nam p (k + 1) = nam p k ++ [bA (((tl p).take b).drop a)] := by
  rw [nam, take_snoc' h, List.map_append]
  rfl
theorem nam_len {p : ByteArray} {k : Nat} (h : k ≤ (sps (tl p)).length) : (nam p k).length = k := by rw [nam, List.length_map, List.length_take]; omega
theorem nam_all (p : ByteArray) : nam p (sps (tl p)).length = bAs (nms (tl p)) := by
  rw [nam, List.take_length, bAs, ← sps_names, List.map_map]
  rfl
/-- A slice of bytes that reads as a text's, with its room. -/
def BufR (w : World) (v : Value) (p : ByteArray) : Prop := ∃ g c, v = .slice (some ⟨g, 0, none⟩) p.size c ∧ p.size ≤ c ∧ ∀ (k : Nat) (b : UInt8), (tl p)[k]? = some b → w.cell? ⟨g, k, none⟩ = some (.int .u8 (b.toNat : Int))
theorem BufR.below {w w' : World} {v : Value} {p : ByteArray} (h : BufR w v p) (hb : Below w.heap.size w w') : BufR w' v p := by
  obtain ⟨g, c, hv, hle, hc⟩ := h
  exact ⟨g, c, hv, hle, fun k b hk => bc hb (hc k b hk)⟩
/-- '[]byte(s)'. -/
theorem bytes_run (w : World) (s : ByteArray) : ∃ v w', (convert 9 32 (.string s)).run Try.prog w = .ok v w' ∧ BufR w' v s ∧ Below w.heap.size w w' := by
  refine ⟨_, _, run_bytes_of_string w 9 32 5 s Try.underlying9 Try.underlying32 Try.underlying5, ⟨_, _, rfl, ?_, ?_⟩, ?_⟩
  · exact grownCap_ge _ _ _ _
  · intro k b hk
    have hlt : k < s.size := by rw [← tl_len]; exact (List.getElem?_eq_some_iff.1 hk).1
    rw [tl_at hlt] at hk
    injection hk with hk
    have := World.cell?_alloc_mark w.drew (bytesRow s (grownCap w s.size 0 5)) 5 ((bytesRow s (grownCap w s.size 0 5)).size, (bytesRow s (grownCap w s.size 0 5)).size + 1) k
    refine this.trans ?_
    unfold bytesRow
    rw [Array.getElem?_append_left (by simpa using hlt), Array.getElem?_map, ← hk]
    have h2 : s.data[k]? = some s[k] := by rw [← Array.getElem?_toList]; exact tl_at hlt
    rw [h2]
    rfl
  · exact (Below.refl _ _).drew.alloc (Nat.le_refl _) _
/-- 'string(b[i:j:j])' of such bytes. -/
theorem part_run {w : World} {g c a b : Nat} {p : ByteArray} (h : BufR w (.slice (some ⟨g, 0, none⟩) p.size c) p) (hb : b ≤ p.size) : (convert 32 9 (.slice (some ⟨g, a, none⟩) (b - a) (b - a))).run Try.prog w = .ok (.string (bA (((tl p).take b).drop a))) w := by
  obtain ⟨g', c', hv, -, hc⟩ := h
  injection hv with hA
  injection hA with hA
  injection hA with hg
  subst hg
  have hl : (((tl p).take b).drop a).length = b - a := by rw [List.length_drop, List.length_take, tl_len]; omega
  have h := run_convert_bytes_back (P := Try.prog) w 32 9 5 ⟨g, a, none⟩ (b - a) (((tl p).take b).drop a) Try.underlying32 Try.underlying5 Try.underlying9 (by
    intro j hj
    rw [hl] at hj
    rw [Addr.add_lit]
    refine hc (a + j) _ ?_
    rw [List.getElem_drop, List.getElem_take]
    exact List.getElem?_eq_getElem _)
  rw [hl] at h
  exact h
set_option maxRecDepth 100000 in
set_option maxHeartbeats 8000000 in
theorem names_any (p : ByteArray) (w : World) (hp : p.size ≤ 1000000) :
    Calls Try.prog 25 #[.string p] w fun e w' => ∃ v, e = .returned v ∧ w'.ownsRow w.heap.size 9 1 v (bAs (nms (tl p))).length (sCells (bAs (nms (tl p)))) ∧ Below w.heap.size w w' := by
  obtain ⟨vs, ws, hrun, hbuf, hbs⟩ := bytes_run w p
  have HBS := Lib.hid hbs
  have HBUF := Lib.hid hbuf
  have HS := Lib.hid (spans_any p ws hp)
  have hsl := sps_len (tl p)
  rw [tl_len] at hsl
  have HP0 := Lib.hid (show nam p 0 = [] from rfl)
  clear hbs
  obtain ⟨g, cg, rfl, hcg, -⟩ := hbuf
  go_enter Try.func25, Try.ntmps25
  go_wp2_with fail
  refine HS.out.mono ?_
  rintro e W ⟨v, rfl, hsp, hb⟩
  obtain ⟨A, c, rfl, hc⟩ := hsp
  have HC := Lib.hid hc
  have HB := Lib.hid (bt hb HBS.out)
  have HBUFW := Lib.hid (HBUF.out.below hb)
  clear hc hb HS
  go_wp2
  go_loopg [4, 12] (sps (tl p)).length (fun gh s4 s12 wr => ∃ (k : Nat), s12 = .int .i64 k ∧ k ≤ (sps (tl p)).length ∧ gh = (sps (tl p)).length - k ∧ wr.ownsRow W.heap.size 9 1 s4 (nam p k).length (sCells (nam p k)) ∧ Below W.heap.size W wr)
  case atStart => exact ⟨0, rfl, Nat.zero_le _, rfl, by rw [HP0.out]; exact own_nil_str _, Below.refl _ _⟩
  case round =>
    obtain ⟨k, rfl, hk, rfl, ho, hbr⟩ := hrel
    obtain ⟨vl, rfl⟩ : ∃ vl, vl = u4 := ⟨_, rfl⟩
    have HO := Lib.hid ho
    have HBR := Lib.hid hbr
    have hB0 := hbr.size
    clear ho hbr
    have hln := nam_len hk
    by_cases hlt : k < (sps (tl p)).length
    · obtain ⟨⟨a, b⟩, hx⟩ : ∃ x, (sps (tl p))[k]? = some x := ⟨_, List.getElem?_eq_getElem hlt⟩
      obtain ⟨ad, rfl, c0, c1⟩ := HC.out k _ hx
      have e0 := bc HBR.out c0
      have e1 := bc HBR.out c1
      have hbd := sps_bd hx
      rw [tl_len] at hbd
      have HN := Lib.hid (nam_snoc hx)
      clear c0 c1 hx
      obtain ⟨ha, hb⟩ := hbd
      have ha' : (a : Int) ≤ (b : Int) := by omega
      have hb' : (b : Int) ≤ (cg : Int) := by omega
      have HZ := Lib.hid (show (wr.alloc (.cells #[.int .i64 (a : Int), .int .i64 (b : Int)] 41)).heap.size = wr.heap.size + 1 by simp)
      have HOA := Lib.hid (HO.out.alloc (.cells #[.int .i64 (a : Int), .int .i64 (b : Int)] 41))
      have HBA := Lib.hid (HBR.out.alloc hB0 (.cells #[.int .i64 (a : Int), .int .i64 (b : Int)] 41))
      have hcv := part_run (a := a) (HBUFW.out.below HBA.out) hb
      obtain ⟨X, hX⟩ : ∃ X, bA (((tl p).take b).drop a) = X := ⟨_, rfl⟩
      rw [hX] at hcv HN
      clear hX
      go_wp2_with (at_builtin; refine wpList_append_one rfl (.tmp 16) (.tmp 26) _ rfl W.heap.size 9 _ 1 16 Try.underlying23 info_str rfl (by decide) vl (nam p k).length (sCells (nam p k)) rfl (wr.alloc (.cells #[.int .i64 (a : Int), .int .i64 (b : Int)] 41)) [.string X] rfl (str_one _) HOA.out (by rw [HZ.out]; rfl) (by omega) (by omega) HBA.out.size ?_; intro v5 w5 ho hg; obtain ⟨A5, c5, hv5, ho5, hb5⟩ := app_one HBA.out HBA.out.size HOA.out ho hg; subst hv5; have HO5 := Lib.hid ho5; have HB5 := Lib.hid hb5; clear ho hg ho5 hb5)
      go_roundg ((sps (tl p)).length - (k + 1))
      case measure => omega
      case rel => exact ⟨k + 1, by go_num, by omega, rfl, by have h := HO5.out; rw [hln] at h; rw [HN.out]; exact h, HB5.out⟩
    · have HR := Lib.hid (show wr.ownsRow w.heap.size 9 1 vl (bAs (nms (tl p))).length (sCells (bAs (nms (tl p)))) by
        rw [← nam_all, show (sps (tl p)).length = k by omega]
        exact HO.out.mono HB.out.size)
      go_wp2
      go_ret
      exact ⟨_, rfl, HR.out, bt HBR.out HB.out⟩
end Go.Proofs.Ythledmbdlengiaa
