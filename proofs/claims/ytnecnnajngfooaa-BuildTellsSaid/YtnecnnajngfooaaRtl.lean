/-
  What is told as the model has it: told. The condition: what is told is short.
-/
import Derived.Test.YtnecnnajngfooaaMTr
import Derived.Test.YtnecnnajngfooaaTelP
namespace Go.Proofs.Ytnecnnajngfooaa
open Go Go.RowKit
set_option maxRecDepth 100000

attribute [local go_sem] cell_off4 cell_blk4
/-- The cells of what is told of a node, as the model has it. -/
abbrev rrC (r : Rw) : Array Value := #[.int .i64 r.kind, .int .i64 r.mode, .int .i64 r.uid, .int .i64 r.gid, .string (bA r.data), .slice none 0 0, .slice none 0 0, .string (bA r.target), .int .i64 r.parent, .string (bA r.name), .int .i64 r.node]
def xCells (l : List Rw) : List Value := l.flatMap (fun r => (rrC r).toList)
theorem xCells_snoc (l : List Rw) (r : Rw) : xCells l ++ (rrC r).toList = xCells (l ++ [r]) := by simp [xCells]
theorem xCells_len : ∀ l : List Rw, (xCells l).length = l.length * 11
  | [] => rfl
  | q :: l => by
    have ih := xCells_len l
    have e : xCells (q :: l) = (rrC q).toList ++ xCells l := rfl
    rw [e, List.length_append, ih, List.length_cons]
    show 11 + l.length * 11 = (l.length + 1) * 11
    omega
theorem xCells_at : ∀ (l : List Rw) (k j : Nat) (q : Rw), l[k]? = some q → j < 11 → (xCells l)[k * 11 + j]? = (rrC q).toList[j]?
  | [], k, j, q, h, _ => by simp at h
  | p :: l, 0, j, q, h, hj => by
    have : p = q := by simpa using h
    subst this
    have e : xCells (p :: l) = (rrC p).toList ++ xCells l := rfl
    rw [e, Nat.zero_mul, Nat.zero_add, List.getElem?_append_left (by show j < 11; exact hj)]
  | p :: l, k + 1, j, q, h, hj => by
    have e : xCells (p :: l) = (rrC p).toList ++ xCells l := rfl
    rw [e, List.getElem?_append_right (by show 11 ≤ _; omega)]
    have := xCells_at l k j q (by simpa using h) hj
    rw [← this]
    congr 1
    show (k + 1) * 11 + j - 11 = k * 11 + j
    omega
/-- A row of it, of the call's own. -/
def RsX (w : World) (B : Nat) (v : Value) (l : List Rw) : Prop := w.ownsRow B 84 11 v l.length (xCells l)
theorem rs_get {w : World} {B : Nat} {A : Option Addr} {n c : Nat} {l : List Rw} (h : RsX w B (.slice A n c) l) {k : Nat} {r : Rw} (hk : l[k]? = some r) : ∃ g, A = some ⟨g, 0, none⟩ ∧ B ≤ g ∧ ∀ j u, j < 11 → (rrC r).toList[j]? = some u → w.cell? ⟨g, k * 11 + j, none⟩ = some u := by
  obtain ⟨g, cap, hv, h1, -⟩ := World.ownsRow.form h (by have := (List.getElem?_eq_some_iff.1 hk).1; omega)
  injection hv with e1 e2 e3
  subst e1 e2 e3
  exact ⟨g, rfl, h1, fun j u hj hu => row_at h _ _ (by rw [xCells_at l k j r hk hj]; exact hu)⟩
theorem rs_form {w : World} {B : Nat} {v : Value} {l : List Rw} (h : RsX w B v l) : ∃ A c, v = .slice A l.length c := own_slice h
theorem info_rr : (Try.prog.info? 84).map (fun i => (i.size, i.bytes)) = some (11, 144) := by kernel_rfl
theorem info_rr' : (Try.prog.info? 84).map (fun i => (i.zero, i.size, i.bytes)) = some (some (.agg #[.int .i64 0, .int .i64 0, .int .i64 0, .int .i64 0, .string ⟨#[]⟩, .slice none 0 0, .slice none 0 0, .string ⟨#[]⟩, .int .i64 0, .string ⟨#[]⟩, .int .i64 0]), 11, 144) := by kernel_rfl
theorem rr_one (r : Rw) : ∀ u ∈ (rrC r).toList, u.oneCell' = true := by
  intro u hu
  simp only [List.mem_cons, List.not_mem_nil, or_false] at hu
  rcases hu with rfl | rfl | rfl | rfl | rfl | rfl | rfl | rfl | rfl | rfl | rfl <;> rfl
set_option maxHeartbeats 4000000 in
theorem told_any (v : Value) (l : List Rw) (w : World) (h : RawsR w v l) (hl : l.length ≤ 1000) :
    Calls Try.prog 44 #[v] w fun e w' => ∃ u, e = .returned u ∧ RsX w' w.heap.size u l ∧ Below w.heap.size w w' := by
  obtain ⟨A0, c0, rfl⟩ := raws_form h
  have HL := Lib.hid h
  clear h
  go_enter Try.func44, Try.ntmps44
  go_wp2
  go_loopg [3, 4] l.length (fun gh s3 s4 wr => ∃ (k : Nat) (A : Option Addr) (c : Nat), s3 = .slice A k c ∧ s4 = .int .i64 k ∧ k ≤ l.length ∧ gh = l.length - k ∧ RsX wr w.heap.size (.slice A k c) (l.take k) ∧ Below w.heap.size w wr)
  case atStart => exact ⟨0, none, 0, rfl, rfl, Nat.zero_le _, rfl, World.ownsRow_nil _ _ _ _, Below.refl _ _⟩
  case round =>
    obtain ⟨k, A, c, rfl, rfl, hk, rfl, hx, hbr⟩ := hrel
    have HX := Lib.hid hx
    have HB := Lib.hid hbr
    clear hx hbr
    by_cases hlt : k < l.length
    · have hlt' : (k : Int) < (l.length : Int) := by omega
      obtain ⟨r, hr⟩ : ∃ r, l[k]? = some r := ⟨_, List.getElem?_eq_getElem hlt⟩
      obtain ⟨ad, vd, hA, p0, ⟨p1, p2, p3, p4, p5, p6, p7, p8⟩, hd⟩ := raws_get (HL.out.below HB.out) hr
      subst hA
      obtain ⟨A1, k1, rfl⟩ := bytes_form hd rfl
      have HTK := Lib.hid (take_snoc' hr)
      have hbx := ba wr (.cells (rwC r (.slice A1 r.data.length k1)) 115)
      have hkr := Blk.new wr 115 (rwC r (.slice A1 r.data.length k1))
      have hcv := bytes_back (hd.below hbx)
      have hown : RsX (wr.alloc (.cells (rwC r (.slice A1 r.data.length k1)) 115)) w.heap.size (.slice A k c) (l.take k) := own_below HX.out hbx
      have hlk : (l.take k).length = k := by rw [List.length_take]; omega
      obtain ⟨W2, hW2⟩ : ∃ W2, wr.alloc (.cells (rwC r (.slice A1 r.data.length k1)) 115) = W2 := ⟨_, rfl⟩
      rw [hW2] at hkr hcv hown hbx
      have HB2 := Lib.hid (bt hbx HB.out)
      have HOWN := Lib.hid (show W2.ownsRow w.heap.size 84 11 (.slice A k c) k (xCells (l.take k)) by have h := hown; unfold RsX at h; rw [hlk] at h; exact h)
      have HLK := Lib.hid hlk
      obtain ⟨q0, q1, q2, q3, q4, q5, q6, q7, q8⟩ := hkr.c9
      clear hr hd hbx hkr hown HX hlk
      go_wp2_with (at_builtin; refine wpList_append_one rfl (.tmp 16) (.tmp 38) _ rfl w.heap.size 84 _ 11 144 Try.underlying76 info_rr' rfl (by decide) (.slice A k c) k (xCells (l.take k)) rfl W2 [.int .i64 r.kind, .int .i64 r.mode, .int .i64 r.uid, .int .i64 r.gid, .string (bA r.data), .slice none 0 0, .slice none 0 0, .string (bA r.target), .int .i64 r.parent, .string (bA r.name), .int .i64 r.node] rfl (rr_one r) HOWN.out rfl (by omega) (by omega) HB2.out.size ?_; intro v5 w5 ho hg; obtain ⟨A9, c9, hv9⟩ := own_slice ho; subst hv9; have HX5 := Lib.hid (show RsX w5 w.heap.size (.slice A9 (k + 1) c9) (l.take (k + 1)) by unfold RsX; rw [HTK.out, List.length_append, HLK.out]; have h := ho; rw [show xCells (l.take k) ++ _ = xCells (l.take k ++ [r]) from xCells_snoc _ r] at h; exact h); have HB5 := Lib.hid (HB2.out.grown hg HB2.out.size (fun q hq => (HOWN.out.lt q hq).1)); clear ho hg)
      go_roundg (l.length - (k + 1))
      case measure => omega
      case rel => exact ⟨k + 1, A9, c9, rfl, by go_num, by omega, rfl, HX5.out, HB5.out⟩
    · have hlt' : ¬ (k : Int) < (l.length : Int) := by omega
      have hke : l.take k = l := List.take_of_length_le (by omega)
      rw [hke] at HX
      clear hke
      go_wp2
      go_ret
      exact ⟨_, rfl, HX.out, HB.out⟩
end Go.Proofs.Ytnecnnajngfooaa
