/-
  Bytes that are made and copied; the program's ReadAt. The conditions are said at each.
-/
import Derived.Test.YtfopnfgfoicidaaGreatGtC
import Derived.Test.YtfopnfgfoicidaaGreatFiC
import Derived.Test.YtfopnfgfoicidaaGreatWA
import Derived.Laws.IdiomCopy
import Derived.Laws.OwnMore
namespace Go.Proofs.YtfopnfgfoicidaaGreat
open Go Go.RowKit
set_option maxRecDepth 100000

/-- New bytes, all of them 0. -/
theorem make_zero (n : Nat) (hn : n ≤ 1000000) (w : World) : (Instr.makeSlice 43 (.int .i64 (n : Int)) (.int .i64 (n : Int))).run Tryz.prog w = .ok (.slice (some ⟨w.heap.size, 0, none⟩) n n) (w.alloc (.cells (bCells (List.replicate n 0)).toArray 5)) := by
  obtain ⟨i, hi0, hz0, hz1, hz2⟩ := info_parts info_u8
  have h := run_make (P := Tryz.prog) w 43 5 i _ Tryz.underlying43 hi0 hz0 .i64 .i64 n n (by omega) (Int.le_refl _) (by rw [hz2]; omega) (by omega)
  simp only [Int.toNat_natCast, hz1, Nat.mul_one] at h
  have e : madeCells (Value.int .u8 0).cells n = (bCells (List.replicate n 0)).toArray := by
    have h1 := toList_madeCells_one (.int .u8 0) n
    have h2 : bCells (List.replicate n 0) = List.replicate n (.int .u8 0) := by unfold bCells; rw [List.map_replicate]; rfl
    rw [h2, ← h1]
    simp [Value.cells]
  rw [e] at h
  exact h
/-- A row of bytes that is known whole. -/
def RowB (W : World) (g : Nat) (L : List UInt8) : Prop := Blk W g 5 (bCells L).toArray
theorem RowB.bytesT {W : World} {g : Nat} {L : List UInt8} (h : RowB W g L) {n c : Nat} (hn : L.length = n) : BytesT W (.slice (some ⟨g, 0, none⟩) n c) L := by
  subst hn
  refine ⟨⟨_, _, rfl, fun k x hk => ⟨_, rfl, ?_⟩⟩, fun ad n c hv => ?_⟩
  · have h1 := Blk.cell h k
    have e : (bCells L).toArray[k]? = some (.int .u8 (co x)) := by simpa using bCells_at L k x hk
    rw [e] at h1
    have e2 : (⟨g, 0, none⟩ : Addr).add k = ⟨g, k, none⟩ := by unfold Addr.add; by_cases hk : k = 0 <;> simp [hk]
    rw [e2]
    exact h1
  · injection hv with hA
    injection hA with hA
    subst hA
    exact ⟨_, h⟩
/-- copy of bytes into a row, from a place on. -/
theorem copy_bytes {W : World} {g o dl dc m c : Nat} {A : Option Addr} {S L : List UInt8} (hk : RowB W g L) (hS : BytesR W (.slice A m c) S) {k : Nat} (hkk : Nat.min m dl = k) (hfit : o + k ≤ L.length) :
    ∃ W', (Builtin.copy_ #[43, 43] 3 #[.slice (some ⟨g, o, none⟩) dl dc, .slice A m c]).run Tryz.prog W = .ok (goInt k) W' ∧ RowB W' g (L.take o ++ S.take k ++ L.drop (o + k)) ∧ W.grownBy W' (some g) := by
  have hm := bytes_len hS
  have hkm : k ≤ m := by rw [← hkk]; exact Nat.min_le_left _ _
  by_cases h0 : k = 0
  · subst h0
    refine ⟨W, run_copy_none W _ _ _ 5 _ _ _ _ _ _ Tryz.underlying43 size_u8 hkk, ?_, ⟨rfl, rfl, rfl, Nat.le_refl _, fun _ _ _ => rfl⟩⟩
    rw [List.take_zero, List.append_nil, Nat.add_zero, List.take_append_drop]
    exact hk
  · have hlt : 0 < S.length := by omega
    obtain ⟨ad, rfl, -⟩ := bytes_get hS (List.getElem?_eq_getElem hlt)
    have hln : (bCells (S.take k)).length = k := by rw [bCells_len, List.length_take]; omega
    have hcp := run_copy_rowK (P := Tryz.prog) W 43 43 3 5 g o dl dc ad m c _ _ (bCells (S.take k)) 1 Tryz.underlying43 size_u8 hk (by rw [hln, hkk, Nat.mul_one]) (fun j v hj => bytes_src hS j v (by
      have hj2 : j < k := by have := (List.getElem?_eq_some_iff.1 hj).1; omega
      rw [← hj]
      unfold bCells
      rw [List.getElem?_map, List.getElem?_map, List.getElem?_take_of_lt hj2])) (by rw [hln, List.size_toArray, bCells_len]; exact hfit) (bCells_one _)
    rw [hkk] at hcp
    refine ⟨_, hcp, ?_, grown_setRow _ _ _⟩
    have e : (bCells L).toArray.toList.take o ++ bCells (S.take k) ++ (bCells L).toArray.toList.drop (o + (bCells (S.take k)).length) = bCells (L.take o ++ S.take k ++ L.drop (o + k)) := by
      rw [hln]
      simp [bCells, List.map_take, List.map_drop]
    rw [e]
    exact blk_setRow hk
theorem size_bt (w : World) : (sizeOf (Tryz.prog.elem 43)).run Tryz.prog w = .ok 1 w := by kernel_rfl
theorem at_twoA (ad : Addr) (n k : Nat) : (ad.add (n * 1)).add k = ad.add (n + k) := by rw [Nat.mul_one]; exact add_two ad n k
/-- The bytes behind the first n. -/
theorem tail_bytes {W : World} {A : Option Addr} {k : Nat} {b : List UInt8} (h : BytesR W (.slice A b.length k) b) {n : Nat} (hn : n ≤ b.length) (hk : b.length ≤ k) : ∃ A' k', (∀ w : World, (Instr.slice 43 (.slice A b.length k) (some (.int .i64 (n : Int))) none none).run Tryz.prog w = .ok (.slice A' (b.length - n) k') w) ∧ BytesR W (.slice A' (b.length - n) k') (b.drop n) := by
  refine ⟨if k = n then A else A.map (·.add (n * 1)), k - n, fun w => ?_, ?_⟩
  · rw [run_slice_l w _ _ _ _ (by kernel_rfl) .i64 (n : Int) (by omega) (by omega), size_bt]
    simp [Result.andThen, sliced]
  · have hl : (b.drop n).length = b.length - n := List.length_drop ..
    refine ⟨if k = n then A else A.map (·.add (n * 1)), k - n, by rw [hl], fun j x hj => ?_⟩
    have hlt : j < b.length - n := by have := (List.getElem?_eq_some_iff.1 hj).1; omega
    rw [List.getElem?_drop] at hj
    obtain ⟨ad, rfl, h0⟩ := bytes_get h hj
    rw [if_neg (by omega)]
    refine ⟨_, rfl, ?_⟩
    rw [at_twoA]
    exact h0
/-- A node that is read, cell by cell, where its lists lie, and that its bytes' room is no less than their number. -/
theorem get_formsC {v : Value} {t : List Nd} {W : World} (h : TabP W v t) (i : Int) (n : Nd) (q : Bool) (hn : tget t i = n) (hq : tis t i = q) : Calls Tryz.prog 21 #[v, .int .i64 i] W fun e w' => ∃ A1 c1 A2 c2, e = .returned (.tuple #[.agg #[.int .i64 n.kind, .int .i64 n.mode, .int .i64 n.uid, .int .i64 n.gid, .slice A1 n.data.length c1, .slice A2 n.ents.length c2, .string (bA n.target)], .bool q]) ∧ (BytesT w' (.slice A1 n.data.length c1) n.data ∧ EntsT w' (.slice A2 n.ents.length c2) n.ents ∧ (0 < n.data.length → n.data.length ≤ c1)) ∧ Below W.heap.size W w' := by
  refine (get_anyC v t i W h).mono ?_
  rintro e w' ⟨vd, ve, rfl, hd, he, hl, -, hb⟩
  rw [hn] at hd he ⊢
  rw [hq]
  obtain ⟨A1, c1, rfl⟩ := bytesT_form hd
  obtain ⟨A2, c2, rfl⟩ := entsT_form he
  refine ⟨_, _, _, _, rfl, ⟨hd, he, fun h0 => ?_⟩, hb⟩
  obtain ⟨ad, rfl, -⟩ := bytes_get hd.1 (List.getElem?_eq_getElem h0)
  exact (hl ad _ _ rfl).2
end Go.Proofs.YtfopnfgfoicidaaGreat
