/-
  A list that is copied, and a node whose lists are: copiedList at its two types, and copied. The condition: no list is longer than a million.
-/
import Derived.Test.YtibmnafnandodaaPlace
namespace Go.Proofs.Ytibmnafnandodaa
open Go Go.RowKit

/-- copy of elements of several cells each, into a row that is known whole. -/
theorem run_copy_rowK {P : Program} (w : World) (dT sT ty elem : TypeId) (g o dLen dCap : Nat) (a : Addr) (sLen sCap : Nat) (cur : Array Value) (t : TypeId) (cs : List Value) (size : Nat)
    (hu : P.underlying dT = some (.slice elem)) (hs : (P.info? elem).map (·.size) = some size)
    (hg : w.heap[g]? = some (.cells cur t (0, 0))) (hn : cs.length = Nat.min sLen dLen * size)
    (hsrc : ∀ j v, cs[j]? = some v → w.cell? (a.add j) = some v) (hfit : o + cs.length ≤ cur.size) (h1 : ∀ v ∈ cs, v.oneCell' = true) :
    (Builtin.copy_ #[dT, sT] ty #[.slice (some ⟨g, o, none⟩) dLen dCap, .slice (some a) sLen sCap]).run P w =
      .ok (goInt (Nat.min sLen dLen)) (w.setRow g (cur.toList.take o ++ cs ++ cur.toList.drop (o + cs.length)).toArray) := by
  have hl := run_loadCells_list (P := P) w a cs hsrc
  have hst := run_storeCells_at P g o t cs 0 cur w hg (by simpa using hfit) h1
  cases hq : P.info? elem with
  | none => simp [hq] at hs
  | some i =>
    have hi : i.size = size := by simpa [hq] using hs
    have hn' := hn
    rw [← hi] at hn'
    simp [Builtin.copy_, run_underlying hu, Builtin.lenOf, Builtin.firstCells, sizeOf, typeInfo, hq, ← hn', hl, hst]
theorem blk_setRow {w : World} {g : Nat} {t : TypeId} {cs ds : Array Value} (h : Blk w g t cs) : Blk (w.setRow g ds) g t ds := setRow_heap w g cs ds t (0, 0) h
theorem grown_setRow (w : World) (g : Nat) (ds : Array Value) : w.grownBy (w.setRow g ds) (some g) :=
  ⟨rfl, rfl, rfl, by simp [World.setRow], fun i _ hne => setRow_other w g i ds (fun e => hne (by rw [e]))⟩
theorem info_ent : (Try.prog.info? 49).map (fun i => (i.zero, i.size, i.bytes)) = some (some (.agg #[.string ⟨#[]⟩, .int .i64 0]), 2, 24) := by kernel_rfl
theorem info_u8 : (Try.prog.info? 5).map (fun i => (i.zero, i.size, i.bytes)) = some (some (.int .u8 0), 1, 1) := by kernel_rfl
theorem info_int : (Try.prog.info? 3).map (fun i => (i.zero, i.size, i.bytes)) = some (some (.int .i64 0), 1, 8) := by kernel_rfl
theorem size_ent : (Try.prog.info? 49).map (·.size) = some 2 := by kernel_rfl
theorem size_u8 : (Try.prog.info? 5).map (·.size) = some 1 := by kernel_rfl
theorem make_ents (n : Nat) (hn : n ≤ 1000000) (w : World) : ∃ cs : Array Value, cs.size = n * 2 ∧ (Instr.makeSlice 23 (.int .i64 (n : Int)) (.int .i64 (n : Int))).run Try.prog w = .ok (.slice (some ⟨w.heap.size, 0, none⟩) n n) (w.alloc (.cells cs 49)) := by
  obtain ⟨i, hi0, hz0, hz1, hz2⟩ := info_parts info_ent
  have h := run_make (P := Try.prog) w 23 49 i _ Try.underlying23 hi0 hz0 .i64 .i64 n n (by omega) (Int.le_refl _) (by rw [hz2]; omega) (by omega)
  simp only [Int.toNat_natCast, hz1] at h
  exact ⟨_, size_madeCells _ _, h⟩
theorem make_bytes (n : Nat) (hn : n ≤ 1000000) (w : World) : ∃ cs : Array Value, cs.size = n ∧ (Instr.makeSlice 22 (.int .i64 (n : Int)) (.int .i64 (n : Int))).run Try.prog w = .ok (.slice (some ⟨w.heap.size, 0, none⟩) n n) (w.alloc (.cells cs 5)) := by
  obtain ⟨i, hi0, hz0, hz1, hz2⟩ := info_parts info_u8
  have h := run_make (P := Try.prog) w 22 5 i _ Try.underlying22 hi0 hz0 .i64 .i64 n n (by omega) (Int.le_refl _) (by rw [hz2]; omega) (by omega)
  simp only [Int.toNat_natCast, hz1, Nat.mul_one] at h
  exact ⟨_, size_madeCells _ _, h⟩
theorem row_whole {cur : Array Value} {cs : List Value} (h : cs.length = cur.size) : (cur.toList.take 0 ++ cs ++ cur.toList.drop (0 + cs.length)) = cs := by
  rw [List.take_zero, List.nil_append, List.drop_eq_nil_of_le (by simp; omega), List.append_nil]
set_option maxRecDepth 100000 in
theorem copyE_any (v : Value) (l : List En) (w : World) (hR : EntsR w v l) (hn : l.length ≤ 1000000) :
    Calls Try.prog 39 #[v] w fun e w' => ∃ v', e = .returned v' ∧ EntsX w' w.heap.size v' l ∧ Below w.heap.size w w' := by
  obtain ⟨A, c, rfl⟩ := ents_form hR rfl
  cases l with
  | nil =>
    clear hR
    simp only [List.length_nil]
    go_enter Try.func39, Try.ntmps39
    go_wp2
    go_ret
    exact ⟨_, rfl, .inl ⟨rfl, rfl⟩, Below.refl _ _⟩
  | cons e r =>
    obtain ⟨L, hL⟩ : ∃ L, L = e :: r := ⟨_, rfl⟩
    rw [← hL] at hR hn ⊢
    obtain ⟨ad, rfl, -⟩ := ents_get hR (show L[0]? = some e by rw [hL]; rfl)
    have hp : 0 < L.length := by rw [hL]; simp
    clear hL
    obtain ⟨cs, hcs, hmk⟩ := make_ents L.length hn w
    obtain ⟨W1, hW1⟩ : ∃ W1, W1 = w.alloc (.cells cs 49) := ⟨_, rfl⟩
    have hB1 : Below w.heap.size w W1 := by rw [hW1]; exact ba _ _
    have hk1 : Blk W1 w.heap.size 49 cs := by rw [hW1]; exact Blk.new _ _ _
    rw [← hW1] at hmk
    have hcp := run_copy_rowK (P := Try.prog) W1 23 23 3 49 w.heap.size 0 L.length L.length ad L.length c cs _ (eCells L) 2 Try.underlying23 size_ent hk1 (by rw [eCells_len]; exact congrArg (· * 2) (Nat.min_self _).symm) (ents_src (hR.below hB1)) (by rw [eCells_len]; omega) (eCells_one L)
    rw [row_whole (by rw [eCells_len]; omega), show Nat.min L.length L.length = L.length from Nat.min_self _] at hcp
    have HE := Lib.hid (show EntsX (W1.setRow w.heap.size (eCells L).toArray) w.heap.size (.slice (some ⟨w.heap.size, 0, none⟩) L.length L.length) L from .inr ⟨_, Nat.le_refl _, rfl, hp, blk_setRow hk1⟩)
    have HB := Lib.hid (show Below w.heap.size w (W1.setRow w.heap.size (eCells L).toArray) from below_setRow hB1 (Nat.le_refl _) _)
    have hz : ((L.length : Int) == 0) = false := by rw [beq_eq_false_iff_ne]; omega
    clear hW1 hB1 hk1 hR hcs hp
    generalize W1.setRow w.heap.size (eCells L).toArray = W2 at hcp HE HB
    go_enter Try.func39, Try.ntmps39
    go_wp2
    go_ret
    exact ⟨_, rfl, HE.out, HB.out⟩
set_option maxRecDepth 100000 in
theorem copyB_any (v : Value) (l : List UInt8) (w : World) (hR : BytesR w v l) (hn : l.length ≤ 1000000) :
    Calls Try.prog 38 #[v] w fun e w' => ∃ v', e = .returned v' ∧ BytesX w' w.heap.size v' l ∧ Below w.heap.size w w' := by
  obtain ⟨A, c, rfl⟩ := bytes_form hR rfl
  cases l with
  | nil =>
    clear hR
    simp only [List.length_nil]
    go_enter Try.func38, Try.ntmps38
    go_wp2
    go_ret
    exact ⟨_, rfl, .inl ⟨rfl, rfl⟩, Below.refl _ _⟩
  | cons e r =>
    obtain ⟨L, hL⟩ : ∃ L, L = e :: r := ⟨_, rfl⟩
    rw [← hL] at hR hn ⊢
    obtain ⟨ad, rfl, -⟩ := bytes_get hR (show L[0]? = some e by rw [hL]; rfl)
    have hp : 0 < L.length := by rw [hL]; simp
    clear hL
    obtain ⟨cs, hcs, hmk⟩ := make_bytes L.length hn w
    obtain ⟨W1, hW1⟩ : ∃ W1, W1 = w.alloc (.cells cs 5) := ⟨_, rfl⟩
    have hB1 : Below w.heap.size w W1 := by rw [hW1]; exact ba _ _
    have hk1 : Blk W1 w.heap.size 5 cs := by rw [hW1]; exact Blk.new _ _ _
    rw [← hW1] at hmk
    have hcp := run_copy_rowK (P := Try.prog) W1 22 22 3 5 w.heap.size 0 L.length L.length ad L.length c cs _ (bCells L) 1 Try.underlying22 size_u8 hk1 (by rw [bCells_len, Nat.mul_one]; exact (Nat.min_self _).symm) (bytes_src (hR.below hB1)) (by rw [bCells_len]; omega) (bCells_one L)
    rw [row_whole (by rw [bCells_len]; omega), show Nat.min L.length L.length = L.length from Nat.min_self _] at hcp
    have HE := Lib.hid (show BytesX (W1.setRow w.heap.size (bCells L).toArray) w.heap.size (.slice (some ⟨w.heap.size, 0, none⟩) L.length L.length) L from .inr ⟨_, Nat.le_refl _, rfl, blk_setRow hk1⟩)
    have HB := Lib.hid (show Below w.heap.size w (W1.setRow w.heap.size (bCells L).toArray) from below_setRow hB1 (Nat.le_refl _) _)
    have hz : ((L.length : Int) == 0) = false := by rw [beq_eq_false_iff_ne]; omega
    clear hW1 hB1 hk1 hR hcs hp
    generalize W1.setRow w.heap.size (bCells L).toArray = W2 at hcp HE HB
    go_enter Try.func38, Try.ntmps38
    go_wp2
    go_ret
    exact ⟨_, rfl, HE.out, HB.out⟩
end Go.Proofs.Ytibmnafnandodaa
