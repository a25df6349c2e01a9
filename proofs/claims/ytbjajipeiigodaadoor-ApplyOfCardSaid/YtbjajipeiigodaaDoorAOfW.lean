/-
  The walk of ApplyOf: it answers true of every text, mode, kind and umask.
-/
import Derived.Test.YtbjajipeiigodaaDoorRRead
import Derived.Deep.RegionHeld3
namespace Go.Proofs.YtbjajipeiigodaaDoor
open Go Go.RowKit

theorem bc {W w1 : World} {a : Addr} {v : Value} (hb : Below W.heap.size W w1) (h : W.cell? a = some v) : w1.cell? a = some v := (hb.cell (World.block_lt_of_cell? _ _ h)).trans h
theorem bt {w W w1 : World} (hb : Below W.heap.size W w1) (h : Below w.heap.size w W) : Below w.heap.size w w1 := h.trans (hb.mono h.size)
theorem bz {W w1 : World} {n : Nat} (hb : Below W.heap.size W w1) (h : n < W.heap.size) : n < w1.heap.size := Nat.lt_of_lt_of_le h hb.size

theorem aof_far (s : ByteArray) (mode : Int) (dir : Bool) (u : Int) (w : World) (h1 : (200 : Int) < s.size) : Calls Tryd.prog 8 #[.string s, .int .i64 mode, .bool dir, .int .i64 u] w fun e w' => e = .returned (.bool true) ∧ Below w.heap.size w w' := by
  go_enter Tryd.func8, Tryd.ntmps8
  go_wp2_with fail
  refine (awake3_any _).mono ?_
  rintro e w1 ⟨rfl, hb1⟩
  have B1 := Lib.hid hb1
  clear hb1
  go_wp2
  go_ret
  exact ⟨rfl, B1.out⟩
set_option maxRecDepth 100000 in
set_option maxHeartbeats 4000000 in
theorem aof_bad (s : ByteArray) (mode : Int) (dir : Bool) (u : Int) (w : World) (h1 : ¬ (200 : Int) < s.size) (hrd : rdM s = .bad) : Calls Tryd.prog 8 #[.string s, .int .i64 mode, .bool dir, .int .i64 u] w fun e w' => e = .returned (.bool true) ∧ Below w.heap.size w w' := by
  have HA := Lib.hid (fun w => aread_any s w (by omega))
  have HR := Lib.hid (fun w => rread_any s w (by omega))
  rw [hrd] at HA HR
  unfold RdPost at HA
  unfold RRPost at HR
  simp only at HA HR
  clear hrd
  go_enter Tryd.func8, Tryd.ntmps8
  go_wp2_with fail
  refine (awake3_any _).mono ?_
  rintro e w1 ⟨rfl, hb1⟩
  have B1 := Lib.hid hb1
  clear hb1
  go_wp2_with fail
  refine (HA.out _).mono ?_
  rintro e w2 ⟨A, n, c, hb2, -, rfl⟩
  have B2 := Lib.hid ((B1.out.trans (hb2.mono B1.out.size)).alloc (Nat.le_trans B1.out.size hb2.size) (.cells #[.bool false, .int .i64 0, .slice none 0 0] 45))
  clear hb2
  go_wp2_with fail
  refine (HR.out _).mono ?_
  rintro e w3 ⟨hb3, rfl⟩
  have k0 : w3.cell? ⟨w2.heap.size, 0, none⟩ = some (.bool false) := (hb3.cell (by simp)).trans (by simp)
  have k1 := (hb3.cell (p := ⟨w2.heap.size, 1, none⟩) (by simp)).trans (by simp : _ = some (.int .i64 0))
  have k2 := (hb3.cell (p := ⟨w2.heap.size, 2, none⟩) (by simp)).trans (by simp : _ = some (.slice none 0 0))
  have hz3 : w2.heap.size < w3.heap.size := by have := hb3.size; simp at this; omega
  have B3 := Lib.hid (B2.out.trans (hb3.mono B2.out.size))
  clear hb3
  go_wp2
  go_ret
  exact ⟨rfl, B3.out.alloc B3.out.size _⟩
set_option maxRecDepth 100000 in
set_option maxHeartbeats 4000000 in
theorem aof_n (s : ByteArray) (mode : Int) (dir : Bool) (u : Int) (w : World) (h1 : ¬ (200 : Int) < s.size) (x : Int) (hrd : rdM s = .num x) : Calls Tryd.prog 8 #[.string s, .int .i64 mode, .bool dir, .int .i64 u] w fun e w' => e = .returned (.bool true) ∧ Below w.heap.size w w' := by
  have HA := Lib.hid (fun w => aread_any s w (by omega))
  have HR := Lib.hid (fun w => rread_any s w (by omega))
  rw [hrd] at HA HR
  unfold RdPost at HA
  unfold RRPost at HR
  simp only at HA HR
  clear hrd
  go_enter Tryd.func8, Tryd.ntmps8
  go_wp2_with fail
  refine (awake3_any _).mono ?_
  rintro e w1 ⟨rfl, hb1⟩
  have B1 := Lib.hid hb1
  clear hb1
  go_wp2_with fail
  refine (HA.out _).mono ?_
  rintro e w2 ⟨A, n, c, hb2, -, rfl⟩
  have B2 := Lib.hid ((B1.out.trans (hb2.mono B1.out.size)).alloc (Nat.le_trans B1.out.size hb2.size) (.cells #[.bool true, .int .i64 x, .slice none 0 0] 45))
  clear hb2
  go_wp2_with fail
  refine (HR.out _).mono ?_
  rintro e w3 ⟨hb3, rfl⟩
  have k0 : w3.cell? ⟨w2.heap.size, 0, none⟩ = some (.bool true) := (hb3.cell (by simp)).trans (by simp)
  have k1 := (hb3.cell (p := ⟨w2.heap.size, 1, none⟩) (by simp)).trans (by simp : _ = some (.int .i64 x))
  have k2 := (hb3.cell (p := ⟨w2.heap.size, 2, none⟩) (by simp)).trans (by simp : _ = some (.slice none 0 0))
  have hz3 : w2.heap.size < w3.heap.size := by have := hb3.size; simp at this; omega
  have B3 := Lib.hid (B2.out.trans (hb3.mono B2.out.size))
  clear hb3
  go_wp2_with fail
  have hBW : Below w3.heap.size w3 ((w3.alloc (.cells #[.bool true, .int .i64 x, .slice none 0 0] 49)).drew) := ((Below.refl w3.heap.size w3).alloc (Nat.le_refl _) _).drew
  have hs6 : Below w.heap.size w ((w3.alloc (.cells #[.bool true, .int .i64 x, .slice none 0 0] 49)).drew) := (B3.out.alloc B3.out.size (.cells #[.bool true, .int .i64 x, .slice none 0 0] 49)).drew
  have hs0 : ((w3.alloc (.cells #[.bool true, .int .i64 x, .slice none 0 0] 49)).drew).cell? ⟨w2.heap.size, 0, none⟩ = some (.bool true) := bc hBW k0
  have hs1 : ((w3.alloc (.cells #[.bool true, .int .i64 x, .slice none 0 0] 49)).drew).cell? ⟨w2.heap.size, 1, none⟩ = some (.int .i64 x) := bc hBW k1
  have hs2 : ((w3.alloc (.cells #[.bool true, .int .i64 x, .slice none 0 0] 49)).drew).cell? ⟨w2.heap.size, 2, none⟩ = some (.slice none 0 0) := bc hBW k2
  have hs3 : ((w3.alloc (.cells #[.bool true, .int .i64 x, .slice none 0 0] 49)).drew).cell? ⟨w3.heap.size, 0, none⟩ = some (.bool true) := by simp
  have hs4 : ((w3.alloc (.cells #[.bool true, .int .i64 x, .slice none 0 0] 49)).drew).cell? ⟨w3.heap.size, 1, none⟩ = some (.int .i64 x) := by simp
  have hs5 : ((w3.alloc (.cells #[.bool true, .int .i64 x, .slice none 0 0] 49)).drew).cell? ⟨w3.heap.size, 2, none⟩ = some (.slice none 0 0) := by simp
  have hs7 : w3.heap.size < ((w3.alloc (.cells #[.bool true, .int .i64 x, .slice none 0 0] 49)).drew).heap.size := by simp
  go_region_held3 (fun w' => w'.cell? ⟨w2.heap.size, 0, none⟩ = some (.bool true) ∧ w'.cell? ⟨w2.heap.size, 1, none⟩ = some (.int .i64 x) ∧ w'.cell? ⟨w2.heap.size, 2, none⟩ = some (.slice none 0 0) ∧ w'.cell? ⟨w3.heap.size, 0, none⟩ = some (.bool true) ∧ w'.cell? ⟨w3.heap.size, 1, none⟩ = some (.int .i64 x) ∧ w'.cell? ⟨w3.heap.size, 2, none⟩ = some (.slice none 0 0) ∧ Below w.heap.size w w' ∧ w3.heap.size < w'.heap.size) (first | exact ⟨hs0, hs1, hs2, hs3, hs4, hs5, hs6, hs7⟩ | exact ⟨bc hb4 hs0, bc hb4 hs1, bc hb4 hs2, bc hb4 hs3, bc hb4 hs4, bc hb4 hs5, bt hb4 hs6, bz hb4 hs7⟩ | exact ⟨bc hb5 (bc hb4 hs0), bc hb5 (bc hb4 hs1), bc hb5 (bc hb4 hs2), bc hb5 (bc hb4 hs3), bc hb5 (bc hb4 hs4), bc hb5 (bc hb4 hs5), bt hb5 (bt hb4 hs6), bz hb5 (bz hb4 hs7)⟩)
    (first | (go_at_call 26; refine (aof_num x _ mode dir u _).mono ?_; rintro e w4 ⟨rfl, hb4⟩) | (go_at_call 27; refine (rof_num x _ mode dir u _).mono ?_; rintro e w5 ⟨rfl, hb5⟩))
  all_goals
    go_wp2
    go_ret
    exact ⟨rfl, bt hb5 (bt hb4 hs6)⟩
set_option maxRecDepth 100000 in
set_option maxHeartbeats 4000000 in
theorem aof_c (s : ByteArray) (mode : Int) (dir : Bool) (u : Int) (w : World) (h1 : ¬ (200 : Int) < s.size) (cs : List CC) (hrd : rdM s = .cl cs) : Calls Tryd.prog 8 #[.string s, .int .i64 mode, .bool dir, .int .i64 u] w fun e w' => e = .returned (.bool true) ∧ Below w.heap.size w w' := by
  have HA := Lib.hid (fun w => aread_any s w (by omega))
  have HR := Lib.hid (fun w => rread_any s w (by omega))
  have hsm := parse_small (rd_cl hrd) (by omega)
  have HS := Lib.hid hsm
  clear hsm
  rw [hrd] at HA HR
  unfold RdPost at HA
  unfold RRPost at HR
  simp only at HA HR
  clear hrd
  go_enter Tryd.func8, Tryd.ntmps8
  go_wp2_with fail
  refine (awake3_any _).mono ?_
  rintro e w1 ⟨rfl, hb1⟩
  have B1 := Lib.hid hb1
  clear hb1
  go_wp2_with fail
  refine (HA.out _).mono ?_
  rintro e w2 ⟨A, n, c, hb2, ho2, rfl⟩
  have B2 := Lib.hid ((B1.out.trans (hb2.mono B1.out.size)).alloc (Nat.le_trans B1.out.size hb2.size) (.cells #[.bool false, .int .i64 0, .slice A n c] 45))
  have X2 := Lib.hid (ho2.cls.below ((Below.refl w2.heap.size w2).alloc (Nat.le_refl _) (.cells #[.bool false, .int .i64 0, .slice A n c] 45)))
  clear ho2
  clear hb2
  go_wp2_with fail
  refine (HR.out _).mono ?_
  rintro e w3 ⟨hb3, A3, n3, c3, hy3, rfl⟩
  have k0 : w3.cell? ⟨w2.heap.size, 0, none⟩ = some (.bool false) := (hb3.cell (by simp)).trans (by simp)
  have k1 := (hb3.cell (p := ⟨w2.heap.size, 1, none⟩) (by simp)).trans (by simp : _ = some (.int .i64 0))
  have k2 := (hb3.cell (p := ⟨w2.heap.size, 2, none⟩) (by simp)).trans (by simp : _ = some (.slice A n c))
  have hz3 : w2.heap.size < w3.heap.size := by have := hb3.size; simp at this; omega
  have B3 := Lib.hid (B2.out.trans (hb3.mono B2.out.size))
  have X3 := Lib.hid (X2.out.below hb3)
  have Y3 := Lib.hid hy3
  clear hy3
  clear hb3
  go_wp2_with fail
  have hBW : Below w3.heap.size w3 ((w3.alloc (.cells #[.bool false, .int .i64 0, .slice A3 n3 c3] 49)).drew) := ((Below.refl w3.heap.size w3).alloc (Nat.le_refl _) _).drew
  have hs6 : Below w.heap.size w ((w3.alloc (.cells #[.bool false, .int .i64 0, .slice A3 n3 c3] 49)).drew) := (B3.out.alloc B3.out.size (.cells #[.bool false, .int .i64 0, .slice A3 n3 c3] 49)).drew
  have hs0 : ((w3.alloc (.cells #[.bool false, .int .i64 0, .slice A3 n3 c3] 49)).drew).cell? ⟨w2.heap.size, 0, none⟩ = some (.bool false) := bc hBW k0
  have hs1 : ((w3.alloc (.cells #[.bool false, .int .i64 0, .slice A3 n3 c3] 49)).drew).cell? ⟨w2.heap.size, 1, none⟩ = some (.int .i64 0) := bc hBW k1
  have hs2 : ((w3.alloc (.cells #[.bool false, .int .i64 0, .slice A3 n3 c3] 49)).drew).cell? ⟨w2.heap.size, 2, none⟩ = some (.slice A n c) := bc hBW k2
  have hs3 : ((w3.alloc (.cells #[.bool false, .int .i64 0, .slice A3 n3 c3] 49)).drew).cell? ⟨w3.heap.size, 0, none⟩ = some (.bool false) := by simp
  have hs4 : ((w3.alloc (.cells #[.bool false, .int .i64 0, .slice A3 n3 c3] 49)).drew).cell? ⟨w3.heap.size, 1, none⟩ = some (.int .i64 0) := by simp
  have hs5 : ((w3.alloc (.cells #[.bool false, .int .i64 0, .slice A3 n3 c3] 49)).drew).cell? ⟨w3.heap.size, 2, none⟩ = some (.slice A3 n3 c3) := by simp
  have hs7 : w3.heap.size < ((w3.alloc (.cells #[.bool false, .int .i64 0, .slice A3 n3 c3] 49)).drew).heap.size := by simp
  go_region_held3 (fun w' => w'.cell? ⟨w2.heap.size, 0, none⟩ = some (.bool false) ∧ w'.cell? ⟨w2.heap.size, 1, none⟩ = some (.int .i64 0) ∧ w'.cell? ⟨w2.heap.size, 2, none⟩ = some (.slice A n c) ∧ w'.cell? ⟨w3.heap.size, 0, none⟩ = some (.bool false) ∧ w'.cell? ⟨w3.heap.size, 1, none⟩ = some (.int .i64 0) ∧ w'.cell? ⟨w3.heap.size, 2, none⟩ = some (.slice A3 n3 c3) ∧ Below w.heap.size w w' ∧ w3.heap.size < w'.heap.size) (first | exact ⟨hs0, hs1, hs2, hs3, hs4, hs5, hs6, hs7⟩ | exact ⟨bc hb4 hs0, bc hb4 hs1, bc hb4 hs2, bc hb4 hs3, bc hb4 hs4, bc hb4 hs5, bt hb4 hs6, bz hb4 hs7⟩ | exact ⟨bc hb5 (bc hb4 hs0), bc hb5 (bc hb4 hs1), bc hb5 (bc hb4 hs2), bc hb5 (bc hb4 hs3), bc hb5 (bc hb4 hs4), bc hb5 (bc hb4 hs5), bt hb5 (bt hb4 hs6), bz hb5 (bz hb4 hs7)⟩)
    (first | (go_at_call 26; refine (aof_cl cs 0 A n c mode dir u _ (X3.out.below hBW) HS.out.1 HS.out.2).mono ?_; rintro e w4 ⟨rfl, hb4⟩) | (go_at_call 27; refine (rof_cl cs 0 A3 n3 c3 mode dir u _ ((Y3.out.below hBW).below hb4) HS.out.1 HS.out.2).mono ?_; rintro e w5 ⟨rfl, hb5⟩))
  all_goals
    go_wp2
    go_ret
    exact ⟨rfl, bt hb5 (bt hb4 hs6)⟩
theorem aofLaw (s : ByteArray) (mode : Int) (dir : Bool) (u : Int) (w : World) : Calls Tryd.prog 8 #[.string s, .int .i64 mode, .bool dir, .int .i64 u] w fun e w' => e = .returned (.bool true) ∧ Below w.heap.size w w' := by
  by_cases h1 : (200 : Int) < s.size
  · exact aof_far s mode dir u w h1
  · cases hrd : rdM s with
    | bad => exact aof_bad s mode dir u w h1 hrd
    | num x => exact aof_n s mode dir u w h1 x hrd
    | cl cs => exact aof_c s mode dir u w h1 cs hrd
end Go.Proofs.YtbjajipeiigodaaDoor
