/-
  The walk of CredRoot: it answers true of every group, groups and number.
-/
import Derived.Test.YtnbpglaklhfgmaaWf
namespace Go.Proofs.Ytnbpglaklhfgmaa
open Go Go.RowKit

theorem root_mode (g : Int) (gs : List Int) (kind y M : Int) (h0 : 0 ≤ M) (h1 : M < 4096) : modeM 0 g gs kind y M = M := by
  rw [modeM, show (!((0 : Int) == 0) && !(kind != 1) && !(y == g || gs.contains y)) = false by simp]
  simp [dropM]
  omega
theorem root_writ (kind M : Int) (h0 : 0 ≤ M) (h1 : M < 4096) : writM 0 kind M = M := by
  rw [writM, show (!((0 : Int) == 0) && !(kind != 1)) = false by simp]
  simp [dropM]
  omega
set_option maxRecDepth 100000 in
set_option maxHeartbeats 8000000 in
theorem rootWalk (g : Int) (A : Option Addr) (n c : Nat) (gs : List Int) (x to mode want kind : Int) (w : World) (h : IntsR w (.slice A n c) gs) (d0 : 0 ≤ mode) (d1 : mode ≤ 65535) (e0 : 0 ≤ want) (e1 : want ≤ 255) :
    Calls Try.prog 7 #[.int .i64 g, .slice A n c, .int .i64 x, .int .i64 to, .int .u16 mode, .int .u8 want, .int .i64 kind] w fun e w' => e = .returned (.bool true) ∧ Below w.heap.size w w' := by
  have hlen := h.at.1
  subst hlen
  by_cases hfar : (20 : Int) < (gs.length : Int)
  · clear h
    go_enter Try.func7, Try.ntmps7
    go_wp2_with fail
    refine (awake_any _).mono ?_
    rintro e w1 ⟨rfl, hb1⟩
    go_wp2
    go_ret
    exact ⟨rfl, hb1⟩
  have hn : gs.length ≤ 1000000 := by omega
  have HI := Lib.hid h
  clear h
  obtain ⟨M, hM⟩ : ∃ M : Int, mode % 4096 = M := ⟨_, rfl⟩
  have m0 : 0 ≤ M := by omega
  have m1 : M < 4096 := by omega
  have H1 := Lib.hid (fun W hI => can_any 0 g A gs.length c gs x g M want W hI hn)
  rw [show ((0 : Int) == 0 || lets want (cls M (clsOf 0 g gs x g))) = true from rfl] at H1
  have H2 := Lib.hid (fun W => mayMode_any 0 g A gs.length c x W)
  rw [show ((0 : Int) == 0 || x == 0) = true from rfl] at H2
  have H3 := Lib.hid (fun W hI => mayOwn_any 0 g A gs.length c gs x g to to W hI hn)
  rw [show mayOwn 0 g gs x g to to = true from rfl] at H3
  have H4 := Lib.hid (fun W hI => mode_any 0 g A gs.length c gs kind to M W hI hn)
  rw [root_mode _ _ _ _ _ m0 m1] at H4
  have H5 := Lib.hid (fun W => written_any 0 g A gs.length c kind M W)
  rw [root_writ _ _ m0 m1] at H5
  have H6 := Lib.hid (fun W => sticky_any 0 g A gs.length c M x to W)
  rw [show ((0 : Int) == 0 || bits .and .i64 M 512 == 0 || x == 0 || to == 0) = true from rfl] at H6
  go_enter Try.func7, Try.ntmps7
  go_wp2_with fail
  refine (awake_any _).mono ?_
  rintro e w1 ⟨rfl, hb1⟩
  have C0 := Lib.hid (show Cr w w1.heap.size 0 g A gs.length c gs (w1.alloc (.cells #[.int .i64 0, .int .i64 g, .slice A gs.length c] 24)) from ⟨hb1.alloc hb1.size _, (HI.out.below hb1).below (ba _ _), by simp, by simp, by simp⟩)
  clear hb1
  go_wp2_with fail
  refine (H1.out _ C0.out.2.1).mono ?_
  rintro e w2 ⟨rfl, hb2⟩
  have C1 := Lib.hid (C0.out.below hb2)
  obtain ⟨-, -, k0, k1, k2⟩ := C1.out
  clear hb2
  go_wp2_with fail
  refine (H2.out _).mono ?_
  clear k0 k1 k2
  rintro e w3 ⟨rfl, hb3⟩
  have C2 := Lib.hid (C1.out.below hb3)
  obtain ⟨-, -, k0, k1, k2⟩ := C2.out
  clear hb3
  go_wp2_with fail
  refine (H3.out _ C2.out.2.1).mono ?_
  clear k0 k1 k2
  rintro e w4 ⟨rfl, hb4⟩
  have C3 := Lib.hid (C2.out.below hb4)
  obtain ⟨-, -, k0, k1, k2⟩ := C3.out
  clear hb4
  go_wp2_with fail
  refine (H4.out _ C3.out.2.1).mono ?_
  clear k0 k1 k2
  rintro e w5 ⟨rfl, hb5⟩
  have C4 := Lib.hid (C3.out.below hb5)
  obtain ⟨-, -, k0, k1, k2⟩ := C4.out
  clear hb5
  go_wp2_with fail
  refine (H5.out _).mono ?_
  clear k0 k1 k2
  rintro e w6 ⟨rfl, hb6⟩
  have C5 := Lib.hid (C4.out.below hb6)
  obtain ⟨-, -, k0, k1, k2⟩ := C5.out
  clear hb6
  go_wp2_with fail
  refine (H6.out _).mono ?_
  clear k0 k1 k2
  rintro e w7 ⟨rfl, hb7⟩
  have C6 := Lib.hid (C5.out.below hb7)
  clear hb7
  go_wp2
  go_ret
  exact ⟨rfl, C6.out.1⟩
end Go.Proofs.Ytnbpglaklhfgmaa
