/-
  The program's Open and WriteAt of no table; all that is said of package files, proved. The conditions are said at each.
-/
import Derived.Test.YtfopnfgfoicidaaGreatFcN
namespace Go.Proofs.YtfopnfgfoicidaaGreat
open Go Go.RowKit
set_option maxRecDepth 100000

attribute [local go_sem] cell_off4 cell_blk4
/-- What Open answers of no table. -/
def FoN (w : World) (e : Ending) (w' : World) : Prop := ∃ i x, e = .returned (.tuple #[.int .i64 i, .int .i64 x]) ∧ x ≠ 0 ∧ Below w.heap.size w w'
set_option maxHeartbeats 16000000 in
theorem fopen_nil (c : Wh) (A0 : Option Addr) (m k : Nat) (um : Int) (p : Nm) (fl md : Int) (w : World) (hc : CrR w c A0 m k) :
    Calls Tryz.prog 13 #[.pointer none, .agg #[.int .i64 c.u, .int .i64 c.g, .slice A0 m k], .int .i64 um, .string (bA p), .int .i64 fl, .int .i64 md] w (FoN w) := by
  have hcf := cf_fh
  have hb1 := ba w (.cells #[.int .i64 c.u, .int .i64 c.g, .slice A0 m k] 25)
  have hk1 := Blk.new w 25 #[.int .i64 c.u, .int .i64 c.g, .slice A0 m k]
  obtain ⟨W1, hW1⟩ : ∃ W, w.alloc (.cells #[.int .i64 c.u, .int .i64 c.g, .slice A0 m k] 25) = W := ⟨_, rfl⟩
  rw [hW1] at hb1 hk1
  have HAS := Lib.hid (fasker_any fl W1)
  have HCR := Lib.hid hc
  have HB1 := Lib.hid hb1
  have HK1 := Lib.hid hk1
  have HFO := Lib.hid (flags_out fl)
  clear hc hb1 hk1
  go_enter Tryz.func13, Tryz.ntmps13
  go_wp2_with fail
  clear hW1
  refine HAS.out.mono ?_
  rintro e w2 ⟨rfl, hw2⟩
  have hb2 : Below w.heap.size w w2 := by rw [hw2]; exact al HB1.out _
  have hk2 : Blk w2 w.heap.size 25 #[.int .i64 c.u, .int .i64 c.g, .slice A0 m k] := by rw [hw2]; exact HK1.out.alloc _
  have hf2 : w2.cell? ⟨W1.heap.size, 0, none⟩ = some (.int .i64 fl) := by rw [hw2]; simp
  obtain ⟨z0, hz0⟩ : ∃ z, W1.heap.size = z := ⟨_, rfl⟩
  rw [hz0] at hf2
  have HB2 := Lib.hid hb2
  have HK2 := Lib.hid hk2
  have HF2 := Lib.hid hf2
  clear hb2 hk2 hf2 hw2 HAS HB1 HK1
  go_upto_region 2 with fail
  clear hz0
  have J := Lib.hid (Below.refl w2.heap.size w2)
  by_cases hin : 0 ≤ fl ∧ fl ≤ 63
  case neg =>
    have yo : (bits .and .i64 fl 63 != fl) = true := by rw [HFO.out, decide_eq_false hin]; rfl
    clear hin
    go_wp2
    go_ret2
    exact ⟨0, 22, rfl, by decide, HB2.out⟩
  have yo : (bits .and .i64 fl 63 != fl) = false := by rw [HFO.out, decide_eq_true hin]; rfl
  have HH := Lib.hid (has_of HF2.out hin)
  have HFF := Lib.hid (show flF fl = !(flB fl 5 || flB fl 3) from by unfold flF; cases flB fl 5 <;> cases flB fl 3 <;> rfl)
  have HB3 := Lib.hid (rfl : flB fl 2 = flB fl 2)
  obtain ⟨RR, hRR⟩ : ∃ R, ((flB fl 0 || flB fl 1) && ((!flB fl 4 || flB fl 1) && (!flB fl 3 || flB fl 2))) = R := ⟨_, rfl⟩
  have HGO := Lib.hid (show Calls Tryz.prog 37 #[.func (.func 63) #[] #[.pointer (some ⟨z0, 0, none⟩)]] w2 fun e w' => e = .returned (.bool RR) ∧ w2 = w' from by have h1 := goTogether_any _ _ _ _ _ _ z0 w2 HH.out; rw [hRR] at h1; exact h1)
  obtain ⟨ff, hff⟩ : ∃ r, (flB fl 5 || flB fl 3) = r := ⟨_, rfl⟩
  rw [hff] at HFF
  have H40 := Lib.hid (show Calls Tryz.prog 63 #[.int .i64 40, .pointer (some ⟨z0, 0, none⟩)] w2 fun e w' => e = .returned (.bool ff) ∧ w2 = w' from by have h1 := HH.out.h40 w2 J.out; rw [hff] at h1; exact h1)
  clear hRR hff hin HFO HB3
  go_wp2_with fail
  refine HGO.out.mono ?_
  rintro e wq ⟨rfl, rfl⟩
  cases RR
  case false =>
    go_wp2
    go_ret2
    exact ⟨0, 22, rfl, by decide, HB2.out⟩
  case true =>
  obtain ⟨X, hX⟩ : ∃ X, resM [] c p (flF fl) = X := ⟨_, rfl⟩
  have HRS := Lib.hid (resolve_any (.pointer none) [] c A0 m k p (flF fl) w2 (TabP.none w2) (HCR.out.below HB2.out) X hX)
  have HXX := Lib.hid hX
  clear hX HGO
  rw [HFF.out] at HRS
  obtain ⟨k0, k1, k2⟩ := HK2.out.c3
  go_wp2_with fail
  refine H40.out.mono ?_
  rintro e wq ⟨rfl, rfl⟩
  go_wp2_with fail
  refine HRS.out.mono ?_
  rintro e w3 ⟨rfl, hb⟩
  have hbx := al hb (.cells #[.int .i64 X.1.dir, .string (bA X.1.name), .int .i64 X.1.node] 91)
  have hkx := Blk.new w3 91 #[.int .i64 X.1.dir, .string (bA X.1.name), .int .i64 X.1.node]
  obtain ⟨W3, hW3⟩ : ∃ W, w3.alloc (.cells #[.int .i64 X.1.dir, .string (bA X.1.name), .int .i64 X.1.node] 91) = W := ⟨_, rfl⟩
  obtain ⟨z, hz⟩ : ∃ z, w3.heap.size = z := ⟨_, rfl⟩
  rw [hW3] at hbx hkx
  rw [hz] at hkx
  have HB3 := Lib.hid (bt hbx HB2.out)
  have HK3 := Lib.hid hkx
  have HC3 := Lib.hid (HK2.out.below hbx)
  have HH3 := Lib.hid (HH.out.below hbx)
  clear hb hbx hkx HRS k0 k1 k2 HH H40 HB2 HK2 HF2 J
  go_upto_block 0 with fail
  clear hW3 hz
  have J3 := Lib.hid (Below.refl W3.heap.size W3)
  obtain ⟨k0, k1, k2⟩ := HC3.out.c3
  obtain ⟨x0, x1, x2⟩ := HK3.out.c3
  have yx : (X.2 != 0) = true := by have h1 := res_nil c p (flF fl); rw [HXX.out] at h1; simpa using h1
  go_wp2
  go_ret2
  exact ⟨0, X.2, rfl, by have h1 := res_nil c p (flF fl); rw [HXX.out] at h1; exact h1, HB3.out⟩
set_option maxHeartbeats 4000000 in
theorem fwrite_nil (c : Wh) (A0 : Option Addr) (m k : Nat) (i off : Int) (b : List UInt8) (A9 : Option Addr) (k9 : Nat) (w : World) :
    Calls Tryz.prog 18 #[.pointer none, .agg #[.int .i64 c.u, .int .i64 c.g, .slice A0 m k], .int .i64 i, .int .i64 off, .slice A9 b.length k9] w fun e w' => e = .returned (.int .i64 9) ∧ Below w.heap.size w w' := by
  obtain ⟨N, hN⟩ : ∃ N, tget [] i = N := ⟨_, rfl⟩
  have hk0 : N.kind = 0 := by rw [← hN, tget_out (by simp; omega)]; rfl
  have yk : (N.kind == 1) = false := by rw [hk0]; rfl
  have hb0 := ba w (.cells #[.int .i64 c.u, .int .i64 c.g, .slice A0 m k] 25)
  obtain ⟨W0, hW0⟩ : ∃ W, w.alloc (.cells #[.int .i64 c.u, .int .i64 c.g, .slice A0 m k] 25) = W := ⟨_, rfl⟩
  rw [hW0] at hb0
  have HG := Lib.hid (file_any (TabP.none W0) i N hN)
  have HB0 := Lib.hid hb0
  clear hk0 hN hb0
  go_enter Tryz.func18, Tryz.ntmps18
  go_wp2_with fail
  clear hW0
  refine HG.out.mono ?_
  rintro e w1 ⟨A1, c1, A2, c2, rfl, -, hb⟩
  have hbx := al (bt hb HB0.out) (.cells #[.int .i64 N.kind, .int .i64 N.mode, .int .i64 N.uid, .int .i64 N.gid, .slice A1 N.data.length c1, .slice A2 N.ents.length c2, .string (bA N.target)] 56)
  obtain ⟨W1, hW1⟩ : ∃ W, w1.alloc (.cells #[.int .i64 N.kind, .int .i64 N.mode, .int .i64 N.uid, .int .i64 N.gid, .slice A1 N.data.length c1, .slice A2 N.ents.length c2, .string (bA N.target)] 56) = W := ⟨_, rfl⟩
  obtain ⟨z, hz⟩ : ∃ z, w1.heap.size = z := ⟨_, rfl⟩
  rw [hW1] at hbx
  have HBX := Lib.hid hbx
  clear hb hbx HG HB0
  go_upto_block 0 with fail
  clear hW1 hz
  go_wp2
  go_ret
  exact ⟨rfl, HBX.out⟩
/-- All that is said of package files, proved. -/
theorem filesC : FilesC where
  op := fopenC
  rd := freadC
  wr := fwriteC
  opn := fun c A0 m k um p fl md w hc => fopen_nil c A0 m k um p fl md w hc
  wrn := fun c A0 m k i off b vb w _ hb => by
    obtain ⟨A9, k9, rfl⟩ := bytes_form hb rfl
    exact fwrite_nil c A0 m k i off b A9 k9 w
end Go.Proofs.YtfopnfgfoicidaaGreat
