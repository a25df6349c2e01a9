/-
  Package files' asker, goTogether, wanted, openThere, Open; of no table; all that is said of package files, proved. The conditions are said at each.
-/
import Derived.Test.YtfopnfgfoicidaaGreatFcP
import Derived.Test.YtfopnfgfoicidaaGreatRR
import Derived.Test.YtfopnfgfoicidaaGreatPcD
import Derived.Deep.RegionWith
import Derived.Deep.DeepCutAuto
import Derived.Deep.CutBlock
namespace Go.Proofs.YtfopnfgfoicidaaGreat
open Go Go.RowKit
set_option maxRecDepth 100000

attribute [local go_sem] cell_off4 cell_blk4
theorem flags_at : ∀ a : Fin 64, (bits .and .i64 ((a.val : Nat) : Int) 3 != 0) = (flB ((a.val : Nat) : Int) 0 || flB ((a.val : Nat) : Int) 1) ∧ (bits .and .i64 ((a.val : Nat) : Int) 16 != 0) = flB ((a.val : Nat) : Int) 4 ∧ (bits .and .i64 ((a.val : Nat) : Int) 2 != 0) = flB ((a.val : Nat) : Int) 1 ∧
    (bits .and .i64 ((a.val : Nat) : Int) 8 != 0) = flB ((a.val : Nat) : Int) 3 ∧ (bits .and .i64 ((a.val : Nat) : Int) 4 != 0) = flB ((a.val : Nat) : Int) 2 ∧ (bits .and .i64 ((a.val : Nat) : Int) 40 != 0) = (flB ((a.val : Nat) : Int) 5 || flB ((a.val : Nat) : Int) 3) ∧ (bits .and .i64 ((a.val : Nat) : Int) 1 != 0) = flB ((a.val : Nat) : Int) 0 := by decide +kernel
theorem and63 (n : Int) : bits .and .i64 n 63 = n % 64 := and_mask n 6 63 (by decide) (by decide)
theorem flags_out (fl : Int) : (bits .and .i64 fl 63 != fl) = !decide (0 ≤ fl ∧ fl ≤ 63) := by
  rw [and63]
  by_cases h : 0 ≤ fl ∧ fl ≤ 63
  · rw [decide_eq_true h, show fl % 64 = fl by omega]; simp
  · rw [decide_eq_false h]
    simp only [Bool.not_false, bne_iff_ne, ne_eq]
    omega
/-- Both bits of a mode are let just if each is. -/
theorem can_both (t : List Nd) (c : Wh) (i : Int) : canT t c i 6 = (canT t c i 4 && canT t c i 2) := by
  unfold canT canN
  have hb := cls_bd (tget t i).mode (clsOf c.u c.g c.gs (tget t i).uid (tget t i).gid)
  generalize cls (tget t i).mode (clsOf c.u c.g c.gs (tget t i).uid (tget t i).gid) = b at hb ⊢
  rw [lets_eq 6 b hb.1 hb.2, lets_eq 4 b hb.1 hb.2, lets_eq 2 b hb.1 hb.2]
  have hf : ∀ b : Fin 8, letsN (6 % 8) ((b.val : Nat) : Int) = (letsN (4 % 8) ((b.val : Nat) : Int) && letsN (2 % 8) ((b.val : Nat) : Int)) := by decide
  have h1 := hf ⟨b.toNat, by omega⟩
  simp only [show ((b.toNat : Nat) : Int) = b by omega] at h1
  rw [h1]
  cases tis t i <;> cases (c.u == 0) <;> simp
/-- The bits that flags want. -/
def wanI (fl : Int) : Int := (if flB fl 0 = true then 4 else 0) + (if flB fl 1 = true then 2 else 0)
theorem flc_wan {t : List Nd} {c : Wh} {fl i : Int} (h : flB fl 0 = true ∨ flB fl 1 = true) : flC t c fl i = !canT t c i (wanI fl) := by
  unfold flC wanI
  cases h0 : flB fl 0 <;> cases h1 : flB fl 1
  · rw [h0, h1] at h; simp at h
  · simp
  · simp
  · simp [can_both, Bool.not_and]
theorem cf_fh (args : Array Value) (W : World) : (callFunc 63 args).run Tryz.prog W = .ok (.enter 63 args) W := by
  first | (simp only [go_sem]; done) | rfl
/-- What the closure answers of a flag. -/
theorem fhas_any (f fl : Int) (z : Nat) (w : World) (h : w.cell? ⟨z, 0, none⟩ = some (.int .i64 fl)) :
    Calls Tryz.prog 63 #[.int .i64 f, .pointer (some ⟨z, 0, none⟩)] w fun e w' => e = .returned (.bool (bits .and .i64 fl f != 0)) ∧ w = w' := by
  go_enter Tryz.func63, Tryz.ntmps63
  go_wp2
  go_ret
  exact ⟨rfl, rfl⟩
theorem fasker_any (fl : Int) (w : World) :
    Calls Tryz.prog 36 #[.int .i64 fl] w fun e w' => e = .returned (.func (.func 63) #[] #[.pointer (some ⟨w.heap.size, 0, none⟩)]) ∧ w' = w.alloc (.cells #[.int .i64 fl] 3) := by
  have hmf : ∀ (fn : Fn) (first cap : Array Value) (w : World), (Instr.makeFunc fn first cap).run Tryz.prog w = .ok (.func fn first cap) w := fun _ _ _ _ => rfl
  go_enter Tryz.func36, Tryz.ntmps36
  go_wp2
  go_ret
  exact ⟨rfl, rfl⟩
/-- What the closure answers of all flags that are asked of. -/
structure HasC (w : World) (z0 : Nat) (b0 b1 b2 b3 b4 b5 : Bool) : Prop where
  h3 : ∀ W, Below w.heap.size w W → Calls Tryz.prog 63 #[.int .i64 3, .pointer (some ⟨z0, 0, none⟩)] W fun e w' => e = .returned (.bool (b0 || b1)) ∧ W = w'
  h16 : ∀ W, Below w.heap.size w W → Calls Tryz.prog 63 #[.int .i64 16, .pointer (some ⟨z0, 0, none⟩)] W fun e w' => e = .returned (.bool b4) ∧ W = w'
  h2 : ∀ W, Below w.heap.size w W → Calls Tryz.prog 63 #[.int .i64 2, .pointer (some ⟨z0, 0, none⟩)] W fun e w' => e = .returned (.bool b1) ∧ W = w'
  h8 : ∀ W, Below w.heap.size w W → Calls Tryz.prog 63 #[.int .i64 8, .pointer (some ⟨z0, 0, none⟩)] W fun e w' => e = .returned (.bool b3) ∧ W = w'
  h4 : ∀ W, Below w.heap.size w W → Calls Tryz.prog 63 #[.int .i64 4, .pointer (some ⟨z0, 0, none⟩)] W fun e w' => e = .returned (.bool b2) ∧ W = w'
  h40 : ∀ W, Below w.heap.size w W → Calls Tryz.prog 63 #[.int .i64 40, .pointer (some ⟨z0, 0, none⟩)] W fun e w' => e = .returned (.bool (b5 || b3)) ∧ W = w'
  h1 : ∀ W, Below w.heap.size w W → Calls Tryz.prog 63 #[.int .i64 1, .pointer (some ⟨z0, 0, none⟩)] W fun e w' => e = .returned (.bool b0) ∧ W = w'
theorem HasC.below {w w' : World} {z0 : Nat} {b0 b1 b2 b3 b4 b5 : Bool} (h : HasC w z0 b0 b1 b2 b3 b4 b5) (hb : Below w.heap.size w w') : HasC w' z0 b0 b1 b2 b3 b4 b5 :=
  ⟨fun W q => h.h3 W (bt q hb), fun W q => h.h16 W (bt q hb), fun W q => h.h2 W (bt q hb), fun W q => h.h8 W (bt q hb), fun W q => h.h4 W (bt q hb), fun W q => h.h40 W (bt q hb), fun W q => h.h1 W (bt q hb)⟩
theorem has_of {w : World} {z0 : Nat} {fl : Int} (h : w.cell? ⟨z0, 0, none⟩ = some (.int .i64 fl)) (hin : 0 ≤ fl ∧ fl ≤ 63) : HasC w z0 (flB fl 0) (flB fl 1) (flB fl 2) (flB fl 3) (flB fl 4) (flB fl 5) := by
  obtain ⟨g3, g16, g2, g8, g4, g40, g1⟩ := flags_at ⟨fl.toNat, by omega⟩
  have hfn : ((fl.toNat : Nat) : Int) = fl := by omega
  simp only [hfn] at g3 g16 g2 g8 g4 g40 g1
  refine ⟨fun W hb => ?_, fun W hb => ?_, fun W hb => ?_, fun W hb => ?_, fun W hb => ?_, fun W hb => ?_, fun W hb => ?_⟩
  · have h1 := fhas_any 3 fl z0 W (bc hb h); rw [g3] at h1; exact h1
  · have h1 := fhas_any 16 fl z0 W (bc hb h); rw [g16] at h1; exact h1
  · have h1 := fhas_any 2 fl z0 W (bc hb h); rw [g2] at h1; exact h1
  · have h1 := fhas_any 8 fl z0 W (bc hb h); rw [g8] at h1; exact h1
  · have h1 := fhas_any 4 fl z0 W (bc hb h); rw [g4] at h1; exact h1
  · have h1 := fhas_any 40 fl z0 W (bc hb h); rw [g40] at h1; exact h1
  · have h1 := fhas_any 1 fl z0 W (bc hb h); rw [g1] at h1; exact h1
set_option maxHeartbeats 8000000 in
theorem goTogether_any (b0 b1 b2 b3 b4 b5 : Bool) (z0 : Nat) (w : World) (h : HasC w z0 b0 b1 b2 b3 b4 b5) :
    Calls Tryz.prog 37 #[.func (.func 63) #[] #[.pointer (some ⟨z0, 0, none⟩)]] w fun e w' => e = .returned (.bool ((b0 || b1) && ((!b4 || b1) && (!b3 || b2)))) ∧ w = w' := by
  have hcf := cf_fh
  have HH := Lib.hid h
  have J := Lib.hid (Below.refl w.heap.size w)
  obtain ⟨r3, hr3⟩ : ∃ r, (b0 || b1) = r := ⟨_, rfl⟩
  have C3 := Lib.hid (h.h3 w J.out)
  rw [hr3] at C3 ⊢
  clear h hr3
  go_enter Tryz.func37, Tryz.ntmps37
  go_wp2_with fail
  refine C3.out.mono ?_
  rintro e wq ⟨rfl, rfl⟩
  cases r3
  case false =>
    go_wp2
    go_ret
    exact ⟨rfl, rfl⟩
  case true =>
    go_wp2_with fail
    refine (HH.out.h2 w J.out).mono ?_
    rintro e wq ⟨rfl, rfl⟩
    cases b1
    case true =>
      go_wp2_with fail
      refine (HH.out.h4 w J.out).mono ?_
      rintro e wq ⟨rfl, rfl⟩
      cases b2
      case true =>
        go_wp2
        go_ret
        exact ⟨ret_bool (by simp), rfl⟩
      case false =>
        go_wp2_with fail
        refine (HH.out.h8 w J.out).mono ?_
        rintro e wq ⟨rfl, rfl⟩
        go_wp2
        go_ret
        exact ⟨ret_bool (by simp), rfl⟩
    case false =>
      go_wp2_with fail
      refine (HH.out.h16 w J.out).mono ?_
      rintro e wq ⟨rfl, rfl⟩
      cases b4
      case true =>
        go_wp2
        go_ret
        exact ⟨ret_bool (by simp), rfl⟩
      case false =>
        go_wp2_with fail
        refine (HH.out.h4 w J.out).mono ?_
        rintro e wq ⟨rfl, rfl⟩
        cases b2
        case true =>
          go_wp2
          go_ret
          exact ⟨ret_bool (by simp), rfl⟩
        case false =>
          go_wp2_with fail
          refine (HH.out.h8 w J.out).mono ?_
          rintro e wq ⟨rfl, rfl⟩
          go_wp2
          go_ret
          exact ⟨ret_bool (by simp), rfl⟩
set_option maxHeartbeats 8000000 in
theorem wanted_any (b0 b1 b2 b3 b4 b5 : Bool) (z0 : Nat) (w : World) (h : HasC w z0 b0 b1 b2 b3 b4 b5) :
    Calls Tryz.prog 67 #[.func (.func 63) #[] #[.pointer (some ⟨z0, 0, none⟩)]] w fun e w' => e = .returned (.int .i64 ((if b0 = true then 4 else 0) + (if b1 = true then 2 else 0))) ∧ w = w' := by
  have hcf := cf_fh
  have o04 : bits .or .i64 0 4 = 4 := by decide
  have o42 : bits .or .i64 4 2 = 6 := by decide
  have o02 : bits .or .i64 0 2 = 2 := by decide
  have HH := Lib.hid h
  have J := Lib.hid (Below.refl w.heap.size w)
  clear h
  go_enter Tryz.func67, Tryz.ntmps67
  go_wp2_with fail
  refine (HH.out.h1 w J.out).mono ?_
  rintro e wq ⟨rfl, rfl⟩
  cases b0
  all_goals (
    go_wp2_with fail
    refine (HH.out.h2 w J.out).mono ?_
    rintro e wq ⟨rfl, rfl⟩
    cases b1
    all_goals (
      go_wp2
      go_ret
      exact ⟨rfl, rfl⟩))
end Go.Proofs.YtfopnfgfoicidaaGreat
namespace Go.Proofs.YtfopnfgfoicidaaGreat
open Go Go.RowKit
set_option maxRecDepth 100000

attribute [local go_sem] cell_off4 cell_blk4
/-- What Open answers. -/
def FoA (w : World) (g : Nat) (P : Nat → Prop) (I E : Int) (T : List Nd) (e : Ending) (w' : World) : Prop := e = .returned (.tuple #[.int .i64 I, .int .i64 E]) ∧ TabR w' g T P ∧ w.grownBy w' (some g)
theorem fo_bad {w W : World} {g : Nat} {P : Nat → Prop} {t : List Nd} {c : Wh} {um : Int} {p : Nm} {fl md x : Int} (h : foE t c um p fl md = x) (hx : x ≠ 0) (ht : TabR w g t P) (hb : Below w.heap.size w W) :
    FoA w g P (foI t c um p fl md) (foE t c um p fl md) (foT t c um p fl md) (.returned (.tuple #[.int .i64 0, .int .i64 x])) W := by
  obtain ⟨h1, h2⟩ := fo_err (t := t) (c := c) (um := um) (p := p) (fl := fl) (md := md) (by rw [h]; exact hx)
  exact ⟨by rw [h2, h], by rw [h1]; exact ht.below hb, grown_below hb _⟩
/-- What openThere answers. -/
def FtA (w : World) (g : Nat) (P : Nat → Prop) (t : List Nd) (c : Wh) (fl i : Int) (e : Ending) (w' : World) : Prop :=
  e = .returned (.tuple #[.int .i64 (if fxE t c fl i = 0 then i else 0), .int .i64 (fxE t c fl i)]) ∧ TabR w' g (if fxE t c fl i = 0 ∧ flB fl 4 = true then setT t i (wrN c (tget t i) []) else t) P ∧ w.grownBy w' (some g)
set_option maxHeartbeats 16000000 in
theorem openThere_any (g : Nat) (t : List Nd) (P : Nat → Prop) (c : Wh) (A0 : Option Addr) (m k : Nat) (i fl : Int) (z0 : Nat) (w : World) (h : TabR w g t P) (ho : okT t) (hc : CrR w c A0 m k) (hP : ∀ b, w.heap.size ≤ b → P b) (hR : flR fl = true) (hH : HasC w z0 (flB fl 0) (flB fl 1) (flB fl 2) (flB fl 3) (flB fl 4) (flB fl 5)) :
    Calls Tryz.prog 39 #[.pointer (some ⟨g, 0, none⟩), .agg #[.int .i64 c.u, .int .i64 c.g, .slice A0 m k], .int .i64 i, .func (.func 63) #[] #[.pointer (some ⟨z0, 0, none⟩)]] w (FtA w g P t c fl i) := by
  have hcf := cf_fh
  have hb1 := ba w (.cells #[.int .i64 c.u, .int .i64 c.g, .slice A0 m k] 25)
  have hk1 := Blk.new w 25 #[.int .i64 c.u, .int .i64 c.g, .slice A0 m k]
  obtain ⟨W1, hW1⟩ : ∃ W, w.alloc (.cells #[.int .i64 c.u, .int .i64 c.g, .slice A0 m k] 25) = W := ⟨_, rfl⟩
  rw [hW1] at hb1 hk1
  obtain ⟨q, hq⟩ : ∃ q, tis t i = q := ⟨_, rfl⟩
  obtain ⟨N, hN⟩ : ∃ N, tget t i = N := ⟨_, rfl⟩
  have HGT := Lib.hid (get_formsC (h.below hb1).ptr i N q hN hq)
  have HNN := Lib.hid hN
  have HFC := Lib.hid (show flC t c fl i = !canT t c i (wanI fl) from flc_wan (flr_can hR))
  have HPO := Lib.hid (show fxE t c fl i = 0 → rightP (wrN c N []) ∧ tis t i = true from fun q => ⟨by have h1 := fo_right ho c q hR; rw [hN] at h1; exact h1, (fx_file ho q hR).2⟩)
  have HT := Lib.hid h
  have HCR := Lib.hid hc
  have HP := Lib.hid hP
  have HZ := Lib.hid (show w.heap.size ≠ g from Nat.ne_of_gt h.lt)
  have HB1 := Lib.hid hb1
  have HK1 := Lib.hid hk1
  have HFX := Lib.hid (show fxE t c fl i = if flB fl 3 = true then 17 else if N.kind = 3 then 40 else if N.kind = 2 then 21 else if flC t c fl i = true then 13 else 0 from by unfold fxE; rw [hN])
  have HH := Lib.hid (hH.below hb1)
  have HWA := Lib.hid (show wanI fl = (if flB fl 0 = true then 4 else 0) + (if flB fl 1 = true then 2 else 0) from rfl)
  clear h ho hc hP hb1 hk1 hN hq hR hH
  unfold FtA
  rw [HNN.out]
  obtain ⟨b0, hb0⟩ : ∃ b, flB fl 0 = b := ⟨_, rfl⟩
  obtain ⟨b1, hb1⟩ : ∃ b, flB fl 1 = b := ⟨_, rfl⟩
  obtain ⟨b2, hb2⟩ : ∃ b, flB fl 2 = b := ⟨_, rfl⟩
  obtain ⟨b3, hb3⟩ : ∃ b, flB fl 3 = b := ⟨_, rfl⟩
  obtain ⟨b4, hb4⟩ : ∃ b, flB fl 4 = b := ⟨_, rfl⟩
  obtain ⟨b5, hb5⟩ : ∃ b, flB fl 5 = b := ⟨_, rfl⟩
  rw [hb0, hb1, hb2, hb3, hb4, hb5] at HH
  rw [hb0, hb1] at HWA
  rw [hb3] at HFX
  rw [hb4]
  obtain ⟨E, hE⟩ : ∃ E, fxE t c fl i = E := ⟨_, rfl⟩
  rw [hE]
  obtain ⟨I, hI⟩ : ∃ I, (if E = 0 then i else 0) = I := ⟨_, rfl⟩
  obtain ⟨T, hT⟩ : ∃ T, (if E = 0 ∧ b4 = true then setT t i (wrN c N []) else t) = T := ⟨_, rfl⟩
  rw [hI, hT]
  rw [hE] at HFX HPO
  have HI := Lib.hid hI
  have HTT := Lib.hid hT
  have HEE := Lib.hid hE
  clear hb0 hb1 hb2 hb3 hb4 hb5 hE hI hT
  go_enter Tryz.func39, Tryz.ntmps39
  go_wp2_with fail
  clear hW1
  refine HGT.out.mono ?_
  rintro e w3 ⟨A1, c1, A2, c2, rfl, ⟨hd, he, -⟩, hb⟩
  have hbx := al hb (.cells #[.int .i64 N.kind, .int .i64 N.mode, .int .i64 N.uid, .int .i64 N.gid, .slice A1 N.data.length c1, .slice A2 N.ents.length c2, .string (bA N.target)] 56)
  have hkx := Blk.new w3 56 #[.int .i64 N.kind, .int .i64 N.mode, .int .i64 N.uid, .int .i64 N.gid, .slice A1 N.data.length c1, .slice A2 N.ents.length c2, .string (bA N.target)]
  have hex : EntsT (w3.alloc (.cells #[.int .i64 N.kind, .int .i64 N.mode, .int .i64 N.uid, .int .i64 N.gid, .slice A1 N.data.length c1, .slice A2 N.ents.length c2, .string (bA N.target)] 56)) (.slice A2 N.ents.length c2) N.ents := he.below (ba _ _)
  obtain ⟨W3, hW3⟩ : ∃ W, w3.alloc (.cells #[.int .i64 N.kind, .int .i64 N.mode, .int .i64 N.uid, .int .i64 N.gid, .slice A1 N.data.length c1, .slice A2 N.ents.length c2, .string (bA N.target)] 56) = W := ⟨_, rfl⟩
  obtain ⟨z3, hz3⟩ : ∃ z, w3.heap.size = z := ⟨_, rfl⟩
  rw [hW3] at hbx hkx hex
  rw [hz3] at hkx
  have J3 := Lib.hid hbx
  have HB3 := Lib.hid (bt hbx HB1.out)
  have HC3 := Lib.hid (HK1.out.below hbx)
  have HN3 := Lib.hid hkx
  have HE3 := Lib.hid hex
  have HH3 := Lib.hid (HH.out.below hbx)
  clear hb hd he hbx hkx hex HGT HH HB1 HK1 J3
  go_upto_block 0 with fail
  clear hW3 hz3
  have J := Lib.hid (Below.refl W3.heap.size W3)
  obtain ⟨k0, k1, k2⟩ := HC3.out.c3
  obtain ⟨a0, a1, a2, a3, a4, a5, a6⟩ := HN3.out.c7
  go_wp2_with fail
  refine (HH3.out.h8 W3 J.out).mono ?_
  rintro e wq ⟨rfl, rfl⟩
  cases b3
  case true =>
    have H1 := Lib.hid (show E = 17 from by rw [HFX.out, if_pos rfl])
    go_wp2
    go_ret2
    exact ⟨by rw [← HI.out, H1.out, if_neg (by decide)]; rfl, by rw [← HTT.out, H1.out, if_neg (fun q => absurd q.1 (by decide))]; exact HT.out.below HB3.out, grown_below HB3.out _⟩
  case false =>
  by_cases q3 : N.kind = 3
  · have y3 : (N.kind == 3) = true := by simpa using q3
    have HQ3 := Lib.hid q3
    clear q3
    have H1 := Lib.hid (show E = 40 from by rw [HFX.out, if_neg (by decide), if_pos HQ3.out])
    go_wp2
    go_ret2
    exact ⟨by rw [← HI.out, H1.out, if_neg (by decide)]; rfl, by rw [← HTT.out, H1.out, if_neg (fun q => absurd q.1 (by decide))]; exact HT.out.below HB3.out, grown_below HB3.out _⟩
  have y3 : (N.kind == 3) = false := by simpa using q3
  have HQ3 := Lib.hid q3
  clear q3
  by_cases q2 : N.kind = 2
  · have y2 : (N.kind == 2) = true := by simpa using q2
    have HQ2 := Lib.hid q2
    clear q2
    have H1 := Lib.hid (show E = 21 from by rw [HFX.out, if_neg (by decide), if_neg HQ3.out, if_pos HQ2.out])
    go_wp2
    go_ret2
    exact ⟨by rw [← HI.out, H1.out, if_neg (by decide)]; rfl, by rw [← HTT.out, H1.out, if_neg (fun q => absurd q.1 (by decide))]; exact HT.out.below HB3.out, grown_below HB3.out _⟩
  have y2 : (N.kind == 2) = false := by simpa using q2
  have HQ2 := Lib.hid q2
  clear q2
  obtain ⟨cn, hcn⟩ : ∃ r, canT t c i (wanI fl) = r := ⟨_, rfl⟩
  have HF2 := Lib.hid (show E = if cn = false then 13 else 0 from by rw [HFX.out, if_neg (by decide), if_neg HQ3.out, if_neg HQ2.out, HFC.out, hcn]; cases cn <;> rfl)
  have HWN := Lib.hid (fun (V : World) (hv : Below W3.heap.size W3 V) => show Calls Tryz.prog 67 #[.func (.func 63) #[] #[.pointer (some ⟨z0, 0, none⟩)]] V fun e w' => e = .returned (.int .i64 (wanI fl)) ∧ Below V.heap.size V w' from by
    refine (wanted_any b0 b1 b2 false b4 b5 z0 V (HH3.out.below hv)).mono ?_
    rintro e w' ⟨rfl, rfl⟩
    exact ⟨by rw [HWA.out], Below.refl _ _⟩)
  have HCN := Lib.hid (fun (V : World) (hv : Below W3.heap.size W3 V) => show Calls Tryz.prog 66 #[.pointer (some ⟨g, 0, none⟩), .agg #[.int .i64 c.u, .int .i64 c.g, .slice A0 m k], .int .i64 i, .int .i64 (wanI fl)] V fun e w' => e = .returned (.bool cn) ∧ Below V.heap.size V w' from by have h1 := rescan_any (.pointer (some ⟨g, 0, none⟩)) t c A0 m k i (wanI fl) V (HT.out.below (bt hv HB3.out)).ptr (HCR.out.below (bt hv HB3.out)); rw [hcn] at h1; exact h1)
  have HPR := Lib.hid (fun (V : World) (hv : Below W3.heap.size W3 V) => show V.cell? ⟨w.heap.size, 0, none⟩ = some (.int .i64 c.u) ∧ V.cell? ⟨w.heap.size, 1, none⟩ = some (.int .i64 c.g) ∧ V.cell? ⟨w.heap.size, 2, none⟩ = some (.slice A0 m k) from (HC3.out.below hv).c3)
  have j0 := Lib.hid (show Below W3.heap.size W3 W3.drew from (Below.refl _ _).drew)
  clear hcn
  obtain ⟨wn, hwn⟩ : ∃ x, wanI fl = x := ⟨_, rfl⟩
  rw [hwn] at HWN HCN
  clear hwn
  go_upto_region 8 with fail
  go_cut [29] (fun s29 wx => s29 = .bool (!cn) ∧ Below W3.heap.size W3 wx)
  case first =>
    go_region_held3 (fun V => V.cell? ⟨w.heap.size, 0, none⟩ = some (.int .i64 c.u) ∧ V.cell? ⟨w.heap.size, 1, none⟩ = some (.int .i64 c.g) ∧ V.cell? ⟨w.heap.size, 2, none⟩ = some (.slice A0 m k))
      (first | (with_reducible exact HPR.out _ j0.out) | (with_reducible exact HPR.out _ j1.out) | (with_reducible exact HPR.out _ j2.out))
      (first
      | (go_at_call 67; (with_reducible refine (HWN.out _ j0.out).mono ?_); rintro e1 w4 ⟨rfl, hb4⟩; have j1 := Lib.hid (bt hb4 j0.out); clear hb4)
      | (go_at_call 66; (with_reducible refine (HCN.out _ j1.out).mono ?_); rintro e2 w5 ⟨rfl, hb5⟩; have j2 := Lib.hid (bt hb5 j1.out); clear hb5))
    all_goals (
      go_wp2
      go_meet
      exact ⟨rfl, j2.out⟩)
  case rest =>
  obtain ⟨rfl, hb7⟩ := hcut
  obtain ⟨w7, hw7⟩ : ∃ W, wc = W := ⟨_, rfl⟩
  rw [hw7] at hb7 ⊢
  have HB7 := Lib.hid (bt hb7 HB3.out)
  have HC7 := Lib.hid (HC3.out.below hb7)
  have HN7 := Lib.hid (HN3.out.below hb7)
  have HE7 := Lib.hid (HE3.out.below hb7)
  have HH7 := Lib.hid (HH3.out.below hb7)
  have J7 := Lib.hid (Below.refl w7.heap.size w7)
  clear hb7 hw7 k0 k1 k2 a0 a1 a2 a3 a4 a5 a6 HWN HCN HPR j0 J HC3 HN3 HE3 HH3 HB3
  obtain ⟨k0, k1, k2⟩ := HC7.out.c3
  obtain ⟨a0, a1, a2, a3, a4, a5, a6⟩ := HN7.out.c7
  cases cn
  case false =>
    have H1 := Lib.hid (show E = 13 from by rw [HF2.out, if_pos rfl])
    go_wp2
    go_ret2
    exact ⟨by rw [← HI.out, H1.out, if_neg (by decide)]; rfl, by rw [← HTT.out, H1.out, if_neg (fun q => absurd q.1 (by decide))]; exact HT.out.below HB7.out, grown_below HB7.out _⟩
  case true =>
  have HF0 := Lib.hid (show E = 0 from by rw [HF2.out, if_neg (by decide)])
  go_wp2_with fail
  refine (HH7.out.h16 w7 J7.out).mono ?_
  rintro e wq ⟨rfl, rfl⟩
  cases b4
  case false =>
    go_wp2
    go_ret2
    exact ⟨by rw [← HI.out, HF0.out, if_pos rfl]; rfl, by rw [← HTT.out, if_neg (fun q => absurd q.2 (by decide))]; exact HT.out.below HB7.out, grown_below HB7.out _⟩
  case true =>
    have HCH := Lib.hid (fun (V : World) => changed_any N c A0 m k A1 A2 none N.data.length c1 N.ents.length c2 0 0 V)
    have HPT := Lib.hid (fun (V : World) (hv : Below w7.heap.size w7 V) => show Calls Tryz.prog 43 #[.pointer (some ⟨g, 0, none⟩), .int .i64 i, .agg #[.int .i64 N.kind, .int .i64 (writM c.u N.kind N.mode), .int .i64 N.uid, .int .i64 N.gid, .slice none 0 0, .slice A2 N.ents.length c2, .string (bA N.target)]] V fun e w' => e = .returned (.int .i64 0) ∧ TabR w' g (setT t i (wrN c N [])) P ∧ V.grownBy w' (some g) from by
      obtain ⟨hr, hti⟩ := HPO.out HF0.out
      have h1 := put_any g t P i (wrN c N []) (.slice none 0 0) (.slice A2 N.ents.length c2) V (HT.out.below (bt hv HB7.out)) (BytesR.nil V) (HE7.out.below hv).1 (right_few hr) (fun b q => HP.out b (Nat.le_trans (bt hv HB7.out).size q))
      rw [actT, if_pos rfl, if_pos ⟨hti, toB_true hr⟩, putE, if_neg (by rw [hti]; decide), if_neg (by rw [toB_true hr]; decide)] at h1
      exact h1)
    go_wp2_with fail
    refine (HCH.out _).mono ?_
    rintro e w8 ⟨rfl, hb⟩
    have HP8 := Lib.hid (HPT.out w8 hb)
    have HB8 := Lib.hid (bt hb HB7.out)
    clear hb HCH HPT
    go_wp2_with fail
    refine HP8.out.mono ?_
    rintro e w9 ⟨rfl, ht, hg⟩
    have H9 := Lib.hid (And.intro ht (grown_trans (grown_below HB8.out _) hg))
    clear ht hg
    go_wp2
    go_ret2
    exact ⟨by rw [← HI.out, HF0.out, if_pos rfl]; rfl, by rw [← HTT.out, if_pos (by exact ⟨HF0.out, by trivial⟩)]; exact H9.out.1, H9.out.2⟩
set_option maxHeartbeats 16000000 in
theorem fopen_any (g : Nat) (t : List Nd) (P : Nat → Prop) (c : Wh) (A0 : Option Addr) (m k : Nat) (um : Int) (p : Nm) (fl md : Int) (w : World) (h : TabR w g t P) (ho : okT t) (hc : CrR w c A0 m k) (hP : ∀ b, w.heap.size ≤ b → P b) :
    Calls Tryz.prog 13 #[.pointer (some ⟨g, 0, none⟩), .agg #[.int .i64 c.u, .int .i64 c.g, .slice A0 m k], .int .i64 um, .string (bA p), .int .i64 fl, .int .i64 md] w (FoA w g P (foI t c um p fl md) (foE t c um p fl md) (foT t c um p fl md)) := by
  have hcf := cf_fh
  have hb1 := ba w (.cells #[.int .i64 c.u, .int .i64 c.g, .slice A0 m k] 25)
  have hk1 := Blk.new w 25 #[.int .i64 c.u, .int .i64 c.g, .slice A0 m k]
  obtain ⟨W1, hW1⟩ : ∃ W, w.alloc (.cells #[.int .i64 c.u, .int .i64 c.g, .slice A0 m k] 25) = W := ⟨_, rfl⟩
  rw [hW1] at hb1 hk1
  have HAS := Lib.hid (fasker_any fl W1)
  have HT := Lib.hid h
  have HO := Lib.hid ho
  have HCR := Lib.hid hc
  have HP := Lib.hid hP
  have HB1 := Lib.hid hb1
  have HK1 := Lib.hid hk1
  have HFO := Lib.hid (flags_out fl)
  clear h ho hc hP hb1 hk1
  go_enter Tryz.func13, Tryz.ntmps13
  go_wp2_with fail
  clear hW1
  refine HAS.out.mono ?_
  rintro e w2 ⟨rfl, hw2⟩
  have hb2 : Below w.heap.size w w2 := by rw [hw2]; exact al HB1.out _
  have hk2 : Blk w2 w.heap.size 25 #[.int .i64 c.u, .int .i64 c.g, .slice A0 m k] := by rw [hw2]; exact HK1.out.alloc _
  have hf2 : w2.cell? ⟨W1.heap.size, 0, none⟩ = some (.int .i64 fl) := by rw [hw2]; simp
  obtain ⟨z0, hz0⟩ : ∃ z, W1.heap.size = z := ⟨_, rfl⟩
  rw [hz0] at hf2
  have HB2 := Lib.hid hb2
  have HK2 := Lib.hid hk2
  have HF2 := Lib.hid hf2
  clear hb2 hk2 hf2 hw2 HAS HB1 HK1
  go_upto_region 2 with fail
  clear hz0
  have J := Lib.hid (Below.refl w2.heap.size w2)
  by_cases hin : 0 ≤ fl ∧ fl ≤ 63
  case neg =>
    have yo : (bits .and .i64 fl 63 != fl) = true := by rw [HFO.out, decide_eq_false hin]; rfl
    have HR := Lib.hid (show foE t c um p fl md = 22 from by unfold foE flR; rw [decide_eq_false hin]; rfl)
    clear hin
    go_wp2
    go_ret2
    exact fo_bad HR.out (by decide) HT.out HB2.out
  have yo : (bits .and .i64 fl 63 != fl) = false := by rw [HFO.out, decide_eq_true hin]; rfl
  have HH := Lib.hid (has_of HF2.out hin)
  have HFR := Lib.hid (show flR fl = ((flB fl 0 || flB fl 1) && ((!flB fl 4 || flB fl 1) && (!flB fl 3 || flB fl 2))) from by unfold flR; rw [decide_eq_true hin, Bool.true_and])
  have HFF := Lib.hid (show flF fl = !(flB fl 5 || flB fl 3) from by unfold flF; cases flB fl 5 <;> cases flB fl 3 <;> rfl)
  have HB3 := Lib.hid (rfl : flB fl 2 = flB fl 2)
  obtain ⟨RR, hRR⟩ : ∃ R, ((flB fl 0 || flB fl 1) && ((!flB fl 4 || flB fl 1) && (!flB fl 3 || flB fl 2))) = R := ⟨_, rfl⟩
  have HGO := Lib.hid (show Calls Tryz.prog 37 #[.func (.func 63) #[] #[.pointer (some ⟨z0, 0, none⟩)]] w2 fun e w' => e = .returned (.bool RR) ∧ w2 = w' from by have h1 := goTogether_any _ _ _ _ _ _ z0 w2 HH.out; rw [hRR] at h1; exact h1)
  rw [hRR] at HFR
  obtain ⟨ff, hff⟩ : ∃ r, (flB fl 5 || flB fl 3) = r := ⟨_, rfl⟩
  rw [hff] at HFF
  have H40 := Lib.hid (show Calls Tryz.prog 63 #[.int .i64 40, .pointer (some ⟨z0, 0, none⟩)] w2 fun e w' => e = .returned (.bool ff) ∧ w2 = w' from by have h1 := HH.out.h40 w2 J.out; rw [hff] at h1; exact h1)
  clear hRR hff hin HFO HB3
  go_wp2_with fail
  refine HGO.out.mono ?_
  rintro e wq ⟨rfl, rfl⟩
  cases RR
  case false =>
    have HR := Lib.hid (show foE t c um p fl md = 22 from by unfold foE; rw [HFR.out, if_pos rfl])
    go_wp2
    go_ret2
    exact fo_bad HR.out (by decide) HT.out HB2.out
  case true =>
  have HFT := Lib.hid (show ¬ flR fl = false from by rw [HFR.out]; decide)
  obtain ⟨X, hX⟩ : ∃ X, resM t c p (flF fl) = X := ⟨_, rfl⟩
  have HRS := Lib.hid (resolve_any (.pointer (some ⟨g, 0, none⟩)) t c A0 m k p (flF fl) w2 (HT.out.below HB2.out).ptr (HCR.out.below HB2.out) X hX)
  have HXX := Lib.hid hX
  have HCC := Lib.hid (fun (W : World) (hb : Below w.heap.size w W) => show Calls Tryz.prog 40 #[.pointer (some ⟨g, 0, none⟩), .agg #[.int .i64 c.u, .int .i64 c.g, .slice A0 m k], .int .i64 um, .string (bA p), .int .i64 md, .bool (flF fl)] W fun e w' => e = .returned (.tuple #[.int .i64 (crI t c um p md (flF fl)), .int .i64 (crE t c um p md (flF fl))]) ∧ TabR w' g (crT t c um p md (flF fl)) P ∧ W.grownBy w' (some g) from createC g t P c A0 m k um p md (flF fl) W (HT.out.below hb) HO.out (HCR.out.below hb) (fun b q => HP.out b (Nat.le_trans hb.size q)))
  clear hX HGO
  rw [HFF.out] at HRS HCC
  obtain ⟨k0, k1, k2⟩ := HK2.out.c3
  go_wp2_with fail
  refine H40.out.mono ?_
  rintro e wq ⟨rfl, rfl⟩
  go_wp2_with fail
  refine HRS.out.mono ?_
  rintro e w3 ⟨rfl, hb⟩
  have hbx := al hb (.cells #[.int .i64 X.1.dir, .string (bA X.1.name), .int .i64 X.1.node] 91)
  have hkx := Blk.new w3 91 #[.int .i64 X.1.dir, .string (bA X.1.name), .int .i64 X.1.node]
  obtain ⟨W3, hW3⟩ : ∃ W, w3.alloc (.cells #[.int .i64 X.1.dir, .string (bA X.1.name), .int .i64 X.1.node] 91) = W := ⟨_, rfl⟩
  obtain ⟨z, hz⟩ : ∃ z, w3.heap.size = z := ⟨_, rfl⟩
  rw [hW3] at hbx hkx
  rw [hz] at hkx
  have HB3 := Lib.hid (bt hbx HB2.out)
  have HK3 := Lib.hid hkx
  have HC3 := Lib.hid (HK2.out.below hbx)
  have HH3 := Lib.hid (HH.out.below hbx)
  clear hb hbx hkx HRS k0 k1 k2 HH H40 HB2 HK2 HF2 J
  go_upto_block 0 with fail
  clear hW3 hz
  have J3 := Lib.hid (Below.refl W3.heap.size W3)
  obtain ⟨k0, k1, k2⟩ := HC3.out.c3
  obtain ⟨x0, x1, x2⟩ := HK3.out.c3
  by_cases qx : X.2 = 0
  case neg =>
    have yx : (X.2 != 0) = true := by simpa using qx
    have HX2 := Lib.hid qx
    have H1 := Lib.hid (show foE t c um p fl md = X.2 from by unfold foE; rw [if_neg HFT.out, HXX.out, if_pos HX2.out])
    clear qx
    go_wp2
    go_ret2
    exact fo_bad H1.out HX2.out HT.out HB3.out
  have yx : (X.2 != 0) = false := by simpa using qx
  have HX0 := Lib.hid (show ¬ (X.2 ≠ 0) from fun q => q qx)
  clear qx
  by_cases qn : X.1.node = 0
  · have yn : (X.1.node != 0) = false := by simpa using qn
    have HQN := Lib.hid qn
    clear qn
    obtain ⟨b2, hb2⟩ : ∃ b, flB fl 2 = b := ⟨_, rfl⟩
    have H4 := Lib.hid (show Calls Tryz.prog 63 #[.int .i64 4, .pointer (some ⟨z0, 0, none⟩)] W3 fun e w' => e = .returned (.bool b2) ∧ W3 = w' from by have h1 := HH3.out.h4 W3 J3.out; rw [hb2] at h1; exact h1)
    have HB2 := Lib.hid hb2
    clear hb2
    go_wp2_with fail
    refine H4.out.mono ?_
    rintro e wq ⟨rfl, rfl⟩
    cases b2
    case false =>
      have H1 := Lib.hid (show foE t c um p fl md = 2 from by unfold foE; rw [if_neg HFT.out, HXX.out, if_neg HX0.out, if_pos HQN.out, if_pos HB2.out])
      go_wp2
      go_ret2
      exact fo_bad H1.out (by decide) HT.out HB3.out
    case true =>
      have H1 := Lib.hid (show foE t c um p fl md = crE t c um p md (flF fl) from by unfold foE; rw [if_neg HFT.out, HXX.out, if_neg HX0.out, if_pos HQN.out, if_neg (by rw [HB2.out]; decide)])
      rw [← HFF.out] at HCC
      have HC2 := Lib.hid ((HCC.out W3 HB3.out).mono fun e w' ⟨he, ht, hg⟩ => show FoA w g P (foI t c um p fl md) (foE t c um p fl md) (foT t c um p fl md) e w' from by
        have hg2 := grown_trans (grown_below HB3.out _) hg
        by_cases hx : crE t c um p md (flF fl) = 0
        · refine ⟨?_, ?_, hg2⟩
          · rw [he]
            unfold foI
            rw [H1.out, if_neg (fun q => q hx), HXX.out, if_pos HQN.out]
          · unfold foT
            rw [H1.out, if_neg (fun q => q hx), HXX.out, if_pos HQN.out]
            exact ht
        · obtain ⟨e1, e2⟩ := fo_err (t := t) (c := c) (um := um) (p := p) (fl := fl) (md := md) (by rw [H1.out]; exact hx)
          have e3 : crI t c um p md (flF fl) = 0 := if_neg hx
          have e4 : crT t c um p md (flF fl) = t := if_neg hx
          rw [e3] at he
          rw [e4] at ht
          rw [e1, e2, H1.out]
          exact ⟨he, ht, hg2⟩)
      rw [HFF.out] at HC2
      go_wp2_with fail
      refine HC2.out.mono ?_
      rintro e w4 ⟨rfl, ht, hg⟩
      have H5 := Lib.hid (And.intro ht hg)
      clear ht hg
      go_wp2
      go_ret2
      exact ⟨rfl, H5.out.1, H5.out.2⟩
  have yn : (X.1.node != 0) = true := by simpa using qn
  have HQN := Lib.hid qn
  have HEQ := Lib.hid (show foE t c um p fl md = fxE t c fl X.1.node from by unfold foE; rw [if_neg HFT.out, HXX.out, if_neg HX0.out, if_neg HQN.out])
  clear qn HCC
  have HTH := Lib.hid ((openThere_any g t P c A0 m k X.1.node fl z0 W3 (HT.out.below HB3.out) HO.out (HCR.out.below HB3.out) (fun b q => HP.out b (Nat.le_trans HB3.out.size q)) (by cases hx : flR fl with | true => rfl | false => exact absurd hx HFT.out) HH3.out).mono fun e w' ⟨he, ht, hg⟩ => show FoA w g P (foI t c um p fl md) (foE t c um p fl md) (foT t c um p fl md) e w' from by
    have hg2 := grown_trans (grown_below HB3.out _) hg
    by_cases hx : fxE t c fl X.1.node = 0
    · have e0 : foE t c um p fl md = 0 := by rw [HEQ.out, hx]
      rw [hx, if_pos rfl] at he
      refine ⟨?_, ?_, hg2⟩
      · rw [he]
        unfold foI
        rw [e0, if_neg (fun q => q rfl), HXX.out, if_neg HQN.out]
      · unfold foT
        rw [e0, if_neg (fun q => q rfl), HXX.out, if_neg HQN.out]
        by_cases h4 : flB fl 4 = true
        · rw [if_pos h4]; rw [if_pos ⟨hx, h4⟩] at ht; exact ht
        · rw [if_neg h4]; rw [if_neg (fun q => h4 q.2)] at ht; exact ht
    · obtain ⟨e1, e2⟩ := fo_err (t := t) (c := c) (um := um) (p := p) (fl := fl) (md := md) (by rw [HEQ.out]; exact hx)
      rw [if_neg hx] at he
      rw [if_neg (fun q => hx q.1)] at ht
      rw [e1, e2, HEQ.out]
      exact ⟨he, ht, hg2⟩)
  go_wp2_with fail
  refine HTH.out.mono ?_
  rintro e w4 ⟨rfl, ht, hg⟩
  have H5 := Lib.hid (And.intro ht hg)
  clear ht hg
  go_wp2
  go_ret2
  exact ⟨rfl, H5.out.1, H5.out.2⟩
theorem fopenC : OpenC := fun g t P c A0 m k um p fl md w h ho hc hP => fopen_any g t P c A0 m k um p fl md w h ho hc hP
end Go.Proofs.YtfopnfgfoicidaaGreat
namespace Go.Proofs.YtfopnfgfoicidaaGreat
open Go Go.RowKit
set_option maxRecDepth 100000

attribute [local go_sem] cell_off4 cell_blk4
/-- What Open answers of no table. -/
def FoN (w : World) (e : Ending) (w' : World) : Prop := ∃ i x, e = .returned (.tuple #[.int .i64 i, .int .i64 x]) ∧ x ≠ 0 ∧ Below w.heap.size w w'
set_option maxHeartbeats 16000000 in
theorem fopen_nil (c : Wh) (A0 : Option Addr) (m k : Nat) (um : Int) (p : Nm) (fl md : Int) (w : World) (hc : CrR w c A0 m k) :
    Calls Tryz.prog 13 #[.pointer none, .agg #[.int .i64 c.u, .int .i64 c.g, .slice A0 m k], .int .i64 um, .string (bA p), .int .i64 fl, .int .i64 md] w (FoN w) := by
  have hcf := cf_fh
  have hb1 := ba w (.cells #[.int .i64 c.u, .int .i64 c.g, .slice A0 m k] 25)
  have hk1 := Blk.new w 25 #[.int .i64 c.u, .int .i64 c.g, .slice A0 m k]
  obtain ⟨W1, hW1⟩ : ∃ W, w.alloc (.cells #[.int .i64 c.u, .int .i64 c.g, .slice A0 m k] 25) = W := ⟨_, rfl⟩
  rw [hW1] at hb1 hk1
  have HAS := Lib.hid (fasker_any fl W1)
  have HCR := Lib.hid hc
  have HB1 := Lib.hid hb1
  have HK1 := Lib.hid hk1
  have HFO := Lib.hid (flags_out fl)
  clear hc hb1 hk1
  go_enter Tryz.func13, Tryz.ntmps13
  go_wp2_with fail
  clear hW1
  refine HAS.out.mono ?_
  rintro e w2 ⟨rfl, hw2⟩
  have hb2 : Below w.heap.size w w2 := by rw [hw2]; exact al HB1.out _
  have hk2 : Blk w2 w.heap.size 25 #[.int .i64 c.u, .int .i64 c.g, .slice A0 m k] := by rw [hw2]; exact HK1.out.alloc _
  have hf2 : w2.cell? ⟨W1.heap.size, 0, none⟩ = some (.int .i64 fl) := by rw [hw2]; simp
  obtain ⟨z0, hz0⟩ : ∃ z, W1.heap.size = z := ⟨_, rfl⟩
  rw [hz0] at hf2
  have HB2 := Lib.hid hb2
  have HK2 := Lib.hid hk2
  have HF2 := Lib.hid hf2
  clear hb2 hk2 hf2 hw2 HAS HB1 HK1
  go_upto_region 2 with fail
  clear hz0
  have J := Lib.hid (Below.refl w2.heap.size w2)
  by_cases hin : 0 ≤ fl ∧ fl ≤ 63
  case neg =>
    have yo : (bits .and .i64 fl 63 != fl) = true := by rw [HFO.out, decide_eq_false hin]; rfl
    clear hin
    go_wp2
    go_ret2
    exact ⟨0, 22, rfl, by decide, HB2.out⟩
  have yo : (bits .and .i64 fl 63 != fl) = false := by rw [HFO.out, decide_eq_true hin]; rfl
  have HH := Lib.hid (has_of HF2.out hin)
  have HFF := Lib.hid (show flF fl = !(flB fl 5 || flB fl 3) from by unfold flF; cases flB fl 5 <;> cases flB fl 3 <;> rfl)
  have HB3 := Lib.hid (rfl : flB fl 2 = flB fl 2)
  obtain ⟨RR, hRR⟩ : ∃ R, ((flB fl 0 || flB fl 1) && ((!flB fl 4 || flB fl 1) && (!flB fl 3 || flB fl 2))) = R := ⟨_, rfl⟩
  have HGO := Lib.hid (show Calls Tryz.prog 37 #[.func (.func 63) #[] #[.pointer (some ⟨z0, 0, none⟩)]] w2 fun e w' => e = .returned (.bool RR) ∧ w2 = w' from by have h1 := goTogether_any _ _ _ _ _ _ z0 w2 HH.out; rw [hRR] at h1; exact h1)
  obtain ⟨ff, hff⟩ : ∃ r, (flB fl 5 || flB fl 3) = r := ⟨_, rfl⟩
  rw [hff] at HFF
  have H40 := Lib.hid (show Calls Tryz.prog 63 #[.int .i64 40, .pointer (some ⟨z0, 0, none⟩)] w2 fun e w' => e = .returned (.bool ff) ∧ w2 = w' from by have h1 := HH.out.h40 w2 J.out; rw [hff] at h1; exact h1)
  clear hRR hff hin HFO HB3
  go_wp2_with fail
  refine HGO.out.mono ?_
  rintro e wq ⟨rfl, rfl⟩
  cases RR
  case false =>
    go_wp2
    go_ret2
    exact ⟨0, 22, rfl, by decide, HB2.out⟩
  case true =>
  obtain ⟨X, hX⟩ : ∃ X, resM [] c p (flF fl) = X := ⟨_, rfl⟩
  have HRS := Lib.hid (resolve_any (.pointer none) [] c A0 m k p (flF fl) w2 (TabP.none w2) (HCR.out.below HB2.out) X hX)
  have HXX := Lib.hid hX
  clear hX HGO
  rw [HFF.out] at HRS
  obtain ⟨k0, k1, k2⟩ := HK2.out.c3
  go_wp2_with fail
  refine H40.out.mono ?_
  rintro e wq ⟨rfl, rfl⟩
  go_wp2_with fail
  refine HRS.out.mono ?_
  rintro e w3 ⟨rfl, hb⟩
  have hbx := al hb (.cells #[.int .i64 X.1.dir, .string (bA X.1.name), .int .i64 X.1.node] 91)
  have hkx := Blk.new w3 91 #[.int .i64 X.1.dir, .string (bA X.1.name), .int .i64 X.1.node]
  obtain ⟨W3, hW3⟩ : ∃ W, w3.alloc (.cells #[.int .i64 X.1.dir, .string (bA X.1.name), .int .i64 X.1.node] 91) = W := ⟨_, rfl⟩
  obtain ⟨z, hz⟩ : ∃ z, w3.heap.size = z := ⟨_, rfl⟩
  rw [hW3] at hbx hkx
  rw [hz] at hkx
  have HB3 := Lib.hid (bt hbx HB2.out)
  have HK3 := Lib.hid hkx
  have HC3 := Lib.hid (HK2.out.below hbx)
  have HH3 := Lib.hid (HH.out.below hbx)
  clear hb hbx hkx HRS k0 k1 k2 HH H40 HB2 HK2 HF2 J
  go_upto_block 0 with fail
  clear hW3 hz
  have J3 := Lib.hid (Below.refl W3.heap.size W3)
  obtain ⟨k0, k1, k2⟩ := HC3.out.c3
  obtain ⟨x0, x1, x2⟩ := HK3.out.c3
  have yx : (X.2 != 0) = true := by have h1 := res_nil c p (flF fl); rw [HXX.out] at h1; simpa using h1
  go_wp2
  go_ret2
  exact ⟨0, X.2, rfl, by have h1 := res_nil c p (flF fl); rw [HXX.out] at h1; exact h1, HB3.out⟩
set_option maxHeartbeats 4000000 in
theorem fwrite_nil (c : Wh) (A0 : Option Addr) (m k : Nat) (i off : Int) (b : List UInt8) (A9 : Option Addr) (k9 : Nat) (w : World) :
    Calls Tryz.prog 18 #[.pointer none, .agg #[.int .i64 c.u, .int .i64 c.g, .slice A0 m k], .int .i64 i, .int .i64 off, .slice A9 b.length k9] w fun e w' => e = .returned (.int .i64 9) ∧ Below w.heap.size w w' := by
  obtain ⟨N, hN⟩ : ∃ N, tget [] i = N := ⟨_, rfl⟩
  have hk0 : N.kind = 0 := by rw [← hN, tget_out (by simp; omega)]; rfl
  have yk : (N.kind == 1) = false := by rw [hk0]; rfl
  have hb0 := ba w (.cells #[.int .i64 c.u, .int .i64 c.g, .slice A0 m k] 25)
  obtain ⟨W0, hW0⟩ : ∃ W, w.alloc (.cells #[.int .i64 c.u, .int .i64 c.g, .slice A0 m k] 25) = W := ⟨_, rfl⟩
  rw [hW0] at hb0
  have HG := Lib.hid (file_any (TabP.none W0) i N hN)
  have HB0 := Lib.hid hb0
  clear hk0 hN hb0
  go_enter Tryz.func18, Tryz.ntmps18
  go_wp2_with fail
  clear hW0
  refine HG.out.mono ?_
  rintro e w1 ⟨A1, c1, A2, c2, rfl, -, hb⟩
  have hbx := al (bt hb HB0.out) (.cells #[.int .i64 N.kind, .int .i64 N.mode, .int .i64 N.uid, .int .i64 N.gid, .slice A1 N.data.length c1, .slice A2 N.ents.length c2, .string (bA N.target)] 56)
  obtain ⟨W1, hW1⟩ : ∃ W, w1.alloc (.cells #[.int .i64 N.kind, .int .i64 N.mode, .int .i64 N.uid, .int .i64 N.gid, .slice A1 N.data.length c1, .slice A2 N.ents.length c2, .string (bA N.target)] 56) = W := ⟨_, rfl⟩
  obtain ⟨z, hz⟩ : ∃ z, w1.heap.size = z := ⟨_, rfl⟩
  rw [hW1] at hbx
  have HBX := Lib.hid hbx
  clear hb hbx HG HB0
  go_upto_block 0 with fail
  clear hW1 hz
  go_wp2
  go_ret
  exact ⟨rfl, HBX.out⟩
/-- All that is said of package files, proved. -/
theorem filesC : FilesC where
  op := fopenC
  rd := freadC
  wr := fwriteC
  opn := fun c A0 m k um p fl md w hc => fopen_nil c A0 m k um p fl md w hc
  wrn := fun c A0 m k i off b vb w _ hb => by
    obtain ⟨A9, k9, rfl⟩ := bytes_form hb rfl
    exact fwrite_nil c A0 m k i off b A9 k9 w
end Go.Proofs.YtfopnfgfoicidaaGreat
