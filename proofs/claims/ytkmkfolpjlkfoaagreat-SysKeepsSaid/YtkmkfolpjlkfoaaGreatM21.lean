/-
  Package files' asker, goTogether, wanted, openThere, Open; of no table; all that is said of package files, proved. The conditions are said at each. Package sys: the function Open of calls. The conditions are said at each.
-/
import Derived.Test.YtkmkfolpjlkfoaaGreatM9
import Derived.Test.YtkmkfolpjlkfoaaGreatM13
import Derived.Test.YtkmkfolpjlkfoaaGreatM16
import Derived.Test.YtkmkfolpjlkfoaaGreatM20
import Derived.Deep.RegionWith
import Derived.Deep.DeepCutAuto
import Derived.Deep.CutBlock
namespace Go.Proofs.YtkmkfolpjlkfoaaGreat
open Go Go.RowKit
set_option maxRecDepth 100000

attribute [local go_sem] cell_off4 cell_blk4
theorem flags_at : ∀ a : Fin 64, (bits .and .i64 ((a.val : Nat) : Int) 3 != 0) = (flB ((a.val : Nat) : Int) 0 || flB ((a.val : Nat) : Int) 1) ∧ (bits .and .i64 ((a.val : Nat) : Int) 16 != 0) = flB ((a.val : Nat) : Int) 4 ∧ (bits .and .i64 ((a.val : Nat) : Int) 2 != 0) = flB ((a.val : Nat) : Int) 1 ∧
    (bits .and .i64 ((a.val : Nat) : Int) 8 != 0) = flB ((a.val : Nat) : Int) 3 ∧ (bits .and .i64 ((a.val : Nat) : Int) 4 != 0) = flB ((a.val : Nat) : Int) 2 ∧ (bits .and .i64 ((a.val : Nat) : Int) 40 != 0) = (flB ((a.val : Nat) : Int) 5 || flB ((a.val : Nat) : Int) 3) ∧ (bits .and .i64 ((a.val : Nat) : Int) 1 != 0) = flB ((a.val : Nat) : Int) 0 := by decide +kernel
theorem and63 (n : Int) : bits .and .i64 n 63 = n % 64 := and_mask n 6 63 (by decide) (by decide)
theorem flags_out (fl : Int) : (bits .and .i64 fl 63 != fl) = !decide (0 ≤ fl ∧ fl ≤ 63) := by
  rw [and63]
  by_cases h : 0 ≤ fl ∧ fl ≤ 63
  · rw [decide_eq_true h, show fl % 64 = fl by omega]; simp
  · rw [decide_eq_false h]
    simp only [Bool.not_false, bne_iff_ne, ne_eq]
    omega
theorem can_both (t : List Nd) (c : Wh) (i : Int) : canT t c i 6 = (canT t c i 4 && canT t c i 2) := by
  unfold canT canN
  have hb := cls_bd (tget t i).mode (clsOf c.u c.g c.gs (tget t i).uid (tget t i).gid)
  generalize cls (tget t i).mode (clsOf c.u c.g c.gs (tget t i).uid (tget t i).gid) = b at hb ⊢
  rw [lets_eq 6 b hb.1 hb.2, lets_eq 4 b hb.1 hb.2, lets_eq 2 b hb.1 hb.2]
  have hf : ∀ b : Fin 8, letsN (6 % 8) ((b.val : Nat) : Int) = (letsN (4 % 8) ((b.val : Nat) : Int) && letsN (2 % 8) ((b.val : Nat) : Int)) := by decide
  have h1 := hf ⟨b.toNat, by omega⟩
  simp only [show ((b.toNat : Nat) : Int) = b by omega] at h1
  rw [h1]
  cases tis t i <;> cases (c.u == 0) <;> simp
def wanI (fl : Int) : Int := (if flB fl 0 = true then 4 else 0) + (if flB fl 1 = true then 2 else 0)
theorem flc_wan {t : List Nd} {c : Wh} {fl i : Int} (h : flB fl 0 = true ∨ flB fl 1 = true) : flC t c fl i = !canT t c i (wanI fl) := by
  unfold flC wanI
  cases h0 : flB fl 0 <;> cases h1 : flB fl 1
  · rw [h0, h1] at h; simp at h
  · simp
  · simp
  · simp [can_both, Bool.not_and]
theorem cf_fh (args : Array Value) (W : World) : (callFunc 221 args).run Tryz.prog W = .ok (.enter 221 args) W := by
  first | (simp only [go_sem]; done) | rfl
theorem fhas_any (f fl : Int) (z : Nat) (w : World) (h : w.cell? ⟨z, 0, none⟩ = some (.int .i64 fl)) :
    Calls Tryz.prog 221 #[.int .i64 f, .pointer (some ⟨z, 0, none⟩)] w fun e w' => e = .returned (.bool (bits .and .i64 fl f != 0)) ∧ w = w' := by
  go_enter Tryz.func221, Tryz.ntmps221
  go_wp2
  go_ret
  exact ⟨rfl, rfl⟩
theorem fasker_any (fl : Int) (w : World) :
    Calls Tryz.prog 172 #[.int .i64 fl] w fun e w' => e = .returned (.func (.func 221) #[] #[.pointer (some ⟨w.heap.size, 0, none⟩)]) ∧ w' = w.alloc (.cells #[.int .i64 fl] 3) := by
  have hmf : ∀ (fn : Fn) (first cap : Array Value) (w : World), (Instr.makeFunc fn first cap).run Tryz.prog w = .ok (.func fn first cap) w := fun _ _ _ _ => rfl
  go_enter Tryz.func172, Tryz.ntmps172
  go_wp2
  go_ret
  exact ⟨rfl, rfl⟩
structure HasC (w : World) (z0 : Nat) (b0 b1 b2 b3 b4 b5 : Bool) : Prop where
  h3 : ∀ W, Below w.heap.size w W → Calls Tryz.prog 221 #[.int .i64 3, .pointer (some ⟨z0, 0, none⟩)] W fun e w' => e = .returned (.bool (b0 || b1)) ∧ W = w'
  h16 : ∀ W, Below w.heap.size w W → Calls Tryz.prog 221 #[.int .i64 16, .pointer (some ⟨z0, 0, none⟩)] W fun e w' => e = .returned (.bool b4) ∧ W = w'
  h2 : ∀ W, Below w.heap.size w W → Calls Tryz.prog 221 #[.int .i64 2, .pointer (some ⟨z0, 0, none⟩)] W fun e w' => e = .returned (.bool b1) ∧ W = w'
  h8 : ∀ W, Below w.heap.size w W → Calls Tryz.prog 221 #[.int .i64 8, .pointer (some ⟨z0, 0, none⟩)] W fun e w' => e = .returned (.bool b3) ∧ W = w'
  h4 : ∀ W, Below w.heap.size w W → Calls Tryz.prog 221 #[.int .i64 4, .pointer (some ⟨z0, 0, none⟩)] W fun e w' => e = .returned (.bool b2) ∧ W = w'
  h40 : ∀ W, Below w.heap.size w W → Calls Tryz.prog 221 #[.int .i64 40, .pointer (some ⟨z0, 0, none⟩)] W fun e w' => e = .returned (.bool (b5 || b3)) ∧ W = w'
  h1 : ∀ W, Below w.heap.size w W → Calls Tryz.prog 221 #[.int .i64 1, .pointer (some ⟨z0, 0, none⟩)] W fun e w' => e = .returned (.bool b0) ∧ W = w'
theorem HasC.below {w w' : World} {z0 : Nat} {b0 b1 b2 b3 b4 b5 : Bool} (h : HasC w z0 b0 b1 b2 b3 b4 b5) (hb : Below w.heap.size w w') : HasC w' z0 b0 b1 b2 b3 b4 b5 :=
  ⟨fun W q => h.h3 W (bt q hb), fun W q => h.h16 W (bt q hb), fun W q => h.h2 W (bt q hb), fun W q => h.h8 W (bt q hb), fun W q => h.h4 W (bt q hb), fun W q => h.h40 W (bt q hb), fun W q => h.h1 W (bt q hb)⟩
theorem has_of {w : World} {z0 : Nat} {fl : Int} (h : w.cell? ⟨z0, 0, none⟩ = some (.int .i64 fl)) (hin : 0 ≤ fl ∧ fl ≤ 63) : HasC w z0 (flB fl 0) (flB fl 1) (flB fl 2) (flB fl 3) (flB fl 4) (flB fl 5) := by
  obtain ⟨g3, g16, g2, g8, g4, g40, g1⟩ := flags_at ⟨fl.toNat, by omega⟩
  have hfn : ((fl.toNat : Nat) : Int) = fl := by omega
  simp only [hfn] at g3 g16 g2 g8 g4 g40 g1
  refine ⟨fun W hb => ?_, fun W hb => ?_, fun W hb => ?_, fun W hb => ?_, fun W hb => ?_, fun W hb => ?_, fun W hb => ?_⟩
  · have h1 := fhas_any 3 fl z0 W (bc hb h); rw [g3] at h1; exact h1
  · have h1 := fhas_any 16 fl z0 W (bc hb h); rw [g16] at h1; exact h1
  · have h1 := fhas_any 2 fl z0 W (bc hb h); rw [g2] at h1; exact h1
  · have h1 := fhas_any 8 fl z0 W (bc hb h); rw [g8] at h1; exact h1
  · have h1 := fhas_any 4 fl z0 W (bc hb h); rw [g4] at h1; exact h1
  · have h1 := fhas_any 40 fl z0 W (bc hb h); rw [g40] at h1; exact h1
  · have h1 := fhas_any 1 fl z0 W (bc hb h); rw [g1] at h1; exact h1
set_option maxHeartbeats 8000000 in
theorem goTogether_any (b0 b1 b2 b3 b4 b5 : Bool) (z0 : Nat) (w : World) (h : HasC w z0 b0 b1 b2 b3 b4 b5) :
    Calls Tryz.prog 173 #[.func (.func 221) #[] #[.pointer (some ⟨z0, 0, none⟩)]] w fun e w' => e = .returned (.bool ((b0 || b1) && ((!b4 || b1) && (!b3 || b2)))) ∧ w = w' := by
  have hcf := cf_fh
  have HH := Lib.hid h
  have J := Lib.hid (Below.refl w.heap.size w)
  obtain ⟨r3, hr3⟩ : ∃ r, (b0 || b1) = r := ⟨_, rfl⟩
  have C3 := Lib.hid (h.h3 w J.out)
  rw [hr3] at C3 ⊢
  clear h hr3
  go_enter Tryz.func173, Tryz.ntmps173
  go_wp2_with fail
  refine C3.out.mono ?_
  rintro e wq ⟨rfl, rfl⟩
  cases r3
  case false =>
    go_wp2
    go_ret
    exact ⟨rfl, rfl⟩
  case true =>
    go_wp2_with fail
    refine (HH.out.h2 w J.out).mono ?_
    rintro e wq ⟨rfl, rfl⟩
    cases b1
    case true =>
      go_wp2_with fail
      refine (HH.out.h4 w J.out).mono ?_
      rintro e wq ⟨rfl, rfl⟩
      cases b2
      case true =>
        go_wp2
        go_ret
        exact ⟨ret_bool (by simp), rfl⟩
      case false =>
        go_wp2_with fail
        refine (HH.out.h8 w J.out).mono ?_
        rintro e wq ⟨rfl, rfl⟩
        go_wp2
        go_ret
        exact ⟨ret_bool (by simp), rfl⟩
    case false =>
      go_wp2_with fail
      refine (HH.out.h16 w J.out).mono ?_
      rintro e wq ⟨rfl, rfl⟩
      cases b4
      case true =>
        go_wp2
        go_ret
        exact ⟨ret_bool (by simp), rfl⟩
      case false =>
        go_wp2_with fail
        refine (HH.out.h4 w J.out).mono ?_
        rintro e wq ⟨rfl, rfl⟩
        cases b2
        case true =>
          go_wp2
          go_ret
          exact ⟨ret_bool (by simp), rfl⟩
        case false =>
          go_wp2_with fail
          refine (HH.out.h8 w J.out).mono ?_
          rintro e wq ⟨rfl, rfl⟩
          go_wp2
          go_ret
          exact ⟨ret_bool (by simp), rfl⟩
set_option maxHeartbeats 8000000 in
theorem wanted_any (b0 b1 b2 b3 b4 b5 : Bool) (z0 : Nat) (w : World) (h : HasC w z0 b0 b1 b2 b3 b4 b5) :
    Calls Tryz.prog 224 #[.func (.func 221) #[] #[.pointer (some ⟨z0, 0, none⟩)]] w fun e w' => e = .returned (.int .i64 ((if b0 = true then 4 else 0) + (if b1 = true then 2 else 0))) ∧ w = w' := by
  have hcf := cf_fh
  have o04 : bits .or .i64 0 4 = 4 := by decide
  have o42 : bits .or .i64 4 2 = 6 := by decide
  have o02 : bits .or .i64 0 2 = 2 := by decide
  have HH := Lib.hid h
  have J := Lib.hid (Below.refl w.heap.size w)
  clear h
  go_enter Tryz.func224, Tryz.ntmps224
  go_wp2_with fail
  refine (HH.out.h1 w J.out).mono ?_
  rintro e wq ⟨rfl, rfl⟩
  cases b0
  all_goals (
    go_wp2_with fail
    refine (HH.out.h2 w J.out).mono ?_
    rintro e wq ⟨rfl, rfl⟩
    cases b1
    all_goals (
      go_wp2
      go_ret
      exact ⟨rfl, rfl⟩))
end Go.Proofs.YtkmkfolpjlkfoaaGreat
namespace Go.Proofs.YtkmkfolpjlkfoaaGreat
open Go Go.RowKit
set_option maxRecDepth 100000

attribute [local go_sem] cell_off4 cell_blk4
def FoA (w : World) (g : Nat) (P : Nat → Prop) (I E : Int) (T : List Nd) (e : Ending) (w' : World) : Prop := e = .returned (.tuple #[.int .i64 I, .int .i64 E]) ∧ TabR w' g T P ∧ w.grownBy w' (some g)
theorem fo_bad {w W : World} {g : Nat} {P : Nat → Prop} {t : List Nd} {c : Wh} {um : Int} {p : Nm} {fl md x : Int} (h : foE t c um p fl md = x) (hx : x ≠ 0) (ht : TabR w g t P) (hb : Below w.heap.size w W) :
    FoA w g P (foI t c um p fl md) (foE t c um p fl md) (foT t c um p fl md) (.returned (.tuple #[.int .i64 0, .int .i64 x])) W := by
  obtain ⟨h1, h2⟩ := fo_err (t := t) (c := c) (um := um) (p := p) (fl := fl) (md := md) (by rw [h]; exact hx)
  exact ⟨by rw [h2, h], by rw [h1]; exact ht.below hb, grown_below hb _⟩
def FtA (w : World) (g : Nat) (P : Nat → Prop) (t : List Nd) (c : Wh) (fl i : Int) (e : Ending) (w' : World) : Prop :=
  e = .returned (.tuple #[.int .i64 (if fxE t c fl i = 0 then i else 0), .int .i64 (fxE t c fl i)]) ∧ TabR w' g (if fxE t c fl i = 0 ∧ flB fl 4 = true then setT t i (wrN c (tget t i) []) else t) P ∧ w.grownBy w' (some g)
set_option maxHeartbeats 16000000 in
theorem openThere_any (g : Nat) (t : List Nd) (P : Nat → Prop) (c : Wh) (A0 : Option Addr) (m k : Nat) (i fl : Int) (z0 : Nat) (w : World) (h : TabR w g t P) (ho : okT t) (hc : CrR w c A0 m k) (hP : ∀ b, w.heap.size ≤ b → P b) (hR : flR fl = true) (hH : HasC w z0 (flB fl 0) (flB fl 1) (flB fl 2) (flB fl 3) (flB fl 4) (flB fl 5)) :
    Calls Tryz.prog 175 #[.pointer (some ⟨g, 0, none⟩), .agg #[.int .i64 c.u, .int .i64 c.g, .slice A0 m k], .int .i64 i, .func (.func 221) #[] #[.pointer (some ⟨z0, 0, none⟩)]] w (FtA w g P t c fl i) := by
  have hcf := cf_fh
  have hb1 := ba w (.cells #[.int .i64 c.u, .int .i64 c.g, .slice A0 m k] 35)
  have hk1 := Blk.new w 35 #[.int .i64 c.u, .int .i64 c.g, .slice A0 m k]
  obtain ⟨W1, hW1⟩ : ∃ W, w.alloc (.cells #[.int .i64 c.u, .int .i64 c.g, .slice A0 m k] 35) = W := ⟨_, rfl⟩
  rw [hW1] at hb1 hk1
  obtain ⟨q, hq⟩ : ∃ q, tis t i = q := ⟨_, rfl⟩
  obtain ⟨N, hN⟩ : ∃ N, tget t i = N := ⟨_, rfl⟩
  have HGT := Lib.hid (get_formsC (h.below hb1).ptr i N q hN hq)
  have HNN := Lib.hid hN
  have HFC := Lib.hid (show flC t c fl i = !canT t c i (wanI fl) from flc_wan (flr_can hR))
  have HPO := Lib.hid (show fxE t c fl i = 0 → rightP (wrN c N []) ∧ tis t i = true from fun q => ⟨by have h1 := fo_right ho c q hR; rw [hN] at h1; exact h1, (fx_file ho q hR).2⟩)
  have HT := Lib.hid h
  have HCR := Lib.hid hc
  have HP := Lib.hid hP
  have HZ := Lib.hid (show w.heap.size ≠ g from Nat.ne_of_gt h.lt)
  have HB1 := Lib.hid hb1
  have HK1 := Lib.hid hk1
  have HFX := Lib.hid (show fxE t c fl i = if flB fl 3 = true then 17 else if N.kind = 3 then 40 else if N.kind = 2 then 21 else if flC t c fl i = true then 13 else 0 from by unfold fxE; rw [hN])
  have HH := Lib.hid (hH.below hb1)
  have HWA := Lib.hid (show wanI fl = (if flB fl 0 = true then 4 else 0) + (if flB fl 1 = true then 2 else 0) from rfl)
  clear h ho hc hP hb1 hk1 hN hq hR hH
  unfold FtA
  rw [HNN.out]
  obtain ⟨b0, hb0⟩ : ∃ b, flB fl 0 = b := ⟨_, rfl⟩
  obtain ⟨b1, hb1⟩ : ∃ b, flB fl 1 = b := ⟨_, rfl⟩
  obtain ⟨b2, hb2⟩ : ∃ b, flB fl 2 = b := ⟨_, rfl⟩
  obtain ⟨b3, hb3⟩ : ∃ b, flB fl 3 = b := ⟨_, rfl⟩
  obtain ⟨b4, hb4⟩ : ∃ b, flB fl 4 = b := ⟨_, rfl⟩
  obtain ⟨b5, hb5⟩ : ∃ b, flB fl 5 = b := ⟨_, rfl⟩
  rw [hb0, hb1, hb2, hb3, hb4, hb5] at HH
  rw [hb0, hb1] at HWA
  rw [hb3] at HFX
  rw [hb4]
  obtain ⟨E, hE⟩ : ∃ E, fxE t c fl i = E := ⟨_, rfl⟩
  rw [hE]
  obtain ⟨I, hI⟩ : ∃ I, (if E = 0 then i else 0) = I := ⟨_, rfl⟩
  obtain ⟨T, hT⟩ : ∃ T, (if E = 0 ∧ b4 = true then setT t i (wrN c N []) else t) = T := ⟨_, rfl⟩
  rw [hI, hT]
  rw [hE] at HFX HPO
  have HI := Lib.hid hI
  have HTT := Lib.hid hT
  have HEE := Lib.hid hE
  clear hb0 hb1 hb2 hb3 hb4 hb5 hE hI hT
  go_enter Tryz.func175, Tryz.ntmps175
  go_wp2_with fail
  clear hW1
  refine HGT.out.mono ?_
  rintro e w3 ⟨A1, c1, A2, c2, rfl, ⟨hd, he, -⟩, hb⟩
  have hbx := al hb (.cells #[.int .i64 N.kind, .int .i64 N.mode, .int .i64 N.uid, .int .i64 N.gid, .slice A1 N.data.length c1, .slice A2 N.ents.length c2, .string (bA N.target)] 82)
  have hkx := Blk.new w3 82 #[.int .i64 N.kind, .int .i64 N.mode, .int .i64 N.uid, .int .i64 N.gid, .slice A1 N.data.length c1, .slice A2 N.ents.length c2, .string (bA N.target)]
  have hex : EntsT (w3.alloc (.cells #[.int .i64 N.kind, .int .i64 N.mode, .int .i64 N.uid, .int .i64 N.gid, .slice A1 N.data.length c1, .slice A2 N.ents.length c2, .string (bA N.target)] 82)) (.slice A2 N.ents.length c2) N.ents := he.below (ba _ _)
  obtain ⟨W3, hW3⟩ : ∃ W, w3.alloc (.cells #[.int .i64 N.kind, .int .i64 N.mode, .int .i64 N.uid, .int .i64 N.gid, .slice A1 N.data.length c1, .slice A2 N.ents.length c2, .string (bA N.target)] 82) = W := ⟨_, rfl⟩
  obtain ⟨z3, hz3⟩ : ∃ z, w3.heap.size = z := ⟨_, rfl⟩
  rw [hW3] at hbx hkx hex
  rw [hz3] at hkx
  have J3 := Lib.hid hbx
  have HB3 := Lib.hid (bt hbx HB1.out)
  have HC3 := Lib.hid (HK1.out.below hbx)
  have HN3 := Lib.hid hkx
  have HE3 := Lib.hid hex
  have HH3 := Lib.hid (HH.out.below hbx)
  clear hb hd he hbx hkx hex HGT HH HB1 HK1 J3
  go_upto_block 0 with fail
  clear hW3 hz3
  have J := Lib.hid (Below.refl W3.heap.size W3)
  obtain ⟨k0, k1, k2⟩ := HC3.out.c3
  obtain ⟨a0, a1, a2, a3, a4, a5, a6⟩ := HN3.out.c7
  go_wp2_with fail
  refine (HH3.out.h8 W3 J.out).mono ?_
  rintro e wq ⟨rfl, rfl⟩
  cases b3
  case true =>
    have H1 := Lib.hid (show E = 17 from by rw [HFX.out, if_pos rfl])
    go_wp2
    go_ret2
    exact ⟨by rw [← HI.out, H1.out, if_neg (by decide)]; rfl, by rw [← HTT.out, H1.out, if_neg (fun q => absurd q.1 (by decide))]; exact HT.out.below HB3.out, grown_below HB3.out _⟩
  case false =>
  by_cases q3 : N.kind = 3
  · have y3 : (N.kind == 3) = true := by simpa using q3
    have HQ3 := Lib.hid q3
    clear q3
    have H1 := Lib.hid (show E = 40 from by rw [HFX.out, if_neg (by decide), if_pos HQ3.out])
    go_wp2
    go_ret2
    exact ⟨by rw [← HI.out, H1.out, if_neg (by decide)]; rfl, by rw [← HTT.out, H1.out, if_neg (fun q => absurd q.1 (by decide))]; exact HT.out.below HB3.out, grown_below HB3.out _⟩
  have y3 : (N.kind == 3) = false := by simpa using q3
  have HQ3 := Lib.hid q3
  clear q3
  by_cases q2 : N.kind = 2
  · have y2 : (N.kind == 2) = true := by simpa using q2
    have HQ2 := Lib.hid q2
    clear q2
    have H1 := Lib.hid (show E = 21 from by rw [HFX.out, if_neg (by decide), if_neg HQ3.out, if_pos HQ2.out])
    go_wp2
    go_ret2
    exact ⟨by rw [← HI.out, H1.out, if_neg (by decide)]; rfl, by rw [← HTT.out, H1.out, if_neg (fun q => absurd q.1 (by decide))]; exact HT.out.below HB3.out, grown_below HB3.out _⟩
  have y2 : (N.kind == 2) = false := by simpa using q2
  have HQ2 := Lib.hid q2
  clear q2
  obtain ⟨cn, hcn⟩ : ∃ r, canT t c i (wanI fl) = r := ⟨_, rfl⟩
  have HF2 := Lib.hid (show E = if cn = false then 13 else 0 from by rw [HFX.out, if_neg (by decide), if_neg HQ3.out, if_neg HQ2.out, HFC.out, hcn]; cases cn <;> rfl)
  have HWN := Lib.hid (fun (V : World) (hv : Below W3.heap.size W3 V) => show Calls Tryz.prog 224 #[.func (.func 221) #[] #[.pointer (some ⟨z0, 0, none⟩)]] V fun e w' => e = .returned (.int .i64 (wanI fl)) ∧ Below V.heap.size V w' from by
    refine (wanted_any b0 b1 b2 false b4 b5 z0 V (HH3.out.below hv)).mono ?_
    rintro e w' ⟨rfl, rfl⟩
    exact ⟨by rw [HWA.out], Below.refl _ _⟩)
  have HCN := Lib.hid (fun (V : World) (hv : Below W3.heap.size W3 V) => show Calls Tryz.prog 148 #[.pointer (some ⟨g, 0, none⟩), .agg #[.int .i64 c.u, .int .i64 c.g, .slice A0 m k], .int .i64 i, .int .i64 (wanI fl)] V fun e w' => e = .returned (.bool cn) ∧ Below V.heap.size V w' from by have h1 := rescan_any (.pointer (some ⟨g, 0, none⟩)) t c A0 m k i (wanI fl) V (HT.out.below (bt hv HB3.out)).ptr (HCR.out.below (bt hv HB3.out)); rw [hcn] at h1; exact h1)
  have HPR := Lib.hid (fun (V : World) (hv : Below W3.heap.size W3 V) => show V.cell? ⟨w.heap.size, 0, none⟩ = some (.int .i64 c.u) ∧ V.cell? ⟨w.heap.size, 1, none⟩ = some (.int .i64 c.g) ∧ V.cell? ⟨w.heap.size, 2, none⟩ = some (.slice A0 m k) from (HC3.out.below hv).c3)
  have j0 := Lib.hid (show Below W3.heap.size W3 W3.drew from (Below.refl _ _).drew)
  clear hcn
  obtain ⟨wn, hwn⟩ : ∃ x, wanI fl = x := ⟨_, rfl⟩
  rw [hwn] at HWN HCN
  clear hwn
  go_upto_region 8 with fail
  go_cut [29] (fun s29 wx => s29 = .bool (!cn) ∧ Below W3.heap.size W3 wx)
  case first =>
    go_region_held3 (fun V => V.cell? ⟨w.heap.size, 0, none⟩ = some (.int .i64 c.u) ∧ V.cell? ⟨w.heap.size, 1, none⟩ = some (.int .i64 c.g) ∧ V.cell? ⟨w.heap.size, 2, none⟩ = some (.slice A0 m k))
      (first | (with_reducible exact HPR.out _ j0.out) | (with_reducible exact HPR.out _ j1.out) | (with_reducible exact HPR.out _ j2.out))
      (first
      | (go_at_call 224; (with_reducible refine (HWN.out _ j0.out).mono ?_); rintro e1 w4 ⟨rfl, hb4⟩; have j1 := Lib.hid (bt hb4 j0.out); clear hb4)
      | (go_at_call 148; (with_reducible refine (HCN.out _ j1.out).mono ?_); rintro e2 w5 ⟨rfl, hb5⟩; have j2 := Lib.hid (bt hb5 j1.out); clear hb5))
    all_goals (
      go_wp2
      go_meet
      exact ⟨rfl, j2.out⟩)
  case rest =>
  obtain ⟨rfl, hb7⟩ := hcut
  obtain ⟨w7, hw7⟩ : ∃ W, wc = W := ⟨_, rfl⟩
  rw [hw7] at hb7 ⊢
  have HB7 := Lib.hid (bt hb7 HB3.out)
  have HC7 := Lib.hid (HC3.out.below hb7)
  have HN7 := Lib.hid (HN3.out.below hb7)
  have HE7 := Lib.hid (HE3.out.below hb7)
  have HH7 := Lib.hid (HH3.out.below hb7)
  have J7 := Lib.hid (Below.refl w7.heap.size w7)
  clear hb7 hw7 k0 k1 k2 a0 a1 a2 a3 a4 a5 a6 HWN HCN HPR j0 J HC3 HN3 HE3 HH3 HB3
  obtain ⟨k0, k1, k2⟩ := HC7.out.c3
  obtain ⟨a0, a1, a2, a3, a4, a5, a6⟩ := HN7.out.c7
  cases cn
  case false =>
    have H1 := Lib.hid (show E = 13 from by rw [HF2.out, if_pos rfl])
    go_wp2
    go_ret2
    exact ⟨by rw [← HI.out, H1.out, if_neg (by decide)]; rfl, by rw [← HTT.out, H1.out, if_neg (fun q => absurd q.1 (by decide))]; exact HT.out.below HB7.out, grown_below HB7.out _⟩
  case true =>
  have HF0 := Lib.hid (show E = 0 from by rw [HF2.out, if_neg (by decide)])
  go_wp2_with fail
  refine (HH7.out.h16 w7 J7.out).mono ?_
  rintro e wq ⟨rfl, rfl⟩
  cases b4
  case false =>
    go_wp2
    go_ret2
    exact ⟨by rw [← HI.out, HF0.out, if_pos rfl]; rfl, by rw [← HTT.out, if_neg (fun q => absurd q.2 (by decide))]; exact HT.out.below HB7.out, grown_below HB7.out _⟩
  case true =>
    have HCH := Lib.hid (fun (V : World) => changed_any N c A0 m k A1 A2 none N.data.length c1 N.ents.length c2 0 0 V)
    have HPT := Lib.hid (fun (V : World) (hv : Below w7.heap.size w7 V) => show Calls Tryz.prog 102 #[.pointer (some ⟨g, 0, none⟩), .int .i64 i, .agg #[.int .i64 N.kind, .int .i64 (writM c.u N.kind N.mode), .int .i64 N.uid, .int .i64 N.gid, .slice none 0 0, .slice A2 N.ents.length c2, .string (bA N.target)]] V fun e w' => e = .returned (.int .i64 0) ∧ TabR w' g (setT t i (wrN c N [])) P ∧ V.grownBy w' (some g) from by
      obtain ⟨hr, hti⟩ := HPO.out HF0.out
      have h1 := put_any g t P i (wrN c N []) (.slice none 0 0) (.slice A2 N.ents.length c2) V (HT.out.below (bt hv HB7.out)) (BytesR.nil V) (HE7.out.below hv).1 (right_few hr) (fun b q => HP.out b (Nat.le_trans (bt hv HB7.out).size q))
      rw [actT, if_pos rfl, if_pos ⟨hti, toB_true hr⟩, putE, if_neg (by rw [hti]; decide), if_neg (by rw [toB_true hr]; decide)] at h1
      exact h1)
    go_wp2_with fail
    refine (HCH.out _).mono ?_
    rintro e w8 ⟨rfl, hb⟩
    have HP8 := Lib.hid (HPT.out w8 hb)
    have HB8 := Lib.hid (bt hb HB7.out)
    clear hb HCH HPT
    go_wp2_with fail
    refine HP8.out.mono ?_
    rintro e w9 ⟨rfl, ht, hg⟩
    have H9 := Lib.hid (And.intro ht (grown_trans (grown_below HB8.out _) hg))
    clear ht hg
    go_wp2
    go_ret2
    exact ⟨by rw [← HI.out, HF0.out, if_pos rfl]; rfl, by rw [← HTT.out, if_pos (by exact ⟨HF0.out, by trivial⟩)]; exact H9.out.1, H9.out.2⟩
set_option maxHeartbeats 16000000 in
theorem fopen_any (g : Nat) (t : List Nd) (P : Nat → Prop) (c : Wh) (A0 : Option Addr) (m k : Nat) (um : Int) (p : Nm) (fl md : Int) (w : World) (h : TabR w g t P) (ho : okT t) (hc : CrR w c A0 m k) (hP : ∀ b, w.heap.size ≤ b → P b) :
    Calls Tryz.prog 118 #[.pointer (some ⟨g, 0, none⟩), .agg #[.int .i64 c.u, .int .i64 c.g, .slice A0 m k], .int .i64 um, .string (bA p), .int .i64 fl, .int .i64 md] w (FoA w g P (foI t c um p fl md) (foE t c um p fl md) (foT t c um p fl md)) := by
  have hcf := cf_fh
  have hb1 := ba w (.cells #[.int .i64 c.u, .int .i64 c.g, .slice A0 m k] 35)
  have hk1 := Blk.new w 35 #[.int .i64 c.u, .int .i64 c.g, .slice A0 m k]
  obtain ⟨W1, hW1⟩ : ∃ W, w.alloc (.cells #[.int .i64 c.u, .int .i64 c.g, .slice A0 m k] 35) = W := ⟨_, rfl⟩
  rw [hW1] at hb1 hk1
  have HAS := Lib.hid (fasker_any fl W1)
  have HT := Lib.hid h
  have HO := Lib.hid ho
  have HCR := Lib.hid hc
  have HP := Lib.hid hP
  have HB1 := Lib.hid hb1
  have HK1 := Lib.hid hk1
  have HFO := Lib.hid (flags_out fl)
  clear h ho hc hP hb1 hk1
  go_enter Tryz.func118, Tryz.ntmps118
  go_wp2_with fail
  clear hW1
  refine HAS.out.mono ?_
  rintro e w2 ⟨rfl, hw2⟩
  have hb2 : Below w.heap.size w w2 := by rw [hw2]; exact al HB1.out _
  have hk2 : Blk w2 w.heap.size 35 #[.int .i64 c.u, .int .i64 c.g, .slice A0 m k] := by rw [hw2]; exact HK1.out.alloc _
  have hf2 : w2.cell? ⟨W1.heap.size, 0, none⟩ = some (.int .i64 fl) := by rw [hw2]; simp
  obtain ⟨z0, hz0⟩ : ∃ z, W1.heap.size = z := ⟨_, rfl⟩
  rw [hz0] at hf2
  have HB2 := Lib.hid hb2
  have HK2 := Lib.hid hk2
  have HF2 := Lib.hid hf2
  clear hb2 hk2 hf2 hw2 HAS HB1 HK1
  go_upto_region 2 with fail
  clear hz0
  have J := Lib.hid (Below.refl w2.heap.size w2)
  by_cases hin : 0 ≤ fl ∧ fl ≤ 63
  case neg =>
    have yo : (bits .and .i64 fl 63 != fl) = true := by rw [HFO.out, decide_eq_false hin]; rfl
    have HR := Lib.hid (show foE t c um p fl md = 22 from by unfold foE flR; rw [decide_eq_false hin]; rfl)
    clear hin
    go_wp2
    go_ret2
    exact fo_bad HR.out (by decide) HT.out HB2.out
  have yo : (bits .and .i64 fl 63 != fl) = false := by rw [HFO.out, decide_eq_true hin]; rfl
  have HH := Lib.hid (has_of HF2.out hin)
  have HFR := Lib.hid (show flR fl = ((flB fl 0 || flB fl 1) && ((!flB fl 4 || flB fl 1) && (!flB fl 3 || flB fl 2))) from by unfold flR; rw [decide_eq_true hin, Bool.true_and])
  have HFF := Lib.hid (show flF fl = !(flB fl 5 || flB fl 3) from by unfold flF; cases flB fl 5 <;> cases flB fl 3 <;> rfl)
  have HB3 := Lib.hid (rfl : flB fl 2 = flB fl 2)
  obtain ⟨RR, hRR⟩ : ∃ R, ((flB fl 0 || flB fl 1) && ((!flB fl 4 || flB fl 1) && (!flB fl 3 || flB fl 2))) = R := ⟨_, rfl⟩
  have HGO := Lib.hid (show Calls Tryz.prog 173 #[.func (.func 221) #[] #[.pointer (some ⟨z0, 0, none⟩)]] w2 fun e w' => e = .returned (.bool RR) ∧ w2 = w' from by have h1 := goTogether_any _ _ _ _ _ _ z0 w2 HH.out; rw [hRR] at h1; exact h1)
  rw [hRR] at HFR
  obtain ⟨ff, hff⟩ : ∃ r, (flB fl 5 || flB fl 3) = r := ⟨_, rfl⟩
  rw [hff] at HFF
  have H40 := Lib.hid (show Calls Tryz.prog 221 #[.int .i64 40, .pointer (some ⟨z0, 0, none⟩)] w2 fun e w' => e = .returned (.bool ff) ∧ w2 = w' from by have h1 := HH.out.h40 w2 J.out; rw [hff] at h1; exact h1)
  clear hRR hff hin HFO HB3
  go_wp2_with fail
  refine HGO.out.mono ?_
  rintro e wq ⟨rfl, rfl⟩
  cases RR
  case false =>
    have HR := Lib.hid (show foE t c um p fl md = 22 from by unfold foE; rw [HFR.out, if_pos rfl])
    go_wp2
    go_ret2
    exact fo_bad HR.out (by decide) HT.out HB2.out
  case true =>
  have HFT := Lib.hid (show ¬ flR fl = false from by rw [HFR.out]; decide)
  obtain ⟨X, hX⟩ : ∃ X, resM t c p (flF fl) = X := ⟨_, rfl⟩
  have HRS := Lib.hid (resolve_any (.pointer (some ⟨g, 0, none⟩)) t c A0 m k p (flF fl) w2 (HT.out.below HB2.out).ptr (HCR.out.below HB2.out) X hX)
  have HXX := Lib.hid hX
  have HCC := Lib.hid (fun (W : World) (hb : Below w.heap.size w W) => show Calls Tryz.prog 176 #[.pointer (some ⟨g, 0, none⟩), .agg #[.int .i64 c.u, .int .i64 c.g, .slice A0 m k], .int .i64 um, .string (bA p), .int .i64 md, .bool (flF fl)] W fun e w' => e = .returned (.tuple #[.int .i64 (crI t c um p md (flF fl)), .int .i64 (crE t c um p md (flF fl))]) ∧ TabR w' g (crT t c um p md (flF fl)) P ∧ W.grownBy w' (some g) from createC g t P c A0 m k um p md (flF fl) W (HT.out.below hb) HO.out (HCR.out.below hb) (fun b q => HP.out b (Nat.le_trans hb.size q)))
  clear hX HGO
  rw [HFF.out] at HRS HCC
  obtain ⟨k0, k1, k2⟩ := HK2.out.c3
  go_wp2_with fail
  refine H40.out.mono ?_
  rintro e wq ⟨rfl, rfl⟩
  go_wp2_with fail
  refine HRS.out.mono ?_
  rintro e w3 ⟨rfl, hb⟩
  have hbx := al hb (.cells #[.int .i64 X.1.dir, .string (bA X.1.name), .int .i64 X.1.node] 223)
  have hkx := Blk.new w3 223 #[.int .i64 X.1.dir, .string (bA X.1.name), .int .i64 X.1.node]
  obtain ⟨W3, hW3⟩ : ∃ W, w3.alloc (.cells #[.int .i64 X.1.dir, .string (bA X.1.name), .int .i64 X.1.node] 223) = W := ⟨_, rfl⟩
  obtain ⟨z, hz⟩ : ∃ z, w3.heap.size = z := ⟨_, rfl⟩
  rw [hW3] at hbx hkx
  rw [hz] at hkx
  have HB3 := Lib.hid (bt hbx HB2.out)
  have HK3 := Lib.hid hkx
  have HC3 := Lib.hid (HK2.out.below hbx)
  have HH3 := Lib.hid (HH.out.below hbx)
  clear hb hbx hkx HRS k0 k1 k2 HH H40 HB2 HK2 HF2 J
  go_upto_block 0 with fail
  clear hW3 hz
  have J3 := Lib.hid (Below.refl W3.heap.size W3)
  obtain ⟨k0, k1, k2⟩ := HC3.out.c3
  obtain ⟨x0, x1, x2⟩ := HK3.out.c3
  by_cases qx : X.2 = 0
  case neg =>
    have yx : (X.2 != 0) = true := by simpa using qx
    have HX2 := Lib.hid qx
    have H1 := Lib.hid (show foE t c um p fl md = X.2 from by unfold foE; rw [if_neg HFT.out, HXX.out, if_pos HX2.out])
    clear qx
    go_wp2
    go_ret2
    exact fo_bad H1.out HX2.out HT.out HB3.out
  have yx : (X.2 != 0) = false := by simpa using qx
  have HX0 := Lib.hid (show ¬ (X.2 ≠ 0) from fun q => q qx)
  clear qx
  by_cases qn : X.1.node = 0
  · have yn : (X.1.node != 0) = false := by simpa using qn
    have HQN := Lib.hid qn
    clear qn
    obtain ⟨b2, hb2⟩ : ∃ b, flB fl 2 = b := ⟨_, rfl⟩
    have H4 := Lib.hid (show Calls Tryz.prog 221 #[.int .i64 4, .pointer (some ⟨z0, 0, none⟩)] W3 fun e w' => e = .returned (.bool b2) ∧ W3 = w' from by have h1 := HH3.out.h4 W3 J3.out; rw [hb2] at h1; exact h1)
    have HB2 := Lib.hid hb2
    clear hb2
    go_wp2_with fail
    refine H4.out.mono ?_
    rintro e wq ⟨rfl, rfl⟩
    cases b2
    case false =>
      have H1 := Lib.hid (show foE t c um p fl md = 2 from by unfold foE; rw [if_neg HFT.out, HXX.out, if_neg HX0.out, if_pos HQN.out, if_pos HB2.out])
      go_wp2
      go_ret2
      exact fo_bad H1.out (by decide) HT.out HB3.out
    case true =>
      have H1 := Lib.hid (show foE t c um p fl md = crE t c um p md (flF fl) from by unfold foE; rw [if_neg HFT.out, HXX.out, if_neg HX0.out, if_pos HQN.out, if_neg (by rw [HB2.out]; decide)])
      rw [← HFF.out] at HCC
      have HC2 := Lib.hid ((HCC.out W3 HB3.out).mono fun e w' ⟨he, ht, hg⟩ => show FoA w g P (foI t c um p fl md) (foE t c um p fl md) (foT t c um p fl md) e w' from by
        have hg2 := grown_trans (grown_below HB3.out _) hg
        by_cases hx : crE t c um p md (flF fl) = 0
        · refine ⟨?_, ?_, hg2⟩
          · rw [he]
            unfold foI
            rw [H1.out, if_neg (fun q => q hx), HXX.out, if_pos HQN.out]
          · unfold foT
            rw [H1.out, if_neg (fun q => q hx), HXX.out, if_pos HQN.out]
            exact ht
        · obtain ⟨e1, e2⟩ := fo_err (t := t) (c := c) (um := um) (p := p) (fl := fl) (md := md) (by rw [H1.out]; exact hx)
          have e3 : crI t c um p md (flF fl) = 0 := if_neg hx
          have e4 : crT t c um p md (flF fl) = t := if_neg hx
          rw [e3] at he
          rw [e4] at ht
          rw [e1, e2, H1.out]
          exact ⟨he, ht, hg2⟩)
      rw [HFF.out] at HC2
      go_wp2_with fail
      refine HC2.out.mono ?_
      rintro e w4 ⟨rfl, ht, hg⟩
      have H5 := Lib.hid (And.intro ht hg)
      clear ht hg
      go_wp2
      go_ret2
      exact ⟨rfl, H5.out.1, H5.out.2⟩
  have yn : (X.1.node != 0) = true := by simpa using qn
  have HQN := Lib.hid qn
  have HEQ := Lib.hid (show foE t c um p fl md = fxE t c fl X.1.node from by unfold foE; rw [if_neg HFT.out, HXX.out, if_neg HX0.out, if_neg HQN.out])
  clear qn HCC
  have HTH := Lib.hid ((openThere_any g t P c A0 m k X.1.node fl z0 W3 (HT.out.below HB3.out) HO.out (HCR.out.below HB3.out) (fun b q => HP.out b (Nat.le_trans HB3.out.size q)) (by cases hx : flR fl with | true => rfl | false => exact absurd hx HFT.out) HH3.out).mono fun e w' ⟨he, ht, hg⟩ => show FoA w g P (foI t c um p fl md) (foE t c um p fl md) (foT t c um p fl md) e w' from by
    have hg2 := grown_trans (grown_below HB3.out _) hg
    by_cases hx : fxE t c fl X.1.node = 0
    · have e0 : foE t c um p fl md = 0 := by rw [HEQ.out, hx]
      rw [hx, if_pos rfl] at he
      refine ⟨?_, ?_, hg2⟩
      · rw [he]
        unfold foI
        rw [e0, if_neg (fun q => q rfl), HXX.out, if_neg HQN.out]
      · unfold foT
        rw [e0, if_neg (fun q => q rfl), HXX.out, if_neg HQN.out]
        by_cases h4 : flB fl 4 = true
        · rw [if_pos h4]; rw [if_pos ⟨hx, h4⟩] at ht; exact ht
        · rw [if_neg h4]; rw [if_neg (fun q => h4 q.2)] at ht; exact ht
    · obtain ⟨e1, e2⟩ := fo_err (t := t) (c := c) (um := um) (p := p) (fl := fl) (md := md) (by rw [HEQ.out]; exact hx)
      rw [if_neg hx] at he
      rw [if_neg (fun q => hx q.1)] at ht
      rw [e1, e2, HEQ.out]
      exact ⟨he, ht, hg2⟩)
  go_wp2_with fail
  refine HTH.out.mono ?_
  rintro e w4 ⟨rfl, ht, hg⟩
  have H5 := Lib.hid (And.intro ht hg)
  clear ht hg
  go_wp2
  go_ret2
  exact ⟨rfl, H5.out.1, H5.out.2⟩
theorem fopenC : OpenC := fun g t P c A0 m k um p fl md w h ho hc hP => fopen_any g t P c A0 m k um p fl md w h ho hc hP
end Go.Proofs.YtkmkfolpjlkfoaaGreat
namespace Go.Proofs.YtkmkfolpjlkfoaaGreat
open Go Go.RowKit
set_option maxRecDepth 100000

attribute [local go_sem] cell_off4 cell_blk4
def FoN (w : World) (e : Ending) (w' : World) : Prop := ∃ i x, e = .returned (.tuple #[.int .i64 i, .int .i64 x]) ∧ x ≠ 0 ∧ Below w.heap.size w w'
set_option maxHeartbeats 16000000 in
theorem fopen_nil (c : Wh) (A0 : Option Addr) (m k : Nat) (um : Int) (p : Nm) (fl md : Int) (w : World) (hc : CrR w c A0 m k) :
    Calls Tryz.prog 118 #[.pointer none, .agg #[.int .i64 c.u, .int .i64 c.g, .slice A0 m k], .int .i64 um, .string (bA p), .int .i64 fl, .int .i64 md] w (FoN w) := by
  have hcf := cf_fh
  have hb1 := ba w (.cells #[.int .i64 c.u, .int .i64 c.g, .slice A0 m k] 35)
  have hk1 := Blk.new w 35 #[.int .i64 c.u, .int .i64 c.g, .slice A0 m k]
  obtain ⟨W1, hW1⟩ : ∃ W, w.alloc (.cells #[.int .i64 c.u, .int .i64 c.g, .slice A0 m k] 35) = W := ⟨_, rfl⟩
  rw [hW1] at hb1 hk1
  have HAS := Lib.hid (fasker_any fl W1)
  have HCR := Lib.hid hc
  have HB1 := Lib.hid hb1
  have HK1 := Lib.hid hk1
  have HFO := Lib.hid (flags_out fl)
  clear hc hb1 hk1
  go_enter Tryz.func118, Tryz.ntmps118
  go_wp2_with fail
  clear hW1
  refine HAS.out.mono ?_
  rintro e w2 ⟨rfl, hw2⟩
  have hb2 : Below w.heap.size w w2 := by rw [hw2]; exact al HB1.out _
  have hk2 : Blk w2 w.heap.size 35 #[.int .i64 c.u, .int .i64 c.g, .slice A0 m k] := by rw [hw2]; exact HK1.out.alloc _
  have hf2 : w2.cell? ⟨W1.heap.size, 0, none⟩ = some (.int .i64 fl) := by rw [hw2]; simp
  obtain ⟨z0, hz0⟩ : ∃ z, W1.heap.size = z := ⟨_, rfl⟩
  rw [hz0] at hf2
  have HB2 := Lib.hid hb2
  have HK2 := Lib.hid hk2
  have HF2 := Lib.hid hf2
  clear hb2 hk2 hf2 hw2 HAS HB1 HK1
  go_upto_region 2 with fail
  clear hz0
  have J := Lib.hid (Below.refl w2.heap.size w2)
  by_cases hin : 0 ≤ fl ∧ fl ≤ 63
  case neg =>
    have yo : (bits .and .i64 fl 63 != fl) = true := by rw [HFO.out, decide_eq_false hin]; rfl
    clear hin
    go_wp2
    go_ret2
    exact ⟨0, 22, rfl, by decide, HB2.out⟩
  have yo : (bits .and .i64 fl 63 != fl) = false := by rw [HFO.out, decide_eq_true hin]; rfl
  have HH := Lib.hid (has_of HF2.out hin)
  have HFF := Lib.hid (show flF fl = !(flB fl 5 || flB fl 3) from by unfold flF; cases flB fl 5 <;> cases flB fl 3 <;> rfl)
  have HB3 := Lib.hid (rfl : flB fl 2 = flB fl 2)
  obtain ⟨RR, hRR⟩ : ∃ R, ((flB fl 0 || flB fl 1) && ((!flB fl 4 || flB fl 1) && (!flB fl 3 || flB fl 2))) = R := ⟨_, rfl⟩
  have HGO := Lib.hid (show Calls Tryz.prog 173 #[.func (.func 221) #[] #[.pointer (some ⟨z0, 0, none⟩)]] w2 fun e w' => e = .returned (.bool RR) ∧ w2 = w' from by have h1 := goTogether_any _ _ _ _ _ _ z0 w2 HH.out; rw [hRR] at h1; exact h1)
  obtain ⟨ff, hff⟩ : ∃ r, (flB fl 5 || flB fl 3) = r := ⟨_, rfl⟩
  rw [hff] at HFF
  have H40 := Lib.hid (show Calls Tryz.prog 221 #[.int .i64 40, .pointer (some ⟨z0, 0, none⟩)] w2 fun e w' => e = .returned (.bool ff) ∧ w2 = w' from by have h1 := HH.out.h40 w2 J.out; rw [hff] at h1; exact h1)
  clear hRR hff hin HFO HB3
  go_wp2_with fail
  refine HGO.out.mono ?_
  rintro e wq ⟨rfl, rfl⟩
  cases RR
  case false =>
    go_wp2
    go_ret2
    exact ⟨0, 22, rfl, by decide, HB2.out⟩
  case true =>
  obtain ⟨X, hX⟩ : ∃ X, resM [] c p (flF fl) = X := ⟨_, rfl⟩
  have HRS := Lib.hid (resolve_any (.pointer none) [] c A0 m k p (flF fl) w2 (TabP.none w2) (HCR.out.below HB2.out) X hX)
  have HXX := Lib.hid hX
  clear hX HGO
  rw [HFF.out] at HRS
  obtain ⟨k0, k1, k2⟩ := HK2.out.c3
  go_wp2_with fail
  refine H40.out.mono ?_
  rintro e wq ⟨rfl, rfl⟩
  go_wp2_with fail
  refine HRS.out.mono ?_
  rintro e w3 ⟨rfl, hb⟩
  have hbx := al hb (.cells #[.int .i64 X.1.dir, .string (bA X.1.name), .int .i64 X.1.node] 223)
  have hkx := Blk.new w3 223 #[.int .i64 X.1.dir, .string (bA X.1.name), .int .i64 X.1.node]
  obtain ⟨W3, hW3⟩ : ∃ W, w3.alloc (.cells #[.int .i64 X.1.dir, .string (bA X.1.name), .int .i64 X.1.node] 223) = W := ⟨_, rfl⟩
  obtain ⟨z, hz⟩ : ∃ z, w3.heap.size = z := ⟨_, rfl⟩
  rw [hW3] at hbx hkx
  rw [hz] at hkx
  have HB3 := Lib.hid (bt hbx HB2.out)
  have HK3 := Lib.hid hkx
  have HC3 := Lib.hid (HK2.out.below hbx)
  have HH3 := Lib.hid (HH.out.below hbx)
  clear hb hbx hkx HRS k0 k1 k2 HH H40 HB2 HK2 HF2 J
  go_upto_block 0 with fail
  clear hW3 hz
  have J3 := Lib.hid (Below.refl W3.heap.size W3)
  obtain ⟨k0, k1, k2⟩ := HC3.out.c3
  obtain ⟨x0, x1, x2⟩ := HK3.out.c3
  have yx : (X.2 != 0) = true := by have h1 := res_nil c p (flF fl); rw [HXX.out] at h1; simpa using h1
  go_wp2
  go_ret2
  exact ⟨0, X.2, rfl, by have h1 := res_nil c p (flF fl); rw [HXX.out] at h1; exact h1, HB3.out⟩
set_option maxHeartbeats 4000000 in
theorem fwrite_nil (c : Wh) (A0 : Option Addr) (m k : Nat) (i off : Int) (b : List UInt8) (A9 : Option Addr) (k9 : Nat) (w : World) :
    Calls Tryz.prog 120 #[.pointer none, .agg #[.int .i64 c.u, .int .i64 c.g, .slice A0 m k], .int .i64 i, .int .i64 off, .slice A9 b.length k9] w fun e w' => e = .returned (.int .i64 9) ∧ Below w.heap.size w w' := by
  obtain ⟨N, hN⟩ : ∃ N, tget [] i = N := ⟨_, rfl⟩
  have hk0 : N.kind = 0 := by rw [← hN, tget_out (by simp; omega)]; rfl
  have yk : (N.kind == 1) = false := by rw [hk0]; rfl
  have hb0 := ba w (.cells #[.int .i64 c.u, .int .i64 c.g, .slice A0 m k] 35)
  obtain ⟨W0, hW0⟩ : ∃ W, w.alloc (.cells #[.int .i64 c.u, .int .i64 c.g, .slice A0 m k] 35) = W := ⟨_, rfl⟩
  rw [hW0] at hb0
  have HG := Lib.hid (file_any (TabP.none W0) i N hN)
  have HB0 := Lib.hid hb0
  clear hk0 hN hb0
  go_enter Tryz.func120, Tryz.ntmps120
  go_wp2_with fail
  clear hW0
  refine HG.out.mono ?_
  rintro e w1 ⟨A1, c1, A2, c2, rfl, -, hb⟩
  have hbx := al (bt hb HB0.out) (.cells #[.int .i64 N.kind, .int .i64 N.mode, .int .i64 N.uid, .int .i64 N.gid, .slice A1 N.data.length c1, .slice A2 N.ents.length c2, .string (bA N.target)] 82)
  obtain ⟨W1, hW1⟩ : ∃ W, w1.alloc (.cells #[.int .i64 N.kind, .int .i64 N.mode, .int .i64 N.uid, .int .i64 N.gid, .slice A1 N.data.length c1, .slice A2 N.ents.length c2, .string (bA N.target)] 82) = W := ⟨_, rfl⟩
  obtain ⟨z, hz⟩ : ∃ z, w1.heap.size = z := ⟨_, rfl⟩
  rw [hW1] at hbx
  have HBX := Lib.hid hbx
  clear hb hbx HG HB0
  go_upto_block 0 with fail
  clear hW1 hz
  go_wp2
  go_ret
  exact ⟨rfl, HBX.out⟩
theorem filesC : FilesC where
  op := fopenC
  rd := freadC
  wr := fwriteC
  opn := fun c A0 m k um p fl md w hc => fopen_nil c A0 m k um p fl md w hc
  wrn := fun c A0 m k i off b vb w _ hb => by
    obtain ⟨A9, k9, rfl⟩ := bytes_form hb rfl
    exact fwrite_nil c A0 m k i off b A9 k9 w
end Go.Proofs.YtkmkfolpjlkfoaaGreat
namespace Go.Proofs.YtkmkfolpjlkfoaaGreat
open Go Go.RowKit
set_option maxRecDepth 100000

attribute [local go_sem] cell_off4 cell_blk4
theorem flag01_at : ∀ a : Fin 64, (bits .and .i64 ((a.val : Nat) : Int) 1 != 0) = flB ((a.val : Nat) : Int) 0 ∧ (bits .and .i64 ((a.val : Nat) : Int) 2 != 0) = flB ((a.val : Nat) : Int) 1 := by decide +kernel
theorem flag01 {fl : Int} (h : flR fl = true) : (bits .and .i64 fl 1 != 0) = flB fl 0 ∧ (bits .and .i64 fl 2 != 0) = flB fl 1 := by
  have h1 : 0 ≤ fl ∧ fl ≤ 63 := by
    unfold flR at h
    simp only [Bool.and_eq_true, decide_eq_true_eq] at h
    exact h.1
  obtain ⟨k, rfl⟩ : ∃ k : Nat, fl = (k : Int) := ⟨fl.toNat, by omega⟩
  exact flag01_at ⟨k, by omega⟩
theorem opn_full {S : Sym} {i : Nat} {p : Prm} {c : Cal} (h : ¬ frePl p < p.f.length) : opnK S i p c = (S, Rsm.e 24) := if_pos (by omega)
theorem opn_err {S : Sym} {i : Nat} {p : Prm} {c : Cal} (h : frePl p < p.f.length) (he : foE S.t p.c p.um c.path c.a c.b ≠ 0) : opnK S i p c = (⟨foT S.t p.c p.um c.path c.a c.b, S.p⟩, Rsm.e (foE S.t p.c p.um c.path c.a c.b)) := by
  unfold opnK
  rw [if_neg (by omega), if_pos he, (fo_err he).1]
theorem opn_good {S : Sym} {i : Nat} {p : Prm} {c : Cal} (h : frePl p < p.f.length) (he : foE S.t p.c p.um c.path c.a c.b = 0) : opnK S i p c = (⟨foT S.t p.c p.um c.path c.a c.b, S.p.set i (p.setF (frePl p) ⟨foI S.t p.c p.um c.path c.a c.b, 0, flB c.a 0, flB c.a 1⟩)⟩, Rsm.k (frePl p)) := by
  unfold opnK
  rw [if_neg (by omega), if_neg (fun q => q he)]
set_option maxHeartbeats 4000000 in
theorem m_open : MtC 72 13 := fun s g b cp i S p c vd w h hI hn hp hd hsh => by
  obtain ⟨o, ho⟩ : ∃ o, i * 16 = o := ⟨_, rfl⟩
  obtain ⟨W1, zr, G, m, hW1, hzr, hm⟩ := mw_start (vd := vd) (c := c) h hp ho
  rw [ho]
  have hgs := hI.gs p (List.mem_of_getElem? hp)
  have HM := Lib.hid hm
  have hl3 := hm.pc.len
  have HIX := Lib.hid (show Calls Tryz.prog 117 #[.slice (some ⟨b, o + 4, none⟩) 3 3, .agg #[.int .i64 0, .int .i64 0, .bool false, .bool false]] W1 fun e w' => e = .returned (.int .i64 (if frePl p < 3 then (frePl p : Int) else -1)) ∧ Below W1.heap.size W1 w' from idxF_any b (o + 4) p.f W1 hl3 hm.pc.fd)
  by_cases qF : ¬ frePl p < 3
  · have hK : doK 13 S i p c = (S, Rsm.e 24) := opn_full (by rw [hl3]; exact qF)
    rw [hK]
    rw [if_neg qF] at HIX
    clear hm h hI hn hp hd hsh hgs hK ho qF hl3
    go_enter Tryz.func72, Tryz.ntmps72
    go_wp2_with fail
    refine HIX.out.mono ?_
    rintro e w2 ⟨rfl, hb2⟩
    have HM2 := Lib.hid (HM.out.below hb2)
    clear hW1 hzr HIX hb2
    obtain ⟨x0, x1, x2, x3, x4, x5, x6, x7, x8, x9, x10, x11⟩ := HM2.out.kr.c12
    obtain ⟨f0, f1, f2, f3, f4, f5, f6, f7, f8, f9, f10, f11⟩ := HM2.out.kr.f12
    obtain ⟨s0, s1, s2, s3, s4, s5, s6, s7, s8, s9, s10, s11⟩ := HM2.out.kr.s12
    go_wp2
    exact bodyPost_ret (v := .agg #[.int .i64 24, .int .i64 0, .int .i64 0, .int .i64 0, .int .i64 0, .int .i64 0, .int .i64 0, .int .i64 0, .int .i64 0, .string ⟨#[]⟩, .slice none 0 0, .slice none 0 0]) (by simp [results, Tryz.results72, go_sem, s0, s1, s2, s3, s4, s5, s6, s7, s8, s9, s10, s11]) rfl (doq_e 24 HM2.out.sq (Fix.of_below HM2.out.blo) HM2.out.kr HM2.out.lr)
  have qF : frePl p < 3 := Classical.byContradiction qF
  rw [if_pos qF] at HIX
  obtain ⟨N, hN⟩ : ∃ N, frePl p = N := ⟨_, rfl⟩
  obtain ⟨E, hE⟩ : ∃ E, foE S.t p.c p.um c.path c.a c.b = E := ⟨_, rfl⟩
  obtain ⟨T, hT⟩ : ∃ T, foT S.t p.c p.um c.path c.a c.b = T := ⟨_, rfl⟩
  obtain ⟨I, hJ⟩ : ∃ I, foI S.t p.c p.um c.path c.a c.b = I := ⟨_, rfl⟩
  obtain ⟨X, hX⟩ : ∃ X, doK 13 S i p c = X := ⟨_, rfl⟩
  have HK1 := Lib.hid (fun (z : E ≠ 0) => show X = (⟨T, S.p⟩, Rsm.e E) from by
    rw [← hX]
    have h1 := opn_err (S := S) (i := i) (p := p) (c := c) (by rw [hl3]; exact qF) (by rw [hE]; exact z)
    rw [hE, hT] at h1
    exact h1)
  have HK2 := Lib.hid (fun (z : E = 0) => show X = (⟨T, S.p.set i (p.setF N ⟨I, 0, flB c.a 0, flB c.a 1⟩)⟩, Rsm.k N) ∧ I ≠ 0 ∧ flR c.a = true from by
    have h1 := opn_good (S := S) (i := i) (p := p) (c := c) (by rw [hl3]; exact qF) (by rw [hE]; exact z)
    rw [hT, hJ, hN] at h1
    have h2 := (fo_kpo hI.tro p.c p.um c.path c.a c.b).2.2.2 (by rw [hE]; exact z)
    rw [hT, hJ] at h2
    exact ⟨by rw [← hX]; exact h1, fun e => by have h3 := (tis_in (kind_is h2)).1; omega, (fo_zero (by rw [hE]; exact z : foE S.t p.c p.um c.path c.a c.b = 0)).1⟩)
  rw [hX]
  rw [hN] at HIX qF
  have HCL := Lib.hid (fun (V : World) (hv : Below W1.heap.size W1 V) => show Calls Tryz.prog 118 #[.pointer (some ⟨g, 0, none⟩), .agg #[.int .i64 p.c.u, .int .i64 p.c.g, .slice G p.c.gs.length m], .int .i64 p.um, .string (bA c.path), .int .i64 c.a, .int .i64 c.b] V fun e w' => e = .returned (.tuple #[.int .i64 I, .int .i64 E]) ∧ TabR w' g T (fun _ => True) ∧ V.grownBy w' (some g) from by
    have h1 := hm.below hv
    rw [← hE, ← hT, ← hJ]
    exact filesC.op g S.t (fun _ => True) p.c G p.c.gs.length m p.um c.path c.a c.b V h1.sq.tab h1.sq.tab.ok (h1.pc.crr hgs) (fun _ _ => trivial))
  have HPR := Lib.hid (fun (V : World) (hv : Below W1.heap.size W1 V) => (hm.below hv).all)
  have HPG := Lib.hid (fun (V w5 : World) (hv : Below W1.heap.size W1 V) (ht : TabR w5 g T (fun _ => True)) (hg : V.grownBy w5 (some g)) => (hm.below hv).after ht hg)
  have HSO := Lib.hid (fun (V : World) (hv : Sq V s g b cp ⟨T, S.p⟩) (z : I ≠ 0) (r0 r1 : Bool) => show Sq (((((V.setCell ⟨b, o + 4 + N * 4, none⟩ (.int .i64 I)).setCell ⟨b, o + 4 + N * 4 + 1, none⟩ (.int .i64 0)).setCell ⟨b, o + 4 + N * 4 + 2, none⟩ (.bool r0)).setCell ⟨b, o + 4 + N * 4 + 3, none⟩ (.bool r1))) s g b cp ⟨T, S.p.set i (p.setF N ⟨I, 0, r0, r1⟩)⟩ from by
    rw [← ho]
    exact hv.putF hp qF (f := ⟨I, 0, r0, r1⟩) (fun q => absurd q z))
  have HLP := Lib.hid (show ∀ (V : World) (cs : Array Value), S.p.length * 16 ≤ cs.size → o + 4 + N * 4 + 4 ≤ cs.size from fun V cs hc => by have h1 := (List.getElem?_eq_some_iff.1 hp).1; omega)
  clear hm h hI hn hp hd hsh hgs ho hl3 hN hE hT hJ hX
  go_enter Tryz.func72, Tryz.ntmps72
  go_wp2_with fail
  refine HIX.out.mono ?_
  rintro e w2 ⟨rfl, hb2⟩
  have HM2 := Lib.hid (HM.out.below hb2)
  have j0 := Lib.hid (show Below W1.heap.size W1 w2.drew from hb2.drew)
  clear hW1 hzr HIX hb2
  have hn0 : ¬ (N : Int) < 0 := by omega
  go_upto_region 4 with fail
  go_cut [8, 9] (fun s8 s9 wx => s8 = .int .i64 I ∧ s9 = .int .i64 E ∧ TabR wx g T (fun _ => True) ∧ ∃ V, Below W1.heap.size W1 V ∧ V.grownBy wx (some g))
  case first =>
    go_region_held3 (fun V => V.cell? ⟨s, 0, none⟩ = some (.pointer (some ⟨g, 0, none⟩)) ∧ V.cell? ⟨b, o, none⟩ = some (.int .i64 p.c.u) ∧ V.cell? ⟨b, o + 1, none⟩ = some (.int .i64 p.c.g) ∧ V.cell? ⟨b, o + 2, none⟩ = some (.slice G p.c.gs.length m) ∧ V.cell? ⟨b, o + 3, none⟩ = some (.int .i64 p.um) ∧ V.cell? ⟨w.heap.size, 1, none⟩ = some (.string (bA c.path)) ∧ V.cell? ⟨w.heap.size, 2, none⟩ = some (.string (bA c.other)) ∧ V.cell? ⟨w.heap.size, 3, none⟩ = some (.int .i64 c.a) ∧ V.cell? ⟨w.heap.size, 4, none⟩ = some (.int .i64 c.b) ∧ V.cell? ⟨w.heap.size, 5, none⟩ = some vd)
      (first | (with_reducible exact HPR.out _ j0.out) | (with_reducible exact HPG.out _ _ j0.out H5.out.1 H5.out.2))
      (first
      | (go_at_call 118; (with_reducible refine (HCL.out _ j0.out).mono ?_); rintro e2 w5 ⟨rfl, ht, hg⟩; have H5 := Lib.hid (And.intro ht hg); clear ht hg))
    all_goals (
      go_wp2
      go_meet
      exact ⟨rfl, rfl, H5.out.1, _, j0.out, H5.out.2⟩)
  case rest =>
  obtain ⟨rfl, rfl, htx, V, hvx, hgx⟩ := hcut
  obtain ⟨w5, hw5⟩ : ∃ W, wc = W := ⟨_, rfl⟩
  rw [hw5] at htx hgx ⊢
  obtain ⟨hs5, hf5, hr5, hc5, hp5⟩ := (HM.out.below hvx).tabbed htx hgx
  have HS5 := Lib.hid hs5
  have HF5 := Lib.hid hf5
  have HR5 := Lib.hid hr5
  obtain ⟨b0, b1, b2, b3, b4, b5, b6, b7, b8, b9⟩ := HPG.out _ _ hvx htx hgx
  clear hw5 htx hgx hvx hs5 hf5 hr5 hp5 HPR HPG HCL j0 b0 b1 b2 b3 b4 b5 b6 b8 b9 HM2
  by_cases qe : E = 0
  · have e0 : (E != 0) = false := by simpa using qe
    obtain ⟨hx2, hi2, hr2⟩ := HK2.out qe
    obtain ⟨hf0, hf1⟩ := flag01 hr2
    have HX2 := Lib.hid hx2
    have HI2 := Lib.hid hi2
    have B7 := Lib.hid b7
    obtain ⟨cs, hkb, hcs⟩ := HS5.out.row
    have hcs2 := HLP.out w5 cs hcs
    have HKB := Lib.hid hkb
    have HNZ := Lib.hid (show zr ≠ b from fun e => blk_ne hkb HR5.out (by decide) e.symm)
    clear qe HK1 HK2 hkb hc5 b7 hx2 hi2 hr2 hcs
    go_upto_region 7 with fail
    have b7 : w5.drew.cell? ⟨w.heap.size, 3, none⟩ = some (.int .i64 c.a) := B7.out
    have b7' := B7.out
    have hA := add_at b (o + 4) (N * 4)
    have hN3 : (N : Int) < 3 := by omega
    go_still_tail 15, (by kernel_rfl)
    repeat still_step
    try refine wpStill_nil ?_
    change wpList _ _ _ _ _ (World.drew _)
    have HSD := Lib.hid (HS5.out.below (Below.refl _ _).drew)
    have HRD := Lib.hid (HR5.out.below (Below.refl _ _).drew)
    have HKD := Lib.hid (HKB.out.below (Below.refl _ _).drew)
    have HFD := Lib.hid (HF5.out.drew)
    clear b7 b7' HS5 HF5 HR5 HKB B7
    generalize w5.drew = w6 at HSD HRD HKD HFD ⊢
    obtain ⟨⟨x0, y0⟩, ⟨x1, y1⟩, ⟨x2, y2⟩, ⟨x3, y3⟩⟩ : (∃ x, w6.cell? ⟨b, o + 4 + N * 4, none⟩ = some x) ∧ (∃ x, w6.cell? ⟨b, o + 4 + N * 4 + 1, none⟩ = some x) ∧ (∃ x, w6.cell? ⟨b, o + 4 + N * 4 + 2, none⟩ = some x) ∧ (∃ x, w6.cell? ⟨b, o + 4 + N * 4 + 3, none⟩ = some x) :=
      ⟨⟨_, by rw [HKD.out.cell, Array.getElem?_eq_getElem (by omega)]⟩, ⟨_, by rw [HKD.out.cell, Array.getElem?_eq_getElem (by omega)]⟩, ⟨_, by rw [HKD.out.cell, Array.getElem?_eq_getElem (by omega)]⟩, ⟨_, by rw [HKD.out.cell, Array.getElem?_eq_getElem (by omega)]⟩⟩
    have fb := fun k => HKD.out.frozen k
    go_upto_region 8 with fail
    have hg := grownF w6 b (o + 4 + N * 4) (.int .i64 I) (.int .i64 0) (.bool (flB c.a 0)) (.bool (flB c.a 1))
    have HS6 := Lib.hid (HSO.out w6 HSD.out HI2.out (flB c.a 0) (flB c.a 1))
    have HKR := Lib.hid (HRD.out.kept hg (some_ne HNZ.out))
    have HFX := Lib.hid (HFD.out.trans (Fix.of_grown hg (List.mem_cons_of_mem _ (List.mem_singleton.2 rfl)) : Fix [g, b] _ _))
    clear fb hg y0 y1 y2 y3 hA hf0 hf1
    unfold putF at HKR HFX
    obtain ⟨W6, hW6⟩ : ∃ W, (((w6.setCell ⟨b, o + 4 + N * 4, none⟩ (.int .i64 I)).setCell ⟨b, o + 4 + N * 4 + 1, none⟩ (.int .i64 0)).setCell ⟨b, o + 4 + N * 4 + 2, none⟩ (.bool (flB c.a 0))).setCell ⟨b, o + 4 + N * 4 + 3, none⟩ (.bool (flB c.a 1)) = W := ⟨_, rfl⟩
    rw [hW6] at HS6 HKR HFX ⊢
    clear hW6 HSD HRD HKD HFD
    obtain ⟨x0, x1, x2, x3, x4, x5, x6, x7, x8, x9, x10, x11⟩ := HKR.out.c12
    obtain ⟨f0, f1, f2, f3, f4, f5, f6, f7, f8, f9, f10, f11⟩ := HKR.out.f12
    obtain ⟨s0, s1, s2, s3, s4, s5, s6, s7, s8, s9, s10, s11⟩ := HKR.out.s12
    go_wp2
    exact bodyPost_ret (v := .agg #[.int .i64 0, .int .i64 (N : Int), .int .i64 0, .int .i64 0, .int .i64 0, .int .i64 0, .int .i64 0, .int .i64 0, .int .i64 0, .string ⟨#[]⟩, .slice none 0 0, .slice none 0 0]) (by simp [results, Tryz.results72, go_sem, s0, s1, s2, s3, s4, s5, s6, s7, s8, s9, s10, s11]) rfl (by rw [HX2.out]; exact doq_k (N : Int) HS6.out HFX.out HKR.out HM.out.lr)
  · have e0 : (E != 0) = true := by simpa using qe
    have HX2 := Lib.hid (HK1.out qe)
    clear qe HK1 HK2 hc5 b7
    obtain ⟨x0, x1, x2, x3, x4, x5, x6, x7, x8, x9, x10, x11⟩ := HR5.out.c12
    obtain ⟨f0, f1, f2, f3, f4, f5, f6, f7, f8, f9, f10, f11⟩ := HR5.out.f12
    obtain ⟨s0, s1, s2, s3, s4, s5, s6, s7, s8, s9, s10, s11⟩ := HR5.out.s12
    go_wp2
    exact bodyPost_ret (v := .agg #[.int .i64 E, .int .i64 0, .int .i64 0, .int .i64 0, .int .i64 0, .int .i64 0, .int .i64 0, .int .i64 0, .int .i64 0, .string ⟨#[]⟩, .slice none 0 0, .slice none 0 0]) (by simp [results, Tryz.results72, go_sem, s0, s1, s2, s3, s4, s5, s6, s7, s8, s9, s10, s11]) rfl (by rw [HX2.out]; exact doq_e E HS5.out HF5.out HR5.out HM.out.lr)
end Go.Proofs.YtkmkfolpjlkfoaaGreat
