/-
  The statements' built; the tree of the document's example. The conditions are said at each. What package plant's calls answer, as statements: their proofs come from the code. No condition. Package files' answers, as plain mathematics: flags, files that are opened, read and written. The conditions are said at each. Changes of modes, owners and groups, and of files, in trees with open nodes; plain mathematics. The conditions are said at each. Processes and their calls, as plain mathematics: what each call answers and leaves. No condition. What SysFails, SysApart, SysTree and SysKeeps ask for, as plain mathematics. No condition.
-/
import Derived.Test.YtkmkfolpjlkfoaaGreatM4
import Derived.Test.YtkmkfolpjlkfoaaGreatM5
import Derived.Test.YtkmkfolpjlkfoaaGreatM6
import Derived.Test.YtkmkfolpjlkfoaaGreatM9
import Derived.Test.YtkmkfolpjlkfoaaGreatM10
namespace Go.Proofs.YtkmkfolpjlkfoaaGreat
open Go Go.RowKit
set_option maxRecDepth 100000

attribute [local go_sem] cell_off4 cell_blk4
def isB (m : Int) (l : List Rw) (c : Wh) (T : List Nd) : Prop := (fewR l ∧ c.gs.length ≤ 10) ∧ bldA m l = .good T
def BltAns (w : World) (m : Int) (l : List Rw) (c : Wh) (e : Ending) (w' : World) : Prop :=
  (e = .returned (.tuple #[.pointer none, .bool false]) ∧ ∀ T, ¬ isB m l c T) ∨ ∃ g T, e = .returned (.tuple #[.pointer (some ⟨g, 0, none⟩), .bool true]) ∧ isB m l c T ∧ TabR w' g T (fun _ => True) ∧ w.heap.size ≤ g
set_option maxHeartbeats 8000000 in
theorem built_any (m : Int) (v : Value) (l : List Rw) (c : Wh) (A0 : Option Addr) (n0 k0 : Nat) (w : World) (h : RawsR w v l) (hl : l.length ≤ maxLen) (hi : IntsR w (.slice A0 n0 k0) c.gs) :
    Calls Tryz.prog 30 #[.int .i64 m, v, .agg #[.int .i64 c.u, .int .i64 c.g, .slice A0 n0 k0]] w fun e w' => BltAns w m l c e w' ∧ Below w.heap.size w w' := by
  have hl' : l.length ≤ 9223372036854775807 := by unfold maxLen at hl; omega
  have hn0 : c.gs.length = n0 := ints_len hi
  obtain ⟨F, hF⟩ : ∃ F, BltAns w m l c = F := ⟨_, rfl⟩
  have HNO := Lib.hid (show (∀ T, ¬ isB m l c T) → ∀ w', F (.returned (.tuple #[.pointer none, .bool false])) w' from fun h w' => by rw [← hF]; exact .inl ⟨rfl, h⟩)
  have HYES := Lib.hid (show ∀ g T w', isB m l c T → TabR w' g T (fun _ => True) → w.heap.size ≤ g → F (.returned (.tuple #[.pointer (some ⟨g, 0, none⟩), .bool true])) w' from fun g T w' h1 h2 h3 => by rw [← hF]; exact .inr ⟨g, T, rfl, h1, h2, h3⟩)
  rw [hF]
  have hb1 := ba w (.cells #[.int .i64 c.u, .int .i64 c.g, .slice A0 n0 k0] 35)
  have hk1 := Blk.new w 35 #[.int .i64 c.u, .int .i64 c.g, .slice A0 n0 k0]
  obtain ⟨A, cc, rfl⟩ := raws_form h
  have HA := Lib.hid (h.below hb1)
  obtain ⟨W1, hW1⟩ : ∃ W1, w.alloc (.cells #[.int .i64 c.u, .int .i64 c.g, .slice A0 n0 k0] 35) = W1 := ⟨_, rfl⟩
  rw [hW1] at hb1 hk1 HA
  have HB1 := Lib.hid hb1
  have p2 := hk1.cell 2
  simp at p2
  clear h hl hi hb1 hk1 hF
  by_cases h50 : l.length ≤ 50
  · have y50 : ¬ (l.length : Int) > 50 := by omega
    by_cases h10 : n0 ≤ 10
    · have y10 : ¬ (n0 : Int) > 10 := by omega
      have HGS := Lib.hid (show c.gs.length ≤ 10 by omega)
      have HL50 := Lib.hid h50
      have HM := Lib.hid (fun (hf : fewR l) => build_any m (.slice A l.length cc) l W1 HA.out hf)
      clear hn0 h10 h50
      go_enter Tryz.func30, Tryz.ntmps30
      go_wp2
      go_loopg [8] l.length (fun gh s8 wr => ∃ k : Nat, s8 = .int .i64 k ∧ k ≤ l.length ∧ gh = l.length - k ∧ (∀ r ∈ l.take k, shortR r) ∧ W1 = wr)
      case atStart => exact ⟨0, rfl, Nat.zero_le _, rfl, fun e h => by simp at h, rfl⟩
      case round =>
        obtain ⟨k, rfl, hk, rfl, hgo, rfl⟩ := hrel
        have HG := Lib.hid hgo
        clear hgo
        by_cases hlt : k < l.length
        · have hlt' : (k : Int) < (l.length : Int) := by omega
          obtain ⟨r, hr⟩ : ∃ r, l[k]? = some r := ⟨_, List.getElem?_eq_getElem hlt⟩
          obtain ⟨ad, vd, hA, c0, ⟨c1, c2, c3, c4, c5, c6, c7, c8⟩, hd⟩ := raws_get HA.out hr
          subst hA
          have HK := Lib.hid hr
          obtain ⟨A1, k1, rfl⟩ := bytes_form hd rfl
          have HTK := Lib.hid (take_snoc' hr)
          have hs1 := size_bA r.name
          have hs2 := size_bA r.target
          clear hr hd
          by_cases q1 : r.name.length ≤ 40
          · have y1 : ¬ ((bA r.name).size : Int) > 40 := by rw [hs1]; omega
            by_cases q2 : r.data.length ≤ 100
            · have y2 : ¬ (r.data.length : Int) > 100 := by omega
              by_cases q3 : r.target.length ≤ 100
              · have y3 : ¬ ((bA r.target).size : Int) > 100 := by rw [hs2]; omega
                have HQ := Lib.hid (show shortR r from ⟨q1, q2, q3⟩)
                clear q1 q2 q3 hs1 hs2
                go_wp2
                go_roundg (l.length - (k + 1))
                case measure => omega
                case rel => exact ⟨k + 1, by go_num, by omega, rfl, (fun b hb => by
                  rw [HTK.out] at hb
                  rcases List.mem_append.1 hb with hb | hb
                  · exact HG.out b hb
                  · rw [List.mem_singleton] at hb
                    rw [hb]
                    exact HQ.out), rfl⟩
              · have y3 : ((bA r.target).size : Int) > 100 := by rw [hs2]; omega
                have HX := Lib.hid (show ∀ T, ¬ isB m l c T from fun T h => q3 (h.1.1.1 r (List.mem_of_getElem? HK.out)).2.2)
                clear q1 q2 q3 hs1 hs2
                go_wp2
                go_ret2
                exact ⟨HNO.out HX.out _, HB1.out⟩
            · have y2 : (r.data.length : Int) > 100 := by omega
              have HX := Lib.hid (show ∀ T, ¬ isB m l c T from fun T h => q2 (h.1.1.1 r (List.mem_of_getElem? HK.out)).2.1)
              clear q1 q2 hs1 hs2
              go_wp2
              go_ret2
              exact ⟨HNO.out HX.out _, HB1.out⟩
          · have y1 : ((bA r.name).size : Int) > 40 := by rw [hs1]; omega
            have HX := Lib.hid (show ∀ T, ¬ isB m l c T from fun T h => q1 (h.1.1.1 r (List.mem_of_getElem? HK.out)).1)
            clear q1 hs1 hs2
            go_wp2
            go_ret2
            exact ⟨HNO.out HX.out _, HB1.out⟩
        · have hlt' : ¬ (k : Int) < (l.length : Int) := by omega
          have HF := Lib.hid (show fewR l from ⟨by have := HG.out; rw [List.take_of_length_le (by omega)] at this; exact this, HL50.out⟩)
          have HM2 := Lib.hid (HM.out HF.out)
          cases hX : bldA m l with
          | bad k2 e2 =>
            rw [hX] at HM2
            have HX := Lib.hid (show ∀ T, ¬ isB m l c T from fun T h => by have h2 := h.2; rw [hX] at h2; cases h2)
            clear hX HM
            go_wp2_with fail
            refine HM2.out.mono ?_
            rintro e w3 ⟨⟨rfl, hne⟩, hb3⟩
            have HB3 := Lib.hid (bt hb3 HB1.out)
            have q0 : (e2 == 0) = false := by simpa using hne
            clear hne hb3
            go_wp2
            go_ret2
            exact ⟨HNO.out HX.out _, HB3.out⟩
          | good T =>
            rw [hX] at HM2
            have HX := Lib.hid (show isB m l c T from ⟨⟨HF.out, HGS.out⟩, hX⟩)
            clear hX HM
            go_wp2_with fail
            refine HM2.out.mono ?_
            rintro e w3 ⟨⟨g, rfl, ht, hg⟩, hb3⟩
            have HT := Lib.hid ht
            have HB3 := Lib.hid (bt hb3 HB1.out)
            have HGG := Lib.hid (Nat.le_trans HB1.out.size hg)
            clear ht hb3 hg
            go_wp2
            go_ret2
            exact ⟨HYES.out g T _ HX.out HT.out HGG.out, HB3.out⟩
    · have y10 : (n0 : Int) > 10 := by omega
      have HX := Lib.hid (show ∀ T, ¬ isB m l c T from fun T h => h10 (by have := h.1.2; omega))
      clear hn0 h10 h50
      go_enter Tryz.func30, Tryz.ntmps30
      go_wp2
      go_ret2
      exact ⟨HNO.out HX.out _, HB1.out⟩
  · have y50 : (l.length : Int) > 50 := by omega
    have HX := Lib.hid (show ∀ T, ¬ isB m l c T from fun T h => h50 h.1.1.2)
    clear hn0 h50
    go_enter Tryz.func30, Tryz.ntmps30
    go_wp2
    go_ret2
    exact ⟨HNO.out HX.out _, HB1.out⟩
end Go.Proofs.YtkmkfolpjlkfoaaGreat
namespace Go.Proofs.YtkmkfolpjlkfoaaGreat
open Go Go.RowKit
set_option maxRecDepth 100000

end Go.Proofs.YtkmkfolpjlkfoaaGreat
namespace Go.Proofs.YtkmkfolpjlkfoaaGreat
open Go Go.RowKit
set_option maxRecDepth 100000

attribute [local go_sem] cell_off4 cell_blk4
noncomputable def mkE (t : List Nd) (c : Wh) (umask : Int) (p : Nm) (mode : Int) : Int := plE t c (resM t c p false) 2 (mkM mode umask) []
noncomputable def mkT (t : List Nd) (c : Wh) (umask : Int) (p : Nm) (mode : Int) : List Nd := plT t c (resM t c p false) 2 (mkM mode umask) []
noncomputable def syE (t : List Nd) (c : Wh) (tg p : Nm) : Int := if tg = [] then 2 else if 64 < tg.length then 36 else if tg.contains 0 = true then 22 else plE t c (resM t c p false) 3 511 tg
noncomputable def syT (t : List Nd) (c : Wh) (tg p : Nm) : List Nd := if syE t c tg p = 0 then plT t c (resM t c p false) 3 511 tg else t
noncomputable def crE (t : List Nd) (c : Wh) (umask : Int) (p : Nm) (mode : Int) (f : Bool) : Int := plE t c (resM t c p f) 1 (mskM mode umask) []
noncomputable def crT (t : List Nd) (c : Wh) (umask : Int) (p : Nm) (mode : Int) (f : Bool) : List Nd := plT t c (resM t c p f) 1 (mskM mode umask) []
noncomputable def crI (t : List Nd) (c : Wh) (umask : Int) (p : Nm) (mode : Int) (f : Bool) : Int := plI t c (resM t c p f) 1 (mskM mode umask) []
def MkdirC : Prop := ∀ (g : Nat) (t : List Nd) (P : Nat → Prop) (c : Wh) (A0 : Option Addr) (m k : Nat) (umask : Int) (p : Nm) (mode : Int) (w : World), TabR w g t P → okT t → CrR w c A0 m k → (∀ b, w.heap.size ≤ b → P b) →
    Calls Tryz.prog 112 #[.pointer (some ⟨g, 0, none⟩), .agg #[.int .i64 c.u, .int .i64 c.g, .slice A0 m k], .int .i64 umask, .string (bA p), .int .i64 mode] w fun e w' => e = .returned (.int .i64 (mkE t c umask p mode)) ∧ TabR w' g (mkT t c umask p mode) P ∧ w.grownBy w' (some g)
def SymlinkC : Prop := ∀ (g : Nat) (t : List Nd) (P : Nat → Prop) (c : Wh) (A0 : Option Addr) (m k : Nat) (tg p : Nm) (w : World), TabR w g t P → okT t → CrR w c A0 m k → tg.length ≤ 1000 → (∀ b, w.heap.size ≤ b → P b) →
    Calls Tryz.prog 113 #[.pointer (some ⟨g, 0, none⟩), .agg #[.int .i64 c.u, .int .i64 c.g, .slice A0 m k], .string (bA tg), .string (bA p)] w fun e w' => e = .returned (.int .i64 (syE t c tg p)) ∧ TabR w' g (syT t c tg p) P ∧ w.grownBy w' (some g)
def CreateC : Prop := ∀ (g : Nat) (t : List Nd) (P : Nat → Prop) (c : Wh) (A0 : Option Addr) (m k : Nat) (umask : Int) (p : Nm) (mode : Int) (f : Bool) (w : World), TabR w g t P → okT t → CrR w c A0 m k → (∀ b, w.heap.size ≤ b → P b) →
    Calls Tryz.prog 176 #[.pointer (some ⟨g, 0, none⟩), .agg #[.int .i64 c.u, .int .i64 c.g, .slice A0 m k], .int .i64 umask, .string (bA p), .int .i64 mode, .bool f] w fun e w' => e = .returned (.tuple #[.int .i64 (crI t c umask p mode f), .int .i64 (crE t c umask p mode f)]) ∧ TabR w' g (crT t c umask p mode f) P ∧ w.grownBy w' (some g)
end Go.Proofs.YtkmkfolpjlkfoaaGreat
namespace Go.Proofs.YtkmkfolpjlkfoaaGreat
open Go Go.RowKit
set_option maxRecDepth 100000

def flB (fl : Int) (i : Nat) : Bool := fl.toNat.testBit i
def flR (fl : Int) : Bool := decide (0 ≤ fl ∧ fl ≤ 63) && ((flB fl 0 || flB fl 1) && ((!flB fl 4 || flB fl 1) && (!flB fl 3 || flB fl 2)))
def flF (fl : Int) : Bool := !flB fl 5 && !flB fl 3
def wrN (c : Wh) (n : Nd) (b : List UInt8) : Nd := ⟨n.kind, writM c.u n.kind n.mode, n.uid, n.gid, b, n.ents, n.target⟩
def flC (t : List Nd) (c : Wh) (fl i : Int) : Bool := (flB fl 0 && !canT t c i 4) || (flB fl 1 && !canT t c i 2)
def fxE (t : List Nd) (c : Wh) (fl i : Int) : Int :=
  if flB fl 3 = true then 17 else if (tget t i).kind = 3 then 40 else if (tget t i).kind = 2 then 21 else if flC t c fl i = true then 13 else 0
noncomputable def foE (t : List Nd) (c : Wh) (um : Int) (p : Nm) (fl md : Int) : Int :=
  if flR fl = false then 22 else if (resM t c p (flF fl)).2 ≠ 0 then (resM t c p (flF fl)).2
  else if (resM t c p (flF fl)).1.node = 0 then (if flB fl 2 = false then 2 else crE t c um p md (flF fl)) else fxE t c fl (resM t c p (flF fl)).1.node
noncomputable def foT (t : List Nd) (c : Wh) (um : Int) (p : Nm) (fl md : Int) : List Nd :=
  if foE t c um p fl md ≠ 0 then t else if (resM t c p (flF fl)).1.node = 0 then crT t c um p md (flF fl)
  else if flB fl 4 = true then setT t (resM t c p (flF fl)).1.node (wrN c (tget t (resM t c p (flF fl)).1.node) []) else t
noncomputable def foI (t : List Nd) (c : Wh) (um : Int) (p : Nm) (fl md : Int) : Int :=
  if foE t c um p fl md ≠ 0 then 0 else if (resM t c p (flF fl)).1.node = 0 then crI t c um p md (flF fl) else (resM t c p (flF fl)).1.node
def faE (t : List Nd) (i off n : Int) : Int := if (tget t i).kind ≠ 1 then 9 else if off < 0 ∨ n < 0 then 22 else 0
def faB (t : List Nd) (i off n : Int) : List UInt8 := if faE t i off n = 0 then ((tget t i).data.drop off.toNat).take n.toNat else []
def ovr (d : List UInt8) (off : Nat) (b : List UInt8) : List UInt8 := (d ++ List.replicate (off - d.length) 0).take off ++ (b ++ d.drop (off + b.length))
def fwE (t : List Nd) (i off : Int) (b : List UInt8) : Int := if (tget t i).kind ≠ 1 then 9 else if off < 0 then 22 else if b = [] then 0 else if 48 < off + (b.length : Int) then 27 else 0
def fwT (t : List Nd) (c : Wh) (i off : Int) (b : List UInt8) : List Nd := if fwE t i off b = 0 ∧ b ≠ [] then setT t i (wrN c (tget t i) (ovr (tget t i).data off.toNat b)) else t
theorem ovr_len (d : List UInt8) (off : Nat) (b : List UInt8) : (ovr d off b).length = max d.length (off + b.length) := by
  unfold ovr
  rw [List.length_append, List.length_append, List.length_take, List.length_append, List.length_replicate, List.length_drop]
  omega
theorem file_parts {n : Nd} (h : rightP n) (hk : n.kind = 1) : headP n ∧ n.ents = [] ∧ n.target = [] ∧ n.data.length ≤ 48 := by
  obtain ⟨h1, h2 | h2 | h2⟩ := h
  · exact ⟨h1, h2.2⟩
  · exact absurd (hk.symm.trans h2.1) (by decide)
  · exact absurd (hk.symm.trans h2.1) (by decide)
theorem wr_right {n : Nd} (h : rightP n) (hk : n.kind = 1) (c : Wh) {b : List UInt8} (hb : b.length ≤ 48) : rightP (wrN c n b) := by
  obtain ⟨⟨h1, h2, h3⟩, h4, h5, -⟩ := file_parts h hk
  have hw := writ_bd c.u n.kind n.mode
  exact ⟨⟨⟨hw.1, by have := hw.2; show writM c.u n.kind n.mode ≤ 4095; omega⟩, h2, h3⟩, .inl ⟨hk, h4, h5, hb⟩⟩
theorem fx_zero {t : List Nd} {c : Wh} {fl i : Int} (h : fxE t c fl i = 0) : flB fl 3 = false ∧ (tget t i).kind ≠ 3 ∧ (tget t i).kind ≠ 2 ∧ flC t c fl i = false := by
  unfold fxE at h
  cases h3 : flB fl 3 with
  | true => rw [h3, if_pos rfl] at h; exact absurd h (by decide)
  | false =>
    rw [h3, if_neg (by decide)] at h
    by_cases k3 : (tget t i).kind = 3
    · rw [if_pos k3] at h; exact absurd h (by decide)
    rw [if_neg k3] at h
    by_cases k2 : (tget t i).kind = 2
    · rw [if_pos k2] at h; exact absurd h (by decide)
    rw [if_neg k2] at h
    cases hc : flC t c fl i with
    | true => rw [hc, if_pos rfl] at h; exact absurd h (by decide)
    | false => exact ⟨rfl, k3, k2, rfl⟩
theorem flr_can {fl : Int} (h : flR fl = true) : flB fl 0 = true ∨ flB fl 1 = true := by
  unfold flR at h
  simp only [Bool.and_eq_true, Bool.or_eq_true] at h
  exact h.2.1
theorem fo_zero {t : List Nd} {c : Wh} {um : Int} {p : Nm} {fl md : Int} (h : foE t c um p fl md = 0) : flR fl = true ∧ (resM t c p (flF fl)).2 = 0 ∧
    ((resM t c p (flF fl)).1.node = 0 ∧ flB fl 2 = true ∧ crE t c um p md (flF fl) = 0 ∨ (resM t c p (flF fl)).1.node ≠ 0 ∧ fxE t c fl (resM t c p (flF fl)).1.node = 0) := by
  unfold foE at h
  cases hr : flR fl with
  | false => rw [hr, if_pos rfl] at h; exact absurd h (by decide)
  | true =>
    rw [hr, if_neg (by decide)] at h
    by_cases h2 : (resM t c p (flF fl)).2 = 0
    · rw [if_neg (fun q => q h2)] at h
      refine ⟨rfl, h2, ?_⟩
      by_cases h3 : (resM t c p (flF fl)).1.node = 0
      · rw [if_pos h3] at h
        cases h4 : flB fl 2 with
        | false => rw [h4, if_pos rfl] at h; exact absurd h (by decide)
        | true => rw [h4, if_neg (by decide)] at h; exact .inl ⟨h3, rfl, h⟩
      · rw [if_neg h3] at h
        exact .inr ⟨h3, h⟩
    · rw [if_pos h2] at h
      exact absurd h h2
theorem flc_tis {t : List Nd} {c : Wh} {fl i : Int} (hc : flC t c fl i = false) (hr : flR fl = true) : tis t i = true := by
  unfold flC canT at hc
  rcases flr_can hr with q | q
  · rw [q] at hc
    cases ht : tis t i with
    | true => rfl
    | false => rw [ht] at hc; simp at hc
  · rw [q] at hc
    cases ht : tis t i with
    | true => rfl
    | false => rw [ht] at hc; simp at hc
theorem fx_file {t : List Nd} (ho : okT t) {c : Wh} {fl i : Int} (h : fxE t c fl i = 0) (hr : flR fl = true) : (tget t i).kind = 1 ∧ tis t i = true := by
  obtain ⟨-, k3, k2, hc⟩ := fx_zero h
  have hi := flc_tis hc hr
  refine ⟨?_, hi⟩
  obtain ⟨-, q | q | q⟩ := tis_right ho hi
  · exact q.1
  · exact absurd q.1 k2
  · exact absurd q.1 k3
theorem fw_zero {t : List Nd} {i off : Int} {b : List UInt8} (h : fwE t i off b = 0) : (tget t i).kind = 1 ∧ 0 ≤ off ∧ (b ≠ [] → off + (b.length : Int) ≤ 48) := by
  unfold fwE at h
  by_cases hk : (tget t i).kind = 1
  · rw [if_neg (fun q => q hk)] at h
    by_cases h0 : off < 0
    · rw [if_pos h0] at h; exact absurd h (by decide)
    · rw [if_neg h0] at h
      refine ⟨hk, by omega, fun hb => ?_⟩
      rw [if_neg hb] at h
      by_cases h8 : 48 < off + (b.length : Int)
      · rw [if_pos h8] at h; exact absurd h (by decide)
      · omega
  · rw [if_pos hk] at h
    exact absurd h (by decide)
theorem kind_is {t : List Nd} {i : Int} (h : (tget t i).kind = 1) : tis t i = true := by unfold tis; rw [h]; rfl
theorem fw_right {t : List Nd} (ho : okT t) (c : Wh) {i off : Int} {b : List UInt8} (h : fwE t i off b = 0) (hb : b ≠ []) : rightP (wrN c (tget t i) (ovr (tget t i).data off.toNat b)) := by
  obtain ⟨hk, h0, h1⟩ := fw_zero h
  have hr := tis_right ho (kind_is hk)
  refine wr_right hr hk c ?_
  rw [ovr_len]
  have h2 := (file_parts hr hk).2.2.2
  have h3 := h1 hb
  omega
theorem fo_right {t : List Nd} (ho : okT t) (c : Wh) {fl i : Int} (h : fxE t c fl i = 0) (hr : flR fl = true) : rightP (wrN c (tget t i) []) :=
  wr_right (tis_right ho (fx_file ho h hr).2) (fx_file ho h hr).1 c (Nat.zero_le _)
theorem fo_err {t : List Nd} {c : Wh} {um : Int} {p : Nm} {fl md : Int} (h : foE t c um p fl md ≠ 0) : foT t c um p fl md = t ∧ foI t c um p fl md = 0 := ⟨if_pos h, if_pos h⟩
end Go.Proofs.YtkmkfolpjlkfoaaGreat
namespace Go.Proofs.YtkmkfolpjlkfoaaGreat
open Go Go.RowKit
set_option maxRecDepth 100000

theorem wlk_nolink {t : List Nd} (ho : okT t) (h1 : (tget t 1).kind ≠ 3) {c : Wh} : ∀ k l i, (tget t i).kind ≠ 3 → (wlk t c true k l i).2 = 0 → (tget t (wlk t c true k l i).1.node).kind ≠ 3 := by
  refine wlk_ind (fun k i hi _ => ?_) (fun k n r i ih ih2 hi => ?_)
  · rw [wlk_nil]
    exact hi
  rcases wlk_step t c true k n r i with ⟨a, e⟩ | ⟨a, b, e⟩ | ⟨a, b, e⟩ | ⟨a, b, d, e⟩ | ⟨a, b, d, ⟨x, y, e⟩ | ⟨x, y, ⟨z, e⟩ | ⟨j, hj, e⟩⟩ | ⟨x, y, e⟩ | ⟨x, y, z, e⟩⟩ <;> rw [e]
  · exact fun q => absurd q a
  · exact ih _ hi
  · refine ih _ ?_
    unfold upI
    split
    · rename_i q
      have h2 := (par_dir ho (j := i) (by unfold parF; omega)).1
      unfold parF at h2
      rw [h2]
      decide
    · exact hi
  · exact fun q => absurd q (by decide)
  · exact fun q => absurd q (by decide)
  · exact fun q => absurd q (by decide)
  · subst hj
    refine ih2 j _ _ (Nat.lt_succ_self _) ?_
    split
    · exact h1
    · exact hi
  · exact fun _ z => x ⟨z, .inl rfl⟩
  · exact ih _ (fun q => x ⟨q, .inl rfl⟩)
theorem res_nolink {t : List Nd} (ho : okT t) (h1 : (tget t 1).kind ≠ 3) {c : Wh} {p : Nm} (hz : (resM t c p true).2 = 0) : (tget t (resM t c p true).1.node).kind ≠ 3 := by
  by_cases hf : fitE t p = 0
  · have e : resM t c p true = wlk t c true 8 (splitP p) 1 := by
      unfold resM
      rw [if_neg (fun q => q hf)]
    rw [e] at hz ⊢
    exact wlk_nolink ho h1 8 (splitP p) 1 h1 hz
  · have e : resM t c p true = (Fo.zero, fitE t p) := by
      unfold resM
      rw [if_pos hf]
    rw [e] at hz
    exact absurd hz hf
theorem sta_nolinkO {t : List Nd} (ho : okT t) (h1 : (tget t 1).kind ≠ 3) {c : Wh} {p : Nm} (h : (staM t c p true).2 = 0) : (tget t (staM t c p true).1.node).kind ≠ 3 := by
  obtain ⟨h2, -, h3, -⟩ := staM_zero h
  rw [← h3]
  exact res_nolink ho h1 h2
structure Kpa (t t' : List Nd) (O : Int → Prop) : Prop where
  tro : Tro t' O
  kind : ∀ j, (tget t' j).kind = (tget t j).kind
  len : t'.length = t.length
theorem kpa_refl {t : List Nd} {O : Int → Prop} (h : Tro t O) : Kpa t t O := ⟨h, fun _ => rfl, rfl⟩
theorem kpa_set {t : List Nd} {O : Int → Prop} (h : Tro t O) {i : Int} {n : Nd} (hi : tis t i = true) (hk : n.kind = (tget t i).kind) (he : n.ents = (tget t i).ents) (hr : rightP n) : Kpa t (setT t i n) O := by
  refine ⟨tro_set h hi hk he hr, fun j => ?_, len_setT ..⟩
  rw [tget_set (tis_in hi)]
  split
  · rename_i q; rw [q]; exact hk
  · rfl
theorem chm_kpa {t : List Nd} {O : Int → Prop} (h : Tro t O) (c : Wh) (p : Nm) (mode : Int) : Kpa t (chmT t c p mode) O := by
  by_cases he : chmE t c p mode = 0
  · have hz := (chm_zero he).2.1
    obtain ⟨hi, -⟩ := sta_there hz
    rw [chmT_set he]
    exact kpa_set h hi rfl rfl (chm_right (tis_right h.ok hi) (sta_nolinkO h.ok (by rw [h.one]; decide) hz) c mode)
  · rw [chmT_err he]
    exact kpa_refl h
theorem chw_kpa {t : List Nd} {O : Int → Prop} (h : Tro t O) (c : Wh) (p : Nm) (uid gid : Int) (f : Bool) : Kpa t (chwT t c p uid gid f) O := by
  by_cases he : chwE t c p uid gid f = 0
  · by_cases hn : uid < 0 ∧ gid < 0
    · rw [chwT_none hn]
      exact kpa_refl h
    · obtain ⟨⟨hu, hg⟩, hz, -⟩ := chw_zero he
      obtain ⟨hi, -⟩ := sta_there hz
      rw [chwT_set he hn]
      exact kpa_set h hi rfl rfl (chw_right (tis_right h.ok hi) c hu hg)
  · rw [chwT_err he]
    exact kpa_refl h
theorem fw_kpa {t : List Nd} {O : Int → Prop} (h : Tro t O) (c : Wh) (i off : Int) (b : List UInt8) : Kpa t (fwT t c i off b) O := by
  unfold fwT
  by_cases he : fwE t i off b = 0 ∧ b ≠ []
  · rw [if_pos he]
    exact kpa_set h (kind_is (fw_zero he.1).1) rfl rfl (fw_right h.ok c he.1 he.2)
  · rw [if_neg he]
    exact kpa_refl h
theorem pl_kpo {t : List Nd} {O : Int → Prop} (h : Tro t O) (c : Wh) (p : Nm) (f : Bool) {k : Int} (m : Int) (tg : Nm) (hk4 : k ≠ 4) : Tro (plT t c (resM t c p f) k m tg) O ∧ (∀ j, tis t j = true → noE (tget (plT t c (resM t c p f) k m tg) j) = noE (tget t j)) ∧ (plT t c (resM t c p f) k m tg).length = t.length := by
  by_cases hz : plE t c (resM t c p f) k m tg = 0
  · obtain ⟨h1, h2, -⟩ := tro_plant h hk4 hz
    refine ⟨h1, h2, ?_⟩
    have e : plT t c (resM t c p f) k m tg = blT t (plR t c (resM t c p f).1 k m tg) := if_pos hz
    rw [e, bl_len]
  · rw [(pl_err hz).1]
    exact ⟨h, fun _ _ => rfl, rfl⟩
theorem fo_kpo {t : List Nd} {O : Int → Prop} (h : Tro t O) (c : Wh) (um : Int) (p : Nm) (fl md : Int) : Tro (foT t c um p fl md) O ∧ (∀ j, tis t j = true → (tget (foT t c um p fl md) j).kind = (tget t j).kind) ∧ (foT t c um p fl md).length = t.length ∧
    (foE t c um p fl md = 0 → (tget (foT t c um p fl md) (foI t c um p fl md)).kind = 1) := by
  by_cases hz : foE t c um p fl md = 0
  · obtain ⟨h1, h2, h3⟩ := fo_zero hz
    rcases h3 with ⟨h3, -, h4⟩ | ⟨h3, h4⟩
    · have eT : foT t c um p fl md = crT t c um p md (flF fl) := by
        unfold foT
        rw [if_neg (fun q => q hz), if_pos h3]
      have eI : foI t c um p fl md = crI t c um p md (flF fl) := by
        unfold foI
        rw [if_neg (fun q => q hz), if_pos h3]
      rw [eT, eI]
      obtain ⟨g1, g2, g3⟩ := pl_kpo h c p (flF fl) (k := 1) (mskM md um) [] (by decide)
      refine ⟨g1, fun j hj => kind_noE (g2 j hj), g3, fun _ => ?_⟩
      have e1 : crI t c um p md (flF fl) = (freeT t 0 : Int) := if_pos h4
      rw [e1]
      have e2 := (tro_plant h (by decide) h4).2.2.1
      unfold crT
      rw [e2]
      rfl
    · have eI : foI t c um p fl md = (resM t c p (flF fl)).1.node := by
        unfold foI
        rw [if_neg (fun q => q hz), if_neg h3]
      have eT : foT t c um p fl md = if flB fl 4 = true then setT t (resM t c p (flF fl)).1.node (wrN c (tget t (resM t c p (flF fl)).1.node) []) else t := by
        unfold foT
        rw [if_neg (fun q => q hz), if_neg h3]
      obtain ⟨k1, k2⟩ := fx_file h.ok h4 h1
      rw [eI, eT]
      by_cases q : flB fl 4 = true
      · rw [if_pos q]
        have ka := kpa_set (n := wrN c (tget t (resM t c p (flF fl)).1.node) []) h k2 rfl rfl (fo_right h.ok c h4 h1)
        exact ⟨ka.tro, fun j _ => ka.kind j, ka.len, fun _ => by rw [ka.kind]; exact k1⟩
      · rw [if_neg q]
        exact ⟨h, fun _ _ => rfl, rfl, fun _ => k1⟩
  · rw [(fo_err hz).1]
    exact ⟨h, fun _ _ => rfl, rfl, fun q => absurd q hz⟩
end Go.Proofs.YtkmkfolpjlkfoaaGreat
namespace Go.Proofs.YtkmkfolpjlkfoaaGreat
open Go Go.RowKit
set_option maxRecDepth 100000

structure Fdm where
  node : Int
  off : Int
  rd : Bool
  wr : Bool
  deriving DecidableEq
def Fdm.zero : Fdm := ⟨0, 0, false, false⟩
structure Prm where
  c : Wh
  um : Int
  f : List Fdm
structure Sym where
  t : List Nd
  p : List Prm
structure Cal where
  kind : Int
  path : Nm
  other : Nm
  a : Int
  b : Int
  data : List UInt8
structure Rsm where
  err : Int
  n : Int
  stat : Sta
  text : Nm
  names : List Nm
  data : List UInt8
def Rsm.e (x : Int) : Rsm := ⟨x, 0, Sta.zero, [], [], []⟩
def Rsm.k (n : Int) : Rsm := ⟨0, n, Sta.zero, [], [], []⟩
def opnF (l : List Fdm) : List Int := (l.filter (fun f => f.node != 0)).map (·.node)
def opnP (l : List Prm) : List Int := l.flatMap (fun p => opnF p.f)
def opnS (S : Sym) : List Int := opnP S.p
def Prm.setF (p : Prm) (i : Nat) (f : Fdm) : Prm := ⟨p.c, p.um, p.f.set i f⟩
def Prm.fd (p : Prm) (a : Int) : Fdm := if 0 ≤ a then p.f.getD a.toNat Fdm.zero else Fdm.zero
def frePl (p : Prm) : Nat := p.f.findIdx (fun f => f.node == 0)
noncomputable def opnK (S : Sym) (j : Nat) (p : Prm) (c : Cal) : Sym × Rsm :=
  if p.f.length ≤ frePl p then (S, Rsm.e 24)
  else if foE S.t p.c p.um c.path c.a c.b ≠ 0 then (S, Rsm.e (foE S.t p.c p.um c.path c.a c.b))
  else (⟨foT S.t p.c p.um c.path c.a c.b, S.p.set j (p.setF (frePl p) ⟨foI S.t p.c p.um c.path c.a c.b, 0, flB c.a 0, flB c.a 1⟩)⟩, Rsm.k (frePl p))
def reaK (S : Sym) (j : Nat) (p : Prm) (c : Cal) : Sym × Rsm :=
  if (p.fd c.a).node = 0 ∨ (p.fd c.a).rd = false then (S, Rsm.e 9)
  else if faE S.t (p.fd c.a).node (p.fd c.a).off c.b ≠ 0 then (S, Rsm.e (faE S.t (p.fd c.a).node (p.fd c.a).off c.b))
  else (⟨S.t, S.p.set j (p.setF c.a.toNat ⟨(p.fd c.a).node, (p.fd c.a).off + (faB S.t (p.fd c.a).node (p.fd c.a).off c.b).length, (p.fd c.a).rd, (p.fd c.a).wr⟩)⟩, ⟨0, 0, Sta.zero, [], [], faB S.t (p.fd c.a).node (p.fd c.a).off c.b⟩)
def wriK (S : Sym) (j : Nat) (p : Prm) (c : Cal) : Sym × Rsm :=
  if (p.fd c.a).node = 0 ∨ (p.fd c.a).wr = false then (S, Rsm.e 9)
  else if fwE S.t (p.fd c.a).node (p.fd c.a).off c.data ≠ 0 then (S, Rsm.e (fwE S.t (p.fd c.a).node (p.fd c.a).off c.data))
  else (⟨fwT S.t p.c (p.fd c.a).node (p.fd c.a).off c.data, S.p.set j (p.setF c.a.toNat ⟨(p.fd c.a).node, (p.fd c.a).off + c.data.length, (p.fd c.a).rd, (p.fd c.a).wr⟩)⟩, Rsm.k c.data.length)
def shuS (S : Sym) (j : Nat) (p : Prm) (a : Nat) : Sym := ⟨frT S.t (p.f.getD a Fdm.zero).node (opnP (S.p.set j (p.setF a Fdm.zero))), S.p.set j (p.setF a Fdm.zero)⟩
def cloK (S : Sym) (j : Nat) (p : Prm) (c : Cal) : Sym × Rsm := if (p.fd c.a).node = 0 then (S, Rsm.e 9) else (shuS S j p c.a.toNat, Rsm.e 0)
def sh1 (S : Sym) (j : Nat) (a : Nat) : Sym := match S.p[j]? with
  | none => S
  | some p => if (p.f.getD a Fdm.zero).node = 0 then S else shuS S j p a
def exiS (S : Sym) (j : Nat) : Sym := sh1 (sh1 (sh1 S j 0) j 1) j 2
noncomputable def doK : Nat → Sym → Nat → Prm → Cal → Sym × Rsm
  | 1, S, _, p, c => (S, ⟨(staM S.t p.c c.path true).2, 0, (staM S.t p.c c.path true).1, [], [], []⟩)
  | 2, S, _, p, c => (S, ⟨(staM S.t p.c c.path false).2, 0, (staM S.t p.c c.path false).1, [], [], []⟩)
  | 3, S, _, p, c => (S, ⟨(rdlM S.t p.c c.path).2, 0, Sta.zero, (rdlM S.t p.c c.path).1, [], []⟩)
  | 4, S, _, p, c => (S, ⟨(lstM S.t p.c c.path).2, 0, Sta.zero, [], (lstM S.t p.c c.path).1, []⟩)
  | 5, S, _, p, c => (⟨chmT S.t p.c c.path c.a, S.p⟩, Rsm.e (chmE S.t p.c c.path c.a))
  | 6, S, _, p, c => (⟨chwT S.t p.c c.path c.a c.b true, S.p⟩, Rsm.e (chwE S.t p.c c.path c.a c.b true))
  | 7, S, _, p, c => (⟨chwT S.t p.c c.path c.a c.b false, S.p⟩, Rsm.e (chwE S.t p.c c.path c.a c.b false))
  | 8, S, _, p, c => (⟨mkT S.t p.c p.um c.path c.a, S.p⟩, Rsm.e (mkE S.t p.c p.um c.path c.a))
  | 9, S, _, p, c => (⟨syT S.t p.c c.other c.path, S.p⟩, Rsm.e (syE S.t p.c c.other c.path))
  | 10, S, _, p, c => (⟨ulT S.t p.c (resM S.t p.c c.path false) (opnS S), S.p⟩, Rsm.e (ulE S.t p.c (resM S.t p.c c.path false)))
  | 11, S, _, p, c => (⟨rdT S.t p.c (resM S.t p.c c.path false), S.p⟩, Rsm.e (rdE S.t p.c (resM S.t p.c c.path false)))
  | 12, S, _, p, c => (⟨mvT S.t p.c (resM S.t p.c c.path false) (resM S.t p.c c.other false) (opnS S), S.p⟩, Rsm.e (mvE S.t p.c (resM S.t p.c c.path false) (resM S.t p.c c.other false)))
  | 13, S, j, p, c => opnK S j p c
  | 14, S, j, p, c => reaK S j p c
  | 15, S, j, p, c => wriK S j p c
  | 16, S, j, p, c => cloK S j p c
  | 17, S, j, p, c => (⟨S.t, S.p.set j ⟨p.c, c.a % 512, p.f⟩⟩, Rsm.k p.um)
  | 18, S, j, _, _ => (exiS S j, Rsm.e 0)
  | _, S, _, _, _ => (S, Rsm.e 22)
def prI (S : Sym) (pid : Int) : Option Prm := if 0 ≤ pid then S.p[pid.toNat]? else none
noncomputable def doS (S : Sym) (pid : Int) (c : Cal) : Sym × Rsm := match prI S pid with
  | none => (S, Rsm.e 22)
  | some p => if 1 ≤ c.kind ∧ c.kind ≤ 18 then doK c.kind.toNat S pid.toNat p c else (S, Rsm.e 22)

/-! Open nodes. -/
theorem opnF_mem {l : List Fdm} {j : Int} : j ∈ opnF l ↔ ∃ f ∈ l, f.node ≠ 0 ∧ f.node = j := by
  unfold opnF
  rw [List.mem_map]
  constructor
  · rintro ⟨f, h1, h2⟩
    rw [List.mem_filter] at h1
    exact ⟨f, h1.1, by simpa using h1.2, h2⟩
  · rintro ⟨f, h1, h2, h3⟩
    exact ⟨f, List.mem_filter.2 ⟨h1, by simpa using h2⟩, h3⟩
theorem opnP_mem {l : List Prm} {j : Int} : j ∈ opnP l ↔ ∃ p ∈ l, j ∈ opnF p.f := by unfold opnP; rw [List.mem_flatMap]
theorem opnF_set {l : List Fdm} {i : Nat} {f : Fdm} {j : Int} (h : j ∈ opnF (l.set i f)) : j ∈ opnF l ∨ (f.node ≠ 0 ∧ f.node = j) := by
  obtain ⟨g, h1, h2, h3⟩ := opnF_mem.1 h
  rcases List.mem_or_eq_of_mem_set h1 with q | q
  · exact .inl (opnF_mem.2 ⟨g, q, h2, h3⟩)
  · exact .inr ⟨by rw [← q]; exact h2, by rw [← q]; exact h3⟩
theorem opnP_set {l : List Prm} {i : Nat} {p : Prm} {j : Int} (h : j ∈ opnP (l.set i p)) : j ∈ opnP l ∨ j ∈ opnF p.f := by
  obtain ⟨q, h1, h2⟩ := opnP_mem.1 h
  rcases List.mem_or_eq_of_mem_set h1 with z | z
  · exact .inl (opnP_mem.2 ⟨q, z, h2⟩)
  · exact .inr (by rw [← z]; exact h2)
theorem opnP_at {l : List Prm} {i : Nat} {p : Prm} (h : l[i]? = some p) {j : Int} (hj : j ∈ opnF p.f) : j ∈ opnP l := opnP_mem.2 ⟨p, List.mem_of_getElem? h, hj⟩
theorem mem_set_of {α : Type} {l : List α} {i : Nat} {a x y : α} (h : l[i]? = some a) (hx : x ∈ l) : x = a ∨ x ∈ l.set i y := by
  obtain ⟨k, hk, rfl⟩ := List.mem_iff_getElem.1 hx
  by_cases q : k = i
  · subst q
    rw [List.getElem?_eq_getElem hk] at h
    injection h with h
    exact .inl h
  · refine .inr (List.mem_iff_getElem.2 ⟨k, by rw [List.length_set]; exact hk, ?_⟩)
    rw [List.getElem_set_ne (fun z => q z.symm)]
theorem opnP_back {l : List Prm} {i : Nat} {p q : Prm} (h : l[i]? = some p) {j : Int} (hj : j ∈ opnP l) : j ∈ opnF p.f ∨ j ∈ opnP (l.set i q) := by
  obtain ⟨x, h1, h2⟩ := opnP_mem.1 hj
  rcases mem_set_of (y := q) h h1 with z | z
  · exact .inl (by rw [← z]; exact h2)
  · exact .inr (opnP_mem.2 ⟨x, z, h2⟩)
theorem opnF_back {l : List Fdm} {i : Nat} {f : Fdm} (hi : i < l.length) {j : Int} (hj : j ∈ opnF l) : j = l[i].node ∨ j ∈ opnF (l.set i f) := by
  obtain ⟨x, h1, h2, h3⟩ := opnF_mem.1 hj
  rcases mem_set_of (y := f) (List.getElem?_eq_getElem hi) h1 with z | z
  · exact .inl (by rw [← h3, z])
  · exact .inr (opnF_mem.2 ⟨x, z, h2, h3⟩)
theorem opnP_new {l : List Prm} {i : Nat} {q : Prm} (hi : i < l.length) {j : Int} (hj : j ∈ opnF q.f) : j ∈ opnP (l.set i q) := opnP_mem.2 ⟨q, List.mem_set hi _, hj⟩

/-! What stays right. -/
structure Inv (S : Sym) : Prop where
  tro : Tro S.t (fun j => j ∈ opnS S)
  fil : ∀ j ∈ opnS S, (tget S.t j).kind = 1
  len : ∀ p ∈ S.p, p.f.length = 3
  off : ∀ p ∈ S.p, ∀ f ∈ p.f, 0 ≤ f.off ∧ f.off ≤ 48
  um : ∀ p ∈ S.p, 0 ≤ p.um ∧ p.um ≤ 511
  gs : ∀ p ∈ S.p, p.c.gs.length ≤ 1000
theorem Inv.two {S : Sym} (h : Inv S) : ∀ j ∈ opnS S, (tget S.t j).kind ≠ 2 := fun j hj => by rw [h.fil j hj]; decide
theorem Inv.here {S : Sym} (h : Inv S) : ∀ j ∈ opnS S, tis S.t j = true := fun j hj => kind_is (h.fil j hj)
theorem inv_tab {S : Sym} (h : Inv S) {t : List Nd} (ht : Tro t (fun j => j ∈ opnS S)) (hk : ∀ j ∈ opnS S, (tget t j).kind = (tget S.t j).kind) : Inv ⟨t, S.p⟩ :=
  ⟨ht, fun j hj => (hk j hj).trans (h.fil j hj), h.len, h.off, h.um, h.gs⟩
theorem inv_proc {S : Sym} (h : Inv S) {t : List Nd} {i : Nat} {q : Prm} (ht : Tro t (fun j => j ∈ opnP (S.p.set i q))) (hk : ∀ j ∈ opnP (S.p.set i q), (tget t j).kind = 1) (hl : q.f.length = 3) (ho : ∀ f ∈ q.f, 0 ≤ f.off ∧ f.off ≤ 48) (hu : 0 ≤ q.um ∧ q.um ≤ 511) (hg : q.c.gs.length ≤ 1000) : Inv ⟨t, S.p.set i q⟩ := by
  refine ⟨ht, hk, fun x hx => ?_, fun x hx => ?_, fun x hx => ?_, fun x hx => ?_⟩
  · rcases List.mem_or_eq_of_mem_set hx with z | z
    · exact h.len x z
    · rw [z]; exact hl
  · rcases List.mem_or_eq_of_mem_set hx with z | z
    · exact h.off x z
    · rw [z]; exact ho
  · rcases List.mem_or_eq_of_mem_set hx with z | z
    · exact h.um x z
    · rw [z]; exact hu
  · rcases List.mem_or_eq_of_mem_set hx with z | z
    · exact h.gs x z
    · rw [z]; exact hg
theorem setF_off {p : Prm} {i : Nat} {f : Fdm} (h : ∀ g ∈ p.f, 0 ≤ g.off ∧ g.off ≤ 48) (hf : 0 ≤ f.off ∧ f.off ≤ 48) : ∀ g ∈ (p.setF i f).f, 0 ≤ g.off ∧ g.off ≤ 48 := fun g hg => by
  rcases List.mem_or_eq_of_mem_set hg with z | z
  · exact h g z
  · rw [z]; exact hf
theorem setF_len (p : Prm) (i : Nat) (f : Fdm) : (p.setF i f).f.length = p.f.length := List.length_set ..
theorem fd_at {p : Prm} {a : Int} (h : (p.fd a).node ≠ 0) : 0 ≤ a ∧ ∃ hi : a.toNat < p.f.length, p.fd a = p.f[a.toNat] := by
  unfold Prm.fd at h ⊢
  by_cases q : 0 ≤ a
  · rw [if_pos q] at h
    rw [if_pos q]
    by_cases hi : a.toNat < p.f.length
    · refine ⟨q, hi, ?_⟩
      rw [List.getD_eq_getElem?_getD, List.getElem?_eq_getElem hi]
      rfl
    · rw [List.getD_eq_getElem?_getD, List.getElem?_eq_none (by omega)] at h
      exact absurd rfl h
  · rw [if_neg q] at h
    exact absurd rfl h
theorem fd_getD {p : Prm} {a : Int} (h : (p.fd a).node ≠ 0) : p.f.getD a.toNat Fdm.zero = p.fd a := by
  unfold Prm.fd
  rw [if_pos (fd_at h).1]
theorem fd_mem {p : Prm} {a : Int} (h : (p.fd a).node ≠ 0) : p.fd a ∈ p.f := by
  obtain ⟨-, hi, e⟩ := fd_at h
  rw [e]
  exact List.getElem_mem hi
theorem opn_same {S : Sym} {i : Nat} {p : Prm} (hp : S.p[i]? = some p) {a : Nat} (ha : a < p.f.length) {f : Fdm} (hf : f.node = p.f[a].node) {j : Int} : j ∈ opnP (S.p.set i (p.setF a f)) ↔ j ∈ opnS S := by
  constructor
  · intro h
    rcases opnP_set h with z | z
    · exact z
    · refine opnP_at hp ?_
      rcases opnF_set z with y | y
      · exact y
      · exact opnF_mem.2 ⟨p.f[a], List.getElem_mem ha, by rw [← hf]; exact y.1, by rw [← hf]; exact y.2⟩
  · intro h
    have hi : i < S.p.length := (List.getElem?_eq_some_iff.1 hp).1
    rcases opnP_back (q := p.setF a f) hp h with z | z
    · refine opnP_new hi ?_
      rcases opnF_back (f := f) ha z with y | y
      · obtain ⟨g, h1, h2, h3⟩ := opnF_mem.1 z
        refine opnF_mem.2 ⟨f, List.mem_set ha _, ?_, by rw [hf]; exact y.symm⟩
        rw [hf, ← y, ← h3]
        exact h2
      · exact y
    · exact z
theorem inv_shu {S : Sym} (h : Inv S) {i : Nat} {p : Prm} (hp : S.p[i]? = some p) {a : Nat} (ha : a < p.f.length) (hn : p.f[a].node ≠ 0) : Inv (shuS S i p a) := by
  have hi : i < S.p.length := (List.getElem?_eq_some_iff.1 hp).1
  have hm : p ∈ S.p := List.mem_of_getElem? hp
  have eg : p.f.getD a Fdm.zero = p.f[a] := by rw [List.getD_eq_getElem?_getD, List.getElem?_eq_getElem ha]; rfl
  unfold shuS
  rw [eg]
  have hsub : ∀ j, j ∈ opnP (S.p.set i (p.setF a Fdm.zero)) → j ∈ opnS S := fun j hj => by
    rcases opnP_set hj with z | z
    · exact z
    · rcases opnF_set z with y | y
      · exact opnP_at hp y
      · exact absurd rfl y.1
  have hon : p.f[a].node ∈ opnS S := opnP_at hp (opnF_mem.2 ⟨p.f[a], List.getElem_mem ha, hn, rfl⟩)
  have ht : Tro S.t (fun j => j ∈ opnP (S.p.set i (p.setF a Fdm.zero)) ∨ j = p.f[a].node) := h.tro.weak (fun j hj => by
    rcases opnP_back (q := p.setF a Fdm.zero) hp hj with z | z
    · rcases opnF_back (f := Fdm.zero) ha z with y | y
      · exact .inr y
      · exact .inl (opnP_new hi y)
    · exact .inl z)
  have hst : ∀ j, j ∈ opnP (S.p.set i (p.setF a Fdm.zero)) → tget (frT S.t p.f[a].node (opnP (S.p.set i (p.setF a Fdm.zero)))) j = tget S.t j := fun j hj => fr_stay _ _ hj (fun q => tis_in q)
  exact inv_proc h (tro_free ht (h.two _ hon)) (fun j hj => by rw [hst j hj]; exact h.fil j (hsub j hj)) (by rw [setF_len]; exact h.len p hm) (setF_off (h.off p hm) (by decide)) (h.um p hm) (h.gs p hm)
theorem inv_sh1 {S : Sym} (h : Inv S) (i a : Nat) : Inv (sh1 S i a) := by
  unfold sh1
  split
  · exact h
  · rename_i p hp
    split
    · exact h
    · rename_i hn
      have ha : a < p.f.length := Classical.byContradiction (fun q => hn (by rw [List.getD_eq_getElem?_getD, List.getElem?_eq_none (by omega)]; rfl))
      have eg : p.f.getD a Fdm.zero = p.f[a] := by rw [List.getD_eq_getElem?_getD, List.getElem?_eq_getElem ha]; rfl
      exact inv_shu h hp ha (by rw [← eg]; exact hn)
theorem inv_exi {S : Sym} (h : Inv S) (i : Nat) : Inv (exiS S i) := inv_sh1 (inv_sh1 (inv_sh1 h i 0) i 1) i 2
theorem pl_inv {S : Sym} (h : Inv S) {c : Wh} {p : Nm} {k m : Int} {tg : Nm} (hk4 : k ≠ 4) : Inv ⟨plT S.t c (resM S.t c p false) k m tg, S.p⟩ := by
  obtain ⟨g1, g2, -⟩ := pl_kpo h.tro c p false m tg hk4
  exact inv_tab h g1 (fun j hj => kind_noE (g2 j (h.here j hj)))
theorem kpo_inv {S : Sym} (h : Inv S) {t : List Nd} (k : Kpo S.t t (opnS S)) : Inv ⟨t, S.p⟩ := inv_tab h k.tro (fun j hj => kind_noE (k.head j hj))
theorem kpa_inv {S : Sym} (h : Inv S) {t : List Nd} (k : Kpa S.t t (fun j => j ∈ opnS S)) : Inv ⟨t, S.p⟩ := inv_tab h k.tro (fun j _ => k.kind j)
theorem fa_len (t : List Nd) (i off n : Int) : (tget t i).data.length ≤ 48 → 0 ≤ off → off ≤ 48 → off + (faB t i off n).length ≤ 48 := fun h h0 h1 => by
  unfold faB
  split
  · rw [List.length_take, List.length_drop]
    omega
  · simpa using h1
theorem inv_opn {S : Sym} (h : Inv S) {i : Nat} {p : Prm} (hp : S.p[i]? = some p) (c : Cal) : Inv (opnK S i p c).1 := by
  have hm : p ∈ S.p := List.mem_of_getElem? hp
  unfold opnK
  by_cases q1 : p.f.length ≤ frePl p
  · rw [if_pos q1]
    exact h
  rw [if_neg q1]
  by_cases q2 : foE S.t p.c p.um c.path c.a c.b ≠ 0
  · rw [if_pos q2]
    exact h
  rw [if_neg q2]
  have q3 : foE S.t p.c p.um c.path c.a c.b = 0 := Classical.byContradiction q2
  obtain ⟨g1, g2, -, g4⟩ := fo_kpo h.tro p.c p.um c.path c.a c.b
  have hl : frePl p < p.f.length := by omega
  have h0 : p.f[frePl p].node = 0 := by
    have := List.findIdx_getElem (w := hl)
    have h2 : p.f[List.findIdx (fun f => f.node == 0) p.f].node = 0 := by simpa using this
    exact h2
  have key : ∀ j, j ∈ opnP (S.p.set i (p.setF (frePl p) ⟨foI S.t p.c p.um c.path c.a c.b, 0, flB c.a 0, flB c.a 1⟩)) → j ∈ opnS S ∨ j = foI S.t p.c p.um c.path c.a c.b := fun j hj => by
    rcases opnP_set hj with z | z
    · exact .inl z
    · rcases opnF_set z with y | y
      · exact .inl (opnP_at hp y)
      · exact .inr y.2.symm
  have hi : i < S.p.length := (List.getElem?_eq_some_iff.1 hp).1
  refine inv_proc h (g1.weak (fun j hj => ?_)) (fun j hj => ?_) (by rw [setF_len]; exact h.len p hm) (setF_off (h.off p hm) ⟨Int.le_refl 0, (by decide : (0 : Int) ≤ 48)⟩) (h.um p hm) (h.gs p hm)
  · rcases opnP_back (q := p.setF (frePl p) ⟨foI S.t p.c p.um c.path c.a c.b, 0, flB c.a 0, flB c.a 1⟩) hp hj with z | z
    · rcases opnF_back (f := ⟨foI S.t p.c p.um c.path c.a c.b, 0, flB c.a 0, flB c.a 1⟩) hl z with y | y
      · obtain ⟨g, h1, h2, h3⟩ := opnF_mem.1 z
        exact absurd (h3.trans (y.trans h0)) h2
      · exact opnP_new hi y
    · exact z
  · rcases key j hj with z | z
    · rw [g2 j (h.here j z)]
      exact h.fil j z
    · rw [z]
      exact g4 q3
theorem inv_rea {S : Sym} (h : Inv S) {i : Nat} {p : Prm} (hp : S.p[i]? = some p) (c : Cal) : Inv (reaK S i p c).1 := by
  have hm : p ∈ S.p := List.mem_of_getElem? hp
  unfold reaK
  by_cases q1 : (p.fd c.a).node = 0 ∨ (p.fd c.a).rd = false
  · rw [if_pos q1]
    exact h
  rw [if_neg q1]
  by_cases q2 : faE S.t (p.fd c.a).node (p.fd c.a).off c.b ≠ 0
  · rw [if_pos q2]
    exact h
  rw [if_neg q2]
  have hn : (p.fd c.a).node ≠ 0 := fun q => q1 (.inl q)
  obtain ⟨ha, hl, e⟩ := fd_at hn
  have ho := h.off p hm _ (fd_mem hn)
  have hnode : (p.fd c.a).node ∈ opnS S := opnP_at hp (opnF_mem.2 ⟨_, fd_mem hn, hn, rfl⟩)
  have hd : (tget S.t (p.fd c.a).node).data.length ≤ 48 := (file_parts (tis_right h.tro.ok (h.here _ hnode)) (h.fil _ hnode)).2.2.2
  have hlen := fa_len S.t (p.fd c.a).node (p.fd c.a).off c.b hd ho.1 ho.2
  have hs := fun j => opn_same (j := j) hp hl (f := ⟨(p.fd c.a).node, (p.fd c.a).off + (faB S.t (p.fd c.a).node (p.fd c.a).off c.b).length, (p.fd c.a).rd, (p.fd c.a).wr⟩) (by rw [← e])
  exact inv_proc h (h.tro.weak (fun j hj => (hs j).2 hj)) (fun j hj => h.fil j ((hs j).1 hj)) (by rw [setF_len]; exact h.len p hm) (setF_off (h.off p hm) ⟨by show 0 ≤ (p.fd c.a).off + _; omega, hlen⟩) (h.um p hm) (h.gs p hm)
theorem inv_wri {S : Sym} (h : Inv S) {i : Nat} {p : Prm} (hp : S.p[i]? = some p) (c : Cal) : Inv (wriK S i p c).1 := by
  have hm : p ∈ S.p := List.mem_of_getElem? hp
  unfold wriK
  by_cases q1 : (p.fd c.a).node = 0 ∨ (p.fd c.a).wr = false
  · rw [if_pos q1]
    exact h
  rw [if_neg q1]
  by_cases q2 : fwE S.t (p.fd c.a).node (p.fd c.a).off c.data ≠ 0
  · rw [if_pos q2]
    exact h
  rw [if_neg q2]
  have q3 : fwE S.t (p.fd c.a).node (p.fd c.a).off c.data = 0 := Classical.byContradiction q2
  have hn : (p.fd c.a).node ≠ 0 := fun q => q1 (.inl q)
  obtain ⟨ha, hl, e⟩ := fd_at hn
  have ho := h.off p hm _ (fd_mem hn)
  have hb : 0 ≤ (p.fd c.a).off + c.data.length ∧ (p.fd c.a).off + c.data.length ≤ 48 := by
    refine ⟨by omega, ?_⟩
    by_cases z : c.data = []
    · rw [z]
      simpa using ho.2
    · exact (fw_zero q3).2.2 z
  have ka := fw_kpa h.tro p.c (p.fd c.a).node (p.fd c.a).off c.data
  have hs := fun j => opn_same (j := j) hp hl (f := ⟨(p.fd c.a).node, (p.fd c.a).off + c.data.length, (p.fd c.a).rd, (p.fd c.a).wr⟩) (by rw [← e])
  exact inv_proc h (ka.tro.weak (fun j hj => (hs j).2 hj)) (fun j hj => by rw [ka.kind]; exact h.fil j ((hs j).1 hj)) (by rw [setF_len]; exact h.len p hm) (setF_off (h.off p hm) hb) (h.um p hm) (h.gs p hm)
theorem inv_clo {S : Sym} (h : Inv S) {i : Nat} {p : Prm} (hp : S.p[i]? = some p) (c : Cal) : Inv (cloK S i p c).1 := by
  unfold cloK
  by_cases q1 : (p.fd c.a).node = 0
  · rw [if_pos q1]
    exact h
  · rw [if_neg q1]
    obtain ⟨-, hl, e⟩ := fd_at q1
    exact inv_shu h hp hl (by rw [← e]; exact q1)
theorem inv_doK {S : Sym} (h : Inv S) {i : Nat} {p : Prm} (hp : S.p[i]? = some p) (c : Cal) : ∀ k, Inv (doK k S i p c).1 := by
  have hm : p ∈ S.p := List.mem_of_getElem? hp
  intro k
  unfold doK
  split
  · exact h
  · exact h
  · exact h
  · exact h
  · exact kpa_inv h (chm_kpa h.tro ..)
  · exact kpa_inv h (chw_kpa h.tro ..)
  · exact kpa_inv h (chw_kpa h.tro ..)
  · exact pl_inv h (by decide)
  · show Inv ⟨syT S.t p.c c.other c.path, S.p⟩
    unfold syT
    split
    · exact pl_inv h (by decide)
    · exact h
  · exact kpo_inv h (ul_kpo h.tro)
  · exact kpo_inv h (rd_kpo h.tro h.two)
  · exact kpo_inv h (mv_kpo h.tro h.two)
  · exact inv_opn h hp c
  · exact inv_rea h hp c
  · exact inv_wri h hp c
  · exact inv_clo h hp c
  · have hs : ∀ j, j ∈ opnP (S.p.set i ⟨p.c, c.a % 512, p.f⟩) ↔ j ∈ opnS S := fun j => by
      constructor
      · intro z
        rcases opnP_set z with y | y
        · exact y
        · exact opnP_at hp y
      · intro z
        rcases opnP_back (q := ⟨p.c, c.a % 512, p.f⟩) hp z with y | y
        · exact opnP_new (List.getElem?_eq_some_iff.1 hp).1 y
        · exact y
    exact inv_proc h (h.tro.weak (fun j hj => (hs j).2 hj)) (fun j hj => h.fil j ((hs j).1 hj)) (h.len p hm) (h.off p hm) ⟨by show 0 ≤ c.a % 512; omega, by show c.a % 512 ≤ 511; omega⟩ (h.gs p hm)
  · exact inv_exi h i
  · exact h
theorem prI_at {S : Sym} {pid : Int} {p : Prm} (h : prI S pid = some p) : S.p[pid.toNat]? = some p ∧ 0 ≤ pid := by
  unfold prI at h
  split at h
  · rename_i q
    exact ⟨h, q⟩
  · cases h
theorem inv_do {S : Sym} (h : Inv S) (pid : Int) (c : Cal) : Inv (doS S pid c).1 := by
  unfold doS
  split
  · exact h
  · rename_i p hp
    split
    · exact inv_doK h (prI_at hp).1 c _
    · exact h
end Go.Proofs.YtkmkfolpjlkfoaaGreat
namespace Go.Proofs.YtkmkfolpjlkfoaaGreat
open Go Go.RowKit
set_option maxRecDepth 100000

theorem doK_fails {S : Sym} {i : Nat} {p : Prm} {c : Cal} : ∀ k, (doK k S i p c).2.err ≠ 0 ∨ k ≤ 4 → (doK k S i p c).1 = S := by
  intro k h
  unfold doK at h ⊢
  split at h
  · rfl
  · rfl
  · rfl
  · rfl
  · have h := h.resolve_right (by decide)
    show (⟨chmT S.t p.c c.path c.a, S.p⟩ : Sym) = S
    rw [chmT_err h]
  · have h := h.resolve_right (by decide)
    show (⟨chwT S.t p.c c.path c.a c.b true, S.p⟩ : Sym) = S
    rw [chwT_err h]
  · have h := h.resolve_right (by decide)
    show (⟨chwT S.t p.c c.path c.a c.b false, S.p⟩ : Sym) = S
    rw [chwT_err h]
  · have h := h.resolve_right (by decide)
    show (⟨mkT S.t p.c p.um c.path c.a, S.p⟩ : Sym) = S
    unfold mkT
    rw [(pl_err h).1]
  · have h : syE S.t p.c c.other c.path ≠ 0 := h.resolve_right (by decide)
    show (⟨syT S.t p.c c.other c.path, S.p⟩ : Sym) = S
    unfold syT
    rw [if_neg h]
  · have h : ulE S.t p.c (resM S.t p.c c.path false) ≠ 0 := h.resolve_right (by decide)
    show (⟨ulT S.t p.c (resM S.t p.c c.path false) (opnS S), S.p⟩ : Sym) = S
    unfold ulT
    rw [if_neg h]
  · have h : rdE S.t p.c (resM S.t p.c c.path false) ≠ 0 := h.resolve_right (by decide)
    show (⟨rdT S.t p.c (resM S.t p.c c.path false), S.p⟩ : Sym) = S
    unfold rdT
    rw [if_neg h]
  · have h : mvE S.t p.c (resM S.t p.c c.path false) (resM S.t p.c c.other false) ≠ 0 := h.resolve_right (by decide)
    show (⟨mvT S.t p.c (resM S.t p.c c.path false) (resM S.t p.c c.other false) (opnS S), S.p⟩ : Sym) = S
    unfold mvT
    rw [if_pos (.inl h)]
  · have h := h.resolve_right (by decide)
    unfold opnK at h ⊢
    split at h
    · rw [if_pos (by assumption)]
    · rename_i q
      rw [if_neg q]
      split at h
      · rw [if_pos (by assumption)]
      · exact absurd rfl h
  · have h := h.resolve_right (by decide)
    unfold reaK at h ⊢
    split at h
    · rw [if_pos (by assumption)]
    · rename_i q
      rw [if_neg q]
      split at h
      · rw [if_pos (by assumption)]
      · exact absurd rfl h
  · have h := h.resolve_right (by decide)
    unfold wriK at h ⊢
    split at h
    · rw [if_pos (by assumption)]
    · rename_i q
      rw [if_neg q]
      split at h
      · rw [if_pos (by assumption)]
      · exact absurd rfl h
  · have h := h.resolve_right (by decide)
    unfold cloK at h ⊢
    split at h
    · rw [if_pos (by assumption)]
    · exact absurd rfl h
  · exact absurd rfl (h.resolve_right (by decide))
  · exact absurd rfl (h.resolve_right (by decide))
  · rfl
theorem do_fails {S : Sym} {pid : Int} {c : Cal} (h : (doS S pid c).2.err ≠ 0 ∨ c.kind ≤ 4) : (doS S pid c).1 = S := by
  unfold doS at h ⊢
  split
  · rfl
  · rename_i p hp
    rw [hp] at h
    simp only at h
    split at h
    · rename_i q
      rw [if_pos q]
      exact doK_fails _ (h.imp id (fun z => by omega))
    · rename_i q
      rw [if_neg q]

/-! What is another process's. -/
def clP (a : Nat) (p : Prm) : Prm := if (p.f.getD a Fdm.zero).node = 0 then p else p.setF a Fdm.zero
theorem mod_at {α : Type} (l : List α) (j k : Nat) (f : α → α) : (l.modify j f)[k]? = if j = k then (l[k]?).map f else l[k]? := by
  rw [List.getElem?_modify]
  by_cases q : j = k
  · subst q
    rw [if_pos rfl]
    cases l[j]? <;> simp
  · rw [if_neg q]
    cases l[k]? <;> simp [q]
theorem sh1_p (S : Sym) (j a : Nat) : (sh1 S j a).p = S.p.modify j (clP a) := by
  refine List.ext_getElem? (fun k => ?_)
  rw [mod_at]
  unfold sh1
  cases h : S.p[j]? with
  | none =>
    show S.p[k]? = _
    by_cases q : j = k
    · subst q
      rw [if_pos rfl, h]
      rfl
    · rw [if_neg q]
  | some p =>
    obtain ⟨hl, -⟩ := List.getElem?_eq_some_iff.1 h
    show (if (p.f.getD a Fdm.zero).node = 0 then S else shuS S j p a).p[k]? = _
    by_cases q : j = k
    · subst q
      rw [if_pos rfl, h]
      show _ = some (clP a p)
      unfold clP
      split
      · exact h
      · show (S.p.set j _)[j]? = _
        rw [List.getElem?_set_self hl]
    · rw [if_neg q]
      split
      · rfl
      · show (S.p.set j _)[k]? = _
        rw [List.getElem?_set_ne q]
theorem exi_p (S : Sym) (j : Nat) : (exiS S j).p = S.p.modify j (fun p => clP 2 (clP 1 (clP 0 p))) := by
  unfold exiS
  rw [sh1_p, sh1_p, sh1_p]
  refine List.ext_getElem? (fun k => ?_)
  rw [mod_at, mod_at, mod_at, mod_at]
  by_cases q : j = k
  · rw [if_pos q, if_pos q, if_pos q, if_pos q, Option.map_map, Option.map_map]
    rfl
  · rw [if_neg q, if_neg q, if_neg q, if_neg q]
theorem doK_p {S : Sym} {i : Nat} {p : Prm} {c : Cal} (k : Nat) {q : Nat} (hq : q ≠ i) : (doK k S i p c).1.p[q]? = S.p[q]? := by
  have hs : ∀ x : Prm, (S.p.set i x)[q]? = S.p[q]? := fun x => by rw [List.getElem?_set_ne (fun z => hq z.symm)]
  unfold doK
  split <;> try rfl
  · unfold opnK
    split
    · rfl
    · split
      · rfl
      · exact hs _
  · unfold reaK
    split
    · rfl
    · split
      · rfl
      · exact hs _
  · unfold wriK
    split
    · rfl
    · split
      · rfl
      · exact hs _
  · unfold cloK
    split
    · rfl
    · exact hs _
  · exact hs _
  · show (exiS S i).p[q]? = S.p[q]?
    rw [exi_p, mod_at, if_neg (fun z => hq z.symm)]
theorem doK_len {S : Sym} {i : Nat} {p : Prm} {c : Cal} (k : Nat) : (doK k S i p c).1.p.length = S.p.length := by
  unfold doK
  split <;> try rfl
  · unfold opnK
    split
    · rfl
    · split
      · rfl
      · exact List.length_set ..
  · unfold reaK
    split
    · rfl
    · split
      · rfl
      · exact List.length_set ..
  · unfold wriK
    split
    · rfl
    · split
      · rfl
      · exact List.length_set ..
  · unfold cloK
    split
    · rfl
    · exact List.length_set ..
  · exact List.length_set ..
  · show (exiS S i).p.length = S.p.length
    rw [exi_p, List.length_modify]
theorem do_len (S : Sym) (pid : Int) (c : Cal) : (doS S pid c).1.p.length = S.p.length := by
  unfold doS
  split
  · rfl
  · split
    · exact doK_len _
    · rfl
theorem do_apart (S : Sym) {pid : Int} {c : Cal} {q : Int} (hq : q ≠ pid) : prI (doS S pid c).1 q = prI S q := by
  unfold doS
  split
  · rfl
  · rename_i p hp
    split
    · unfold prI
      split
      · exact doK_p _ (fun z => by have := (prI_at hp).2; omega)
      · rfl
    · rfl

/-! When all have left. -/
theorem clP_len (a : Nat) (p : Prm) : (clP a p).f.length = p.f.length := by
  unfold clP
  split
  · rfl
  · exact setF_len ..
theorem clP_at (a b : Nat) (p : Prm) : ((clP a p).f.getD b Fdm.zero).node = if b = a then 0 else (p.f.getD b Fdm.zero).node := by
  unfold clP
  split
  · rename_i h
    split
    · rename_i q; rw [q]; exact h
    · rfl
  · show ((p.f.set a Fdm.zero).getD b Fdm.zero).node = _
    rw [List.getD_eq_getElem?_getD, List.getElem?_set]
    split
    · rename_i q
      rw [if_pos q.symm]
      split
      · rfl
      · rfl
    · rename_i q
      rw [if_neg (fun z => q z.symm), List.getD_eq_getElem?_getD]
theorem clP_all {p : Prm} (h : p.f.length = 3) : opnF (clP 2 (clP 1 (clP 0 p))).f = [] := by
  have hl : (clP 2 (clP 1 (clP 0 p))).f.length = 3 := by rw [clP_len, clP_len, clP_len]; exact h
  have hz : ∀ b, b < 3 → ((clP 2 (clP 1 (clP 0 p))).f.getD b Fdm.zero).node = 0 := fun b hb => by
    rw [clP_at, clP_at, clP_at]
    by_cases h2 : b = 2
    · rw [if_pos h2]
    · rw [if_neg h2]
      by_cases h1 : b = 1
      · rw [if_pos h1]
      · rw [if_neg h1, if_pos (by omega)]
  refine List.eq_nil_iff_forall_not_mem.2 (fun j hj => ?_)
  obtain ⟨f, h1, h2, -⟩ := opnF_mem.1 hj
  obtain ⟨k, hk, rfl⟩ := List.mem_iff_getElem.1 h1
  have := hz k (by omega)
  rw [List.getD_eq_getElem?_getD, List.getElem?_eq_getElem hk] at this
  exact h2 this
theorem exit_one {S : Sym} (h : Inv S) {j : Nat} (hj : j < S.p.length) (c : Cal) (hc : c.kind = 18) :
    (doS S (j : Int) c).2.err = 0 ∧ Inv (doS S (j : Int) c).1 ∧ (doS S (j : Int) c).1.p.length = S.p.length ∧ ∀ m, (∀ q, q < m → ∀ p, S.p[q]? = some p → opnF p.f = []) → m = j → ∀ q, q < m + 1 → ∀ p, (doS S (j : Int) c).1.p[q]? = some p → opnF p.f = [] := by
  have hp : prI S (j : Int) = some S.p[j] := by unfold prI; rw [if_pos (by omega)]; exact List.getElem?_eq_getElem hj
  have e : doS S (j : Int) c = (exiS S j, Rsm.e 0) := by
    unfold doS
    rw [hp, hc]
    show (if (1 : Int) ≤ 18 ∧ (18 : Int) ≤ 18 then doK 18 S (j : Int).toNat S.p[j] c else _) = _
    rw [if_pos (by decide)]
    rfl
  have hi := inv_do h (j : Int) c
  have hl := do_len S (j : Int) c
  rw [e] at hi hl ⊢
  refine ⟨rfl, hi, hl, fun m hm hmj q hq p hpq => ?_⟩
  have hpq : (exiS S j).p[q]? = some p := hpq
  rw [exi_p, mod_at] at hpq
  by_cases hqj : j = q
  · rw [if_pos hqj, ← hqj, List.getElem?_eq_getElem hj] at hpq
    injection hpq with hpq
    rw [← hpq]
    exact clP_all (h.len _ (List.getElem_mem hj))
  · rw [if_neg hqj] at hpq
    exact hm q (by omega) p hpq
theorem none_open {S : Sym} (h : ∀ q, q < S.p.length → ∀ p, S.p[q]? = some p → opnF p.f = []) : opnS S = [] := by
  refine List.eq_nil_iff_forall_not_mem.2 (fun j hj => ?_)
  obtain ⟨p, h1, h2⟩ := opnP_mem.1 hj
  obtain ⟨k, hk, rfl⟩ := List.mem_iff_getElem.1 h1
  rw [h k hk _ (List.getElem?_eq_getElem hk)] at h2
  cases h2
theorem inl_of {op : List Int} : ∀ i ∈ op, inL op i = true := fun i hi => by
  unfold inL
  exact List.any_eq_true.2 ⟨i, hi, by simp⟩
theorem inv_right {S : Sym} (h : Inv S) : allT S.t (opnS S) := tro_right h.tro inl_of
theorem opn_few {S : Sym} (h : Inv S) : (opnS S).length ≤ 3 * S.p.length := by
  have key : ∀ l : List Prm, (∀ p ∈ l, p.f.length = 3) → (opnP l).length ≤ 3 * l.length := by
    intro l
    induction l with
    | nil => intro _; exact Nat.le_refl _
    | cons p l ih =>
      intro hl
      have h1 := ih (fun x hx => hl x (List.mem_cons_of_mem _ hx))
      have h2 : (opnF p.f).length ≤ 3 := by
        unfold opnF
        rw [List.length_map]
        have := List.length_filter_le (fun f : Fdm => f.node != 0) p.f
        have := hl p (List.mem_cons_self ..)
        omega
      unfold opnP at h1 ⊢
      rw [List.flatMap_cons, List.length_append, List.length_cons]
      omega
  exact key S.p h.len

/-! A file that is read to its end. -/
structure Kep (S : Sym) (I : Int) (D : List UInt8) (k off : Nat) : Prop where
  inv : Inv S
  p0 : ∃ p, S.p[0]? = some p ∧ p.fd 0 = ⟨I, (off : Int), true, false⟩
  ne : I ≠ 0
  data : (tget S.t I).data = D
  le : off ≤ D.length
  far : k ≤ off ∨ off = D.length
  two : S.p.length = 2
theorem Kep.opn {S : Sym} {I : Int} {D : List UInt8} {k off : Nat} (h : Kep S I D k off) : I ∈ opnS S := by
  obtain ⟨p, h1, h2⟩ := h.p0
  have hn : (p.fd 0).node ≠ 0 := by rw [h2]; exact h.ne
  exact opnP_at h1 (opnF_mem.2 ⟨p.fd 0, fd_mem hn, hn, by rw [h2]⟩)
theorem Kep.end {S : Sym} {I : Int} {D : List UInt8} {off : Nat} (h : Kep S I D 60 off) : off = D.length := by
  rcases h.far with q | q
  · have h1 := h.le
    have h2 := (file_parts (tis_right h.inv.tro.ok (h.inv.here _ h.opn)) (h.inv.fil _ h.opn)).2.2.2
    rw [h.data] at h2
    omega
  · exact q
theorem kep_other {S : Sym} {I : Int} {D : List UInt8} {k off : Nat} (h : Kep S I D k off) {pid : Int} (hp : pid ≠ 0) {c : Cal} (hc : c.kind = 10 ∨ c.kind = 12) : Kep (doS S pid c).1 I D k off := by
  have hi := inv_do h.inv pid c
  have ha := do_apart S (c := c) (q := 0) (fun z => hp z.symm)
  have hpp : (doS S pid c).1.p[0]? = S.p[0]? := by
    unfold prI at ha
    simpa using ha
  refine ⟨hi, by rw [hpp]; exact h.p0, h.ne, ?_, h.le, h.far, (do_len S pid c).trans h.two⟩
  have hd : ∀ t', Kpo S.t t' (opnS S) → (tget t' I).data = D := fun t' ht => by
    have := congrArg Nd.data (ht.head I h.opn)
    exact this.trans h.data
  unfold doS
  split
  · exact h.data
  · rename_i p _
    split
    · rcases hc with q | q
      · rw [q]
        exact hd _ (ul_kpo h.inv.tro)
      · rw [q]
        exact hd _ (mv_kpo h.inv.tro h.inv.two)
    · exact h.data
theorem kep_read {S : Sym} {I : Int} {D : List UInt8} {k off : Nat} (h : Kep S I D k off) (b : Nat) (hb : 1 ≤ b) (path other : Nm) (d : List UInt8) :
    (doS S 0 ⟨14, path, other, 0, (b : Int), d⟩).2 = ⟨0, 0, Sta.zero, [], [], (D.drop off).take b⟩ ∧ Kep (doS S 0 ⟨14, path, other, 0, (b : Int), d⟩).1 I D (k + 1) (off + ((D.drop off).take b).length) := by
  obtain ⟨p, h1, h2⟩ := h.p0
  have hp : prI S 0 = some p := by unfold prI; rw [if_pos (by decide)]; exact h1
  have hk := h.inv.fil _ h.opn
  have e0 : faE S.t I (off : Int) (b : Int) = 0 := by unfold faE; rw [if_neg (fun q => q hk), if_neg (by omega)]
  have eB : faB S.t I (off : Int) (b : Int) = (D.drop off).take b := by
    unfold faB
    rw [if_pos e0, h.data]
    rfl
  have e : doS S 0 ⟨14, path, other, 0, (b : Int), d⟩ = (⟨S.t, S.p.set 0 (p.setF 0 ⟨I, (off : Int) + ((D.drop off).take b).length, true, false⟩)⟩, ⟨0, 0, Sta.zero, [], [], (D.drop off).take b⟩) := by
    unfold doS
    rw [hp]
    show (if (1 : Int) ≤ 14 ∧ (14 : Int) ≤ 18 then reaK S (0 : Int).toNat p ⟨14, path, other, 0, (b : Int), d⟩ else _) = _
    rw [if_pos (by decide)]
    unfold reaK
    show (if (p.fd 0).node = 0 ∨ (p.fd 0).rd = false then _ else if faE S.t (p.fd 0).node (p.fd 0).off (b : Int) ≠ 0 then _ else _) = _
    rw [h2]
    show (if I = 0 ∨ true = false then _ else if faE S.t I (off : Int) (b : Int) ≠ 0 then _ else _) = _
    rw [if_neg (fun q => q.elim h.ne (by decide)), e0, if_neg (fun q => q rfl), eB]
    rfl
  have hi := inv_do h.inv 0 ⟨14, path, other, 0, (b : Int), d⟩
  rw [e] at hi ⊢
  have hn : (p.fd 0).node ≠ 0 := by rw [h2]; exact h.ne
  obtain ⟨-, hl, -⟩ := fd_at hn
  have hl : 0 < p.f.length := hl
  have hS : 0 < S.p.length := (List.getElem?_eq_some_iff.1 h1).1
  have hle := h.le
  refine ⟨rfl, hi, ⟨_, by rw [List.getElem?_set_self hS], ?_⟩, h.ne, h.data, ?_, ?_, by rw [List.length_set]; exact h.two⟩
  · unfold Prm.fd
    rw [if_pos (by decide)]
    show (p.f.set 0 _).getD 0 Fdm.zero = _
    rw [List.getD_eq_getElem?_getD, List.getElem?_set_self hl]
    show (⟨I, _, true, false⟩ : Fdm) = _
    congr 1
  · rw [List.length_take, List.length_drop]
    omega
  · rw [List.length_take, List.length_drop]
    rcases h.far with q | q
    · by_cases z : off = D.length
      · exact .inr (by omega)
      · by_cases y : off + b ≤ D.length
        · exact .inl (by omega)
        · exact .inr (by omega)
    · exact .inr (by omega)
theorem take_more (D : List UInt8) (off b : Nat) : D.take off ++ (D.drop off).take b = D.take (off + ((D.drop off).take b).length) := by
  rw [List.length_take, List.length_drop, List.take_add]
  congr 1
  by_cases h : b ≤ D.length - off
  · rw [Nat.min_eq_left h]
  · rw [Nat.min_eq_right (by omega), List.take_of_length_le (by rw [List.length_drop]; omega), List.take_of_length_le (by rw [List.length_drop]; omega)]
end Go.Proofs.YtkmkfolpjlkfoaaGreat
