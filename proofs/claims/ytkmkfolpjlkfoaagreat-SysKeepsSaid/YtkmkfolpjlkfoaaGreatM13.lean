/-
  What the statements of stage 17 ask of calls and numbers: same, few, begun. The conditions are said at each. Blocks of twelve cells; a box of what a call answered. The conditions are said at each. What look.List answers, and that its row is one of texts. The conditions are said at each. What the functions of package sys that carry out calls answer, as a statement; what each of their walks begins and ends with. No condition.
-/
import Derived.Test.YtkmkfolpjlkfoaaGreatM10
import Derived.Test.YtkmkfolpjlkfoaaGreatM12
import Derived.Deep.QuietTactic
namespace Go.Proofs.YtkmkfolpjlkfoaaGreat
open Go Go.RowKit
set_option maxRecDepth 100000

attribute [local go_sem] cell_off4 cell_blk4
theorem take_snoc_eq {x y : List Int} {k : Nat} {a b : Int} (ha : x[k]? = some a) (hb : y[k]? = some b) (h : x.take k = y.take k) (hab : a = b) : x.take (k + 1) = y.take (k + 1) := by
  rw [List.take_add_one, List.take_add_one, ha, hb, h, hab]
set_option maxHeartbeats 4000000 in
theorem ssame_any (A B : Option Addr) (n m c d : Nat) (x y : List Int) (w : World) (hx : IntsR w (.slice A n c) x) (hy : IntsR w (.slice B m d) y) (hl : x.length ≤ 1000) :
    Calls Tryz.prog 19 #[.slice A n c, .slice B m d] w fun e w' => e = .returned (.bool (decide (x = y))) ∧ Below w.heap.size w w' := by
  obtain ⟨X, hX⟩ : ∃ X, decide (x = y) = X := ⟨_, rfl⟩
  rw [hX]
  have HT := Lib.hid (show x = y → true = X from fun q => by rw [← hX, decide_eq_true q])
  have HF := Lib.hid (show x ≠ y → false = X from fun q => by rw [← hX, decide_eq_false q])
  have e1 := ints_len hx
  have e2 := ints_len hy
  subst e1 e2
  have HX := Lib.hid hx
  have HY := Lib.hid hy
  clear hx hy hX
  go_enter Tryz.func19, Tryz.ntmps19
  by_cases hn : x.length = y.length
  case neg =>
    have yn : ((x.length : Int) != (y.length : Int)) = true := by simpa using fun q => hn (by omega)
    have H1 := Lib.hid (HF.out (fun q => hn (by rw [q])))
    clear hn
    go_wp2
    go_ret
    exact ⟨ret_bool H1.out, Below.refl _ _⟩
  have yn : ((x.length : Int) != (y.length : Int)) = false := by rw [hn]; simp
  have HN := Lib.hid hn
  clear hn
  go_wp2
  go_loopg [5] x.length (fun gh s5 wr => ∃ k : Nat, s5 = .int .i64 k ∧ k ≤ x.length ∧ gh = x.length - k ∧ x.take k = y.take k ∧ Below w.heap.size w wr)
  case atStart => exact ⟨0, rfl, Nat.zero_le _, rfl, rfl, Below.refl _ _⟩
  case round =>
    obtain ⟨k, rfl, hk, rfl, hp, hb⟩ := hrel
    have HP := Lib.hid hp
    have HB := Lib.hid hb
    clear hp hb
    by_cases hlt : k < x.length
    · have hlt' : (k : Int) < (x.length : Int) := by omega
      have hlty : (k : Int) < (y.length : Int) := by have := HN.out; omega
      obtain ⟨a, hka⟩ : ∃ a, x[k]? = some a := ⟨_, List.getElem?_eq_getElem hlt⟩
      obtain ⟨b, hkb⟩ : ∃ b, y[k]? = some b := ⟨_, List.getElem?_eq_getElem (by have := HN.out; omega)⟩
      obtain ⟨ad, hA, d0⟩ := ints_get (HX.out.below HB.out) hka
      obtain ⟨bd, hB, g0⟩ := ints_get (HY.out.below HB.out) hkb
      subst hA hB
      have HKA := Lib.hid hka
      have HKB := Lib.hid hkb
      clear hka hkb
      by_cases q : a = b
      · have HQ := Lib.hid (take_snoc_eq HKA.out HKB.out HP.out q)
        have yq : (a != b) = false := by simpa using q
        clear q
        go_upto_region 6 with fail
        go_quiet (fail)
        go_wp2
        go_roundg (x.length - (k + 1))
        case measure => omega
        case rel => exact ⟨k + 1, by go_num, by omega, rfl, HQ.out, bdN HB.out _⟩
      · have H1 := Lib.hid (HF.out (fun z => q (by have := HKA.out; rw [z, HKB.out] at this; injection this with this; exact this.symm)))
        have yq : (a != b) = true := by simpa using q
        clear q
        go_upto_region 6 with fail
        go_quiet (fail)
        go_wp2
        go_ret
        exact ⟨ret_bool H1.out, bdN HB.out _⟩
    · have hlt' : ¬ (k : Int) < (x.length : Int) := by omega
      have H1 := Lib.hid (HT.out (by have h1 := HP.out; have h2 := HN.out; rw [List.take_of_length_le (by omega), List.take_of_length_le (by omega)] at h1; exact h1))
      go_wp2
      go_ret
      exact ⟨ret_bool H1.out, HB.out⟩
structure FewS (l : List (Int × Cal)) (cs : List Wh) : Prop where
  sh : ∀ r ∈ l, shortC r.2
  gs : ∀ c ∈ cs, c.gs.length ≤ 10
  l60 : l.length ≤ 60
  c6 : cs.length ≤ 6
def FewA (w : World) (l : List (Int × Cal)) (cs : List Wh) (e : Ending) (w' : World) : Prop := ∃ b, e = .returned (.bool b) ∧ (b = true → FewS l cs) ∧ w = w'
set_option maxHeartbeats 8000000 in
theorem sfew_any (v1 v2 : Value) (l : List (Int × Cal)) (cs : List Wh) (w : World) (h1 : AcsR w v1 l) (h2 : CdsR w v2 cs) (hl1 : l.length ≤ maxLen) (hl2 : cs.length ≤ 1048576) :
    Calls Tryz.prog 10 #[v1, v2] w (FewA w l cs) := by
  have hl1' : l.length ≤ 9223372036854775807 := by unfold maxLen at hl1; omega
  have hl2X : cs.length ≤ 9223372036854775807 := by omega
  obtain ⟨A, ca, rfl⟩ := acs_form h1
  obtain ⟨C, cc, rfl⟩ := cds_form h2
  have HA := Lib.hid h1
  have HC := Lib.hid h2
  clear h1 h2 hl1 hl2
  go_enter Tryz.func10, Tryz.ntmps10
  go_wp2
  go_loopg [5] l.length (fun gh s5 wr => ∃ k : Nat, s5 = .int .i64 k ∧ k ≤ l.length ∧ gh = l.length - k ∧ (∀ r ∈ l.take k, shortC r.2) ∧ w = wr)
  case atStart => exact ⟨0, rfl, Nat.zero_le _, rfl, fun e h => by simp at h, rfl⟩
  case round =>
    obtain ⟨k, rfl, hk, rfl, hgo, rfl⟩ := hrel
    have HG := Lib.hid hgo
    clear hgo
    by_cases hlt : k < l.length
    · have hlt' : (k : Int) < (l.length : Int) := by omega
      obtain ⟨r, hr⟩ : ∃ r, l[k]? = some r := ⟨_, List.getElem?_eq_getElem hlt⟩
      obtain ⟨ad, vd, hA, c0, ⟨c1, c2, c3, c4, c5, c6⟩, hd⟩ := acs_get HA.out hr
      subst hA
      obtain ⟨A1, k1, rfl⟩ := bytes_form hd rfl
      have HTK := Lib.hid (take_snoc' hr)
      have hs1 := size_bA r.2.path
      have hs2 := size_bA r.2.other
      clear hr hd
      by_cases q1 : r.2.path.length ≤ 100
      · have y1 : ¬ ((bA r.2.path).size : Int) > 100 := by rw [hs1]; omega
        by_cases q2 : r.2.other.length ≤ 100
        · have y2 : ¬ ((bA r.2.other).size : Int) > 100 := by rw [hs2]; omega
          by_cases q3 : r.2.data.length ≤ 100
          · have y3 : ¬ (r.2.data.length : Int) > 100 := by omega
            have HQ := Lib.hid (show shortC r.2 from ⟨q1, q2, q3⟩)
            clear q1 q2 q3 hs1 hs2
            go_wp2
            go_roundg (l.length - (k + 1))
            case measure => omega
            case rel => exact ⟨k + 1, by go_num, by omega, rfl, (fun b hb => by
              rw [HTK.out] at hb
              rcases List.mem_append.1 hb with hb | hb
              · exact HG.out b hb
              · rw [List.mem_singleton] at hb
                rw [hb]
                exact HQ.out), rfl⟩
          · have y3 : (r.2.data.length : Int) > 100 := by omega
            clear q1 q2 q3 hs1 hs2
            go_wp2
            go_ret
            exact ⟨false, rfl, fun q => (by cases q), rfl⟩
        · have y2 : ((bA r.2.other).size : Int) > 100 := by rw [hs2]; omega
          clear q1 q2 hs1 hs2
          go_wp2
          go_ret
          exact ⟨false, rfl, fun q => (by cases q), rfl⟩
      · have y1 : ((bA r.2.path).size : Int) > 100 := by rw [hs1]; omega
        clear q1 hs1 hs2
        go_wp2
        go_ret
        exact ⟨false, rfl, fun q => (by cases q), rfl⟩
    · have hlt' : ¬ (k : Int) < (l.length : Int) := by omega
      have HS := Lib.hid (show ∀ r ∈ l, shortC r.2 from by have := HG.out; rw [List.take_of_length_le (by omega)] at this; exact this)
      clear HG
      go_wp2
      go_loopg [6] cs.length (fun gh s6 wr => ∃ j : Nat, s6 = .int .i64 j ∧ j ≤ cs.length ∧ gh = cs.length - j ∧ (∀ c ∈ cs.take j, c.gs.length ≤ 10) ∧ w = wr)
      case atStart => exact ⟨0, rfl, Nat.zero_le _, rfl, fun e h => by simp at h, rfl⟩
      case round =>
        obtain ⟨j, rfl, hj, rfl, hgo, rfl⟩ := hrel
        have HG := Lib.hid hgo
        clear hgo
        by_cases hlt2 : j < cs.length
        · have hlt2' : (j : Int) < (cs.length : Int) := by omega
          obtain ⟨r, hr⟩ : ∃ r, cs[j]? = some r := ⟨_, List.getElem?_eq_getElem hlt2⟩
          obtain ⟨ad, B, n, m, hA, c0, c1, c2, hi⟩ := cds_get HC.out hr
          subst hA
          have HTK := Lib.hid (take_snoc' hr)
          have hil := ints_len hi
          clear hr hi
          by_cases q1 : n ≤ 10
          · have y1 : ¬ (n : Int) > 10 := by omega
            have HQ := Lib.hid (show r.gs.length ≤ 10 by omega)
            clear hil q1
            go_wp2
            go_roundg (cs.length - (j + 1))
            case measure => omega
            case rel => exact ⟨j + 1, by go_num, by omega, rfl, (fun b hb => by
              rw [HTK.out] at hb
              rcases List.mem_append.1 hb with hb | hb
              · exact HG.out b hb
              · rw [List.mem_singleton] at hb
                rw [hb]
                exact HQ.out), rfl⟩
          · have y1 : (n : Int) > 10 := by omega
            clear hil q1
            go_wp2
            go_ret
            exact ⟨false, rfl, fun q => (by cases q), rfl⟩
        · have hlt2' : ¬ (j : Int) < (cs.length : Int) := by omega
          have HS2 := Lib.hid (show ∀ c ∈ cs, c.gs.length ≤ 10 from by have := HG.out; rw [List.take_of_length_le (by omega)] at this; exact this)
          clear HG
          by_cases q1 : l.length ≤ 60
          · have y1 : (l.length : Int) ≤ 60 := by omega
            by_cases q2 : cs.length ≤ 6
            · have y2 : (cs.length : Int) ≤ 6 := by omega
              have HE := Lib.hid (show FewS l cs from ⟨HS.out, HS2.out, q1, q2⟩)
              clear q1 q2
              go_wp2
              go_ret
              exact ⟨true, rfl, fun _ => HE.out, rfl⟩
            · have y2 : ¬ (cs.length : Int) ≤ 6 := by omega
              clear q1 q2
              go_wp2
              go_ret
              exact ⟨false, rfl, fun q => (by cases q), rfl⟩
          · have y1 : ¬ (l.length : Int) ≤ 60 := by omega
            clear q1
            go_wp2
            go_ret
            exact ⟨false, rfl, fun q => (by cases q), rfl⟩
def BegA (R : World → Value → Sym → List Nat → Prop) (w : World) (um : Int) (cs : List Wh) (e : Ending) (w' : World) : Prop :=
  (e = .returned (.tuple #[.pointer none, .bool false]) ∨ ∃ v T l, e = .returned (.tuple #[v, .bool true]) ∧ R w' v (newS T um cs) l ∧ Trx T ∧ ∀ b ∈ l, w.heap.size ≤ b) ∧ Below w.heap.size w w'
set_option maxHeartbeats 8000000 in
theorem begun_any {R : World → Value → Sym → List Nat → Prop} (HPC : SysC R) (m : Int) (v1 : Value) (l : List Rw) (um : Int) (v2 : Value) (cs : List Wh) (w : World) (h1 : RawsR w v1 l) (hl1 : l.length ≤ maxLen) (h2 : CdsR w v2 cs) (hg : ∀ c ∈ cs, c.gs.length ≤ 1048576) (hl2 : cs.length ≤ 1048576) :
    Calls Tryz.prog 9 #[.int .i64 m, v1, .int .i64 um, v2] w (BegA R w um cs) := by
  have HBL := Lib.hid (built_any m v1 l wh0 none 0 0 w h1 hl1 (IntsR.nil w))
  have HC := Lib.hid h2
  have HG := Lib.hid hg
  have HL2 := Lib.hid hl2
  clear h1 hl1 h2 hg hl2
  go_enter Tryz.func9, Tryz.ntmps9
  go_wp2_with fail
  refine HBL.out.mono ?_
  rintro e w2 ⟨hans, hb⟩
  have HB := Lib.hid hb
  rcases hans with ⟨rfl, -⟩ | ⟨g, T, rfl, hB, hT, hG⟩
  · clear hb
    go_wp2
    go_ret2
    exact ⟨.inl rfl, HB.out⟩
  have HTR := Lib.hid ((tre_all hB.2).1)
  have HN := Lib.hid (HPC.new g T (fun _ => True) um v2 cs w2 hT (HC.out.below hb) HG.out HL2.out)
  clear hb hB hT hG HBL
  go_wp2_with fail
  refine HN.out.mono ?_
  rintro e w3 ⟨v, lb, rfl, hr, hlb, hb3⟩
  have H3 := Lib.hid (And.intro hr (And.intro (fun b hb => Nat.le_trans HB.out.size (hlb b hb)) (bt hb3 HB.out)))
  clear hr hlb hb3
  go_wp2
  go_ret2
  exact ⟨.inr ⟨v, T, lb, rfl, H3.out.1, HTR.out, H3.out.2.1⟩, H3.out.2.2⟩
end Go.Proofs.YtkmkfolpjlkfoaaGreat
namespace Go.Proofs.YtkmkfolpjlkfoaaGreat
open Go Go.RowKit
set_option maxRecDepth 100000

def put12 (w : World) (g : Nat) (u0 u1 u2 u3 u4 u5 u6 u7 u8 u9 u10 u11 : Value) : World := ((((((((((((w.setCell ⟨g, 0, none⟩ u0).setCell ⟨g, 1, none⟩ u1).setCell ⟨g, 2, none⟩ u2).setCell ⟨g, 3, none⟩ u3).setCell ⟨g, 4, none⟩ u4).setCell ⟨g, 5, none⟩ u5).setCell ⟨g, 6, none⟩ u6).setCell ⟨g, 7, none⟩ u7).setCell ⟨g, 8, none⟩ u8).setCell ⟨g, 9, none⟩ u9).setCell ⟨g, 10, none⟩ u10).setCell ⟨g, 11, none⟩ u11)
section
variable {w : World} {g : Nat} {t : TypeId} {a0 a1 a2 a3 a4 a5 a6 a7 a8 a9 a10 a11 : Value}
theorem Blk.set12_0 (h : Blk w g t #[a0, a1, a2, a3, a4, a5, a6, a7, a8, a9, a10, a11]) (u : Value) : Blk (w.setCell ⟨g, 0, none⟩ u) g t #[u, a1, a2, a3, a4, a5, a6, a7, a8, a9, a10, a11] := by simpa using h.set_ 0 u
theorem Blk.set12_1 (h : Blk w g t #[a0, a1, a2, a3, a4, a5, a6, a7, a8, a9, a10, a11]) (u : Value) : Blk (w.setCell ⟨g, 1, none⟩ u) g t #[a0, u, a2, a3, a4, a5, a6, a7, a8, a9, a10, a11] := by simpa using h.set_ 1 u
theorem Blk.set12_2 (h : Blk w g t #[a0, a1, a2, a3, a4, a5, a6, a7, a8, a9, a10, a11]) (u : Value) : Blk (w.setCell ⟨g, 2, none⟩ u) g t #[a0, a1, u, a3, a4, a5, a6, a7, a8, a9, a10, a11] := by simpa using h.set_ 2 u
theorem Blk.set12_3 (h : Blk w g t #[a0, a1, a2, a3, a4, a5, a6, a7, a8, a9, a10, a11]) (u : Value) : Blk (w.setCell ⟨g, 3, none⟩ u) g t #[a0, a1, a2, u, a4, a5, a6, a7, a8, a9, a10, a11] := by simpa using h.set_ 3 u
theorem Blk.set12_4 (h : Blk w g t #[a0, a1, a2, a3, a4, a5, a6, a7, a8, a9, a10, a11]) (u : Value) : Blk (w.setCell ⟨g, 4, none⟩ u) g t #[a0, a1, a2, a3, u, a5, a6, a7, a8, a9, a10, a11] := by simpa using h.set_ 4 u
theorem Blk.set12_5 (h : Blk w g t #[a0, a1, a2, a3, a4, a5, a6, a7, a8, a9, a10, a11]) (u : Value) : Blk (w.setCell ⟨g, 5, none⟩ u) g t #[a0, a1, a2, a3, a4, u, a6, a7, a8, a9, a10, a11] := by simpa using h.set_ 5 u
theorem Blk.set12_6 (h : Blk w g t #[a0, a1, a2, a3, a4, a5, a6, a7, a8, a9, a10, a11]) (u : Value) : Blk (w.setCell ⟨g, 6, none⟩ u) g t #[a0, a1, a2, a3, a4, a5, u, a7, a8, a9, a10, a11] := by simpa using h.set_ 6 u
theorem Blk.set12_7 (h : Blk w g t #[a0, a1, a2, a3, a4, a5, a6, a7, a8, a9, a10, a11]) (u : Value) : Blk (w.setCell ⟨g, 7, none⟩ u) g t #[a0, a1, a2, a3, a4, a5, a6, u, a8, a9, a10, a11] := by simpa using h.set_ 7 u
theorem Blk.set12_8 (h : Blk w g t #[a0, a1, a2, a3, a4, a5, a6, a7, a8, a9, a10, a11]) (u : Value) : Blk (w.setCell ⟨g, 8, none⟩ u) g t #[a0, a1, a2, a3, a4, a5, a6, a7, u, a9, a10, a11] := by simpa using h.set_ 8 u
theorem Blk.set12_9 (h : Blk w g t #[a0, a1, a2, a3, a4, a5, a6, a7, a8, a9, a10, a11]) (u : Value) : Blk (w.setCell ⟨g, 9, none⟩ u) g t #[a0, a1, a2, a3, a4, a5, a6, a7, a8, u, a10, a11] := by simpa using h.set_ 9 u
theorem Blk.set12_10 (h : Blk w g t #[a0, a1, a2, a3, a4, a5, a6, a7, a8, a9, a10, a11]) (u : Value) : Blk (w.setCell ⟨g, 10, none⟩ u) g t #[a0, a1, a2, a3, a4, a5, a6, a7, a8, a9, u, a11] := by simpa using h.set_ 10 u
theorem Blk.set12_11 (h : Blk w g t #[a0, a1, a2, a3, a4, a5, a6, a7, a8, a9, a10, a11]) (u : Value) : Blk (w.setCell ⟨g, 11, none⟩ u) g t #[a0, a1, a2, a3, a4, a5, a6, a7, a8, a9, a10, u] := by simpa using h.set_ 11 u
theorem Blk.put12 (h : Blk w g t #[a0, a1, a2, a3, a4, a5, a6, a7, a8, a9, a10, a11]) (u0 u1 u2 u3 u4 u5 u6 u7 u8 u9 u10 u11 : Value) : Blk (put12 w g u0 u1 u2 u3 u4 u5 u6 u7 u8 u9 u10 u11) g t #[u0, u1, u2, u3, u4, u5, u6, u7, u8, u9, u10, u11] := ((((((((((((h.set12_0 u0).set12_1 u1).set12_2 u2).set12_3 u3).set12_4 u4).set12_5 u5).set12_6 u6).set12_7 u7).set12_8 u8).set12_9 u9).set12_10 u10).set12_11 u11)
theorem Blk.c12 (h : Blk w g t #[a0, a1, a2, a3, a4, a5, a6, a7, a8, a9, a10, a11]) : w.cell? ⟨g, 0, none⟩ = some a0 ∧ w.cell? ⟨g, 1, none⟩ = some a1 ∧ w.cell? ⟨g, 2, none⟩ = some a2 ∧ w.cell? ⟨g, 3, none⟩ = some a3 ∧ w.cell? ⟨g, 4, none⟩ = some a4 ∧ w.cell? ⟨g, 5, none⟩ = some a5 ∧ w.cell? ⟨g, 6, none⟩ = some a6 ∧ w.cell? ⟨g, 7, none⟩ = some a7 ∧ w.cell? ⟨g, 8, none⟩ = some a8 ∧ w.cell? ⟨g, 9, none⟩ = some a9 ∧ w.cell? ⟨g, 10, none⟩ = some a10 ∧ w.cell? ⟨g, 11, none⟩ = some a11 := ⟨h.cell 0, h.cell 1, h.cell 2, h.cell 3, h.cell 4, h.cell 5, h.cell 6, h.cell 7, h.cell 8, h.cell 9, h.cell 10, h.cell 11⟩
theorem Blk.f12 (h : Blk w g t #[a0, a1, a2, a3, a4, a5, a6, a7, a8, a9, a10, a11]) : w.frozen? ⟨g, 0, none⟩ = false ∧ w.frozen? ⟨g, 1, none⟩ = false ∧ w.frozen? ⟨g, 2, none⟩ = false ∧ w.frozen? ⟨g, 3, none⟩ = false ∧ w.frozen? ⟨g, 4, none⟩ = false ∧ w.frozen? ⟨g, 5, none⟩ = false ∧ w.frozen? ⟨g, 6, none⟩ = false ∧ w.frozen? ⟨g, 7, none⟩ = false ∧ w.frozen? ⟨g, 8, none⟩ = false ∧ w.frozen? ⟨g, 9, none⟩ = false ∧ w.frozen? ⟨g, 10, none⟩ = false ∧ w.frozen? ⟨g, 11, none⟩ = false := ⟨h.frozen 0, h.frozen 1, h.frozen 2, h.frozen 3, h.frozen 4, h.frozen 5, h.frozen 6, h.frozen 7, h.frozen 8, h.frozen 9, h.frozen 10, h.frozen 11⟩
theorem Blk.s12 (h : Blk w g t #[a0, a1, a2, a3, a4, a5, a6, a7, a8, a9, a10, a11]) : (∀ u0, (w.setCell ⟨g, 0, none⟩ u0).cell? ⟨g, 0, none⟩ = some u0) ∧
    (∀ u0 u1, ((w.setCell ⟨g, 0, none⟩ u0).setCell ⟨g, 1, none⟩ u1).cell? ⟨g, 1, none⟩ = some u1) ∧
    (∀ u0 u1 u2, (((w.setCell ⟨g, 0, none⟩ u0).setCell ⟨g, 1, none⟩ u1).setCell ⟨g, 2, none⟩ u2).cell? ⟨g, 2, none⟩ = some u2) ∧
    (∀ u0 u1 u2 u3, ((((w.setCell ⟨g, 0, none⟩ u0).setCell ⟨g, 1, none⟩ u1).setCell ⟨g, 2, none⟩ u2).setCell ⟨g, 3, none⟩ u3).cell? ⟨g, 3, none⟩ = some u3) ∧
    (∀ u0 u1 u2 u3 u4, (((((w.setCell ⟨g, 0, none⟩ u0).setCell ⟨g, 1, none⟩ u1).setCell ⟨g, 2, none⟩ u2).setCell ⟨g, 3, none⟩ u3).setCell ⟨g, 4, none⟩ u4).cell? ⟨g, 4, none⟩ = some u4) ∧
    (∀ u0 u1 u2 u3 u4 u5, ((((((w.setCell ⟨g, 0, none⟩ u0).setCell ⟨g, 1, none⟩ u1).setCell ⟨g, 2, none⟩ u2).setCell ⟨g, 3, none⟩ u3).setCell ⟨g, 4, none⟩ u4).setCell ⟨g, 5, none⟩ u5).cell? ⟨g, 5, none⟩ = some u5) ∧
    (∀ u0 u1 u2 u3 u4 u5 u6, (((((((w.setCell ⟨g, 0, none⟩ u0).setCell ⟨g, 1, none⟩ u1).setCell ⟨g, 2, none⟩ u2).setCell ⟨g, 3, none⟩ u3).setCell ⟨g, 4, none⟩ u4).setCell ⟨g, 5, none⟩ u5).setCell ⟨g, 6, none⟩ u6).cell? ⟨g, 6, none⟩ = some u6) ∧
    (∀ u0 u1 u2 u3 u4 u5 u6 u7, ((((((((w.setCell ⟨g, 0, none⟩ u0).setCell ⟨g, 1, none⟩ u1).setCell ⟨g, 2, none⟩ u2).setCell ⟨g, 3, none⟩ u3).setCell ⟨g, 4, none⟩ u4).setCell ⟨g, 5, none⟩ u5).setCell ⟨g, 6, none⟩ u6).setCell ⟨g, 7, none⟩ u7).cell? ⟨g, 7, none⟩ = some u7) ∧
    (∀ u0 u1 u2 u3 u4 u5 u6 u7 u8, (((((((((w.setCell ⟨g, 0, none⟩ u0).setCell ⟨g, 1, none⟩ u1).setCell ⟨g, 2, none⟩ u2).setCell ⟨g, 3, none⟩ u3).setCell ⟨g, 4, none⟩ u4).setCell ⟨g, 5, none⟩ u5).setCell ⟨g, 6, none⟩ u6).setCell ⟨g, 7, none⟩ u7).setCell ⟨g, 8, none⟩ u8).cell? ⟨g, 8, none⟩ = some u8) ∧
    (∀ u0 u1 u2 u3 u4 u5 u6 u7 u8 u9, ((((((((((w.setCell ⟨g, 0, none⟩ u0).setCell ⟨g, 1, none⟩ u1).setCell ⟨g, 2, none⟩ u2).setCell ⟨g, 3, none⟩ u3).setCell ⟨g, 4, none⟩ u4).setCell ⟨g, 5, none⟩ u5).setCell ⟨g, 6, none⟩ u6).setCell ⟨g, 7, none⟩ u7).setCell ⟨g, 8, none⟩ u8).setCell ⟨g, 9, none⟩ u9).cell? ⟨g, 9, none⟩ = some u9) ∧
    (∀ u0 u1 u2 u3 u4 u5 u6 u7 u8 u9 u10, (((((((((((w.setCell ⟨g, 0, none⟩ u0).setCell ⟨g, 1, none⟩ u1).setCell ⟨g, 2, none⟩ u2).setCell ⟨g, 3, none⟩ u3).setCell ⟨g, 4, none⟩ u4).setCell ⟨g, 5, none⟩ u5).setCell ⟨g, 6, none⟩ u6).setCell ⟨g, 7, none⟩ u7).setCell ⟨g, 8, none⟩ u8).setCell ⟨g, 9, none⟩ u9).setCell ⟨g, 10, none⟩ u10).cell? ⟨g, 10, none⟩ = some u10) ∧
    (∀ u0 u1 u2 u3 u4 u5 u6 u7 u8 u9 u10 u11, ((((((((((((w.setCell ⟨g, 0, none⟩ u0).setCell ⟨g, 1, none⟩ u1).setCell ⟨g, 2, none⟩ u2).setCell ⟨g, 3, none⟩ u3).setCell ⟨g, 4, none⟩ u4).setCell ⟨g, 5, none⟩ u5).setCell ⟨g, 6, none⟩ u6).setCell ⟨g, 7, none⟩ u7).setCell ⟨g, 8, none⟩ u8).setCell ⟨g, 9, none⟩ u9).setCell ⟨g, 10, none⟩ u10).setCell ⟨g, 11, none⟩ u11).cell? ⟨g, 11, none⟩ = some u11) :=
  ⟨fun u0 => (h.set12_0 u0).cell 0,
    fun u0 u1 => ((h.set12_0 u0).set12_1 u1).cell 1,
    fun u0 u1 u2 => (((h.set12_0 u0).set12_1 u1).set12_2 u2).cell 2,
    fun u0 u1 u2 u3 => ((((h.set12_0 u0).set12_1 u1).set12_2 u2).set12_3 u3).cell 3,
    fun u0 u1 u2 u3 u4 => (((((h.set12_0 u0).set12_1 u1).set12_2 u2).set12_3 u3).set12_4 u4).cell 4,
    fun u0 u1 u2 u3 u4 u5 => ((((((h.set12_0 u0).set12_1 u1).set12_2 u2).set12_3 u3).set12_4 u4).set12_5 u5).cell 5,
    fun u0 u1 u2 u3 u4 u5 u6 => (((((((h.set12_0 u0).set12_1 u1).set12_2 u2).set12_3 u3).set12_4 u4).set12_5 u5).set12_6 u6).cell 6,
    fun u0 u1 u2 u3 u4 u5 u6 u7 => ((((((((h.set12_0 u0).set12_1 u1).set12_2 u2).set12_3 u3).set12_4 u4).set12_5 u5).set12_6 u6).set12_7 u7).cell 7,
    fun u0 u1 u2 u3 u4 u5 u6 u7 u8 => (((((((((h.set12_0 u0).set12_1 u1).set12_2 u2).set12_3 u3).set12_4 u4).set12_5 u5).set12_6 u6).set12_7 u7).set12_8 u8).cell 8,
    fun u0 u1 u2 u3 u4 u5 u6 u7 u8 u9 => ((((((((((h.set12_0 u0).set12_1 u1).set12_2 u2).set12_3 u3).set12_4 u4).set12_5 u5).set12_6 u6).set12_7 u7).set12_8 u8).set12_9 u9).cell 9,
    fun u0 u1 u2 u3 u4 u5 u6 u7 u8 u9 u10 => (((((((((((h.set12_0 u0).set12_1 u1).set12_2 u2).set12_3 u3).set12_4 u4).set12_5 u5).set12_6 u6).set12_7 u7).set12_8 u8).set12_9 u9).set12_10 u10).cell 10,
    fun u0 u1 u2 u3 u4 u5 u6 u7 u8 u9 u10 u11 => ((((((((((((h.set12_0 u0).set12_1 u1).set12_2 u2).set12_3 u3).set12_4 u4).set12_5 u5).set12_6 u6).set12_7 u7).set12_8 u8).set12_9 u9).set12_10 u10).set12_11 u11).cell 11⟩
end
theorem grown12 (w : World) (g : Nat) (u0 u1 u2 u3 u4 u5 u6 u7 u8 u9 u10 u11 : Value) : w.grownBy (put12 w g u0 u1 u2 u3 u4 u5 u6 u7 u8 u9 u10 u11) (some g) := by
  have h := fun (W : World) (i : Nat) (u : Value) => grown_setCell W ⟨g, i, none⟩ u
  exact (grown_trans (grown_trans (grown_trans (grown_trans (grown_trans (grown_trans (grown_trans (grown_trans (grown_trans (grown_trans (grown_trans (h _ _ _) (h _ _ _)) (h _ _ _)) (h _ _ _)) (h _ _ _)) (h _ _ _)) (h _ _ _)) (h _ _ _)) (h _ _ _)) (h _ _ _)) (h _ _ _)) (h _ _ _))

theorem Fix.blk {l : List Nat} {w w' : World} (h : Fix l w w') {z : Nat} {t : TypeId} {cs : Array Value} (hk : Blk w z t cs) (hz : ¬ z ∈ l) : Blk w' z t cs :=
  Fix.carry (X := fun w => Blk w z t cs) (fun _ _ hx hb => hx.below hb) h (fun m hm _ _ hx hgr => hx.kept hgr (some_ne (fun q => hz (by rw [q]; exact hm)))) hk
abbrev resZ : Array Value := #[.int .i64 0, .int .i64 0, .int .i64 0, .int .i64 0, .int .i64 0, .int .i64 0, .int .i64 0, .int .i64 0, .int .i64 0, .string ⟨#[]⟩, .slice none 0 0, .slice none 0 0]
structure Br (R : World → Value → Sym → List Nat → Prop) (w wx : World) (v : Value) (S : Sym) (l : List Nat) (d : Nat) (r : Rsm) (X : World → Prop) : Prop where
  blk : ∃ A1 n1 c1 A2 n2 c2, Blk wx d 56 #[.int .i64 r.err, .int .i64 r.n, .int .i64 r.stat.node, .int .i64 r.stat.kind, .int .i64 r.stat.mode, .int .i64 r.stat.uid, .int .i64 r.stat.gid, .int .i64 r.stat.links, .int .i64 r.stat.size, .string (bA r.text), .slice A1 n1 c1, .slice A2 n2 c2] ∧ StrsR wx (.slice A1 n1 c1) (nmA r.names) ∧ BytesT wx (.slice A2 n2 c2) r.data
  sys : R wx v S l
  far : X wx
  below : Below w.heap.size w wx
section
variable {R : World → Value → Sym → List Nat → Prop} {w w5 : World} {v : Value} {S : Sym} {l : List Nat} {r : Rsm} {X : World → Prop} {A1 A2 : Option Addr} {n1 c1 n2 c2 : Nat}
theorem Br.fresh (C : SysC R) (hr : R w5 v S l) (hs : StrsR w5 (.slice A1 n1 c1) (nmA r.names) ∧ BytesT w5 (.slice A2 n2 c2) r.data) (hb : Below w.heap.size w w5) (hx : X w5) (hX : ∀ a b, X a → Below a.heap.size a b → X b) :
    Br R w (w5.alloc (.cells #[.int .i64 r.err, .int .i64 r.n, .int .i64 r.stat.node, .int .i64 r.stat.kind, .int .i64 r.stat.mode, .int .i64 r.stat.uid, .int .i64 r.stat.gid, .int .i64 r.stat.links, .int .i64 r.stat.size, .string (bA r.text), .slice A1 n1 c1, .slice A2 n2 c2] 56)) v S l w5.heap.size r X :=
  ⟨⟨A1, n1, c1, A2, n2, c2, Blk.new _ _ _, hs.1.below (ba _ _), hs.2.below (ba _ _)⟩, C.below _ _ _ _ _ hr (ba _ _), hX _ _ hx (ba _ _), al hb _⟩
theorem Br.put (C : SysC R) {d : Nat} (hr : R w5 v S l) (hk : Blk w5 d 56 resZ) (hs : StrsR w5 (.slice A1 n1 c1) (nmA r.names) ∧ BytesT w5 (.slice A2 n2 c2) r.data) (h1 : ∀ ad, A1 = some ad → ∃ cs, Blk w5 ad.block 9 cs) (hb : Below w.heap.size w w5) (hd : w.heap.size ≤ d) (hX : ∀ b, w5.grownBy b (some d) → X b) :
    Br R w ((((((((((((w5.setCell ⟨d, 0, none⟩ (.int .i64 r.err)).setCell ⟨d, 1, none⟩ (.int .i64 r.n)).setCell ⟨d, 2, none⟩ (.int .i64 r.stat.node)).setCell ⟨d, 3, none⟩ (.int .i64 r.stat.kind)).setCell ⟨d, 4, none⟩ (.int .i64 r.stat.mode)).setCell ⟨d, 5, none⟩ (.int .i64 r.stat.uid)).setCell ⟨d, 6, none⟩ (.int .i64 r.stat.gid)).setCell ⟨d, 7, none⟩ (.int .i64 r.stat.links)).setCell ⟨d, 8, none⟩ (.int .i64 r.stat.size)).setCell ⟨d, 9, none⟩ (.string (bA r.text))).setCell ⟨d, 10, none⟩ (.slice A1 n1 c1)).setCell ⟨d, 11, none⟩ (.slice A2 n2 c2)) v S l d r X := by
  have hg := grown12 w5 d (.int .i64 r.err) (.int .i64 r.n) (.int .i64 r.stat.node) (.int .i64 r.stat.kind) (.int .i64 r.stat.mode) (.int .i64 r.stat.uid) (.int .i64 r.stat.gid) (.int .i64 r.stat.links) (.int .i64 r.stat.size) (.string (bA r.text)) (.slice A1 n1 c1) (.slice A2 n2 c2)
  exact ⟨⟨A1, n1, c1, A2, n2, c2, hk.put12 _ _ _ _ _ _ _ _ _ _ _ _, hs.1.other hg (fun ad n c hv => by injection hv with hv; obtain ⟨ds, hd⟩ := h1 ad hv; exact blk_ne hd hk (by decide)), hs.2.other hg (fun ad n c hv => by obtain ⟨ds, hd⟩ := hs.2.2 ad n c hv; exact blk_ne hd hk (by decide))⟩, C.oth _ _ _ _ _ _ _ hr hk hg, hX _ hg, below_grown hb hg hd⟩
end
end Go.Proofs.YtkmkfolpjlkfoaaGreat
namespace Go.Proofs.YtkmkfolpjlkfoaaGreat
open Go Go.RowKit
set_option maxRecDepth 100000

attribute [local go_sem] cell_off4 cell_blk4
def StrK (w : World) (v : Value) : Prop := ∀ (ad : Addr) (n c : Nat), v = .slice (some ad) n c → ∃ cs, Blk w ad.block 9 cs
theorem StrK.below {w w' : World} {v : Value} (h : StrK w v) (hb : Below w.heap.size w w') : StrK w' v := fun ad n c hv => by obtain ⟨cs, hc⟩ := h ad n c hv; exact ⟨cs, hc.below hb⟩
theorem StrK.none (w : World) : StrK w (.slice none 0 0) := fun ad n c hv => by injection hv with hv; cases hv
theorem StrK.of_own {w : World} {B n size : Nat} {v : Value} {xs : List Value} (h : w.ownsRow B 9 size v n xs) : StrK w v := fun ad m c hv => by
  rcases h.2 with ⟨rfl, _⟩ | ⟨g', cap, cur, rfl, _, hh, _⟩
  · injection hv with hv
    cases hv
  · injection hv with hv
    injection hv with hv
    rw [← hv]
    exact ⟨cur, hh⟩
set_option maxRecDepth 100000 in
set_option maxHeartbeats 4000000 in
theorem nnamesT_any (n : Nd) (vd ve : Value) (w : World) (hd : BytesR w vd n.data) (he : EntsR w ve n.ents) (hr : rise (nmE n.ents)) (hn : n.ents.length ≤ 12) :
    Calls Tryz.prog 149 #[nodeV n vd ve] w fun e w' => ∃ v, e = .returned v ∧ (StrsR w' v (nmA (nmE n.ents)) ∧ StrK w' v) ∧ Below w.heap.size w w' := by
  have HB1 := Lib.hid (ba w (.cells (ndC n vd ve) 82))
  have HE := Lib.hid (box_ents (vd := vd) he)
  have HS := Lib.hid (fun v W (h : StrsR W v (nmA (nmE n.ents))) => nsort_any v (nmE n.ents) W h hr (by rw [len_nmE]; exact hn))
  have HC := Lib.hid (fun v W (h : StrsR W v (nmA (nmE n.ents))) => ncompact_any v (nmE n.ents) W h hr (by rw [len_nmE]; exact hn))
  obtain ⟨A1, c1, rfl⟩ := bytes_form hd rfl
  obtain ⟨A2, c2, rfl⟩ := ents_form he rfl
  obtain ⟨W1, hW1⟩ : ∃ W1, W1 = w.alloc (.cells (ndC n (.slice A1 n.data.length c1) (.slice A2 n.ents.length c2)) 82) := ⟨_, rfl⟩
  have HN := Lib.hid (own_nil_str W1)
  have HW1 := Lib.hid hW1
  rw [← hW1] at HB1 HE
  clear hd he hr hW1
  unfold nodeV
  go_enter Tryz.func149, Tryz.ntmps149
  go_wp2
  go_loopg [3, 9] n.ents.length (fun g s3 s9 wr => ∃ k : Nat, s9 = .int .i64 k ∧ k ≤ n.ents.length ∧ g = n.ents.length - k ∧ wr.ownsRow W1.heap.size 9 1 s3 (nmA (nmE (n.ents.take k))).length (sCells (nmA (nmE (n.ents.take k)))) ∧ Below W1.heap.size W1 wr)
  case atStart => exact ⟨0, rfl, Nat.zero_le _, rfl, by rw [← HW1.out]; exact HN.out, by rw [← HW1.out]; exact Below.refl _ _⟩
  case round =>
    obtain ⟨k, rfl, hk, rfl, hown, hbr⟩ := hrel
    have HO := Lib.hid hown
    have HB := Lib.hid hbr
    have hkl : (nmA (nmE (n.ents.take k))).length = k := by rw [nmA_len, len_nmE, List.length_take]; omega
    obtain ⟨A, c, hv⟩ := own_slice hown
    rw [hkl] at hv
    subst hv
    clear hown hbr
    by_cases hlt : k < n.ents.length
    · obtain ⟨e, he⟩ : ∃ e, n.ents[k]? = some e := ⟨_, List.getElem?_eq_getElem hlt⟩
      obtain ⟨ad, rfl, c0, c1⟩ := ents_get (HE.out.below HB.out) he
      have hbA := ba wr (.cells #[.string (bA e.1), .int .i64 e.2] 134)
      have HBA := Lib.hid (bt hbA HB.out)
      have HOA := Lib.hid (own_below HO.out hbA)
      have HT := Lib.hid (show nmA (nmE (n.ents.take (k + 1))) = nmA (nmE (n.ents.take k)) ++ [bA e.1] by rw [take_snoc' he, nmE, List.map_append, nmA, List.map_append]; rfl)
      have hz2 : (wr.alloc (.cells #[.string (bA e.1), .int .i64 e.2] 134)).heap.size = wr.heap.size + 1 := by simp
      clear he hbA
      generalize nmA (nmE (n.ents.take k)) = L at HO HOA HT hkl
      go_wp2_with (at_builtin; refine wpList_append_one rfl (.tmp 13) (.tmp 16) _ rfl W1.heap.size 9 _ 1 16 Tryz.underlying54 info_str rfl (by decide) (.slice A k c) L.length (sCells L) rfl (wr.alloc (.cells #[.string (bA e.1), .int .i64 e.2] 134)) [.string (bA e.1)] rfl (str_one _) HOA.out (by rw [hz2]; rfl) (by omega) (by omega) HBA.out.size ?_; intro v5 w5 ho hg; obtain ⟨A5, c5, hv5, ho5, hb5⟩ := app_one HBA.out HBA.out.size HOA.out ho hg; subst hv5; have HO5 := Lib.hid ho5; have HB5 := Lib.hid hb5; clear ho hg ho5 hb5)
      go_roundg (n.ents.length - (k + 1))
      case measure => omega
      case rel => exact ⟨k + 1, by go_num, by omega, rfl, by rw [HT.out]; have h := HO5.out; rw [hkl] at h; exact h, HB5.out⟩
    · have hke : k = n.ents.length := by omega
      have HR := Lib.hid (show StrsR wr (.slice A k c) (nmA (nmE n.ents)) ∧ StrK wr (.slice A k c) by
        have h := HO.out
        rw [List.take_of_length_le (by omega)] at h
        exact ⟨StrsR.of_own h, StrK.of_own h⟩)
      clear hke
      go_wp2_with fail
      refine (HS.out _ wr HR.out.1).mono ?_
      rintro e w2 ⟨rfl, hb2⟩
      have HR2 := Lib.hid (show StrsR w2 (.slice A k c) (nmA (nmE n.ents)) ∧ StrK w2 (.slice A k c) from ⟨HR.out.1.below hb2, HR.out.2.below hb2⟩)
      have HB2 := Lib.hid (bt hb2 HB.out)
      clear hb2
      go_wp2_with fail
      refine (HC.out _ w2 HR2.out.1).mono ?_
      rintro e w3 ⟨rfl, hb3⟩
      have HR3 := Lib.hid (show StrsR w3 (.slice A k c) (nmA (nmE n.ents)) ∧ StrK w3 (.slice A k c) from ⟨HR2.out.1.below hb3, HR2.out.2.below hb3⟩)
      have HB3 := Lib.hid (bt hb3 HB2.out)
      clear hb3
      go_wp2
      go_ret
      exact ⟨_, rfl, HR3.out, bt HB3.out HB1.out⟩
set_option maxHeartbeats 8000000 in
theorem listT_any (v : Value) (t : List Nd) (c : Wh) (A0 : Option Addr) (m k : Nat) (p : Nm) (w : World) (h : TabP w v t) (hc : CrR w c A0 m k) (X : List Nm × Int) (hX : lstM t c p = X) :
    Calls Tryz.prog 109 #[v, .agg #[.int .i64 c.u, .int .i64 c.g, .slice A0 m k], .string (bA p)] w fun e w' => ∃ u, e = .returned (.tuple #[u, .int .i64 X.2]) ∧ (StrsR w' u (nmA X.1) ∧ StrK w' u) ∧ Below w.heap.size w w' := by
  have hb1 := ba w (.cells #[.int .i64 c.u, .int .i64 c.g, .slice A0 m k] 35)
  have hk1 := Blk.new w 35 #[.int .i64 c.u, .int .i64 c.g, .slice A0 m k]
  obtain ⟨W1, hW1⟩ : ∃ W1, w.alloc (.cells #[.int .i64 c.u, .int .i64 c.g, .slice A0 m k] 35) = W1 := ⟨_, rfl⟩
  rw [hW1] at hb1 hk1
  obtain ⟨SE, hSE⟩ : ∃ SE, staM t c p true = SE := ⟨_, rfl⟩
  obtain ⟨S, E⟩ := SE
  have HO := Lib.hid (ofPath_any v t c A0 m k p true W1 (h.below hb1) (hc.below hb1) (S, E) hSE)
  have HT := Lib.hid (h.below hb1)
  have HC := Lib.hid (hc.below hb1)
  have HB1 := Lib.hid hb1
  have HK1 := Lib.hid hk1
  have HRI := Lib.hid (ok_rise h.ok.1 S.node)
  have HE1 := Lib.hid (fun (q : E ≠ 0) => show ([], E) = X from (lst_err hSE q).symm.trans hX)
  have HE2 := Lib.hid (fun (q : E = 0) (r : S.kind ≠ 2) => show ([], 20) = X from (lst_kind (by rw [hSE, q]) r).symm.trans hX)
  have HE3 := Lib.hid (fun (q : E = 0) (r : S.kind = 2) (d : canT t c S.node 4 = false) => show ([], 13) = X from (lst_can (by rw [hSE, q]) r d).symm.trans hX)
  have HE4 := Lib.hid (fun (q : E = 0) (r : S.kind = 2) (d : canT t c S.node 4 = true) => show (nmE (tget t S.node).ents, 0) = X from (lst_good (by rw [hSE, q]) r d).symm.trans hX)
  unfold stV stC at HO
  clear h hc hb1 hX hSE
  obtain ⟨k0, k1, k2⟩ := hk1.c3
  clear hk1
  go_enter Tryz.func109, Tryz.ntmps109
  go_wp2_with fail
  clear hW1
  refine HO.out.mono ?_
  rintro e w2 ⟨rfl, hb2⟩
  have hbx := al hb2 (.cells #[.int .i64 S.node, .int .i64 S.kind, .int .i64 S.mode, .int .i64 S.uid, .int .i64 S.gid, .int .i64 S.links, .int .i64 S.size] 53)
  have HB3 := Lib.hid (bt hbx HB1.out)
  have HT3 := Lib.hid (HT.out.below hbx)
  have HC3 := Lib.hid (HC.out.below hbx)
  have hk3 := HK1.out.below hbx
  have hs3 := Blk.new w2 53 #[.int .i64 S.node, .int .i64 S.kind, .int .i64 S.mode, .int .i64 S.uid, .int .i64 S.gid, .int .i64 S.links, .int .i64 S.size]
  obtain ⟨z, hz⟩ : ∃ z, w2.heap.size = z := ⟨_, rfl⟩
  obtain ⟨W3, hW3⟩ : ∃ W3, w2.alloc (.cells #[.int .i64 S.node, .int .i64 S.kind, .int .i64 S.mode, .int .i64 S.uid, .int .i64 S.gid, .int .i64 S.links, .int .i64 S.size] 53) = W3 := ⟨_, rfl⟩
  rw [hW3] at HB3 HT3 hs3 HC3 hk3
  rw [hz] at hs3
  have HS3 := Lib.hid hs3
  clear hb2 hbx HO HT HC k0 k1 k2 HK1
  obtain ⟨p0, p1, p2, p3, p4, p5, p6⟩ := hs3.c7
  obtain ⟨k0, k1, k2⟩ := hk3.c3
  clear hs3 hk3
  by_cases qE : E = 0
  · have qE1 : (E != 0) = false := by simpa using qE
    by_cases qK : S.kind = 2
    · have qK1 : (S.kind != 2) = false := by simpa using qK
      have HCN := Lib.hid (rescan_any v t c A0 m k S.node 4 W3 HT3.out HC3.out)
      have HN3 := Lib.hid (HE3.out qE qK)
      have HN4 := Lib.hid (HE4.out qE qK)
      generalize canT t c S.node 4 = cn at HCN HN3 HN4
      clear qE qK HE1 HE2 HE3 HE4
      go_wp2_with fail
      clear hW3 hz
      refine HCN.out.mono ?_
      rintro e w4 ⟨rfl, hb4⟩
      have HB4 := Lib.hid (bt hb4 HB3.out)
      have HT4 := Lib.hid (HT3.out.below hb4)
      have hs4 := HS3.out.below hb4
      clear hb4 p0 p1 p2 p3 p4 p5 p6 k0 k1 k2
      obtain ⟨p0, p1, p2, p3, p4, p5, p6⟩ := hs4.c7
      clear hs4
      cases cn with
      | false =>
        have HZ := Lib.hid (HN3.out rfl)
        clear HN3 HN4
        go_wp2
        go_ret2
        exact ⟨_, by rw [← HZ.out]; rfl, by rw [← HZ.out]; exact ⟨strs_none _, StrK.none _⟩, HB4.out⟩
      | true =>
        have HZ := Lib.hid (HN4.out rfl)
        obtain ⟨n, hn⟩ : ∃ n, tget t S.node = n := ⟨_, rfl⟩
        have HG := Lib.hid (get_any v t S.node w4 HT4.out)
        rw [hn] at HG HZ HRI
        generalize tis t S.node = q at HG
        unfold nodeV at HG
        clear HN3 HN4 hn
        go_wp2_with fail
        refine HG.out.mono ?_
        rintro e w5 ⟨vd, ve, rfl, hd, he, -, -, hb5⟩
        have hbw := ba w5 (.cells (ndC n vd ve) 82)
        have HNM := Lib.hid (nnamesT_any n vd ve _ (hd.1.below hbw) (he.1.below hbw) HRI.out.1 HRI.out.2)
        unfold nodeV at HNM
        obtain ⟨A5, k5, rfl⟩ := bytesT_form hd
        obtain ⟨A6, k6, rfl⟩ := entsT_form he
        have hn6 := Blk.new w5 82 (ndC n (.slice A5 n.data.length k5) (.slice A6 n.ents.length k6))
        have HB6 := Lib.hid (bt (al hb5 (.cells (ndC n (.slice A5 n.data.length k5) (.slice A6 n.ents.length k6)) 82)) HB4.out)
        clear hd he hb5 p0 p1 p2 p3 p4 p5 p6 hbw
        obtain ⟨p0, p1, p2, p3, p4, p5, p6⟩ := hn6.c7
        clear hn6
        go_wp2_with fail
        refine HNM.out.mono ?_
        rintro e w7 ⟨u, rfl, hu, hb7⟩
        obtain ⟨A7, k7, rfl⟩ := strs_form hu.1 (nm_len _)
        have HB7 := Lib.hid (bt hb7 HB6.out)
        have HU := Lib.hid hu
        clear hu hb7 p0 p1 p2 p3 p4 p5 p6
        go_wp2
        go_ret2
        exact ⟨_, by rw [← HZ.out]; rfl, by rw [← HZ.out]; exact HU.out, HB7.out⟩
    · have qK1 : (S.kind != 2) = true := by simpa using qK
      have HZ := Lib.hid (HE2.out qE qK)
      clear qE qK HE1 HE2 HE3 HE4
      go_wp2
      go_ret2
      exact ⟨_, by rw [← HZ.out]; rfl, by rw [← HZ.out]; exact ⟨strs_none _, StrK.none _⟩, HB3.out⟩
  · have qE1 : (E != 0) = true := by simpa using qE
    have HZ := Lib.hid (HE1.out qE)
    clear qE HE1 HE2 HE3 HE4
    go_wp2
    go_ret2
    exact ⟨_, by rw [← HZ.out]; rfl, by rw [← HZ.out]; exact ⟨strs_none _, StrK.none _⟩, HB3.out⟩
end Go.Proofs.YtkmkfolpjlkfoaaGreat
namespace Go.Proofs.YtkmkfolpjlkfoaaGreat
open Go Go.RowKit
set_option maxRecDepth 100000

theorem Fix.far {l : List Nat} {w a b : World} {z : Nat} (h : Fix l w a) (hg : a.grownBy b (some z)) (hz : w.heap.size ≤ z) : Fix l w b :=
  ⟨hg.os.trans h.os, hg.tape.trans h.tape, hg.output.trans h.output, Nat.le_trans h.size hg.size, fun k hk hn => (hg.block k (Nat.lt_of_lt_of_le hk h.size) (fun q => by injection q with q; omega)).trans (h.block k hk hn)⟩
def RsL (w : World) (r : Rsm) (A1 : Option Addr) (n1 c1 : Nat) (A2 : Option Addr) (n2 c2 : Nat) : Prop :=
  StrsR w (.slice A1 n1 c1) (nmA r.names) ∧ BytesT w (.slice A2 n2 c2) r.data ∧ (∀ ad, A1 = some ad → ∃ cs, Blk w ad.block 9 cs)
theorem RsL.none (w : World) {r : Rsm} (h1 : r.names = []) (h2 : r.data = []) : RsL w r none 0 0 none 0 0 := ⟨by rw [h1]; exact strs_none w, by rw [h2]; exact BytesT.nil w, fun ad h => by cases h⟩
theorem RsL.kind {w w' : World} {r : Rsm} {A1 A2 : Option Addr} {n1 c1 n2 c2 z : Nat} {t : TypeId} {cz : Array Value} (h : RsL w r A1 n1 c1 A2 n2 c2) (hk : Blk w z t cz) (hg : w.grownBy w' (some z)) (h1 : 9 ≠ t) (h2 : 5 ≠ t) : RsL w' r A1 n1 c1 A2 n2 c2 := by
  refine ⟨h.1.other hg (fun ad n c hv => ?_), h.2.1.other hg (fun ad n c hv => ?_), fun ad hA => ?_⟩
  · injection hv with hv
    obtain ⟨ds, hd⟩ := h.2.2 ad hv
    exact blk_ne hd hk h1
  · obtain ⟨ds, hd⟩ := h.2.1.2 ad n c hv
    exact blk_ne hd hk h2
  · obtain ⟨ds, hd⟩ := h.2.2 ad hA
    exact ⟨ds, hd.kept hg (some_ne (blk_ne hd hk h1))⟩
def DoQ (w : World) (s g b cp : Nat) (X : Sym × Rsm) (e : Ending) (w' : World) : Prop :=
  ∃ A1 n1 c1 A2 n2 c2, e = .returned (.agg (resC X.2 (.slice A1 n1 c1) (.slice A2 n2 c2))) ∧ RsL w' X.2 A1 n1 c1 A2 n2 c2 ∧ Sq w' s g b cp X.1 ∧ Fix [g, b] w w'
def MtC (F : FuncId) (k : Nat) : Prop := ∀ (s g b cp i : Nat) (S : Sym) (p : Prm) (c : Cal) (vd : Value) (w : World), Sq w s g b cp S → Inv S → (opnS S).length ≤ 1000 → S.p[i]? = some p → BytesR w vd c.data → shortC c →
    Calls Tryz.prog F #[.pointer (some ⟨s, 0, none⟩), .pointer (some ⟨b, i * 16, none⟩), .agg (calC c vd)] w (DoQ w s g b cp (doK k S i p c))
structure Mw (w W : World) (s g b cp o : Nat) (S : Sym) (p : Prm) (c : Cal) (vd : Value) (zr : Nat) (G : Option Addr) (m : Nat) : Prop where
  blo : Below w.heap.size w W
  sq : Sq W s g b cp S
  pc : PrC W b o p G m
  kc : Blk W w.heap.size 48 (calC c vd)
  kr : Blk W zr 56 resZ
  lr : w.heap.size ≤ zr
theorem Mw.below {w W V : World} {s g b cp o : Nat} {S : Sym} {p : Prm} {c : Cal} {vd : Value} {zr : Nat} {G : Option Addr} {m : Nat} (h : Mw w W s g b cp o S p c vd zr G m) (hb : Below W.heap.size W V) : Mw w V s g b cp o S p c vd zr G m :=
  ⟨bt hb h.blo, h.sq.below hb, h.pc.below hb, h.kc.below hb, h.kr.below hb, h.lr⟩
theorem mw_start {w : World} {s g b cp i o : Nat} {S : Sym} {p : Prm} {c : Cal} {vd : Value} (h : Sq w s g b cp S) (hp : S.p[i]? = some p) (ho : i * 16 = o) :
    ∃ W zr G m, (w.alloc (.cells (calC c vd) 48)).alloc (.cells resZ 56) = W ∧ w.heap.size + 1 = zr ∧ Mw w W s g b cp o S p c vd zr G m := by
  obtain ⟨G, m, hc⟩ := h.prs i p hp
  rw [ho] at hc
  have hb : Below w.heap.size w ((w.alloc (.cells (calC c vd) 48)).alloc (.cells resZ 56)) := al (ba _ _) _
  refine ⟨_, _, G, m, rfl, rfl, hb, h.below hb, hc.below hb, (Blk.new _ _ _).alloc _, ?_, Nat.le_succ _⟩
  have h1 := Blk.new (w.alloc (.cells (calC c vd) 48)) 56 resZ
  simpa using h1
section
variable {w W V w5 : World} {s g b cp o : Nat} {S : Sym} {p : Prm} {c : Cal} {vd : Value} {zr : Nat} {G : Option Addr} {m : Nat}
theorem Mw.sys (h : Mw w W s g b cp o S p c vd zr G m) : W.cell? ⟨s, 0, none⟩ = some (.pointer (some ⟨g, 0, none⟩)) := by have := h.sq.blk.cell 0; simpa using this
theorem Mw.cal (h : Mw w W s g b cp o S p c vd zr G m) : W.cell? ⟨w.heap.size, 1, none⟩ = some (.string (bA c.path)) ∧ W.cell? ⟨w.heap.size, 2, none⟩ = some (.string (bA c.other)) ∧ W.cell? ⟨w.heap.size, 3, none⟩ = some (.int .i64 c.a) ∧ W.cell? ⟨w.heap.size, 4, none⟩ = some (.int .i64 c.b) ∧ W.cell? ⟨w.heap.size, 5, none⟩ = some vd :=
  ⟨h.kc.cell 1, h.kc.cell 2, h.kc.cell 3, h.kc.cell 4, h.kc.cell 5⟩
theorem Mw.all (h : Mw w W s g b cp o S p c vd zr G m) : W.cell? ⟨s, 0, none⟩ = some (.pointer (some ⟨g, 0, none⟩)) ∧ W.cell? ⟨b, o, none⟩ = some (.int .i64 p.c.u) ∧ W.cell? ⟨b, o + 1, none⟩ = some (.int .i64 p.c.g) ∧ W.cell? ⟨b, o + 2, none⟩ = some (.slice G p.c.gs.length m) ∧ W.cell? ⟨b, o + 3, none⟩ = some (.int .i64 p.um) ∧ W.cell? ⟨w.heap.size, 1, none⟩ = some (.string (bA c.path)) ∧ W.cell? ⟨w.heap.size, 2, none⟩ = some (.string (bA c.other)) ∧ W.cell? ⟨w.heap.size, 3, none⟩ = some (.int .i64 c.a) ∧ W.cell? ⟨w.heap.size, 4, none⟩ = some (.int .i64 c.b) ∧ W.cell? ⟨w.heap.size, 5, none⟩ = some vd :=
  ⟨h.sys, h.pc.c0, h.pc.c1, h.pc.c2, h.pc.c3, h.cal⟩
theorem Mw.tabbed (h : Mw w W s g b cp o S p c vd zr G m) {T : List Nd} (ht : TabR w5 g T (fun _ => True)) (hg : W.grownBy w5 (some g)) : Sq w5 s g b cp ⟨T, S.p⟩ ∧ Fix [g, b] w w5 ∧ Blk w5 zr 56 resZ ∧ Blk w5 w.heap.size 48 (calC c vd) ∧ PrC w5 b o p G m := by
  obtain ⟨ct, hct, -⟩ := h.sq.tab.blk
  obtain ⟨cs, hk, hl⟩ := h.sq.row
  have hbg : b ≠ g := blk_ne hk hct (by decide)
  refine ⟨h.sq.tabbed ht hg, (Fix.of_below h.blo).trans (Fix.of_grown hg (List.mem_cons_self ..)), h.kr.kept hg (some_ne (blk_ne h.kr hct (by decide))), h.kc.kept hg (some_ne (blk_ne h.kc hct (by decide))), h.pc.same (fun j u _ hu => ?_) (h.pc.gs.kind hct (by decide) hg)⟩
  rw [← hu]
  exact World.cell?_of_block (hg.block b hk.lt (some_ne hbg))
theorem Mw.after (h : Mw w W s g b cp o S p c vd zr G m) {T : List Nd} (ht : TabR w5 g T (fun _ => True)) (hg : W.grownBy w5 (some g)) : w5.cell? ⟨s, 0, none⟩ = some (.pointer (some ⟨g, 0, none⟩)) ∧ w5.cell? ⟨b, o, none⟩ = some (.int .i64 p.c.u) ∧ w5.cell? ⟨b, o + 1, none⟩ = some (.int .i64 p.c.g) ∧ w5.cell? ⟨b, o + 2, none⟩ = some (.slice G p.c.gs.length m) ∧ w5.cell? ⟨b, o + 3, none⟩ = some (.int .i64 p.um) ∧ w5.cell? ⟨w.heap.size, 1, none⟩ = some (.string (bA c.path)) ∧ w5.cell? ⟨w.heap.size, 2, none⟩ = some (.string (bA c.other)) ∧ w5.cell? ⟨w.heap.size, 3, none⟩ = some (.int .i64 c.a) ∧ w5.cell? ⟨w.heap.size, 4, none⟩ = some (.int .i64 c.b) ∧ w5.cell? ⟨w.heap.size, 5, none⟩ = some vd := by
  obtain ⟨h1, -, -, h4, h5⟩ := h.tabbed ht hg
  exact ⟨by have := h1.blk.cell 0; simpa using this, h5.c0, h5.c1, h5.c2, h5.c3, h4.cell 1, h4.cell 2, h4.cell 3, h4.cell 4, h4.cell 5⟩
theorem Mw.done (h : Mw w W s g b cp o S p c vd zr G m) {T : List Nd} (ht : TabR w5 g T (fun _ => True)) (hg : W.grownBy w5 (some g)) (u0 u1 u2 u3 u4 u5 u6 u7 u8 u9 u10 u11 : Value) : ((((((((((((w5.setCell ⟨zr, 0, none⟩ u0).setCell ⟨zr, 1, none⟩ u1).setCell ⟨zr, 2, none⟩ u2).setCell ⟨zr, 3, none⟩ u3).setCell ⟨zr, 4, none⟩ u4).setCell ⟨zr, 5, none⟩ u5).setCell ⟨zr, 6, none⟩ u6).setCell ⟨zr, 7, none⟩ u7).setCell ⟨zr, 8, none⟩ u8).setCell ⟨zr, 9, none⟩ u9).setCell ⟨zr, 10, none⟩ u10).setCell ⟨zr, 11, none⟩ u11).cell? ⟨s, 0, none⟩ = some (.pointer (some ⟨g, 0, none⟩)) ∧ ((((((((((((w5.setCell ⟨zr, 0, none⟩ u0).setCell ⟨zr, 1, none⟩ u1).setCell ⟨zr, 2, none⟩ u2).setCell ⟨zr, 3, none⟩ u3).setCell ⟨zr, 4, none⟩ u4).setCell ⟨zr, 5, none⟩ u5).setCell ⟨zr, 6, none⟩ u6).setCell ⟨zr, 7, none⟩ u7).setCell ⟨zr, 8, none⟩ u8).setCell ⟨zr, 9, none⟩ u9).setCell ⟨zr, 10, none⟩ u10).setCell ⟨zr, 11, none⟩ u11).cell? ⟨b, o, none⟩ = some (.int .i64 p.c.u) ∧ ((((((((((((w5.setCell ⟨zr, 0, none⟩ u0).setCell ⟨zr, 1, none⟩ u1).setCell ⟨zr, 2, none⟩ u2).setCell ⟨zr, 3, none⟩ u3).setCell ⟨zr, 4, none⟩ u4).setCell ⟨zr, 5, none⟩ u5).setCell ⟨zr, 6, none⟩ u6).setCell ⟨zr, 7, none⟩ u7).setCell ⟨zr, 8, none⟩ u8).setCell ⟨zr, 9, none⟩ u9).setCell ⟨zr, 10, none⟩ u10).setCell ⟨zr, 11, none⟩ u11).cell? ⟨b, o + 1, none⟩ = some (.int .i64 p.c.g) ∧ ((((((((((((w5.setCell ⟨zr, 0, none⟩ u0).setCell ⟨zr, 1, none⟩ u1).setCell ⟨zr, 2, none⟩ u2).setCell ⟨zr, 3, none⟩ u3).setCell ⟨zr, 4, none⟩ u4).setCell ⟨zr, 5, none⟩ u5).setCell ⟨zr, 6, none⟩ u6).setCell ⟨zr, 7, none⟩ u7).setCell ⟨zr, 8, none⟩ u8).setCell ⟨zr, 9, none⟩ u9).setCell ⟨zr, 10, none⟩ u10).setCell ⟨zr, 11, none⟩ u11).cell? ⟨b, o + 2, none⟩ = some (.slice G p.c.gs.length m) ∧ ((((((((((((w5.setCell ⟨zr, 0, none⟩ u0).setCell ⟨zr, 1, none⟩ u1).setCell ⟨zr, 2, none⟩ u2).setCell ⟨zr, 3, none⟩ u3).setCell ⟨zr, 4, none⟩ u4).setCell ⟨zr, 5, none⟩ u5).setCell ⟨zr, 6, none⟩ u6).setCell ⟨zr, 7, none⟩ u7).setCell ⟨zr, 8, none⟩ u8).setCell ⟨zr, 9, none⟩ u9).setCell ⟨zr, 10, none⟩ u10).setCell ⟨zr, 11, none⟩ u11).cell? ⟨b, o + 3, none⟩ = some (.int .i64 p.um) ∧ ((((((((((((w5.setCell ⟨zr, 0, none⟩ u0).setCell ⟨zr, 1, none⟩ u1).setCell ⟨zr, 2, none⟩ u2).setCell ⟨zr, 3, none⟩ u3).setCell ⟨zr, 4, none⟩ u4).setCell ⟨zr, 5, none⟩ u5).setCell ⟨zr, 6, none⟩ u6).setCell ⟨zr, 7, none⟩ u7).setCell ⟨zr, 8, none⟩ u8).setCell ⟨zr, 9, none⟩ u9).setCell ⟨zr, 10, none⟩ u10).setCell ⟨zr, 11, none⟩ u11).cell? ⟨w.heap.size, 1, none⟩ = some (.string (bA c.path)) ∧ ((((((((((((w5.setCell ⟨zr, 0, none⟩ u0).setCell ⟨zr, 1, none⟩ u1).setCell ⟨zr, 2, none⟩ u2).setCell ⟨zr, 3, none⟩ u3).setCell ⟨zr, 4, none⟩ u4).setCell ⟨zr, 5, none⟩ u5).setCell ⟨zr, 6, none⟩ u6).setCell ⟨zr, 7, none⟩ u7).setCell ⟨zr, 8, none⟩ u8).setCell ⟨zr, 9, none⟩ u9).setCell ⟨zr, 10, none⟩ u10).setCell ⟨zr, 11, none⟩ u11).cell? ⟨w.heap.size, 2, none⟩ = some (.string (bA c.other)) ∧ ((((((((((((w5.setCell ⟨zr, 0, none⟩ u0).setCell ⟨zr, 1, none⟩ u1).setCell ⟨zr, 2, none⟩ u2).setCell ⟨zr, 3, none⟩ u3).setCell ⟨zr, 4, none⟩ u4).setCell ⟨zr, 5, none⟩ u5).setCell ⟨zr, 6, none⟩ u6).setCell ⟨zr, 7, none⟩ u7).setCell ⟨zr, 8, none⟩ u8).setCell ⟨zr, 9, none⟩ u9).setCell ⟨zr, 10, none⟩ u10).setCell ⟨zr, 11, none⟩ u11).cell? ⟨w.heap.size, 3, none⟩ = some (.int .i64 c.a) ∧ ((((((((((((w5.setCell ⟨zr, 0, none⟩ u0).setCell ⟨zr, 1, none⟩ u1).setCell ⟨zr, 2, none⟩ u2).setCell ⟨zr, 3, none⟩ u3).setCell ⟨zr, 4, none⟩ u4).setCell ⟨zr, 5, none⟩ u5).setCell ⟨zr, 6, none⟩ u6).setCell ⟨zr, 7, none⟩ u7).setCell ⟨zr, 8, none⟩ u8).setCell ⟨zr, 9, none⟩ u9).setCell ⟨zr, 10, none⟩ u10).setCell ⟨zr, 11, none⟩ u11).cell? ⟨w.heap.size, 4, none⟩ = some (.int .i64 c.b) ∧ ((((((((((((w5.setCell ⟨zr, 0, none⟩ u0).setCell ⟨zr, 1, none⟩ u1).setCell ⟨zr, 2, none⟩ u2).setCell ⟨zr, 3, none⟩ u3).setCell ⟨zr, 4, none⟩ u4).setCell ⟨zr, 5, none⟩ u5).setCell ⟨zr, 6, none⟩ u6).setCell ⟨zr, 7, none⟩ u7).setCell ⟨zr, 8, none⟩ u8).setCell ⟨zr, 9, none⟩ u9).setCell ⟨zr, 10, none⟩ u10).setCell ⟨zr, 11, none⟩ u11).cell? ⟨w.heap.size, 5, none⟩ = some vd := by
  obtain ⟨h1, -, h3, h4, h5⟩ := h.tabbed ht hg
  have hz := grown12 w5 zr u0 u1 u2 u3 u4 u5 u6 u7 u8 u9 u10 u11
  obtain ⟨cs, hk, -⟩ := h1.row
  have key : ∀ (a : Addr) (u : Value), w5.cell? a = some u → a.block ≠ zr → (put12 w5 zr u0 u1 u2 u3 u4 u5 u6 u7 u8 u9 u10 u11).cell? a = some u := fun a u hu hne => by
    rw [← hu]
    exact World.cell?_of_block (hz.block a.block (World.block_lt_of_cell? _ _ hu) (some_ne hne))
  have ns : s ≠ zr := blk_ne h1.blk h3 (by decide)
  have nb : b ≠ zr := blk_ne hk h3 (by decide)
  have nc : w.heap.size ≠ zr := blk_ne h4 h3 (by decide)
  obtain ⟨a0, a1, a2, a3, a4, a5, a6, a7, a8, a9⟩ := h.after ht hg
  exact ⟨key _ _ a0 ns, key _ _ a1 nb, key _ _ a2 nb, key _ _ a3 nb, key _ _ a4 nb, key _ _ a5 nc, key _ _ a6 nc, key _ _ a7 nc, key _ _ a8 nc, key _ _ a9 nc⟩
end
theorem doq_fin {w w5 : World} {s g b cp zr : Nat} {S' : Sym} {r : Rsm} {A1 A2 : Option Addr} {n1 c1 n2 c2 : Nat} (hs : Sq w5 s g b cp S') (hf : Fix [g, b] w w5) (hk : Blk w5 zr 56 resZ) (hz : w.heap.size ≤ zr) (hl : RsL w5 r A1 n1 c1 A2 n2 c2) :
    DoQ w s g b cp (S', r) (.returned (.agg (resC r (.slice A1 n1 c1) (.slice A2 n2 c2)))) (put12 w5 zr (.int .i64 r.err) (.int .i64 r.n) (.int .i64 r.stat.node) (.int .i64 r.stat.kind) (.int .i64 r.stat.mode) (.int .i64 r.stat.uid) (.int .i64 r.stat.gid) (.int .i64 r.stat.links) (.int .i64 r.stat.size) (.string (bA r.text)) (.slice A1 n1 c1) (.slice A2 n2 c2)) := by
  have hg := grown12 w5 zr (.int .i64 r.err) (.int .i64 r.n) (.int .i64 r.stat.node) (.int .i64 r.stat.kind) (.int .i64 r.stat.mode) (.int .i64 r.stat.uid) (.int .i64 r.stat.gid) (.int .i64 r.stat.links) (.int .i64 r.stat.size) (.string (bA r.text)) (.slice A1 n1 c1) (.slice A2 n2 c2)
  exact ⟨A1, n1, c1, A2, n2, c2, rfl, hl.kind hk hg (by decide) (by decide), hs.kind hk hg (by decide) (by decide) (by decide) (by decide) (by decide) (by decide), hf.far hg hz⟩
theorem doq_e {w w5 : World} {s g b cp zr : Nat} {S' : Sym} (x : Int) (hs : Sq w5 s g b cp S') (hf : Fix [g, b] w w5) (hk : Blk w5 zr 56 resZ) (hz : w.heap.size ≤ zr) :
    DoQ w s g b cp (S', Rsm.e x) (.returned (.agg #[.int .i64 x, .int .i64 0, .int .i64 0, .int .i64 0, .int .i64 0, .int .i64 0, .int .i64 0, .int .i64 0, .int .i64 0, .string ⟨#[]⟩, .slice none 0 0, .slice none 0 0])) (put12 w5 zr (.int .i64 x) (.int .i64 0) (.int .i64 0) (.int .i64 0) (.int .i64 0) (.int .i64 0) (.int .i64 0) (.int .i64 0) (.int .i64 0) (.string ⟨#[]⟩) (.slice none 0 0) (.slice none 0 0)) :=
  doq_fin (r := Rsm.e x) hs hf hk hz (RsL.none w5 rfl rfl)
theorem doq_k {w w5 : World} {s g b cp zr : Nat} {S' : Sym} (x : Int) (hs : Sq w5 s g b cp S') (hf : Fix [g, b] w w5) (hk : Blk w5 zr 56 resZ) (hz : w.heap.size ≤ zr) :
    DoQ w s g b cp (S', Rsm.k x) (.returned (.agg #[.int .i64 0, .int .i64 x, .int .i64 0, .int .i64 0, .int .i64 0, .int .i64 0, .int .i64 0, .int .i64 0, .int .i64 0, .string ⟨#[]⟩, .slice none 0 0, .slice none 0 0])) (put12 w5 zr (.int .i64 0) (.int .i64 x) (.int .i64 0) (.int .i64 0) (.int .i64 0) (.int .i64 0) (.int .i64 0) (.int .i64 0) (.int .i64 0) (.string ⟨#[]⟩) (.slice none 0 0) (.slice none 0 0)) :=
  doq_fin (r := Rsm.k x) hs hf hk hz (RsL.none w5 rfl rfl)
theorem doq_s {w w5 : World} {s g b cp zr : Nat} {S' : Sym} (x : Int) (st : Sta) (hs : Sq w5 s g b cp S') (hf : Fix [g, b] w w5) (hk : Blk w5 zr 56 resZ) (hz : w.heap.size ≤ zr) :
    DoQ w s g b cp (S', ⟨x, 0, st, [], [], []⟩) (.returned (.agg #[.int .i64 x, .int .i64 0, .int .i64 st.node, .int .i64 st.kind, .int .i64 st.mode, .int .i64 st.uid, .int .i64 st.gid, .int .i64 st.links, .int .i64 st.size, .string ⟨#[]⟩, .slice none 0 0, .slice none 0 0])) (put12 w5 zr (.int .i64 x) (.int .i64 0) (.int .i64 st.node) (.int .i64 st.kind) (.int .i64 st.mode) (.int .i64 st.uid) (.int .i64 st.gid) (.int .i64 st.links) (.int .i64 st.size) (.string ⟨#[]⟩) (.slice none 0 0) (.slice none 0 0)) :=
  doq_fin (r := ⟨x, 0, st, [], [], []⟩) hs hf hk hz (RsL.none w5 rfl rfl)
theorem doq_t {w w5 : World} {s g b cp zr : Nat} {S' : Sym} (x : Int) (tx : Nm) (hs : Sq w5 s g b cp S') (hf : Fix [g, b] w w5) (hk : Blk w5 zr 56 resZ) (hz : w.heap.size ≤ zr) :
    DoQ w s g b cp (S', ⟨x, 0, Sta.zero, tx, [], []⟩) (.returned (.agg #[.int .i64 x, .int .i64 0, .int .i64 0, .int .i64 0, .int .i64 0, .int .i64 0, .int .i64 0, .int .i64 0, .int .i64 0, .string (bA tx), .slice none 0 0, .slice none 0 0])) (put12 w5 zr (.int .i64 x) (.int .i64 0) (.int .i64 0) (.int .i64 0) (.int .i64 0) (.int .i64 0) (.int .i64 0) (.int .i64 0) (.int .i64 0) (.string (bA tx)) (.slice none 0 0) (.slice none 0 0)) :=
  doq_fin (r := ⟨x, 0, Sta.zero, tx, [], []⟩) hs hf hk hz (RsL.none w5 rfl rfl)
theorem doq_n {w w5 : World} {s g b cp zr : Nat} {S' : Sym} (x : Int) (ns : List Nm) (A : Option Addr) (n k : Nat) (hs : Sq w5 s g b cp S') (hf : Fix [g, b] w w5) (hk : Blk w5 zr 56 resZ) (hz : w.heap.size ≤ zr) (h1 : StrsR w5 (.slice A n k) (nmA ns)) (h2 : StrK w5 (.slice A n k)) :
    DoQ w s g b cp (S', ⟨x, 0, Sta.zero, [], ns, []⟩) (.returned (.agg #[.int .i64 x, .int .i64 0, .int .i64 0, .int .i64 0, .int .i64 0, .int .i64 0, .int .i64 0, .int .i64 0, .int .i64 0, .string ⟨#[]⟩, .slice A n k, .slice none 0 0])) (put12 w5 zr (.int .i64 x) (.int .i64 0) (.int .i64 0) (.int .i64 0) (.int .i64 0) (.int .i64 0) (.int .i64 0) (.int .i64 0) (.int .i64 0) (.string ⟨#[]⟩) (.slice A n k) (.slice none 0 0)) :=
  doq_fin (r := ⟨x, 0, Sta.zero, [], ns, []⟩) hs hf hk hz ⟨h1, BytesT.nil w5, fun ad hA => h2 ad n k (by rw [hA])⟩
theorem doq_d {w w5 : World} {s g b cp zr : Nat} {S' : Sym} (x : Int) (d : List UInt8) (A : Option Addr) (n k : Nat) (hs : Sq w5 s g b cp S') (hf : Fix [g, b] w w5) (hk : Blk w5 zr 56 resZ) (hz : w.heap.size ≤ zr) (h1 : BytesT w5 (.slice A n k) d) :
    DoQ w s g b cp (S', ⟨x, 0, Sta.zero, [], [], d⟩) (.returned (.agg #[.int .i64 x, .int .i64 0, .int .i64 0, .int .i64 0, .int .i64 0, .int .i64 0, .int .i64 0, .int .i64 0, .int .i64 0, .string ⟨#[]⟩, .slice none 0 0, .slice A n k])) (put12 w5 zr (.int .i64 x) (.int .i64 0) (.int .i64 0) (.int .i64 0) (.int .i64 0) (.int .i64 0) (.int .i64 0) (.int .i64 0) (.int .i64 0) (.string ⟨#[]⟩) (.slice none 0 0) (.slice A n k)) :=
  doq_fin (r := ⟨x, 0, Sta.zero, [], [], d⟩) hs hf hk hz ⟨strs_none w5, h1, fun ad hA => by cases hA⟩
end Go.Proofs.YtkmkfolpjlkfoaaGreat
