/-
  The walk of the law OptsAsk: of any options, letter and letters it answers true.
-/
import Derived.Test.YtldomiagincegaaAwake
import Derived.Test.YtldomiagincegaaRAsk
import Derived.Test.YtldomiagincegaaLet
import Derived.Deep.RegionHeld3
namespace Go.Proofs.Ytldomiagincegaa
open Go Go.RowKit

theorem askLaw_out (vL : Value) (l : List Fl) (x : UInt8) (s : ByteArray) (w : World) (hL : FlagsR w vL l) (hn : l.length ≤ maxLen) (hs : s.size ≤ maxLen) (h : 60 < l.length ∨ 60 < s.size) :
    Calls Try.prog 4 #[vL, .int .u8 (co x), .string s] w fun e w' => e = .returned (.bool true) ∧ Below w.heap.size w w' := by
  have hn' : l.length ≤ 9223372036854775807 := by unfold maxLen at hn; omega
  have hs' : s.size ≤ 9223372036854775807 := by unfold maxLen at hs; omega
  have HA := Lib.hid (awake_any w)
  obtain ⟨A, c, rfl, -⟩ := hL
  clear hn hs
  by_cases h1 : 60 < l.length
  · clear h
    go_enter Try.func4, Try.ntmps4
    go_wp2_with fail
    refine HA.out.mono ?_
    rintro e w1 ⟨rfl, hb⟩
    have HB1 := Lib.hid hb
    clear hb
    go_wp2
    go_ret
    exact ⟨rfl, HB1.out⟩
  · have h2 : 60 < s.size := by omega
    have hd : decide ((60 : Int) < (l.length : Int)) = false := by simp; omega
    clear h
    go_enter Try.func4, Try.ntmps4
    go_wp2_with fail
    refine HA.out.mono ?_
    rintro e w1 ⟨rfl, hb⟩
    have HB1 := Lib.hid hb
    clear hb
    go_wp2
    go_ret
    exact ⟨rfl, HB1.out⟩
/-- The reference's options so far. -/
structure AS (wB wr : World) (vF : Value) (fl : List Fl) : Prop where
  below : Below wB.heap.size wB wr
  box : Blk wr wB.heap.size 33 #[vF, .slice none 0 0, .bool false]
  own : wr.ownsRow wB.heap.size 39 2 vF fl.length (fCells fl)
section
variable {wB wr w1 : World} {vF v' : Value} {fl : List Fl} {f : Fl} {o : Obj}
theorem AS.box1 (h : AS wB wr vF fl) (hg : (wr.alloc o).drew.grownBy w1 vF.ownBlock) : Blk w1 wB.heap.size 33 #[vF, .slice none 0 0, .bool false] :=
  Blk.kept (w := (wr.alloc o).drew) (h.box.alloc o) hg (own_blk_ne h.own h.box (by decide)).symm
theorem AS.cell1 (h : AS wB wr vF fl) (hg : (wr.alloc o).drew.grownBy w1 vF.ownBlock) : w1.cell? ⟨wB.heap.size, 0, none⟩ = some vF ∧ w1.frozen? ⟨wB.heap.size, 0, none⟩ = false :=
  ⟨by simpa using (h.box1 hg).cell 0, (h.box1 hg).frozen 0⟩
theorem AS.stored (h : AS wB wr vF fl) (hg : (wr.alloc o).drew.grownBy w1 vF.ownBlock)
    (ho : w1.ownsRow wB.heap.size 39 2 v' (fl.length + 1) (fCells fl ++ [.int .u8 (co f.1), .string f.2])) : AS wB (w1.setCell ⟨wB.heap.size, 0, none⟩ v') v' (fl ++ [f]) := by
  have hb1 : Below wB.heap.size wB w1 := Below.grown (w := (wr.alloc o).drew) ((h.below.alloc h.below.size o).drew) hg (by simp; have := h.below.size; omega) (fun q hq => (h.own.lt q hq).1)
  refine ⟨hb1.setCell (Nat.le_refl _) _, (h.box1 hg).set_ 0 _, ?_⟩
  rw [fCells_snoc, List.length_append]
  exact ho.kept (grown_setCell _ _ _) (.inr (own_blk_ne ho (h.box1 hg) (by decide)))
end
set_option maxRecDepth 100000 in
set_option maxHeartbeats 8000000 in
theorem askLaw_in (vL : Value) (l : List Fl) (x : UInt8) (s : ByteArray) (w : World) (hL : FlagsR w vL l) (hn : l.length ≤ 60) (hs : s.size ≤ 60) :
    Calls Try.prog 4 #[vL, .int .u8 (co x), .string s] w fun e w' => e = .returned (.bool true) ∧ Below w.heap.size w w' := by
  have HA := Lib.hid (awake_any w)
  have HL := Lib.hid hL
  obtain ⟨A, c, rfl, hc⟩ := hL
  have HC := Lib.hid hc
  have hd : decide ((60 : Int) < (l.length : Int)) = false := by simp; omega
  have hd2 : decide ((60 : Int) < (s.size : Int)) = false := by simp; omega
  clear hc
  go_enter Try.func4, Try.ntmps4
  go_wp2_with fail
  refine HA.out.mono ?_
  rintro e w1 ⟨rfl, hb⟩
  have HB1 := Lib.hid hb
  clear hb HA
  go_wp2
  obtain ⟨wB, hwB⟩ : ∃ wB, w1.alloc (.cells #[.slice A l.length c, .slice none 0 0] 27) = wB := ⟨_, rfl⟩
  have hzB : wB.heap.size = w1.heap.size + 1 := by rw [← hwB]; simp
  have hBB : Below w.heap.size w wB := by rw [← hwB]; exact al HB1.out _
  have hOB : Blk wB w1.heap.size 27 #[.slice A l.length c, .slice none 0 0] := by rw [← hwB]; exact Blk.new _ _ _
  rw [hwB, ← hzB]
  have HAS := Lib.hid (show AS wB (wB.alloc (.cells #[.slice none 0 0, .slice none 0 0, .bool false] 33)) (.slice none 0 0) [] from ⟨(Below.refl _ _).alloc (Nat.le_refl _) _, Blk.new _ _ _, World.ownsRow_nil _ _ _ _⟩)
  have HZB := Lib.hid hzB
  have HBB := Lib.hid hBB
  have HOB := Lib.hid hOB
  clear hwB hzB hBB hOB
  go_loopg [10] l.length (fun gh s10 wr => ∃ (k : Nat) (vF : Value), s10 = .int .i64 k ∧ k ≤ l.length ∧ gh = l.length - k ∧ AS wB wr vF (l.take k))
  case atStart => exact ⟨0, _, rfl, Nat.zero_le _, rfl, HAS.out⟩
  case round =>
    clear HAS
    obtain ⟨k, vF, rfl, hk, rfl, hS⟩ := hrel
    have HS := Lib.hid hS
    have b0 := hS.box.cell 0
    have f0 := hS.box.frozen 0
    simp at b0
    have hzb : wB.heap.size < wr.heap.size := hS.box.lt
    have HB := Lib.hid (bt hS.below HBB.out)
    clear hS
    by_cases hlt : k < l.length
    · obtain ⟨f, hf⟩ : ∃ f, l[k]? = some f := ⟨_, List.getElem?_eq_getElem hlt⟩
      obtain ⟨ad, rfl, c0, c1⟩ := HC.out k f hf
      have e0 := bc HB.out c0
      have e1 := bc HB.out c1
      have z0 : (ad.add (k * 2)).block < wr.heap.size := World.block_lt_of_cell? _ _ e0
      have HFJ := Lib.hid hf
      have hlen : (l.take k).length = k := by rw [List.length_take]; omega
      clear hf c0 c1
      obtain ⟨ch, sv⟩ := f
      simp only at e0 e1
      obtain ⟨i0, hi0, hz0, hz1, hz2⟩ := info_parts info_F
      have HOWN := Lib.hid (show ((wr.alloc (.cells #[.int .u8 (co ch), .string sv] 39)).drew).ownsRow wB.heap.size 39 2 vF k (fCells (l.take k)) by have := HS.out.own.alloc (.cells #[.int .u8 (co ch), .string sv] 39); rw [hlen] at this; exact this)
      have HNEW := Lib.hid (show ∀ (j : Nat) (u : Value), [Value.int .u8 (co ch), .string sv][j]? = some u → ((wr.alloc (.cells #[.int .u8 (co ch), .string sv] 39)).drew).cell? ((⟨wr.heap.size, 0, none⟩ : Addr).add j) = some u from
        fun j u hj => World.news_of_block (heap_alloc_new wr (.cells #[.int .u8 (co ch), .string sv] 39)) j u (by simpa using hj))
      have HLEN := Lib.hid hlen
      clear hlen
      have HBS := Lib.hid (show wB.heap.size ≤ ((wr.alloc (.cells #[.int .u8 (co ch), .string sv] 39)).drew).heap.size by simp; have := HS.out.below.size; omega)
      go_wp2
      go_region_law (refine step_append_lies _ rfl (.tmp 36) (.tmp 48) 31 rfl wB.heap.size 39 i0 _ 2 24 Try.underlying31 hi0 hz0 hz1 hz2 rfl (by decide) vF k (fCells (l.take k)) (by simp [Act.eval]) HOWN.out ⟨wr.heap.size, 0, none⟩ 1 1 [.int .u8 (co ch), .string sv] (by simp [Act.eval]) rfl HNEW.out (flag_one (ch, sv)) (by decide) (by unfold maxLen; omega) (by omega) HBS.out _ rfl ?_; intro g1 cap1 w2 ho1 hg1 hat1 hlt1; obtain ⟨kk0, ff0⟩ := HS.out.cell1 hg1; have HST := Lib.hid (HS.out.stored (f := (ch, sv)) hg1 (by rw [HLEN.out]; exact ho1)); clear ho1 hg1 hat1 hlt1)
      all_goals (
        go_wp2
        go_roundg (l.length - (k + 1))
        case measure => omega
        case rel => exact ⟨k + 1, _, by go_num, by omega, rfl, by rw [take_snoc' HFJ.out]; exact HST.out⟩)
    · have HS2 := Lib.hid (show AS wB wr vF l by have := HS.out; rwa [List.take_of_length_le (by omega)] at this)
      have hOr := HOB.out.below HS2.out.below
      have a0 := hOr.cell 0
      have a1 := hOr.cell 1
      have b1 := HS2.out.box.cell 1
      have b2 := HS2.out.box.cell 2
      simp at a0 a1 b1 b2
      have HOR := Lib.hid (fun W (hW : Below wr.heap.size wr W) => show OptsR W (.agg #[.slice A l.length c, .slice none 0 0]) l [] from ⟨_, _, rfl, HL.out.below (bt hW HB.out), StrsR.nil _⟩)
      have HFR := Lib.hid (fun W (hW : Below wr.heap.size wr W) => (FlagsR.of_own HS2.out.own).below hW)
      have HVV := Lib.hid (fun W hW => value_any _ l [] x W (HOR.out W hW) (by omega))
      have HRV := Lib.hid (fun W hW => rvalue_any vF (.slice none 0 0) false l x W (HFR.out W hW) ⟨none, 0, 0, rfl⟩ (by omega))
      have HHH := Lib.hid (fun W hW => has_any _ l [] x W (HOR.out W hW) (by omega))
      have HLL := Lib.hid (fun W hW => last_any _ l [] s W (HOR.out W hW) (by omega) (by omega))
      have HRL := Lib.hid (fun W hW => rlast_any vF (.slice none 0 0) false l s W (HFR.out W hW) ⟨none, 0, 0, rfl⟩ (by omega) (by omega))
      generalize lastF l [x] = O at HVV HRV HHH
      generalize lastF l s.data.toList = O2 at HLL HRL
      generalize (lv O).2 = V at HVV HRV
      generalize O.isSome = T at HVV HRV HHH
      generalize co (lv O2).1 = N at HLL HRL
      have m1 : (V.toList == V.toList) = true := by simp
      have m2 : (T == T) = true := by simp
      have m3 : (N == N) = true := by simp
      obtain ⟨A9, c9, hv9⟩ := own_slice HS2.out.own
      subst hv9
      clear hOr f0
      go_wp2_with fail
      refine (HVV.out _ (Below.refl _ _)).mono ?_
      rintro e w3 ⟨rfl, hb3⟩
      have d0 := bc hb3 b0
      have d1 := bc hb3 b1
      have d2 := bc hb3 b2
      have g0 := bc hb3 a0
      have g1 := bc hb3 a1
      have HB3 := Lib.hid hb3
      clear hb3
      go_wp2_with fail
      refine (HRV.out _ HB3.out).mono ?_
      rintro e w4 ⟨rfl, hb4⟩
      have hX : Below wr.heap.size wr w4.drew := (bt hb4 HB3.out).drew
      have hs0 : w4.drew.cell? ⟨w1.heap.size, 0, none⟩ = some (.slice A l.length c) := bc hb4.drew g0
      have hs1 : w4.drew.cell? ⟨w1.heap.size, 1, none⟩ = some (.slice none 0 0) := bc hb4.drew g1
      have hs2 : w4.drew.cell? ⟨wB.heap.size, 0, none⟩ = some (.slice A9 l.length c9) := bc hb4.drew d0
      have hs3 : w4.drew.cell? ⟨wB.heap.size, 1, none⟩ = some (.slice none 0 0) := bc hb4.drew d1
      have hs4 : w4.drew.cell? ⟨wB.heap.size, 2, none⟩ = some (.bool false) := bc hb4.drew d2
      clear hb4 a0 a1 b0 b1 b2 d0 d1 d2 g0 g1
      go_wp2_with fail
      go_region_held3 (fun w' => w'.cell? ⟨w1.heap.size, 0, none⟩ = some (.slice A l.length c) ∧ w'.cell? ⟨w1.heap.size, 1, none⟩ = some (.slice none 0 0) ∧ w'.cell? ⟨wB.heap.size, 0, none⟩ = some (.slice A9 l.length c9) ∧ w'.cell? ⟨wB.heap.size, 1, none⟩ = some (.slice none 0 0) ∧ w'.cell? ⟨wB.heap.size, 2, none⟩ = some (.bool false) ∧ Below wr.heap.size wr w') (first | exact ⟨hs0, hs1, hs2, hs3, hs4, hX⟩ | exact ⟨bc hb5 hs0, bc hb5 hs1, bc hb5 hs2, bc hb5 hs3, bc hb5 hs4, bt hb5 hX⟩ | exact ⟨bc hb6 (bc hb5 hs0), bc hb6 (bc hb5 hs1), bc hb6 (bc hb5 hs2), bc hb6 (bc hb5 hs3), bc hb6 (bc hb5 hs4), bt hb6 (bt hb5 hX)⟩ | exact ⟨bc hb7 (bc hb6 (bc hb5 hs0)), bc hb7 (bc hb6 (bc hb5 hs1)), bc hb7 (bc hb6 (bc hb5 hs2)), bc hb7 (bc hb6 (bc hb5 hs3)), bc hb7 (bc hb6 (bc hb5 hs4)), bt hb7 (bt hb6 (bt hb5 hX))⟩)
        (first | (go_at_call 15; refine (HHH.out _ hX).mono ?_; rintro e w5 ⟨rfl, hb5⟩) | (go_at_call 16; refine (HLL.out _ (bt hb5 hX)).mono ?_; rintro e w6 ⟨rfl, hb6⟩) | (go_at_call 17; refine (HRL.out _ (bt hb6 (bt hb5 hX))).mono ?_; rintro e w7 ⟨rfl, hb7⟩))
      all_goals
        go_wp2
        go_ret
        exact ⟨rfl, bt hb7 (bt hb6 (bt hb5 (bt hX HB.out)))⟩
theorem askWalk (vL : Value) (l : List Fl) (x : UInt8) (s : ByteArray) (w : World) (hL : FlagsR w vL l) (hn : l.length ≤ maxLen) (hs : s.size ≤ maxLen) :
    Calls Try.prog 4 #[vL, .int .u8 (co x), .string s] w fun e w' => e = .returned (.bool true) ∧ Below w.heap.size w w' := by
  by_cases h : 60 < l.length ∨ 60 < s.size
  · exact askLaw_out vL l x s w hL hn hs h
  · exact askLaw_in vL l x s w hL (by omega) (by omega)
theorem byte_is {n : Int} (h : (Lit.int .u8 n).wf = true) : ∃ c : UInt8, n = co c := by
  have hb : 0 ≤ n ∧ n ≤ 255 := by simpa [Lit.wf, IntKind.min, IntKind.max, IntKind.signed, IntKind.bits] using h
  refine ⟨UInt8.ofNat n.toNat, ?_⟩
  unfold co
  rw [UInt8.toNat_ofNat']
  omega
theorem askWalkN (vL : Value) (l : List Fl) (x : Int) (s : ByteArray) (w : World) (hL : FlagsR w vL l) (hn : l.length ≤ maxLen) (hx : (Lit.int .u8 x).wf = true) (hs : s.size ≤ maxLen) :
    Calls Try.prog 4 #[vL, .int .u8 x, .string s] w fun e w' => e = .returned (.bool true) ∧ Below w.heap.size w w' := by
  obtain ⟨b, rfl⟩ := byte_is hx
  exact askWalk vL l b s w hL hn hs
end Go.Proofs.Ytldomiagincegaa
