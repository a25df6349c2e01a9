/-
  What gaolerref06.letters answers of any word's letters. The conditions: a text has a million bytes at most, and so many options, words and letters there are at most.
-/
import Derived.Test.YtldomiagincegaaRef
import Derived.Test.YtldomiagincegaaRead
import Derived.StillTailTactics
import Derived.Deep.RegionLaw
import Derived.Deep.AppendLies
namespace Go.Proofs.Ytldomiagincegaa
open Go Go.RowKit

/-- Every block that holds none of the reference's options stands as it stood. -/
def Oth (w w' : World) : Prop := ∀ (k : Nat) (o : Obj), w.heap[k]? = some o → (∀ c fz, o ≠ .cells c 39 fz) → w'.heap[k]? = some o
theorem Oth.refl (w : World) : Oth w w := fun _ _ h _ => h
theorem Oth.trans {a b c : World} (h : Oth a b) (k : Oth b c) : Oth a c := fun i o hi ho => k i o (h i o hi ho) ho
theorem Oth.alloc {a w : World} (h : Oth a w) (o : Obj) : Oth a (w.alloc o) := fun i p hi hp => by
  have := h i p hi hp
  rw [Below.heap_alloc w o i (Array.getElem?_eq_some_iff.1 this).1]
  exact this
theorem Oth.setCell {a w : World} (h : Oth a w) (p : Addr) (u : Value) (hp : a.heap.size ≤ p.block) : Oth a (w.setCell p u) := fun i o hi ho => by
  have hlt := (Array.getElem?_eq_some_iff.1 hi).1
  rw [Below.heap_setCell w p u i (by omega)]
  exact h i o hi ho
theorem Oth.own {a w w' : World} {B n : Nat} {v : Value} {xs : List Value} (h : Oth a w) (hb : w.ownsRow B 39 2 v n xs) (hg : w.grownBy w' v.ownBlock) : Oth a w' := fun i p hi hp => by
  have h1 := h i p hi hp
  rw [hg.block i (Array.getElem?_eq_some_iff.1 h1).1 ?_]
  · exact h1
  · intro e
    rcases hb.2 with ⟨rfl, _⟩ | ⟨g, cap, cur, rfl, _, hh, _⟩
    · simp [Value.ownBlock] at e
    · have : i = g := by simpa [Value.ownBlock] using e
      subst this
      rw [hh] at h1
      injection h1 with h1
      exact hp cur (0, 0) h1.symm
theorem Oth.below {a w w' : World} (h : Oth a w) (hb : Below w.heap.size w w') : Oth a w' := fun i p hi hp => by
  have h1 := h i p hi hp
  exact (hb.block i (Array.getElem?_eq_some_iff.1 h1).1).trans h1
theorem Oth.blk {w w' : World} {g : Nat} {cs : Array Value} {t : TypeId} (h : Oth w w') (hb : Blk w g t cs) (ht : t ≠ 39) : Blk w' g t cs :=
  h g _ hb (fun c fz e => by injection e with _ e; exact ht e)
/-- In the middle of a word. -/
structure LS (w0 w wr : World) (vF : Value) (fl : List Fl) : Prop where
  below : Below w0.heap.size w0 wr
  base : w0.heap.size ≤ w.heap.size
  oth : Oth w wr
  box : Blk wr w.heap.size 33 #[vF, .slice none 0 0, .bool true]
  res : Blk wr (w.heap.size + 1) 33 #[.slice none 0 0, .slice none 0 0, .bool false]
  own : wr.ownsRow w0.heap.size 39 2 vF fl.length (fCells fl)
theorem LS.drew {w0 w wr : World} {vF : Value} {fl : List Fl} (h : LS w0 w wr vF fl) : LS w0 w wr.drew vF fl := ⟨h.below.drew, h.base, h.oth, h.box, h.res, h.own⟩
theorem LS.box1 {w0 w wr w1 : World} {vF : Value} {fl : List Fl} (h : LS w0 w wr vF fl) {o : Obj} (hg : (wr.alloc o).drew.grownBy w1 vF.ownBlock) : Blk w1 w.heap.size 33 #[vF, .slice none 0 0, .bool true] :=
  Blk.kept (w := (wr.alloc o).drew) (h.box.alloc o) hg (own_blk_ne h.own h.box (by decide)).symm
theorem LS.cell1 {w0 w wr w1 : World} {vF : Value} {fl : List Fl} (h : LS w0 w wr vF fl) {o : Obj} (hg : (wr.alloc o).drew.grownBy w1 vF.ownBlock) : w1.cell? ⟨w.heap.size, 0, none⟩ = some vF ∧ w1.frozen? ⟨w.heap.size, 0, none⟩ = false :=
  ⟨by simpa using (h.box1 hg).cell 0, (h.box1 hg).frozen 0⟩
theorem LS.stored {w0 w wr w1 : World} {vF v' : Value} {fl : List Fl} {f : Fl} (h : LS w0 w wr vF fl) {o : Obj} (hg : (wr.alloc o).drew.grownBy w1 vF.ownBlock)
    (ho : w1.ownsRow w0.heap.size 39 2 v' (fl.length + 1) (fCells fl ++ [.int .u8 (co f.1), .string f.2])) : LS w0 w (w1.setCell ⟨w.heap.size, 0, none⟩ v') v' (fl ++ [f]) := by
  have hb1 : Below w0.heap.size w0 w1 := Below.grown (w := (wr.alloc o).drew) ((h.below.alloc h.below.size o).drew) hg (by simp; have := h.below.size; omega) (fun q hq => (h.own.lt q hq).1)
  have hr1 : Blk w1 (w.heap.size + 1) 33 #[.slice none 0 0, .slice none 0 0, .bool false] := Blk.kept (w := (wr.alloc o).drew) (h.res.alloc o) hg (own_blk_ne h.own h.res (by decide)).symm
  have ho1 : Oth w w1 := Oth.own (w := (wr.alloc o).drew) (h.oth.alloc o) (h.own.alloc o) hg
  refine ⟨hb1.setCell h.base _, h.base, ho1.setCell _ _ (Nat.le_refl _), (h.box1 hg).set_ 0 _, ?_, ?_⟩
  · exact hr1.kept (grown_setCell _ _ _) (by simp)
  · rw [fCells_snoc, List.length_append]
    exact ho.kept (grown_setCell _ _ _) (.inr (own_blk_ne ho (h.box1 hg) (by decide)))
/-- What letters hands back. -/
def LP (w0 w : World) (o : Option (List Fl × List ByteArray)) (e : Ending) (w' : World) : Prop :=
  Below w0.heap.size w0 w' ∧ Oth w w' ∧ match o with
  | none => e = .returned (.tuple #[.agg #[.slice none 0 0, .slice none 0 0, .bool false], .slice none 0 0])
  | some p => ∃ vF vL, e = .returned (.tuple #[.agg #[vF, .slice none 0 0, .bool true], vL]) ∧ w'.ownsRow w0.heap.size 39 2 vF p.1.length (fCells p.1) ∧ StrsR w0 vL p.2
theorem LS.facts {w0 w W : World} {vF : Value} {fl : List Fl} (h : LS w0 w W vF fl) :
    (W.cell? ⟨w.heap.size, 0, none⟩ = some vF ∧ W.cell? ⟨w.heap.size, 1, none⟩ = some (.slice none 0 0) ∧ W.cell? ⟨w.heap.size, 2, none⟩ = some (.bool true)) ∧
    (W.cell? ⟨w.heap.size + 1, 0, none⟩ = some (.slice none 0 0) ∧ W.cell? ⟨w.heap.size + 1, 1, none⟩ = some (.slice none 0 0) ∧ W.cell? ⟨w.heap.size + 1, 2, none⟩ = some (.bool false)) ∧
    (W.frozen? ⟨w.heap.size + 1, 0, none⟩ = false ∧ W.frozen? ⟨w.heap.size + 1, 1, none⟩ = false ∧ W.frozen? ⟨w.heap.size + 1, 2, none⟩ = false) ∧ W.frozen? ⟨w.heap.size, 0, none⟩ = false ∧ w.heap.size < W.heap.size ∧ w.heap.size + 1 < W.heap.size ∧
    (∀ u, (W.setCell ⟨w.heap.size + 1, 0, none⟩ u).cell? ⟨w.heap.size + 1, 0, none⟩ = some u) ∧ (∀ u v, ((W.setCell ⟨w.heap.size + 1, 0, none⟩ u).setCell ⟨w.heap.size + 1, 1, none⟩ v).cell? ⟨w.heap.size + 1, 1, none⟩ = some v) ∧
    ∀ u v x, (((W.setCell ⟨w.heap.size + 1, 0, none⟩ u).setCell ⟨w.heap.size + 1, 1, none⟩ v).setCell ⟨w.heap.size + 1, 2, none⟩ x).cell? ⟨w.heap.size + 1, 2, none⟩ = some x :=
  ⟨⟨by simpa using h.box.cell 0, by simpa using h.box.cell 1, by simpa using h.box.cell 2⟩, ⟨by simpa using h.res.cell 0, by simpa using h.res.cell 1, by simpa using h.res.cell 2⟩, ⟨h.res.frozen 0, h.res.frozen 1, h.res.frozen 2⟩, h.box.frozen 0, h.box.lt, h.res.lt,
    fun u => by simpa using (h.res.set_ 0 u).cell 0, fun u v => by simpa using ((h.res.set_ 0 u).set_ 1 v).cell 1, fun u v x => by simpa using (((h.res.set_ 0 u).set_ 1 v).set_ 2 x).cell 2⟩
theorem LS.world {w0 w W : World} {vF : Value} {fl : List Fl} (h : LS w0 w W vF fl) (u v x : Value) : Below w0.heap.size w0 (((W.setCell ⟨w.heap.size + 1, 0, none⟩ u).setCell ⟨w.heap.size + 1, 1, none⟩ v).setCell ⟨w.heap.size + 1, 2, none⟩ x) ∧ Oth w (((W.setCell ⟨w.heap.size + 1, 0, none⟩ u).setCell ⟨w.heap.size + 1, 1, none⟩ v).setCell ⟨w.heap.size + 1, 2, none⟩ x) :=
  have hb : w0.heap.size ≤ w.heap.size + 1 := by have := h.base; omega
  ⟨((h.below.setCell hb _).setCell hb _).setCell hb _, ((h.oth.setCell _ _ (by simp)).setCell _ _ (by simp)).setCell _ _ (by simp)⟩
theorem LS.bad {w0 w W : World} {vF : Value} {fl : List Fl} (h : LS w0 w W vF fl) (u v x : Value) :
    LP w0 w none (.returned (.tuple #[.agg #[.slice none 0 0, .slice none 0 0, .bool false], .slice none 0 0])) (((W.setCell ⟨w.heap.size + 1, 0, none⟩ u).setCell ⟨w.heap.size + 1, 1, none⟩ v).setCell ⟨w.heap.size + 1, 2, none⟩ x) :=
  ⟨(h.world u v x).1, (h.world u v x).2, rfl⟩
theorem LS.good {w0 w W : World} {vF : Value} {fl : List Fl} {vL : Value} {ws : List ByteArray} (h : LS w0 w W vF fl) (hW : StrsR w0 vL ws) (u v x : Value) :
    LP w0 w (some (fl, ws)) (.returned (.tuple #[.agg #[vF, .slice none 0 0, .bool true], vL])) (((W.setCell ⟨w.heap.size + 1, 0, none⟩ u).setCell ⟨w.heap.size + 1, 1, none⟩ v).setCell ⟨w.heap.size + 1, 2, none⟩ x) :=
  ⟨(h.world u v x).1, (h.world u v x).2, vF, vL, rfl, (h.own.kept (grown_trans (grown_trans (grown_setCell W ⟨w.heap.size + 1, 0, none⟩ u) (grown_setCell _ ⟨w.heap.size + 1, 1, none⟩ v)) (grown_setCell _ ⟨w.heap.size + 1, 2, none⟩ x)) (.inr (own_blk_ne h.own h.res (by decide)))), hW⟩
theorem LP.drew {w0 w W : World} {o : Option (List Fl × List ByteArray)} {e : Ending} (h : LP w0 w o e W) : LP w0 w o e W.drew := ⟨h.1.drew, h.2.1, h.2.2⟩
theorem cell_off3 (W : World) (b i j : Nat) (v : Value) (h : i ≠ j) : (W.setCell ⟨b, i, none⟩ v).cell? ⟨b, j, none⟩ = W.cell? ⟨b, j, none⟩ :=
  World.cell?_setCell_other _ _ _ _ (fun e => h (by injection e))
attribute [local go_sem] cell_off3
set_option maxRecDepth 100000 in
set_option maxHeartbeats 8000000 in
theorem letters_any {w0 w : World} {vF : Value} {fl : List Fl} {may : ByteArray} {vL : Value} {ws : List ByteArray} (hb : Below w0.heap.size w0 w) (hown : w.ownsRow w0.heap.size 39 2 vF fl.length (fCells fl)) (hW : StrsR w0 vL ws)
    (s : ByteArray) (hf : fl.length + s.size ≤ 1000000) (hw : ws.length ≤ 1000000) (hm : may.size ≤ 1000000) :
    Calls Try.prog 22 #[.string may, .agg #[vF, .slice none 0 0, .bool true], .string s, vL] w (LP w0 w ((lets may s ws s.size).map fun p => (fl ++ p.1, p.2))) := by
  obtain ⟨O, hO⟩ : ∃ O, ((lets may s ws s.size).map fun p => (fl ++ p.1, p.2)) = O := ⟨_, rfl⟩
  rw [hO]
  have HO := Lib.hid hO
  have HW := Lib.hid hW
  obtain ⟨AL, cL, rfl, -, -⟩ := hW
  obtain ⟨AF, cF, rfl⟩ := own_slice hown
  have HS := Lib.hid (show LS w0 w ((w.alloc (.cells #[.slice AF fl.length cF, .slice none 0 0, .bool true] 33)).alloc (.cells #[.slice none 0 0, .slice none 0 0, .bool false] 33)) (.slice AF fl.length cF) fl from
    ⟨(hb.alloc hb.size _).alloc (by simp; have := hb.size; omega) _, hb.size, ((Oth.refl w).alloc _).alloc _, (Blk.new _ _ _).alloc _, by have := Blk.new (w.alloc (.cells #[.slice AF fl.length cF, .slice none 0 0, .bool true] 33)) 33 #[.slice none 0 0, .slice none 0 0, .bool false]; simpa using this, (hown.alloc _).alloc _⟩)
  clear hO hb hown
  go_enter Try.func22, Try.ntmps22
  go_wp2
  go_loopg [10] s.size (fun gh s10 wr => ∃ (i : Nat) (done : List Fl) (vF' : Value), s10 = .int .i64 i ∧ i ≤ s.size ∧ gh = s.size - i ∧ done.length ≤ fl.length + i ∧ LS w0 w wr vF' done ∧ O = (lets may s ws (s.size - i)).map fun p => (done ++ p.1, p.2))
  case atStart => exact ⟨0, fl, _, rfl, Nat.zero_le _, rfl, by omega, HS.out, HO.out.symm⟩
  case round =>
    obtain ⟨i, done, vF', rfl, hi, rfl, hd, hS, hE⟩ := hrel
    have HS := Lib.hid hS
    have HE := Lib.hid hE
    obtain ⟨⟨b0, b1, b2⟩, ⟨r0, r1, r2⟩, ⟨q0, q1, q2⟩, f0, hzb, hzr, s0, s1, s2⟩ := hS.facts
    clear hS hE
    by_cases hlt : i < s.size
    · obtain ⟨c, hc⟩ : ∃ c, s[i] = c := ⟨_, rfl⟩
      have HP := Lib.hid (fun w => place_any may c w hm)
      obtain ⟨K, hK⟩ : ∃ K, knd may c = K := ⟨_, rfl⟩
      have HK := Lib.hid hK
      unfold knd at hK
      have hbd := index_bd c may.data.toList
      rw [size_len] at hbd
      generalize Lib.indexByte may.data.toList c = X at HP hK hbd
      have hcc : (c.toNat : Int) = co c := rfl
      by_cases hx : X < 0
      · have HX := Lib.hid (show O = none by rw [if_pos (.inr (.inr hx))] at hK; rw [HE.out, lets_bad hlt (by rw [hc, HK.out, hK])]; rfl)
        clear hK
        go_wp2_with fail
        refine (HP.out _).mono ?_
        rintro e w1 ⟨rfl, rfl⟩
        go_wp2
        rw [HX.out]
        exact bodyPost_ret (v := .tuple #[.agg #[.slice none 0 0, .slice none 0 0, .bool false], .slice none 0 0]) (by simp [results, Try.results22, go_sem, s0, s1, s2]) rfl (HS.out.bad _ _ _)
      by_cases h58 : c = 58
      · have HX := Lib.hid (show O = none by rw [if_pos (.inr (.inl h58))] at hK; rw [HE.out, lets_bad hlt (by rw [hc, HK.out, hK])]; rfl)
        have e1 : (co c == 58) = true := by rw [h58]; rfl
        have hxd : decide (X < 0) = false := by simpa using hx
        clear hK h58
        go_wp2_with fail
        refine (HP.out _).mono ?_
        rintro e w1 ⟨rfl, rfl⟩
        go_wp2
        rw [HX.out]
        exact bodyPost_ret (v := .tuple #[.agg #[.slice none 0 0, .slice none 0 0, .bool false], .slice none 0 0]) (by simp [results, Try.results22, go_sem, s0, s1, s2]) rfl (HS.out.bad _ _ _)
      by_cases h45 : c = 45
      · have HX := Lib.hid (show O = none by rw [if_pos (.inl h45)] at hK; rw [HE.out, lets_bad hlt (by rw [hc, HK.out, hK])]; rfl)
        have e1 : (co c == 58) = false := co_ne (a := c) (b := 58) h58
        have e2 : (co c == 45) = true := by rw [h45]; rfl
        have hxd : decide (X < 0) = false := by simpa using hx
        clear hK h58 h45
        go_wp2_with fail
        refine (HP.out _).mono ?_
        rintro e w1 ⟨rfl, rfl⟩
        go_wp2
        rw [HX.out]
        exact bodyPost_ret (v := .tuple #[.agg #[.slice none 0 0, .slice none 0 0, .bool false], .slice none 0 0]) (by simp [results, Try.results22, go_sem, s0, s1, s2]) rfl (HS.out.bad _ _ _)
      rw [if_neg (by rintro (h | h | h) <;> contradiction)] at hK
      obtain ⟨k, rfl⟩ : ∃ k : Nat, X = (k : Int) := ⟨X.toNat, by omega⟩
      rw [Int.toNat_natCast] at hK
      have e1 : (co c == 58) = false := co_ne (a := c) (b := 58) h58
      have e2 : (co c == 45) = false := co_ne (a := c) (b := 45) h45
      clear hx h58 h45
      by_cases hj : k + 1 < may.size
      · obtain ⟨b, hb⟩ : ∃ b, may[k + 1] = b := ⟨_, rfl⟩
        rw [Lib.data_getElem? may (k + 1) hj, hb] at hK
        by_cases hq : b = 58
        · rw [hq, if_pos rfl] at hK
          subst hK
          have hq1 : ((b.toNat : Int) != 58) = false := by rw [hq]; rfl
          clear hq
          by_cases hl : i + 1 < s.size
          · have HX := Lib.hid (show O = some (done ++ [(c, s.extract (i + 1) s.size)], ws) by rw [HE.out, lets_val hlt (by rw [hc]; exact HK.out) (by omega), hc]; rfl)
            have hw1 : IntKind.i64.wrap ((i : Int) + 1) = (i : Int) + 1 := by rw [IntKind.wrap_i64]; omega
            have hsl : ∀ wx : World, (Instr.slice 9 (.string s) (some (.int .i64 ((i : Int) + 1))) none none).run Try.prog wx = .ok (.string (s.extract (i + 1) s.size)) wx := fun wx => by
              have e := run_slice_string_l wx 9 s Try.underlying9 .i64 ((i : Int) + 1) (by omega) (by omega)
              rwa [show ((i : Int) + 1).toNat = i + 1 by omega] at e
            go_wp2_with fail
            refine (HP.out _).mono ?_
            rintro e w1 ⟨rfl, rfl⟩
            obtain ⟨i0, hi0, hz0, hz1, hz2⟩ := info_parts info_F
            have HOWN := Lib.hid (show ((wr.alloc (.cells #[.int .u8 (co c), .string (s.extract (i + 1) s.size)] 39)).drew).ownsRow w0.heap.size 39 2 vF' done.length (fCells done) from HS.out.own.alloc _)
            have HNEW := Lib.hid (show ∀ (j : Nat) (u : Value), [Value.int .u8 (co c), .string (s.extract (i + 1) s.size)][j]? = some u → ((wr.alloc (.cells #[.int .u8 (co c), .string (s.extract (i + 1) s.size)] 39)).drew).cell? ((⟨wr.heap.size, 0, none⟩ : Addr).add j) = some u from
              fun j u hj => World.news_of_block (heap_alloc_new wr (.cells #[.int .u8 (co c), .string (s.extract (i + 1) s.size)] 39)) j u (by simpa using hj))
            have HBS := Lib.hid (show w0.heap.size ≤ ((wr.alloc (.cells #[.int .u8 (co c), .string (s.extract (i + 1) s.size)] 39)).drew).heap.size by simp; have := HS.out.below.size; omega)
            go_wp2
            go_region_law (refine step_append_lies _ rfl (.tmp 65) (.tmp 74) 31 rfl w0.heap.size 39 i0 _ 2 24 Try.underlying31 hi0 hz0 hz1 hz2 rfl (by decide) vF' done.length (fCells done) (by simp [Act.eval]) HOWN.out ⟨wr.heap.size, 0, none⟩ 1 1 [.int .u8 (co c), .string (s.extract (i + 1) s.size)] (by simp [Act.eval]) rfl HNEW.out (flag_one (c, (s.extract (i + 1) s.size))) (by decide) (by unfold maxLen; omega) (by omega) HBS.out _ rfl ?_; intro g1 cap1 w1 ho1 hg1 hat1 hlt1; obtain ⟨kk0, ff0⟩ := HS.out.cell1 hg1; have HST := Lib.hid (HS.out.stored (f := (c, (s.extract (i + 1) s.size))) hg1 ho1); clear ho1 hg1 hat1 hlt1)
            all_goals (
              generalize w1.setCell ⟨w.heap.size, 0, none⟩ (.slice (some ⟨g1, 0, none⟩) (done.length + 1) cap1) = W2 at HST ⊢
              clear b0 b1 b2 r0 r1 r2 q0 q1 q2 s0 s1 s2 kk0 ff0
              obtain ⟨⟨b0, b1, b2⟩, ⟨r0, r1, r2⟩, ⟨q0, q1, q2⟩, f0', hzb', hzr', s0, s1, s2⟩ := HST.out.facts
              go_wp2
              rw [HX.out]
              exact bodyPost_ret (v := .tuple #[.agg #[.slice (some ⟨g1, 0, none⟩) (done.length + 1) cap1, .slice none 0 0, .bool true], .slice AL ws.length cL]) (by simp [results, Try.results22, go_sem, s0, s1, s2]) rfl (HST.out.good HW.out _ _ _))
          · cases ws with
            | nil =>
              have HX := Lib.hid (show O = none by rw [HE.out, lets_last hlt (by rw [hc]; exact HK.out) (by omega), hc]; rfl)
              go_wp2_with fail
              refine (HP.out _).mono ?_
              rintro e w1 ⟨rfl, rfl⟩
              go_wp2
              rw [HX.out]
              exact bodyPost_ret (v := .tuple #[.agg #[.slice none 0 0, .slice none 0 0, .bool false], .slice none 0 0]) (by simp [results, Try.results22, go_sem, s0, s1, s2]) rfl (HS.out.bad _ _ _)
            | cons x r =>
              have HX := Lib.hid (show O = some (done ++ [(c, x)], r) by rw [HE.out, lets_last hlt (by rw [hc]; exact HK.out) (by omega), hc]; rfl)
              obtain ⟨ad, cW, c', A', hv, h0, hT, hrun⟩ := tail_run HW.out
              injection hv with hA hN hC
              subst hA
              subst hC
              clear hN
              have k0 := bc HS.out.below h0
              have hadl : ad.block < wr.heap.size := World.block_lt_of_cell? _ _ k0
              have HTL := Lib.hid hT
              have hr0 : ((r.length : Int) + 1 == 0) = false := by rw [beq_eq_false_iff_ne]; omega
              have hr1 : r.length ≤ 1000000 := by simp only [List.length_cons] at hw; omega
              clear hT h0
              go_wp2_with fail
              refine (HP.out _).mono ?_
              rintro e w1 ⟨rfl, rfl⟩
              obtain ⟨i0, hi0, hz0, hz1, hz2⟩ := info_parts info_F
              have HOWN := Lib.hid (show ((wr.alloc (.cells #[.int .u8 (co c), .string x] 39)).drew).ownsRow w0.heap.size 39 2 vF' done.length (fCells done) from HS.out.own.alloc _)
              have HNEW := Lib.hid (show ∀ (j : Nat) (u : Value), [Value.int .u8 (co c), .string x][j]? = some u → ((wr.alloc (.cells #[.int .u8 (co c), .string x] 39)).drew).cell? ((⟨wr.heap.size, 0, none⟩ : Addr).add j) = some u from
                fun j u hj => World.news_of_block (heap_alloc_new wr (.cells #[.int .u8 (co c), .string x] 39)) j u (by simpa using hj))
              have HBS := Lib.hid (show w0.heap.size ≤ ((wr.alloc (.cells #[.int .u8 (co c), .string x] 39)).drew).heap.size by simp; have := HS.out.below.size; omega)
              go_wp2
              go_region_law (refine step_append_lies _ rfl (.tmp 84) (.tmp 92) 31 rfl w0.heap.size 39 i0 _ 2 24 Try.underlying31 hi0 hz0 hz1 hz2 rfl (by decide) vF' done.length (fCells done) (by simp [Act.eval]) HOWN.out ⟨wr.heap.size, 0, none⟩ 1 1 [.int .u8 (co c), .string x] (by simp [Act.eval]) rfl HNEW.out (flag_one (c, x)) (by decide) (by unfold maxLen; omega) (by omega) HBS.out _ rfl ?_; intro g1 cap1 w1 ho1 hg1 hat1 hlt1; obtain ⟨kk0, ff0⟩ := HS.out.cell1 hg1; have HST := Lib.hid (HS.out.stored (f := (c, x)) hg1 ho1); clear ho1 hg1 hat1 hlt1)
              all_goals (
                generalize w1.setCell ⟨w.heap.size, 0, none⟩ (.slice (some ⟨g1, 0, none⟩) (done.length + 1) cap1) = W2 at HST ⊢
                clear b0 b1 b2 r0 r1 r2 q0 q1 q2 s0 s1 s2 kk0 ff0
                obtain ⟨⟨b0, b1, b2⟩, ⟨r0, r1, r2⟩, ⟨q0, q1, q2⟩, f0', hzb', hzr', s0, s1, s2⟩ := HST.out.facts
                go_wp2
                go_region
                all_goals (
                  go_wp2
                  rw [HX.out]
                  exact bodyPost_ret (v := .tuple #[.agg #[.slice (some ⟨g1, 0, none⟩) (done.length + 1) cap1, .slice none 0 0, .bool true], .slice A' r.length c']) (by simp [results, Try.results22, go_sem, s0, s1, s2]) rfl (LP.drew (HST.out.good HTL.out _ _ _))))
        · rw [if_neg (by intro h; injection h with h; exact hq h)] at hK
          subst hK
          have hq1 : ((b.toNat : Int) != 58) = true := by rw [bne_iff_ne]; exact fun e => hq (co_inj (a := b) (b := 58) e)
          clear hq
          have HX := Lib.hid (show O = (lets may s ws (s.size - (i + 1))).map fun p => ((done ++ [(c, ⟨#[]⟩)]) ++ p.1, p.2) by
            rw [HE.out, lets_one hlt (by rw [hc]; exact HK.out), hc, Option.map_map]
            congr 1
            funext p
            simp)
          go_wp2_with fail
          refine (HP.out _).mono ?_
          rintro e w1 ⟨rfl, rfl⟩
          obtain ⟨i0, hi0, hz0, hz1, hz2⟩ := info_parts info_F
          have HOWN := Lib.hid (show ((wr.alloc (.cells #[.int .u8 (co c), .string ⟨#[]⟩] 39)).drew).ownsRow w0.heap.size 39 2 vF' done.length (fCells done) from HS.out.own.alloc _)
          have HNEW := Lib.hid (show ∀ (j : Nat) (u : Value), [Value.int .u8 (co c), .string ⟨#[]⟩][j]? = some u → ((wr.alloc (.cells #[.int .u8 (co c), .string ⟨#[]⟩] 39)).drew).cell? ((⟨wr.heap.size, 0, none⟩ : Addr).add j) = some u from
            fun j u hj => World.news_of_block (heap_alloc_new wr (.cells #[.int .u8 (co c), .string ⟨#[]⟩] 39)) j u (by simpa using hj))
          have HBS := Lib.hid (show w0.heap.size ≤ ((wr.alloc (.cells #[.int .u8 (co c), .string ⟨#[]⟩] 39)).drew).heap.size by simp; have := HS.out.below.size; omega)
          go_wp2
          go_region_law (refine step_append_lies _ rfl (.tmp 51) (.tmp 56) 31 rfl w0.heap.size 39 i0 _ 2 24 Try.underlying31 hi0 hz0 hz1 hz2 rfl (by decide) vF' done.length (fCells done) (by simp [Act.eval]) HOWN.out ⟨wr.heap.size, 0, none⟩ 1 1 [.int .u8 (co c), .string ⟨#[]⟩] (by simp [Act.eval]) rfl HNEW.out (flag_one (c, ⟨#[]⟩)) (by decide) (by unfold maxLen; omega) (by omega) HBS.out _ rfl ?_; intro g1 cap1 w1 ho1 hg1 hat1 hlt1; obtain ⟨kk0, ff0⟩ := HS.out.cell1 hg1; have HST := Lib.hid (HS.out.stored (f := (c, ⟨#[]⟩)) hg1 ho1); clear ho1 hg1 hat1 hlt1)
          all_goals (
            go_wp2
            go_roundg (s.size - (i + 1))
            case measure => omega
            case rel => exact ⟨i + 1, done ++ [(c, ⟨#[]⟩)], _, by go_num, by omega, rfl, by rw [List.length_append]; simp; omega, HST.out, HX.out⟩)
      · rw [List.getElem?_eq_none (by rw [size_len]; omega), if_neg (by simp)] at hK
        subst hK
        have HX := Lib.hid (show O = (lets may s ws (s.size - (i + 1))).map fun p => ((done ++ [(c, ⟨#[]⟩)]) ++ p.1, p.2) by
          rw [HE.out, lets_one hlt (by rw [hc]; exact HK.out), hc, Option.map_map]
          congr 1
          funext p
          simp)
        go_wp2_with fail
        refine (HP.out _).mono ?_
        rintro e w1 ⟨rfl, rfl⟩
        obtain ⟨i0, hi0, hz0, hz1, hz2⟩ := info_parts info_F
        have HOWN := Lib.hid (show ((wr.alloc (.cells #[.int .u8 (co c), .string ⟨#[]⟩] 39)).drew).ownsRow w0.heap.size 39 2 vF' done.length (fCells done) from HS.out.own.alloc _)
        have HNEW := Lib.hid (show ∀ (j : Nat) (u : Value), [Value.int .u8 (co c), .string ⟨#[]⟩][j]? = some u → ((wr.alloc (.cells #[.int .u8 (co c), .string ⟨#[]⟩] 39)).drew).cell? ((⟨wr.heap.size, 0, none⟩ : Addr).add j) = some u from
          fun j u hj => World.news_of_block (heap_alloc_new wr (.cells #[.int .u8 (co c), .string ⟨#[]⟩] 39)) j u (by simpa using hj))
        have HBS := Lib.hid (show w0.heap.size ≤ ((wr.alloc (.cells #[.int .u8 (co c), .string ⟨#[]⟩] 39)).drew).heap.size by simp; have := HS.out.below.size; omega)
        go_wp2
        go_region_law (refine step_append_lies _ rfl (.tmp 51) (.tmp 56) 31 rfl w0.heap.size 39 i0 _ 2 24 Try.underlying31 hi0 hz0 hz1 hz2 rfl (by decide) vF' done.length (fCells done) (by simp [Act.eval]) HOWN.out ⟨wr.heap.size, 0, none⟩ 1 1 [.int .u8 (co c), .string ⟨#[]⟩] (by simp [Act.eval]) rfl HNEW.out (flag_one (c, ⟨#[]⟩)) (by decide) (by unfold maxLen; omega) (by omega) HBS.out _ rfl ?_; intro g1 cap1 w1 ho1 hg1 hat1 hlt1; obtain ⟨kk0, ff0⟩ := HS.out.cell1 hg1; have HST := Lib.hid (HS.out.stored (f := (c, ⟨#[]⟩)) hg1 ho1); clear ho1 hg1 hat1 hlt1)
        all_goals (
          go_wp2
          go_roundg (s.size - (i + 1))
          case measure => omega
          case rel => exact ⟨i + 1, done ++ [(c, ⟨#[]⟩)], _, by go_num, by omega, rfl, by rw [List.length_append]; simp; omega, HST.out, HX.out⟩)
    · have HX := Lib.hid (show O = some (done, ws) by rw [HE.out, show s.size - i = 0 by omega, lets]; simp)
      obtain ⟨A1, c1, hv1⟩ := own_slice HS.out.own
      subst hv1
      go_wp2
      rw [HX.out]
      exact bodyPost_ret (v := .tuple #[.agg #[.slice A1 done.length c1, .slice none 0 0, .bool true], .slice AL ws.length cL]) (by simp [results, Try.results22, go_sem, s0, s1, s2]) rfl (HS.out.good HW.out _ _ _)
end Go.Proofs.Ytldomiagincegaa
