/-
  What the methods of what is parsed do: atOptions, next, addFlag, addRest. The conditions: how many options and words there are is bounded by a million.
-/
import Derived.Test.YtldomiagincegaaFind
namespace Go.Proofs.Ytldomiagincegaa
open Go Go.RowKit

/-- What is parsed: its options so far, by which letters may be, and the words to come. -/
structure PS (w0 w : World) (g : Nat) (vF : Value) (fl : List Fl) (may : ByteArray) (vW : Value) (ws : List ByteArray) : Prop where
  below : Below w0.heap.size w0 w
  base : w0.heap.size ≤ g
  blk : Blk w g 52 #[vF, .slice none 0 0, .string may, vW]
  own : w.ownsRow w0.heap.size 38 2 vF fl.length (fCells fl)
  words : StrsR w0 vW ws
theorem PS.later {w0 w w' : World} {g : Nat} {vF : Value} {fl : List Fl} {may : ByteArray} {vW : Value} {ws : List ByteArray} (h : PS w0 w g vF fl may vW ws) (hb : Below w.heap.size w w') : PS w0 w' g vF fl may vW ws :=
  ⟨bt hb h.below, h.base, h.blk.below hb, own_below h.own hb, h.words⟩
theorem size_str (w : World) : (sizeOf (Try.prog.elem 22)).run Try.prog w = .ok 1 w := by kernel_rfl
/-- A slice of texts without its first one. -/
theorem tail_run {w0 : World} {v : Value} {x : ByteArray} {r : List ByteArray} (h : StrsR w0 v (x :: r)) :
    ∃ (ad : Addr) (c c' : Nat) (A' : Option Addr), v = .slice (some ad) (r.length + 1) c ∧ w0.cell? ad = some (.string x) ∧ StrsR w0 (.slice A' r.length c') r ∧
      ∀ w : World, (Instr.slice 22 (.slice (some ad) (r.length + 1) c) (some (.int .i64 1)) none none).run Try.prog w = .ok (.slice A' r.length c') w := by
  obtain ⟨A, c, rfl, ⟨hle, _⟩, hc⟩ := h
  obtain ⟨ad, rfl, h0⟩ := hc 0 x rfl
  rw [add_none] at h0
  simp only [List.length_cons] at hle
  refine ⟨ad, c, c - 1, if c = 1 then some ad else some (ad.add 1), rfl, h0, ⟨_, _, rfl, ⟨by omega, fun e => by split at e <;> cases e⟩, fun k s hk => ?_⟩, fun w => ?_⟩
  · have hlt : k < r.length := (List.getElem?_eq_some_iff.1 hk).1
    rw [if_neg (by omega)]
    obtain ⟨ad', e, h1⟩ := hc (k + 1) s (by simpa using hk)
    injection e with e
    refine ⟨_, rfl, ?_⟩
    rw [add_two, Nat.add_comm 1 k, e]
    exact h1
  · rw [run_slice_l w _ _ _ _ (by kernel_rfl) .i64 1 (by decide) (by omega), size_str]
    simp only [Result.andThen, sliced]
    by_cases hc1 : c = 1 <;> simp [hc1]
theorem atOptions_nil {w0 w : World} {g : Nat} {vF : Value} {fl : List Fl} {may : ByteArray} {vW : Value} (h : PS w0 w g vF fl may vW []) :
    Calls Try.prog 18 #[.pointer (some ⟨g, 0, none⟩)] w fun e w' => e = .returned (.bool false) ∧ w = w' := by
  obtain ⟨A, c, rfl, _, _⟩ := h.words
  have k3 := h.blk.cell 3
  simp at k3
  clear h
  go_enter Try.func18, Try.ntmps18
  go_wp2
  go_ret
  exact ⟨rfl, rfl⟩
theorem head_at (x : ByteArray) (h : 0 < x.size) : x.data.toList.head? = some x[0] := by
  rw [List.head?_eq_getElem?, Lib.data_getElem? x 0 h]
theorem atOptions_cons {w0 w : World} {g : Nat} {vF : Value} {fl : List Fl} {may : ByteArray} {vW : Value} {x : ByteArray} {r : List ByteArray} (h : PS w0 w g vF fl may vW (x :: r)) (_hr : r.length ≤ 1000000) :
    Calls Try.prog 18 #[.pointer (some ⟨g, 0, none⟩)] w fun e w' => e = .returned (.bool (isOpt x)) ∧ w = w' := by
  obtain ⟨ad, c, c', A', rfl, h0, -, -⟩ := tail_run h.words
  have k0 := bc h.below h0
  have k3 := h.blk.cell 3
  simp at k3
  clear h h0
  by_cases hx : 1 < x.size
  · obtain ⟨b, hb⟩ : ∃ b, x[0] = b := ⟨_, rfl⟩
    have HE := Lib.hid (show isOpt x = ((b.toNat : Int) == 45) by
      rw [isOpt, head_at x (by omega), hb]
      by_cases e : b = 45
      · subst e; simp [hx]
      · rw [show ((b.toNat : Int) == 45) = false from co_ne (a := b) (b := 45) e]; simp [e])
    go_enter Try.func18, Try.ntmps18
    go_wp2
    go_ret
    exact ⟨ret_bool HE.out.symm, rfl⟩
  · have HE := Lib.hid (show isOpt x = false by rw [isOpt]; simp [hx])
    go_enter Try.func18, Try.ntmps18
    go_wp2
    go_ret
    exact ⟨ret_bool HE.out.symm, rfl⟩
theorem next_nil {w0 w : World} {g : Nat} {vF : Value} {fl : List Fl} {may : ByteArray} {vW : Value} (h : PS w0 w g vF fl may vW []) :
    Calls Try.prog 19 #[.pointer (some ⟨g, 0, none⟩)] w fun e w' => e = .returned (.tuple #[.string ⟨#[]⟩, .bool false]) ∧ w = w' := by
  obtain ⟨A, c, rfl, _, _⟩ := h.words
  have k3 := h.blk.cell 3
  simp at k3
  clear h
  go_enter Try.func19, Try.ntmps19
  go_wp2
  go_ret2
  exact ⟨rfl, rfl⟩
theorem next_cons {w0 w : World} {g : Nat} {vF : Value} {fl : List Fl} {may : ByteArray} {vW : Value} {x : ByteArray} {r : List ByteArray} (h : PS w0 w g vF fl may vW (x :: r)) (hr : r.length ≤ 1000000) :
    Calls Try.prog 19 #[.pointer (some ⟨g, 0, none⟩)] w fun e w' => e = .returned (.tuple #[.string x, .bool true]) ∧ ∃ vW', PS w0 w' g vF fl may vW' r := by
  obtain ⟨ad, c, c', A', rfl, h0, hS, hrun⟩ := tail_run h.words
  have k0 := bc h.below h0
  have k3 := h.blk.cell 3
  have f3 := h.blk.frozen 3
  simp at k3
  have H := Lib.hid h
  have HS := Lib.hid hS
  have q0 : ((r.length : Int) + 1 == 0) = false := by rw [beq_eq_false_iff_ne]; omega
  clear h h0 hS
  go_enter Try.func19, Try.ntmps19
  go_wp2
  go_ret2
  refine ⟨rfl, _, H.out.below.setCell H.out.base _, H.out.base, H.out.blk.set_ 3 _, H.out.own.kept (grown_setCell _ _ _) (.inr (own_blk_ne H.out.own H.out.blk (by decide))), HS.out⟩
theorem addFlag_any {w0 w : World} {g : Nat} {vF : Value} {fl : List Fl} {may : ByteArray} {vW : Value} {ws : List ByteArray} (h : PS w0 w g vF fl may vW ws) (hf : fl.length ≤ 1000000) (c : UInt8) (s : ByteArray) :
    Calls Try.prog 27 #[.pointer (some ⟨g, 0, none⟩), .int .u8 (co c), .string s] w fun e w' => e = .returned (.tuple #[]) ∧ ∃ vF', PS w0 w' g vF' (fl ++ [(c, s)]) may vW ws := by
  have k0 := h.blk.cell 0
  simp at k0
  have H := Lib.hid h
  have hB := h.below.size
  clear h
  go_enter Try.func27, Try.ntmps27
  go_wp2_with (at_builtin; refine wpList_append_one rfl (.tmp 10) (.tmp 14) _ rfl w0.heap.size 38 _ 2 24 Try.underlying25 info_flag rfl (by decide) vF fl.length (fCells fl) rfl w [.int .u8 (co c), .string s] rfl (flag_one (c, s)) H.out.own rfl (by omega) (by omega) hB ?_; intro v' w' ho hg; obtain ⟨gv, cv, hv', hv1, hv2⟩ := ho.form (Nat.succ_pos _); subst hv'; have hbk := H.out.blk.kept hg (own_blk_ne H.out.own H.out.blk (by decide)).symm; have kk0 := hbk.cell 0; have ff0 := hbk.frozen 0; simp at kk0; have HBK := Lib.hid hbk; have HO := Lib.hid ho; have HG := Lib.hid hg; clear ho hg hbk)
  go_end0
  refine ⟨rfl, _, (H.out.below.grown HG.out hB (fun q hq => (H.out.own.lt q hq).1)).setCell H.out.base _, H.out.base, HBK.out.set_ 0 _, ?_, H.out.words⟩
  rw [fCells_snoc, List.length_append]
  exact HO.out.kept (grown_setCell _ _ _) (.inr (own_blk_ne HO.out HBK.out (by decide)))
theorem addRest_any {w0 w : World} {g : Nat} {vF : Value} {fl : List Fl} {may : ByteArray} {vW : Value} {ws : List ByteArray} (h : PS w0 w g vF fl may vW ws) (hr : ws.length ≤ 1000000) :
    Calls Try.prog 21 #[.pointer (some ⟨g, 0, none⟩), vW] w fun e w' => e = .returned (.tuple #[]) ∧ Below w0.heap.size w0 w' ∧ ∃ vR, Blk w' g 52 #[vF, vR, .string may, vW] ∧ w'.ownsRow w0.heap.size 38 2 vF fl.length (fCells fl) ∧ w'.ownsRow w0.heap.size 9 1 vR ws.length (sCells ws) := by
  have k1 := h.blk.cell 1
  simp at k1
  have H := Lib.hid h
  have hB := h.below.size
  have hW := Lib.hid ((h.words.below h.below))
  have hn : w.ownsRow w0.heap.size 9 1 (.slice none 0 0) ([] : List ByteArray).length (sCells []) := World.ownsRow_nil _ _ _ _
  have HN := Lib.hid hn
  clear h hn
  go_enter Try.func21, Try.ntmps21
  go_wp2_with (at_builtin; refine wpList_append_strs rfl (.tmp 8) (.tmp 9) rfl w0.heap.size (.slice none 0 0) [] rfl HN.out vW ws rfl hW.out (by simp; omega) hB ?_; intro v' w' ho hg; obtain ⟨A', c', hv'⟩ := own_slice ho; subst hv'; have hbk := H.out.blk.kept hg (by simp [Value.ownBlock]); have kk1 := hbk.cell 1; have ff1 := hbk.frozen 1; simp at kk1; have HBK := Lib.hid hbk; have HO := Lib.hid ho; have HG := Lib.hid hg; clear ho hg hbk)
  go_end0
  have G := grown_setCell w' ⟨g, 1, none⟩ (.slice A' ([] ++ ws : List ByteArray).length c')
  refine ⟨rfl, (H.out.below.grown HG.out hB (fun q hq => by simp [Value.ownBlock] at hq)).setCell H.out.base _, _, HBK.out.set_ 1 _, ?_, ?_⟩
  · exact (H.out.own.kept HG.out (by cases hv : vF.ownBlock <;> simp [Value.ownBlock])).kept G (.inr (own_blk_ne H.out.own H.out.blk (by decide)))
  · have := HO.out.kept G (.inr (own_blk_ne HO.out HBK.out (by decide)))
    simpa using this
end Go.Proofs.Ytldomiagincegaa
