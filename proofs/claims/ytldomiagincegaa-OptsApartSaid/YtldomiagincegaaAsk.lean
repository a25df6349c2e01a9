/-
  What lastOf, Has, Last and Value answer of any options. The conditions: there are a million options, and letters, at most.
-/
import Derived.Test.YtldomiagincegaaMem
import Derived.Lib.ConvBytes
namespace Go.Proofs.Ytldomiagincegaa
open Go Go.RowKit

theorem has_at {l : List UInt8} {k : Nat} {x : UInt8} (h : l[k]? = some x) : l.contains x = true := by simpa using List.mem_of_getElem? h
theorem has_next {l : List UInt8} {k : Nat} {x y : UInt8} (h : l[k]? = some y) (hn : (l.take k).contains x = false) (hy : ¬ x = y) : (l.take (k + 1)).contains x = false := by
  rw [take_snoc' h, List.contains_append, hn]
  simpa using hy
theorem idxU (v : Value) (l : List UInt8) (x : UInt8) (w : World) (h : BytesR w v l) (hn : l.length ≤ 1000000) :
    Calls Try.prog 30 #[v, .int .u8 (co x)] w fun e w' => ∃ i : Int, e = .returned (.int .i64 i) ∧ -1 ≤ i ∧ i ≤ 1000000 ∧ decide (0 ≤ i) = l.contains x ∧ w = w' := by
  obtain ⟨A, c, rfl, hc⟩ := h
  have HC := Lib.hid hc
  clear hc
  go_enter Try.func30, Try.ntmps30
  go_wp2
  go_loopg [8] l.length (fun g s8 wr => ∃ k : Nat, s8 = .int .i64 k ∧ k ≤ l.length ∧ g = l.length - k ∧ (l.take k).contains x = false ∧ w = wr)
  case atStart => exact ⟨0, rfl, Nat.zero_le _, rfl, rfl, rfl⟩
  case round =>
    obtain ⟨k, rfl, hk, rfl, hno, rfl⟩ := hrel
    have HNO := Lib.hid hno
    clear hno
    by_cases hlt : k < l.length
    · obtain ⟨y, hy⟩ : ∃ y, l[k]? = some y := ⟨_, List.getElem?_eq_getElem hlt⟩
      obtain ⟨ad, rfl, c0⟩ := HC.out k y hy
      have HY := Lib.hid hy
      clear hy
      by_cases hxy : x = y
      · subst hxy
        go_wp2
        go_ret
        exact ⟨_, rfl, by omega, by omega, by rw [has_at HY.out]; simp, rfl⟩
      · have hne : (co x == co y) = false := co_ne hxy
        have HN := Lib.hid hxy
        clear hxy
        go_wp2
        go_roundg (l.length - (k + 1))
        case measure => omega
        case rel => exact ⟨k + 1, by go_num, by omega, rfl, has_next HY.out HNO.out HN.out, rfl⟩
    · have hke : k = l.length := by omega
      subst hke
      have HF := Lib.hid (show l.contains x = false by have := HNO.out; rwa [List.take_length] at this)
      go_wp2
      go_ret
      exact ⟨_, rfl, by omega, by omega, by rw [HF.out]; rfl, rfl⟩
theorem conU (v : Value) (l : List UInt8) (x : UInt8) (w : World) (h : BytesR w v l) (hn : l.length ≤ 1000000) :
    Calls Try.prog 28 #[v, .int .u8 (co x)] w fun e w' => e = .returned (.bool (l.contains x)) ∧ w = w' := by
  have H := Lib.hid (idxU v l x w h hn)
  obtain ⟨R, hR⟩ : ∃ R, l.contains x = R := ⟨_, rfl⟩
  rw [hR] at H ⊢
  clear hR
  obtain ⟨A, c, rfl, -⟩ := h
  go_enter Try.func28, Try.ntmps28
  go_wp2_with fail
  refine H.out.mono ?_
  rintro e w' ⟨i, rfl, h0, h1, hi, rfl⟩
  by_cases hp : 0 ≤ i
  · have HI := Lib.hid hi
    clear hi
    go_wp2
    go_ret
    exact ⟨ret_bool (by first | exact HI.out | (rw [← HI.out]; simp [hp])), rfl⟩
  · have HI := Lib.hid hi
    clear hi
    go_wp2
    go_ret
    exact ⟨ret_bool (by first | exact HI.out | (rw [← HI.out]; simp [hp])), rfl⟩

/-- The last option that has one of some letters. -/
def lastF (fl : List Fl) (ls : List UInt8) : Option Fl := fl.reverse.find? fun f => ls.contains f.1
def lv (o : Option Fl) : Fl := o.getD (0, ⟨#[]⟩)
def noneF (fl : List Fl) (ls : List UInt8) : Bool := fl.all fun f => !ls.contains f.1
theorem lastF_at {fl : List Fl} {ls : List UInt8} {j : Nat} {f : Fl} (h : fl[j]? = some f) (hc : ls.contains f.1 = true) (hn : noneF (fl.drop (j + 1)) ls = true) : lastF fl ls = some f := by
  have hlt := (List.getElem?_eq_some_iff.1 h).1
  have hd : fl.drop j = f :: fl.drop (j + 1) := by
    rw [List.drop_eq_getElem_cons hlt]
    rw [List.getElem?_eq_getElem hlt] at h
    injection h with h
    rw [h]
  have hs : fl = fl.take j ++ f :: fl.drop (j + 1) := by rw [← hd, List.take_append_drop]
  rw [lastF, hs, List.reverse_append, List.reverse_cons, List.append_assoc, List.find?_append]
  have h0 : (fl.drop (j + 1)).reverse.find? (fun f => ls.contains f.1) = none := by
    rw [List.find?_eq_none]
    intro x hx
    rw [noneF, List.all_eq_true] at hn
    have := hn x (by simpa using hx)
    simpa using this
  rw [h0]
  simp
  exact .inl (by simpa using hc)
theorem lastF_none {fl : List Fl} {ls : List UInt8} (hn : noneF fl ls = true) : lastF fl ls = none := by
  rw [lastF, List.find?_eq_none]
  intro x hx
  rw [noneF, List.all_eq_true] at hn
  have := hn x (by simpa using hx)
  simpa using this
theorem noneF_step {fl : List Fl} {ls : List UInt8} {j : Nat} {f : Fl} (h : fl[j]? = some f) (hc : ls.contains f.1 = false) (hn : noneF (fl.drop (j + 1)) ls = true) : noneF (fl.drop j) ls = true := by
  have hlt := (List.getElem?_eq_some_iff.1 h).1
  rw [List.drop_eq_getElem_cons hlt]
  rw [List.getElem?_eq_getElem hlt] at h
  injection h with h
  rw [h, noneF, List.all_cons, hc]
  exact hn
theorem ret_fl {o : Option Fl} {f : Fl} {b : Bool} (h : lv o = f ∧ o.isSome = b) : Ending.returned (.tuple #[.agg #[.int .u8 (co f.1), .string f.2], .bool b]) = .returned (.tuple #[.agg #[.int .u8 (co (lv o).1), .string (lv o).2], .bool o.isSome]) := by rw [h.1, h.2]
theorem cell_set_off (W : World) (b i j : Nat) (v : Value) (h : i ≠ j) : (W.setCell ⟨b, i, none⟩ v).cell? ⟨b, j, none⟩ = W.cell? ⟨b, j, none⟩ :=
  World.cell?_setCell_other _ _ _ _ (fun e => h (by injection e))
attribute [local go_sem] cell_set_off
set_option maxHeartbeats 1000000 in
theorem lastOf_any (vF vR vl : Value) (fl : List Fl) (ls : List UInt8) (w : World) (hF : FlagsR w vF fl) (hR : ∃ A n c, vR = .slice A n c) (hl : BytesR w vl ls) (hn : fl.length ≤ 1000000) (hm : ls.length ≤ 1000000) :
    Calls Try.prog 23 #[.agg #[vF, vR], vl] w fun e w' => e = .returned (.tuple #[.agg #[.int .u8 (co (lv (lastF fl ls)).1), .string (lv (lastF fl ls)).2], .bool (lastF fl ls).isSome]) ∧ Below w.heap.size w w' := by
  obtain ⟨O, hO⟩ : ∃ O, lastF fl ls = O := ⟨_, rfl⟩
  rw [hO]
  have HO := Lib.hid hO
  clear hO
  obtain ⟨AR, nR, cR, rfl⟩ := hR
  have HFR := Lib.hid hF
  have HLR := Lib.hid hl
  obtain ⟨A, c, rfl, -⟩ := hF
  obtain ⟨A', c', rfl, -⟩ := hl
  obtain ⟨W, hW⟩ : ∃ W, W = (w.alloc (.cells #[.slice A fl.length c, .slice AR nR cR] 27)).alloc (.cells #[.int .u8 0, .string ⟨#[]⟩] 38) := ⟨_, rfl⟩
  have hb : Below w.heap.size w W := by rw [hW]; exact ((Below.refl _ _).alloc (Nat.le_refl _) _).alloc (by simp) _
  have hB0 : Blk W w.heap.size 27 #[.slice A fl.length c, .slice AR nR cR] := by rw [hW]; exact (Blk.new _ _ _).alloc _
  have hB1 : Blk W (w.heap.size + 1) 38 #[.int .u8 0, .string ⟨#[]⟩] := by
    rw [hW]
    have := Blk.new (w.alloc (.cells #[.slice A fl.length c, .slice AR nR cR] 27)) 38 #[.int .u8 0, .string ⟨#[]⟩]
    simpa using this
  have HF := Lib.hid (HFR.out.below hb)
  have HC := Lib.hid (fun x => conU _ ls x W (HLR.out.below hb) hm)
  have HB := Lib.hid hb
  have HW := Lib.hid hW
  have HB0 := Lib.hid hB0
  have HB1 := Lib.hid hB1
  clear hW hb hB0 hB1
  go_enter Try.func23, Try.ntmps23
  go_wp2
  go_loopg [6] fl.length (fun gh s6 wr => ((gh = 0 ∧ s6 = .int .i64 (-1)) ∨ ∃ j : Nat, gh = j + 1 ∧ j < fl.length ∧ s6 = .int .i64 j) ∧ noneF (fl.drop gh) ls = true ∧ W = wr)
  case atStart =>
    refine ⟨?_, by rw [List.drop_length]; rfl, HW.out⟩
    rcases Nat.eq_zero_or_pos fl.length with h | h
    · exact .inl ⟨h, by rw [h]; rfl⟩
    · exact .inr ⟨fl.length - 1, by omega, by omega, by go_num⟩
  case round =>
    obtain ⟨hj, hno, rfl⟩ := hrel
    have HNO := Lib.hid hno
    clear hno
    have k0 := HB0.out.cell 0
    simp at k0
    have r0 := HB1.out.cell 0
    have r1 := HB1.out.cell 1
    have q0 := HB1.out.frozen 0
    have q1 := HB1.out.frozen 1
    simp at r0 r1
    have s0 : ∀ v, (W.setCell ⟨w.heap.size + 1, 0, none⟩ v).cell? ⟨w.heap.size + 1, 0, none⟩ = some v := fun v => by simpa using (HB1.out.set_ 0 v).cell 0
    have s1 : ∀ u v, ((W.setCell ⟨w.heap.size + 1, 0, none⟩ u).setCell ⟨w.heap.size + 1, 1, none⟩ v).cell? ⟨w.heap.size + 1, 1, none⟩ = some v := fun u v => by simpa using ((HB1.out.set_ 0 u).set_ 1 v).cell 1
    rcases hj with ⟨rfl, rfl⟩ | ⟨j, rfl, hlt, rfl⟩
    · have HX := Lib.hid (show O = none by rw [← HO.out]; exact lastF_none (by have := HNO.out; rwa [List.drop_zero] at this))
      go_wp2
      rw [HX.out]
      exact bodyPost_ret (v := .tuple #[.agg #[.int .u8 0, .string ⟨#[]⟩], .bool false]) (by simp [results, Try.results23, go_sem, s0, s1]) rfl ⟨rfl, (HB.out.setCell (by simp) _).setCell (by simp) _⟩
    · obtain ⟨f, hf⟩ : ∃ f, fl[j]? = some f := ⟨_, List.getElem?_eq_getElem hlt⟩
      obtain ⟨A1, c1, hv, hcs⟩ := HF.out
      injection hv with hA _ hC
      subst hA
      subst hC
      obtain ⟨ad, rfl, c0, c1⟩ := hcs j f hf
      clear hcs
      have HFJ := Lib.hid hf
      clear hf
      cases hcon : ls.contains f.1 with
      | true =>
        have HX := Lib.hid (show O = some f by rw [← HO.out]; exact lastF_at HFJ.out hcon HNO.out)
        have HCC := Lib.hid (HC.out f.1)
        rw [hcon] at HCC
        clear hcon
        go_wp2_with fail
        refine HCC.out.mono ?_
        rintro e w' ⟨rfl, rfl⟩
        go_wp2
        rw [HX.out]
        exact bodyPost_ret (v := .tuple #[.agg #[.int .u8 (co f.1), .string f.2], .bool true]) (by simp [results, Try.results23, go_sem, s0, s1]) rfl ⟨rfl, (HB.out.setCell (by simp) _).setCell (by simp) _⟩
      | false =>
        have HX := Lib.hid (noneF_step HFJ.out hcon HNO.out)
        have HCC := Lib.hid (HC.out f.1)
        rw [hcon] at HCC
        clear hcon
        go_wp2_with fail
        refine HCC.out.mono ?_
        rintro e w' ⟨rfl, rfl⟩
        go_wp2
        go_roundg j
        case measure => omega
        case rel =>
          refine ⟨?_, HX.out, rfl⟩
          rcases Nat.eq_zero_or_pos j with h | h
          · exact .inl ⟨h, by rw [h]; rfl⟩
          · exact .inr ⟨j - 1, by omega, by omega, by go_num⟩
theorem bytes1 (W : World) (x : UInt8) (g : Nat) (hg : g = W.heap.size) : BytesR (W.alloc (.cells #[.int .u8 (co x)] 5)) (.slice (some ⟨g, 0, none⟩) 1 1) [x] := by
  subst hg
  refine ⟨_, _, rfl, fun k b hk => ⟨_, rfl, ?_⟩⟩
  match k, hk with
  | 0, hk => simp at hk; subst hk; simp [Addr.add]
theorem bytes_conv (w : World) (s : ByteArray) (c : Nat) : BytesR (Lib.bytesWorld w 5 s) (.slice (some ⟨w.heap.size, 0, none⟩) s.size c) s.data.toList := by
  refine ⟨_, c, by rw [size_len], fun k b hk => ⟨_, rfl, ?_⟩⟩
  have hlt : k < s.size := by rw [← size_len]; exact (List.getElem?_eq_some_iff.1 hk).1
  rw [add_lit, Lib.bytesWorld_cell w _ s k hlt, List.getD_eq_getElem?_getD, hk]
  rfl
theorem below_conv (w : World) (s : ByteArray) : Below w.heap.size w (Lib.bytesWorld w 5 s) :=
  ⟨rfl, rfl, rfl, by rw [Lib.bytesWorld_size]; omega, fun k hk => Lib.bytesWorld_at_old w _ s k hk⟩
/-- Options and operands as a value. -/
def OptsR (w : World) (v : Value) (fl : List Fl) (l : List ByteArray) : Prop := ∃ vF vR, v = .agg #[vF, vR] ∧ FlagsR w vF fl ∧ StrsR w vR l
theorem OptsR.below {w w' : World} {v : Value} {fl : List Fl} {l : List ByteArray} (h : OptsR w v fl l) (hb : Below w.heap.size w w') : OptsR w' v fl l := by
  obtain ⟨vF, vR, hv, hF, hS⟩ := h
  exact ⟨vF, vR, hv, hF.below hb, hS.below hb⟩
theorem StrsR.slice {w : World} {v : Value} {l : List ByteArray} (h : StrsR w v l) : ∃ A n c, v = .slice A n c := by
  obtain ⟨A, c, hv, _⟩ := h
  exact ⟨A, _, c, hv⟩
theorem has_any (v : Value) (fl : List Fl) (l : List ByteArray) (x : UInt8) (w : World) (h : OptsR w v fl l) (hn : fl.length ≤ 1000000) :
    Calls Try.prog 15 #[v, .int .u8 (co x)] w fun e w' => e = .returned (.bool (lastF fl [x]).isSome) ∧ Below w.heap.size w w' := by
  obtain ⟨vF, vR, rfl, hF, hS⟩ := h
  have hb := (Below.refl w.heap.size w).alloc (Nat.le_refl _) (.cells #[vF, vR] 27)
  have hb2 := hb.alloc hb.size (.cells #[.int .u8 (co x)] 5)
  have HL := Lib.hid (lastOf_any vF vR _ fl [x] _ (hF.below hb2) hS.slice (bytes1 (w.alloc (.cells #[vF, vR] 27)) x (w.heap.size + 1) (by simp)) hn (by simp))
  have HB := Lib.hid hb2
  obtain ⟨A, c, rfl, -⟩ := hF
  obtain ⟨A', c', rfl, -⟩ := hS
  clear hb hb2
  generalize lastF fl [x] = O at HL ⊢
  generalize co x = n at HL HB ⊢
  go_enter Try.func15, Try.ntmps15
  go_wp2_with fail
  refine HL.out.mono ?_
  rintro e w1 ⟨rfl, hb⟩
  have HB2 := Lib.hid (bt hb HB.out)
  clear hb
  go_wp2
  go_ret
  exact ⟨rfl, HB2.out.alloc HB2.out.size _⟩
theorem value_any (v : Value) (fl : List Fl) (l : List ByteArray) (x : UInt8) (w : World) (h : OptsR w v fl l) (hn : fl.length ≤ 1000000) :
    Calls Try.prog 13 #[v, .int .u8 (co x)] w fun e w' => e = .returned (.tuple #[.string (lv (lastF fl [x])).2, .bool (lastF fl [x]).isSome]) ∧ Below w.heap.size w w' := by
  obtain ⟨vF, vR, rfl, hF, hS⟩ := h
  have hb := (Below.refl w.heap.size w).alloc (Nat.le_refl _) (.cells #[vF, vR] 27)
  have hb2 := hb.alloc hb.size (.cells #[.int .u8 (co x)] 5)
  have HL := Lib.hid (lastOf_any vF vR _ fl [x] _ (hF.below hb2) hS.slice (bytes1 (w.alloc (.cells #[vF, vR] 27)) x (w.heap.size + 1) (by simp)) hn (by simp))
  have HB := Lib.hid hb2
  obtain ⟨A, c, rfl, -⟩ := hF
  obtain ⟨A', c', rfl, -⟩ := hS
  clear hb hb2
  generalize lastF fl [x] = O at HL ⊢
  generalize co x = n at HL HB ⊢
  go_enter Try.func13, Try.ntmps13
  go_wp2_with fail
  refine HL.out.mono ?_
  rintro e w1 ⟨rfl, hb⟩
  have HB2 := Lib.hid (bt hb HB.out)
  clear hb
  go_wp2
  go_ret2
  exact ⟨rfl, HB2.out.alloc HB2.out.size _⟩
set_option maxHeartbeats 1000000 in
theorem last_any (v : Value) (fl : List Fl) (l : List ByteArray) (s : ByteArray) (w : World) (h : OptsR w v fl l) (hn : fl.length ≤ 1000000) (hs : s.size ≤ 1000000) :
    Calls Try.prog 16 #[v, .string s] w fun e w' => e = .returned (.int .u8 (co (lv (lastF fl s.data.toList)).1)) ∧ Below w.heap.size w w' := by
  obtain ⟨vF, vR, rfl, hF, hS⟩ := h
  obtain ⟨W, hW⟩ : ∃ W, w.alloc (.cells #[vF, vR] 27) = W := ⟨_, rfl⟩
  have hb : Below w.heap.size w W := by rw [← hW]; exact (Below.refl _ _).alloc (Nat.le_refl _) _
  have hz : W.heap.size = w.heap.size + 1 := by rw [← hW]; simp
  have hb2 := bt (below_conv W s) hb
  have hcv := Lib.run_convert_string_bytes (P := Try.prog) W 9 48 5 s (u := .string) Try.underlying9 Try.underlying48 Try.underlying5
  have HL := Lib.hid (fun c => lastOf_any vF vR _ fl s.data.toList _ (hF.below hb2) hS.slice (bytes_conv W s c) hn (by rw [size_len]; exact hs))
  rw [hz] at hcv HL
  have k0 : W.cell? ⟨w.heap.size, 0, none⟩ = some vF := by rw [← hW]; simp
  have k1 : W.cell? ⟨w.heap.size, 1, none⟩ = some vR := by rw [← hW]; simp
  have HB := Lib.hid hb2
  obtain ⟨A, c, rfl, -⟩ := hF
  obtain ⟨A', c', rfl, -⟩ := hS
  have HZ := Lib.hid hz
  clear hb hb2 hz
  generalize lastF fl s.data.toList = O at HL ⊢
  obtain ⟨W2, hW2⟩ : ∃ W2, Lib.bytesWorld W 5 s = W2 := ⟨_, rfl⟩
  rw [hW2] at hcv HL HB
  obtain ⟨C, hC⟩ : ∃ C, grownCap W s.size 0 5 = C := ⟨_, rfl⟩
  rw [hC] at hcv
  clear hW2 hC
  go_enter Try.func16, Try.ntmps16
  go_wp2_with fail
  refine (HL.out _).mono ?_
  rintro e w1 ⟨rfl, hb⟩
  have HB2 := Lib.hid (bt hb HB.out)
  clear hb
  go_wp2
  go_ret
  exact ⟨rfl, HB2.out.alloc HB2.out.size _⟩
end Go.Proofs.Ytldomiagincegaa
