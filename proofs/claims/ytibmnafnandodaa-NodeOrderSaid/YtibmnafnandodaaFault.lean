/-
  Why a name may not be, and why a node can't have an entry more: ContainsAny of a long text, nameFault, withFault; Find and Size. The conditions: a name has a thousand bytes at most, and there are no more entries than a thousand.
-/
import Derived.Test.YtibmnafnandodaaDelete
import Derived.Test.YtibmnafnandodaaShelf
namespace Go.Proofs.Ytibmnafnandodaa
open Go Go.RowKit

theorem any_two : ∀ l : List UInt8, decide (0 ≤ Lib.indexAny l [0, 47]) = (l.contains 47 || l.contains 0)
  | [] => rfl
  | b :: l => by
    have ih := any_two l
    have c47 : (b :: l).contains 47 = ((47 : UInt8) == b || l.contains 47) := List.contains_cons ..
    have c0 : (b :: l).contains 0 = ((0 : UInt8) == b || l.contains 0) := List.contains_cons ..
    rw [Lib.indexAny, c47, c0]
    by_cases h0 : b = 0
    · subst h0
      simp
    · by_cases h1 : b = 47
      · subst h1
        simp
      · have e0 : ((0 : UInt8) == b) = false := by rw [beq_eq_false_iff_ne]; exact fun e => h0 e.symm
        have e1 : ((47 : UInt8) == b) = false := by rw [beq_eq_false_iff_ne]; exact fun e => h1 e.symm
        have e2 : ([0, 47] : List UInt8).contains b = false := by simp [h0, h1]
        rw [e0, e1, e2, Bool.false_or, Bool.false_or, ← ih, if_neg (by decide)]
        have hge := Lib.indexAny_ge [0, 47] l
        split
        · rename_i h2
          have h3 : Lib.indexAny l [0, 47] = -1 := by simpa using h2
          rw [h3]
        · rename_i h2
          have h3 : ¬ Lib.indexAny l [0, 47] = -1 := by simpa using h2
          congr 1
          apply propext
          constructor <;> intro h4 <;> omega
theorem zero_set (w : World) : (zeroValue 100).run Try.prog w = .ok (.agg (Array.replicate 256 (.bool false))) w := by kernel_rfl
theorem contains_any (s : Nm) (w : World) (h8 : 12 < s.length) (hs : s.length ≤ 1000) :
    Calls Try.prog 49 #[.string (bA s), .string ⟨#[0, 47]⟩] w fun e w' => e = .returned (.bool (s.contains 47 || s.contains 0)) ∧ Below w.heap.size w w' := by
  have H := Lib.hid (Try.strings_IndexAny_long zero_set (bA s) ⟨#[0, 47]⟩ w (by decide) (by rw [size_bA]; omega) (by rw [size_bA]; omega) (by decide) (by
    intro j b hj
    match j, hj with
    | 0, hj => simp at hj; subst hj; decide
    | 1, hj => simp at hj; subst hj; decide))
  have HX := Lib.hid (any_two s)
  rw [show (bA s).data.toList = s from rfl, show (⟨#[0, 47]⟩ : ByteArray).data.toList = [0, 47] from rfl] at H
  generalize Lib.indexAny s [0, 47] = X at H HX
  obtain ⟨CS, hCS⟩ : ∃ CS, CS = Lib.setCells [0, 47] := ⟨_, rfl⟩
  rw [← hCS] at H
  clear hCS
  go_enter Try.func49, Try.ntmps49
  go_wp2_with fail
  refine H.out.mono ?_
  rintro e w2 ⟨rfl, rfl⟩
  have HB := Lib.hid (al (ba w (.cells CS 100)) (.cells CS 100))
  clear H
  generalize (w.alloc (.cells CS 100)).alloc (.cells CS 100) = w2 at HB ⊢
  go_wp2
  go_ret
  exact ⟨ret_bool (by rw [← HX.out]), HB.out⟩
/-- Why a name may not be. -/
def nmF (n : Nm) : Int := if badN n = true then 22 else if 12 < n.length then 36 else 0
theorem nok_nmF (n : Nm) (h : nok n = true) : nmF n = 0 := by
  unfold nok at h
  rw [Bool.and_eq_true] at h
  have h1 : badN n = false := by simpa using h.1
  have h2 : n.length ≤ 12 := by simpa using h.2
  rw [nmF, h1, if_neg (by decide), if_neg (by omega)]
theorem bad_long (n : Nm) (h : 12 < n.length) : badN n = (n.contains 47 || n.contains 0) := by
  unfold badN
  have e0 : (n == ([] : Nm)) = false := by rw [beq_eq_false_iff_ne]; intro e; rw [e] at h; simp at h
  have e1 : (n == ([46] : Nm)) = false := by rw [beq_eq_false_iff_ne]; intro e; rw [e] at h; simp at h
  have e2 : (n == ([46, 46] : Nm)) = false := by rw [beq_eq_false_iff_ne]; intro e; rw [e] at h; simp at h
  rw [e0, e1, e2]
  rfl
theorem nok_short (n : Nm) (hk : nok n = false) (h : ¬ 12 < n.length) : nmF n = 22 := by
  unfold nok at hk
  rw [decide_eq_true (show n.length ≤ 12 by omega), Bool.and_true] at hk
  have : badN n = true := by simpa using hk
  rw [nmF, if_pos this]
theorem nameFault_any (s : Nm) (w : World) (hs : s.length ≤ 1000) :
    Calls Try.prog 37 #[.string (bA s)] w fun e w' => e = .returned (.int .i64 (nmF s)) ∧ Below w.heap.size w w' := by
  have hsz := size_bA s
  have HN := Lib.hid (Name_any (bA s) w (by rw [hsz]; unfold maxLen; omega))
  rw [nam_nok, tl_bA] at HN
  cases hk : nok s with
  | true =>
    rw [hk] at HN
    have HF := Lib.hid (nok_nmF s hk)
    clear hk hsz
    go_enter Try.func37, Try.ntmps37
    go_wp2_with fail
    refine HN.out.mono ?_
    rintro e w' ⟨rfl, rfl⟩
    go_wp2
    go_ret
    exact ⟨ret_int HF.out.symm, Below.refl _ _⟩
  | false =>
    rw [hk] at HN
    by_cases hl : 12 < s.length
    · have HC := Lib.hid (contains_any s w hl hs)
      have hb := bad_long s hl
      have HF := Lib.hid (show nmF s = if badN s = true then 22 else 36 by rw [nmF, if_pos hl])
      rw [hb] at HF
      have hl' : (12 : Int) < ((bA s).size : Int) := by rw [hsz]; omega
      clear hk hb hl hsz
      generalize (s.contains 47 || s.contains 0) = R at HC HF
      cases R with
      | true =>
        go_enter Try.func37, Try.ntmps37
        go_wp2_with fail
        refine HN.out.mono ?_
        rintro e w' ⟨rfl, rfl⟩
        go_wp2_with fail
        refine HC.out.mono ?_
        rintro e w2 ⟨rfl, hb2⟩
        have HB2 := Lib.hid hb2
        clear hb2
        go_wp2
        go_ret
        exact ⟨ret_int HF.out.symm, HB2.out⟩
      | false =>
        go_enter Try.func37, Try.ntmps37
        go_wp2_with fail
        refine HN.out.mono ?_
        rintro e w' ⟨rfl, rfl⟩
        go_wp2_with fail
        refine HC.out.mono ?_
        rintro e w2 ⟨rfl, hb2⟩
        have HB2 := Lib.hid hb2
        clear hb2
        go_wp2
        go_ret
        exact ⟨ret_int HF.out.symm, HB2.out⟩
    · have HF := Lib.hid (nok_short s hk hl)
      have hl' : ¬ (12 : Int) < ((bA s).size : Int) := by rw [hsz]; omega
      clear hk hl hsz
      go_enter Try.func37, Try.ntmps37
      go_wp2_with fail
      refine HN.out.mono ?_
      rintro e w' ⟨rfl, rfl⟩
      go_wp2
      go_ret
      exact ⟨ret_int HF.out.symm, Below.refl _ _⟩
/-- Found, or not. -/
theorem plc_mem (name : Nm) : ∀ l : List En, (l.findIdx (isN name) < l.length ↔ name ∈ nmE l) := by
  intro l
  rw [List.findIdx_lt_length]
  constructor
  · rintro ⟨e, he, hp⟩
    have : e.1 = name := by simpa [isN] using hp
    rw [← this]
    exact mem_nmE he
  · intro h
    obtain ⟨e, he, h2⟩ := List.mem_map.1 h
    exact ⟨e, he, by simpa [isN] using h2⟩
theorem plc_fnd : ∀ (l : List En) (name : Nm) (e : En), l[l.findIdx (isN name)]? = some e → fnd l name = e.2
  | [], _, e, h => by simp at h
  | f :: l, name, e, h => by
    rw [List.findIdx_cons] at h
    by_cases hf : f.1 = name
    · have : isN name f = true := by simpa [isN] using hf
      rw [this] at h
      simp at h
      rw [fnd, if_pos hf, h]
    · have : isN name f = false := by simpa [isN] using hf
      rw [this] at h
      simp only [cond_false, List.getElem?_cons_succ] at h
      rw [fnd, if_neg hf]
      exact plc_fnd l name e h
theorem plc_del : ∀ (l : List En) (name : Nm), name ∈ nmE l → del l name = l.take (l.findIdx (isN name)) ++ l.drop (l.findIdx (isN name) + 1)
  | [], _, h => by cases h
  | f :: l, name, h => by
    rw [List.findIdx_cons]
    by_cases hf : f.1 = name
    · have : isN name f = true := by simpa [isN] using hf
      rw [this, del, if_pos hf]
      rfl
    · have : isN name f = false := by simpa [isN] using hf
      have h2 : name ∈ nmE l := by
        rcases List.mem_cons.1 h with h | h
        · exact absurd h.symm hf
        · exact h
      rw [this, del, if_neg hf, plc_del l name h2]
      rfl
theorem plc_ins : ∀ (l : List En) (name : Nm) (id : Int), ins (name, id) l = l.take (l.findIdx (gtN name)) ++ (name, id) :: l.drop (l.findIdx (gtN name))
  | [], _, _ => rfl
  | f :: l, name, id => by
    rw [List.findIdx_cons, ins]
    cases hf : gtN name f with
    | true =>
      have hg : lss (name, id).1 f.1 = true := hf
      rw [if_pos hg]
      rfl
    | false =>
      have hg : lss (name, id).1 f.1 = false := hf
      rw [hg, if_neg (by decide), plc_ins l name id]
      rfl
attribute [local go_sem] cell_off4 cell_blk4
theorem box_ents {w : World} {n : Nd} {vd ve : Value} (he : EntsR w ve n.ents) : EntsR (w.alloc (.cells (ndC n vd ve) 25)) ve n.ents := he.below (ba _ _)
theorem find_any (n : Nd) (vd ve : Value) (name : Nm) (w : World) (hd : BytesR w vd n.data) (he : EntsR w ve n.ents) (hn : n.ents.length ≤ 1000) :
    Calls Try.prog 17 #[nodeV n vd ve, .string (bA name)] w fun e w' => e = .returned (.int .i64 (fnd n.ents name)) ∧ Below w.heap.size w w' := by
  have hb1 := ba w (.cells (ndC n vd ve) 25)
  have HP := Lib.hid (placeOf_any ve n.ents name _ (box_ents (vd := vd) he) (by omega))
  have hk1 := Blk.new w 25 (ndC n vd ve)
  have HB1 := Lib.hid hb1
  have HK1 := Lib.hid hk1
  have HE := Lib.hid (box_ents (vd := vd) he)
  obtain ⟨A1, c1, rfl⟩ := bytes_form hd rfl
  obtain ⟨A2, c2, rfl⟩ := ents_form he rfl
  clear hd he hb1 hk1
  unfold nodeV
  unfold plcI at HP
  by_cases hf : n.ents.findIdx (isN name) < n.ents.length
  · rw [if_pos hf] at HP
    obtain ⟨e, hke⟩ : ∃ e, n.ents[n.ents.findIdx (isN name)]? = some e := ⟨_, List.getElem?_eq_getElem hf⟩
    have HF := Lib.hid (plc_fnd n.ents name e hke)
    have HKE := Lib.hid hke
    clear hke
    generalize n.ents.findIdx (isN name) = k at HP HKE hf
    have hk2 : (k : Int) < (n.ents.length : Int) := by omega
    go_enter Try.func17, Try.ntmps17
    go_wp2_with fail
    refine HP.out.mono ?_
    rintro e2 w2 ⟨rfl, hb2⟩
    have hk3 := HK1.out.below hb2
    obtain ⟨p0, p1, p2, p3, p4, p5, p6⟩ := hk3.c7
    obtain ⟨ad, rfl, c0, c3⟩ := ents_get (HE.out.below hb2) HKE.out
    have HB2 := Lib.hid (bt hb2 HB1.out)
    clear hb2 hk3
    go_wp2
    go_ret
    exact ⟨ret_int HF.out.symm, HB2.out⟩
  · rw [if_neg hf] at HP
    have HF := Lib.hid (show fnd n.ents name = 0 from fnd_none (fun h => hf ((plc_mem name n.ents).2 h)))
    clear hf
    go_enter Try.func17, Try.ntmps17
    go_wp2_with fail
    refine HP.out.mono ?_
    rintro e2 w2 ⟨rfl, hb2⟩
    have HB2 := Lib.hid (bt hb2 HB1.out)
    clear hb2
    go_wp2
    go_ret
    exact ⟨ret_int HF.out.symm, HB2.out⟩
end Go.Proofs.Ytibmnafnandodaa
