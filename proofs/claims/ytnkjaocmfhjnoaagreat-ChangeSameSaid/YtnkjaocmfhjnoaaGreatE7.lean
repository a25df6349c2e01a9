/-
  node.With. The conditions are said at each.
-/
import Derived.Test.YtnkjaocmfhjnoaaGreatE6
import Derived.Test.YtnkjaocmfhjnoaaGreatShelf
import Derived.Deep.RegionHeld3
import Derived.Deep.RegionWith
namespace Go.Proofs.YtnkjaocmfhjnoaaGreat
open Go Go.RowKit
set_option maxRecDepth 100000

theorem any_two : ∀ l : List UInt8, decide (0 ≤ Lib.indexAny l [0, 47]) = (l.contains 47 || l.contains 0)
  | [] => rfl
  | b :: l => by
    have ih := any_two l
    have c47 : (b :: l).contains 47 = ((47 : UInt8) == b || l.contains 47) := List.contains_cons ..
    have c0 : (b :: l).contains 0 = ((0 : UInt8) == b || l.contains 0) := List.contains_cons ..
    rw [Lib.indexAny, c47, c0]
    by_cases h0 : b = 0
    · subst h0
      simp
    · by_cases h1 : b = 47
      · subst h1
        simp
      · have e0 : ((0 : UInt8) == b) = false := by rw [beq_eq_false_iff_ne]; exact fun e => h0 e.symm
        have e1 : ((47 : UInt8) == b) = false := by rw [beq_eq_false_iff_ne]; exact fun e => h1 e.symm
        have e2 : ([0, 47] : List UInt8).contains b = false := by simp [h0, h1]
        rw [e0, e1, e2, Bool.false_or, Bool.false_or, ← ih, if_neg (by decide)]
        have hge := Lib.indexAny_ge [0, 47] l
        split
        · rename_i h2
          have h3 : Lib.indexAny l [0, 47] = -1 := by simpa using h2
          rw [h3]
        · rename_i h2
          have h3 : ¬ Lib.indexAny l [0, 47] = -1 := by simpa using h2
          congr 1
          apply propext
          constructor <;> intro h4 <;> omega
theorem zero_set (w : World) : (zeroValue 266).run Tryz.prog w = .ok (.agg (Array.replicate 256 (.bool false))) w := by kernel_rfl
theorem contains_any (s : Nm) (w : World) (h8 : 12 < s.length) (hs : s.length ≤ 1000) :
    Calls Tryz.prog 188 #[.string (bA s), .string ⟨#[0, 47]⟩] w fun e w' => e = .returned (.bool (s.contains 47 || s.contains 0)) ∧ Below w.heap.size w w' := by
  have H := Lib.hid (Tryz.strings_IndexAny_long zero_set (bA s) ⟨#[0, 47]⟩ w (by decide) (by rw [size_bA]; omega) (by rw [size_bA]; omega) (by decide) (by
    intro j b hj
    match j, hj with
    | 0, hj => simp at hj; subst hj; decide
    | 1, hj => simp at hj; subst hj; decide))
  have HX := Lib.hid (any_two s)
  rw [show (bA s).data.toList = s from rfl, show (⟨#[0, 47]⟩ : ByteArray).data.toList = [0, 47] from rfl] at H
  generalize Lib.indexAny s [0, 47] = X at H HX
  obtain ⟨CS, hCS⟩ : ∃ CS, CS = Lib.setCells [0, 47] := ⟨_, rfl⟩
  rw [← hCS] at H
  clear hCS
  go_enter Tryz.func188, Tryz.ntmps188
  go_wp2_with fail
  refine H.out.mono ?_
  rintro e w2 ⟨rfl, rfl⟩
  have HB := Lib.hid (al (ba w (.cells CS 266)) (.cells CS 266))
  clear H
  generalize (w.alloc (.cells CS 266)).alloc (.cells CS 266) = w2 at HB ⊢
  go_wp2
  go_ret
  exact ⟨ret_bool (by rw [← HX.out]), HB.out⟩
def nmF (n : Nm) : Int := if badN n = true then 22 else if 12 < n.length then 36 else 0
theorem nok_nmF (n : Nm) (h : nok n = true) : nmF n = 0 := by
  unfold nok at h
  rw [Bool.and_eq_true] at h
  have h1 : badN n = false := by simpa using h.1
  have h2 : n.length ≤ 12 := by simpa using h.2
  rw [nmF, h1, if_neg (by decide), if_neg (by omega)]
theorem bad_long (n : Nm) (h : 12 < n.length) : badN n = (n.contains 47 || n.contains 0) := by
  unfold badN
  have e0 : (n == ([] : Nm)) = false := by rw [beq_eq_false_iff_ne]; intro e; rw [e] at h; simp at h
  have e1 : (n == ([46] : Nm)) = false := by rw [beq_eq_false_iff_ne]; intro e; rw [e] at h; simp at h
  have e2 : (n == ([46, 46] : Nm)) = false := by rw [beq_eq_false_iff_ne]; intro e; rw [e] at h; simp at h
  rw [e0, e1, e2]
  rfl
theorem nok_short (n : Nm) (hk : nok n = false) (h : ¬ 12 < n.length) : nmF n = 22 := by
  unfold nok at hk
  rw [decide_eq_true (show n.length ≤ 12 by omega), Bool.and_true] at hk
  have : badN n = true := by simpa using hk
  rw [nmF, if_pos this]
theorem nameFault_any (s : Nm) (w : World) (hs : s.length ≤ 1000) :
    Calls Tryz.prog 159 #[.string (bA s)] w fun e w' => e = .returned (.int .i64 (nmF s)) ∧ Below w.heap.size w w' := by
  have hsz := size_bA s
  have HN := Lib.hid (Name_any (bA s) w (by rw [hsz]; unfold maxLen; omega))
  rw [nam_nok, tl_bA] at HN
  cases hk : nok s with
  | true =>
    rw [hk] at HN
    have HF := Lib.hid (nok_nmF s hk)
    clear hk hsz
    go_enter Tryz.func159, Tryz.ntmps159
    go_wp2_with fail
    refine HN.out.mono ?_
    rintro e w' ⟨rfl, rfl⟩
    go_wp2
    go_ret
    exact ⟨ret_int HF.out.symm, Below.refl _ _⟩
  | false =>
    rw [hk] at HN
    by_cases hl : 12 < s.length
    · have HC := Lib.hid (contains_any s w hl hs)
      have hb := bad_long s hl
      have HF := Lib.hid (show nmF s = if badN s = true then 22 else 36 by rw [nmF, if_pos hl])
      rw [hb] at HF
      have hl' : (12 : Int) < ((bA s).size : Int) := by rw [hsz]; omega
      clear hk hb hl hsz
      generalize (s.contains 47 || s.contains 0) = R at HC HF
      cases R with
      | true =>
        go_enter Tryz.func159, Tryz.ntmps159
        go_wp2_with fail
        refine HN.out.mono ?_
        rintro e w' ⟨rfl, rfl⟩
        go_wp2_with fail
        refine HC.out.mono ?_
        rintro e w2 ⟨rfl, hb2⟩
        have HB2 := Lib.hid hb2
        clear hb2
        go_wp2
        go_ret
        exact ⟨ret_int HF.out.symm, HB2.out⟩
      | false =>
        go_enter Tryz.func159, Tryz.ntmps159
        go_wp2_with fail
        refine HN.out.mono ?_
        rintro e w' ⟨rfl, rfl⟩
        go_wp2_with fail
        refine HC.out.mono ?_
        rintro e w2 ⟨rfl, hb2⟩
        have HB2 := Lib.hid hb2
        clear hb2
        go_wp2
        go_ret
        exact ⟨ret_int HF.out.symm, HB2.out⟩
    · have HF := Lib.hid (nok_short s hk hl)
      have hl' : ¬ (12 : Int) < ((bA s).size : Int) := by rw [hsz]; omega
      clear hk hl hsz
      go_enter Tryz.func159, Tryz.ntmps159
      go_wp2_with fail
      refine HN.out.mono ?_
      rintro e w' ⟨rfl, rfl⟩
      go_wp2
      go_ret
      exact ⟨ret_int HF.out.symm, Below.refl _ _⟩
theorem plc_mem (name : Nm) : ∀ l : List En, (l.findIdx (isN name) < l.length ↔ name ∈ nmE l) := by
  intro l
  rw [List.findIdx_lt_length]
  constructor
  · rintro ⟨e, he, hp⟩
    have : e.1 = name := by simpa [isN] using hp
    rw [← this]
    exact mem_nmE he
  · intro h
    obtain ⟨e, he, h2⟩ := List.mem_map.1 h
    exact ⟨e, he, by simpa [isN] using h2⟩
theorem plc_fnd : ∀ (l : List En) (name : Nm) (e : En), l[l.findIdx (isN name)]? = some e → fnd l name = e.2
  | [], _, e, h => by simp at h
  | f :: l, name, e, h => by
    rw [List.findIdx_cons] at h
    by_cases hf : f.1 = name
    · have : isN name f = true := by simpa [isN] using hf
      rw [this] at h
      simp at h
      rw [fnd, if_pos hf, h]
    · have : isN name f = false := by simpa [isN] using hf
      rw [this] at h
      simp only [cond_false, List.getElem?_cons_succ] at h
      rw [fnd, if_neg hf]
      exact plc_fnd l name e h
theorem plc_del : ∀ (l : List En) (name : Nm), name ∈ nmE l → del l name = l.take (l.findIdx (isN name)) ++ l.drop (l.findIdx (isN name) + 1)
  | [], _, h => by cases h
  | f :: l, name, h => by
    rw [List.findIdx_cons]
    by_cases hf : f.1 = name
    · have : isN name f = true := by simpa [isN] using hf
      rw [this, del, if_pos hf]
      rfl
    · have : isN name f = false := by simpa [isN] using hf
      have h2 : name ∈ nmE l := by
        rcases List.mem_cons.1 h with h | h
        · exact absurd h.symm hf
        · exact h
      rw [this, del, if_neg hf, plc_del l name h2]
      rfl
theorem plc_ins : ∀ (l : List En) (name : Nm) (id : Int), ins (name, id) l = l.take (l.findIdx (gtN name)) ++ (name, id) :: l.drop (l.findIdx (gtN name))
  | [], _, _ => rfl
  | f :: l, name, id => by
    rw [List.findIdx_cons, ins]
    cases hf : gtN name f with
    | true =>
      have hg : lss (name, id).1 f.1 = true := hf
      rw [if_pos hg]
      rfl
    | false =>
      have hg : lss (name, id).1 f.1 = false := hf
      rw [hg, if_neg (by decide), plc_ins l name id]
      rfl
attribute [local go_sem] cell_off4 cell_blk4
end Go.Proofs.YtnkjaocmfhjnoaaGreat
namespace Go.Proofs.YtnkjaocmfhjnoaaGreat
open Go Go.RowKit
set_option maxRecDepth 100000

theorem withE_eq (n : Nd) (name : Nm) (id : Int) : withE n name id = if n.kind ≠ 2 then 20 else if id < 1 then 22 else if nmF name ≠ 0 then nmF name else if name ∈ nmE n.ents then 17 else if 8 ≤ n.ents.length then 28 else 0 := by
  unfold withE nmF
  by_cases h1 : n.kind ≠ 2
  · rw [if_pos h1, if_pos h1]
  · rw [if_neg h1, if_neg h1]
    by_cases h2 : id < 1
    · rw [if_pos (.inl h2), if_pos h2]
    · rw [if_neg h2]
      by_cases h3 : badN name = true
      · rw [if_pos (.inr h3), if_pos h3, if_pos (by decide)]
      · rw [if_neg (by rintro (h | h); exact h2 h; exact h3 h), if_neg h3]
        by_cases h4 : 12 < name.length
        · rw [if_pos h4, if_pos h4, if_pos (by decide)]
        · rw [if_neg h4, if_neg h4, if_neg (show ¬ ((0 : Int) ≠ 0) from fun h => h rfl)]
theorem withFault_any (n : Nd) (vd ve : Value) (name : Nm) (id : Int) (w : World) (hd : BytesR w vd n.data) (he : EntsR w ve n.ents) (hn : n.ents.length ≤ 1000) (hs : name.length ≤ 1000) :
    Calls Tryz.prog 117 #[nodeV n vd ve, .string (bA name), .int .i64 id] w fun e w' => e = .returned (.int .i64 (withE n name id)) ∧ Below w.heap.size w w' := by
  have HB1 := Lib.hid (ba w (.cells (ndC n vd ve) 65))
  have HK1 := Lib.hid (Blk.new w 65 (ndC n vd ve))
  have HE := Lib.hid (box_ents (vd := vd) he)
  have HW := Lib.hid (withE_eq n name id)
  obtain ⟨A1, c1, rfl⟩ := bytes_form hd rfl
  obtain ⟨A2, c2, rfl⟩ := ents_form he rfl
  clear hd he
  generalize withE n name id = X at HW ⊢
  unfold nodeV
  by_cases h1 : n.kind = 2
  · have k1 : (n.kind != 2) = false := by simpa using h1
    rw [if_neg (fun h => h h1)] at HW
    clear h1
    by_cases h2 : id < 1
    · rw [if_pos h2] at HW
      go_enter Tryz.func117, Tryz.ntmps117
      go_wp2
      go_ret
      exact ⟨ret_int HW.out.symm, HB1.out⟩
    · rw [if_neg h2] at HW
      have HN := Lib.hid (fun W => nameFault_any name W hs)
      obtain ⟨F, hF⟩ : ∃ F, nmF name = F := ⟨_, rfl⟩
      rw [hF] at HN HW
      clear hF
      by_cases h3 : F = 0
      · subst h3
        rw [if_neg (fun h => h rfl)] at HW
        have HP := Lib.hid (fun W hb => placeOf_any (.slice A2 n.ents.length c2) n.ents name W (HE.out.below hb) (by omega))
        have hmem := plc_mem name n.ents
        unfold plcI at HP
        generalize n.ents.findIdx (isN name) = k at HP hmem
        by_cases h4 : k < n.ents.length
        · have HP2 := Lib.hid (show ∀ W, Below _ _ W → Calls Tryz.prog 160 #[.slice A2 n.ents.length c2, .string (bA name)] W fun e w' => e = .returned (.int .i64 (k : Int)) ∧ Below W.heap.size W w' by have := HP.out; rw [if_pos h4] at this; exact this)
          rw [if_pos (hmem.1 h4)] at HW
          clear hmem HP h4
          go_enter Tryz.func117, Tryz.ntmps117
          go_wp2_with fail
          refine (HN.out _).mono ?_
          rintro e w2 ⟨rfl, hb2⟩
          obtain ⟨p0, p1, p2, p3, p4, p5, p6⟩ := (HK1.out.below hb2).c7
          have HB2 := Lib.hid hb2
          clear hb2
          go_wp2_with fail
          refine (HP2.out _ HB2.out).mono ?_
          rintro e w3 ⟨rfl, hb3⟩
          have HB3 := Lib.hid (bt hb3 HB2.out)
          clear p0 p1 p2 p3 p4 p5 p6
          obtain ⟨p0, p1, p2, p3, p4, p5, p6⟩ := (HK1.out.below HB3.out).c7
          clear hb3
          go_wp2
          go_ret
          exact ⟨ret_int HW.out.symm, bt HB3.out HB1.out⟩
        · have HP2 := Lib.hid (show ∀ W, Below _ _ W → Calls Tryz.prog 160 #[.slice A2 n.ents.length c2, .string (bA name)] W fun e w' => e = .returned (.int .i64 (-1)) ∧ Below W.heap.size W w' by have := HP.out; rw [if_neg h4] at this; exact this)
          rw [if_neg (fun h => h4 (hmem.2 h))] at HW
          clear hmem HP h4
          by_cases h5 : 8 ≤ n.ents.length
          · rw [if_pos h5] at HW
            have h5' : (8 : Int) ≤ (n.ents.length : Int) := by omega
            clear h5
            go_enter Tryz.func117, Tryz.ntmps117
            go_wp2_with fail
            refine (HN.out _).mono ?_
            rintro e w2 ⟨rfl, hb2⟩
            obtain ⟨p0, p1, p2, p3, p4, p5, p6⟩ := (HK1.out.below hb2).c7
            have HB2 := Lib.hid hb2
            clear hb2
            go_wp2_with fail
            refine (HP2.out _ HB2.out).mono ?_
            rintro e w3 ⟨rfl, hb3⟩
            have HB3 := Lib.hid (bt hb3 HB2.out)
            clear p0 p1 p2 p3 p4 p5 p6
            obtain ⟨p0, p1, p2, p3, p4, p5, p6⟩ := (HK1.out.below HB3.out).c7
            clear hb3
            go_wp2
            go_ret
            exact ⟨ret_int HW.out.symm, bt HB3.out HB1.out⟩
          · rw [if_neg h5] at HW
            have h5' : ¬ (8 : Int) ≤ (n.ents.length : Int) := by omega
            clear h5
            go_enter Tryz.func117, Tryz.ntmps117
            go_wp2_with fail
            refine (HN.out _).mono ?_
            rintro e w2 ⟨rfl, hb2⟩
            obtain ⟨p0, p1, p2, p3, p4, p5, p6⟩ := (HK1.out.below hb2).c7
            have HB2 := Lib.hid hb2
            clear hb2
            go_wp2_with fail
            refine (HP2.out _ HB2.out).mono ?_
            rintro e w3 ⟨rfl, hb3⟩
            have HB3 := Lib.hid (bt hb3 HB2.out)
            clear p0 p1 p2 p3 p4 p5 p6
            obtain ⟨p0, p1, p2, p3, p4, p5, p6⟩ := (HK1.out.below HB3.out).c7
            clear hb3
            go_wp2
            go_ret
            exact ⟨ret_int HW.out.symm, bt HB3.out HB1.out⟩
      · have k3 : (F != 0) = true := by simpa using h3
        rw [if_pos h3] at HW
        clear h3
        go_enter Tryz.func117, Tryz.ntmps117
        go_wp2_with fail
        refine (HN.out _).mono ?_
        rintro e w2 ⟨rfl, hb2⟩
        obtain ⟨p0, p1, p2, p3, p4, p5, p6⟩ := (HK1.out.below hb2).c7
        have HB2 := Lib.hid hb2
        clear hb2
        go_wp2
        go_ret
        exact ⟨ret_int HW.out.symm, bt HB2.out HB1.out⟩
  · have k1 : (n.kind != 2) = true := by simpa using h1
    rw [if_pos h1] at HW
    clear h1
    go_enter Tryz.func117, Tryz.ntmps117
    go_wp2
    go_ret
    exact ⟨ret_int HW.out.symm, HB1.out⟩
theorem insert_any (v : Value) (l : List En) (B : Nat) (k : Nat) (e : En) (vb : Nat) (w : World) (hX : EntsX w B v l) (hk : k ≤ l.length) (hn : l.length ≤ 1000) (hB : B ≤ w.heap.size) (h0 : w.cell? ⟨vb, 0, none⟩ = some (.string (bA e.1))) (h1 : w.cell? ⟨vb, 1, none⟩ = some (.int .i64 e.2)) :
    Calls Tryz.prog 119 #[v, .int .i64 (k : Int), .slice (some ⟨vb, 0, none⟩) 1 1] w fun e' w' => ∃ v', e' = .returned v' ∧ EntsT w' v' (l.take k ++ e :: l.drop k) ∧ w.grownBy w' v.ownBlock := by
  by_cases hkl : k = l.length
  · subst hkl
    rw [List.take_length, List.drop_length]
    exact insert_end v l B e vb w hX hn hB h0 h1
  · rcases hX with ⟨-, rfl⟩ | ⟨g, -, rfl, -, hb⟩
    · simp at hk hkl
      omega
    · exact (insert_mid g l k e vb w hb (by omega) hn h0 h1).mono fun e' w' ⟨v', a, b, c⟩ => ⟨v', a, b, grown_of_below c _⟩
section
variable {w w' w0 : World} {B B' g : Nat} {v ve vd : Value} {l : List En} {d : List UInt8} {t : TypeId} {cs : Array Value}
theorem EntsX.ne (h : EntsX w B v l) (hk : Blk w g t cs) (ht : t ≠ 126) : v.ownBlock ≠ some g := by
  rcases h with ⟨rfl, -⟩ | ⟨g', -, rfl, -, h4⟩
  · simp [Value.ownBlock]
  · intro he
    have : g' = g := by simpa [Value.ownBlock] using he
    subst this
    unfold Blk at hk h4
    rw [hk] at h4
    injection h4 with h4
    injection h4 with _ h4
    exact ht h4
theorem EntsX.at_least (h : EntsX w B v l) (q : Nat) (hq : v.ownBlock = some q) : B ≤ q := by
  rcases h with ⟨rfl, -⟩ | ⟨g', h1, rfl, -⟩
  · simp [Value.ownBlock] at hq
  · have : g' = q := by simpa [Value.ownBlock] using hq
    omega
theorem EntsX.blk (h : EntsX w B v l) (hk : Blk w g t cs) (ht : t ≠ 126) (hg : w.grownBy w' v.ownBlock) : Blk w' g t cs := hk.kept hg (fun e => h.ne hk ht e.symm)
theorem EntsX.bytes (h : EntsX w B v l) (hd : BytesX w B' vd d) (hg : w.grownBy w' v.ownBlock) : BytesX w' B' vd d := by
  rcases hd with hd | ⟨g', h1, h2, h3⟩
  · exact .inl hd
  · exact .inr ⟨g', h1, h2, h.blk h3 (by decide) hg⟩
theorem EntsX.low (h : EntsX w B v l) (hb : Below w0.heap.size w0 w) (hB : w0.heap.size ≤ B) (hg : w.grownBy w' v.ownBlock) : Below w0.heap.size w0 w' :=
  hb.grown hg hb.size (fun q hq => Nat.le_trans hB (h.at_least q hq))
end
end Go.Proofs.YtnkjaocmfhjnoaaGreat
namespace Go.Proofs.YtnkjaocmfhjnoaaGreat
open Go Go.RowKit
set_option maxRecDepth 100000

attribute [local go_sem] cell_off4 cell_blk4
theorem zero_nd (w : World) : NdT w (.agg ndZ) Nd.zero := ⟨_, _, rfl, .inl ⟨rfl, rfl⟩, EntsT.nil w⟩
theorem withM_bad {n : Nd} {name : Nm} {id : Int} (h : ¬ withE n name id = 0) : withM n name id = Nd.zero := if_neg h
theorem withM_good {n : Nd} {name : Nm} {id : Int} (h : withE n name id = 0) : withM n name id = { n with ents := n.ents.take (n.ents.findIdx (gtN name)) ++ (name, id) :: n.ents.drop (n.ents.findIdx (gtN name)) } := by
  rw [withM, if_pos h, plc_ins]
structure WS (w0 W : World) (g r B : Nat) (n : Nd) (vd ve : Value) : Prop where
  below : Below w0.heap.size w0 W
  base : w0.heap.size ≤ B
  size : B ≤ W.heap.size
  box : Blk W g 65 (ndC n vd ve)
  res : Blk W r 65 ndZ
  data : BytesX W B vd n.data
  ents : EntsX W B ve n.ents
section
variable {w0 W W' : World} {g r B : Nat} {n : Nd} {vd ve : Value}
theorem WS.later (h : WS w0 W g r B n vd ve) (hb : Below W.heap.size W W') : WS w0 W' g r B n vd ve :=
  ⟨bt hb h.below, h.base, Nat.le_trans h.size hb.size, h.box.below hb, h.res.below hb, h.data.below hb, h.ents.below hb⟩
theorem WS.drew (h : WS w0 W g r B n vd ve) : WS w0 W.drew g r B n vd ve := h.later (Below.refl _ _).drew
theorem WS.made (h : WS w0 W g r B n vd ve) (o : Obj) : WS w0 (W.alloc o) g r B n vd ve := h.later (ba _ _)
theorem WS.turned (h : WS w0 W g r B n vd ve) (hg : W.grownBy W' ve.ownBlock) : Below w0.heap.size w0 W' ∧ Blk W' g 65 (ndC n vd ve) ∧ Blk W' r 65 ndZ ∧ BytesX W' B vd n.data :=
  ⟨h.ents.low h.below h.base hg, h.ents.blk h.box (by decide) hg, h.ents.blk h.res (by decide) hg, EntsX.bytes h.ents h.data hg⟩
theorem WS.put (hb : Below w0.heap.size w0 W) (hB : w0.heap.size ≤ B) (hz : B ≤ W.heap.size) {a0 a1 a2 a3 a4 a5 a6 : Value} (hk : Blk W g 65 #[a0, a1, a2, a3, a4, a5, a6]) (hr : Blk W r 65 ndZ) (hgr : g ≠ r) (hg : w0.heap.size ≤ g) (hx : BytesX W B vd n.data) (hy : EntsX W B ve n.ents) :
    WS w0 (put7 W g (.int .i64 n.kind) (.int .i64 n.mode) (.int .i64 n.uid) (.int .i64 n.gid) vd ve (.string (bA n.target))) g r B n vd ve := by
  have hG := grown7 W g (.int .i64 n.kind) (.int .i64 n.mode) (.int .i64 n.uid) (.int .i64 n.gid) vd ve (.string (bA n.target))
  exact ⟨below_grown hb hG hg, hB, Nat.le_trans hz hG.size, hk.put7 _ _ _ _ _ _ _, hr.kept hG (fun e => by injection e with e; exact hgr e.symm), hx.kept hk (by decide) hG, hy.kept hk (by decide) hG⟩
end
theorem ins_at (v : Value) (l : List En) (B k : Nat) (name : Nm) (id : Int) (vb : Nat) (W : World) (hX : EntsX W B v l) (hk : k ≤ l.length) (hn : l.length ≤ 1000) (hB : B ≤ W.heap.size) (h0 : W.cell? ⟨vb, 0, none⟩ = some (.string (bA name))) (h1 : W.cell? ⟨vb, 1, none⟩ = some (.int .i64 id)) :
    Calls Tryz.prog 119 #[v, .int .i64 (k : Int), .slice (some ⟨vb, 0, none⟩) 1 1] W fun e' w' => ∃ v', e' = .returned v' ∧ EntsT w' v' (l.take k ++ (name, id) :: l.drop k) ∧ W.grownBy w' v.ownBlock :=
  insert_any v l B k (name, id) vb W hX hk hn hB h0 h1
theorem nwith_end {w0 w6 w7 w8 : World} {B g r : Nat} {n : Nd} {vd v6 : Value} {l : List En} {cs cr : Array Value} (hk : Blk w6 g 65 cs) (hr : Blk w7 r 65 cr) (hd : BytesX w6 B vd n.data) (he : EntsT w6 v6 l) (hb : Below w0.heap.size w0 w6) (hg7 : w6.grownBy w7 (some g)) (hg8 : w7.grownBy w8 (some r)) (h0 : w0.heap.size ≤ g) (h1 : w0.heap.size ≤ r) (X : Int) :
    ∃ v, Ending.returned (.tuple #[nodeV n vd v6, .int .i64 X]) = .returned (.tuple #[v, .int .i64 X]) ∧ NdT w8 v { n with ents := l } ∧ Below w0.heap.size w0 w8 :=
  ⟨_, rfl, ⟨vd, v6, rfl, ((hd.kept hk (by decide) hg7).kept hr (by decide) hg8).lower (Nat.zero_le _), (he.kept hk (by decide) hg7).kept hr (by decide) hg8⟩, below_grown (below_grown hb hg7 h0) hg8 h1⟩
set_option maxRecDepth 100000 in
set_option maxHeartbeats 8000000 in
theorem with_good (n : Nd) (vd ve : Value) (name : Nm) (id : Int) (w : World) (hd : BytesR w vd n.data) (he : EntsR w ve n.ents) (hnd : n.data.length ≤ 1000) (hn : n.ents.length ≤ 1000) (hs : name.length ≤ 1000) (hX : withE n name id = 0) :
    Calls Tryz.prog 89 #[nodeV n vd ve, .string (bA name), .int .i64 id] w fun e w' => ∃ v, e = .returned (.tuple #[v, .int .i64 (withE n name id)]) ∧ NdT w' v (withM n name id) ∧ Below w.heap.size w w' := by
  obtain ⟨W1, hW1⟩ : ∃ W1, W1 = (w.alloc (.cells (ndC n vd ve) 65)).alloc (.cells ndZ 65) := ⟨_, rfl⟩
  have hb1 : Below w.heap.size w W1 := by rw [hW1]; exact al (ba _ _) _
  have hz1 : W1.heap.size = w.heap.size + 2 := by rw [hW1]; simp
  have hkb : Blk W1 w.heap.size 65 (ndC n vd ve) := by rw [hW1]; exact (Blk.new _ _ _).alloc _
  have hkr : Blk W1 (w.heap.size + 1) 65 ndZ := by rw [hW1]; have := Blk.new (w.alloc (.cells (ndC n vd ve) 65)) 65 ndZ; simpa using this
  have HF := Lib.hid (withFault_any n vd ve name id W1 (hd.below hb1) (he.below hb1) hn hs)
  have HC := Lib.hid (fun W (hb : Below W1.heap.size W1 W) => ncopied_any n vd ve W ((hd.below hb1).below hb) ((he.below hb1).below hb) (by omega) (by omega))
  have HB1 := Lib.hid hb1
  have HKB := Lib.hid hkb
  have HKR := Lib.hid hkr
  have HZ1 := Lib.hid hz1
  obtain ⟨A1, c1, rfl⟩ := bytes_form hd rfl
  obtain ⟨A2, c2, rfl⟩ := ents_form he rfl
  clear hd he hb1 hkb hkr hz1
  subst hW1
  unfold nodeV at HF HC ⊢
  have HM := Lib.hid (withM_good hX)
  rw [hX] at HF ⊢
  clear hX
  generalize withM n name id = M at HM ⊢
  have hk5 : n.ents.findIdx (gtN name) ≤ n.ents.length := List.findIdx_le_length
  have HP := Lib.hid (fun v W (h : EntsR W v n.ents) => placeFor_any v n.ents name W h (by omega))
  generalize n.ents.findIdx (gtN name) = k at HM HP hk5
  go_enter Tryz.func89, Tryz.ntmps89
  go_wp2_with fail
  refine HF.out.mono ?_
  rintro e w2 ⟨rfl, hb2⟩
  have HB2 := Lib.hid hb2
  obtain ⟨p0, p1, p2, p3, p4, p5, p6⟩ := (HKB.out.below hb2).c7
  clear hb2 HF
  go_wp2_with fail
  refine (HC.out w2 HB2.out).mono ?_
  rintro e w3 ⟨vd', ve', rfl, hx3, hy3, hb3⟩
  have HKB3 := Lib.hid ((HKB.out.below HB2.out).below hb3)
  have HKR3 := Lib.hid ((HKR.out.below HB2.out).below hb3)
  obtain ⟨A3, c3, hv3⟩ := bytesX_form hx3
  obtain ⟨A4, c4, hv4⟩ := entsX_form hy3
  subst hv3 hv4
  have HX3 := Lib.hid hx3
  have HY3 := Lib.hid hy3
  have HB3 := Lib.hid hb3
  clear p0 p1 p2 p3 p4 p5 p6 hb3 hx3 hy3 HC
  obtain ⟨p0, p1, p2, p3, p4, p5, p6⟩ := HKB3.out.c7
  obtain ⟨f0, f1, f2, f3, f4, f5, f6⟩ := HKB3.out.f7
  obtain ⟨s0, s1, s2, s3, s4, s5, s6⟩ := HKB3.out.s7
  go_wp2_with fail
  have hS := WS.put (n := n) (vd := .slice A3 n.data.length c3) (ve := .slice A4 n.ents.length c4) (bt HB3.out (bt HB2.out HB1.out)) (show w.heap.size ≤ w2.heap.size by have := HB2.out.size; rw [HZ1.out] at this; omega) HB3.out.size HKB3.out HKR3.out (by omega) (Nat.le_refl _) HX3.out HY3.out
  obtain ⟨W4, hW4⟩ : ∃ W4, W4 = put7 w3 w.heap.size (.int .i64 n.kind) (.int .i64 n.mode) (.int .i64 n.uid) (.int .i64 n.gid) (.slice A3 n.data.length c3) (.slice A4 n.ents.length c4) (.string (bA n.target)) := ⟨_, rfl⟩
  change Code.wp _ _ _ _ (put7 w3 w.heap.size (.int .i64 n.kind) (.int .i64 n.mode) (.int .i64 n.uid) (.int .i64 n.gid) (.slice A3 n.data.length c3) (.slice A4 n.ents.length c4) (.string (bA n.target)))
  rw [← hW4] at hS ⊢
  have HS := Lib.hid hS.drew
  have q5 : W4.drew.cell? ⟨w.heap.size, 5, none⟩ = some (.slice A4 n.ents.length c4) := hS.drew.box.cell 5
  clear p0 p1 p2 p3 p4 p5 p6 f0 f1 f2 f3 f4 f5 f6 s0 s1 s2 s3 s4 s5 s6 hW4 hS
  have q6 := bc (ba W4.drew (.cells #[.string (bA name), .int .i64 id] 126)) q5
  have hlt : w.heap.size < W4.heap.size := HS.out.box.lt
  have q50 : W4.cell? ⟨w.heap.size, 5, none⟩ = some (.slice A4 n.ents.length c4) := q5
  have q60 : (W4.alloc (.cells #[.string (bA name), .int .i64 id] 126)).cell? ⟨w.heap.size, 5, none⟩ = some (.slice A4 n.ents.length c4) := q6
  have z0 : (W4.drew.alloc (.cells #[.string (bA name), .int .i64 id] 126)).cell? ⟨W4.heap.size, 0, none⟩ = some (.string (bA name)) := (Blk.new W4.drew 126 #[.string (bA name), .int .i64 id]).cell 0
  have z1 : (W4.drew.alloc (.cells #[.string (bA name), .int .i64 id] 126)).cell? ⟨W4.heap.size, 1, none⟩ = some (.int .i64 id) := (Blk.new W4.drew 126 #[.string (bA name), .int .i64 id]).cell 1
  go_region_with (first
    | (go_at_call 120; (first | (refine (HP.out _ W4.drew HS.out.ents.ents).mono ?_) | (refine (HP.out _ (W4.drew.alloc (.cells #[.string (bA name), .int .i64 id] 126)) (HS.out.made _).ents.ents).mono ?_)); rintro e w5 ⟨rfl, hb5⟩; have q7 := bc hb5 (by first | exact q5 | exact q6); have hlt5 : w.heap.size < w5.heap.size := World.block_lt_of_cell? _ _ q7; have q70 := bc (ba w5 (.cells #[.string (bA name), .int .i64 id] 126)) q7; have HB5 := Lib.hid hb5; clear hb5)
    | (go_at_call 119; (first
        | (have hS6 := (HS.out.later HB5.out).made (.cells #[.string (bA name), .int .i64 id] 126); refine (ins_at _ n.ents w2.heap.size k name id w5.heap.size _ hS6.ents hk5 hn hS6.size (by simp) (by simp)).mono ?_; rintro e w6 ⟨v6, rfl, he6, hg6⟩; obtain ⟨hb6, hk6, hr6, hd6⟩ := hS6.turned hg6)
        | (have hS6 := (HS.out.made (.cells #[.string (bA name), .int .i64 id] 126)).later HB5.out; refine (ins_at _ n.ents w2.heap.size k name id W4.heap.size _ hS6.ents hk5 hn hS6.size (bc HB5.out z0) (bc HB5.out z1)).mono ?_; rintro e w6 ⟨v6, rfl, he6, hg6⟩; obtain ⟨hb6, hk6, hr6, hd6⟩ := hS6.turned hg6)); clear hS6 hg6; obtain ⟨A6, c6, hv6⟩ := ents_form (n := n.ents.length + 1) he6.1 (by simp; omega); subst hv6; have HE6 := Lib.hid he6; have HB6 := Lib.hid hb6; have HK6 := Lib.hid hk6; have HR6 := Lib.hid hr6; have HD6 := Lib.hid hd6; obtain ⟨p0, p1, p2, p3, p4, p5, p6⟩ := hk6.c7; obtain ⟨f0, f1, f2, f3, f4, f5, f6⟩ := hk6.f7; clear he6 hb6 hk6 hr6 hd6)
    | fail)
  all_goals (
    have t5 : ∀ u, (w6.setCell ⟨w.heap.size, 5, none⟩ u).cell? ⟨w.heap.size, 5, none⟩ = some u := fun u => (HK6.out.set7_5 u).cell 5
    have HG7 := Lib.hid (grown_setCell w6 ⟨w.heap.size, 5, none⟩ (.slice A6 (n.ents.length + 1) c6))
    have HR7 := Lib.hid (HR6.out.kept HG7.out (by simp))
    obtain ⟨r0, r1, r2, r3, r4, r5, r6⟩ := HR7.out.c7
    obtain ⟨g0, g1, g2, g3, g4, g5, g6⟩ := HR7.out.f7
    obtain ⟨s0, s1, s2, s3, s4, s5, s6⟩ := HR7.out.s7
    clear HS HP q5 q6 q50 q60 z0 z1 hlt
    go_wp2
    have HG8 := grown7 (w6.setCell ⟨w.heap.size, 5, none⟩ (.slice A6 (n.ents.length + 1) c6)) (w.heap.size + 1) (.int .i64 n.kind) (.int .i64 n.mode) (.int .i64 n.uid) (.int .i64 n.gid) (.slice A3 n.data.length c3) (.slice A6 (n.ents.length + 1) c6) (.string (bA n.target))
    rw [HM.out]
    exact bodyPost_ret (v := .tuple #[nodeV n (.slice A3 n.data.length c3) (.slice A6 (n.ents.length + 1) c6), .int .i64 0]) (by simp [results, Tryz.results89, go_sem, nodeV, s0, s1, s2, s3, s4, s5, s6]) rfl (nwith_end HK6.out HR7.out HD6.out HE6.out HB6.out HG7.out HG8 (Nat.le_refl _) (Nat.le_succ _) 0))
end Go.Proofs.YtnkjaocmfhjnoaaGreat
namespace Go.Proofs.YtnkjaocmfhjnoaaGreat
open Go Go.RowKit
set_option maxRecDepth 100000

attribute [local go_sem] cell_off4 cell_blk4
theorem bad_end {w0 w2 w3 : World} {r : Nat} (hb : Below w0.heap.size w0 w2) (hg : w2.grownBy w3 (some r)) (h1 : w0.heap.size ≤ r) (X : Int) :
    ∃ v, Ending.returned (.tuple #[.agg ndZ, .int .i64 X]) = .returned (.tuple #[v, .int .i64 X]) ∧ NdT w3 v Nd.zero ∧ Below w0.heap.size w0 w3 :=
  ⟨_, rfl, zero_nd _, below_grown hb hg h1⟩
set_option maxRecDepth 100000 in
set_option maxHeartbeats 8000000 in
theorem with_bad (n : Nd) (vd ve : Value) (name : Nm) (id : Int) (w : World) (hd : BytesR w vd n.data) (he : EntsR w ve n.ents) (hn : n.ents.length ≤ 1000) (hs : name.length ≤ 1000) (hX : ¬ withE n name id = 0) :
    Calls Tryz.prog 89 #[nodeV n vd ve, .string (bA name), .int .i64 id] w fun e w' => ∃ v, e = .returned (.tuple #[v, .int .i64 (withE n name id)]) ∧ NdT w' v (withM n name id) ∧ Below w.heap.size w w' := by
  obtain ⟨W1, hW1⟩ : ∃ W1, W1 = (w.alloc (.cells (ndC n vd ve) 65)).alloc (.cells ndZ 65) := ⟨_, rfl⟩
  have hb1 : Below w.heap.size w W1 := by rw [hW1]; exact al (ba _ _) _
  have hkr : Blk W1 (w.heap.size + 1) 65 ndZ := by rw [hW1]; have := Blk.new (w.alloc (.cells (ndC n vd ve) 65)) 65 ndZ; simpa using this
  have HF := Lib.hid (withFault_any n vd ve name id W1 (hd.below hb1) (he.below hb1) hn hs)
  have HB1 := Lib.hid hb1
  have HKR := Lib.hid hkr
  obtain ⟨A1, c1, rfl⟩ := bytes_form hd rfl
  obtain ⟨A2, c2, rfl⟩ := ents_form he rfl
  clear hd he hb1 hkr
  subst hW1
  have hM := withM_bad hX
  rw [hM]
  clear hM
  have kX : (withE n name id != 0) = true := by simpa using hX
  clear hX
  unfold nodeV at HF ⊢
  generalize withE n name id = X at HF kX ⊢
  go_enter Tryz.func89, Tryz.ntmps89
  go_wp2_with fail
  refine HF.out.mono ?_
  rintro e w2 ⟨rfl, hb2⟩
  have HB2 := Lib.hid (bt hb2 HB1.out)
  have HR2 := Lib.hid (HKR.out.below hb2)
  obtain ⟨r0, r1, r2, r3, r4, r5, r6⟩ := HR2.out.c7
  obtain ⟨g0, g1, g2, g3, g4, g5, g6⟩ := HR2.out.f7
  obtain ⟨s0, s1, s2, s3, s4, s5, s6⟩ := HR2.out.s7
  clear hb2 HF
  go_wp2
  have HG8 := grown7 w2 (w.heap.size + 1) (.int .i64 0) (.int .i64 0) (.int .i64 0) (.int .i64 0) (.slice none 0 0) (.slice none 0 0) (.string ⟨#[]⟩)
  exact bodyPost_ret (v := .tuple #[.agg ndZ, .int .i64 X]) (by simp [results, Tryz.results89, go_sem, s0, s1, s2, s3, s4, s5, s6]) rfl (bad_end HB2.out HG8 (Nat.le_succ _) X)
theorem with_anyT (n : Nd) (vd ve : Value) (name : Nm) (id : Int) (w : World) (hd : BytesR w vd n.data) (he : EntsR w ve n.ents) (hnd : n.data.length ≤ 1000) (hn : n.ents.length ≤ 1000) (hs : name.length ≤ 1000) :
    Calls Tryz.prog 89 #[nodeV n vd ve, .string (bA name), .int .i64 id] w fun e w' => ∃ v, e = .returned (.tuple #[v, .int .i64 (withE n name id)]) ∧ NdT w' v (withM n name id) ∧ Below w.heap.size w w' := by
  by_cases hX : withE n name id = 0
  · exact with_good n vd ve name id w hd he hnd hn hs hX
  · exact with_bad n vd ve name id w hd he hn hs hX
theorem with_any (n : Nd) (vd ve : Value) (name : Nm) (id : Int) (w : World) (hd : BytesR w vd n.data) (he : EntsR w ve n.ents) (hnd : n.data.length ≤ 1000) (hn : n.ents.length ≤ 1000) (hs : name.length ≤ 1000) :
    Calls Tryz.prog 89 #[nodeV n vd ve, .string (bA name), .int .i64 id] w fun e w' => ∃ v, e = .returned (.tuple #[v, .int .i64 (withE n name id)]) ∧ NdR w' v (withM n name id) ∧ Below w.heap.size w w' :=
  (with_anyT n vd ve name id w hd he hnd hn hs).mono fun _ _ ⟨v, h1, h2, h3⟩ => ⟨v, h1, h2.nd, h3⟩
end Go.Proofs.YtnkjaocmfhjnoaaGreat
