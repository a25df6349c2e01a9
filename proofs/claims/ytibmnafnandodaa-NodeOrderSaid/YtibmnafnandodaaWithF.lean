/-
  A node with one entry more, or one less: withFault, With, Without. The conditions: a name has a thousand bytes at most, and no list is longer than a thousand.
-/
import Derived.Test.YtibmnafnandodaaFault
import Derived.Deep.RegionHeld3
import Derived.Deep.RegionWith
namespace Go.Proofs.Ytibmnafnandodaa
open Go Go.RowKit

theorem withE_eq (n : Nd) (name : Nm) (id : Int) : withE n name id = if n.kind ≠ 2 then 20 else if id < 1 then 22 else if nmF name ≠ 0 then nmF name else if name ∈ nmE n.ents then 17 else if 8 ≤ n.ents.length then 28 else 0 := by
  unfold withE nmF
  by_cases h1 : n.kind ≠ 2
  · rw [if_pos h1, if_pos h1]
  · rw [if_neg h1, if_neg h1]
    by_cases h2 : id < 1
    · rw [if_pos (.inl h2), if_pos h2]
    · rw [if_neg h2]
      by_cases h3 : badN name = true
      · rw [if_pos (.inr h3), if_pos h3, if_pos (by decide)]
      · rw [if_neg (by rintro (h | h); exact h2 h; exact h3 h), if_neg h3]
        by_cases h4 : 12 < name.length
        · rw [if_pos h4, if_pos h4, if_pos (by decide)]
        · rw [if_neg h4, if_neg h4, if_neg (show ¬ ((0 : Int) ≠ 0) from fun h => h rfl)]
theorem withFault_any (n : Nd) (vd ve : Value) (name : Nm) (id : Int) (w : World) (hd : BytesR w vd n.data) (he : EntsR w ve n.ents) (hn : n.ents.length ≤ 1000) (hs : name.length ≤ 1000) :
    Calls Try.prog 21 #[nodeV n vd ve, .string (bA name), .int .i64 id] w fun e w' => e = .returned (.int .i64 (withE n name id)) ∧ Below w.heap.size w w' := by
  have HB1 := Lib.hid (ba w (.cells (ndC n vd ve) 25))
  have HK1 := Lib.hid (Blk.new w 25 (ndC n vd ve))
  have HE := Lib.hid (box_ents (vd := vd) he)
  have HW := Lib.hid (withE_eq n name id)
  obtain ⟨A1, c1, rfl⟩ := bytes_form hd rfl
  obtain ⟨A2, c2, rfl⟩ := ents_form he rfl
  clear hd he
  generalize withE n name id = X at HW ⊢
  unfold nodeV
  by_cases h1 : n.kind = 2
  · have k1 : (n.kind != 2) = false := by simpa using h1
    rw [if_neg (fun h => h h1)] at HW
    clear h1
    by_cases h2 : id < 1
    · rw [if_pos h2] at HW
      go_enter Try.func21, Try.ntmps21
      go_wp2
      go_ret
      exact ⟨ret_int HW.out.symm, HB1.out⟩
    · rw [if_neg h2] at HW
      have HN := Lib.hid (fun W => nameFault_any name W hs)
      obtain ⟨F, hF⟩ : ∃ F, nmF name = F := ⟨_, rfl⟩
      rw [hF] at HN HW
      clear hF
      by_cases h3 : F = 0
      · subst h3
        rw [if_neg (fun h => h rfl)] at HW
        have HP := Lib.hid (fun W hb => placeOf_any (.slice A2 n.ents.length c2) n.ents name W (HE.out.below hb) (by omega))
        have hmem := plc_mem name n.ents
        unfold plcI at HP
        generalize n.ents.findIdx (isN name) = k at HP hmem
        by_cases h4 : k < n.ents.length
        · have HP2 := Lib.hid (show ∀ W, Below _ _ W → Calls Try.prog 28 #[.slice A2 n.ents.length c2, .string (bA name)] W fun e w' => e = .returned (.int .i64 (k : Int)) ∧ Below W.heap.size W w' by have := HP.out; rw [if_pos h4] at this; exact this)
          rw [if_pos (hmem.1 h4)] at HW
          clear hmem HP h4
          go_enter Try.func21, Try.ntmps21
          go_wp2_with fail
          refine (HN.out _).mono ?_
          rintro e w2 ⟨rfl, hb2⟩
          obtain ⟨p0, p1, p2, p3, p4, p5, p6⟩ := (HK1.out.below hb2).c7
          have HB2 := Lib.hid hb2
          clear hb2
          go_wp2_with fail
          refine (HP2.out _ HB2.out).mono ?_
          rintro e w3 ⟨rfl, hb3⟩
          have HB3 := Lib.hid (bt hb3 HB2.out)
          clear p0 p1 p2 p3 p4 p5 p6
          obtain ⟨p0, p1, p2, p3, p4, p5, p6⟩ := (HK1.out.below HB3.out).c7
          clear hb3
          go_wp2
          go_ret
          exact ⟨ret_int HW.out.symm, bt HB3.out HB1.out⟩
        · have HP2 := Lib.hid (show ∀ W, Below _ _ W → Calls Try.prog 28 #[.slice A2 n.ents.length c2, .string (bA name)] W fun e w' => e = .returned (.int .i64 (-1)) ∧ Below W.heap.size W w' by have := HP.out; rw [if_neg h4] at this; exact this)
          rw [if_neg (fun h => h4 (hmem.2 h))] at HW
          clear hmem HP h4
          by_cases h5 : 8 ≤ n.ents.length
          · rw [if_pos h5] at HW
            have h5' : (8 : Int) ≤ (n.ents.length : Int) := by omega
            clear h5
            go_enter Try.func21, Try.ntmps21
            go_wp2_with fail
            refine (HN.out _).mono ?_
            rintro e w2 ⟨rfl, hb2⟩
            obtain ⟨p0, p1, p2, p3, p4, p5, p6⟩ := (HK1.out.below hb2).c7
            have HB2 := Lib.hid hb2
            clear hb2
            go_wp2_with fail
            refine (HP2.out _ HB2.out).mono ?_
            rintro e w3 ⟨rfl, hb3⟩
            have HB3 := Lib.hid (bt hb3 HB2.out)
            clear p0 p1 p2 p3 p4 p5 p6
            obtain ⟨p0, p1, p2, p3, p4, p5, p6⟩ := (HK1.out.below HB3.out).c7
            clear hb3
            go_wp2
            go_ret
            exact ⟨ret_int HW.out.symm, bt HB3.out HB1.out⟩
          · rw [if_neg h5] at HW
            have h5' : ¬ (8 : Int) ≤ (n.ents.length : Int) := by omega
            clear h5
            go_enter Try.func21, Try.ntmps21
            go_wp2_with fail
            refine (HN.out _).mono ?_
            rintro e w2 ⟨rfl, hb2⟩
            obtain ⟨p0, p1, p2, p3, p4, p5, p6⟩ := (HK1.out.below hb2).c7
            have HB2 := Lib.hid hb2
            clear hb2
            go_wp2_with fail
            refine (HP2.out _ HB2.out).mono ?_
            rintro e w3 ⟨rfl, hb3⟩
            have HB3 := Lib.hid (bt hb3 HB2.out)
            clear p0 p1 p2 p3 p4 p5 p6
            obtain ⟨p0, p1, p2, p3, p4, p5, p6⟩ := (HK1.out.below HB3.out).c7
            clear hb3
            go_wp2
            go_ret
            exact ⟨ret_int HW.out.symm, bt HB3.out HB1.out⟩
      · have k3 : (F != 0) = true := by simpa using h3
        rw [if_pos h3] at HW
        clear h3
        go_enter Try.func21, Try.ntmps21
        go_wp2_with fail
        refine (HN.out _).mono ?_
        rintro e w2 ⟨rfl, hb2⟩
        obtain ⟨p0, p1, p2, p3, p4, p5, p6⟩ := (HK1.out.below hb2).c7
        have HB2 := Lib.hid hb2
        clear hb2
        go_wp2
        go_ret
        exact ⟨ret_int HW.out.symm, bt HB2.out HB1.out⟩
  · have k1 : (n.kind != 2) = true := by simpa using h1
    rw [if_pos h1] at HW
    clear h1
    go_enter Try.func21, Try.ntmps21
    go_wp2
    go_ret
    exact ⟨ret_int HW.out.symm, HB1.out⟩
theorem insert_any (v : Value) (l : List En) (B : Nat) (k : Nat) (e : En) (vb : Nat) (w : World) (hX : EntsX w B v l) (hk : k ≤ l.length) (hn : l.length ≤ 1000) (hB : B ≤ w.heap.size) (h0 : w.cell? ⟨vb, 0, none⟩ = some (.string (bA e.1))) (h1 : w.cell? ⟨vb, 1, none⟩ = some (.int .i64 e.2)) :
    Calls Try.prog 23 #[v, .int .i64 (k : Int), .slice (some ⟨vb, 0, none⟩) 1 1] w fun e' w' => ∃ v', e' = .returned v' ∧ EntsT w' v' (l.take k ++ e :: l.drop k) ∧ w.grownBy w' v.ownBlock := by
  by_cases hkl : k = l.length
  · subst hkl
    rw [List.take_length, List.drop_length]
    exact insert_end v l B e vb w hX hn hB h0 h1
  · rcases hX with ⟨-, rfl⟩ | ⟨g, -, rfl, -, hb⟩
    · simp at hk hkl
      omega
    · exact (insert_mid g l k e vb w hb (by omega) hn h0 h1).mono fun e' w' ⟨v', a, b, c⟩ => ⟨v', a, b, grown_of_below c _⟩
section
variable {w w' w0 : World} {B B' g : Nat} {v ve vd : Value} {l : List En} {d : List UInt8} {t : TypeId} {cs : Array Value}
theorem EntsX.ne (h : EntsX w B v l) (hk : Blk w g t cs) (ht : t ≠ 49) : v.ownBlock ≠ some g := by
  rcases h with ⟨rfl, -⟩ | ⟨g', -, rfl, -, h4⟩
  · simp [Value.ownBlock]
  · intro he
    have : g' = g := by simpa [Value.ownBlock] using he
    subst this
    unfold Blk at hk h4
    rw [hk] at h4
    injection h4 with h4
    injection h4 with _ h4
    exact ht h4
theorem EntsX.at_least (h : EntsX w B v l) (q : Nat) (hq : v.ownBlock = some q) : B ≤ q := by
  rcases h with ⟨rfl, -⟩ | ⟨g', h1, rfl, -⟩
  · simp [Value.ownBlock] at hq
  · have : g' = q := by simpa [Value.ownBlock] using hq
    omega
theorem EntsX.blk (h : EntsX w B v l) (hk : Blk w g t cs) (ht : t ≠ 49) (hg : w.grownBy w' v.ownBlock) : Blk w' g t cs := hk.kept hg (fun e => h.ne hk ht e.symm)
theorem EntsX.bytes (h : EntsX w B v l) (hd : BytesX w B' vd d) (hg : w.grownBy w' v.ownBlock) : BytesX w' B' vd d := by
  rcases hd with hd | ⟨g', h1, h2, h3⟩
  · exact .inl hd
  · exact .inr ⟨g', h1, h2, h.blk h3 (by decide) hg⟩
theorem EntsX.low (h : EntsX w B v l) (hb : Below w0.heap.size w0 w) (hB : w0.heap.size ≤ B) (hg : w.grownBy w' v.ownBlock) : Below w0.heap.size w0 w' :=
  hb.grown hg hb.size (fun q hq => Nat.le_trans hB (h.at_least q hq))
end
end Go.Proofs.Ytibmnafnandodaa
