/-
  What the reference's Parse answers of a text: its clauses, or that it has none.
-/
import Derived.Test.YtbjajipeiigodaaDoorOne
import Derived.Test.YtbjajipeiigodaaDoorParse
namespace Go.Proofs.YtbjajipeiigodaaDoor
open Go Go.RowKit

/-- The pieces from a place on. -/
def pcs (L : List UInt8) (f : Nat) : List (List UInt8) := if f ≤ L.length then pieces (L.drop f) else []
theorem pieces_split (p r : List UInt8) (h : ∀ c ∈ p, c ≠ 44) : pieces (p ++ 44 :: r) = p :: pieces r := by
  rw [pieces_comma, pieces_none p h]; rfl
theorem pcs_comma (L : List UInt8) (f i : Nat) (hfi : f ≤ i) (hi : i ≤ L.length) (hno : ∀ c ∈ (L.drop f).take (i - f), c ≠ 44) (hc : ∀ c, L[i]? = some c → c = 44) : pcs L f = (L.drop f).take (i - f) :: pcs L (i + 1) := by
  unfold pcs
  rw [if_pos (by omega)]
  by_cases hlt : i < L.length
  · rw [if_pos (by omega)]
    have h1 : L.drop f = (L.drop f).take (i - f) ++ 44 :: L.drop (i + 1) := by
      conv => lhs; rw [← List.take_append_drop (i - f) (L.drop f)]
      rw [List.drop_drop, show f + (i - f) = i by omega, List.drop_eq_getElem_cons hlt, hc _ (List.getElem?_eq_getElem hlt)]
    conv => lhs; rw [h1]
    exact pieces_split _ _ hno
  · rw [if_neg (by omega)]
    have h1 : (L.drop f).take (i - f) = L.drop f := List.take_of_length_le (by rw [List.length_drop]; omega)
    rw [h1] at hno ⊢
    exact pieces_none _ hno
def RPPost (o : Option (List CC)) (w : World) (e : Ending) (w' : World) : Prop := Below w.heap.size w w' ∧ match o with
  | none => e = .returned (.tuple #[.slice none 0 0, .bool false])
  | some cs => ∃ A n c, e = .returned (.tuple #[.slice A n c, .bool true]) ∧ ClsR w' (.slice A n c) cs
/-- Ahead of a round. -/
def RR (w : World) (v : Value) (l : List (CC × Value)) (wr : World) : Prop :=
  Below w.heap.size w wr ∧ wr.ownsRow w.heap.size 73 2 v l.length (cCells l) ∧ ∀ p ∈ l, ∃ B, wr.ownsRow B 76 3 p.2 p.1.acts.length (aCells p.1.acts)
set_option maxRecDepth 100000 in
set_option maxHeartbeats 8000000 in
theorem rparse_any (s : ByteArray) (w : World) (hs : s.size ≤ 100000) : Calls Tryd.prog 16 #[.string s] w (RPPost (parseC s.data.toList) w) := by
  obtain ⟨O, hO⟩ : ∃ O, parseC s.data.toList = O := ⟨_, rfl⟩
  have HO := Lib.hid hO
  rw [hO]
  clear hO
  obtain ⟨T, hT⟩ : ∃ T : ByteArray, s ++ (⟨#[44]⟩ : ByteArray) = T := ⟨_, rfl⟩
  have hTl : T.data.toList = s.data.toList ++ [44] := by rw [← hT, ByteArray.data_append, Array.toList_append]
  have hTs : T.size = s.size + 1 := by rw [len_of2 hTl, List.length_append, lenL]; rfl
  have HTL := Lib.hid hTl
  have HTS := Lib.hid hTs
  have hTb : T.size ≤ 100001 := by omega
  clear hTl hTs
  go_enter Tryd.func16, Tryd.ntmps16
  go_wp2
  go_loopg [4, 6, 7] T.size (fun g s4 s6 s7 wr => ∃ (i f : Nat) (l : List (CC × Value)), s7 = .int .i64 i ∧ s6 = .int .i64 f ∧ i ≤ T.size ∧ f ≤ i ∧ g = T.size - i ∧ l.length ≤ i ∧ (i = T.size → f = i) ∧ (∀ c ∈ (s.data.toList.drop f).take (i - f), c ≠ 44) ∧ parseC s.data.toList = (allC (pcs s.data.toList f)).map (l.map (·.1) ++ ·) ∧ RR w s4 l wr)
  case atStart => exact ⟨0, 0, [], rfl, rfl, Nat.zero_le _, Nat.le_refl _, rfl, Nat.zero_le _, fun h => by have := HTS.out; omega, by simp, by simp [pcs, parseC], Below.refl _ _, World.ownsRow_nil _ _ _ _, by simp⟩
  case round =>
    obtain ⟨i, f, l, rfl, rfl, hi, hfi, rfl, hll, hlast, hno, hpar, hR⟩ := hrel
    obtain ⟨v, rfl⟩ : ∃ v, v = u4 := ⟨_, rfl⟩
    have HR := Lib.hid hR
    have HNO := Lib.hid hno
    have HPAR := Lib.hid hpar
    have HLAST := Lib.hid hlast
    have hw0 : w.heap.size ≤ wr.heap.size := hR.1.size
    clear hno hpar hlast hR
    by_cases hlt : i < T.size
    · obtain ⟨c, hci⟩ : ∃ c, T[i] = c := ⟨_, rfl⟩
      have hck : T.data.toList[i]? = some c := by rw [← hci]; exact List.getElem?_eq_getElem (by simpa using hlt)
      have hiL : i ≤ s.size := by have := HTS.out; omega
      have hLc : ∀ d, s.data.toList[i]? = some d → d = c := by
        intro d hd
        have h1 := (List.getElem?_eq_some_iff.1 hd).1
        rw [HTL.out, List.getElem?_append_left h1, hd] at hck
        injection hck
      have hend : ¬ i < s.size → c = 44 := by
        intro h
        rw [HTL.out, List.getElem?_append_right (by rw [lenL]; omega), lenL, show i - s.size = 0 by omega] at hck
        simpa using hck.symm
      clear hck
      by_cases hc44 : c = 44
      · have hq : ((c.toNat : Int) != 44) = false := by rw [hc44]; rfl
        obtain ⟨pc, hpc, hrun⟩ := piece_run T f i (f : Int) (i : Int) rfl rfl hfi (by omega)
        have hpp : (T.data.toList.drop f).take (i - f) = (s.data.toList.drop f).take (i - f) := by
          rw [HTL.out, List.drop_append_of_le_length (by rw [lenL]; omega), List.take_append_of_le_length (by rw [List.length_drop, lenL]; omega)]
        rw [hpp] at hpc
        have hpz : pc.size ≤ 1000000 := by rw [len_of2 hpc, List.length_take, List.length_drop, lenL]; omega
        have H1 := Lib.hid (fun w => one_any pc w hpz)
        rw [hpc] at H1
        have HSP := Lib.hid (pcs_comma s.data.toList f i hfi (by rw [lenL]; omega) HNO.out (fun d hd => (hLc d hd).trans hc44))
        have hpl : ((s.data.toList.drop f).take (i - f)).length ≤ 100000 := by rw [List.length_take, List.length_drop, lenL]; omega
        clear hpc hpp hLc hend hc44
        cases ho : oneC ((s.data.toList.drop f).take (i - f)) with
        | none =>
          rw [ho] at H1
          unfold OnePost at H1
          simp only at H1
          obtain rfl : O = none := by
            rw [← HO.out, HPAR.out, HSP.out, allC, ho]; rfl
          clear ho
          go_wp2_with fail
          refine (H1.out _).mono ?_
          rintro e w2 ⟨hb2, x, A, n, cc, rfl⟩
          have B2 := Lib.hid ((HR.out.1.trans (hb2.mono hw0)).alloc (Nat.le_trans hw0 hb2.size) (.cells #[.int .i64 x, .slice A n cc] 73))
          clear hb2
          go_wp2
          go_ret2
          exact ⟨B2.out, rfl⟩
        | some cc =>
          rw [ho] at H1
          unfold OnePost at H1
          simp only at H1
          have HOC := Lib.hid ho
          have hca := oneC_acts ho
          obtain ⟨who, acts⟩ := cc
          simp only at H1 hca
          clear ho
          go_wp2_with fail
          refine (H1.out _).mono ?_
          rintro e w2 ⟨hb2, A, n, c', B, rfl, hB, hown⟩
          have B2 := Lib.hid hb2
          have HW2 := Lib.hid hown
          have HIB := Lib.hid ((HR.out.2.1.kept (grown_of_below hb2 none) (by cases hv : v.ownBlock <;> simp)).alloc (.cells #[.int .i64 who, .slice A n c'] 73))
          have hz2 : wr.heap.size ≤ w2.heap.size := hb2.size
          clear hb2 hown
          go_wp2_with (at_builtin; refine wpList_append_one rfl (.tmp 32) (.tmp 34) _ rfl w.heap.size 73 _ 2 32 Tryd.underlying27 info_C rfl (by decide) v l.length (cCells l) rfl (w2.alloc _) [.int .i64 who, .slice A n c'] rfl (cl_one who _ rfl) HIB.out (slice_next w2 _) (by omega) (by omega) (by simp; omega) ?_; intro v' w' ho hg; have HO2 := Lib.hid ho; have HG := Lib.hid hg; clear ho hg)
          go_roundg (T.size - (i + 1))
          case measure => omega
          case rel =>
            have far : ∀ B x n xs, w2.ownsRow B 76 3 x n xs → w'.ownsRow B 76 3 x n xs := fun B x n xs hx => (hx.alloc _).kept HG.out (own_ne (hx.alloc _) HIB.out (by decide))
            refine ⟨i + 1, i + 1, l ++ [(⟨who, acts⟩, .slice A n c')], by go_num, by go_num, by omega, Nat.le_refl _, rfl, by rw [List.length_append, List.length_singleton]; omega, fun _ => rfl, by simp, ?_, ?_, ?_, ?_⟩
            · rw [HPAR.out, HSP.out, allC, HOC.out]
              simp only [Option.map_map]
              congr 1
              funext z
              simp
            · have h1 := (HR.out.1.trans (B2.out.mono hw0)).alloc (Nat.le_trans hw0 hz2) (.cells #[.int .i64 who, .slice A n c'] 73)
              exact h1.grown HG.out h1.size (fun q hq => (HIB.out.lt q hq).1)
            · rw [cCells_snoc, List.length_append]; exact HO2.out
            · intro p hp
              rcases List.mem_append.1 hp with hp | hp
              · obtain ⟨B', hB'⟩ := HR.out.2.2 p hp
                exact ⟨B', far _ _ _ _ (hB'.kept (grown_of_below B2.out none) (by cases hv : p.2.ownBlock <;> simp))⟩
              · rw [List.mem_singleton] at hp
                subst hp
                exact ⟨B, far _ _ _ _ HW2.out⟩
      · have hq : ((c.toNat : Int) != 44) = true := by
          rw [bne_iff_ne]
          intro e
          apply hc44
          exact UInt8.toNat_inj.1 (by show c.toNat = 44; omega)
        have his : i < s.size := by
          rcases Nat.lt_or_ge i s.size with h | h
          · exact h
          · exact absurd (hend (by omega)) hc44
        have HN2 := Lib.hid (show ∀ d ∈ (s.data.toList.drop f).take (i + 1 - f), d ≠ 44 by
          intro d hd
          rw [show i + 1 - f = (i - f) + 1 by omega] at hd
          have h1 : (s.data.toList.drop f)[i - f]? = some c := by
            rw [List.getElem?_drop, show f + (i - f) = i by omega]
            have h2 : s.data.toList[i]? = some (s.data.toList[i]'(by simpa using his)) := List.getElem?_eq_getElem _
            rw [h2, hLc _ h2]
          rw [take_snoc' h1] at hd
          rcases List.mem_append.1 hd with hd | hd
          · exact HNO.out d hd
          · rw [List.mem_singleton] at hd
            rw [hd]; exact hc44)
        clear hLc hend hc44
        go_wp2
        go_roundg (T.size - (i + 1))
        case measure => omega
        case rel => exact ⟨i + 1, f, l, by go_num, rfl, by omega, by omega, rfl, by omega, fun h => by have := HTS.out; omega, HN2.out, HPAR.out, HR.out⟩
    · have hfe : f = i := HLAST.out (by omega)
      obtain rfl : O = some (l.map (·.1)) := by
        have hTS := HTS.out
        rw [← HO.out, HPAR.out, pcs, if_neg (by rw [lenL]; omega)]
        simp [allC]
      have HCL := Lib.hid (ClsR.of_own HR.out.2.1 (fun p hp => by obtain ⟨B, hB⟩ := HR.out.2.2 p hp; exact ActsR.of_own hB))
      obtain ⟨A, cv, rfl, -⟩ := HCL.out
      clear hfe
      go_wp2
      go_ret2
      exact ⟨HR.out.1, _, _, _, rfl, HCL.out⟩
end Go.Proofs.YtbjajipeiigodaaDoor
