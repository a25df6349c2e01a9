/-
  Put and Add where a node's names are of any length. The conditions: a thousand entries, and bytes, at most. Acts on a table: small and play of stage 18. The conditions: no list of acts, and no name, is longer than a machine can hold. The walk of ChangeSame: it answers true of whatever is told and whatever acts; with what is said of package sys's example. The conditions: what is told, the acts and their names are no longer than a machine can hold.
-/
import Derived.Test.YtnkjaocmfhjnoaaGreatE3
import Derived.Test.YtnkjaocmfhjnoaaGreatE17
import Derived.Test.YtnkjaocmfhjnoaaGreatE21
import Derived.Deep.RegionWith
import Derived.Deep.DeepCutAuto
namespace Go.Proofs.YtnkjaocmfhjnoaaGreat
open Go Go.RowKit
set_option maxRecDepth 100000

attribute [local go_sem] cell_off4 cell_blk4
structure FewB (n : Nd) : Prop where
  data : n.data.length ≤ 1000
  ents : n.ents.length ≤ 1000
  names : ∀ e ∈ n.ents, e.1.length ≤ maxLen
  target : n.target.length ≤ 1000
set_option maxRecDepth 100000 in
set_option maxHeartbeats 4000000 in
theorem entsRight_big (v : Value) (l : List En) (w : World) (hR : EntsR w v l) (hn : l.length ≤ 1000) (hsz : ∀ e ∈ l, e.1.length ≤ maxLen) :
    Calls Tryz.prog 86 #[v] w fun e w' => e = .returned (.bool (toB (entsP l))) ∧ Below w.heap.size w w' := by
  obtain ⟨A, c, rfl⟩ := ents_form hR rfl
  have HR := Lib.hid hR
  clear hR
  by_cases h8 : l.length ≤ 8
  · have h8' : ¬ (8 : Int) < (l.length : Int) := by omega
    have HY := Lib.hid (show gdP l → toB (entsP l) = true from fun h => toB_true ⟨h.1, h.2, h8⟩)
    have HN1 := Lib.hid (fun (k : Nat) (e : En) (he : l[k]? = some e) (h : nok e.1 = false) => show toB (entsP l) = false from toB_false (fun hp => by rw [(hp.1 e (List.mem_of_getElem? he)).1] at h; cases h))
    have HN2 := Lib.hid (fun (k : Nat) (e : En) (he : l[k]? = some e) (h : e.2 < 1) => show toB (entsP l) = false from toB_false (fun hp => by have := (hp.1 e (List.mem_of_getElem? he)).2; omega))
    have HN3 := Lib.hid (fun (k : Nat) (e p : En) (hk : 0 < k) (he : l[k]? = some e) (hp : l[k - 1]? = some p) (h : lss p.1 e.1 = false) => show toB (entsP l) = false from toB_false (fun hp2 => by
      have := adj_rise hp2.2.1 (k - 1) p.1 e.1 (nmE_at hp) (by rw [show k - 1 + 1 = k by omega]; exact nmE_at he)
      rw [this] at h
      cases h))
    generalize toB (entsP l) = X at HY HN1 HN2 HN3 ⊢
    go_enter Tryz.func86, Tryz.ntmps86
    go_wp2
    go_loopg [10] l.length (fun g s10 wr => ∃ k : Nat, s10 = .int .i64 k ∧ k ≤ l.length ∧ g = l.length - k ∧ gdP (l.take k) ∧ Below w.heap.size w wr)
    case atStart => exact ⟨0, rfl, Nat.zero_le _, rfl, gdP_nil, Below.refl _ _⟩
    case round =>
      obtain ⟨k, rfl, hk, rfl, hgd, hbr⟩ := hrel
      have HGD := Lib.hid hgd
      have HB := Lib.hid hbr
      clear hgd hbr
      by_cases hlt : k < l.length
      · obtain ⟨e, he⟩ : ∃ e, l[k]? = some e := ⟨_, List.getElem?_eq_getElem hlt⟩
        obtain ⟨ad, rfl, c0, c1⟩ := ents_get (HR.out.below HB.out) he
        have HE := Lib.hid he
        have HNM := Lib.hid (fun W => Name_any (bA e.1) W (by rw [size_bA]; exact hsz e (List.mem_of_getElem? he)))
        rw [nam_nok, tl_bA] at HNM
        clear he
        obtain ⟨NK, hNK⟩ : ∃ NK, nok e.1 = NK := ⟨_, rfl⟩
        rw [hNK] at HNM
        have HK := Lib.hid hNK
        clear hNK
        have hbA := ba wr (.cells #[.string (bA e.1), .int .i64 e.2] 126)
        have HBA := Lib.hid (bt hbA HB.out)
        have hadl : (ad.add (k * 2)).block < wr.heap.size := World.block_lt_of_cell? _ _ c0
        cases NK with
        | false =>
          go_wp2_with fail
          refine (HNM.out _).mono ?_
          rintro e3 w3 ⟨rfl, rfl⟩
          go_wp2
          go_ret
          exact ⟨ret_bool (HN1.out k e HE.out HK.out).symm, HBA.out⟩
        | true =>
          by_cases h2 : e.2 < 1
          · go_wp2_with fail
            refine (HNM.out _).mono ?_
            rintro e3 w3 ⟨rfl, rfl⟩
            go_wp2
            go_ret
            exact ⟨ret_bool (HN2.out k e HE.out h2).symm, HBA.out⟩
          · by_cases h0 : k = 0
            · have hk0 : decide (0 < k) = false := by simp; omega
              have hk1 : ¬ (0 : Int) < (k : Int) := by omega
              have HK0 := Lib.hid h0
              clear h0
              go_wp2_with fail
              refine (HNM.out _).mono ?_
              rintro e3 w3 ⟨rfl, rfl⟩
              have HH2 := Lib.hid h2
              go_wp2_with fail
              go_quiet (fail)
              go_wp2
              go_roundg (l.length - (k + 1))
              case measure => omega
              case rel => exact ⟨k + 1, by go_num, by omega, rfl, gdP_snoc HE.out HGD.out HK.out (by have := HH2.out; omega) (.inl HK0.out), bdN HBA.out _⟩
            · obtain ⟨p, hp⟩ : ∃ p, l[k - 1]? = some p := ⟨_, List.getElem?_eq_getElem (by omega)⟩
              obtain ⟨ad2, hA2, d0, d1⟩ := ents_get (HR.out.below HB.out) hp
              injection hA2 with hA2
              subst hA2
              have HP := Lib.hid hp
              clear hp
              have d0' := bc hbA d0
              obtain ⟨j, hj⟩ : ∃ j, j = k - 1 := ⟨_, rfl⟩
              rw [← hj] at d0 d1 d0' HP
              have kj1 : (k : Int) - 1 = (j : Int) := by omega
              have kj2 : IntKind.i64.wrap ((k : Int) - 1) = (j : Int) := by rw [IntKind.wrap_i64]; omega
              have kj3 : (j : Int) < (l.length : Int) := by omega
              have kj4 : j < l.length := by omega
              have hk0 : decide (0 < k) = true := by simp; omega
              have hk1 : (0 : Int) < (k : Int) := by omega
              have HJ := Lib.hid hj
              have HK0 := Lib.hid h0
              have HH2 := Lib.hid h2
              clear hj h0 d1 hbA
              by_cases hl : lss p.1 e.1 = true
              · obtain ⟨m1, m2⟩ := cmp_lt hl
                have HL := Lib.hid hl
                clear hl
                go_wp2_with fail
                refine (HNM.out _).mono ?_
                rintro e3 w3 ⟨rfl, rfl⟩
                go_wp2_with fail
                go_quiet (fail)
                go_wp2
                go_roundg (l.length - (k + 1))
                case measure => omega
                case rel => exact ⟨k + 1, by go_num, by omega, rfl, gdP_snoc HE.out HGD.out HK.out (by have := HH2.out; omega) (.inr ⟨p, by rw [← HJ.out]; exact HP.out, HL.out⟩), bdN HBA.out _⟩
              · have hl' : lss p.1 e.1 = false := by simpa using hl
                have HF := Lib.hid (HN3.out k e p (by have := HK0.out; omega) HE.out (by rw [← HJ.out]; exact HP.out) hl')
                clear hl
                rcases cmp_ge hl' with ⟨m1, m2⟩ | ⟨m1, m2⟩
                all_goals (
                  clear hl'
                  go_wp2_with fail
                  refine (HNM.out _).mono ?_
                  rintro e3 w3 ⟨rfl, rfl⟩
                  go_wp2_with fail
                  go_quiet (fail)
                  go_wp2
                  go_ret
                  exact ⟨ret_bool HF.out.symm, bdN HBA.out _⟩)
      · have hY := HY.out (by have := HGD.out; rw [List.take_of_length_le (by omega)] at this; exact this)
        have HY2 := Lib.hid hY
        clear hY
        go_wp2
        go_ret
        exact ⟨ret_bool HY2.out.symm, HB.out⟩
  · have h8' : (8 : Int) < (l.length : Int) := by omega
    have HF := Lib.hid (show toB (entsP l) = false from toB_false (fun h => h8 h.2.2))
    clear h8
    go_enter Tryz.func86, Tryz.ntmps86
    go_wp2
    go_ret
    exact ⟨ret_bool HF.out.symm, Below.refl _ _⟩
set_option maxRecDepth 100000 in
set_option maxHeartbeats 4000000 in
theorem right_big (n : Nd) (vd ve : Value) (w : World) (hd : BytesR w vd n.data) (he : EntsR w ve n.ents) (hf : FewB n) :
    Calls Tryz.prog 50 #[nodeV n vd ve] w fun e w' => e = .returned (.bool (toB (rightP n))) ∧ Below w.heap.size w w' := by
  have HB1 := Lib.hid (ba w (.cells (ndC n vd ve) 65))
  have HER := Lib.hid (fun W (hb : Below (w.alloc (.cells (ndC n vd ve) 65)).heap.size (w.alloc (.cells (ndC n vd ve) 65)) W) => entsRight_big ve n.ents W ((box_ents (vd := vd) he).below hb) hf.ents hf.names)
  have HFT := Lib.hid (fun W => Fits_any (bA n.target) W (by rw [size_bA]; have := hf.target; unfold maxLen; omega))
  rw [fit_fok, tl_bA] at HFT
  have U1 := Lib.hid (fun W => upTo_any 4095 n.mode W)
  have U2 := Lib.hid (fun W => upTo_any 65535 n.uid W)
  have U3 := Lib.hid (fun W => upTo_any 65535 n.gid W)
  obtain ⟨A1, c1, rfl⟩ := bytes_form hd rfl
  obtain ⟨A2, c2, rfl⟩ := ents_form he rfl
  have hdl := hf.data
  have hel := hf.ents
  clear hd he hf
  unfold nodeV
  obtain ⟨u1, hu1⟩ : ∃ u, upB 4095 n.mode = u := ⟨_, rfl⟩
  obtain ⟨u2, hu2⟩ : ∃ u, upB 65535 n.uid = u := ⟨_, rfl⟩
  obtain ⟨u3, hu3⟩ : ∃ u, upB 65535 n.gid = u := ⟨_, rfl⟩
  rw [hu1] at U1
  rw [hu2] at U2
  rw [hu3] at U3
  cases u1 with
  | false =>
    have HX := Lib.hid (show toB (rightP n) = false from toB_false (fun h => upB_not hu1 h.1.1))
    clear hu1 hu2 hu3
    generalize toB (rightP n) = X at HX ⊢
    go_enter Tryz.func50, Tryz.ntmps50
    go_wp2_with fail
    refine (U1.out _).mono ?_
    rintro e w' ⟨rfl, rfl⟩
    go_wp2
    go_ret
    exact ⟨ret_bool (by first | exact HX.out.symm | exact (decide_eq_false (by omega)).trans HX.out.symm), HB1.out⟩
  | true =>
    cases u2 with
    | false =>
      have HX := Lib.hid (show toB (rightP n) = false from toB_false (fun h => upB_not hu2 h.1.2.1))
      clear hu1 hu2 hu3
      generalize toB (rightP n) = X at HX ⊢
      go_enter Tryz.func50, Tryz.ntmps50
      go_wp2_with fail
      refine (U1.out _).mono ?_
      rintro e w' ⟨rfl, rfl⟩
      go_wp2_with fail
      refine (U2.out _).mono ?_
      rintro e w' ⟨rfl, rfl⟩
      go_wp2
      go_ret
      exact ⟨ret_bool (by first | exact HX.out.symm | exact (decide_eq_false (by omega)).trans HX.out.symm), HB1.out⟩
    | true =>
      cases u3 with
      | false =>
        have HX := Lib.hid (show toB (rightP n) = false from toB_false (fun h => upB_not hu3 h.1.2.2))
        clear hu1 hu2 hu3
        generalize toB (rightP n) = X at HX ⊢
        go_enter Tryz.func50, Tryz.ntmps50
        go_wp2_with fail
        refine (U1.out _).mono ?_
        rintro e w' ⟨rfl, rfl⟩
        go_wp2_with fail
        refine (U2.out _).mono ?_
        rintro e w' ⟨rfl, rfl⟩
        go_wp2_with fail
        refine (U3.out _).mono ?_
        rintro e w' ⟨rfl, rfl⟩
        go_wp2
        go_ret
        exact ⟨ret_bool (by first | exact HX.out.symm | exact (decide_eq_false (by omega)).trans HX.out.symm), HB1.out⟩
      | true =>
        have hH : headP n := ⟨upB_iff.1 hu1, upB_iff.1 hu2, upB_iff.1 hu3⟩
        clear hu1 hu2 hu3
        by_cases k1 : n.kind = 1
        · have hk : (n.kind == 1) = true := by simpa using k1
          have hX : rightP n ↔ n.ents = [] ∧ n.target = [] ∧ n.data.length ≤ 48 := by
            constructor
            · rintro ⟨-, h | h | h⟩
              · exact h.2
              · omega
              · omega
            · exact fun h => ⟨hH, .inl ⟨k1, h⟩⟩
          clear hH k1
          by_cases e1 : n.ents = []
          · have q1 := int0 e1
            by_cases e2 : n.target = []
            · have q2 := eq_nil_of _ e2
              by_cases e3 : n.data.length ≤ 48
              · have q3 : (n.data.length : Int) ≤ 48 := by omega
                have HX := Lib.hid (show toB (rightP n) = true from toB_true (hX.2 ⟨e1, e2, e3⟩))
                clear hX e1 e2 e3
                generalize toB (rightP n) = X at HX ⊢
                go_enter Tryz.func50, Tryz.ntmps50
                go_wp2_with fail
                refine (U1.out _).mono ?_
                rintro e w' ⟨rfl, rfl⟩
                go_wp2_with fail
                refine (U2.out _).mono ?_
                rintro e w' ⟨rfl, rfl⟩
                go_wp2_with fail
                refine (U3.out _).mono ?_
                rintro e w' ⟨rfl, rfl⟩
                go_wp2
                go_ret
                exact ⟨ret_bool (by first | exact HX.out.symm | exact (decide_eq_false (by omega)).trans HX.out.symm), HB1.out⟩
              · have q3 : ¬ (n.data.length : Int) ≤ 48 := by omega
                have HX := Lib.hid (show toB (rightP n) = false from toB_false (fun h => e3 (hX.1 h).2.2))
                clear hX e1 e2 e3
                generalize toB (rightP n) = X at HX ⊢
                go_enter Tryz.func50, Tryz.ntmps50
                go_wp2_with fail
                refine (U1.out _).mono ?_
                rintro e w' ⟨rfl, rfl⟩
                go_wp2_with fail
                refine (U2.out _).mono ?_
                rintro e w' ⟨rfl, rfl⟩
                go_wp2_with fail
                refine (U3.out _).mono ?_
                rintro e w' ⟨rfl, rfl⟩
                go_wp2
                go_ret
                exact ⟨ret_bool (by first | exact HX.out.symm | exact (decide_eq_false (by omega)).trans HX.out.symm), HB1.out⟩
            · have q2 := ne_nil_of _ e2
              have HX := Lib.hid (show toB (rightP n) = false from toB_false (fun h => e2 (hX.1 h).2.1))
              clear hX e1 e2
              generalize toB (rightP n) = X at HX ⊢
              go_enter Tryz.func50, Tryz.ntmps50
              go_wp2_with fail
              refine (U1.out _).mono ?_
              rintro e w' ⟨rfl, rfl⟩
              go_wp2_with fail
              refine (U2.out _).mono ?_
              rintro e w' ⟨rfl, rfl⟩
              go_wp2_with fail
              refine (U3.out _).mono ?_
              rintro e w' ⟨rfl, rfl⟩
              go_wp2
              go_ret
              exact ⟨ret_bool (by first | exact HX.out.symm | exact (decide_eq_false (by omega)).trans HX.out.symm), HB1.out⟩
          · have q1 := int1 e1
            have HX := Lib.hid (show toB (rightP n) = false from toB_false (fun h => e1 (hX.1 h).1))
            clear hX e1
            generalize toB (rightP n) = X at HX ⊢
            go_enter Tryz.func50, Tryz.ntmps50
            go_wp2_with fail
            refine (U1.out _).mono ?_
            rintro e w' ⟨rfl, rfl⟩
            go_wp2_with fail
            refine (U2.out _).mono ?_
            rintro e w' ⟨rfl, rfl⟩
            go_wp2_with fail
            refine (U3.out _).mono ?_
            rintro e w' ⟨rfl, rfl⟩
            go_wp2
            go_ret
            exact ⟨ret_bool (by first | exact HX.out.symm | exact (decide_eq_false (by omega)).trans HX.out.symm), HB1.out⟩
        · have hk : (n.kind == 1) = false := by simpa using k1
          by_cases k2 : n.kind = 2
          · have hk2 : (n.kind == 2) = true := by simpa using k2
            have hX : rightP n ↔ n.data = [] ∧ n.target = [] ∧ entsP n.ents := by
              constructor
              · rintro ⟨-, h | h | h⟩
                · omega
                · exact h.2
                · omega
              · exact fun h => ⟨hH, .inr (.inl ⟨k2, h⟩)⟩
            clear hH k1 k2
            by_cases e1 : n.data = []
            · have q1 := int0 e1
              by_cases e2 : n.target = []
              · have q2 := eq_nil_of _ e2
                have HX := Lib.hid (show toB (rightP n) = toB (entsP n.ents) by
                  by_cases h : entsP n.ents
                  · rw [toB_true h, toB_true (hX.2 ⟨e1, e2, h⟩)]
                  · rw [toB_false h, toB_false (fun h2 => h (hX.1 h2).2.2)])
                clear hX e1 e2
                generalize toB (entsP n.ents) = Y at HX HER
                generalize toB (rightP n) = X at HX ⊢
                go_enter Tryz.func50, Tryz.ntmps50
                go_wp2_with fail
                refine (U1.out _).mono ?_
                rintro e w' ⟨rfl, rfl⟩
                go_wp2_with fail
                refine (U2.out _).mono ?_
                rintro e w' ⟨rfl, rfl⟩
                go_wp2_with fail
                refine (U3.out _).mono ?_
                rintro e w' ⟨rfl, rfl⟩
                go_wp2_with fail
                refine (HER.out _ (Below.refl _ _)).mono ?_
                rintro e w2 ⟨rfl, hb2⟩
                have HB2 := Lib.hid (bt hb2 HB1.out)
                clear hb2
                go_wp2
                go_ret
                exact ⟨ret_bool HX.out.symm, HB2.out⟩
              · have q2 := ne_nil_of _ e2
                have HX := Lib.hid (show toB (rightP n) = false from toB_false (fun h => e2 (hX.1 h).2.1))
                clear hX e1 e2
                generalize toB (rightP n) = X at HX ⊢
                go_enter Tryz.func50, Tryz.ntmps50
                go_wp2_with fail
                refine (U1.out _).mono ?_
                rintro e w' ⟨rfl, rfl⟩
                go_wp2_with fail
                refine (U2.out _).mono ?_
                rintro e w' ⟨rfl, rfl⟩
                go_wp2_with fail
                refine (U3.out _).mono ?_
                rintro e w' ⟨rfl, rfl⟩
                go_wp2
                go_ret
                exact ⟨ret_bool (by first | exact HX.out.symm | exact (decide_eq_false (by omega)).trans HX.out.symm), HB1.out⟩
            · have q1 := int1 e1
              have HX := Lib.hid (show toB (rightP n) = false from toB_false (fun h => e1 (hX.1 h).1))
              clear hX e1
              generalize toB (rightP n) = X at HX ⊢
              go_enter Tryz.func50, Tryz.ntmps50
              go_wp2_with fail
              refine (U1.out _).mono ?_
              rintro e w' ⟨rfl, rfl⟩
              go_wp2_with fail
              refine (U2.out _).mono ?_
              rintro e w' ⟨rfl, rfl⟩
              go_wp2_with fail
              refine (U3.out _).mono ?_
              rintro e w' ⟨rfl, rfl⟩
              go_wp2
              go_ret
              exact ⟨ret_bool (by first | exact HX.out.symm | exact (decide_eq_false (by omega)).trans HX.out.symm), HB1.out⟩
          · have hk2 : (n.kind == 2) = false := by simpa using k2
            by_cases k3 : n.kind = 3
            · have hk3 : (n.kind == 3) = true := by simpa using k3
              have hX : rightP n ↔ n.data = [] ∧ n.ents = [] ∧ n.mode = 511 ∧ fok n.target = true := by
                constructor
                · rintro ⟨-, h | h | h⟩
                  · omega
                  · omega
                  · exact h.2
                · exact fun h => ⟨hH, .inr (.inr ⟨k3, h⟩)⟩
              clear hH k1 k2 k3
              by_cases e1 : n.data = []
              · have q1 := int0 e1
                by_cases e2 : n.ents = []
                · have q2 := int0 e2
                  by_cases e3 : n.mode = 511
                  · have q3 : (n.mode == 511) = true := by simpa using e3
                    have HX := Lib.hid (show toB (rightP n) = fok n.target by
                      cases h : fok n.target with
                      | true => exact toB_true (hX.2 ⟨e1, e2, e3, h⟩)
                      | false => exact toB_false (fun h2 => by have := (hX.1 h2).2.2.2; rw [h] at this; cases this))
                    clear hX e1 e2 e3
                    generalize fok n.target = Y at HX HFT
                    generalize toB (rightP n) = X at HX ⊢
                    go_enter Tryz.func50, Tryz.ntmps50
                    go_wp2_with fail
                    refine (U1.out _).mono ?_
                    rintro e w' ⟨rfl, rfl⟩
                    go_wp2_with fail
                    refine (U2.out _).mono ?_
                    rintro e w' ⟨rfl, rfl⟩
                    go_wp2_with fail
                    refine (U3.out _).mono ?_
                    rintro e w' ⟨rfl, rfl⟩
                    go_wp2_with fail
                    refine (HFT.out _).mono ?_
                    rintro e w' ⟨rfl, rfl⟩
                    go_wp2
                    go_ret
                    exact ⟨ret_bool (by first | exact HX.out.symm | exact (decide_eq_false (by omega)).trans HX.out.symm), HB1.out⟩
                  · have q3 : (n.mode == 511) = false := by simpa using e3
                    have HX := Lib.hid (show toB (rightP n) = false from toB_false (fun h => e3 (hX.1 h).2.2.1))
                    clear hX e1 e2 e3
                    generalize toB (rightP n) = X at HX ⊢
                    go_enter Tryz.func50, Tryz.ntmps50
                    go_wp2_with fail
                    refine (U1.out _).mono ?_
                    rintro e w' ⟨rfl, rfl⟩
                    go_wp2_with fail
                    refine (U2.out _).mono ?_
                    rintro e w' ⟨rfl, rfl⟩
                    go_wp2_with fail
                    refine (U3.out _).mono ?_
                    rintro e w' ⟨rfl, rfl⟩
                    go_wp2
                    go_ret
                    exact ⟨ret_bool (by first | exact HX.out.symm | exact (decide_eq_false (by omega)).trans HX.out.symm), HB1.out⟩
                · have q2 := int1 e2
                  have HX := Lib.hid (show toB (rightP n) = false from toB_false (fun h => e2 (hX.1 h).2.1))
                  clear hX e1 e2
                  generalize toB (rightP n) = X at HX ⊢
                  go_enter Tryz.func50, Tryz.ntmps50
                  go_wp2_with fail
                  refine (U1.out _).mono ?_
                  rintro e w' ⟨rfl, rfl⟩
                  go_wp2_with fail
                  refine (U2.out _).mono ?_
                  rintro e w' ⟨rfl, rfl⟩
                  go_wp2_with fail
                  refine (U3.out _).mono ?_
                  rintro e w' ⟨rfl, rfl⟩
                  go_wp2
                  go_ret
                  exact ⟨ret_bool (by first | exact HX.out.symm | exact (decide_eq_false (by omega)).trans HX.out.symm), HB1.out⟩
              · have q1 := int1 e1
                have HX := Lib.hid (show toB (rightP n) = false from toB_false (fun h => e1 (hX.1 h).1))
                clear hX e1
                generalize toB (rightP n) = X at HX ⊢
                go_enter Tryz.func50, Tryz.ntmps50
                go_wp2_with fail
                refine (U1.out _).mono ?_
                rintro e w' ⟨rfl, rfl⟩
                go_wp2_with fail
                refine (U2.out _).mono ?_
                rintro e w' ⟨rfl, rfl⟩
                go_wp2_with fail
                refine (U3.out _).mono ?_
                rintro e w' ⟨rfl, rfl⟩
                go_wp2
                go_ret
                exact ⟨ret_bool (by first | exact HX.out.symm | exact (decide_eq_false (by omega)).trans HX.out.symm), HB1.out⟩
            · have hk3 : (n.kind == 3) = false := by simpa using k3
              have HX := Lib.hid (show toB (rightP n) = false from toB_false (fun h => by
                rcases h.2 with h | h | h
                · exact k1 h.1
                · exact k2 h.1
                · exact k3 h.1))
              clear hH k1 k2 k3
              generalize toB (rightP n) = X at HX ⊢
              go_enter Tryz.func50, Tryz.ntmps50
              go_wp2_with fail
              refine (U1.out _).mono ?_
              rintro e w' ⟨rfl, rfl⟩
              go_wp2_with fail
              refine (U2.out _).mono ?_
              rintro e w' ⟨rfl, rfl⟩
              go_wp2_with fail
              refine (U3.out _).mono ?_
              rintro e w' ⟨rfl, rfl⟩
              go_wp2
              go_ret
              exact ⟨ret_bool (by first | exact HX.out.symm | exact (decide_eq_false (by omega)).trans HX.out.symm), HB1.out⟩
theorem add_wrongB (v : Value) (n : Nd) (vd ve : Value) (w : World) (hd : BytesR w vd n.data) (he : EntsR w ve n.ents) (hf : FewB n) (hn : toB (rightP n) = false) :
    Calls Tryz.prog 24 #[v, nodeV n vd ve] w fun e w' => e = .returned (.tuple #[.int .i64 0, .int .i64 22]) ∧ Below w.heap.size w w' := by
  have HR := Lib.hid (fun W (hb : Below w.heap.size w W) => right_big n vd ve W (hd.below hb) (he.below hb) hf)
  rw [hn] at HR
  have HB1 := Lib.hid (ba w (.cells (ndC n vd ve) 65))
  obtain ⟨A1, c1, rfl⟩ := bytes_form hd rfl
  obtain ⟨A2, c2, rfl⟩ := ents_form he rfl
  clear hd he hf hn
  unfold nodeV
  go_enter Tryz.func24, Tryz.ntmps24
  go_wp2_with fail
  refine (HR.out _ HB1.out).mono ?_
  rintro e w3 ⟨rfl, hb3⟩
  have HB3 := Lib.hid (bt hb3 HB1.out)
  clear hb3
  go_wp2
  go_ret2
  exact ⟨rfl, HB3.out⟩
theorem right_names {n : Nd} (h : rightP n) (e : En) (he : e ∈ n.ents) : e.1.length ≤ 1000 := by
  rcases h.2 with q | q | q
  · rw [q.2.1] at he; cases he
  · have h1 := (q.2.2.2.1 e he).1
    unfold nok at h1
    simp only [Bool.and_eq_true, decide_eq_true_eq] at h1
    omega
  · rw [q.2.2.1] at he; cases he
theorem few_big {n : Nd} (hf : FewB n) (hn : rightP n) : Few n := ⟨hf.data, hf.ents, fun e he => right_names hn e he, hf.target⟩
theorem put_wrongB (v : Value) (t : List Nd) (i : Int) (n : Nd) (vd ve : Value) (w : World) (h : TabP w v t) (hi : tis t i = true) (hd : BytesR w vd n.data) (he : EntsR w ve n.ents) (hf : FewB n) (hn : toB (rightP n) = false) :
    Calls Tryz.prog 22 #[v, .int .i64 i, nodeV n vd ve] w fun e w' => e = .returned (.int .i64 22) ∧ Below w.heap.size w w' := by
  have HH := Lib.hid (fun W (hb : Below w.heap.size w W) => thas_any v t i W (h.below hb))
  rw [hi] at HH
  have HR := Lib.hid (fun W (hb : Below w.heap.size w W) => right_big n vd ve W (hd.below hb) (he.below hb) hf)
  rw [hn] at HR
  have HB1 := Lib.hid (ba w (.cells (ndC n vd ve) 65))
  have HK1 := Lib.hid (Blk.new w 65 (ndC n vd ve))
  obtain ⟨A1, c1, rfl⟩ := bytes_form hd rfl
  obtain ⟨A2, c2, rfl⟩ := ents_form he rfl
  clear h hi hd he hf hn
  unfold nodeV
  go_enter Tryz.func22, Tryz.ntmps22
  go_wp2_with fail
  refine (HH.out _ HB1.out).mono ?_
  rintro e w2 ⟨rfl, hb2⟩
  have HB2 := Lib.hid (bt hb2 HB1.out)
  obtain ⟨p0, p1, p2, p3, p4, p5, p6⟩ := (HK1.out.below hb2).c7
  clear hb2
  go_wp2_with fail
  refine (HR.out _ HB2.out).mono ?_
  rintro e w3 ⟨rfl, hb3⟩
  have HB3 := Lib.hid (bt hb3 HB2.out)
  clear hb3 p0 p1 p2 p3 p4 p5 p6
  go_wp2
  go_ret
  exact ⟨rfl, HB3.out⟩
theorem put_big (g : Nat) (t : List Nd) (P : Nat → Prop) (i : Int) (n : Nd) (vd ve : Value) (w : World) (h : TabR w g t P) (hd : BytesR w vd n.data) (he : EntsR w ve n.ents) (hf : FewB n) (hP : ∀ b, w.heap.size ≤ b → P b) :
    Calls Tryz.prog 22 #[.pointer (some ⟨g, 0, none⟩), .int .i64 i, nodeV n vd ve] w fun e w' => e = .returned (.int .i64 (putE t i (toB (rightP n)))) ∧ TabR w' g (actT t 0 i n (toB (rightP n))) P ∧ w.grownBy w' (some g) := by
  cases hi : tis t i with
  | false =>
    refine (put_none _ t i n vd ve w h.ptr hi hd he).mono ?_
    rintro e w' ⟨rfl, hb⟩
    refine ⟨by rw [putE, if_pos hi], ?_, grown_below hb _⟩
    rw [actT, if_pos rfl, if_neg (by rw [hi]; rintro ⟨q, -⟩; cases q)]
    exact h.below hb
  | true =>
    by_cases hn : rightP n
    · have hf' := few_big hf hn
      have hin := tis_in hi
      obtain ⟨k, hk⟩ : ∃ k : Nat, i = (k : Int) + 1 := ⟨(i - 1).toNat, by omega⟩
      subst hk
      refine (put_yes g t P k n vd ve w h (by omega) hi hd he hf' hn hP).mono ?_
      rintro e w' ⟨rfl, ht, hg⟩
      refine ⟨by rw [putE, if_neg (by rw [hi]; exact Bool.noConfusion), toB_true hn]; rfl, ?_, hg⟩
      rw [actT, if_pos rfl, if_pos ⟨hi, toB_true hn⟩]
      exact ht
    · refine (put_wrongB _ t i n vd ve w h.ptr hi hd he hf (toB_false hn)).mono ?_
      rintro e w' ⟨rfl, hb⟩
      refine ⟨by rw [putE, if_neg (by rw [hi]; exact Bool.noConfusion), toB_false hn]; rfl, ?_, grown_below hb _⟩
      rw [actT, if_pos rfl, if_neg (by rw [toB_false hn]; rintro ⟨-, q⟩; cases q)]
      exact h.below hb
theorem add_bigE (g : Nat) (t : List Nd) (P : Nat → Prop) (n : Nd) (vd ve : Value) (w : World) (h : TabR w g t P) (hd : BytesR w vd n.data) (he : EntsR w ve n.ents) (hf : FewB n) (hP : ∀ b, w.heap.size ≤ b → P b) (i : Int) :
    Calls Tryz.prog 24 #[.pointer (some ⟨g, 0, none⟩), nodeV n vd ve] w fun e w' => e = .returned (.tuple #[.int .i64 (addI t (toB (rightP n))), .int .i64 (addE t (toB (rightP n)))]) ∧ TabR w' g (actT t 1 i n (toB (rightP n))) P ∧ w.grownBy w' (some g) := by
  by_cases hn : rightP n
  · refine (add_right g t P n vd ve w h hd he (few_big hf hn) hn hP).mono ?_
    rintro e w' ⟨rfl, ht, hg⟩
    refine ⟨by rw [addI, addE, toB_true hn]; rfl, ?_, hg⟩
    rw [actT, if_neg (by decide), if_pos rfl, toB_true hn]
    by_cases q : freeT t 0 = 0
    · rw [if_pos q] at ht
      rw [if_neg (fun h => h.2 q)]
      exact ht
    · rw [if_neg q] at ht
      rw [if_pos ⟨rfl, q⟩]
      exact ht
  · refine (add_wrongB _ n vd ve w hd he hf (toB_false hn)).mono ?_
    rintro e w' ⟨rfl, hb⟩
    refine ⟨by rw [addI, addE, toB_false hn]; rfl, ?_, grown_below hb _⟩
    rw [actT, if_neg (by decide), if_pos rfl, if_neg (by rw [toB_false hn]; rintro ⟨q, -⟩; cases q)]
    exact h.below hb
end Go.Proofs.YtnkjaocmfhjnoaaGreat
namespace Go.Proofs.YtnkjaocmfhjnoaaGreat
open Go Go.RowKit
set_option maxRecDepth 100000

attribute [local go_sem] cell_off4 cell_blk4
def sm18 (n : Nd) : Prop := n.ents.length ≤ 20 ∧ n.data.length ≤ 100 ∧ n.target.length ≤ 100
def small18P (l : List Ac) : Prop := (∀ a ∈ l, sm18 a.n) ∧ l.length ≤ 12
set_option maxHeartbeats 4000000 in
theorem small18_any (v : Value) (l : List Ac) (w : World) (h : ActsR w v l) (hl : l.length ≤ maxLen) :
    Calls Tryz.prog 9 #[v] w fun e w' => e = .returned (.bool (toB (small18P l))) ∧ Below w.heap.size w w' := by
  have hl' : l.length ≤ 9223372036854775807 := by unfold maxLen at hl; omega
  have HN := Lib.hid (fun (k : Nat) (a : Ac) (hk : l[k]? = some a) (hf : ¬ sm18 a.n) => show toB (small18P l) = false from toB_false (fun hp => hf (hp.1 a (List.mem_of_getElem? hk))))
  have HY := Lib.hid (fun (hf : ∀ a ∈ l, sm18 a.n) => show toB (small18P l) = decide ((l.length : Int) ≤ 12) by
    by_cases h1 : l.length ≤ 12
    · rw [toB_true ⟨hf, h1⟩, decide_eq_true (by omega)]
    · rw [toB_false (fun hp => h1 hp.2), decide_eq_false (by omega)])
  generalize toB (small18P l) = X at HN HY ⊢
  obtain ⟨A, c, rfl⟩ := acts_form h
  have HA := Lib.hid h
  clear h hl
  go_enter Tryz.func9, Tryz.ntmps9
  go_wp2
  go_loopg [3] l.length (fun gh s3 wr => ∃ k : Nat, s3 = .int .i64 k ∧ k ≤ l.length ∧ gh = l.length - k ∧ (∀ a ∈ l.take k, sm18 a.n) ∧ Below w.heap.size w wr)
  case atStart => exact ⟨0, rfl, Nat.zero_le _, rfl, fun e h => by simp at h, Below.refl _ _⟩
  case round =>
    obtain ⟨k, rfl, hk, rfl, hgo, hbr⟩ := hrel
    have HG := Lib.hid hgo
    have HB := Lib.hid hbr
    clear hgo hbr
    by_cases hlt : k < l.length
    · have hlt' : (k : Int) < (l.length : Int) := by omega
      obtain ⟨a, ha⟩ : ∃ a, l[k]? = some a := ⟨_, List.getElem?_eq_getElem hlt⟩
      obtain ⟨ad, vd, ve, hA, -, -, ⟨c0, c1, c2, c3, c4, c5, c6⟩, hd, he, hm⟩ := acts_get (HA.out.below HB.out) ha
      subst hA
      have HK := Lib.hid ha
      obtain ⟨A1, k1, rfl⟩ := bytes_form hd rfl
      obtain ⟨A2, k2, rfl⟩ := ents_form he rfl
      have HTK := Lib.hid (take_snoc' ha)
      have HN1 := Lib.hid (HN.out k a ha)
      clear ha hd he
      have hm' : a.n.ents.length ≤ 9223372036854775807 := by unfold maxLen at hm; omega
      have s1 := size_bA a.n.target
      obtain ⟨z4, hz4⟩ : ∃ z, wr.heap.size = z := ⟨_, rfl⟩
      have hb7 := ba wr (.cells ndZ 65)
      have hk7 := Blk.new wr 65 ndZ
      rw [hz4] at hk7
      obtain ⟨W7, hW7⟩ : ∃ W, wr.alloc (.cells ndZ 65) = W := ⟨_, rfl⟩
      rw [hW7] at hb7 hk7
      have hzl : w.heap.size ≤ z4 := by rw [← hz4]; exact HB.out.size
      have hb8 := below_grown (bt hb7 HB.out) (grown7 W7 z4 (.int .i64 a.n.kind) (.int .i64 a.n.mode) (.int .i64 a.n.uid) (.int .i64 a.n.gid) (.slice A1 a.n.data.length k1) (.slice A2 a.n.ents.length k2) (.string (bA a.n.target))) hzl
      have hk8 := hk7.put7 (.int .i64 a.n.kind) (.int .i64 a.n.mode) (.int .i64 a.n.uid) (.int .i64 a.n.gid) (.slice A1 a.n.data.length k1) (.slice A2 a.n.ents.length k2) (.string (bA a.n.target))
      obtain ⟨p0, p1, p2, p3, p4, p5, p6⟩ := hk7.c7
      obtain ⟨f0, f1, f2, f3, f4, f5, f6⟩ := hk7.f7
      clear hb7 hk7 hzl
      go_upto_region 5 with fail
      clear hW7 hz4 c0 c1 c2 c3 c4 c5 c6
      unfold put7 at hb8 hk8
      obtain ⟨W8, hW8⟩ : ∃ W, ((((((W7.setCell ⟨z4, 0, none⟩ (.int .i64 a.n.kind)).setCell ⟨z4, 1, none⟩ (.int .i64 a.n.mode)).setCell ⟨z4, 2, none⟩ (.int .i64 a.n.uid)).setCell ⟨z4, 3, none⟩ (.int .i64 a.n.gid)).setCell ⟨z4, 4, none⟩ (.slice A1 a.n.data.length k1)).setCell ⟨z4, 5, none⟩ (.slice A2 a.n.ents.length k2)).setCell ⟨z4, 6, none⟩ (.string (bA a.n.target)) = W := ⟨_, rfl⟩
      rw [hW8] at hb8 hk8 ⊢
      clear hW8 p0 p1 p2 p3 p4 p5 p6 f0 f1 f2 f3 f4 f5 f6
      have HB8 := Lib.hid hb8
      obtain ⟨n0, n1, n2, n3, n4, n5, n6⟩ := hk8.c7
      clear hb8 hk8 n0 n1 n2 n3
      by_cases q1 : 20 < a.n.ents.length
      · have e1 : (a.n.ents.length : Int) > 20 := by omega
        have HX := Lib.hid (HN1.out (fun h => by have := h.1; omega))
        clear q1 s1
        go_wp2
        go_ret
        exact ⟨ret_bool HX.out.symm, HB8.out⟩
      have e1 : ¬ (a.n.ents.length : Int) > 20 := by omega
      by_cases q2 : 100 < a.n.data.length
      · have e2 : (a.n.data.length : Int) > 100 := by omega
        have HX := Lib.hid (HN1.out (fun h => by have := h.2.1; omega))
        clear q1 q2 s1
        go_wp2
        go_ret
        exact ⟨ret_bool HX.out.symm, HB8.out⟩
      have e2 : ¬ (a.n.data.length : Int) > 100 := by omega
      by_cases q3 : 100 < a.n.target.length
      · have e3 : ((bA a.n.target).size : Int) > 100 := by rw [s1]; omega
        have HX := Lib.hid (HN1.out (fun h => by have := h.2.2; omega))
        clear q1 q2 q3 s1
        go_wp2
        go_ret
        exact ⟨ret_bool HX.out.symm, HB8.out⟩
      have e3 : ¬ ((bA a.n.target).size : Int) > 100 := by rw [s1]; omega
      have HQ := Lib.hid (show sm18 a.n from ⟨by omega, by omega, by omega⟩)
      clear q1 q2 q3 s1
      go_wp2
      go_roundg (l.length - (k + 1))
      case measure => omega
      case rel => exact ⟨k + 1, by go_num, by omega, rfl, (fun b hb => by
        rw [HTK.out] at hb
        rcases List.mem_append.1 hb with hb | hb
        · exact HG.out b hb
        · rw [List.mem_singleton] at hb
          rw [hb]
          exact HQ.out), HB8.out⟩
    · have hlt' : ¬ (k : Int) < (l.length : Int) := by omega
      have HX := Lib.hid (HY.out (by have := HG.out; rw [List.take_of_length_le (by omega)] at this; exact this))
      go_wp2
      go_ret
      exact ⟨ret_bool HX.out.symm, HB.out⟩
theorem sm18_big {n : Nd} (h : sm18 n) (hn : ∀ e ∈ n.ents, e.1.length ≤ maxLen) : FewB n := ⟨Nat.le_trans h.2.1 (by decide), Nat.le_trans h.1 (by decide), hn, Nat.le_trans h.2.2 (by decide)⟩
set_option maxRecDepth 100000 in
set_option maxHeartbeats 8000000 in
theorem play18_any (g : Nat) (t : List Nd) (P : Nat → Prop) (v : Value) (l : List Ac) (w0 w : World) (h : TabR w g t P) (ha : ActsR w0 v l) (hb : Below w0.heap.size w0 w) (hg : w0.heap.size ≤ g) (hl : small18P l) (hN : ∀ a ∈ l, ∀ e ∈ a.n.ents, e.1.length ≤ maxLen) (hP : ∀ b, w.heap.size ≤ b → P b) :
    Calls Tryz.prog 11 #[.pointer (some ⟨g, 0, none⟩), v] w fun e w' => e = .returned (.tuple #[]) ∧ TabR w' g (playT t l) P ∧ w.grownBy w' (some g) := by
  have hll := hl.2
  have HL := Lib.hid hl
  have HNN := Lib.hid hN
  have HT0 := Lib.hid h
  have HP := Lib.hid hP
  have HB := Lib.hid hb
  have HA := Lib.hid ha
  obtain ⟨A, c, rfl⟩ := acts_form ha
  clear h ha hb hl hP hN
  go_enter Tryz.func11, Tryz.ntmps11
  go_wp2
  go_loopg [4] l.length (fun gh s4 wr => ∃ k : Nat, s4 = .int .i64 k ∧ k ≤ l.length ∧ gh = l.length - k ∧ TabR wr g (playT t (l.take k)) P ∧ w.grownBy wr (some g))
  case atStart => exact ⟨0, rfl, Nat.zero_le _, rfl, HT0.out, ⟨rfl, rfl, rfl, Nat.le_refl _, fun _ _ _ => rfl⟩⟩
  case round =>
    obtain ⟨k, rfl, hk, rfl, ht, hgr⟩ := hrel
    have HT := Lib.hid ht
    have HG := Lib.hid hgr
    have HBR := Lib.hid (grown_bl HB.out hgr hg)
    clear ht hgr
    by_cases hlt : k < l.length
    · have hlt' : (k : Int) < (l.length : Int) := by omega
      obtain ⟨a, hka⟩ : ∃ a, l[k]? = some a := ⟨_, List.getElem?_eq_getElem hlt⟩
      obtain ⟨ad, vd, ve, hA, d0, d1, ⟨c0, c1, c2, c3, c4, c5, c6⟩, hd, he, -⟩ := acts_get (HA.out.below HBR.out) hka
      subst hA
      have HF := Lib.hid (sm18_big (HL.out.1 a (List.mem_of_getElem? hka)) (HNN.out a (List.mem_of_getElem? hka)))
      have HS := Lib.hid (playT_snoc (t := t) hka)
      have HPR := Lib.hid (show ∀ b, wr.heap.size ≤ b → P b from fun b hb => HP.out b (Nat.le_trans HG.out.size hb))
      have HD := Lib.hid hd
      have HE := Lib.hid he
      have HT1 := Lib.hid HT.out
      obtain ⟨A1, k1, rfl⟩ := bytes_form hd rfl
      obtain ⟨A2, k2, rfl⟩ := ents_form he rfl
      generalize playT t (l.take k) = T at HT HS HT1
      clear hka hd he
      by_cases q0 : co a.d = 0
      · have e0 : (co a.d == 0) = true := by simpa using q0
        have HX := Lib.hid (show acT T a = actT T 0 a.i a.n (toB (rightP a.n)) by unfold acT; rw [q0])
        have HC := Lib.hid (put_big g T P a.i a.n _ _ wr.drew (HT.out.below (Below.refl _ _).drew) (HD.out.below (Below.refl _ _).drew) (HE.out.below (Below.refl _ _).drew) HF.out HPR.out)
        unfold nodeV at HC
        clear q0
        go_wp2
        go_region_with (go_at_call 22; refine HC.out.mono ?_; rintro e w5 ⟨rfl, ht5, hg5⟩; have HT5 := Lib.hid ht5; have HG5 := Lib.hid hg5; clear ht5 hg5)
        all_goals (
          go_wp2
          go_roundg (l.length - (k + 1))
          case measure => omega
          case rel => exact ⟨k + 1, by go_num, by omega, rfl, by rw [HS.out, HX.out]; exact HT5.out, grown_trans HG.out (grown_trans (grown_below (Below.refl _ _).drew _) HG5.out)⟩)
      · have e0 : (co a.d == 0) = false := by simpa using q0
        by_cases q1 : co a.d = 1
        · have e1 : (co a.d == 1) = true := by simpa using q1
          have HX := Lib.hid (show acT T a = actT T 1 a.i a.n (toB (rightP a.n)) by unfold acT; rw [q1])
          have HC := Lib.hid (add_bigE g T P a.n _ _ wr HT.out HD.out HE.out HF.out HPR.out a.i)
          unfold nodeV at HC
          clear q0 q1
          go_wp2_with fail
          refine HC.out.mono ?_
          rintro e w5 ⟨rfl, ht5, hg5⟩
          have HT5 := Lib.hid ht5
          have HG5 := Lib.hid hg5
          clear ht5 hg5
          go_wp2
          go_roundg (l.length - (k + 1))
          case measure => omega
          case rel => exact ⟨k + 1, by go_num, by omega, rfl, by rw [HS.out, HX.out]; exact HT5.out, grown_trans HG.out HG5.out⟩
        · have e1 : (co a.d == 1) = false := by simpa using q1
          have HC := Lib.hid (drop_any g T P a.i wr HT.out (co a.d) q0 q1 a.n (toB (rightP a.n)))
          clear q0 q1
          go_wp2_with fail
          refine HC.out.mono ?_
          rintro e w5 ⟨rfl, ht5, hg5⟩
          have HT5 := Lib.hid ht5
          have HG5 := Lib.hid hg5
          clear ht5 hg5
          go_wp2
          go_roundg (l.length - (k + 1))
          case measure => omega
          case rel => exact ⟨k + 1, by go_num, by omega, rfl, by rw [HS.out]; exact HT5.out, grown_trans HG.out HG5.out⟩
    · have hlt' : ¬ (k : Int) < (l.length : Int) := by omega
      have hke : l.take k = l := List.take_of_length_le (by omega)
      rw [hke] at HT
      clear hke
      go_wp2
      go_end0
      exact ⟨rfl, HT.out, HG.out⟩
end Go.Proofs.YtnkjaocmfhjnoaaGreat
namespace Go.Proofs.YtnkjaocmfhjnoaaGreat
open Go Go.RowKit
set_option maxRecDepth 100000

attribute [local go_sem] cell_off4 cell_blk4
theorem eqc_any (a b : Chg) (w : World) : (Op.equalIn 10000 36 (.agg (chC a)) (.agg (chC b))).run Tryz.prog w = .ok (toB (a = b)) w := by
  have h := eq_chg a.kind a.node a.dir a.to a.over b.kind b.node b.dir b.to b.over (bA a.name) (bA a.other) (bA b.name) (bA b.other) w
  refine h.trans ?_
  congr 1
  by_cases q : a = b
  · rw [toB_true q, q]
    simp
  · rw [toB_false q]
    refine Bool.eq_false_iff.2 (fun hc => q ?_)
    simp only [Bool.and_eq_true, beq_iff_eq, bA_list] at hc
    obtain ⟨c0, c1, c2, c3, c4, c5, c6⟩ := hc
    cases a
    cases b
    simp only [Chg.mk.injEq]
    exact ⟨c0, c1, c2, c3, c4, c5, c6⟩
theorem zero_same {t u : List Nd} (ht : t.length ≤ 24) (hu : u.length ≤ 24) : toB (ofC t u = Chg.zero) = toB (sam24 t u) := by
  have h : ofC t u = Chg.zero ↔ sam24 t u := (of_none ht hu).trans (same_24 ht hu)
  by_cases q : sam24 t u
  · rw [toB_true q, toB_true (h.2 q)]
  · rw [toB_false q, toB_false (fun z => q (h.1 z))]
theorem sam_sym (t u : List Nd) : toB (sam24 t u) = toB (sam24 u t) := by
  by_cases q : sam24 t u
  · rw [toB_true q, toB_true (show sam24 u t from fun k hk => (q k hk).symm)]
  · rw [toB_false q, toB_false (show ¬ sam24 u t from fun z => q (fun k hk => (z k hk).symm))]
set_option maxHeartbeats 4000000 in
theorem lsame_any {R : World → Value → Sym → List Nat → Prop} (HPD : SysD R) (x0 : Int) (v1 : Value) (l : List Rw) (v2 : Value) (acts : List Ac) (w : World) (h1 : RawsR w v1 l) (hl1 : l.length ≤ maxLen) (h2 : ActsR w v2 acts) (hl2 : acts.length ≤ maxLen) (hN : ∀ a ∈ acts, ∀ e ∈ a.n.ents, e.1.length ≤ maxLen) :
    Calls Tryz.prog 5 #[.int .i64 x0, v1, v2] w fun e w' => e = .returned (.bool true) ∧ Below w.heap.size w w' := by
  have HA := Lib.hid (awk18_any HPD w)
  have HR := Lib.hid h1
  have HL1 := Lib.hid hl1
  have HAC := Lib.hid h2
  have HL2 := Lib.hid hl2
  have HN := Lib.hid hN
  clear h1 hl1 HPD h2 hl2 hN
  go_enter Tryz.func5, Tryz.ntmps5
  go_wp2_with fail
  refine HA.out.mono ?_
  rintro e w2 ⟨rfl, hb2⟩
  have HB2 := Lib.hid hb2
  have HBL := Lib.hid (show Calls Tryz.prog 8 #[.int .i64 x0, v1, .agg #[.int .i64 0, .int .i64 0, .slice none 0 0]] w2 fun e w' => BltAns w2 x0 l wh0 e w' ∧ Below w2.heap.size w2 w' from built_any x0 v1 l wh0 none 0 0 w2 (HR.out.below hb2) HL1.out (IntsR.nil w2))
  clear hb2 HA HR HL1
  go_wp2_with fail
  refine HBL.out.mono ?_
  rintro e w3 ⟨hans, hb3⟩
  have HB3 := Lib.hid (bt hb3 HB2.out)
  clear hb3 HBL
  rcases hans with ⟨rfl, -⟩ | ⟨g, T, rfl, hBl, hT, hG⟩
  · go_wp2
    go_ret
    exact ⟨rfl, HB3.out⟩
  have hG1 : w.heap.size ≤ g := Nat.le_trans HB2.out.size hG
  have HT := Lib.hid hT
  have HSL := Lib.hid (small18_any v2 acts w3 (HAC.out.below HB3.out) HL2.out)
  clear hBl hT hG HB2
  go_wp2_with fail
  refine HSL.out.mono ?_
  rintro e w4 ⟨rfl, hb4⟩
  have HB4 := Lib.hid (bt hb4 HB3.out)
  by_cases hs : small18P acts
  case neg =>
    rw [toB_false hs]
    clear hs hb4 HSL HB3
    go_wp2
    go_ret
    exact ⟨rfl, HB4.out⟩
  rw [toB_true hs]
  have HS := Lib.hid hs
  have HT4 := Lib.hid (HT.out.below hb4)
  have HCL := Lib.hid (clone_any g T (fun _ => True) (fun b => w4.heap.size ≤ b) w4 HT4.out (fun b h => h))
  clear hb4 hs HSL HB3 HT
  go_wp2_with fail
  refine HCL.out.mono ?_
  rintro e w5 ⟨rfl, hc5, hb5⟩
  have hgz : g < w4.heap.size := HT4.out.lt
  obtain ⟨zc, hzc⟩ : ∃ z, w4.heap.size = z := ⟨_, rfl⟩
  have hb5' := bt hb5 HB4.out
  have hT5 := HT4.out.below hb5
  rw [hzc] at hc5 hgz ⊢
  have HPL := Lib.hid (play18_any g T (fun _ => True) v2 acts w w5 hT5 HAC.out hb5' hG1 HS.out HN.out (fun _ _ => trivial))
  have HC5 := Lib.hid hc5
  have HB5 := Lib.hid hb5'
  have HGZ := Lib.hid (show w.heap.size ≤ g ∧ g < zc from ⟨hG1, hgz⟩)
  clear hb5 hb5' hT5 hc5 hzc hgz HCL HT4 HB4 hG1
  go_wp2_with fail
  refine HPL.out.mono ?_
  rintro e w6 ⟨rfl, ht6, hg6⟩
  have hc6 := HC5.out.other hg6 (by have := HGZ.out; omega) (fun b hp _ _ => by have := HGZ.out; omega)
  have hb6 := below_grown HB5.out hg6 HGZ.out.1
  obtain ⟨T2, hT2⟩ : ∃ T2, playT T acts = T2 := ⟨_, rfl⟩
  rw [hT2] at ht6
  have hoT := hc6.ptr.ok
  have hoU := ht6.ptr.ok
  obtain ⟨a, ha⟩ : ∃ a, ofC T T2 = a := ⟨_, rfl⟩
  obtain ⟨b, hb⟩ : ∃ b, ofC T2 T = b := ⟨_, rfl⟩
  obtain ⟨a0, a1, a2, a3, a4, a5, a6⟩ := a
  obtain ⟨b0, b1, b2, b3, b4, b5, b6⟩ := b
  have HMA := Lib.hid (show (a0 = 1 ∨ a0 = 2 → (⟨b0, b1, b2, b3, b4, b5, b6⟩ : Chg) = ⟨a0, a1, a2, a3, a4, a5, a6⟩) ∧ (a0 = 3 → (⟨b0, b1, b2, b3, b4, b5, b6⟩ : Chg) = ⟨4, a1, a2, a3, 0, [], 0⟩) ∧ (a0 = 5 → a6 = 0 → (⟨b0, b1, b2, b3, b4, b5, b6⟩ : Chg) = ⟨5, a1, a4, a5, a2, a3, 0⟩) ∧ 0 ≤ a0 ∧ a0 ≤ 7 from by
    refine ⟨fun q => ?_, fun q => ?_, fun q q6 => ?_, ?_⟩
    · have h := back_alone hoT.1 hoU.1 (by rw [ha]; exact q)
      rw [ha, hb] at h
      exact h
    · have h := back_make hoT.1 hoU.1 (by rw [ha]; exact q)
      rw [ha, hb] at h
      exact h
    · have h := back_move hoT.1 hoU.1 (by rw [ha]; exact q) (by rw [ha]; exact q6)
      rw [ha, hb] at h
      exact h
    · have h := (of_kinds T T2).1
      rw [ha] at h
      exact h)
  obtain ⟨X, hX⟩ : ∃ X, toB (sam24 T T2) = X := ⟨_, rfl⟩
  have HQA := Lib.hid (show ∀ V, (Op.equalIn 10000 36 (.agg #[.int .i64 a0, .int .i64 a1, .int .i64 a2, .string (bA a3), .int .i64 a4, .string (bA a5), .int .i64 a6]) (.agg #[.int .i64 0, .int .i64 0, .int .i64 0, .string ⟨#[]⟩, .int .i64 0, .string ⟨#[]⟩, .int .i64 0])).run Tryz.prog V = .ok X V from fun V => by
    have h := eqc_any (ofC T T2) Chg.zero V
    rw [zero_same hoT.2 hoU.2, ha, hX] at h
    exact h)
  have HQB := Lib.hid (show ∀ V, (Op.equalIn 10000 36 (.agg #[.int .i64 b0, .int .i64 b1, .int .i64 b2, .string (bA b3), .int .i64 b4, .string (bA b5), .int .i64 b6]) (.agg #[.int .i64 0, .int .i64 0, .int .i64 0, .string ⟨#[]⟩, .int .i64 0, .string ⟨#[]⟩, .int .i64 0])).run Tryz.prog V = .ok X V from fun V => by
    have h := eqc_any (ofC T2 T) Chg.zero V
    rw [zero_same hoU.2 hoT.2, hb] at h
    rw [sam_sym T2 T, hX] at h
    exact h)
  have HO1 := Lib.hid (show Calls Tryz.prog 13 #[.pointer (some ⟨zc, 0, none⟩), .pointer (some ⟨g, 0, none⟩)] w6 fun e w' => e = .returned (.agg #[.int .i64 a0, .int .i64 a1, .int .i64 a2, .string (bA a3), .int .i64 a4, .string (bA a5), .int .i64 a6]) ∧ Below w6.heap.size w6 w' from by
    have h := chOf_any _ _ _ _ w6 hc6.ptr ht6.ptr
    rw [ha] at h
    exact h)
  have HO2 := Lib.hid (show ∀ V, Below w6.heap.size w6 V → Calls Tryz.prog 13 #[.pointer (some ⟨g, 0, none⟩), .pointer (some ⟨zc, 0, none⟩)] V fun e w' => e = .returned (.agg #[.int .i64 b0, .int .i64 b1, .int .i64 b2, .string (bA b3), .int .i64 b4, .string (bA b5), .int .i64 b6]) ∧ Below V.heap.size V w' from fun V hv => by
    have h := chOf_any _ _ _ _ V (ht6.ptr.below hv) (hc6.ptr.below hv)
    rw [hb] at h
    exact h)
  have HSM := Lib.hid (show ∀ V, Below w6.heap.size w6 V → Calls Tryz.prog 19 #[.pointer (some ⟨zc, 0, none⟩), .pointer (some ⟨g, 0, none⟩)] V fun e w' => e = .returned (.bool X) ∧ Below V.heap.size V w' from fun V hv => by
    have h := tsame_any _ _ _ _ V (hc6.ptr.below hv) (ht6.ptr.below hv)
    rw [hX] at h
    exact h)
  have HB6 := Lib.hid hb6
  clear ht6 hg6 hc6 hb6 hT2 hoT hoU ha hb hX HC5 HB5 HPL HGZ HAC HN HS HL2
  go_wp2_with fail
  refine HO1.out.mono ?_
  rintro e w7 ⟨rfl, hb7⟩
  obtain ⟨z11, hz11⟩ : ∃ z, w7.heap.size = z := ⟨_, rfl⟩
  have hb8 := ba w7 (.cells chZ 36)
  have hk8 := Blk.new w7 36 chZ
  have hl8 : w6.heap.size ≤ z11 := by rw [← hz11]; exact hb7.size
  rw [hz11] at hk8
  obtain ⟨W8, hW8⟩ : ∃ W, w7.alloc (.cells chZ 36) = W := ⟨_, rfl⟩
  rw [hW8] at hb8 hk8
  have hb9 := below_grown (bt hb8 hb7) (grown7 W8 z11 (.int .i64 a0) (.int .i64 a1) (.int .i64 a2) (.string (bA a3)) (.int .i64 a4) (.string (bA a5)) (.int .i64 a6)) hl8
  have hk9 := hk8.put7 (.int .i64 a0) (.int .i64 a1) (.int .i64 a2) (.string (bA a3)) (.int .i64 a4) (.string (bA a5)) (.int .i64 a6)
  obtain ⟨p0, p1, p2, p3, p4, p5, p6⟩ := hk8.c7
  obtain ⟨f0, f1, f2, f3, f4, f5, f6⟩ := hk8.f7
  clear hb7 hb8 hk8 hl8 HO1
  go_upto_region 10 with fail
  clear hW8 hz11
  unfold put7 at hb9 hk9
  obtain ⟨W9, hW9⟩ : ∃ W, ((((((W8.setCell ⟨z11, 0, none⟩ (.int .i64 a0)).setCell ⟨z11, 1, none⟩ (.int .i64 a1)).setCell ⟨z11, 2, none⟩ (.int .i64 a2)).setCell ⟨z11, 3, none⟩ (.string (bA a3))).setCell ⟨z11, 4, none⟩ (.int .i64 a4)).setCell ⟨z11, 5, none⟩ (.string (bA a5))).setCell ⟨z11, 6, none⟩ (.int .i64 a6) = W := ⟨_, rfl⟩
  rw [hW9] at hb9 hk9 ⊢
  clear hW9 p0 p1 p2 p3 p4 p5 p6 f0 f1 f2 f3 f4 f5 f6
  have HO3 := Lib.hid (HO2.out W9 hb9)
  have HB9 := Lib.hid hb9
  have HK9 := Lib.hid hk9
  clear hb9 hk9 HO2
  go_wp2_with fail
  refine HO3.out.mono ?_
  rintro e w10 ⟨rfl, hb10⟩
  obtain ⟨z12, hz12⟩ : ∃ z, w10.heap.size = z := ⟨_, rfl⟩
  have hb11 := ba w10 (.cells chZ 36)
  have hk11 := Blk.new w10 36 chZ
  have hk10 := HK9.out.below hb10
  have hl12 : z11 < z12 := by rw [← hz12]; exact hk10.lt
  have hl13 : w6.heap.size ≤ z12 := by rw [← hz12]; exact (bt hb10 HB9.out).size
  have hk10' := hk10.below hb11
  rw [hz12] at hk11
  obtain ⟨W11, hW11⟩ : ∃ W, w10.alloc (.cells chZ 36) = W := ⟨_, rfl⟩
  rw [hW11] at hb11 hk11 hk10'
  have hgr := grown7 W11 z12 (.int .i64 b0) (.int .i64 b1) (.int .i64 b2) (.string (bA b3)) (.int .i64 b4) (.string (bA b5)) (.int .i64 b6)
  have hb12 := below_grown (bt hb11 (bt hb10 HB9.out)) hgr hl13
  have hk12 := hk11.put7 (.int .i64 b0) (.int .i64 b1) (.int .i64 b2) (.string (bA b3)) (.int .i64 b4) (.string (bA b5)) (.int .i64 b6)
  have hk13 := hk10'.kept hgr (some_ne (by omega))
  obtain ⟨p0, p1, p2, p3, p4, p5, p6⟩ := hk11.c7
  obtain ⟨f0, f1, f2, f3, f4, f5, f6⟩ := hk11.f7
  clear hb10 hb11 hk11 hk10 hk10' hl12 hl13 hgr HO3 HK9 HB9
  go_upto_region 11 with fail
  clear hW11 hz12
  unfold put7 at hb12 hk12 hk13
  obtain ⟨W12, hW12⟩ : ∃ W, ((((((W11.setCell ⟨z12, 0, none⟩ (.int .i64 b0)).setCell ⟨z12, 1, none⟩ (.int .i64 b1)).setCell ⟨z12, 2, none⟩ (.int .i64 b2)).setCell ⟨z12, 3, none⟩ (.string (bA b3))).setCell ⟨z12, 4, none⟩ (.int .i64 b4)).setCell ⟨z12, 5, none⟩ (.string (bA b5))).setCell ⟨z12, 6, none⟩ (.int .i64 b6) = W := ⟨_, rfl⟩
  rw [hW12] at hb12 hk12 hk13 ⊢
  clear hW12 p0 p1 p2 p3 p4 p5 p6 f0 f1 f2 f3 f4 f5 f6
  have HSV := Lib.hid (fun (V : World) (hv : Below W12.heap.size W12 V) => show (V.cell? ⟨z11, 0, none⟩ = some (.int .i64 a0) ∧ V.cell? ⟨z11, 1, none⟩ = some (.int .i64 a1) ∧ V.cell? ⟨z11, 2, none⟩ = some (.int .i64 a2) ∧ V.cell? ⟨z11, 3, none⟩ = some (.string (bA a3)) ∧ V.cell? ⟨z11, 4, none⟩ = some (.int .i64 a4) ∧ V.cell? ⟨z11, 5, none⟩ = some (.string (bA a5)) ∧ V.cell? ⟨z11, 6, none⟩ = some (.int .i64 a6)) ∧ (V.cell? ⟨z12, 0, none⟩ = some (.int .i64 b0) ∧ V.cell? ⟨z12, 1, none⟩ = some (.int .i64 b1) ∧ V.cell? ⟨z12, 2, none⟩ = some (.int .i64 b2) ∧ V.cell? ⟨z12, 3, none⟩ = some (.string (bA b3)) ∧ V.cell? ⟨z12, 4, none⟩ = some (.int .i64 b4) ∧ V.cell? ⟨z12, 5, none⟩ = some (.string (bA b5)) ∧ V.cell? ⟨z12, 6, none⟩ = some (.int .i64 b6)) from ⟨(hk13.below hv).c7, (hk12.below hv).c7⟩)
  have HSN := Lib.hid (fun (V : World) (hv : Below W12.heap.size W12 V) => HSM.out V (bt hv hb12))
  have HB12 := Lib.hid (bt hb12 HB6.out)
  have J0 := Lib.hid (show Below W12.heap.size W12 W12.drew from (Below.refl _ _).drew)
  have hqa := HQA.out
  have hqb := HQB.out
  clear hb12 hk12 hk13 HSM HB6
  go_cut [56] (fun s56 wx => s56 = .bool false ∧ Below W12.heap.size W12 wx)
  case first =>
    go_region_held3 (fun V => (V.cell? ⟨z11, 0, none⟩ = some (.int .i64 a0) ∧ V.cell? ⟨z11, 1, none⟩ = some (.int .i64 a1) ∧ V.cell? ⟨z11, 2, none⟩ = some (.int .i64 a2) ∧ V.cell? ⟨z11, 3, none⟩ = some (.string (bA a3)) ∧ V.cell? ⟨z11, 4, none⟩ = some (.int .i64 a4) ∧ V.cell? ⟨z11, 5, none⟩ = some (.string (bA a5)) ∧ V.cell? ⟨z11, 6, none⟩ = some (.int .i64 a6)) ∧ (V.cell? ⟨z12, 0, none⟩ = some (.int .i64 b0) ∧ V.cell? ⟨z12, 1, none⟩ = some (.int .i64 b1) ∧ V.cell? ⟨z12, 2, none⟩ = some (.int .i64 b2) ∧ V.cell? ⟨z12, 3, none⟩ = some (.string (bA b3)) ∧ V.cell? ⟨z12, 4, none⟩ = some (.int .i64 b4) ∧ V.cell? ⟨z12, 5, none⟩ = some (.string (bA b5)) ∧ V.cell? ⟨z12, 6, none⟩ = some (.int .i64 b6)))
      (first | (with_reducible exact HSV.out _ J0.out) | (with_reducible exact HSV.out _ J2.out) | (with_reducible exact HSV.out _ J1.out))
      (first
      | (go_at_call 19; (with_reducible refine (HSN.out _ J1.out).mono ?_); rintro e5 w5 ⟨rfl, hb5⟩; have J2 := Lib.hid (bt hb5 J1.out); clear hb5)
      | (go_at_call 19; (with_reducible refine (HSN.out _ J0.out).mono ?_); rintro e5 w5 ⟨rfl, hb5⟩; have J1 := Lib.hid (bt hb5 J0.out); clear hb5))
    all_goals (
      go_wp2
      go_meet
      first
        | exact ⟨rfl, J2.out⟩
        | exact ⟨rfl, J1.out⟩)
  case rest =>
  obtain ⟨rfl, hbx⟩ := hcut
  obtain ⟨wx, hwx⟩ : ∃ W, wc = W := ⟨_, rfl⟩
  rw [hwx] at hbx ⊢
  obtain ⟨⟨p0, p1, p2, p3, p4, p5, p6⟩, ⟨q0, q1, q2, q3, q4, q5, q6⟩⟩ := HSV.out _ hbx
  have HBX := Lib.hid (bt hbx HB12.out)
  obtain ⟨M1, M2, M3, M4, M5⟩ := HMA.out
  clear hwx hbx HSV HSN HB12 J0 HQA HQB HMA hqa hqb
  by_cases k1 : a0 = 1 ∨ a0 = 2
  · have e := M1 k1
    injection e with e0 e1 e2 e3 e4 e5 e6
    obtain ⟨rfl, rfl, rfl, rfl, rfl, rfl, rfl⟩ : a0 = b0 ∧ a1 = b1 ∧ a2 = b2 ∧ a3 = b3 ∧ a4 = b4 ∧ a5 = b5 ∧ a6 = b6 := ⟨e0.symm, e1.symm, e2.symm, e3.symm, e4.symm, e5.symm, e6.symm⟩
    have hq : ∀ V, (Op.equalIn 10000 36 (.agg #[.int .i64 a0, .int .i64 a1, .int .i64 a2, .string (bA a3), .int .i64 a4, .string (bA a5), .int .i64 a6]) (.agg #[.int .i64 a0, .int .i64 a1, .int .i64 a2, .string (bA a3), .int .i64 a4, .string (bA a5), .int .i64 a6])).run Tryz.prog V = .ok true V := fun V => by
      have h := eqc_any ⟨a0, a1, a2, a3, a4, a5, a6⟩ ⟨a0, a1, a2, a3, a4, a5, a6⟩ V
      rw [toB_true rfl] at h
      exact h
    clear M1 M2 M3 M4 M5
    rcases k1 with rfl | rfl
    · go_wp2
      go_ret
      exact ⟨rfl, HBX.out⟩
    · go_wp2
      go_ret
      exact ⟨rfl, HBX.out⟩
  by_cases k3 : a0 = 3
  · have e := M2 k3
    injection e with e0 e1 e2 e3 e4 e5 e6
    obtain ⟨rfl, rfl, rfl, rfl, rfl, rfl, rfl⟩ : 4 = b0 ∧ a1 = b1 ∧ a2 = b2 ∧ a3 = b3 ∧ 0 = b4 ∧ [] = b5 ∧ 0 = b6 := ⟨e0.symm, e1.symm, e2.symm, e3.symm, e4.symm, e5.symm, e6.symm⟩
    subst k3
    clear M1 M2 M3 M4 M5 k1
    go_wp2
    go_ret
    exact ⟨rfl, HBX.out⟩
  have n1 : (a0 == 1) = false := by rw [beq_eq_false_iff_ne]; exact fun q => k1 (.inl q)
  have n2 : (a0 == 2) = false := by rw [beq_eq_false_iff_ne]; exact fun q => k1 (.inr q)
  have n3 : (a0 == 3) = false := by rw [beq_eq_false_iff_ne]; exact k3
  by_cases k5 : a0 = 5
  · by_cases k6 : a6 = 0
    · have e := M3 k5 k6
      injection e with e0 e1 e2 e3 e4 e5 e6
      obtain ⟨rfl, rfl, rfl, rfl, rfl, rfl, rfl⟩ : 5 = b0 ∧ a1 = b1 ∧ a4 = b2 ∧ a5 = b3 ∧ a2 = b4 ∧ a3 = b5 ∧ 0 = b6 := ⟨e0.symm, e1.symm, e2.symm, e3.symm, e4.symm, e5.symm, e6.symm⟩
      subst k5 k6
      clear M1 M2 M3 M4 M5 k1 k3 n1 n2 n3
      go_wp2
      go_ret
      exact ⟨rfl, HBX.out⟩
    · have n6 : (a6 == 0) = false := by rw [beq_eq_false_iff_ne]; exact k6
      subst k5
      clear M1 M2 M3 M4 M5 k1 k3 n1 n2 n3 k6
      go_wp2
      go_ret
      exact ⟨rfl, HBX.out⟩
  · have n5 : (a0 == 5) = false := by rw [beq_eq_false_iff_ne]; exact k5
    have g1 : a0 ≥ 0 := M4
    clear M1 M2 M3 M4 k1 k3 k5
    go_wp2
    go_ret
    exact ⟨rfl, HBX.out⟩
end Go.Proofs.YtnkjaocmfhjnoaaGreat
