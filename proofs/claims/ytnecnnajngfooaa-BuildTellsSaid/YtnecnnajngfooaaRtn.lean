/-
  Add of stage 9 where a node's names are of any length. The conditions: a thousand entries, and bytes, at most.
-/
import Derived.Test.YtnecnnajngfooaaRta
namespace Go.Proofs.Ytnecnnajngfooaa
open Go Go.RowKit
set_option maxRecDepth 100000

attribute [local go_sem] cell_off4 cell_blk4
structure FewB (n : Nd) : Prop where
  data : n.data.length ≤ 1000
  ents : n.ents.length ≤ 1000
  names : ∀ e ∈ n.ents, e.1.length ≤ maxLen
  target : n.target.length ≤ 1000
set_option maxRecDepth 100000 in
set_option maxHeartbeats 4000000 in
theorem entsRight_big (v : Value) (l : List En) (w : World) (hR : EntsR w v l) (hn : l.length ≤ 1000) (hsz : ∀ e ∈ l, e.1.length ≤ maxLen) :
    Calls Try.prog 86 #[v] w fun e w' => e = .returned (.bool (toB (entsP l))) ∧ Below w.heap.size w w' := by
  obtain ⟨A, c, rfl⟩ := ents_form hR rfl
  have HR := Lib.hid hR
  clear hR
  by_cases h8 : l.length ≤ 8
  · have h8' : ¬ (8 : Int) < (l.length : Int) := by omega
    have HY := Lib.hid (show gdP l → toB (entsP l) = true from fun h => toB_true ⟨h.1, h.2, h8⟩)
    have HN1 := Lib.hid (fun (k : Nat) (e : En) (he : l[k]? = some e) (h : nok e.1 = false) => show toB (entsP l) = false from toB_false (fun hp => by rw [(hp.1 e (List.mem_of_getElem? he)).1] at h; cases h))
    have HN2 := Lib.hid (fun (k : Nat) (e : En) (he : l[k]? = some e) (h : e.2 < 1) => show toB (entsP l) = false from toB_false (fun hp => by have := (hp.1 e (List.mem_of_getElem? he)).2; omega))
    have HN3 := Lib.hid (fun (k : Nat) (e p : En) (hk : 0 < k) (he : l[k]? = some e) (hp : l[k - 1]? = some p) (h : lss p.1 e.1 = false) => show toB (entsP l) = false from toB_false (fun hp2 => by
      have := adj_rise hp2.2.1 (k - 1) p.1 e.1 (nmE_at hp) (by rw [show k - 1 + 1 = k by omega]; exact nmE_at he)
      rw [this] at h
      cases h))
    generalize toB (entsP l) = X at HY HN1 HN2 HN3 ⊢
    go_enter Try.func86, Try.ntmps86
    go_wp2
    go_loopg [10] l.length (fun g s10 wr => ∃ k : Nat, s10 = .int .i64 k ∧ k ≤ l.length ∧ g = l.length - k ∧ gdP (l.take k) ∧ Below w.heap.size w wr)
    case atStart => exact ⟨0, rfl, Nat.zero_le _, rfl, gdP_nil, Below.refl _ _⟩
    case round =>
      obtain ⟨k, rfl, hk, rfl, hgd, hbr⟩ := hrel
      have HGD := Lib.hid hgd
      have HB := Lib.hid hbr
      clear hgd hbr
      by_cases hlt : k < l.length
      · obtain ⟨e, he⟩ : ∃ e, l[k]? = some e := ⟨_, List.getElem?_eq_getElem hlt⟩
        obtain ⟨ad, rfl, c0, c1⟩ := ents_get (HR.out.below HB.out) he
        have HE := Lib.hid he
        have HNM := Lib.hid (fun W => Name_any (bA e.1) W (by rw [size_bA]; exact hsz e (List.mem_of_getElem? he)))
        rw [nam_nok, tl_bA] at HNM
        clear he
        obtain ⟨NK, hNK⟩ : ∃ NK, nok e.1 = NK := ⟨_, rfl⟩
        rw [hNK] at HNM
        have HK := Lib.hid hNK
        clear hNK
        have hbA := ba wr (.cells #[.string (bA e.1), .int .i64 e.2] 106)
        have HBA := Lib.hid (bt hbA HB.out)
        have hadl : (ad.add (k * 2)).block < wr.heap.size := World.block_lt_of_cell? _ _ c0
        cases NK with
        | false =>
          go_wp2_with fail
          refine (HNM.out _).mono ?_
          rintro e3 w3 ⟨rfl, rfl⟩
          go_wp2
          go_ret
          exact ⟨ret_bool (HN1.out k e HE.out HK.out).symm, HBA.out⟩
        | true =>
          by_cases h2 : e.2 < 1
          · go_wp2_with fail
            refine (HNM.out _).mono ?_
            rintro e3 w3 ⟨rfl, rfl⟩
            go_wp2
            go_ret
            exact ⟨ret_bool (HN2.out k e HE.out h2).symm, HBA.out⟩
          · by_cases h0 : k = 0
            · have hk0 : decide (0 < k) = false := by simp; omega
              have hk1 : ¬ (0 : Int) < (k : Int) := by omega
              have HK0 := Lib.hid h0
              clear h0
              go_wp2_with fail
              refine (HNM.out _).mono ?_
              rintro e3 w3 ⟨rfl, rfl⟩
              have HH2 := Lib.hid h2
              go_wp2_with fail
              go_quiet (fail)
              go_wp2
              go_roundg (l.length - (k + 1))
              case measure => omega
              case rel => exact ⟨k + 1, by go_num, by omega, rfl, gdP_snoc HE.out HGD.out HK.out (by have := HH2.out; omega) (.inl HK0.out), bdN HBA.out _⟩
            · obtain ⟨p, hp⟩ : ∃ p, l[k - 1]? = some p := ⟨_, List.getElem?_eq_getElem (by omega)⟩
              obtain ⟨ad2, hA2, d0, d1⟩ := ents_get (HR.out.below HB.out) hp
              injection hA2 with hA2
              subst hA2
              have HP := Lib.hid hp
              clear hp
              have d0' := bc hbA d0
              obtain ⟨j, hj⟩ : ∃ j, j = k - 1 := ⟨_, rfl⟩
              rw [← hj] at d0 d1 d0' HP
              have kj1 : (k : Int) - 1 = (j : Int) := by omega
              have kj2 : IntKind.i64.wrap ((k : Int) - 1) = (j : Int) := by rw [IntKind.wrap_i64]; omega
              have kj3 : (j : Int) < (l.length : Int) := by omega
              have kj4 : j < l.length := by omega
              have hk0 : decide (0 < k) = true := by simp; omega
              have hk1 : (0 : Int) < (k : Int) := by omega
              have HJ := Lib.hid hj
              have HK0 := Lib.hid h0
              have HH2 := Lib.hid h2
              clear hj h0 d1 hbA
              by_cases hl : lss p.1 e.1 = true
              · obtain ⟨m1, m2⟩ := cmp_lt hl
                have HL := Lib.hid hl
                clear hl
                go_wp2_with fail
                refine (HNM.out _).mono ?_
                rintro e3 w3 ⟨rfl, rfl⟩
                go_wp2_with fail
                go_quiet (fail)
                go_wp2
                go_roundg (l.length - (k + 1))
                case measure => omega
                case rel => exact ⟨k + 1, by go_num, by omega, rfl, gdP_snoc HE.out HGD.out HK.out (by have := HH2.out; omega) (.inr ⟨p, by rw [← HJ.out]; exact HP.out, HL.out⟩), bdN HBA.out _⟩
              · have hl' : lss p.1 e.1 = false := by simpa using hl
                have HF := Lib.hid (HN3.out k e p (by have := HK0.out; omega) HE.out (by rw [← HJ.out]; exact HP.out) hl')
                clear hl
                rcases cmp_ge hl' with ⟨m1, m2⟩ | ⟨m1, m2⟩
                all_goals (
                  clear hl'
                  go_wp2_with fail
                  refine (HNM.out _).mono ?_
                  rintro e3 w3 ⟨rfl, rfl⟩
                  go_wp2_with fail
                  go_quiet (fail)
                  go_wp2
                  go_ret
                  exact ⟨ret_bool HF.out.symm, bdN HBA.out _⟩)
      · have hY := HY.out (by have := HGD.out; rw [List.take_of_length_le (by omega)] at this; exact this)
        have HY2 := Lib.hid hY
        clear hY
        go_wp2
        go_ret
        exact ⟨ret_bool HY2.out.symm, HB.out⟩
  · have h8' : (8 : Int) < (l.length : Int) := by omega
    have HF := Lib.hid (show toB (entsP l) = false from toB_false (fun h => h8 h.2.2))
    clear h8
    go_enter Try.func86, Try.ntmps86
    go_wp2
    go_ret
    exact ⟨ret_bool HF.out.symm, Below.refl _ _⟩
set_option maxRecDepth 100000 in
set_option maxHeartbeats 4000000 in
theorem right_big (n : Nd) (vd ve : Value) (w : World) (hd : BytesR w vd n.data) (he : EntsR w ve n.ents) (hf : FewB n) :
    Calls Try.prog 58 #[nodeV n vd ve] w fun e w' => e = .returned (.bool (toB (rightP n))) ∧ Below w.heap.size w w' := by
  have HB1 := Lib.hid (ba w (.cells (ndC n vd ve) 39))
  have HER := Lib.hid (fun W (hb : Below (w.alloc (.cells (ndC n vd ve) 39)).heap.size (w.alloc (.cells (ndC n vd ve) 39)) W) => entsRight_big ve n.ents W ((box_ents (vd := vd) he).below hb) hf.ents hf.names)
  have HFT := Lib.hid (fun W => Fits_any (bA n.target) W (by rw [size_bA]; have := hf.target; unfold maxLen; omega))
  rw [fit_fok, tl_bA] at HFT
  have U1 := Lib.hid (fun W => upTo_any 4095 n.mode W)
  have U2 := Lib.hid (fun W => upTo_any 65535 n.uid W)
  have U3 := Lib.hid (fun W => upTo_any 65535 n.gid W)
  obtain ⟨A1, c1, rfl⟩ := bytes_form hd rfl
  obtain ⟨A2, c2, rfl⟩ := ents_form he rfl
  have hdl := hf.data
  have hel := hf.ents
  clear hd he hf
  unfold nodeV
  obtain ⟨u1, hu1⟩ : ∃ u, upB 4095 n.mode = u := ⟨_, rfl⟩
  obtain ⟨u2, hu2⟩ : ∃ u, upB 65535 n.uid = u := ⟨_, rfl⟩
  obtain ⟨u3, hu3⟩ : ∃ u, upB 65535 n.gid = u := ⟨_, rfl⟩
  rw [hu1] at U1
  rw [hu2] at U2
  rw [hu3] at U3
  cases u1 with
  | false =>
    have HX := Lib.hid (show toB (rightP n) = false from toB_false (fun h => upB_not hu1 h.1.1))
    clear hu1 hu2 hu3
    generalize toB (rightP n) = X at HX ⊢
    go_enter Try.func58, Try.ntmps58
    go_wp2_with fail
    refine (U1.out _).mono ?_
    rintro e w' ⟨rfl, rfl⟩
    go_wp2
    go_ret
    exact ⟨ret_bool (by first | exact HX.out.symm | exact (decide_eq_false (by omega)).trans HX.out.symm), HB1.out⟩
  | true =>
    cases u2 with
    | false =>
      have HX := Lib.hid (show toB (rightP n) = false from toB_false (fun h => upB_not hu2 h.1.2.1))
      clear hu1 hu2 hu3
      generalize toB (rightP n) = X at HX ⊢
      go_enter Try.func58, Try.ntmps58
      go_wp2_with fail
      refine (U1.out _).mono ?_
      rintro e w' ⟨rfl, rfl⟩
      go_wp2_with fail
      refine (U2.out _).mono ?_
      rintro e w' ⟨rfl, rfl⟩
      go_wp2
      go_ret
      exact ⟨ret_bool (by first | exact HX.out.symm | exact (decide_eq_false (by omega)).trans HX.out.symm), HB1.out⟩
    | true =>
      cases u3 with
      | false =>
        have HX := Lib.hid (show toB (rightP n) = false from toB_false (fun h => upB_not hu3 h.1.2.2))
        clear hu1 hu2 hu3
        generalize toB (rightP n) = X at HX ⊢
        go_enter Try.func58, Try.ntmps58
        go_wp2_with fail
        refine (U1.out _).mono ?_
        rintro e w' ⟨rfl, rfl⟩
        go_wp2_with fail
        refine (U2.out _).mono ?_
        rintro e w' ⟨rfl, rfl⟩
        go_wp2_with fail
        refine (U3.out _).mono ?_
        rintro e w' ⟨rfl, rfl⟩
        go_wp2
        go_ret
        exact ⟨ret_bool (by first | exact HX.out.symm | exact (decide_eq_false (by omega)).trans HX.out.symm), HB1.out⟩
      | true =>
        have hH : headP n := ⟨upB_iff.1 hu1, upB_iff.1 hu2, upB_iff.1 hu3⟩
        clear hu1 hu2 hu3
        by_cases k1 : n.kind = 1
        · have hk : (n.kind == 1) = true := by simpa using k1
          have hX : rightP n ↔ n.ents = [] ∧ n.target = [] ∧ n.data.length ≤ 48 := by
            constructor
            · rintro ⟨-, h | h | h⟩
              · exact h.2
              · omega
              · omega
            · exact fun h => ⟨hH, .inl ⟨k1, h⟩⟩
          clear hH k1
          by_cases e1 : n.ents = []
          · have q1 := int0 e1
            by_cases e2 : n.target = []
            · have q2 := eq_nil_of _ e2
              by_cases e3 : n.data.length ≤ 48
              · have q3 : (n.data.length : Int) ≤ 48 := by omega
                have HX := Lib.hid (show toB (rightP n) = true from toB_true (hX.2 ⟨e1, e2, e3⟩))
                clear hX e1 e2 e3
                generalize toB (rightP n) = X at HX ⊢
                go_enter Try.func58, Try.ntmps58
                go_wp2_with fail
                refine (U1.out _).mono ?_
                rintro e w' ⟨rfl, rfl⟩
                go_wp2_with fail
                refine (U2.out _).mono ?_
                rintro e w' ⟨rfl, rfl⟩
                go_wp2_with fail
                refine (U3.out _).mono ?_
                rintro e w' ⟨rfl, rfl⟩
                go_wp2
                go_ret
                exact ⟨ret_bool (by first | exact HX.out.symm | exact (decide_eq_false (by omega)).trans HX.out.symm), HB1.out⟩
              · have q3 : ¬ (n.data.length : Int) ≤ 48 := by omega
                have HX := Lib.hid (show toB (rightP n) = false from toB_false (fun h => e3 (hX.1 h).2.2))
                clear hX e1 e2 e3
                generalize toB (rightP n) = X at HX ⊢
                go_enter Try.func58, Try.ntmps58
                go_wp2_with fail
                refine (U1.out _).mono ?_
                rintro e w' ⟨rfl, rfl⟩
                go_wp2_with fail
                refine (U2.out _).mono ?_
                rintro e w' ⟨rfl, rfl⟩
                go_wp2_with fail
                refine (U3.out _).mono ?_
                rintro e w' ⟨rfl, rfl⟩
                go_wp2
                go_ret
                exact ⟨ret_bool (by first | exact HX.out.symm | exact (decide_eq_false (by omega)).trans HX.out.symm), HB1.out⟩
            · have q2 := ne_nil_of _ e2
              have HX := Lib.hid (show toB (rightP n) = false from toB_false (fun h => e2 (hX.1 h).2.1))
              clear hX e1 e2
              generalize toB (rightP n) = X at HX ⊢
              go_enter Try.func58, Try.ntmps58
              go_wp2_with fail
              refine (U1.out _).mono ?_
              rintro e w' ⟨rfl, rfl⟩
              go_wp2_with fail
              refine (U2.out _).mono ?_
              rintro e w' ⟨rfl, rfl⟩
              go_wp2_with fail
              refine (U3.out _).mono ?_
              rintro e w' ⟨rfl, rfl⟩
              go_wp2
              go_ret
              exact ⟨ret_bool (by first | exact HX.out.symm | exact (decide_eq_false (by omega)).trans HX.out.symm), HB1.out⟩
          · have q1 := int1 e1
            have HX := Lib.hid (show toB (rightP n) = false from toB_false (fun h => e1 (hX.1 h).1))
            clear hX e1
            generalize toB (rightP n) = X at HX ⊢
            go_enter Try.func58, Try.ntmps58
            go_wp2_with fail
            refine (U1.out _).mono ?_
            rintro e w' ⟨rfl, rfl⟩
            go_wp2_with fail
            refine (U2.out _).mono ?_
            rintro e w' ⟨rfl, rfl⟩
            go_wp2_with fail
            refine (U3.out _).mono ?_
            rintro e w' ⟨rfl, rfl⟩
            go_wp2
            go_ret
            exact ⟨ret_bool (by first | exact HX.out.symm | exact (decide_eq_false (by omega)).trans HX.out.symm), HB1.out⟩
        · have hk : (n.kind == 1) = false := by simpa using k1
          by_cases k2 : n.kind = 2
          · have hk2 : (n.kind == 2) = true := by simpa using k2
            have hX : rightP n ↔ n.data = [] ∧ n.target = [] ∧ entsP n.ents := by
              constructor
              · rintro ⟨-, h | h | h⟩
                · omega
                · exact h.2
                · omega
              · exact fun h => ⟨hH, .inr (.inl ⟨k2, h⟩)⟩
            clear hH k1 k2
            by_cases e1 : n.data = []
            · have q1 := int0 e1
              by_cases e2 : n.target = []
              · have q2 := eq_nil_of _ e2
                have HX := Lib.hid (show toB (rightP n) = toB (entsP n.ents) by
                  by_cases h : entsP n.ents
                  · rw [toB_true h, toB_true (hX.2 ⟨e1, e2, h⟩)]
                  · rw [toB_false h, toB_false (fun h2 => h (hX.1 h2).2.2)])
                clear hX e1 e2
                generalize toB (entsP n.ents) = Y at HX HER
                generalize toB (rightP n) = X at HX ⊢
                go_enter Try.func58, Try.ntmps58
                go_wp2_with fail
                refine (U1.out _).mono ?_
                rintro e w' ⟨rfl, rfl⟩
                go_wp2_with fail
                refine (U2.out _).mono ?_
                rintro e w' ⟨rfl, rfl⟩
                go_wp2_with fail
                refine (U3.out _).mono ?_
                rintro e w' ⟨rfl, rfl⟩
                go_wp2_with fail
                refine (HER.out _ (Below.refl _ _)).mono ?_
                rintro e w2 ⟨rfl, hb2⟩
                have HB2 := Lib.hid (bt hb2 HB1.out)
                clear hb2
                go_wp2
                go_ret
                exact ⟨ret_bool HX.out.symm, HB2.out⟩
              · have q2 := ne_nil_of _ e2
                have HX := Lib.hid (show toB (rightP n) = false from toB_false (fun h => e2 (hX.1 h).2.1))
                clear hX e1 e2
                generalize toB (rightP n) = X at HX ⊢
                go_enter Try.func58, Try.ntmps58
                go_wp2_with fail
                refine (U1.out _).mono ?_
                rintro e w' ⟨rfl, rfl⟩
                go_wp2_with fail
                refine (U2.out _).mono ?_
                rintro e w' ⟨rfl, rfl⟩
                go_wp2_with fail
                refine (U3.out _).mono ?_
                rintro e w' ⟨rfl, rfl⟩
                go_wp2
                go_ret
                exact ⟨ret_bool (by first | exact HX.out.symm | exact (decide_eq_false (by omega)).trans HX.out.symm), HB1.out⟩
            · have q1 := int1 e1
              have HX := Lib.hid (show toB (rightP n) = false from toB_false (fun h => e1 (hX.1 h).1))
              clear hX e1
              generalize toB (rightP n) = X at HX ⊢
              go_enter Try.func58, Try.ntmps58
              go_wp2_with fail
              refine (U1.out _).mono ?_
              rintro e w' ⟨rfl, rfl⟩
              go_wp2_with fail
              refine (U2.out _).mono ?_
              rintro e w' ⟨rfl, rfl⟩
              go_wp2_with fail
              refine (U3.out _).mono ?_
              rintro e w' ⟨rfl, rfl⟩
              go_wp2
              go_ret
              exact ⟨ret_bool (by first | exact HX.out.symm | exact (decide_eq_false (by omega)).trans HX.out.symm), HB1.out⟩
          · have hk2 : (n.kind == 2) = false := by simpa using k2
            by_cases k3 : n.kind = 3
            · have hk3 : (n.kind == 3) = true := by simpa using k3
              have hX : rightP n ↔ n.data = [] ∧ n.ents = [] ∧ n.mode = 511 ∧ fok n.target = true := by
                constructor
                · rintro ⟨-, h | h | h⟩
                  · omega
                  · omega
                  · exact h.2
                · exact fun h => ⟨hH, .inr (.inr ⟨k3, h⟩)⟩
              clear hH k1 k2 k3
              by_cases e1 : n.data = []
              · have q1 := int0 e1
                by_cases e2 : n.ents = []
                · have q2 := int0 e2
                  by_cases e3 : n.mode = 511
                  · have q3 : (n.mode == 511) = true := by simpa using e3
                    have HX := Lib.hid (show toB (rightP n) = fok n.target by
                      cases h : fok n.target with
                      | true => exact toB_true (hX.2 ⟨e1, e2, e3, h⟩)
                      | false => exact toB_false (fun h2 => by have := (hX.1 h2).2.2.2; rw [h] at this; cases this))
                    clear hX e1 e2 e3
                    generalize fok n.target = Y at HX HFT
                    generalize toB (rightP n) = X at HX ⊢
                    go_enter Try.func58, Try.ntmps58
                    go_wp2_with fail
                    refine (U1.out _).mono ?_
                    rintro e w' ⟨rfl, rfl⟩
                    go_wp2_with fail
                    refine (U2.out _).mono ?_
                    rintro e w' ⟨rfl, rfl⟩
                    go_wp2_with fail
                    refine (U3.out _).mono ?_
                    rintro e w' ⟨rfl, rfl⟩
                    go_wp2_with fail
                    refine (HFT.out _).mono ?_
                    rintro e w' ⟨rfl, rfl⟩
                    go_wp2
                    go_ret
                    exact ⟨ret_bool (by first | exact HX.out.symm | exact (decide_eq_false (by omega)).trans HX.out.symm), HB1.out⟩
                  · have q3 : (n.mode == 511) = false := by simpa using e3
                    have HX := Lib.hid (show toB (rightP n) = false from toB_false (fun h => e3 (hX.1 h).2.2.1))
                    clear hX e1 e2 e3
                    generalize toB (rightP n) = X at HX ⊢
                    go_enter Try.func58, Try.ntmps58
                    go_wp2_with fail
                    refine (U1.out _).mono ?_
                    rintro e w' ⟨rfl, rfl⟩
                    go_wp2_with fail
                    refine (U2.out _).mono ?_
                    rintro e w' ⟨rfl, rfl⟩
                    go_wp2_with fail
                    refine (U3.out _).mono ?_
                    rintro e w' ⟨rfl, rfl⟩
                    go_wp2
                    go_ret
                    exact ⟨ret_bool (by first | exact HX.out.symm | exact (decide_eq_false (by omega)).trans HX.out.symm), HB1.out⟩
                · have q2 := int1 e2
                  have HX := Lib.hid (show toB (rightP n) = false from toB_false (fun h => e2 (hX.1 h).2.1))
                  clear hX e1 e2
                  generalize toB (rightP n) = X at HX ⊢
                  go_enter Try.func58, Try.ntmps58
                  go_wp2_with fail
                  refine (U1.out _).mono ?_
                  rintro e w' ⟨rfl, rfl⟩
                  go_wp2_with fail
                  refine (U2.out _).mono ?_
                  rintro e w' ⟨rfl, rfl⟩
                  go_wp2_with fail
                  refine (U3.out _).mono ?_
                  rintro e w' ⟨rfl, rfl⟩
                  go_wp2
                  go_ret
                  exact ⟨ret_bool (by first | exact HX.out.symm | exact (decide_eq_false (by omega)).trans HX.out.symm), HB1.out⟩
              · have q1 := int1 e1
                have HX := Lib.hid (show toB (rightP n) = false from toB_false (fun h => e1 (hX.1 h).1))
                clear hX e1
                generalize toB (rightP n) = X at HX ⊢
                go_enter Try.func58, Try.ntmps58
                go_wp2_with fail
                refine (U1.out _).mono ?_
                rintro e w' ⟨rfl, rfl⟩
                go_wp2_with fail
                refine (U2.out _).mono ?_
                rintro e w' ⟨rfl, rfl⟩
                go_wp2_with fail
                refine (U3.out _).mono ?_
                rintro e w' ⟨rfl, rfl⟩
                go_wp2
                go_ret
                exact ⟨ret_bool (by first | exact HX.out.symm | exact (decide_eq_false (by omega)).trans HX.out.symm), HB1.out⟩
            · have hk3 : (n.kind == 3) = false := by simpa using k3
              have HX := Lib.hid (show toB (rightP n) = false from toB_false (fun h => by
                rcases h.2 with h | h | h
                · exact k1 h.1
                · exact k2 h.1
                · exact k3 h.1))
              clear hH k1 k2 k3
              generalize toB (rightP n) = X at HX ⊢
              go_enter Try.func58, Try.ntmps58
              go_wp2_with fail
              refine (U1.out _).mono ?_
              rintro e w' ⟨rfl, rfl⟩
              go_wp2_with fail
              refine (U2.out _).mono ?_
              rintro e w' ⟨rfl, rfl⟩
              go_wp2_with fail
              refine (U3.out _).mono ?_
              rintro e w' ⟨rfl, rfl⟩
              go_wp2
              go_ret
              exact ⟨ret_bool (by first | exact HX.out.symm | exact (decide_eq_false (by omega)).trans HX.out.symm), HB1.out⟩
theorem add_wrongB (v : Value) (n : Nd) (vd ve : Value) (w : World) (hd : BytesR w vd n.data) (he : EntsR w ve n.ents) (hf : FewB n) (hn : toB (rightP n) = false) :
    Calls Try.prog 19 #[v, nodeV n vd ve] w fun e w' => e = .returned (.tuple #[.int .i64 0, .int .i64 22]) ∧ Below w.heap.size w w' := by
  have HR := Lib.hid (fun W (hb : Below w.heap.size w W) => right_big n vd ve W (hd.below hb) (he.below hb) hf)
  rw [hn] at HR
  have HB1 := Lib.hid (ba w (.cells (ndC n vd ve) 39))
  obtain ⟨A1, c1, rfl⟩ := bytes_form hd rfl
  obtain ⟨A2, c2, rfl⟩ := ents_form he rfl
  clear hd he hf hn
  unfold nodeV
  go_enter Try.func19, Try.ntmps19
  go_wp2_with fail
  refine (HR.out _ HB1.out).mono ?_
  rintro e w3 ⟨rfl, hb3⟩
  have HB3 := Lib.hid (bt hb3 HB1.out)
  clear hb3
  go_wp2
  go_ret2
  exact ⟨rfl, HB3.out⟩
theorem right_names {n : Nd} (h : rightP n) (e : En) (he : e ∈ n.ents) : e.1.length ≤ 1000 := by
  rcases h.2 with q | q | q
  · rw [q.2.1] at he; cases he
  · have h1 := (q.2.2.2.1 e he).1
    unfold nok at h1
    simp only [Bool.and_eq_true, decide_eq_true_eq] at h1
    omega
  · rw [q.2.2.1] at he; cases he
theorem add_big (g : Nat) (t : List Nd) (P : Nat → Prop) (n : Nd) (vd ve : Value) (w : World) (h : TabR w g t P) (hd : BytesR w vd n.data) (he : EntsR w ve n.ents) (hf : FewB n) (hP : ∀ b, w.heap.size ≤ b → P b) :
    Calls Try.prog 19 #[.pointer (some ⟨g, 0, none⟩), nodeV n vd ve] w fun e w' => (∃ x y, e = .returned (.tuple #[x, y])) ∧ (∃ t', TabR w' g t' P) ∧ w.grownBy w' (some g) := by
  by_cases hn : rightP n
  · have hf' : Few n := ⟨hf.data, hf.ents, fun e he' => right_names hn e he', hf.target⟩
    refine (add_any g t P n vd ve w h hd he hf' hP 0).mono ?_
    rintro e w' ⟨rfl, ht, hg⟩
    exact ⟨⟨_, _, rfl⟩, ⟨_, ht⟩, hg⟩
  · refine (add_wrongB _ n vd ve w hd he hf (toB_false hn)).mono ?_
    rintro e w' ⟨rfl, hb⟩
    exact ⟨⟨_, _, rfl⟩, ⟨_, h.below hb⟩, grown_below hb _⟩
end Go.Proofs.Ytnecnnajngfooaa
