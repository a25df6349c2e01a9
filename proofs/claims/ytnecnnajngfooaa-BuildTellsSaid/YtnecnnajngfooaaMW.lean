/-
  Does one come to the root; does a node stand as a tree's node does; Right; the reference's Same. The conditions are said at each.
-/
import Derived.Test.YtnecnnajngfooaaMT
import Derived.Test.YtnecnnajngfooaaMA
import Derived.Test.YtnecnnajngfooaaMR
import Derived.Test.YtnecnnajngfooaaMC
import Derived.Test.YtnecnnajngfooaaMS
import Derived.Deep.DeepCutAuto
namespace Go.Proofs.Ytnecnnajngfooaa
open Go Go.RowKit
set_option maxRecDepth 100000

attribute [local go_sem] cell_off4 cell_blk4
theorem root_step (f : Int → Int) {k : Nat} (hk : k < 24) (j : Int) : rootT f (24 - k) j = (decide (j = 1) || rootT f (24 - (k + 1)) (f j)) := by
  obtain ⟨m, hm⟩ : ∃ m, 24 - k = m + 1 := ⟨24 - (k + 1), by omega⟩
  rw [hm, show 24 - (k + 1) = m by omega]
  rfl
theorem root_none (f : Int → Int) {k : Nat} (hk : ¬ k < 24) (j : Int) : rootT f (24 - k) j = false := by
  rw [show 24 - k = 0 by omega]
  rfl
set_option maxRecDepth 100000 in
set_option maxHeartbeats 4000000 in
theorem croot_any (v : Value) (t : List Nd) (i : Int) (w : World) (h : TabP w v t) :
    Calls Try.prog 89 #[v, .int .i64 i] w fun e w' => e = .returned (.bool (rootT (parF t) 24 i)) ∧ Below w.heap.size w w' := by
  have HP := Lib.hid (fun W j (hb : Below w.heap.size w W) => parent_any v t j W (h.below hb))
  obtain ⟨X, hX⟩ : ∃ X, rootT (parF t) 24 i = X := ⟨_, rfl⟩
  rw [hX]
  have HX0 := Lib.hid hX
  clear hX h
  go_enter Try.func89, Try.ntmps89
  go_wp2
  go_loopg [1, 5] 24 (fun gh s1 s5 wr => ∃ (j : Int) (k : Nat), s1 = .int .i64 j ∧ s5 = .int .i64 k ∧ k ≤ 24 ∧ gh = 24 - k ∧ rootT (parF t) (24 - k) j = X ∧ Below w.heap.size w wr)
  case atStart => exact ⟨i, 0, rfl, rfl, Nat.zero_le _, rfl, HX0.out, Below.refl _ _⟩
  case round =>
    clear HX0
    obtain ⟨j, k, rfl, rfl, hk, rfl, hx, hbr⟩ := hrel
    have HBR := Lib.hid hbr
    clear hbr
    by_cases hlt : k < 24
    · have hlt' : (k : Int) < 24 := by omega
      rw [root_step (parF t) hlt j] at hx
      by_cases q : j = 1
      · subst q
        have HX := Lib.hid (show true = X by rw [← hx]; rfl)
        clear hx
        go_wp2
        go_ret
        exact ⟨ret_bool HX.out, HBR.out⟩
      · have q1 : (j == 1) = false := by simpa using q
        have HX := Lib.hid (show rootT (parF t) (24 - (k + 1)) (parT t 0 j : Int) = X by rw [decide_eq_false q, Bool.false_or] at hx; exact hx)
        have HPJ := Lib.hid (HP.out wr j HBR.out)
        generalize (parT t 0 j : Int) = J at HX HPJ
        clear hx q
        go_wp2_with fail
        refine HPJ.out.mono ?_
        rintro e w4 ⟨rfl, hb4⟩
        have HB4 := Lib.hid (bt hb4 HBR.out)
        clear hb4
        go_wp2
        go_roundg (24 - (k + 1))
        case measure => omega
        case rel => exact ⟨J, k + 1, rfl, by go_num, by omega, rfl, HX.out, HB4.out⟩
    · have hlt' : ¬ (k : Int) < 24 := by omega
      rw [root_none _ hlt] at hx
      have HX := Lib.hid hx
      clear hx
      go_wp2
      go_ret
      exact ⟨ret_bool HX.out, HBR.out⟩
set_option maxRecDepth 100000 in
set_option maxHeartbeats 4000000 in
theorem rooted_any {P : Nat → Prop} (v : Value) (t : List Nd) (i : Int) (w : World) (h : NsR P w v t) (hl : t.length ≤ 24) (ho : okT t) :
    Calls Try.prog 63 #[.agg #[v], .int .i64 i] w fun e w' => e = .returned (.bool (rootT (parF t) 24 i)) ∧ Below w.heap.size w w' := by
  have HP := Lib.hid (fun W j (hb : Below w.heap.size w W) => rparent_any v t j W (h.below hb) hl ho)
  obtain ⟨X, hX⟩ : ∃ X, rootT (parF t) 24 i = X := ⟨_, rfl⟩
  rw [hX]
  have HX0 := Lib.hid hX
  obtain ⟨ga, ka, rfl⟩ := ns_form h
  have HC0 := Lib.hid (ba w (.cells #[.slice (some ⟨ga, 0, none⟩) t.length ka] 29))
  have HA0 := Lib.hid (Blk.new w 29 #[.slice (some ⟨ga, 0, none⟩) t.length ka])
  clear hX h hl ho
  go_enter Try.func63, Try.ntmps63
  go_wp2
  go_loopg [1, 5] 24 (fun gh s1 s5 wr => ∃ (j : Int) (k : Nat), s1 = .int .i64 j ∧ s5 = .int .i64 k ∧ k ≤ 24 ∧ gh = 24 - k ∧ rootT (parF t) (24 - k) j = X ∧ Below w.heap.size w wr ∧ Blk wr w.heap.size 29 #[.slice (some ⟨ga, 0, none⟩) t.length ka])
  case atStart => exact ⟨i, 0, rfl, rfl, Nat.zero_le _, rfl, HX0.out, HC0.out, HA0.out⟩
  case round =>
    clear HX0 HC0 HA0
    obtain ⟨j, k, rfl, rfl, hk, rfl, hx, hbr, hba⟩ := hrel
    have HBR := Lib.hid hbr
    have HBA := Lib.hid hba
    have p0 : wr.cell? ⟨w.heap.size, 0, none⟩ = some (.slice (some ⟨ga, 0, none⟩) t.length ka) := hba.cell 0
    clear hbr hba
    by_cases hlt : k < 24
    · have hlt' : (k : Int) < 24 := by omega
      rw [root_step (parF t) hlt j] at hx
      by_cases q : j = 1
      · subst q
        have HX := Lib.hid (show true = X by rw [← hx]; rfl)
        clear hx
        go_wp2
        go_ret
        exact ⟨ret_bool HX.out, HBR.out⟩
      · have q1 : (j == 1) = false := by simpa using q
        have HX := Lib.hid (show rootT (parF t) (24 - (k + 1)) (parT t 0 j : Int) = X by rw [decide_eq_false q, Bool.false_or] at hx; exact hx)
        have HPJ := Lib.hid (HP.out wr j HBR.out)
        generalize (parT t 0 j : Int) = J at HX HPJ
        clear hx q
        go_wp2_with fail
        refine HPJ.out.mono ?_
        rintro e w4 ⟨rfl, hb4⟩
        have HB4 := Lib.hid (bt hb4 HBR.out)
        have HA4 := Lib.hid (HBA.out.below hb4)
        clear hb4
        go_wp2
        go_roundg (24 - (k + 1))
        case measure => omega
        case rel => exact ⟨J, k + 1, rfl, by go_num, by omega, rfl, HX.out, HB4.out, HA4.out⟩
    · have hlt' : ¬ (k : Int) < 24 := by omega
      rw [root_none _ hlt] at hx
      have HX := Lib.hid hx
      clear hx
      go_wp2
      go_ret
      exact ⟨ret_bool HX.out, HBR.out⟩
theorem all_drop {α : Type} {f : α → Bool} {l : List α} {k : Nat} {a : α} (h : l[k]? = some a) : (l.drop k).all f = (f a && (l.drop (k + 1)).all f) := by
  obtain ⟨h1, h2⟩ := List.getElem?_eq_some_iff.1 h
  rw [List.drop_eq_getElem_cons h1, List.all_cons, h2]
set_option maxRecDepth 100000 in
set_option maxHeartbeats 4000000 in
theorem hasAll_any (v ve : Value) (t : List Nd) (l : List En) (w : World) (h : TabP w v t) (he : EntsR w ve l) (hl : l.length ≤ 1000) :
    Calls Try.prog 88 #[v, ve] w fun e w' => e = .returned (.bool (l.all (fun e => tis t e.2))) ∧ Below w.heap.size w w' := by
  have HH := Lib.hid (fun W j (hb : Below w.heap.size w W) => thas_any v t j W (h.below hb))
  obtain ⟨X, hX⟩ : ∃ X, l.all (fun e => tis t e.2) = X := ⟨_, rfl⟩
  rw [hX]
  have HX0 := Lib.hid hX
  obtain ⟨A, c, rfl⟩ := ents_form he rfl
  have HE := Lib.hid he
  clear h he hX
  go_enter Try.func88, Try.ntmps88
  go_wp2
  go_loopg [9] l.length (fun gh s9 wr => ∃ k : Nat, s9 = .int .i64 k ∧ k ≤ l.length ∧ gh = l.length - k ∧ (l.drop k).all (fun e => tis t e.2) = X ∧ Below w.heap.size w wr)
  case atStart => exact ⟨0, rfl, Nat.zero_le _, rfl, HX0.out, Below.refl _ _⟩
  case round =>
    clear HX0
    obtain ⟨k, rfl, hk, rfl, hx, hbr⟩ := hrel
    have HBR := Lib.hid hbr
    clear hbr
    by_cases hlt : k < l.length
    · have hlt' : (k : Int) < (l.length : Int) := by omega
      obtain ⟨a, hka⟩ : ∃ a, l[k]? = some a := ⟨_, List.getElem?_eq_getElem hlt⟩
      obtain ⟨ad, hA, d0, d1⟩ := ents_get (HE.out.below HBR.out) hka
      subst hA
      rw [all_drop hka] at hx
      have hadl : (ad.add (k * 2)).block < wr.heap.size := World.block_lt_of_cell? _ _ d0
      have HBA := Lib.hid (bt (ba wr (.cells #[.string (bA a.1), .int .i64 a.2] 106)) HBR.out)
      have HHA := Lib.hid (HH.out _ a.2 HBA.out)
      clear hka
      cases q : tis t a.2
      · rw [q] at HHA hx
        have HX := Lib.hid (show false = X from hx)
        clear hx q
        go_wp2_with fail
        refine HHA.out.mono ?_
        rintro e w4 ⟨rfl, hb4⟩
        have HB4 := Lib.hid (bt hb4 HBA.out)
        clear hb4
        go_wp2
        go_ret
        exact ⟨ret_bool HX.out, HB4.out⟩
      · rw [q, Bool.true_and] at hx
        rw [q] at HHA
        have HX := Lib.hid hx
        clear hx q
        go_wp2_with fail
        refine HHA.out.mono ?_
        rintro e w4 ⟨rfl, hb4⟩
        have HB4 := Lib.hid (bt hb4 HBA.out)
        clear hb4
        go_wp2
        go_roundg (l.length - (k + 1))
        case measure => omega
        case rel => exact ⟨k + 1, by go_num, by omega, rfl, HX.out, HB4.out⟩
    · have hlt' : ¬ (k : Int) < (l.length : Int) := by omega
      rw [List.drop_eq_nil_of_le (by omega)] at hx
      have HX := Lib.hid (show true = X from hx)
      clear hx
      go_wp2
      go_ret
      exact ⟨ret_bool HX.out, HBR.out⟩
end Go.Proofs.Ytnecnnajngfooaa
namespace Go.Proofs.Ytnecnnajngfooaa
open Go Go.RowKit
set_option maxRecDepth 100000

attribute [local go_sem] cell_off4 cell_blk4
/-- Does a node stand as a tree's node does? -/
def nodeT (t : List Nd) (op : List Int) (i : Int) : Bool :=
  if (tget t i).kind = 2 then (tget t i).ents.all (fun e => tis t e.2) && (decide (i = 1) || (decide (linkT t i = 1) && rootT (parF t) 24 i))
  else if (tget t i).kind = 1 ∨ (tget t i).kind = 3 then decide (0 < linkT t i) || inL op i else true
set_option maxRecDepth 100000 in
set_option maxHeartbeats 8000000 in
theorem inTree_any (v vo : Value) (t : List Nd) (op : List Int) (i : Int) (w : World) (h : TabP w v t) (ho : IntsR w vo op) (hol : op.length ≤ 1000) :
    Calls Try.prog 62 #[v, .int .i64 i, vo] w fun e w' => e = .returned (.bool (nodeT t op i)) ∧ Below w.heap.size w w' := by
  have HAT := Lib.hid (at_any v t i w h)
  have HHA := Lib.hid (fun W ve (hb : Below w.heap.size w W) (he : EntsR W ve (tget t i).ents) => hasAll_any v ve t _ W (h.below hb) he (ok_few h.ok.1 i).ents)
  have HLK := Lib.hid (fun W (hb : Below w.heap.size w W) => links_any v t i W (h.below hb))
  have HCR := Lib.hid (fun W (hb : Below w.heap.size w W) => croot_any v t i W (h.below hb))
  have HCO := Lib.hid (fun W (hb : Below w.heap.size w W) => scontains_any vo op i W (ho.below hb) hol)
  obtain ⟨X, hX⟩ : ∃ X, nodeT t op i = X := ⟨_, rfl⟩
  rw [hX]
  unfold nodeT at hX
  generalize inL op i = IL at hX HCO
  generalize rootT (parF t) 24 i = RT at hX HCR
  generalize linkT t i = LI at hX HLK
  generalize (tget t i).ents.all (fun e => tis t e.2) = AL at hX HHA
  generalize tget t i = n at hX HAT HHA
  clear h ho hol
  by_cases k2 : n.kind = 2
  · have e2 : (n.kind == 2) = true := by simpa using k2
    rw [if_pos k2] at hX
    clear k2
    cases AL
    · have HX := Lib.hid (show false = X from hX)
      clear hX
      go_enter Try.func62, Try.ntmps62
      go_wp2_with fail
      refine HAT.out.mono ?_
      rintro e w4 ⟨vd, ve, rfl, hd4, he4, hb4⟩
      obtain ⟨A1, c1, hv1⟩ := bytesT_form hd4
      obtain ⟨A2, c2, hv2⟩ := entsT_form he4
      subst hv1 hv2
      have HB4 := Lib.hid (bt (ba w4 (.cells (ndC n (.slice A1 n.data.length c1) (.slice A2 n.ents.length c2)) 39)) hb4)
      have HE4 := Lib.hid ((show EntsR _ _ _ from he4.1).below (ba w4 (.cells (ndC n (.slice A1 n.data.length c1) (.slice A2 n.ents.length c2)) 39)))
      clear hd4 he4 hb4
      unfold nodeV

      go_wp2_with fail
      refine (HHA.out _ _ HB4.out HE4.out).mono ?_
      rintro e w5 ⟨rfl, hb5⟩
      have HB5 := Lib.hid (bt hb5 HB4.out)
      clear hb5

      go_wp2
      go_ret
      exact ⟨ret_bool HX.out, HB5.out⟩
    · rw [Bool.true_and] at hX
      by_cases q1 : i = 1
      · have e1 : (i == 1) = true := by simpa using q1
        have HX := Lib.hid (show true = X by rw [← hX, decide_eq_true q1]; rfl)
        clear hX q1
        go_enter Try.func62, Try.ntmps62
        go_wp2_with fail
        refine HAT.out.mono ?_
        rintro e w4 ⟨vd, ve, rfl, hd4, he4, hb4⟩
        obtain ⟨A1, c1, hv1⟩ := bytesT_form hd4
        obtain ⟨A2, c2, hv2⟩ := entsT_form he4
        subst hv1 hv2
        have HB4 := Lib.hid (bt (ba w4 (.cells (ndC n (.slice A1 n.data.length c1) (.slice A2 n.ents.length c2)) 39)) hb4)
        have HE4 := Lib.hid ((show EntsR _ _ _ from he4.1).below (ba w4 (.cells (ndC n (.slice A1 n.data.length c1) (.slice A2 n.ents.length c2)) 39)))
        clear hd4 he4 hb4
        unfold nodeV

        go_wp2_with fail
        refine (HHA.out _ _ HB4.out HE4.out).mono ?_
        rintro e w5 ⟨rfl, hb5⟩
        have HB5 := Lib.hid (bt hb5 HB4.out)
        clear hb5

        go_wp2
        go_ret
        exact ⟨ret_bool HX.out, HB5.out⟩
      · have e1 : (i == 1) = false := by simpa using q1
        rw [decide_eq_false q1, Bool.false_or] at hX
        clear q1
        by_cases q3 : LI = 1
        · have e3 : ((LI : Int) == 1) = true := by rw [q3]; rfl
          have HX := Lib.hid (show RT = X by rw [← hX, decide_eq_true q3, Bool.true_and])
          clear hX q3
          go_enter Try.func62, Try.ntmps62
          go_wp2_with fail
          refine HAT.out.mono ?_
          rintro e w4 ⟨vd, ve, rfl, hd4, he4, hb4⟩
          obtain ⟨A1, c1, hv1⟩ := bytesT_form hd4
          obtain ⟨A2, c2, hv2⟩ := entsT_form he4
          subst hv1 hv2
          have HB4 := Lib.hid (bt (ba w4 (.cells (ndC n (.slice A1 n.data.length c1) (.slice A2 n.ents.length c2)) 39)) hb4)
          have HE4 := Lib.hid ((show EntsR _ _ _ from he4.1).below (ba w4 (.cells (ndC n (.slice A1 n.data.length c1) (.slice A2 n.ents.length c2)) 39)))
          clear hd4 he4 hb4
          unfold nodeV

          go_wp2_with fail
          refine (HHA.out _ _ HB4.out HE4.out).mono ?_
          rintro e w5 ⟨rfl, hb5⟩
          have HB5 := Lib.hid (bt hb5 HB4.out)
          clear hb5

          go_wp2_with fail
          refine (HLK.out _ HB5.out).mono ?_
          rintro e w6 ⟨rfl, hb6⟩
          have HB6 := Lib.hid (bt hb6 HB5.out)
          clear hb6

          go_wp2_with fail
          refine (HCR.out _ HB6.out).mono ?_
          rintro e w7 ⟨rfl, hb7⟩
          have HB7 := Lib.hid (bt hb7 HB6.out)
          clear hb7

          go_wp2
          go_ret
          exact ⟨ret_bool HX.out, HB7.out⟩
        · have e3 : ((LI : Int) == 1) = false := by rw [beq_eq_false_iff_ne]; omega
          have HX := Lib.hid (show false = X by rw [← hX, decide_eq_false q3]; rfl)
          clear hX q3
          go_enter Try.func62, Try.ntmps62
          go_wp2_with fail
          refine HAT.out.mono ?_
          rintro e w4 ⟨vd, ve, rfl, hd4, he4, hb4⟩
          obtain ⟨A1, c1, hv1⟩ := bytesT_form hd4
          obtain ⟨A2, c2, hv2⟩ := entsT_form he4
          subst hv1 hv2
          have HB4 := Lib.hid (bt (ba w4 (.cells (ndC n (.slice A1 n.data.length c1) (.slice A2 n.ents.length c2)) 39)) hb4)
          have HE4 := Lib.hid ((show EntsR _ _ _ from he4.1).below (ba w4 (.cells (ndC n (.slice A1 n.data.length c1) (.slice A2 n.ents.length c2)) 39)))
          clear hd4 he4 hb4
          unfold nodeV

          go_wp2_with fail
          refine (HHA.out _ _ HB4.out HE4.out).mono ?_
          rintro e w5 ⟨rfl, hb5⟩
          have HB5 := Lib.hid (bt hb5 HB4.out)
          clear hb5

          go_wp2_with fail
          refine (HLK.out _ HB5.out).mono ?_
          rintro e w6 ⟨rfl, hb6⟩
          have HB6 := Lib.hid (bt hb6 HB5.out)
          clear hb6

          go_wp2
          go_ret
          exact ⟨ret_bool HX.out, HB6.out⟩
  · have e2 : (n.kind == 2) = false := by simpa using k2
    rw [if_neg k2] at hX
    clear k2
    by_cases k1 : n.kind = 1
    · have e1 : (n.kind == 1) = true := by simpa using k1
      rw [if_pos (Or.inl k1)] at hX
      clear k1
      by_cases q3 : 0 < LI
      · have e3 : decide (0 < LI) = true := decide_eq_true q3
        have HX := Lib.hid (show true = X by rw [← hX, decide_eq_true q3]; rfl)
        clear hX q3
        go_enter Try.func62, Try.ntmps62
        go_wp2_with fail
        refine HAT.out.mono ?_
        rintro e w4 ⟨vd, ve, rfl, hd4, he4, hb4⟩
        obtain ⟨A1, c1, hv1⟩ := bytesT_form hd4
        obtain ⟨A2, c2, hv2⟩ := entsT_form he4
        subst hv1 hv2
        have HB4 := Lib.hid (bt (ba w4 (.cells (ndC n (.slice A1 n.data.length c1) (.slice A2 n.ents.length c2)) 39)) hb4)
        have HE4 := Lib.hid ((show EntsR _ _ _ from he4.1).below (ba w4 (.cells (ndC n (.slice A1 n.data.length c1) (.slice A2 n.ents.length c2)) 39)))
        clear hd4 he4 hb4
        unfold nodeV

        go_wp2_with fail
        refine (HLK.out _ HB4.out).mono ?_
        rintro e w6 ⟨rfl, hb6⟩
        have HB6 := Lib.hid (bt hb6 HB4.out)
        clear hb6

        go_wp2
        go_ret
        exact ⟨ret_bool HX.out, HB6.out⟩
      · have HX := Lib.hid (show IL = X by rw [← hX, decide_eq_false q3, Bool.false_or])
        obtain rfl : LI = 0 := by omega
        clear hX q3
        go_enter Try.func62, Try.ntmps62
        go_wp2_with fail
        refine HAT.out.mono ?_
        rintro e w4 ⟨vd, ve, rfl, hd4, he4, hb4⟩
        obtain ⟨A1, c1, hv1⟩ := bytesT_form hd4
        obtain ⟨A2, c2, hv2⟩ := entsT_form he4
        subst hv1 hv2
        have HB4 := Lib.hid (bt (ba w4 (.cells (ndC n (.slice A1 n.data.length c1) (.slice A2 n.ents.length c2)) 39)) hb4)
        have HE4 := Lib.hid ((show EntsR _ _ _ from he4.1).below (ba w4 (.cells (ndC n (.slice A1 n.data.length c1) (.slice A2 n.ents.length c2)) 39)))
        clear hd4 he4 hb4
        unfold nodeV

        go_wp2_with fail
        refine (HLK.out _ HB4.out).mono ?_
        rintro e w6 ⟨rfl, hb6⟩
        have HB6 := Lib.hid (bt hb6 HB4.out)
        clear hb6

        go_wp2_with fail
        refine (HCO.out _ HB6.out).mono ?_
        rintro e w7 ⟨rfl, rfl⟩

        go_wp2
        go_ret
        exact ⟨ret_bool HX.out, HB6.out⟩
    · have e1 : (n.kind == 1) = false := by simpa using k1
      by_cases k3 : n.kind = 3
      · have e4 : (n.kind == 3) = true := by simpa using k3
        rw [if_pos (Or.inr k3)] at hX
        clear k1 k3
        by_cases q3 : 0 < LI
        · have e3 : decide (0 < LI) = true := decide_eq_true q3
          have HX := Lib.hid (show true = X by rw [← hX, decide_eq_true q3]; rfl)
          clear hX q3
          go_enter Try.func62, Try.ntmps62
          go_wp2_with fail
          refine HAT.out.mono ?_
          rintro e w4 ⟨vd, ve, rfl, hd4, he4, hb4⟩
          obtain ⟨A1, c1, hv1⟩ := bytesT_form hd4
          obtain ⟨A2, c2, hv2⟩ := entsT_form he4
          subst hv1 hv2
          have HB4 := Lib.hid (bt (ba w4 (.cells (ndC n (.slice A1 n.data.length c1) (.slice A2 n.ents.length c2)) 39)) hb4)
          have HE4 := Lib.hid ((show EntsR _ _ _ from he4.1).below (ba w4 (.cells (ndC n (.slice A1 n.data.length c1) (.slice A2 n.ents.length c2)) 39)))
          clear hd4 he4 hb4
          unfold nodeV

          go_wp2_with fail
          refine (HLK.out _ HB4.out).mono ?_
          rintro e w6 ⟨rfl, hb6⟩
          have HB6 := Lib.hid (bt hb6 HB4.out)
          clear hb6

          go_wp2
          go_ret
          exact ⟨ret_bool HX.out, HB6.out⟩
        · have HX := Lib.hid (show IL = X by rw [← hX, decide_eq_false q3, Bool.false_or])
          obtain rfl : LI = 0 := by omega
          clear hX q3
          go_enter Try.func62, Try.ntmps62
          go_wp2_with fail
          refine HAT.out.mono ?_
          rintro e w4 ⟨vd, ve, rfl, hd4, he4, hb4⟩
          obtain ⟨A1, c1, hv1⟩ := bytesT_form hd4
          obtain ⟨A2, c2, hv2⟩ := entsT_form he4
          subst hv1 hv2
          have HB4 := Lib.hid (bt (ba w4 (.cells (ndC n (.slice A1 n.data.length c1) (.slice A2 n.ents.length c2)) 39)) hb4)
          have HE4 := Lib.hid ((show EntsR _ _ _ from he4.1).below (ba w4 (.cells (ndC n (.slice A1 n.data.length c1) (.slice A2 n.ents.length c2)) 39)))
          clear hd4 he4 hb4
          unfold nodeV

          go_wp2_with fail
          refine (HLK.out _ HB4.out).mono ?_
          rintro e w6 ⟨rfl, hb6⟩
          have HB6 := Lib.hid (bt hb6 HB4.out)
          clear hb6

          go_wp2_with fail
          refine (HCO.out _ HB6.out).mono ?_
          rintro e w7 ⟨rfl, rfl⟩

          go_wp2
          go_ret
          exact ⟨ret_bool HX.out, HB6.out⟩
      · have e4 : (n.kind == 3) = false := by simpa using k3
        rw [if_neg (fun h => h.elim k1 k3)] at hX
        have HX := Lib.hid hX
        clear k1 k3 hX
        go_enter Try.func62, Try.ntmps62
        go_wp2_with fail
        refine HAT.out.mono ?_
        rintro e w4 ⟨vd, ve, rfl, hd4, he4, hb4⟩
        obtain ⟨A1, c1, hv1⟩ := bytesT_form hd4
        obtain ⟨A2, c2, hv2⟩ := entsT_form he4
        subst hv1 hv2
        have HB4 := Lib.hid (bt (ba w4 (.cells (ndC n (.slice A1 n.data.length c1) (.slice A2 n.ents.length c2)) 39)) hb4)
        have HE4 := Lib.hid ((show EntsR _ _ _ from he4.1).below (ba w4 (.cells (ndC n (.slice A1 n.data.length c1) (.slice A2 n.ents.length c2)) 39)))
        clear hd4 he4 hb4
        unfold nodeV

        go_wp2
        go_ret
        exact ⟨ret_bool HX.out, HB4.out⟩
end Go.Proofs.Ytnecnnajngfooaa
namespace Go.Proofs.Ytnecnnajngfooaa
open Go Go.RowKit
set_option maxRecDepth 100000

attribute [local go_sem] kind_of
/-- Are the nodes a tree, but for some that are open? -/
def allT (t : List Nd) (op : List Int) : Prop := (tget t 1).kind = 2 ∧ linkT t 1 = 0 ∧ ∀ k : Nat, k < 24 → nodeT t op ((k : Int) + 1) = true
theorem node_out {t : List Nd} {op : List Int} {k : Nat} (h : t.length ≤ k) : nodeT t op ((k : Int) + 1) = true := by
  have hz : tget t ((k : Int) + 1) = Nd.zero := tget_out (by omega)
  unfold nodeT
  rw [hz, if_neg (by decide), if_neg (by decide)]
set_option maxRecDepth 100000 in
set_option maxHeartbeats 4000000 in
theorem tright_any (v vo : Value) (t : List Nd) (op : List Int) (w : World) (h : TabP w v t) (ho : IntsR w vo op) (hol : op.length ≤ 1000) :
    Calls Try.prog 34 #[v, vo] w fun e w' => e = .returned (.bool (toB (allT t op))) ∧ Below w.heap.size w w' := by
  by_cases hk : (tget t 1).kind = 2
  · have HAT := Lib.hid (at_any v t 1 w h)
    have HLK := Lib.hid (fun W (hb : Below w.heap.size w W) => links_any v t 1 W (h.below hb))
    have HRM := Lib.hid (fun W (hb : Below w.heap.size w W) => room_any v t W (h.below hb))
    have HIT := Lib.hid (fun W i (hb : Below w.heap.size w W) => inTree_any v vo t op i W (h.below hb) (ho.below hb) hol)
    have hlen := h.ok.2
    have HY := Lib.hid (show linkT t 1 = 0 → (∀ k : Nat, k < t.length → nodeT t op ((k : Int) + 1) = true) → toB (allT t op) = true from fun h1 h2 => toB_true ⟨hk, h1, fun k _ => by
      by_cases q : k < t.length
      · exact h2 k q
      · exact node_out (by omega)⟩)
    have HN1 := Lib.hid (show ¬ linkT t 1 = 0 → toB (allT t op) = false from fun h1 => toB_false (fun h2 => h1 h2.2.1))
    have HN2 := Lib.hid (show ∀ k : Nat, k < t.length → nodeT t op ((k : Int) + 1) = false → toB (allT t op) = false from fun k h1 h2 => toB_false (fun h3 => by
      rw [h3.2.2 k (by omega)] at h2; cases h2))
    have e0 : ((tget t 1).kind != 2) = false := by simpa using hk
    generalize toB (allT t op) = X at HY HN1 HN2 ⊢
    generalize linkT t 1 = LI at HLK HY HN1
    generalize tget t 1 = n at HAT e0
    clear h ho hol hk
    by_cases q : LI = 0
    · subst q
      have HY1 := Lib.hid (HY.out rfl)
      clear HY HN1
      go_enter Try.func34, Try.ntmps34
      go_wp2_with fail
      refine HAT.out.mono ?_
      rintro e w4 ⟨vd, ve, rfl, -, -, hb4⟩
      have HB4 := Lib.hid hb4
      clear hb4
      unfold nodeV
      go_wp2_with fail
      refine (HLK.out _ HB4.out).mono ?_
      rintro e w5 ⟨rfl, hb5⟩
      have HB5 := Lib.hid (bt hb5 HB4.out)
      clear hb5
      go_wp2_with fail
      refine (HRM.out _ HB5.out).mono ?_
      rintro e w6 ⟨rfl, rfl⟩
      go_wp2
      go_loopg [17] t.length (fun gh s17 wr => ∃ k : Nat, s17 = .int .i64 k ∧ k ≤ t.length ∧ gh = t.length - k ∧ (∀ j : Nat, j < k → nodeT t op ((j : Int) + 1) = true) ∧ Below w.heap.size w wr)
      case atStart => exact ⟨0, rfl, Nat.zero_le _, rfl, fun j h => absurd h (Nat.not_lt_zero _), HB5.out⟩
      case round =>
        obtain ⟨k, rfl, hk, rfl, hall, hbr⟩ := hrel
        have HALL := Lib.hid hall
        have HBR := Lib.hid hbr
        clear hall hbr
        by_cases hlt : k < t.length
        · have hlt' : (k : Int) < (t.length : Int) := by omega
          have j0 : IntKind.i64.wrap ((k : Int) + 1) = (k : Int) + 1 := by rw [IntKind.wrap_i64] <;> omega
          have HC := Lib.hid (HIT.out wr ((k : Int) + 1) HBR.out)
          cases q : nodeT t op ((k : Int) + 1)
          · rw [q] at HC
            have HX := Lib.hid (HN2.out k hlt q)
            clear q
            go_wp2_with fail
            refine HC.out.mono ?_
            rintro e w7 ⟨rfl, hb7⟩
            have HB7 := Lib.hid (bt hb7 HBR.out)
            clear hb7
            go_wp2
            go_ret
            exact ⟨ret_bool HX.out.symm, HB7.out⟩
          · rw [q] at HC
            have HQ := Lib.hid q
            clear q
            go_wp2_with fail
            refine HC.out.mono ?_
            rintro e w7 ⟨rfl, hb7⟩
            have HB7 := Lib.hid (bt hb7 HBR.out)
            clear hb7
            go_wp2
            go_roundg (t.length - (k + 1))
            case measure => omega
            case rel => exact ⟨k + 1, by go_num, by omega, rfl, (fun j h1 => by
              by_cases q : j < k
              · exact HALL.out j q
              · have e1 : j = k := by omega
                subst e1
                exact HQ.out), HB7.out⟩
        · have hlt' : ¬ (k : Int) < (t.length : Int) := by omega
          have HX := Lib.hid (HY1.out (fun j hj => HALL.out j (by omega)))
          go_wp2
          go_ret
          exact ⟨ret_bool HX.out.symm, HBR.out⟩
    · have e1 : ((LI : Int) != 0) = true := by simpa using q
      have HX := Lib.hid (HN1.out q)
      clear HY HN1 q
      go_enter Try.func34, Try.ntmps34
      go_wp2_with fail
      refine HAT.out.mono ?_
      rintro e w4 ⟨vd, ve, rfl, -, -, hb4⟩
      have HB4 := Lib.hid hb4
      clear hb4
      unfold nodeV
      go_wp2_with fail
      refine (HLK.out _ HB4.out).mono ?_
      rintro e w5 ⟨rfl, hb5⟩
      have HB5 := Lib.hid (bt hb5 HB4.out)
      clear hb5
      go_wp2
      go_ret
      exact ⟨ret_bool HX.out.symm, HB5.out⟩
  · refine (tright_no v t vo w h hk).mono ?_
    rintro e w' ⟨rfl, hb⟩
    exact ⟨by rw [toB_false (fun h3 => hk h3.1)], hb⟩
end Go.Proofs.Ytnecnnajngfooaa
namespace Go.Proofs.Ytnecnnajngfooaa
open Go Go.RowKit
set_option maxRecDepth 100000

attribute [local go_sem] cell_off4 cell_blk4
theorem rget_rf {P : Nat → Prop} (v : Value) (t : List Nd) (i : Int) (w : World) (h : NsR P w v t) (hl : t.length ≤ 24) :
    Calls Try.prog 25 #[.agg #[v], .int .i64 i] w fun e w' => ∃ vn vk, e = .returned (.agg (rfC (tget t i) vn vk)) ∧ StrsR w' vn (nmA (nmE (tget t i).ents)) ∧ IntsR w' vk (idE (tget t i).ents) ∧ Below w.heap.size w w' := by
  refine (rget_any v t i w h hl).mono ?_
  rintro e w' ⟨u, rfl, ⟨vn, vk, rfl, hn, hk⟩, hb⟩
  exact ⟨vn, vk, rfl, hn, hk, hb⟩
set_option maxRecDepth 100000 in
set_option maxHeartbeats 4000000 in
theorem rtsame_any {P P' : Nat → Prop} (va vb : Value) (t u : List Nd) (w : World) (h : NsR P w va t) (h' : NsR P' w vb u) (hl : t.length ≤ 24) (hl' : u.length ≤ 24) (ho : okT t) (ho' : okT u) :
    Calls Try.prog 39 #[.agg #[va], .agg #[vb]] w fun e w' => e = .returned (.bool (toB (sam24 t u))) ∧ Below w.heap.size w w' := by
  have HGA := Lib.hid (fun W i (hb : Below w.heap.size w W) => rget_rf va t i W (h.below hb) hl)
  have HGB := Lib.hid (fun W i (hb : Below w.heap.size w W) => rget_rf vb u i W (h'.below hb) hl')
  have HF := Lib.hid (fun i => ok_few ho i)
  have HF' := Lib.hid (fun i => ok_few ho' i)
  have HY := Lib.hid (show (∀ k : Nat, k < 24 → tget t ((k : Int) + 1) = tget u ((k : Int) + 1)) → toB (sam24 t u) = true from fun h => toB_true h)
  have HN := Lib.hid (show ∀ k : Nat, k < 24 → ¬ tget t ((k : Int) + 1) = tget u ((k : Int) + 1) → toB (sam24 t u) = false from fun k hk hq => toB_false (fun hs => hq (hs k hk)))
  generalize toB (sam24 t u) = X at HY HN ⊢
  obtain ⟨ga, ka, rfl⟩ := ns_form h
  obtain ⟨gb, kb, rfl⟩ := ns_form h'
  have HA0 := Lib.hid ((Blk.new w 29 #[.slice (some ⟨ga, 0, none⟩) t.length ka]).below (ba (w.alloc (.cells #[.slice (some ⟨ga, 0, none⟩) t.length ka] 29)) (.cells #[.slice (some ⟨gb, 0, none⟩) u.length kb] 29)))
  have HB0 := Lib.hid (Blk.new (w.alloc (.cells #[.slice (some ⟨ga, 0, none⟩) t.length ka] 29)) 29 #[.slice (some ⟨gb, 0, none⟩) u.length kb])
  have HC0 := Lib.hid (al (o := .cells #[.slice (some ⟨gb, 0, none⟩) u.length kb] 29) (ba w (.cells #[.slice (some ⟨ga, 0, none⟩) t.length ka] 29)))
  clear h h' ho ho' hl hl'
  go_enter Try.func39, Try.ntmps39
  go_wp2
  go_loopg [5] 24 (fun gh s5 wr => ∃ k : Nat, s5 = .int .i64 ((k : Int) + 1) ∧ k ≤ 24 ∧ gh = 24 - k ∧ (∀ j : Nat, j < k → tget t ((j : Int) + 1) = tget u ((j : Int) + 1)) ∧ Below w.heap.size w wr ∧ Blk wr w.heap.size 29 #[.slice (some ⟨ga, 0, none⟩) t.length ka] ∧ Blk wr (w.heap.size + 1) 29 #[.slice (some ⟨gb, 0, none⟩) u.length kb])
  case atStart => exact ⟨0, rfl, Nat.zero_le _, rfl, fun j h => absurd h (Nat.not_lt_zero _), HC0.out, HA0.out, by have h := HB0.out; simpa using h⟩
  case round =>
    clear HA0 HB0 HC0
    obtain ⟨k, rfl, hk, rfl, hall, hbr, hba, hbb⟩ := hrel
    have HALL := Lib.hid hall
    have HBR := Lib.hid hbr
    have HBA := Lib.hid hba
    have HBB := Lib.hid hbb
    clear hbr hall hba hbb
    by_cases hlt : k < 24
    · have hlt' : (k : Int) + 1 ≤ 24 := by omega
      have j0 : IntKind.i64.wrap ((k : Int) + 1 + 1) = ((k + 1 : Nat) : Int) + 1 := by rw [IntKind.wrap_i64] <;> omega
      have HGk := Lib.hid (fun W (hb : Below w.heap.size w W) => HGA.out W ((k : Int) + 1) hb)
      have HGk' := Lib.hid (fun W (hb : Below w.heap.size w W) => HGB.out W ((k : Int) + 1) hb)
      have HFk := Lib.hid (HF.out ((k : Int) + 1))
      have HFk' := Lib.hid (HF'.out ((k : Int) + 1))
      have HNk := Lib.hid (HN.out k hlt)
      obtain ⟨a, hta⟩ : ∃ a, tget t ((k : Int) + 1) = a := ⟨_, rfl⟩
      obtain ⟨b, htb⟩ : ∃ b, tget u ((k : Int) + 1) = b := ⟨_, rfl⟩
      rw [hta] at HGk HFk HNk
      rw [htb] at HGk' HFk' HNk
      have HTA := Lib.hid hta
      have HTB := Lib.hid htb
      clear hta htb
      have HS := Lib.hid (fun W vn vk vn' vk' h1 h2 h3 h4 => rsame_any (w := W) a b vn vk vn' vk' h1 h2 h3 h4 HFk.out.ents HFk'.out.ents)
      have hbd : Below w.heap.size w wr.drew := bt (Below.refl _ _).drew HBR.out
      have p0 : wr.drew.cell? ⟨w.heap.size, 0, none⟩ = some (.slice (some ⟨ga, 0, none⟩) t.length ka) := HBA.out.cell 0
      have p1 : wr.drew.cell? ⟨w.heap.size + 1, 0, none⟩ = some (.slice (some ⟨gb, 0, none⟩) u.length kb) := HBB.out.cell 0
      have HBD := Lib.hid hbd
      clear hbd
      have SX : wr.drew.cell? ⟨w.heap.size, 0, none⟩ = some (.slice (some ⟨ga, 0, none⟩) t.length ka) ∧ wr.drew.cell? ⟨w.heap.size + 1, 0, none⟩ = some (.slice (some ⟨gb, 0, none⟩) u.length kb) := ⟨p0, p1⟩
      have SK : ∀ (Y Y' : World), Below Y.heap.size Y Y' → (Y.cell? ⟨w.heap.size, 0, none⟩ = some (.slice (some ⟨ga, 0, none⟩) t.length ka) ∧ Y.cell? ⟨w.heap.size + 1, 0, none⟩ = some (.slice (some ⟨gb, 0, none⟩) u.length kb)) → (Y'.cell? ⟨w.heap.size, 0, none⟩ = some (.slice (some ⟨ga, 0, none⟩) t.length ka) ∧ Y'.cell? ⟨w.heap.size + 1, 0, none⟩ = some (.slice (some ⟨gb, 0, none⟩) u.length kb)) := fun Y Y' hb ⟨a0, a1⟩ => ⟨bc hb a0, bc hb a1⟩
      by_cases q : a = b
      · rw [toB_true q] at HS
        have HQ := Lib.hid q
        clear q HNk
        go_upto_region 4 with fail
        go_region_held3 (fun w' => w'.cell? ⟨w.heap.size, 0, none⟩ = some (.slice (some ⟨ga, 0, none⟩) t.length ka) ∧ w'.cell? ⟨w.heap.size + 1, 0, none⟩ = some (.slice (some ⟨gb, 0, none⟩) u.length kb))
          (first | exact SX | exact (SK _ _ h1 SX) | exact (SK _ _ h2 (SK _ _ h1 SX)) | exact (SK _ _ h3 (SK _ _ h2 (SK _ _ h1 SX))))
          (first
            | (go_at_call 25; (with_reducible refine (HGk.out _ HBD.out).mono ?_); rintro e1 x1 ⟨vn, vk, rfl, sn1, sk1, h1⟩)
            | (go_at_call 25; (with_reducible refine (HGk'.out _ (bt h1 HBD.out)).mono ?_); rintro e2 x2 ⟨vn', vk', rfl, sn2, sk2, h2⟩)
            | (go_at_call 24; (with_reducible refine (HS.out _ _ _ _ _ (sn1.below h2) (sk1.below h2) sn2 sk2).mono ?_); rintro e3 x3 ⟨rfl, h3⟩))
        all_goals (
          have HB6 := Lib.hid (bt h3 (bt h2 (bt h1 HBD.out)))
          have HE6 := Lib.hid (HBA.out.below ((Below.refl _ _).drew : Below wr.heap.size wr wr.drew))
          go_wp2
          go_roundg (24 - (k + 1))
          case measure => omega
          case rel => exact ⟨k + 1, by go_num, by omega, rfl, (fun j h1 => by
            by_cases q : j < k
            · exact HALL.out j q
            · have e1 : j = k := by omega
              subst e1
              rw [HTA.out, HTB.out]
              exact HQ.out), HB6.out, ((HBA.out.below (Below.refl _ _).drew).below h1 |>.below h2 |>.below h3), ((HBB.out.below (Below.refl _ _).drew).below h1 |>.below h2 |>.below h3)⟩)
      · rw [toB_false q] at HS
        have HX := Lib.hid (HNk.out q)
        clear q HNk
        go_upto_region 4 with fail
        go_region_held3 (fun w' => w'.cell? ⟨w.heap.size, 0, none⟩ = some (.slice (some ⟨ga, 0, none⟩) t.length ka) ∧ w'.cell? ⟨w.heap.size + 1, 0, none⟩ = some (.slice (some ⟨gb, 0, none⟩) u.length kb))
          (first | exact SX | exact (SK _ _ h1 SX) | exact (SK _ _ h2 (SK _ _ h1 SX)) | exact (SK _ _ h3 (SK _ _ h2 (SK _ _ h1 SX))))
          (first
            | (go_at_call 25; (with_reducible refine (HGk.out _ HBD.out).mono ?_); rintro e1 x1 ⟨vn, vk, rfl, sn1, sk1, h1⟩)
            | (go_at_call 25; (with_reducible refine (HGk'.out _ (bt h1 HBD.out)).mono ?_); rintro e2 x2 ⟨vn', vk', rfl, sn2, sk2, h2⟩)
            | (go_at_call 24; (with_reducible refine (HS.out _ _ _ _ _ (sn1.below h2) (sk1.below h2) sn2 sk2).mono ?_); rintro e3 x3 ⟨rfl, h3⟩))
        all_goals (
          have HB6 := Lib.hid (bt h3 (bt h2 (bt h1 HBD.out)))
          go_wp2
          go_ret
          exact ⟨ret_bool HX.out.symm, HB6.out⟩)
    · have hlt' : ¬ (k : Int) + 1 ≤ 24 := by omega
      have HX := Lib.hid (HY.out (fun j hj => HALL.out j (by omega)))
      go_wp2
      go_ret
      exact ⟨ret_bool HX.out.symm, HBR.out⟩
end Go.Proofs.Ytnecnnajngfooaa
namespace Go.Proofs.Ytnecnnajngfooaa
open Go Go.RowKit
set_option maxRecDepth 100000

theorem tget_nat (t : List Nd) (k : Nat) : tget t ((k : Int) + 1) = t.getD k Nd.zero := by
  by_cases h : k < t.length
  · rw [tget_at h, List.getD_eq_getElem?_getD, List.getElem?_eq_getElem h]; rfl
  · rw [tget_out (by omega), List.getD_eq_getElem?_getD, List.getElem?_eq_none (by omega)]; rfl
theorem link_cons (n : Nd) (t : List Nd) (i : Int) : linkT (n :: t) i = cntE n.ents i + linkT t i := by
  unfold linkT
  rw [List.map_cons, List.sum_cons]
theorem cnt_zero (i : Int) : cntE Nd.zero.ents i = 0 := rfl
theorem link_same (i : Int) : ∀ (t u : List Nd), (∀ k, t.getD k Nd.zero = u.getD k Nd.zero) → linkT t i = linkT u i
  | [], [], _ => rfl
  | [], m :: u, h => by
    have h0 : Nd.zero = m := h 0
    rw [link_cons, ← h0, cnt_zero, Nat.zero_add]
    exact link_same i [] u (fun k => h (k + 1))
  | n :: t, [], h => by
    have h0 : n = Nd.zero := h 0
    rw [link_cons, h0, cnt_zero, Nat.zero_add]
    exact link_same i t [] (fun k => h (k + 1))
  | n :: t, m :: u, h => by
    have h0 : n = m := h 0
    rw [link_cons, link_cons, h0, link_same i t u (fun k => h (k + 1))]
theorem par_same (i : Int) : ∀ (t u : List Nd) (d : Nat), (∀ k, t.getD k Nd.zero = u.getD k Nd.zero) → parT t d i = parT u d i
  | [], [], _, _ => rfl
  | [], m :: u, d, h => by
    have h0 : Nd.zero = m := h 0
    show 0 = (if cntE m.ents i = 0 then parT u (d + 1) i else d + 1)
    rw [← h0, if_pos (cnt_zero i)]
    exact par_same i [] u (d + 1) (fun k => h (k + 1))
  | n :: t, [], d, h => by
    have h0 : n = Nd.zero := h 0
    show (if cntE n.ents i = 0 then parT t (d + 1) i else d + 1) = 0
    rw [h0, if_pos (cnt_zero i)]
    exact par_same i t [] (d + 1) (fun k => h (k + 1))
  | n :: t, m :: u, d, h => by
    have h0 : n = m := h 0
    rw [parT, parT, h0, par_same i t u (d + 1) (fun k => h (k + 1))]
theorem get_same {t u : List Nd} (h : ∀ k, t.getD k Nd.zero = u.getD k Nd.zero) (i : Int) : tget t i = tget u i := by
  by_cases q : 1 ≤ i
  · obtain ⟨k, hk⟩ : ∃ k : Nat, i = (k : Int) + 1 := ⟨(i - 1).toNat, by omega⟩
    rw [hk, tget_nat, tget_nat, h k]
  · rw [tget_out (by omega), tget_out (by omega)]
theorem node_same {t u : List Nd} (h : ∀ k, t.getD k Nd.zero = u.getD k Nd.zero) (op : List Int) (i : Int) : nodeT t op i = nodeT u op i := by
  have h1 : tis t = tis u := funext (fun j => by unfold tis; rw [get_same h j])
  have h2 : parF t = parF u := funext (fun j => by unfold parF; rw [par_same j t u 0 h])
  unfold nodeT
  rw [get_same h i, link_same i t u h, h1, h2]
theorem all_same {t u : List Nd} (h : ∀ k, t.getD k Nd.zero = u.getD k Nd.zero) (op : List Int) : toB (allT t op) = toB (allT u op) := by
  have e : allT t op = allT u op := by
    unfold allT
    rw [get_same h 1, link_same 1 t u h]
    have h1 : ∀ k : Nat, nodeT t op ((k : Int) + 1) = nodeT u op ((k : Int) + 1) := fun k => node_same h op _
    simp only [h1]
  rw [e]
theorem sam_same {t u t' u' : List Nd} (h : ∀ k, t.getD k Nd.zero = t'.getD k Nd.zero) (h' : ∀ k, u.getD k Nd.zero = u'.getD k Nd.zero) : toB (sam24 t u) = toB (sam24 t' u') := by
  have e : sam24 t u = sam24 t' u' := by
    unfold sam24
    have h1 : ∀ k : Nat, tget t ((k : Int) + 1) = tget t' ((k : Int) + 1) := fun k => get_same h _
    have h2 : ∀ k : Nat, tget u ((k : Int) + 1) = tget u' ((k : Int) + 1) := fun k => get_same h' _
    simp only [h1, h2]
  rw [e]
theorem sam_comm (t u : List Nd) : toB (sam24 t u) = toB (sam24 u t) := by
  by_cases q : sam24 t u
  · rw [toB_true q, toB_true (show sam24 u t from fun k hk => (q k hk).symm)]
  · rw [toB_false q, toB_false (show ¬ sam24 u t from fun h => q (fun k hk => (h k hk).symm))]
/-- A table's first nodes, in a room of 24. -/
def copyT (t : List Nd) (k : Nat) : List Nd := (List.range 24).map (fun j => if j < k then t.getD j Nd.zero else Nd.zero)
theorem copy_len (t : List Nd) (k : Nat) : (copyT t k).length = 24 := by
  unfold copyT
  rw [List.length_map, List.length_range]
theorem copy_at (t : List Nd) (k j : Nat) (h : j < (copyT t k).length) : (copyT t k)[j] = if j < k then t.getD j Nd.zero else Nd.zero := by
  simp only [copyT, List.getElem_map, List.getElem_range]
theorem copy_zero (t : List Nd) : copyT t 0 = List.replicate 24 Nd.zero := by
  refine List.ext_getElem (by rw [copy_len, List.length_replicate]) (fun j h1 h2 => ?_)
  rw [copy_at, List.getElem_replicate, if_neg (by omega)]
theorem copy_all {t : List Nd} (h : t.length ≤ 24) (j : Nat) : (copyT t 24).getD j Nd.zero = t.getD j Nd.zero := by
  by_cases q : j < 24
  · have hl : j < (copyT t 24).length := by rw [copy_len]; exact q
    rw [List.getD_eq_getElem?_getD, List.getElem?_eq_getElem hl]
    show (copyT t 24)[j] = _
    rw [copy_at, if_pos q]
  · have hl : ¬ j < (copyT t 24).length := by rw [copy_len]; exact q
    rw [List.getD_eq_getElem?_getD, List.getElem?_eq_none (by omega), List.getD_eq_getElem?_getD, List.getElem?_eq_none (by omega)]
theorem copy_step (t : List Nd) (k : Nat) : setT (copyT t k) ((k : Int) + 1) (tget t ((k : Int) + 1)) = copyT t (k + 1) := by
  unfold setT
  rw [show ((k : Int) + 1 - 1).toNat = k by omega, tget_nat]
  refine List.ext_getElem (by rw [List.length_set, copy_len, copy_len]) (fun j h1 h2 => ?_)
  rw [List.getElem_set, copy_at, copy_at]
  by_cases q : k = j
  · subst q
    rw [if_pos rfl, if_pos (by omega)]
  · rw [if_neg q]
    by_cases q2 : j < k
    · rw [if_pos q2, if_pos (by omega)]
    · rw [if_neg q2, if_neg (by omega)]
theorem copy_skip {t : List Nd} {k : Nat} (h : tget t ((k : Int) + 1) = Nd.zero) : copyT t k = copyT t (k + 1) := by
  rw [tget_nat] at h
  unfold copyT
  refine List.map_congr_left (fun j _ => ?_)
  by_cases q : j < k
  · rw [if_pos q, if_pos (by omega)]
  · rw [if_neg q]
    by_cases q2 : j = k
    · subst q2
      rw [if_pos (by omega), h]
    · rw [if_neg (by omega)]
theorem copy_ok {t : List Nd} (h : okT t) (k : Nat) : okT (copyT t k) := by
  intro n hn
  unfold copyT at hn
  obtain ⟨j, -, rfl⟩ := List.mem_map.1 hn
  by_cases q : j < k
  · rw [if_pos q, ← tget_nat]
    exact ok_tget h _
  · rw [if_neg q]
    exact Or.inl rfl
end Go.Proofs.Ytnecnnajngfooaa
