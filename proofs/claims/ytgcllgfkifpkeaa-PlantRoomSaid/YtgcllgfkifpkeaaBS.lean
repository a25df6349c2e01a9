/-
  The reference's Same, Right, Put, Add and Drop; trees; arguments of statements. The conditions are said at each.
-/
import Derived.Test.YtgcllgfkifpkeaaBR
import Derived.Test.YtgcllgfkifpkeaaBT
import Derived.Test.YtgcllgfkifpkeaaBC
import Derived.Test.YtgcllgfkifpkeaaBA
import Derived.Deep.DeepCutAuto
import Derived.Test.YtgcllgfkifpkeaaRows
import Derived.ProofKit
import Derived.OpenShut
import Derived.Deep.DeepHandedRow
import Derived.Carry
import Derived.Lib.LaidTab
import Derived.Deep.Slices
import Derived.Deep.Strs
namespace Go.Proofs.Ytgcllgfkifpkeaa
open Go Go.RowKit
set_option maxRecDepth 100000

theorem bA_neq {a b : Nm} : ((bA a).toList != (bA b).toList) = !decide (a = b) := by
  rw [bA_list, bA_list]
  by_cases h : a = b <;> simp [h]
theorem bA_eqq {a b : Nm} : ((bA a).toList == (bA b).toList) = decide (a = b) := by
  rw [bA_list, bA_list]
  by_cases h : a = b <;> simp [h]
theorem int_neq {a b : Int} : (a != b) = !decide (a = b) := by
  by_cases h : a = b <;> simp [h]
end Go.Proofs.Ytgcllgfkifpkeaa
namespace Go.Proofs.Ytgcllgfkifpkeaa
open Go Go.RowKit
set_option maxRecDepth 100000

/-- It answers a bool, and only reads. -/
def QuietB (w : World) (b : Bool) (e : Ending) (w' : World) : Prop := e = .returned (.bool b) ∧ ∃ m, w' = w.drewN m
end Go.Proofs.Ytgcllgfkifpkeaa
namespace Go.Proofs.Ytgcllgfkifpkeaa
open Go Go.RowKit
set_option maxRecDepth 100000

end Go.Proofs.Ytgcllgfkifpkeaa
namespace Go.Proofs.Ytgcllgfkifpkeaa
open Go Go.RowKit
set_option maxRecDepth 100000

attribute [local go_sem] cell_off4 cell_blk4
/-- The answer with a table: the table, and what stands behind it. -/
def TabAns (P : Nat → Prop) (w : World) (t : List Nd) (f : Value → Value) (e : Ending) (w' : World) : Prop := ∃ v, e = .returned (f v) ∧ NsR P w' v t ∧ Below w.heap.size w w'
theorem boxes {w : World} {a b c : Obj} : Below w.heap.size w (((w.alloc a).alloc b).alloc c) := al (al (ba _ _) _) _
end Go.Proofs.Ytgcllgfkifpkeaa
namespace Go.Proofs.Ytgcllgfkifpkeaa
open Go Go.RowKit
set_option maxRecDepth 100000

attribute [local go_sem] cell_off4 cell_blk4
end Go.Proofs.Ytgcllgfkifpkeaa
namespace Go.Proofs.Ytgcllgfkifpkeaa
open Go Go.RowKit
set_option maxRecDepth 100000

attribute [local go_sem] cell_off4 cell_blk4
/-- The model's node, and its lists lie in new memory that is there. -/
def NrP (w w' : World) (v : Value) (n : Nd) : Prop := ∃ vn vk, v = refV n vn vk ∧ StrsR w' vn (nmA (nmE n.ents)) ∧ IntsR w' vk (idE n.ents) ∧ LP (fun b => w.heap.size ≤ b ∧ b < w'.heap.size) vn ∧ LP (fun b => w.heap.size ≤ b ∧ b < w'.heap.size) vk
theorem lp_own {w : World} {B : Nat} {e : TypeId} {size n : Nat} {v : Value} {xs : List Value} (h : w.ownsRow B e size v n xs) : LP (fun b => B ≤ b ∧ b < w.heap.size) v := by
  rcases h.2 with ⟨rfl, hn⟩ | ⟨g, cap, cur, rfl, hB, hh, _⟩
  · exact LP.nil _
  · intro ad n c hv
    injection hv with hA
    injection hA with hA
    subst hA
    exact ⟨hB, (Array.getElem?_eq_some_iff.1 hh).1⟩
end Go.Proofs.Ytgcllgfkifpkeaa
namespace Go.Proofs.Ytgcllgfkifpkeaa
open Go Go.RowKit
set_option maxRecDepth 100000

attribute [local go_sem] cell_off4 cell_blk4
theorem root_step (f : Int → Int) {k : Nat} (hk : k < 24) (j : Int) : rootT f (24 - k) j = (decide (j = 1) || rootT f (24 - (k + 1)) (f j)) := by
  obtain ⟨m, hm⟩ : ∃ m, 24 - k = m + 1 := ⟨24 - (k + 1), by omega⟩
  rw [hm, show 24 - (k + 1) = m by omega]
  rfl
theorem root_none (f : Int → Int) {k : Nat} (hk : ¬ k < 24) (j : Int) : rootT f (24 - k) j = false := by
  rw [show 24 - k = 0 by omega]
  rfl
set_option maxRecDepth 100000 in
set_option maxHeartbeats 4000000 in
theorem croot_any (v : Value) (t : List Nd) (i : Int) (w : World) (h : TabP w v t) :
    Calls Try.prog 48 #[v, .int .i64 i] w fun e w' => e = .returned (.bool (rootT (parF t) 24 i)) ∧ Below w.heap.size w w' := by
  have HP := Lib.hid (fun W j (hb : Below w.heap.size w W) => parent_any v t j W (h.below hb))
  obtain ⟨X, hX⟩ : ∃ X, rootT (parF t) 24 i = X := ⟨_, rfl⟩
  rw [hX]
  have HX0 := Lib.hid hX
  clear hX h
  go_enter Try.func48, Try.ntmps48
  go_wp2
  go_loopg [1, 5] 24 (fun gh s1 s5 wr => ∃ (j : Int) (k : Nat), s1 = .int .i64 j ∧ s5 = .int .i64 k ∧ k ≤ 24 ∧ gh = 24 - k ∧ rootT (parF t) (24 - k) j = X ∧ Below w.heap.size w wr)
  case atStart => exact ⟨i, 0, rfl, rfl, Nat.zero_le _, rfl, HX0.out, Below.refl _ _⟩
  case round =>
    clear HX0
    obtain ⟨j, k, rfl, rfl, hk, rfl, hx, hbr⟩ := hrel
    have HBR := Lib.hid hbr
    clear hbr
    by_cases hlt : k < 24
    · have hlt' : (k : Int) < 24 := by omega
      rw [root_step (parF t) hlt j] at hx
      by_cases q : j = 1
      · subst q
        have HX := Lib.hid (show true = X by rw [← hx]; rfl)
        clear hx
        go_wp2
        go_ret
        exact ⟨ret_bool HX.out, HBR.out⟩
      · have q1 : (j == 1) = false := by simpa using q
        have HX := Lib.hid (show rootT (parF t) (24 - (k + 1)) (parT t 0 j : Int) = X by rw [decide_eq_false q, Bool.false_or] at hx; exact hx)
        have HPJ := Lib.hid (HP.out wr j HBR.out)
        generalize (parT t 0 j : Int) = J at HX HPJ
        clear hx q
        go_wp2_with fail
        refine HPJ.out.mono ?_
        rintro e w4 ⟨rfl, hb4⟩
        have HB4 := Lib.hid (bt hb4 HBR.out)
        clear hb4
        go_wp2
        go_roundg (24 - (k + 1))
        case measure => omega
        case rel => exact ⟨J, k + 1, rfl, by go_num, by omega, rfl, HX.out, HB4.out⟩
    · have hlt' : ¬ (k : Int) < 24 := by omega
      rw [root_none _ hlt] at hx
      have HX := Lib.hid hx
      clear hx
      go_wp2
      go_ret
      exact ⟨ret_bool HX.out, HBR.out⟩
theorem all_drop {α : Type} {f : α → Bool} {l : List α} {k : Nat} {a : α} (h : l[k]? = some a) : (l.drop k).all f = (f a && (l.drop (k + 1)).all f) := by
  obtain ⟨h1, h2⟩ := List.getElem?_eq_some_iff.1 h
  rw [List.drop_eq_getElem_cons h1, List.all_cons, h2]
set_option maxRecDepth 100000 in
set_option maxHeartbeats 4000000 in
theorem hasAll_any (v ve : Value) (t : List Nd) (l : List En) (w : World) (h : TabP w v t) (he : EntsR w ve l) (hl : l.length ≤ 1000) :
    Calls Try.prog 47 #[v, ve] w fun e w' => e = .returned (.bool (l.all (fun e => tis t e.2))) ∧ Below w.heap.size w w' := by
  have HH := Lib.hid (fun W j (hb : Below w.heap.size w W) => thas_any v t j W (h.below hb))
  obtain ⟨X, hX⟩ : ∃ X, l.all (fun e => tis t e.2) = X := ⟨_, rfl⟩
  rw [hX]
  have HX0 := Lib.hid hX
  obtain ⟨A, c, rfl⟩ := ents_form he rfl
  have HE := Lib.hid he
  clear h he hX
  go_enter Try.func47, Try.ntmps47
  go_wp2
  go_loopg [9] l.length (fun gh s9 wr => ∃ k : Nat, s9 = .int .i64 k ∧ k ≤ l.length ∧ gh = l.length - k ∧ (l.drop k).all (fun e => tis t e.2) = X ∧ Below w.heap.size w wr)
  case atStart => exact ⟨0, rfl, Nat.zero_le _, rfl, HX0.out, Below.refl _ _⟩
  case round =>
    clear HX0
    obtain ⟨k, rfl, hk, rfl, hx, hbr⟩ := hrel
    have HBR := Lib.hid hbr
    clear hbr
    by_cases hlt : k < l.length
    · have hlt' : (k : Int) < (l.length : Int) := by omega
      obtain ⟨a, hka⟩ : ∃ a, l[k]? = some a := ⟨_, List.getElem?_eq_getElem hlt⟩
      obtain ⟨ad, hA, d0, d1⟩ := ents_get (HE.out.below HBR.out) hka
      subst hA
      rw [all_drop hka] at hx
      have hadl : (ad.add (k * 2)).block < wr.heap.size := World.block_lt_of_cell? _ _ d0
      have HBA := Lib.hid (bt (ba wr (.cells #[.string (bA a.1), .int .i64 a.2] 58)) HBR.out)
      have HHA := Lib.hid (HH.out _ a.2 HBA.out)
      clear hka
      cases q : tis t a.2
      · rw [q] at HHA hx
        have HX := Lib.hid (show false = X from hx)
        clear hx q
        go_wp2_with fail
        refine HHA.out.mono ?_
        rintro e w4 ⟨rfl, hb4⟩
        have HB4 := Lib.hid (bt hb4 HBA.out)
        clear hb4
        go_wp2
        go_ret
        exact ⟨ret_bool HX.out, HB4.out⟩
      · rw [q, Bool.true_and] at hx
        rw [q] at HHA
        have HX := Lib.hid hx
        clear hx q
        go_wp2_with fail
        refine HHA.out.mono ?_
        rintro e w4 ⟨rfl, hb4⟩
        have HB4 := Lib.hid (bt hb4 HBA.out)
        clear hb4
        go_wp2
        go_roundg (l.length - (k + 1))
        case measure => omega
        case rel => exact ⟨k + 1, by go_num, by omega, rfl, HX.out, HB4.out⟩
    · have hlt' : ¬ (k : Int) < (l.length : Int) := by omega
      rw [List.drop_eq_nil_of_le (by omega)] at hx
      have HX := Lib.hid (show true = X from hx)
      clear hx
      go_wp2
      go_ret
      exact ⟨ret_bool HX.out, HBR.out⟩
end Go.Proofs.Ytgcllgfkifpkeaa
namespace Go.Proofs.Ytgcllgfkifpkeaa
open Go Go.RowKit
set_option maxRecDepth 100000

attribute [local go_sem] cell_off4 cell_blk4
/-- Does a node stand as a tree's node does? -/
def nodeT (t : List Nd) (op : List Int) (i : Int) : Bool :=
  if (tget t i).kind = 2 then (tget t i).ents.all (fun e => tis t e.2) && (decide (i = 1) || (decide (linkT t i = 1) && rootT (parF t) 24 i))
  else if (tget t i).kind = 1 ∨ (tget t i).kind = 3 then decide (0 < linkT t i) || inL op i else true
set_option maxRecDepth 100000 in
set_option maxHeartbeats 8000000 in
theorem inTree_any (v vo : Value) (t : List Nd) (op : List Int) (i : Int) (w : World) (h : TabP w v t) (ho : IntsR w vo op) (hol : op.length ≤ 1000) :
    Calls Try.prog 33 #[v, .int .i64 i, vo] w fun e w' => e = .returned (.bool (nodeT t op i)) ∧ Below w.heap.size w w' := by
  have HAT := Lib.hid (at_any v t i w h)
  have HHA := Lib.hid (fun W ve (hb : Below w.heap.size w W) (he : EntsR W ve (tget t i).ents) => hasAll_any v ve t _ W (h.below hb) he (ok_few h.ok.1 i).ents)
  have HLK := Lib.hid (fun W (hb : Below w.heap.size w W) => links_any v t i W (h.below hb))
  have HCR := Lib.hid (fun W (hb : Below w.heap.size w W) => croot_any v t i W (h.below hb))
  have HCO := Lib.hid (fun W (hb : Below w.heap.size w W) => scontains_any vo op i W (ho.below hb) hol)
  obtain ⟨X, hX⟩ : ∃ X, nodeT t op i = X := ⟨_, rfl⟩
  rw [hX]
  unfold nodeT at hX
  generalize inL op i = IL at hX HCO
  generalize rootT (parF t) 24 i = RT at hX HCR
  generalize linkT t i = LI at hX HLK
  generalize (tget t i).ents.all (fun e => tis t e.2) = AL at hX HHA
  generalize tget t i = n at hX HAT HHA
  clear h ho hol
  by_cases k2 : n.kind = 2
  · have e2 : (n.kind == 2) = true := by simpa using k2
    rw [if_pos k2] at hX
    clear k2
    cases AL
    · have HX := Lib.hid (show false = X from hX)
      clear hX
      go_enter Try.func33, Try.ntmps33
      go_wp2_with fail
      refine HAT.out.mono ?_
      rintro e w4 ⟨vd, ve, rfl, hd4, he4, hb4⟩
      obtain ⟨A1, c1, hv1⟩ := bytesT_form hd4
      obtain ⟨A2, c2, hv2⟩ := entsT_form he4
      subst hv1 hv2
      have HB4 := Lib.hid (bt (ba w4 (.cells (ndC n (.slice A1 n.data.length c1) (.slice A2 n.ents.length c2)) 35)) hb4)
      have HE4 := Lib.hid ((show EntsR _ _ _ from he4.1).below (ba w4 (.cells (ndC n (.slice A1 n.data.length c1) (.slice A2 n.ents.length c2)) 35)))
      clear hd4 he4 hb4
      unfold nodeV

      go_wp2_with fail
      refine (HHA.out _ _ HB4.out HE4.out).mono ?_
      rintro e w5 ⟨rfl, hb5⟩
      have HB5 := Lib.hid (bt hb5 HB4.out)
      clear hb5

      go_wp2
      go_ret
      exact ⟨ret_bool HX.out, HB5.out⟩
    · rw [Bool.true_and] at hX
      by_cases q1 : i = 1
      · have e1 : (i == 1) = true := by simpa using q1
        have HX := Lib.hid (show true = X by rw [← hX, decide_eq_true q1]; rfl)
        clear hX q1
        go_enter Try.func33, Try.ntmps33
        go_wp2_with fail
        refine HAT.out.mono ?_
        rintro e w4 ⟨vd, ve, rfl, hd4, he4, hb4⟩
        obtain ⟨A1, c1, hv1⟩ := bytesT_form hd4
        obtain ⟨A2, c2, hv2⟩ := entsT_form he4
        subst hv1 hv2
        have HB4 := Lib.hid (bt (ba w4 (.cells (ndC n (.slice A1 n.data.length c1) (.slice A2 n.ents.length c2)) 35)) hb4)
        have HE4 := Lib.hid ((show EntsR _ _ _ from he4.1).below (ba w4 (.cells (ndC n (.slice A1 n.data.length c1) (.slice A2 n.ents.length c2)) 35)))
        clear hd4 he4 hb4
        unfold nodeV

        go_wp2_with fail
        refine (HHA.out _ _ HB4.out HE4.out).mono ?_
        rintro e w5 ⟨rfl, hb5⟩
        have HB5 := Lib.hid (bt hb5 HB4.out)
        clear hb5

        go_wp2
        go_ret
        exact ⟨ret_bool HX.out, HB5.out⟩
      · have e1 : (i == 1) = false := by simpa using q1
        rw [decide_eq_false q1, Bool.false_or] at hX
        clear q1
        by_cases q3 : LI = 1
        · have e3 : ((LI : Int) == 1) = true := by rw [q3]; rfl
          have HX := Lib.hid (show RT = X by rw [← hX, decide_eq_true q3, Bool.true_and])
          clear hX q3
          go_enter Try.func33, Try.ntmps33
          go_wp2_with fail
          refine HAT.out.mono ?_
          rintro e w4 ⟨vd, ve, rfl, hd4, he4, hb4⟩
          obtain ⟨A1, c1, hv1⟩ := bytesT_form hd4
          obtain ⟨A2, c2, hv2⟩ := entsT_form he4
          subst hv1 hv2
          have HB4 := Lib.hid (bt (ba w4 (.cells (ndC n (.slice A1 n.data.length c1) (.slice A2 n.ents.length c2)) 35)) hb4)
          have HE4 := Lib.hid ((show EntsR _ _ _ from he4.1).below (ba w4 (.cells (ndC n (.slice A1 n.data.length c1) (.slice A2 n.ents.length c2)) 35)))
          clear hd4 he4 hb4
          unfold nodeV

          go_wp2_with fail
          refine (HHA.out _ _ HB4.out HE4.out).mono ?_
          rintro e w5 ⟨rfl, hb5⟩
          have HB5 := Lib.hid (bt hb5 HB4.out)
          clear hb5

          go_wp2_with fail
          refine (HLK.out _ HB5.out).mono ?_
          rintro e w6 ⟨rfl, hb6⟩
          have HB6 := Lib.hid (bt hb6 HB5.out)
          clear hb6

          go_wp2_with fail
          refine (HCR.out _ HB6.out).mono ?_
          rintro e w7 ⟨rfl, hb7⟩
          have HB7 := Lib.hid (bt hb7 HB6.out)
          clear hb7

          go_wp2
          go_ret
          exact ⟨ret_bool HX.out, HB7.out⟩
        · have e3 : ((LI : Int) == 1) = false := by rw [beq_eq_false_iff_ne]; omega
          have HX := Lib.hid (show false = X by rw [← hX, decide_eq_false q3]; rfl)
          clear hX q3
          go_enter Try.func33, Try.ntmps33
          go_wp2_with fail
          refine HAT.out.mono ?_
          rintro e w4 ⟨vd, ve, rfl, hd4, he4, hb4⟩
          obtain ⟨A1, c1, hv1⟩ := bytesT_form hd4
          obtain ⟨A2, c2, hv2⟩ := entsT_form he4
          subst hv1 hv2
          have HB4 := Lib.hid (bt (ba w4 (.cells (ndC n (.slice A1 n.data.length c1) (.slice A2 n.ents.length c2)) 35)) hb4)
          have HE4 := Lib.hid ((show EntsR _ _ _ from he4.1).below (ba w4 (.cells (ndC n (.slice A1 n.data.length c1) (.slice A2 n.ents.length c2)) 35)))
          clear hd4 he4 hb4
          unfold nodeV

          go_wp2_with fail
          refine (HHA.out _ _ HB4.out HE4.out).mono ?_
          rintro e w5 ⟨rfl, hb5⟩
          have HB5 := Lib.hid (bt hb5 HB4.out)
          clear hb5

          go_wp2_with fail
          refine (HLK.out _ HB5.out).mono ?_
          rintro e w6 ⟨rfl, hb6⟩
          have HB6 := Lib.hid (bt hb6 HB5.out)
          clear hb6

          go_wp2
          go_ret
          exact ⟨ret_bool HX.out, HB6.out⟩
  · have e2 : (n.kind == 2) = false := by simpa using k2
    rw [if_neg k2] at hX
    clear k2
    by_cases k1 : n.kind = 1
    · have e1 : (n.kind == 1) = true := by simpa using k1
      rw [if_pos (Or.inl k1)] at hX
      clear k1
      by_cases q3 : 0 < LI
      · have e3 : decide (0 < LI) = true := decide_eq_true q3
        have HX := Lib.hid (show true = X by rw [← hX, decide_eq_true q3]; rfl)
        clear hX q3
        go_enter Try.func33, Try.ntmps33
        go_wp2_with fail
        refine HAT.out.mono ?_
        rintro e w4 ⟨vd, ve, rfl, hd4, he4, hb4⟩
        obtain ⟨A1, c1, hv1⟩ := bytesT_form hd4
        obtain ⟨A2, c2, hv2⟩ := entsT_form he4
        subst hv1 hv2
        have HB4 := Lib.hid (bt (ba w4 (.cells (ndC n (.slice A1 n.data.length c1) (.slice A2 n.ents.length c2)) 35)) hb4)
        have HE4 := Lib.hid ((show EntsR _ _ _ from he4.1).below (ba w4 (.cells (ndC n (.slice A1 n.data.length c1) (.slice A2 n.ents.length c2)) 35)))
        clear hd4 he4 hb4
        unfold nodeV

        go_wp2_with fail
        refine (HLK.out _ HB4.out).mono ?_
        rintro e w6 ⟨rfl, hb6⟩
        have HB6 := Lib.hid (bt hb6 HB4.out)
        clear hb6

        go_wp2
        go_ret
        exact ⟨ret_bool HX.out, HB6.out⟩
      · have HX := Lib.hid (show IL = X by rw [← hX, decide_eq_false q3, Bool.false_or])
        obtain rfl : LI = 0 := by omega
        clear hX q3
        go_enter Try.func33, Try.ntmps33
        go_wp2_with fail
        refine HAT.out.mono ?_
        rintro e w4 ⟨vd, ve, rfl, hd4, he4, hb4⟩
        obtain ⟨A1, c1, hv1⟩ := bytesT_form hd4
        obtain ⟨A2, c2, hv2⟩ := entsT_form he4
        subst hv1 hv2
        have HB4 := Lib.hid (bt (ba w4 (.cells (ndC n (.slice A1 n.data.length c1) (.slice A2 n.ents.length c2)) 35)) hb4)
        have HE4 := Lib.hid ((show EntsR _ _ _ from he4.1).below (ba w4 (.cells (ndC n (.slice A1 n.data.length c1) (.slice A2 n.ents.length c2)) 35)))
        clear hd4 he4 hb4
        unfold nodeV

        go_wp2_with fail
        refine (HLK.out _ HB4.out).mono ?_
        rintro e w6 ⟨rfl, hb6⟩
        have HB6 := Lib.hid (bt hb6 HB4.out)
        clear hb6

        go_wp2_with fail
        refine (HCO.out _ HB6.out).mono ?_
        rintro e w7 ⟨rfl, rfl⟩

        go_wp2
        go_ret
        exact ⟨ret_bool HX.out, HB6.out⟩
    · have e1 : (n.kind == 1) = false := by simpa using k1
      by_cases k3 : n.kind = 3
      · have e4 : (n.kind == 3) = true := by simpa using k3
        rw [if_pos (Or.inr k3)] at hX
        clear k1 k3
        by_cases q3 : 0 < LI
        · have e3 : decide (0 < LI) = true := decide_eq_true q3
          have HX := Lib.hid (show true = X by rw [← hX, decide_eq_true q3]; rfl)
          clear hX q3
          go_enter Try.func33, Try.ntmps33
          go_wp2_with fail
          refine HAT.out.mono ?_
          rintro e w4 ⟨vd, ve, rfl, hd4, he4, hb4⟩
          obtain ⟨A1, c1, hv1⟩ := bytesT_form hd4
          obtain ⟨A2, c2, hv2⟩ := entsT_form he4
          subst hv1 hv2
          have HB4 := Lib.hid (bt (ba w4 (.cells (ndC n (.slice A1 n.data.length c1) (.slice A2 n.ents.length c2)) 35)) hb4)
          have HE4 := Lib.hid ((show EntsR _ _ _ from he4.1).below (ba w4 (.cells (ndC n (.slice A1 n.data.length c1) (.slice A2 n.ents.length c2)) 35)))
          clear hd4 he4 hb4
          unfold nodeV

          go_wp2_with fail
          refine (HLK.out _ HB4.out).mono ?_
          rintro e w6 ⟨rfl, hb6⟩
          have HB6 := Lib.hid (bt hb6 HB4.out)
          clear hb6

          go_wp2
          go_ret
          exact ⟨ret_bool HX.out, HB6.out⟩
        · have HX := Lib.hid (show IL = X by rw [← hX, decide_eq_false q3, Bool.false_or])
          obtain rfl : LI = 0 := by omega
          clear hX q3
          go_enter Try.func33, Try.ntmps33
          go_wp2_with fail
          refine HAT.out.mono ?_
          rintro e w4 ⟨vd, ve, rfl, hd4, he4, hb4⟩
          obtain ⟨A1, c1, hv1⟩ := bytesT_form hd4
          obtain ⟨A2, c2, hv2⟩ := entsT_form he4
          subst hv1 hv2
          have HB4 := Lib.hid (bt (ba w4 (.cells (ndC n (.slice A1 n.data.length c1) (.slice A2 n.ents.length c2)) 35)) hb4)
          have HE4 := Lib.hid ((show EntsR _ _ _ from he4.1).below (ba w4 (.cells (ndC n (.slice A1 n.data.length c1) (.slice A2 n.ents.length c2)) 35)))
          clear hd4 he4 hb4
          unfold nodeV

          go_wp2_with fail
          refine (HLK.out _ HB4.out).mono ?_
          rintro e w6 ⟨rfl, hb6⟩
          have HB6 := Lib.hid (bt hb6 HB4.out)
          clear hb6

          go_wp2_with fail
          refine (HCO.out _ HB6.out).mono ?_
          rintro e w7 ⟨rfl, rfl⟩

          go_wp2
          go_ret
          exact ⟨ret_bool HX.out, HB6.out⟩
      · have e4 : (n.kind == 3) = false := by simpa using k3
        rw [if_neg (fun h => h.elim k1 k3)] at hX
        have HX := Lib.hid hX
        clear k1 k3 hX
        go_enter Try.func33, Try.ntmps33
        go_wp2_with fail
        refine HAT.out.mono ?_
        rintro e w4 ⟨vd, ve, rfl, hd4, he4, hb4⟩
        obtain ⟨A1, c1, hv1⟩ := bytesT_form hd4
        obtain ⟨A2, c2, hv2⟩ := entsT_form he4
        subst hv1 hv2
        have HB4 := Lib.hid (bt (ba w4 (.cells (ndC n (.slice A1 n.data.length c1) (.slice A2 n.ents.length c2)) 35)) hb4)
        have HE4 := Lib.hid ((show EntsR _ _ _ from he4.1).below (ba w4 (.cells (ndC n (.slice A1 n.data.length c1) (.slice A2 n.ents.length c2)) 35)))
        clear hd4 he4 hb4
        unfold nodeV

        go_wp2
        go_ret
        exact ⟨ret_bool HX.out, HB4.out⟩
end Go.Proofs.Ytgcllgfkifpkeaa
namespace Go.Proofs.Ytgcllgfkifpkeaa
open Go Go.RowKit
set_option maxRecDepth 100000

attribute [local go_sem] kind_of
/-- Are the nodes a tree, but for some that are open? -/
def allT (t : List Nd) (op : List Int) : Prop := (tget t 1).kind = 2 ∧ linkT t 1 = 0 ∧ ∀ k : Nat, k < 24 → nodeT t op ((k : Int) + 1) = true
theorem node_out {t : List Nd} {op : List Int} {k : Nat} (h : t.length ≤ k) : nodeT t op ((k : Int) + 1) = true := by
  have hz : tget t ((k : Int) + 1) = Nd.zero := tget_out (by omega)
  unfold nodeT
  rw [hz, if_neg (by decide), if_neg (by decide)]
set_option maxRecDepth 100000 in
set_option maxHeartbeats 4000000 in
theorem tright_any (v vo : Value) (t : List Nd) (op : List Int) (w : World) (h : TabP w v t) (ho : IntsR w vo op) (hol : op.length ≤ 1000) :
    Calls Try.prog 15 #[v, vo] w fun e w' => e = .returned (.bool (toB (allT t op))) ∧ Below w.heap.size w w' := by
  by_cases hk : (tget t 1).kind = 2
  · have HAT := Lib.hid (at_any v t 1 w h)
    have HLK := Lib.hid (fun W (hb : Below w.heap.size w W) => links_any v t 1 W (h.below hb))
    have HRM := Lib.hid (fun W (hb : Below w.heap.size w W) => room_any v t W (h.below hb))
    have HIT := Lib.hid (fun W i (hb : Below w.heap.size w W) => inTree_any v vo t op i W (h.below hb) (ho.below hb) hol)
    have hlen := h.ok.2
    have HY := Lib.hid (show linkT t 1 = 0 → (∀ k : Nat, k < t.length → nodeT t op ((k : Int) + 1) = true) → toB (allT t op) = true from fun h1 h2 => toB_true ⟨hk, h1, fun k _ => by
      by_cases q : k < t.length
      · exact h2 k q
      · exact node_out (by omega)⟩)
    have HN1 := Lib.hid (show ¬ linkT t 1 = 0 → toB (allT t op) = false from fun h1 => toB_false (fun h2 => h1 h2.2.1))
    have HN2 := Lib.hid (show ∀ k : Nat, k < t.length → nodeT t op ((k : Int) + 1) = false → toB (allT t op) = false from fun k h1 h2 => toB_false (fun h3 => by
      rw [h3.2.2 k (by omega)] at h2; cases h2))
    have e0 : ((tget t 1).kind != 2) = false := by simpa using hk
    generalize toB (allT t op) = X at HY HN1 HN2 ⊢
    generalize linkT t 1 = LI at HLK HY HN1
    generalize tget t 1 = n at HAT e0
    clear h ho hol hk
    by_cases q : LI = 0
    · subst q
      have HY1 := Lib.hid (HY.out rfl)
      clear HY HN1
      go_enter Try.func15, Try.ntmps15
      go_wp2_with fail
      refine HAT.out.mono ?_
      rintro e w4 ⟨vd, ve, rfl, -, -, hb4⟩
      have HB4 := Lib.hid hb4
      clear hb4
      unfold nodeV
      go_wp2_with fail
      refine (HLK.out _ HB4.out).mono ?_
      rintro e w5 ⟨rfl, hb5⟩
      have HB5 := Lib.hid (bt hb5 HB4.out)
      clear hb5
      go_wp2_with fail
      refine (HRM.out _ HB5.out).mono ?_
      rintro e w6 ⟨rfl, rfl⟩
      go_wp2
      go_loopg [17] t.length (fun gh s17 wr => ∃ k : Nat, s17 = .int .i64 k ∧ k ≤ t.length ∧ gh = t.length - k ∧ (∀ j : Nat, j < k → nodeT t op ((j : Int) + 1) = true) ∧ Below w.heap.size w wr)
      case atStart => exact ⟨0, rfl, Nat.zero_le _, rfl, fun j h => absurd h (Nat.not_lt_zero _), HB5.out⟩
      case round =>
        obtain ⟨k, rfl, hk, rfl, hall, hbr⟩ := hrel
        have HALL := Lib.hid hall
        have HBR := Lib.hid hbr
        clear hall hbr
        by_cases hlt : k < t.length
        · have hlt' : (k : Int) < (t.length : Int) := by omega
          have j0 : IntKind.i64.wrap ((k : Int) + 1) = (k : Int) + 1 := by rw [IntKind.wrap_i64] <;> omega
          have HC := Lib.hid (HIT.out wr ((k : Int) + 1) HBR.out)
          cases q : nodeT t op ((k : Int) + 1)
          · rw [q] at HC
            have HX := Lib.hid (HN2.out k hlt q)
            clear q
            go_wp2_with fail
            refine HC.out.mono ?_
            rintro e w7 ⟨rfl, hb7⟩
            have HB7 := Lib.hid (bt hb7 HBR.out)
            clear hb7
            go_wp2
            go_ret
            exact ⟨ret_bool HX.out.symm, HB7.out⟩
          · rw [q] at HC
            have HQ := Lib.hid q
            clear q
            go_wp2_with fail
            refine HC.out.mono ?_
            rintro e w7 ⟨rfl, hb7⟩
            have HB7 := Lib.hid (bt hb7 HBR.out)
            clear hb7
            go_wp2
            go_roundg (t.length - (k + 1))
            case measure => omega
            case rel => exact ⟨k + 1, by go_num, by omega, rfl, (fun j h1 => by
              by_cases q : j < k
              · exact HALL.out j q
              · have e1 : j = k := by omega
                subst e1
                exact HQ.out), HB7.out⟩
        · have hlt' : ¬ (k : Int) < (t.length : Int) := by omega
          have HX := Lib.hid (HY1.out (fun j hj => HALL.out j (by omega)))
          go_wp2
          go_ret
          exact ⟨ret_bool HX.out.symm, HBR.out⟩
    · have e1 : ((LI : Int) != 0) = true := by simpa using q
      have HX := Lib.hid (HN1.out q)
      clear HY HN1 q
      go_enter Try.func15, Try.ntmps15
      go_wp2_with fail
      refine HAT.out.mono ?_
      rintro e w4 ⟨vd, ve, rfl, -, -, hb4⟩
      have HB4 := Lib.hid hb4
      clear hb4
      unfold nodeV
      go_wp2_with fail
      refine (HLK.out _ HB4.out).mono ?_
      rintro e w5 ⟨rfl, hb5⟩
      have HB5 := Lib.hid (bt hb5 HB4.out)
      clear hb5
      go_wp2
      go_ret
      exact ⟨ret_bool HX.out.symm, HB5.out⟩
  · refine (tright_no v t vo w h hk).mono ?_
    rintro e w' ⟨rfl, hb⟩
    exact ⟨by rw [toB_false (fun h3 => hk h3.1)], hb⟩
end Go.Proofs.Ytgcllgfkifpkeaa
namespace Go.Proofs.Ytgcllgfkifpkeaa
open Go Go.RowKit
set_option maxRecDepth 100000

attribute [local go_sem] cell_off4 cell_blk4
end Go.Proofs.Ytgcllgfkifpkeaa
namespace Go.Proofs.Ytgcllgfkifpkeaa
open Go Go.RowKit
set_option maxRecDepth 100000

theorem tget_nat (t : List Nd) (k : Nat) : tget t ((k : Int) + 1) = t.getD k Nd.zero := by
  by_cases h : k < t.length
  · rw [tget_at h, List.getD_eq_getElem?_getD, List.getElem?_eq_getElem h]; rfl
  · rw [tget_out (by omega), List.getD_eq_getElem?_getD, List.getElem?_eq_none (by omega)]; rfl
theorem link_cons (n : Nd) (t : List Nd) (i : Int) : linkT (n :: t) i = cntE n.ents i + linkT t i := by
  unfold linkT
  rw [List.map_cons, List.sum_cons]
theorem cnt_zero (i : Int) : cntE Nd.zero.ents i = 0 := rfl
theorem link_same (i : Int) : ∀ (t u : List Nd), (∀ k, t.getD k Nd.zero = u.getD k Nd.zero) → linkT t i = linkT u i
  | [], [], _ => rfl
  | [], m :: u, h => by
    have h0 : Nd.zero = m := h 0
    rw [link_cons, ← h0, cnt_zero, Nat.zero_add]
    exact link_same i [] u (fun k => h (k + 1))
  | n :: t, [], h => by
    have h0 : n = Nd.zero := h 0
    rw [link_cons, h0, cnt_zero, Nat.zero_add]
    exact link_same i t [] (fun k => h (k + 1))
  | n :: t, m :: u, h => by
    have h0 : n = m := h 0
    rw [link_cons, link_cons, h0, link_same i t u (fun k => h (k + 1))]
theorem par_same (i : Int) : ∀ (t u : List Nd) (d : Nat), (∀ k, t.getD k Nd.zero = u.getD k Nd.zero) → parT t d i = parT u d i
  | [], [], _, _ => rfl
  | [], m :: u, d, h => by
    have h0 : Nd.zero = m := h 0
    show 0 = (if cntE m.ents i = 0 then parT u (d + 1) i else d + 1)
    rw [← h0, if_pos (cnt_zero i)]
    exact par_same i [] u (d + 1) (fun k => h (k + 1))
  | n :: t, [], d, h => by
    have h0 : n = Nd.zero := h 0
    show (if cntE n.ents i = 0 then parT t (d + 1) i else d + 1) = 0
    rw [h0, if_pos (cnt_zero i)]
    exact par_same i t [] (d + 1) (fun k => h (k + 1))
  | n :: t, m :: u, d, h => by
    have h0 : n = m := h 0
    rw [parT, parT, h0, par_same i t u (d + 1) (fun k => h (k + 1))]
theorem get_same {t u : List Nd} (h : ∀ k, t.getD k Nd.zero = u.getD k Nd.zero) (i : Int) : tget t i = tget u i := by
  by_cases q : 1 ≤ i
  · obtain ⟨k, hk⟩ : ∃ k : Nat, i = (k : Int) + 1 := ⟨(i - 1).toNat, by omega⟩
    rw [hk, tget_nat, tget_nat, h k]
  · rw [tget_out (by omega), tget_out (by omega)]
theorem node_same {t u : List Nd} (h : ∀ k, t.getD k Nd.zero = u.getD k Nd.zero) (op : List Int) (i : Int) : nodeT t op i = nodeT u op i := by
  have h1 : tis t = tis u := funext (fun j => by unfold tis; rw [get_same h j])
  have h2 : parF t = parF u := funext (fun j => by unfold parF; rw [par_same j t u 0 h])
  unfold nodeT
  rw [get_same h i, link_same i t u h, h1, h2]
theorem all_same {t u : List Nd} (h : ∀ k, t.getD k Nd.zero = u.getD k Nd.zero) (op : List Int) : toB (allT t op) = toB (allT u op) := by
  have e : allT t op = allT u op := by
    unfold allT
    rw [get_same h 1, link_same 1 t u h]
    have h1 : ∀ k : Nat, nodeT t op ((k : Int) + 1) = nodeT u op ((k : Int) + 1) := fun k => node_same h op _
    simp only [h1]
  rw [e]
theorem sam_same {t u t' u' : List Nd} (h : ∀ k, t.getD k Nd.zero = t'.getD k Nd.zero) (h' : ∀ k, u.getD k Nd.zero = u'.getD k Nd.zero) : toB (sam24 t u) = toB (sam24 t' u') := by
  have e : sam24 t u = sam24 t' u' := by
    unfold sam24
    have h1 : ∀ k : Nat, tget t ((k : Int) + 1) = tget t' ((k : Int) + 1) := fun k => get_same h _
    have h2 : ∀ k : Nat, tget u ((k : Int) + 1) = tget u' ((k : Int) + 1) := fun k => get_same h' _
    simp only [h1, h2]
  rw [e]
theorem sam_comm (t u : List Nd) : toB (sam24 t u) = toB (sam24 u t) := by
  by_cases q : sam24 t u
  · rw [toB_true q, toB_true (show sam24 u t from fun k hk => (q k hk).symm)]
  · rw [toB_false q, toB_false (show ¬ sam24 u t from fun h => q (fun k hk => (h k hk).symm))]
/-- A table's first nodes, in a room of 24. -/
def copyT (t : List Nd) (k : Nat) : List Nd := (List.range 24).map (fun j => if j < k then t.getD j Nd.zero else Nd.zero)
theorem copy_len (t : List Nd) (k : Nat) : (copyT t k).length = 24 := by
  unfold copyT
  rw [List.length_map, List.length_range]
theorem copy_at (t : List Nd) (k j : Nat) (h : j < (copyT t k).length) : (copyT t k)[j] = if j < k then t.getD j Nd.zero else Nd.zero := by
  simp only [copyT, List.getElem_map, List.getElem_range]
theorem copy_zero (t : List Nd) : copyT t 0 = List.replicate 24 Nd.zero := by
  refine List.ext_getElem (by rw [copy_len, List.length_replicate]) (fun j h1 h2 => ?_)
  rw [copy_at, List.getElem_replicate, if_neg (by omega)]
theorem copy_all {t : List Nd} (h : t.length ≤ 24) (j : Nat) : (copyT t 24).getD j Nd.zero = t.getD j Nd.zero := by
  by_cases q : j < 24
  · have hl : j < (copyT t 24).length := by rw [copy_len]; exact q
    rw [List.getD_eq_getElem?_getD, List.getElem?_eq_getElem hl]
    show (copyT t 24)[j] = _
    rw [copy_at, if_pos q]
  · have hl : ¬ j < (copyT t 24).length := by rw [copy_len]; exact q
    rw [List.getD_eq_getElem?_getD, List.getElem?_eq_none (by omega), List.getD_eq_getElem?_getD, List.getElem?_eq_none (by omega)]
theorem copy_step (t : List Nd) (k : Nat) : setT (copyT t k) ((k : Int) + 1) (tget t ((k : Int) + 1)) = copyT t (k + 1) := by
  unfold setT
  rw [show ((k : Int) + 1 - 1).toNat = k by omega, tget_nat]
  refine List.ext_getElem (by rw [List.length_set, copy_len, copy_len]) (fun j h1 h2 => ?_)
  rw [List.getElem_set, copy_at, copy_at]
  by_cases q : k = j
  · subst q
    rw [if_pos rfl, if_pos (by omega)]
  · rw [if_neg q]
    by_cases q2 : j < k
    · rw [if_pos q2, if_pos (by omega)]
    · rw [if_neg q2, if_neg (by omega)]
theorem copy_skip {t : List Nd} {k : Nat} (h : tget t ((k : Int) + 1) = Nd.zero) : copyT t k = copyT t (k + 1) := by
  rw [tget_nat] at h
  unfold copyT
  refine List.map_congr_left (fun j _ => ?_)
  by_cases q : j < k
  · rw [if_pos q, if_pos (by omega)]
  · rw [if_neg q]
    by_cases q2 : j = k
    · subst q2
      rw [if_pos (by omega), h]
    · rw [if_neg (by omega)]
theorem copy_ok {t : List Nd} (h : okT t) (k : Nat) : okT (copyT t k) := by
  intro n hn
  unfold copyT at hn
  obtain ⟨j, -, rfl⟩ := List.mem_map.1 hn
  by_cases q : j < k
  · rw [if_pos q, ← tget_nat]
    exact ok_tget h _
  · rw [if_neg q]
    exact Or.inl rfl
end Go.Proofs.Ytgcllgfkifpkeaa
namespace Go.Proofs.Ytgcllgfkifpkeaa
open Go Go.ChangeShapes Go.WideShapes Go.ChangeAt Go.RowKit Go.Deep

theorem ownKnobs : ownKnob Try.prog.godebug = none := by kernel_rfl
/-- The world of a witness: the settled one. -/
noncomputable def laidWorld (os : Os) : World := World.holding Try.prog os ⟨#[], #[], []⟩
section
variable {H : Type} {enc : TypeId × Value → H} {P : Program}
/-- The end of a law's row: it answers one bool, and what was there is as it was. -/
theorem law_post {f : Func} {s : ChangeSpec} {W W' : World} {args : Array Value} {ds : List (DataW H)} {v : Value} {before pa : List MemPlace}
    (hW : DataW.Whole enc P f.params.toList s.vars false W args.toList ds [] before)
    (hres : DataW.TrodAll enc P W' W.heap.size (fun _ => false) false f.resultTypes.toList (v.resultList f.resultTypes.size) (s.fn H (ds ++ [])).results [])
    (hargs : DataW.TrodAll enc P W' 0 (fun b => decide (b < W.heap.size)) true f.params.toList args.toList (s.fn H (ds ++ [])).args pa)
    (hvars : DataW.TrodVars enc P W' (fun b => decide (b < W.heap.size)) s.vars (s.fn H (ds ++ [])).vars [])
    (hb : Below W.heap.size W W') : s.post enc P f false true false false W args v W' :=
  ⟨ds, [], before, [], pa, [], hW, hres, hargs, hvars, hb.frame _, fun h => by cases h⟩
end
theorem cells_str : Try.prog.cellsOf 9 = 1 := by kernel_rfl
theorem cells_u8 : Try.prog.cellsOf 5 = 1 := by kernel_rfl
theorem byte_of {n : Int} (h : (Lit.int .u8 n).wf = true) : ∃ c : UInt8, n = co c := by
  have hb : 0 ≤ n ∧ n ≤ 255 := by simpa [Lit.wf, IntKind.min, IntKind.max, IntKind.signed, IntKind.bits] using h
  refine ⟨UInt8.ofNat n.toNat, ?_⟩
  unfold co
  rw [UInt8.toNat_ofNat']
  omega
section
variable {H : Type} {enc : TypeId × Value → H} {w : World} {base : Nat} {spare : Nat → Bool} {held : Bool}
set_option maxRecDepth 100000 in
theorem read_strs {r : Reach} {b0 : Nat} {v : Value} {d : DataW H} {p : List MemPlace} (hval : Value.okWide Try.prog w r b0 23 v) (h : DataW.Trod enc Try.prog w base spare held 23 v d p) : ∃ l : List ByteArray, StrsR w v l ∧ l.length ≤ maxLen ∧ ∀ s ∈ l, s.size ≤ maxLen := by
  obtain ⟨A, L, C, rfl⟩ := okWide_slice Try.underlying23 hval
  obtain ⟨fuel, h⟩ := h
  rcases open_strs Try.underlying23 Try.underlying9 cells_str h with ⟨hv, _⟩ | ⟨a, len, cap, m, Sx, hcs, _, hl, hm, hmm, _, hi⟩
  · have hv' : Value.slice A L C = .slice none 0 0 := by simpa [Value.cells] using hv
    exact ⟨[], by rw [hv']; exact StrsR.nil w, by simp, by simp⟩
  · have hv : Value.slice A L C = .slice (some a) len cap := by simpa [Value.cells] using hcs
    have hlm : len ≤ m := by rw [hmm]; split <;> omega
    refine ⟨List.ofFn fun i : Fin len => Sx i.val, ⟨some a, cap, by rw [List.length_ofFn]; exact hv, ⟨by rw [List.length_ofFn]; exact hl, fun e => by cases e⟩, fun k s hk => ?_⟩, by rw [List.length_ofFn]; omega, fun s hs => ?_⟩
    · rw [List.getElem?_ofFn] at hk
      split at hk
      · rename_i hlt
        injection hk with hk
        subst hk
        exact ⟨a, rfl, (hi k (by omega)).1⟩
      · cases hk
    · rw [List.mem_ofFn] at hs
      obtain ⟨i, rfl⟩ := hs
      exact (hi i.val (by have := i.isLt; omega)).2
set_option maxRecDepth 100000 in
theorem read_bytes {r : Reach} {b0 : Nat} {v : Value} {d : DataW H} {p : List MemPlace} (hval : Value.okWide Try.prog w r b0 32 v) (h : DataW.Trod enc Try.prog w base spare held 32 v d p) : ∃ l : List UInt8, BytesR w v l ∧ l.length ≤ maxLen := by
  obtain ⟨A, L, C, rfl⟩ := okWide_slice Try.underlying32 hval
  obtain ⟨fuel, h⟩ := h
  rcases open_slice1 Try.underlying32 cells_u8 h with ⟨hv, _⟩ | ⟨a, len, cap, m, n, V, D, Pl, hcs, _, hl, hm, hmm, _, hi⟩
  · have hv' : Value.slice A L C = .slice none 0 0 := by simpa [Value.cells] using hv
    exact ⟨[], ⟨none, 0, by simpa using hv', fun k a hk => by simp at hk⟩, by simp⟩
  · have hv : Value.slice A L C = .slice (some a) len cap := by simpa [Value.cells] using hcs
    have hlm : len ≤ m := by rw [hmm]; split <;> omega
    have key : ∀ i, i < len → ∃ b : UInt8, w.cell? (a.add i) = some (.int .u8 (co b)) := by
      intro i hil
      obtain ⟨hc, ht⟩ := hi i (by omega)
      obtain ⟨n0, e0, _, w0⟩ := DataW.trod_int Try.underlying5 ht
      simp at e0
      obtain ⟨b, rfl⟩ := byte_of w0
      exact ⟨b, by rw [hc, e0]⟩
    refine ⟨List.ofFn fun i : Fin len => Classical.choose (key i.val i.isLt), ⟨some a, cap, by rw [List.length_ofFn]; exact hv, fun k ca hk => ?_⟩, by rw [List.length_ofFn]; omega⟩
    rw [List.getElem?_ofFn] at hk
    split at hk
    · rename_i hlt
      injection hk with hk
      subst hk
      exact ⟨a, rfl, Classical.choose_spec (key k hlt)⟩
    · cases hk
end
theorem laid_out : laidOutB Try.prog = true := by kernel_rfl
theorem strs_readable : Try.prog.readableRec 23 = true := by kernel_rfl
theorem bytes_readable : Try.prog.readableRec 32 = true := by kernel_rfl
section
variable {H : Type} {enc : TypeId × Value → H} {W W' : World} {v : Value} {d : DataW H} {p : List MemPlace}
/-- Texts read behind the call as they read before. -/
theorem shut_strs (h : DataW.Trod enc Try.prog W 0 (fun _ => true) true 23 v d p) (hb : Below W.heap.size W W') : DataW.Trod enc Try.prog W' 0 (fun b => decide (b < W.heap.size)) true 23 v d p := by
  refine Below.trod laid_out strs_readable (of_decide_eq_true (by kernel_rfl)) h hb ?_
  obtain ⟨n, hn⟩ := h
  exact DataW.trod_lt n _ _ _ hn
/-- Bytes read behind the call as they read before. -/
theorem shut_bytes (h : DataW.Trod enc Try.prog W 0 (fun _ => true) true 32 v d p) (hb : Below W.heap.size W W') : DataW.Trod enc Try.prog W' 0 (fun b => decide (b < W.heap.size)) true 32 v d p := by
  refine Below.trod laid_out bytes_readable (of_decide_eq_true (by kernel_rfl)) h hb ?_
  obtain ⟨n, hn⟩ := h
  exact DataW.trod_lt n _ _ _ hn
end
end Go.Proofs.Ytgcllgfkifpkeaa
namespace Go.Proofs.Ytgcllgfkifpkeaa
open Go Go.ChangeShapes Go.WideShapes Go.ChangeAt Go.RowKit Go.Deep

theorem cells_int : Try.prog.cellsOf 3 = 1 := by kernel_rfl
theorem cells_ent : Try.prog.cellsOf 58 = 2 := by kernel_rfl
theorem cells_node : Try.prog.cellsOf 35 = 7 := by kernel_rfl
theorem cells_bs : Try.prog.cellsOf 32 = 1 := by kernel_rfl
theorem cells_es : Try.prog.cellsOf 33 = 1 := by kernel_rfl
section
variable {H : Type} {enc : TypeId × Value → H} {P : Program} {w : World} {base : Nat} {spare : Nat → Bool} {held : Bool}
theorem trod_struct7 {t : TypeId} {f0 f1 f2 f3 f4 f5 f6 : Field} {fuel : Nat} {cs : List Value} {x : DataW H × List MemPlace} (ht : P.underlying t = some (.struct #[f0, f1, f2, f3, f4, f5, f6])) (h : DataW.trod enc P w base spare held fuel t cs = some x) :
    ∃ y0 y1 y2 y3 y4 y5 y6 n, DataW.trod enc P w base spare held n f0.type ((cs.drop f0.offset).take (P.cellsOf f0.type)) = some y0 ∧ DataW.trod enc P w base spare held n f1.type ((cs.drop f1.offset).take (P.cellsOf f1.type)) = some y1 ∧
      DataW.trod enc P w base spare held n f2.type ((cs.drop f2.offset).take (P.cellsOf f2.type)) = some y2 ∧ DataW.trod enc P w base spare held n f3.type ((cs.drop f3.offset).take (P.cellsOf f3.type)) = some y3 ∧
      DataW.trod enc P w base spare held n f4.type ((cs.drop f4.offset).take (P.cellsOf f4.type)) = some y4 ∧ DataW.trod enc P w base spare held n f5.type ((cs.drop f5.offset).take (P.cellsOf f5.type)) = some y5 ∧
      DataW.trod enc P w base spare held n f6.type ((cs.drop f6.offset).take (P.cellsOf f6.type)) = some y6 := by
  obtain ⟨xs, n, _, rfl, hl, hlen, hf⟩ := DataW.trod_struct ht h
  match xs, hlen with
  | [y0, y1, y2, y3, y4, y5, y6], _ => exact ⟨y0, y1, y2, y3, y4, y5, y6, n, by simpa using hf 0 f0 rfl, by simpa using hf 1 f1 rfl, by simpa using hf 2 f2 rfl, by simpa using hf 3 f3 rfl, by simpa using hf 4 f4 rfl, by simpa using hf 5 f5 rfl, by simpa using hf 6 f6 rfl⟩
end
section
variable {H : Type} {enc : TypeId × Value → H} {w : World} {base : Nat} {spare : Nat → Bool} {held : Bool}
theorem read_bytes' {fuel : Nat} {v : Value} {x : DataW H × List MemPlace} (h : DataW.trod enc Try.prog w base spare held fuel 32 [v] = some x) : ∃ l : List UInt8, BytesR w v l := by
  rcases open_slice1 Try.underlying32 cells_u8 h with ⟨hv, _⟩ | ⟨a, len, cap, m, n, V, D, Pl, hcs, _, hl, hm, hmm, _, hi⟩
  · have hv' : v = .slice none 0 0 := by simpa using hv
    exact ⟨[], by rw [hv']; exact BytesR.nil w⟩
  · have hv : v = .slice (some a) len cap := by simpa using hcs
    have hlm : len ≤ m := by rw [hmm]; split <;> omega
    have key : ∀ i, i < len → ∃ b : UInt8, w.cell? (a.add i) = some (.int .u8 (co b)) := by
      intro i hil
      obtain ⟨hc, ht⟩ := hi i (by omega)
      obtain ⟨n0, e0, _, w0⟩ := DataW.trod_int Try.underlying5 ht
      simp at e0
      obtain ⟨b, rfl⟩ := byte_of w0
      exact ⟨b, by rw [hc, e0]⟩
    refine ⟨List.ofFn fun i : Fin len => Classical.choose (key i.val i.isLt), ⟨some a, cap, by rw [List.length_ofFn]; exact hv, fun k ca hk => ?_⟩⟩
    rw [List.getElem?_ofFn] at hk
    split at hk
    · rename_i hlt
      injection hk with hk
      subst hk
      exact ⟨a, rfl, Classical.choose_spec (key k hlt)⟩
    · cases hk
set_option maxRecDepth 100000 in
theorem read_ents' {fuel : Nat} {v : Value} {x : DataW H × List MemPlace} (h : DataW.trod enc Try.prog w base spare held fuel 33 [v] = some x) : ∃ l : List En, EntsR w v l ∧ l.length ≤ maxLen := by
  rcases open_slice Try.underlying33 h with ⟨hv, _⟩ | ⟨a, len, cap, m, n, D, Pl, hcs, _, hl, hm, hmm, _, hi⟩
  · have hv' : v = .slice none 0 0 := by simpa using hv
    exact ⟨[], by rw [hv']; exact EntsR.nil w, by simp⟩
  · have hv : v = .slice (some a) len cap := by simpa using hcs
    have hlm : len ≤ m := by rw [hmm]; split <;> omega
    have key : ∀ i, i < len → ∃ e : En, w.cell? (a.add (i * 2)) = some (.string (bA e.1)) ∧ w.cell? ⟨(a.add (i * 2)).block, (a.add (i * 2)).off + 1, none⟩ = some (.int .i64 e.2) := by
      intro i hil
      obtain ⟨cs', hc, ht⟩ := hi i (by omega)
      rw [cells_ent] at hc
      obtain ⟨_, hcl, hat⟩ := World.cells?_some hc
      match cs', hcl with
      | [c0, c1], _ =>
        obtain ⟨y0, y1, n', _, _, h0, h1⟩ := trod_struct2 Try.underlying58 ht
        simp only [cells_int, cells_str] at h0 h1
        obtain ⟨s, e0, _⟩ := DataW.trod_string Try.underlying9 h0
        obtain ⟨n1, e1, _, _⟩ := DataW.trod_int Try.underlying3 h1
        simp at e0 e1
        have a0 := hat 0 (by decide)
        have a1 := hat 1 (by decide)
        rw [add_none] at a0
        rw [add_pos _ 1 (by decide)] at a1
        exact ⟨(tl s, n1), by rw [a0, e0]; simp only [List.getElem?_cons_zero]; rw [bA_tl], by rw [a1, e1]; rfl⟩
    refine ⟨List.ofFn fun i : Fin len => Classical.choose (key i.val i.isLt), ⟨some a, cap, by rw [List.length_ofFn]; exact hv, fun k ca hk => ?_⟩, by rw [List.length_ofFn]; omega⟩
    rw [List.getElem?_ofFn] at hk
    split at hk
    · rename_i hlt
      injection hk with hk
      subst hk
      exact ⟨a, rfl, Classical.choose_spec (key k hlt)⟩
    · cases hk
set_option maxRecDepth 100000 in
theorem read_node {r : Reach} {b0 : Nat} {v : Value} {d : DataW H} {p : List MemPlace} (hval : Value.okWide Try.prog w r b0 35 v) (h : DataW.Trod enc Try.prog w base spare held 35 v d p) : ∃ (n : Nd) (vd ve : Value), v = nodeV n vd ve ∧ BytesR w vd n.data ∧ EntsR w ve n.ents ∧ n.ents.length ≤ maxLen := by
  obtain ⟨cs, rfl, hsz⟩ := okWide_struct Try.underlying35 hval
  rw [cells_node] at hsz
  obtain ⟨l⟩ := cs
  match l, hsz with
  | [c0, c1, c2, c3, c4, c5, c6], _ =>
    obtain ⟨fuel, hf⟩ := h
    obtain ⟨y0, y1, y2, y3, y4, y5, y6, m, h0, h1, h2, h3, h4, h5, h6⟩ := trod_struct7 Try.underlying35 hf
    simp only [cells_int, cells_bs, cells_es, cells_str] at h0 h1 h2 h3 h4 h5 h6
    obtain ⟨a0, e0, _, _⟩ := DataW.trod_int Try.underlying3 h0
    obtain ⟨a1, e1, _, _⟩ := DataW.trod_int Try.underlying3 h1
    obtain ⟨a2, e2, _, _⟩ := DataW.trod_int Try.underlying3 h2
    obtain ⟨a3, e3, _, _⟩ := DataW.trod_int Try.underlying3 h3
    obtain ⟨s, e6, _⟩ := DataW.trod_string Try.underlying9 h6
    simp [Value.cells] at e0 e1 e2 e3 e6
    subst e0 e1 e2 e3 e6
    obtain ⟨ds, hD⟩ := read_bytes' (v := c4) (by simpa [Value.cells] using h4)
    obtain ⟨es, hE, hl⟩ := read_ents' (v := c5) (by simpa [Value.cells] using h5)
    exact ⟨⟨a0, a1, a2, a3, ds, es, tl s⟩, c4, c5, by unfold nodeV; rw [bA_tl], hD, hE, hl⟩
end
theorem node_readable : Try.prog.readableRec 35 = true := by kernel_rfl
/-- A node reads behind the call as it read before. -/
theorem shut_node {H : Type} {enc : TypeId × Value → H} {W W' : World} {v : Value} {d : DataW H} {p : List MemPlace} (h : DataW.Trod enc Try.prog W 0 (fun _ => true) true 35 v d p) (hb : Below W.heap.size W W') : DataW.Trod enc Try.prog W' 0 (fun b => decide (b < W.heap.size)) true 35 v d p := by
  refine Below.trod laid_out node_readable (of_decide_eq_true (by kernel_rfl)) h hb ?_
  obtain ⟨n, hn⟩ := h
  exact DataW.trod_lt n _ _ _ hn
end Go.Proofs.Ytgcllgfkifpkeaa
namespace Go.Proofs.Ytgcllgfkifpkeaa
open Go Go.ChangeShapes Go.WideShapes Go.ChangeAt Go.RowKit Go.Deep

section
variable {H : Type} {enc : TypeId × Value → H} {w : World} {base : Nat} {spare : Nat → Bool} {held : Bool}
set_option maxRecDepth 100000 in
theorem read_nums {r : Reach} {b0 : Nat} {v : Value} {d : DataW H} {p : List MemPlace} (hval : Value.okWide Try.prog w r b0 25 v) (h : DataW.Trod enc Try.prog w base spare held 25 v d p) : ∃ l : List Int, IntsR w v l ∧ l.length ≤ maxLen := by
  obtain ⟨A, L, C, rfl⟩ := okWide_slice Try.underlying25 hval
  obtain ⟨fuel, h⟩ := h
  rcases open_slice1 Try.underlying25 cells_int h with ⟨hv, _⟩ | ⟨a, len, cap, m, n, V, D, Pl, hcs, _, hl, hm, hmm, _, hi⟩
  · have hv' : Value.slice A L C = .slice none 0 0 := by simpa [Value.cells] using hv
    exact ⟨[], ⟨none, 0, by simpa using hv', fun k a hk => by simp at hk⟩, by simp⟩
  · have hv : Value.slice A L C = .slice (some a) len cap := by simpa [Value.cells] using hcs
    have hlm : len ≤ m := by rw [hmm]; split <;> omega
    have key : ∀ i, i < len → ∃ b : Int, w.cell? (a.add i) = some (.int .i64 b) := by
      intro i hil
      obtain ⟨hc, ht⟩ := hi i (by omega)
      obtain ⟨n0, e0, _, w0⟩ := DataW.trod_int Try.underlying3 ht
      simp at e0
      exact ⟨n0, by rw [hc, e0]⟩
    refine ⟨List.ofFn fun i : Fin len => Classical.choose (key i.val i.isLt), ⟨some a, cap, by rw [List.length_ofFn]; exact hv, fun k ca hk => ?_⟩, by rw [List.length_ofFn]; omega⟩
    rw [List.getElem?_ofFn] at hk
    split at hk
    · rename_i hlt
      injection hk with hk
      subst hk
      exact ⟨a, rfl, Classical.choose_spec (key k hlt)⟩
    · cases hk
end
theorem nums_readable : Try.prog.readableRec 25 = true := by kernel_rfl
section
variable {H : Type} {enc : TypeId × Value → H} {W W' : World} {v : Value} {d : DataW H} {p : List MemPlace}
theorem shut_nums (h : DataW.Trod enc Try.prog W 0 (fun _ => true) true 25 v d p) (hb : Below W.heap.size W W') : DataW.Trod enc Try.prog W' 0 (fun b => decide (b < W.heap.size)) true 25 v d p := by
  refine Below.trod laid_out nums_readable (of_decide_eq_true (by kernel_rfl)) h hb ?_
  obtain ⟨n, hn⟩ := h
  exact DataW.trod_lt n _ _ _ hn
end
end Go.Proofs.Ytgcllgfkifpkeaa
