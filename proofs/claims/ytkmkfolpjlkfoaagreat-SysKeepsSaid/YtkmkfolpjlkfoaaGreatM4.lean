/-
  The reference's table. The conditions are said at each. The reference's Same, Right, Put, Add and Drop; trees; arguments of statements. The conditions are said at each. What is told of a tree, and the tree of it, as plain mathematics. No condition.
-/
import Derived.Test.YtkmkfolpjlkfoaaGreatM0
import Derived.Test.YtkmkfolpjlkfoaaGreatM1
import Derived.Test.YtkmkfolpjlkfoaaGreatM3
import Derived.Deep.DeepCutAuto
import Derived.Test.YtkmkfolpjlkfoaaGreatRows
import Derived.ProofKit
import Derived.OpenShut
import Derived.Deep.DeepHandedRow
import Derived.Carry
import Derived.Lib.LaidTab
import Derived.Deep.Slices
import Derived.Deep.Strs
namespace Go.Proofs.YtkmkfolpjlkfoaaGreat
open Go Go.RowKit
set_option maxRecDepth 100000

attribute [local go_sem] cell_off4 cell_blk4
end Go.Proofs.YtkmkfolpjlkfoaaGreat
namespace Go.Proofs.YtkmkfolpjlkfoaaGreat
open Go Go.RowKit
set_option maxRecDepth 100000

section
variable {w wr : World} {g u R : Nat} {T : List Nd}
end
end Go.Proofs.YtkmkfolpjlkfoaaGreat
namespace Go.Proofs.YtkmkfolpjlkfoaaGreat
open Go Go.RowKit
set_option maxRecDepth 100000

section
variable {P : Nat → Prop} {w w' : World} {v : Value} {t : List Nd}
theorem StrsR.other {m : Nat} {l : List ByteArray} (h : StrsR w v l) (hg : w.grownBy w' (some m)) (hne : ∀ (ad : Addr) (n c : Nat), v = .slice (some ad) n c → ad.block ≠ m) : StrsR w' v l := by
  obtain ⟨A, c, rfl, hle, hc⟩ := h
  refine ⟨A, c, rfl, hle, fun k e hk => ?_⟩
  obtain ⟨ad, rfl, h0⟩ := hc k e hk
  have e1 : (ad.add k).block = ad.block := by unfold Addr.add; split <;> rfl
  refine ⟨ad, rfl, ?_⟩
  rw [← h0]
  exact World.cell?_of_block (hg.block _ (World.block_lt_of_cell? _ _ h0) (by rw [e1]; intro q; injection q with q; exact hne ad _ _ rfl q))
theorem IntsR.other {m : Nat} {l : List Int} (h : IntsR w v l) (hg : w.grownBy w' (some m)) (hne : ∀ (ad : Addr) (n c : Nat), v = .slice (some ad) n c → ad.block ≠ m) : IntsR w' v l := by
  obtain ⟨A, c, rfl, hc⟩ := h
  refine ⟨A, c, rfl, fun k e hk => ?_⟩
  obtain ⟨ad, rfl, h0⟩ := hc k e hk
  have e1 : (ad.add k).block = ad.block := by unfold Addr.add; split <;> rfl
  refine ⟨ad, rfl, ?_⟩
  rw [← h0]
  exact World.cell?_of_block (hg.block _ (World.block_lt_of_cell? _ _ h0) (by rw [e1]; intro q; injection q with q; exact hne ad _ _ rfl q))
end
end Go.Proofs.YtkmkfolpjlkfoaaGreat
namespace Go.Proofs.YtkmkfolpjlkfoaaGreat
open Go Go.RowKit
set_option maxRecDepth 100000

attribute [local go_sem] cell_off4 cell_blk4
end Go.Proofs.YtkmkfolpjlkfoaaGreat
namespace Go.Proofs.YtkmkfolpjlkfoaaGreat
open Go Go.RowKit
set_option maxRecDepth 100000

section
variable {w : World} {g o : Nat} {t : TypeId} {cs : Array Value} {u0 u1 u2 u3 u4 u5 u6 u7 : Value}
end
theorem own_some {w : World} {B : Nat} {e : TypeId} {size n : Nat} {v : Value} {xs : List Value} (h : w.ownsRow B e size v n xs) (hn : 0 < n) : ∃ g' cap cur, v = .slice (some ⟨g', 0, none⟩) n cap ∧ B ≤ g' ∧ Blk w g' e cur ∧ n * size ≤ cur.size ∧ ∀ j u, xs[j]? = some u → w.cell? ⟨g', j, none⟩ = some u := by
  have h0 := h
  rcases h.2 with ⟨rfl, hz⟩ | ⟨g, cap, cur, rfl, hB, hh, hc, _, hs, _⟩
  · omega
  · exact ⟨g, cap, cur, rfl, hB, hh, by rw [hs]; exact Nat.mul_le_mul_right _ hc, fun j u hj => row_at h0 j u hj⟩
attribute [local go_sem] cell_off4 cell_blk4
end Go.Proofs.YtkmkfolpjlkfoaaGreat
namespace Go.Proofs.YtkmkfolpjlkfoaaGreat
open Go Go.RowKit
set_option maxRecDepth 100000

attribute [local go_sem] cell_off4 cell_blk4
end Go.Proofs.YtkmkfolpjlkfoaaGreat
namespace Go.Proofs.YtkmkfolpjlkfoaaGreat
open Go Go.RowKit
set_option maxRecDepth 100000

end Go.Proofs.YtkmkfolpjlkfoaaGreat
namespace Go.Proofs.YtkmkfolpjlkfoaaGreat
open Go Go.RowKit
set_option maxRecDepth 100000

end Go.Proofs.YtkmkfolpjlkfoaaGreat
namespace Go.Proofs.YtkmkfolpjlkfoaaGreat
open Go Go.RowKit
set_option maxRecDepth 100000

end Go.Proofs.YtkmkfolpjlkfoaaGreat
namespace Go.Proofs.YtkmkfolpjlkfoaaGreat
open Go Go.RowKit
set_option maxRecDepth 100000

attribute [local go_sem] cell_off4 cell_blk4
end Go.Proofs.YtkmkfolpjlkfoaaGreat
namespace Go.Proofs.YtkmkfolpjlkfoaaGreat
open Go Go.RowKit
set_option maxRecDepth 100000

attribute [local go_sem] cell_off4 cell_blk4
end Go.Proofs.YtkmkfolpjlkfoaaGreat
namespace Go.Proofs.YtkmkfolpjlkfoaaGreat
open Go Go.RowKit
set_option maxRecDepth 100000

attribute [local go_sem] cell_off4 cell_blk4
end Go.Proofs.YtkmkfolpjlkfoaaGreat
namespace Go.Proofs.YtkmkfolpjlkfoaaGreat
open Go Go.RowKit
set_option maxRecDepth 100000

attribute [local go_sem] cell_off4 cell_blk4
theorem root_step (f : Int → Int) {k : Nat} (hk : k < 24) (j : Int) : rootT f (24 - k) j = (decide (j = 1) || rootT f (24 - (k + 1)) (f j)) := by
  obtain ⟨m, hm⟩ : ∃ m, 24 - k = m + 1 := ⟨24 - (k + 1), by omega⟩
  rw [hm, show 24 - (k + 1) = m by omega]
  rfl
theorem root_none (f : Int → Int) {k : Nat} (hk : ¬ k < 24) (j : Int) : rootT f (24 - k) j = false := by
  rw [show 24 - k = 0 by omega]
  rfl
set_option maxRecDepth 100000 in
set_option maxHeartbeats 4000000 in
theorem croot_any (v : Value) (t : List Nd) (i : Int) (w : World) (h : TabP w v t) :
    Calls Tryz.prog 98 #[v, .int .i64 i] w fun e w' => e = .returned (.bool (rootT (parF t) 24 i)) ∧ Below w.heap.size w w' := by
  have HP := Lib.hid (fun W j (hb : Below w.heap.size w W) => parent_any v t j W (h.below hb))
  obtain ⟨X, hX⟩ : ∃ X, rootT (parF t) 24 i = X := ⟨_, rfl⟩
  rw [hX]
  have HX0 := Lib.hid hX
  clear hX h
  go_enter Tryz.func98, Tryz.ntmps98
  go_wp2
  go_loopg [1, 5] 24 (fun gh s1 s5 wr => ∃ (j : Int) (k : Nat), s1 = .int .i64 j ∧ s5 = .int .i64 k ∧ k ≤ 24 ∧ gh = 24 - k ∧ rootT (parF t) (24 - k) j = X ∧ Below w.heap.size w wr)
  case atStart => exact ⟨i, 0, rfl, rfl, Nat.zero_le _, rfl, HX0.out, Below.refl _ _⟩
  case round =>
    clear HX0
    obtain ⟨j, k, rfl, rfl, hk, rfl, hx, hbr⟩ := hrel
    have HBR := Lib.hid hbr
    clear hbr
    by_cases hlt : k < 24
    · have hlt' : (k : Int) < 24 := by omega
      rw [root_step (parF t) hlt j] at hx
      by_cases q : j = 1
      · subst q
        have HX := Lib.hid (show true = X by rw [← hx]; rfl)
        clear hx
        go_wp2
        go_ret
        exact ⟨ret_bool HX.out, HBR.out⟩
      · have q1 : (j == 1) = false := by simpa using q
        have HX := Lib.hid (show rootT (parF t) (24 - (k + 1)) (parT t 0 j : Int) = X by rw [decide_eq_false q, Bool.false_or] at hx; exact hx)
        have HPJ := Lib.hid (HP.out wr j HBR.out)
        generalize (parT t 0 j : Int) = J at HX HPJ
        clear hx q
        go_wp2_with fail
        refine HPJ.out.mono ?_
        rintro e w4 ⟨rfl, hb4⟩
        have HB4 := Lib.hid (bt hb4 HBR.out)
        clear hb4
        go_wp2
        go_roundg (24 - (k + 1))
        case measure => omega
        case rel => exact ⟨J, k + 1, rfl, by go_num, by omega, rfl, HX.out, HB4.out⟩
    · have hlt' : ¬ (k : Int) < 24 := by omega
      rw [root_none _ hlt] at hx
      have HX := Lib.hid hx
      clear hx
      go_wp2
      go_ret
      exact ⟨ret_bool HX.out, HBR.out⟩
theorem all_drop {α : Type} {f : α → Bool} {l : List α} {k : Nat} {a : α} (h : l[k]? = some a) : (l.drop k).all f = (f a && (l.drop (k + 1)).all f) := by
  obtain ⟨h1, h2⟩ := List.getElem?_eq_some_iff.1 h
  rw [List.drop_eq_getElem_cons h1, List.all_cons, h2]
set_option maxRecDepth 100000 in
set_option maxHeartbeats 4000000 in
theorem hasAll_any (v ve : Value) (t : List Nd) (l : List En) (w : World) (h : TabP w v t) (he : EntsR w ve l) (hl : l.length ≤ 1000) :
    Calls Tryz.prog 97 #[v, ve] w fun e w' => e = .returned (.bool (l.all (fun e => tis t e.2))) ∧ Below w.heap.size w w' := by
  have HH := Lib.hid (fun W j (hb : Below w.heap.size w W) => thas_any v t j W (h.below hb))
  obtain ⟨X, hX⟩ : ∃ X, l.all (fun e => tis t e.2) = X := ⟨_, rfl⟩
  rw [hX]
  have HX0 := Lib.hid hX
  obtain ⟨A, c, rfl⟩ := ents_form he rfl
  have HE := Lib.hid he
  clear h he hX
  go_enter Tryz.func97, Tryz.ntmps97
  go_wp2
  go_loopg [9] l.length (fun gh s9 wr => ∃ k : Nat, s9 = .int .i64 k ∧ k ≤ l.length ∧ gh = l.length - k ∧ (l.drop k).all (fun e => tis t e.2) = X ∧ Below w.heap.size w wr)
  case atStart => exact ⟨0, rfl, Nat.zero_le _, rfl, HX0.out, Below.refl _ _⟩
  case round =>
    clear HX0
    obtain ⟨k, rfl, hk, rfl, hx, hbr⟩ := hrel
    have HBR := Lib.hid hbr
    clear hbr
    by_cases hlt : k < l.length
    · have hlt' : (k : Int) < (l.length : Int) := by omega
      obtain ⟨a, hka⟩ : ∃ a, l[k]? = some a := ⟨_, List.getElem?_eq_getElem hlt⟩
      obtain ⟨ad, hA, d0, d1⟩ := ents_get (HE.out.below HBR.out) hka
      subst hA
      rw [all_drop hka] at hx
      have hadl : (ad.add (k * 2)).block < wr.heap.size := World.block_lt_of_cell? _ _ d0
      have HBA := Lib.hid (bt (ba wr (.cells #[.string (bA a.1), .int .i64 a.2] 134)) HBR.out)
      have HHA := Lib.hid (HH.out _ a.2 HBA.out)
      clear hka
      cases q : tis t a.2
      · rw [q] at HHA hx
        have HX := Lib.hid (show false = X from hx)
        clear hx q
        go_wp2_with fail
        refine HHA.out.mono ?_
        rintro e w4 ⟨rfl, hb4⟩
        have HB4 := Lib.hid (bt hb4 HBA.out)
        clear hb4
        go_wp2
        go_ret
        exact ⟨ret_bool HX.out, HB4.out⟩
      · rw [q, Bool.true_and] at hx
        rw [q] at HHA
        have HX := Lib.hid hx
        clear hx q
        go_wp2_with fail
        refine HHA.out.mono ?_
        rintro e w4 ⟨rfl, hb4⟩
        have HB4 := Lib.hid (bt hb4 HBA.out)
        clear hb4
        go_wp2
        go_roundg (l.length - (k + 1))
        case measure => omega
        case rel => exact ⟨k + 1, by go_num, by omega, rfl, HX.out, HB4.out⟩
    · have hlt' : ¬ (k : Int) < (l.length : Int) := by omega
      rw [List.drop_eq_nil_of_le (by omega)] at hx
      have HX := Lib.hid (show true = X from hx)
      clear hx
      go_wp2
      go_ret
      exact ⟨ret_bool HX.out, HBR.out⟩
end Go.Proofs.YtkmkfolpjlkfoaaGreat
namespace Go.Proofs.YtkmkfolpjlkfoaaGreat
open Go Go.RowKit
set_option maxRecDepth 100000

attribute [local go_sem] cell_off4 cell_blk4
def nodeT (t : List Nd) (op : List Int) (i : Int) : Bool :=
  if (tget t i).kind = 2 then (tget t i).ents.all (fun e => tis t e.2) && (decide (i = 1) || (decide (linkT t i = 1) && rootT (parF t) 24 i))
  else if (tget t i).kind = 1 ∨ (tget t i).kind = 3 then decide (0 < linkT t i) || inL op i else true
set_option maxRecDepth 100000 in
set_option maxHeartbeats 8000000 in
theorem inTree_any (v vo : Value) (t : List Nd) (op : List Int) (i : Int) (w : World) (h : TabP w v t) (ho : IntsR w vo op) (hol : op.length ≤ 1000) :
    Calls Tryz.prog 51 #[v, .int .i64 i, vo] w fun e w' => e = .returned (.bool (nodeT t op i)) ∧ Below w.heap.size w w' := by
  have HAT := Lib.hid (at_any v t i w h)
  have HHA := Lib.hid (fun W ve (hb : Below w.heap.size w W) (he : EntsR W ve (tget t i).ents) => hasAll_any v ve t _ W (h.below hb) he (ok_few h.ok.1 i).ents)
  have HLK := Lib.hid (fun W (hb : Below w.heap.size w W) => links_any v t i W (h.below hb))
  have HCR := Lib.hid (fun W (hb : Below w.heap.size w W) => croot_any v t i W (h.below hb))
  have HCO := Lib.hid (fun W (hb : Below w.heap.size w W) => scontains_any vo op i W (ho.below hb) hol)
  obtain ⟨X, hX⟩ : ∃ X, nodeT t op i = X := ⟨_, rfl⟩
  rw [hX]
  unfold nodeT at hX
  generalize inL op i = IL at hX HCO
  generalize rootT (parF t) 24 i = RT at hX HCR
  generalize linkT t i = LI at hX HLK
  generalize (tget t i).ents.all (fun e => tis t e.2) = AL at hX HHA
  generalize tget t i = n at hX HAT HHA
  clear h ho hol
  by_cases k2 : n.kind = 2
  · have e2 : (n.kind == 2) = true := by simpa using k2
    rw [if_pos k2] at hX
    clear k2
    cases AL
    · have HX := Lib.hid (show false = X from hX)
      clear hX
      go_enter Tryz.func51, Tryz.ntmps51
      go_wp2_with fail
      refine HAT.out.mono ?_
      rintro e w4 ⟨vd, ve, rfl, hd4, he4, hb4⟩
      obtain ⟨A1, c1, hv1⟩ := bytesT_form hd4
      obtain ⟨A2, c2, hv2⟩ := entsT_form he4
      subst hv1 hv2
      have HB4 := Lib.hid (bt (ba w4 (.cells (ndC n (.slice A1 n.data.length c1) (.slice A2 n.ents.length c2)) 82)) hb4)
      have HE4 := Lib.hid ((show EntsR _ _ _ from he4.1).below (ba w4 (.cells (ndC n (.slice A1 n.data.length c1) (.slice A2 n.ents.length c2)) 82)))
      clear hd4 he4 hb4
      unfold nodeV

      go_wp2_with fail
      refine (HHA.out _ _ HB4.out HE4.out).mono ?_
      rintro e w5 ⟨rfl, hb5⟩
      have HB5 := Lib.hid (bt hb5 HB4.out)
      clear hb5

      go_wp2
      go_ret
      exact ⟨ret_bool HX.out, HB5.out⟩
    · rw [Bool.true_and] at hX
      by_cases q1 : i = 1
      · have e1 : (i == 1) = true := by simpa using q1
        have HX := Lib.hid (show true = X by rw [← hX, decide_eq_true q1]; rfl)
        clear hX q1
        go_enter Tryz.func51, Tryz.ntmps51
        go_wp2_with fail
        refine HAT.out.mono ?_
        rintro e w4 ⟨vd, ve, rfl, hd4, he4, hb4⟩
        obtain ⟨A1, c1, hv1⟩ := bytesT_form hd4
        obtain ⟨A2, c2, hv2⟩ := entsT_form he4
        subst hv1 hv2
        have HB4 := Lib.hid (bt (ba w4 (.cells (ndC n (.slice A1 n.data.length c1) (.slice A2 n.ents.length c2)) 82)) hb4)
        have HE4 := Lib.hid ((show EntsR _ _ _ from he4.1).below (ba w4 (.cells (ndC n (.slice A1 n.data.length c1) (.slice A2 n.ents.length c2)) 82)))
        clear hd4 he4 hb4
        unfold nodeV

        go_wp2_with fail
        refine (HHA.out _ _ HB4.out HE4.out).mono ?_
        rintro e w5 ⟨rfl, hb5⟩
        have HB5 := Lib.hid (bt hb5 HB4.out)
        clear hb5

        go_wp2
        go_ret
        exact ⟨ret_bool HX.out, HB5.out⟩
      · have e1 : (i == 1) = false := by simpa using q1
        rw [decide_eq_false q1, Bool.false_or] at hX
        clear q1
        by_cases q3 : LI = 1
        · have e3 : ((LI : Int) == 1) = true := by rw [q3]; rfl
          have HX := Lib.hid (show RT = X by rw [← hX, decide_eq_true q3, Bool.true_and])
          clear hX q3
          go_enter Tryz.func51, Tryz.ntmps51
          go_wp2_with fail
          refine HAT.out.mono ?_
          rintro e w4 ⟨vd, ve, rfl, hd4, he4, hb4⟩
          obtain ⟨A1, c1, hv1⟩ := bytesT_form hd4
          obtain ⟨A2, c2, hv2⟩ := entsT_form he4
          subst hv1 hv2
          have HB4 := Lib.hid (bt (ba w4 (.cells (ndC n (.slice A1 n.data.length c1) (.slice A2 n.ents.length c2)) 82)) hb4)
          have HE4 := Lib.hid ((show EntsR _ _ _ from he4.1).below (ba w4 (.cells (ndC n (.slice A1 n.data.length c1) (.slice A2 n.ents.length c2)) 82)))
          clear hd4 he4 hb4
          unfold nodeV

          go_wp2_with fail
          refine (HHA.out _ _ HB4.out HE4.out).mono ?_
          rintro e w5 ⟨rfl, hb5⟩
          have HB5 := Lib.hid (bt hb5 HB4.out)
          clear hb5

          go_wp2_with fail
          refine (HLK.out _ HB5.out).mono ?_
          rintro e w6 ⟨rfl, hb6⟩
          have HB6 := Lib.hid (bt hb6 HB5.out)
          clear hb6

          go_wp2_with fail
          refine (HCR.out _ HB6.out).mono ?_
          rintro e w7 ⟨rfl, hb7⟩
          have HB7 := Lib.hid (bt hb7 HB6.out)
          clear hb7

          go_wp2
          go_ret
          exact ⟨ret_bool HX.out, HB7.out⟩
        · have e3 : ((LI : Int) == 1) = false := by rw [beq_eq_false_iff_ne]; omega
          have HX := Lib.hid (show false = X by rw [← hX, decide_eq_false q3]; rfl)
          clear hX q3
          go_enter Tryz.func51, Tryz.ntmps51
          go_wp2_with fail
          refine HAT.out.mono ?_
          rintro e w4 ⟨vd, ve, rfl, hd4, he4, hb4⟩
          obtain ⟨A1, c1, hv1⟩ := bytesT_form hd4
          obtain ⟨A2, c2, hv2⟩ := entsT_form he4
          subst hv1 hv2
          have HB4 := Lib.hid (bt (ba w4 (.cells (ndC n (.slice A1 n.data.length c1) (.slice A2 n.ents.length c2)) 82)) hb4)
          have HE4 := Lib.hid ((show EntsR _ _ _ from he4.1).below (ba w4 (.cells (ndC n (.slice A1 n.data.length c1) (.slice A2 n.ents.length c2)) 82)))
          clear hd4 he4 hb4
          unfold nodeV

          go_wp2_with fail
          refine (HHA.out _ _ HB4.out HE4.out).mono ?_
          rintro e w5 ⟨rfl, hb5⟩
          have HB5 := Lib.hid (bt hb5 HB4.out)
          clear hb5

          go_wp2_with fail
          refine (HLK.out _ HB5.out).mono ?_
          rintro e w6 ⟨rfl, hb6⟩
          have HB6 := Lib.hid (bt hb6 HB5.out)
          clear hb6

          go_wp2
          go_ret
          exact ⟨ret_bool HX.out, HB6.out⟩
  · have e2 : (n.kind == 2) = false := by simpa using k2
    rw [if_neg k2] at hX
    clear k2
    by_cases k1 : n.kind = 1
    · have e1 : (n.kind == 1) = true := by simpa using k1
      rw [if_pos (Or.inl k1)] at hX
      clear k1
      by_cases q3 : 0 < LI
      · have e3 : decide (0 < LI) = true := decide_eq_true q3
        have HX := Lib.hid (show true = X by rw [← hX, decide_eq_true q3]; rfl)
        clear hX q3
        go_enter Tryz.func51, Tryz.ntmps51
        go_wp2_with fail
        refine HAT.out.mono ?_
        rintro e w4 ⟨vd, ve, rfl, hd4, he4, hb4⟩
        obtain ⟨A1, c1, hv1⟩ := bytesT_form hd4
        obtain ⟨A2, c2, hv2⟩ := entsT_form he4
        subst hv1 hv2
        have HB4 := Lib.hid (bt (ba w4 (.cells (ndC n (.slice A1 n.data.length c1) (.slice A2 n.ents.length c2)) 82)) hb4)
        have HE4 := Lib.hid ((show EntsR _ _ _ from he4.1).below (ba w4 (.cells (ndC n (.slice A1 n.data.length c1) (.slice A2 n.ents.length c2)) 82)))
        clear hd4 he4 hb4
        unfold nodeV

        go_wp2_with fail
        refine (HLK.out _ HB4.out).mono ?_
        rintro e w6 ⟨rfl, hb6⟩
        have HB6 := Lib.hid (bt hb6 HB4.out)
        clear hb6

        go_wp2
        go_ret
        exact ⟨ret_bool HX.out, HB6.out⟩
      · have HX := Lib.hid (show IL = X by rw [← hX, decide_eq_false q3, Bool.false_or])
        obtain rfl : LI = 0 := by omega
        clear hX q3
        go_enter Tryz.func51, Tryz.ntmps51
        go_wp2_with fail
        refine HAT.out.mono ?_
        rintro e w4 ⟨vd, ve, rfl, hd4, he4, hb4⟩
        obtain ⟨A1, c1, hv1⟩ := bytesT_form hd4
        obtain ⟨A2, c2, hv2⟩ := entsT_form he4
        subst hv1 hv2
        have HB4 := Lib.hid (bt (ba w4 (.cells (ndC n (.slice A1 n.data.length c1) (.slice A2 n.ents.length c2)) 82)) hb4)
        have HE4 := Lib.hid ((show EntsR _ _ _ from he4.1).below (ba w4 (.cells (ndC n (.slice A1 n.data.length c1) (.slice A2 n.ents.length c2)) 82)))
        clear hd4 he4 hb4
        unfold nodeV

        go_wp2_with fail
        refine (HLK.out _ HB4.out).mono ?_
        rintro e w6 ⟨rfl, hb6⟩
        have HB6 := Lib.hid (bt hb6 HB4.out)
        clear hb6

        go_wp2_with fail
        refine (HCO.out _ HB6.out).mono ?_
        rintro e w7 ⟨rfl, rfl⟩

        go_wp2
        go_ret
        exact ⟨ret_bool HX.out, HB6.out⟩
    · have e1 : (n.kind == 1) = false := by simpa using k1
      by_cases k3 : n.kind = 3
      · have e4 : (n.kind == 3) = true := by simpa using k3
        rw [if_pos (Or.inr k3)] at hX
        clear k1 k3
        by_cases q3 : 0 < LI
        · have e3 : decide (0 < LI) = true := decide_eq_true q3
          have HX := Lib.hid (show true = X by rw [← hX, decide_eq_true q3]; rfl)
          clear hX q3
          go_enter Tryz.func51, Tryz.ntmps51
          go_wp2_with fail
          refine HAT.out.mono ?_
          rintro e w4 ⟨vd, ve, rfl, hd4, he4, hb4⟩
          obtain ⟨A1, c1, hv1⟩ := bytesT_form hd4
          obtain ⟨A2, c2, hv2⟩ := entsT_form he4
          subst hv1 hv2
          have HB4 := Lib.hid (bt (ba w4 (.cells (ndC n (.slice A1 n.data.length c1) (.slice A2 n.ents.length c2)) 82)) hb4)
          have HE4 := Lib.hid ((show EntsR _ _ _ from he4.1).below (ba w4 (.cells (ndC n (.slice A1 n.data.length c1) (.slice A2 n.ents.length c2)) 82)))
          clear hd4 he4 hb4
          unfold nodeV

          go_wp2_with fail
          refine (HLK.out _ HB4.out).mono ?_
          rintro e w6 ⟨rfl, hb6⟩
          have HB6 := Lib.hid (bt hb6 HB4.out)
          clear hb6

          go_wp2
          go_ret
          exact ⟨ret_bool HX.out, HB6.out⟩
        · have HX := Lib.hid (show IL = X by rw [← hX, decide_eq_false q3, Bool.false_or])
          obtain rfl : LI = 0 := by omega
          clear hX q3
          go_enter Tryz.func51, Tryz.ntmps51
          go_wp2_with fail
          refine HAT.out.mono ?_
          rintro e w4 ⟨vd, ve, rfl, hd4, he4, hb4⟩
          obtain ⟨A1, c1, hv1⟩ := bytesT_form hd4
          obtain ⟨A2, c2, hv2⟩ := entsT_form he4
          subst hv1 hv2
          have HB4 := Lib.hid (bt (ba w4 (.cells (ndC n (.slice A1 n.data.length c1) (.slice A2 n.ents.length c2)) 82)) hb4)
          have HE4 := Lib.hid ((show EntsR _ _ _ from he4.1).below (ba w4 (.cells (ndC n (.slice A1 n.data.length c1) (.slice A2 n.ents.length c2)) 82)))
          clear hd4 he4 hb4
          unfold nodeV

          go_wp2_with fail
          refine (HLK.out _ HB4.out).mono ?_
          rintro e w6 ⟨rfl, hb6⟩
          have HB6 := Lib.hid (bt hb6 HB4.out)
          clear hb6

          go_wp2_with fail
          refine (HCO.out _ HB6.out).mono ?_
          rintro e w7 ⟨rfl, rfl⟩

          go_wp2
          go_ret
          exact ⟨ret_bool HX.out, HB6.out⟩
      · have e4 : (n.kind == 3) = false := by simpa using k3
        rw [if_neg (fun h => h.elim k1 k3)] at hX
        have HX := Lib.hid hX
        clear k1 k3 hX
        go_enter Tryz.func51, Tryz.ntmps51
        go_wp2_with fail
        refine HAT.out.mono ?_
        rintro e w4 ⟨vd, ve, rfl, hd4, he4, hb4⟩
        obtain ⟨A1, c1, hv1⟩ := bytesT_form hd4
        obtain ⟨A2, c2, hv2⟩ := entsT_form he4
        subst hv1 hv2
        have HB4 := Lib.hid (bt (ba w4 (.cells (ndC n (.slice A1 n.data.length c1) (.slice A2 n.ents.length c2)) 82)) hb4)
        have HE4 := Lib.hid ((show EntsR _ _ _ from he4.1).below (ba w4 (.cells (ndC n (.slice A1 n.data.length c1) (.slice A2 n.ents.length c2)) 82)))
        clear hd4 he4 hb4
        unfold nodeV

        go_wp2
        go_ret
        exact ⟨ret_bool HX.out, HB4.out⟩
end Go.Proofs.YtkmkfolpjlkfoaaGreat
namespace Go.Proofs.YtkmkfolpjlkfoaaGreat
open Go Go.RowKit
set_option maxRecDepth 100000

attribute [local go_sem] kind_of
def allT (t : List Nd) (op : List Int) : Prop := (tget t 1).kind = 2 ∧ linkT t 1 = 0 ∧ ∀ k : Nat, k < 24 → nodeT t op ((k : Int) + 1) = true
theorem node_out {t : List Nd} {op : List Int} {k : Nat} (h : t.length ≤ k) : nodeT t op ((k : Int) + 1) = true := by
  have hz : tget t ((k : Int) + 1) = Nd.zero := tget_out (by omega)
  unfold nodeT
  rw [hz, if_neg (by decide), if_neg (by decide)]
set_option maxRecDepth 100000 in
set_option maxHeartbeats 4000000 in
theorem tright_any (v vo : Value) (t : List Nd) (op : List Int) (w : World) (h : TabP w v t) (ho : IntsR w vo op) (hol : op.length ≤ 1000) :
    Calls Tryz.prog 25 #[v, vo] w fun e w' => e = .returned (.bool (toB (allT t op))) ∧ Below w.heap.size w w' := by
  by_cases hk : (tget t 1).kind = 2
  · have HAT := Lib.hid (at_any v t 1 w h)
    have HLK := Lib.hid (fun W (hb : Below w.heap.size w W) => links_any v t 1 W (h.below hb))
    have HRM := Lib.hid (fun W (hb : Below w.heap.size w W) => room_any v t W (h.below hb))
    have HIT := Lib.hid (fun W i (hb : Below w.heap.size w W) => inTree_any v vo t op i W (h.below hb) (ho.below hb) hol)
    have hlen := h.ok.2
    have HY := Lib.hid (show linkT t 1 = 0 → (∀ k : Nat, k < t.length → nodeT t op ((k : Int) + 1) = true) → toB (allT t op) = true from fun h1 h2 => toB_true ⟨hk, h1, fun k _ => by
      by_cases q : k < t.length
      · exact h2 k q
      · exact node_out (by omega)⟩)
    have HN1 := Lib.hid (show ¬ linkT t 1 = 0 → toB (allT t op) = false from fun h1 => toB_false (fun h2 => h1 h2.2.1))
    have HN2 := Lib.hid (show ∀ k : Nat, k < t.length → nodeT t op ((k : Int) + 1) = false → toB (allT t op) = false from fun k h1 h2 => toB_false (fun h3 => by
      rw [h3.2.2 k (by omega)] at h2; cases h2))
    have e0 : ((tget t 1).kind != 2) = false := by simpa using hk
    generalize toB (allT t op) = X at HY HN1 HN2 ⊢
    generalize linkT t 1 = LI at HLK HY HN1
    generalize tget t 1 = n at HAT e0
    clear h ho hol hk
    by_cases q : LI = 0
    · subst q
      have HY1 := Lib.hid (HY.out rfl)
      clear HY HN1
      go_enter Tryz.func25, Tryz.ntmps25
      go_wp2_with fail
      refine HAT.out.mono ?_
      rintro e w4 ⟨vd, ve, rfl, -, -, hb4⟩
      have HB4 := Lib.hid hb4
      clear hb4
      unfold nodeV
      go_wp2_with fail
      refine (HLK.out _ HB4.out).mono ?_
      rintro e w5 ⟨rfl, hb5⟩
      have HB5 := Lib.hid (bt hb5 HB4.out)
      clear hb5
      go_wp2_with fail
      refine (HRM.out _ HB5.out).mono ?_
      rintro e w6 ⟨rfl, rfl⟩
      go_wp2
      go_loopg [17] t.length (fun gh s17 wr => ∃ k : Nat, s17 = .int .i64 k ∧ k ≤ t.length ∧ gh = t.length - k ∧ (∀ j : Nat, j < k → nodeT t op ((j : Int) + 1) = true) ∧ Below w.heap.size w wr)
      case atStart => exact ⟨0, rfl, Nat.zero_le _, rfl, fun j h => absurd h (Nat.not_lt_zero _), HB5.out⟩
      case round =>
        obtain ⟨k, rfl, hk, rfl, hall, hbr⟩ := hrel
        have HALL := Lib.hid hall
        have HBR := Lib.hid hbr
        clear hall hbr
        by_cases hlt : k < t.length
        · have hlt' : (k : Int) < (t.length : Int) := by omega
          have j0 : IntKind.i64.wrap ((k : Int) + 1) = (k : Int) + 1 := by rw [IntKind.wrap_i64] <;> omega
          have HC := Lib.hid (HIT.out wr ((k : Int) + 1) HBR.out)
          cases q : nodeT t op ((k : Int) + 1)
          · rw [q] at HC
            have HX := Lib.hid (HN2.out k hlt q)
            clear q
            go_wp2_with fail
            refine HC.out.mono ?_
            rintro e w7 ⟨rfl, hb7⟩
            have HB7 := Lib.hid (bt hb7 HBR.out)
            clear hb7
            go_wp2
            go_ret
            exact ⟨ret_bool HX.out.symm, HB7.out⟩
          · rw [q] at HC
            have HQ := Lib.hid q
            clear q
            go_wp2_with fail
            refine HC.out.mono ?_
            rintro e w7 ⟨rfl, hb7⟩
            have HB7 := Lib.hid (bt hb7 HBR.out)
            clear hb7
            go_wp2
            go_roundg (t.length - (k + 1))
            case measure => omega
            case rel => exact ⟨k + 1, by go_num, by omega, rfl, (fun j h1 => by
              by_cases q : j < k
              · exact HALL.out j q
              · have e1 : j = k := by omega
                subst e1
                exact HQ.out), HB7.out⟩
        · have hlt' : ¬ (k : Int) < (t.length : Int) := by omega
          have HX := Lib.hid (HY1.out (fun j hj => HALL.out j (by omega)))
          go_wp2
          go_ret
          exact ⟨ret_bool HX.out.symm, HBR.out⟩
    · have e1 : ((LI : Int) != 0) = true := by simpa using q
      have HX := Lib.hid (HN1.out q)
      clear HY HN1 q
      go_enter Tryz.func25, Tryz.ntmps25
      go_wp2_with fail
      refine HAT.out.mono ?_
      rintro e w4 ⟨vd, ve, rfl, -, -, hb4⟩
      have HB4 := Lib.hid hb4
      clear hb4
      unfold nodeV
      go_wp2_with fail
      refine (HLK.out _ HB4.out).mono ?_
      rintro e w5 ⟨rfl, hb5⟩
      have HB5 := Lib.hid (bt hb5 HB4.out)
      clear hb5
      go_wp2
      go_ret
      exact ⟨ret_bool HX.out.symm, HB5.out⟩
  · refine (tright_no v t vo w h hk).mono ?_
    rintro e w' ⟨rfl, hb⟩
    exact ⟨by rw [toB_false (fun h3 => hk h3.1)], hb⟩
end Go.Proofs.YtkmkfolpjlkfoaaGreat
namespace Go.Proofs.YtkmkfolpjlkfoaaGreat
open Go Go.RowKit
set_option maxRecDepth 100000

attribute [local go_sem] cell_off4 cell_blk4
end Go.Proofs.YtkmkfolpjlkfoaaGreat
namespace Go.Proofs.YtkmkfolpjlkfoaaGreat
open Go Go.RowKit
set_option maxRecDepth 100000

theorem link_cons (n : Nd) (t : List Nd) (i : Int) : linkT (n :: t) i = cntE n.ents i + linkT t i := by
  unfold linkT
  rw [List.map_cons, List.sum_cons]
theorem cnt_zero (i : Int) : cntE Nd.zero.ents i = 0 := rfl
end Go.Proofs.YtkmkfolpjlkfoaaGreat
namespace Go.Proofs.YtkmkfolpjlkfoaaGreat
open Go Go.ChangeShapes Go.WideShapes Go.ChangeAt Go.RowKit Go.Deep

theorem ownKnobs : ownKnob Tryz.prog.godebug = none := by kernel_rfl
noncomputable def laidWorld (os : Os) : World := World.holding Tryz.prog os ⟨#[], #[], []⟩
section
variable {H : Type} {enc : TypeId × Value → H} {P : Program}
theorem law_post {f : Func} {s : ChangeSpec} {W W' : World} {args : Array Value} {ds : List (DataW H)} {v : Value} {before pa : List MemPlace}
    (hW : DataW.Whole enc P f.params.toList s.vars false W args.toList ds [] before)
    (hres : DataW.TrodAll enc P W' W.heap.size (fun _ => false) false f.resultTypes.toList (v.resultList f.resultTypes.size) (s.fn H (ds ++ [])).results [])
    (hargs : DataW.TrodAll enc P W' 0 (fun b => decide (b < W.heap.size)) true f.params.toList args.toList (s.fn H (ds ++ [])).args pa)
    (hvars : DataW.TrodVars enc P W' (fun b => decide (b < W.heap.size)) s.vars (s.fn H (ds ++ [])).vars [])
    (hb : Below W.heap.size W W') : s.post enc P f false true false false W args v W' :=
  ⟨ds, [], before, [], pa, [], hW, hres, hargs, hvars, hb.frame _, fun h => by cases h⟩
end
theorem cells_u8 : Tryz.prog.cellsOf 5 = 1 := by kernel_rfl
theorem byte_of {n : Int} (h : (Lit.int .u8 n).wf = true) : ∃ c : UInt8, n = co c := by
  have hb : 0 ≤ n ∧ n ≤ 255 := by simpa [Lit.wf, IntKind.min, IntKind.max, IntKind.signed, IntKind.bits] using h
  refine ⟨UInt8.ofNat n.toNat, ?_⟩
  unfold co
  rw [UInt8.toNat_ofNat']
  omega
section
variable {H : Type} {enc : TypeId × Value → H} {w : World} {base : Nat} {spare : Nat → Bool} {held : Bool}
end
theorem laid_out : laidOutB Tryz.prog = true := by kernel_rfl
theorem bytes_readable : Tryz.prog.readableRec 46 = true := by kernel_rfl
section
variable {H : Type} {enc : TypeId × Value → H} {W W' : World} {v : Value} {d : DataW H} {p : List MemPlace}
theorem shut_bytes (h : DataW.Trod enc Tryz.prog W 0 (fun _ => true) true 46 v d p) (hb : Below W.heap.size W W') : DataW.Trod enc Tryz.prog W' 0 (fun b => decide (b < W.heap.size)) true 46 v d p := by
  refine Below.trod laid_out bytes_readable (of_decide_eq_true (by kernel_rfl)) h hb ?_
  obtain ⟨n, hn⟩ := h
  exact DataW.trod_lt n _ _ _ hn
end
end Go.Proofs.YtkmkfolpjlkfoaaGreat
namespace Go.Proofs.YtkmkfolpjlkfoaaGreat
open Go Go.ChangeShapes Go.WideShapes Go.ChangeAt Go.RowKit Go.Deep

theorem cells_int : Tryz.prog.cellsOf 3 = 1 := by kernel_rfl
theorem cells_bs : Tryz.prog.cellsOf 46 = 1 := by kernel_rfl
section
variable {H : Type} {enc : TypeId × Value → H} {P : Program} {w : World} {base : Nat} {spare : Nat → Bool} {held : Bool}
end
section
variable {H : Type} {enc : TypeId × Value → H} {w : World} {base : Nat} {spare : Nat → Bool} {held : Bool}
theorem read_bytes' {fuel : Nat} {v : Value} {x : DataW H × List MemPlace} (h : DataW.trod enc Tryz.prog w base spare held fuel 46 [v] = some x) : ∃ l : List UInt8, BytesR w v l := by
  rcases open_slice1 Tryz.underlying46 cells_u8 h with ⟨hv, _⟩ | ⟨a, len, cap, m, n, V, D, Pl, hcs, _, hl, hm, hmm, _, hi⟩
  · have hv' : v = .slice none 0 0 := by simpa using hv
    exact ⟨[], by rw [hv']; exact BytesR.nil w⟩
  · have hv : v = .slice (some a) len cap := by simpa using hcs
    have hlm : len ≤ m := by rw [hmm]; split <;> omega
    have key : ∀ i, i < len → ∃ b : UInt8, w.cell? (a.add i) = some (.int .u8 (co b)) := by
      intro i hil
      obtain ⟨hc, ht⟩ := hi i (by omega)
      obtain ⟨n0, e0, _, w0⟩ := DataW.trod_int Tryz.underlying5 ht
      simp at e0
      obtain ⟨b, rfl⟩ := byte_of w0
      exact ⟨b, by rw [hc, e0]⟩
    refine ⟨List.ofFn fun i : Fin len => Classical.choose (key i.val i.isLt), ⟨some a, cap, by rw [List.length_ofFn]; exact hv, fun k ca hk => ?_⟩⟩
    rw [List.getElem?_ofFn] at hk
    split at hk
    · rename_i hlt
      injection hk with hk
      subst hk
      exact ⟨a, rfl, Classical.choose_spec (key k hlt)⟩
    · cases hk
end
end Go.Proofs.YtkmkfolpjlkfoaaGreat
namespace Go.Proofs.YtkmkfolpjlkfoaaGreat
open Go Go.ChangeShapes Go.WideShapes Go.ChangeAt Go.RowKit Go.Deep

section
variable {H : Type} {enc : TypeId × Value → H} {w : World} {base : Nat} {spare : Nat → Bool} {held : Bool}
end
section
variable {H : Type} {enc : TypeId × Value → H} {W W' : World} {v : Value} {d : DataW H} {p : List MemPlace}
end
end Go.Proofs.YtkmkfolpjlkfoaaGreat
namespace Go.Proofs.YtkmkfolpjlkfoaaGreat
open Go Go.RowKit
set_option maxRecDepth 100000

structure Rw where
  kind : Int
  mode : Int
  uid : Int
  gid : Int
  parent : Int
  name : Nm
  data : List UInt8
  target : Nm
  node : Int
def Rw.nd (r : Rw) : Nd := ⟨r.kind, r.mode, r.uid, r.gid, r.data, [], r.target⟩
noncomputable def enE (t : List Nd) (r : Rw) : Int := if r.kind = 4 then (if tis t r.node = false then 2 else if (tget t r.node).kind = 2 then 1 else 0) else addE t (toB (rightP r.nd))
noncomputable def enI (t : List Nd) (r : Rw) : Int := if enE t r = 0 then (if r.kind = 4 then r.node else (freeT t 0 : Int)) else 0
noncomputable def enT (t : List Nd) (r : Rw) : List Nd := if enE t r = 0 then (if r.kind = 4 then t else setT t (freeT t 0) r.nd) else t
noncomputable def blE (t : List Nd) (r : Rw) : Int := if tis t r.parent = false then 2 else if enE t r = 0 then withE (tget t r.parent) r.name (enI t r) else enE t r
noncomputable def blT (t : List Nd) (r : Rw) : List Nd := setT (enT t r) r.parent (withM (tget t r.parent) r.name (enI t r))
noncomputable def rtE (t : List Nd) (r : Rw) : Int := if r.kind ≠ 2 ∨ r.parent ≠ 0 ∨ r.name ≠ [] then 22 else addE t (toB (rightP r.nd))
def rtT (t : List Nd) (r : Rw) : List Nd := setT t (freeT t 0) r.nd
inductive BR where
  | bad (k : Nat) (e : Int)
  | good (t : List Nd)
noncomputable def bld : List Nd → Nat → List Rw → BR
  | t, _, [] => .good t
  | t, k, r :: l => if blE t r = 0 then bld (blT t r) (k + 1) l else .bad k (blE t r)
def newN (m : Int) : List Nd := List.replicate (newL m) Nd.zero
noncomputable def bldA (m : Int) : List Rw → BR
  | [] => .bad 0 22
  | r :: l => if rtE (newN m) r = 0 then bld (rtT (newN m) r) 1 l else .bad 0 (rtE (newN m) r)

theorem addE_zero {t : List Nd} {n : Nd} : addE t (toB (rightP n)) = 0 ↔ rightP n ∧ freeT t 0 ≠ 0 := by
  unfold addE
  by_cases h : rightP n
  · rw [toB_true h, if_neg (by decide)]
    by_cases q : freeT t 0 = 0
    · rw [if_pos q]
      exact ⟨fun h => absurd h (by decide), fun h => absurd q h.2⟩
    · rw [if_neg q]
      exact ⟨fun _ => ⟨h, q⟩, fun _ => rfl⟩
  · rw [toB_false h, if_pos rfl]
    exact ⟨fun h => absurd h (by decide), fun q => absurd q.1 h⟩
theorem rt_zero {t : List Nd} {r : Rw} : rtE t r = 0 ↔ r.kind = 2 ∧ r.parent = 0 ∧ r.name = [] ∧ rightP r.nd ∧ freeT t 0 ≠ 0 := by
  unfold rtE
  by_cases h : r.kind ≠ 2 ∨ r.parent ≠ 0 ∨ r.name ≠ []
  · rw [if_pos h]
    constructor
    · intro q; exact absurd q (by decide)
    · rintro ⟨h1, h2, h3, -⟩
      rcases h with h | h | h
      · exact absurd h1 h
      · exact absurd h2 h
      · exact absurd h3 h
  · rw [if_neg h, addE_zero]
    have h1 : r.kind = 2 := Classical.byContradiction (fun q => h (.inl q))
    have h2 : r.parent = 0 := Classical.byContradiction (fun q => h (.inr (.inl q)))
    have h3 : r.name = [] := Classical.byContradiction (fun q => h (.inr (.inr q)))
    exact ⟨fun q => ⟨h1, h2, h3, q⟩, fun q => q.2.2.2⟩
theorem en_zero {t : List Nd} {r : Rw} : enE t r = 0 ↔ (r.kind = 4 ∧ tis t r.node = true ∧ (tget t r.node).kind ≠ 2) ∨ (r.kind ≠ 4 ∧ rightP r.nd ∧ freeT t 0 ≠ 0) := by
  unfold enE
  by_cases h : r.kind = 4
  · rw [if_pos h]
    cases q : tis t r.node
    · rw [if_pos rfl]
      exact ⟨fun h => absurd h (by decide), fun q => by rcases q with q | q; exact absurd q.2.1 (by decide); exact absurd h q.1⟩
    · rw [if_neg (by decide)]
      by_cases q2 : (tget t r.node).kind = 2
      · rw [if_pos q2]
        exact ⟨fun h => absurd h (by decide), fun q => by rcases q with q | q; exact absurd q2 q.2.2; exact absurd h q.1⟩
      · rw [if_neg q2]
        exact ⟨fun _ => .inl ⟨h, rfl, q2⟩, fun _ => rfl⟩
  · rw [if_neg h, addE_zero]
    exact ⟨fun q => .inr ⟨h, q⟩, fun q => by rcases q with q | q; exact absurd q.1 h; exact q.2⟩
theorem bl_zero {t : List Nd} {r : Rw} : blE t r = 0 ↔ tis t r.parent = true ∧ enE t r = 0 ∧ withE (tget t r.parent) r.name (enI t r) = 0 := by
  unfold blE
  cases q : tis t r.parent
  · rw [if_pos rfl]
    exact ⟨fun h => absurd h (by decide), fun h => absurd h.1 (by decide)⟩
  · rw [if_neg (by decide)]
    by_cases q2 : enE t r = 0
    · rw [if_pos q2]
      exact ⟨fun h => ⟨rfl, q2, h⟩, fun h => h.2.2⟩
    · rw [if_neg q2]
      exact ⟨fun h => absurd h q2, fun h => absurd h.2.1 q2⟩
theorem en_len (t : List Nd) (r : Rw) : (enT t r).length = t.length := by
  unfold enT
  repeat' split
  all_goals first | exact len_setT .. | rfl
theorem bl_len (t : List Nd) (r : Rw) : (blT t r).length = t.length := by
  unfold blT
  rw [len_setT, en_len]
theorem rt_len (t : List Nd) (r : Rw) : (rtT t r).length = t.length := len_setT ..
theorem en_ok {t : List Nd} {r : Rw} (h : okT t) : okT (enT t r) := by
  unfold enT
  split
  · rename_i q
    split
    · exact h
    · rename_i q2
      rcases en_zero.1 q with q3 | q3
      · exact absurd q3.1 q2
      · exact ok_setT h _ (.inr q3.2.1)
  · exact h
theorem en_get {t : List Nd} {r : Rw} {p : Int} (hp : tis t p = true) : tget (enT t r) p = tget t p := by
  unfold enT
  split
  · rename_i q
    split
    · rfl
    · rename_i q2
      rcases en_zero.1 q with q3 | q3
      · exact absurd q3.1 q2
      · obtain ⟨h1, h2, -⟩ := free_is q3.2.2
        rw [tget_set h1, if_neg]
        rintro rfl
        rw [h2] at hp
        cases hp
  · rfl
theorem bl_ok {t : List Nd} {r : Rw} (h : okT t) (hz : blE t r = 0) : okT (blT t r) := by
  obtain ⟨h1, h2, h3⟩ := bl_zero.1 hz
  exact ok_setT (en_ok h) _ (.inr (right_with (tis_right h h1) h3).1)
theorem rt_ok {t : List Nd} {r : Rw} (h : okT t) (hz : rtE t r = 0) : okT (rtT t r) := ok_setT h _ (.inr (rt_zero.1 hz).2.2.2.1)
theorem en_tis {t : List Nd} {r : Rw} {p : Int} (hp : tis t p = true) : tis (enT t r) p = true := by
  unfold tis
  rw [en_get hp]
  exact hp
end Go.Proofs.YtkmkfolpjlkfoaaGreat
namespace Go.Proofs.YtkmkfolpjlkfoaaGreat
open Go Go.RowKit
set_option maxRecDepth 100000

theorem link_set {t : List Nd} {i : Int} (h : 1 ≤ i ∧ i ≤ t.length) (n : Nd) (j : Int) : linkT (setT t i n) j + cntE (tget t i).ents j = linkT t j + cntE n.ents j := by
  have key : ∀ (t : List Nd) (k : Nat) (hk : k < t.length), linkT (t.set k n) j + cntE (t[k]).ents j = linkT t j + cntE n.ents j := by
    intro t
    induction t with
    | nil => intro k hk; exact absurd hk (Nat.not_lt_zero _)
    | cons m t ih =>
      intro k hk
      cases k with
      | zero =>
        rw [List.set_cons_zero, link_cons, link_cons]
        simp only [List.getElem_cons_zero]
        omega
      | succ k =>
        have := ih k (by rw [List.length_cons] at hk; omega)
        rw [List.set_cons_succ, link_cons, link_cons]
        simp only [List.getElem_cons_succ]
        omega
  have hk : (i - 1).toNat < t.length := by omega
  have := key t (i - 1).toNat hk
  rw [← tget_at hk, show (((i - 1).toNat : Nat) : Int) + 1 = i by omega] at this
  exact this
theorem ent_set {t : List Nd} {i : Int} (h : 1 ≤ i ∧ i ≤ t.length) (n : Nd) : entT (setT t i n) + (tget t i).ents.length = entT t + n.ents.length := by
  have key : ∀ (t : List Nd) (k : Nat) (hk : k < t.length), entT (t.set k n) + (t[k]).ents.length = entT t + n.ents.length := by
    intro t
    induction t with
    | nil => intro k hk; exact absurd hk (Nat.not_lt_zero _)
    | cons m t ih =>
      intro k hk
      cases k with
      | zero =>
        unfold entT
        rw [List.set_cons_zero, List.map_cons, List.sum_cons, List.map_cons, List.sum_cons]
        simp only [List.getElem_cons_zero]
        omega
      | succ k =>
        have := ih k (by rw [List.length_cons] at hk; omega)
        unfold entT at this ⊢
        rw [List.set_cons_succ, List.map_cons, List.sum_cons, List.map_cons, List.sum_cons]
        simp only [List.getElem_cons_succ]
        omega
  have hk : (i - 1).toNat < t.length := by omega
  have := key t (i - 1).toNat hk
  rw [← tget_at hk, show (((i - 1).toNat : Nat) : Int) + 1 = i by omega] at this
  exact this
theorem par_set {t : List Nd} {i : Int} (h : 1 ≤ i ∧ i ≤ t.length) {n : Nd} {j : Int} (hc : cntE n.ents j = 0 ↔ cntE (tget t i).ents j = 0) : parT (setT t i n) 0 j = parT t 0 j := by
  have key : ∀ (t : List Nd) (k d : Nat) (hk : k < t.length), (cntE n.ents j = 0 ↔ cntE (t[k]).ents j = 0) → parT (t.set k n) d j = parT t d j := by
    intro t
    induction t with
    | nil => intro k d hk; exact absurd hk (Nat.not_lt_zero _)
    | cons m t ih =>
      intro k d hk hc
      cases k with
      | zero =>
        simp only [List.getElem_cons_zero] at hc
        rw [List.set_cons_zero, parT, parT]
        by_cases q : cntE n.ents j = 0
        · rw [if_pos q, if_pos (hc.1 q)]
        · rw [if_neg q, if_neg (fun h => q (hc.2 h))]
      | succ k =>
        simp only [List.getElem_cons_succ] at hc
        rw [List.set_cons_succ, parT, parT, ih k (d + 1) (by rw [List.length_cons] at hk; omega) hc]
  have hk : (i - 1).toNat < t.length := by omega
  refine key t (i - 1).toNat 0 hk ?_
  rw [← tget_at hk, show (((i - 1).toNat : Nat) : Int) + 1 = i by omega]
  exact hc
theorem par_one {j : Int} : ∀ (t : List Nd) (d k : Nat), (∃ h : k < t.length, cntE (t[k]).ents j ≠ 0) → (∀ m (h : m < t.length), m ≠ k → cntE (t[m]).ents j = 0) → parT t d j = d + k + 1
  | [], _, k, ⟨h, _⟩, _ => absurd h (Nat.not_lt_zero _)
  | n :: t, d, 0, ⟨_, h⟩, _ => by
    simp only [List.getElem_cons_zero] at h
    rw [parT, if_neg h]
  | n :: t, d, k + 1, ⟨h1, h2⟩, h3 => by
    have h0 := h3 0 (Nat.succ_pos _) (by omega)
    simp only [List.getElem_cons_zero] at h0
    simp only [List.getElem_cons_succ] at h2
    rw [parT, if_pos h0, par_one t (d + 1) k ⟨by rw [List.length_cons] at h1; omega, h2⟩ (fun m hm hk => by
      have := h3 (m + 1) (by rw [List.length_cons]; omega) (by omega)
      simpa using this)]
    omega
theorem link_zero {t : List Nd} {j : Int} : linkT t j = 0 ↔ ∀ i : Int, cntE (tget t i).ents j = 0 := by
  constructor
  · intro h i
    by_cases q : 1 ≤ i ∧ i ≤ t.length
    · have := link_set q Nd.zero j
      rw [h, cnt_zero] at this
      omega
    · rw [tget_out q]; exact cnt_zero j
  · intro h
    unfold linkT
    have : ∀ n ∈ t, cntE n.ents j = 0 := by
      intro n hn
      obtain ⟨k, hk, rfl⟩ := List.getElem_of_mem hn
      rw [← tget_at hk]
      exact h _
    induction t with
    | nil => rfl
    | cons n t ih =>
      rw [List.map_cons, List.sum_cons, this n (List.mem_cons_self ..), ih (fun i => ?_) (fun m hm => this m (List.mem_cons_of_mem _ hm))]
      by_cases q : 1 ≤ i ∧ i ≤ t.length
      · have e : i = (((i - 1).toNat : Nat) : Int) + 1 := by omega
        rw [e, tget_at (by omega)]
        exact this _ (List.mem_cons_of_mem _ (List.getElem_mem _))
      · rw [tget_out q]; exact cnt_zero j
theorem cnt_ins (x : En) (l : List En) (j : Int) : cntE (ins x l) j = cntE l j + if x.2 = j then 1 else 0 := by
  unfold cntE
  induction l with
  | nil =>
    rw [ins, List.countP_cons]
    simp only [decide_eq_true_eq]
  | cons e l ih =>
    rw [ins]
    split
    · rw [List.countP_cons]
      simp only [decide_eq_true_eq]
    · rw [List.countP_cons, List.countP_cons, ih]
      omega
structure Trx (t : List Nd) : Prop where
  ok : okT t
  le : t.length ≤ 24
  num : ∀ i : Int, tis t i = true ↔ 1 ≤ i ∧ i ≤ usedT t
  one : (tget t 1).kind = 2
  here : ∀ (i : Int) (e : En), e ∈ (tget t i).ents → 1 ≤ e.2 ∧ e.2 ≤ usedT t
  top : linkT t 1 = 0
  link : ∀ i : Int, 2 ≤ i → i ≤ usedT t → 1 ≤ linkT t i ∧ ((tget t i).kind = 2 → linkT t i = 1 ∧ (parT t 0 i : Int) < i)
theorem free_at {t : List Nd} (h : ∀ i : Int, tis t i = true ↔ 1 ≤ i ∧ i ≤ usedT t) (hf : freeT t 0 ≠ 0) : freeT t 0 = usedT t + 1 := by
  obtain ⟨h1, h2, h3⟩ := free_is hf
  have h4 : ¬ (freeT t 0 : Int) ≤ usedT t := fun q => by
    have := (h (freeT t 0)).2 ⟨h1.1, q⟩
    rw [h2] at this
    cases this
  have h5 : ¬ (usedT t : Int) + 1 < freeT t 0 := fun q => by
    have := (h ((usedT t : Int) + 1)).1 (h3 _ (by omega) q)
    omega
  omega
theorem new_free (m : Int) : freeT (newN m) 0 = 1 := by
  have := newL_bd m
  unfold newN
  obtain ⟨k, hk⟩ : ∃ k, newL m = k + 1 := ⟨newL m - 1, by omega⟩
  rw [hk, List.replicate_succ, freeT, if_pos (show Nd.zero.kind = 0 from rfl)]
theorem new_len (m : Int) : (newN m).length = newL m := List.length_replicate ..
theorem ent_new (m : Int) : entT (newN m) = 0 := by
  unfold newN entT
  generalize newL m = k
  induction k with
  | zero => rfl
  | succ k ih => rw [List.replicate_succ, List.map_cons, List.sum_cons, ih]; rfl
theorem tre_root {m : Int} {r : Rw} (h : rtE (newN m) r = 0) : Trx (rtT (newN m) r) ∧ usedT (rtT (newN m) r) = 1 ∧ entT (rtT (newN m) r) = 0 := by
  obtain ⟨h1, -, -, h2, h3⟩ := rt_zero.1 h
  have hb := newL_bd m
  have hl := new_len m
  have hu : usedT (rtT (newN m) r) = 1 := by
    unfold rtT
    rw [used_add h3 h2]
    unfold newN
    rw [used_new]
  have hin : 1 ≤ (1 : Int) ∧ (1 : Int) ≤ (newN m).length := by omega
  have hT : rtT (newN m) r = setT (newN m) 1 r.nd := by unfold rtT; rw [new_free]; rfl
  have hg : ∀ i, tget (rtT (newN m) r) i = if i = 1 then r.nd else Nd.zero := fun i => by
    rw [hT, tget_set hin]
    unfold newN
    rw [tget_new]
  have hnn : r.nd.ents = [] := rfl
  have hz : ∀ i, (tget (rtT (newN m) r) i).ents = [] := fun i => by
    rw [hg]
    split
    · rfl
    · rfl
  have hlk : ∀ i, linkT (rtT (newN m) r) i = 0 := fun i => link_zero.2 (fun j => by rw [hz]; rfl)
  refine ⟨⟨rt_ok (ok_new _) h, by rw [rt_len]; omega, fun i => ?_, by rw [hg, if_pos rfl]; exact h1, fun i e he => ?_, hlk 1, fun i h4 h5 => ?_⟩, hu, ?_⟩
  · unfold tis
    rw [hu, hg]
    by_cases q : i = 1
    · rw [if_pos q]
      exact ⟨fun _ => by omega, fun _ => decide_eq_true (by show r.kind ≠ 0; omega)⟩
    · rw [if_neg q]
      exact ⟨fun h => absurd rfl (of_decide_eq_true h), fun h => by omega⟩
  · rw [hz] at he; cases he
  · rw [hu] at h5; omega
  · have := ent_set hin r.nd
    rw [hT]
    have h6 : (tget (newN m) 1).ents.length = 0 := by unfold newN; rw [tget_new]; rfl
    rw [h6, ent_new, hnn] at this
    exact this
theorem withM_zero {n : Nd} {name : Nm} {id : Int} (h : withE n name id = 0) : withM n name id = { n with ents := ins (name, id) n.ents } := by
  unfold withM
  rw [if_pos h]
theorem tre_node {t : List Nd} {n : Nd} (h : Trx t) (hn : rightP n) (hne : n.ents = []) (hf : freeT t 0 ≠ 0) :
    usedT (setT t (freeT t 0) n) = usedT t + 1 ∧ freeT t 0 = usedT t + 1 ∧ (∀ j, linkT (setT t (freeT t 0) n) j = linkT t j) ∧ (∀ j, parT (setT t (freeT t 0) n) 0 j = parT t 0 j) ∧ entT (setT t (freeT t 0) n) = entT t ∧ linkT t (freeT t 0) = 0 := by
  obtain ⟨h1, h2, h3⟩ := free_is hf
  have hz : tget t (freeT t 0) = Nd.zero := tis_not h.ok h2
  have hF := free_at h.num hf
  refine ⟨used_add hf hn, hF, fun j => ?_, fun j => ?_, ?_, link_zero.2 (fun i => ?_)⟩
  · have := link_set h1 n j
    rw [hz, hne] at this
    exact Nat.add_right_cancel this
  · refine par_set h1 ?_
    rw [hz, hne]
    exact Iff.rfl
  · have := ent_set h1 n
    rw [hz, hne] at this
    exact Nat.add_right_cancel this
  · refine Classical.byContradiction (fun q => ?_)
    obtain ⟨e, he, he2⟩ := cnt_pos.1 q
    have := h.here i e he
    omega
theorem tre_step {t : List Nd} {r : Rw} (h : Trx t) (hz : blE t r = 0) : Trx (blT t r) ∧ usedT (blT t r) = usedT t + (if r.kind = 4 then 0 else 1) ∧ entT (blT t r) = entT t + 1 := by
  obtain ⟨hp, he, hw⟩ := bl_zero.1 hz
  have hpi := (h.num r.parent).1 hp
  have hpl := tis_in hp
  have hok := bl_ok h.ok hz
  have hpk : (tget t r.parent).kind = 2 := (withE_zero.1 hw).1
  have hpe := en_get (r := r) hp
  have hpin : 1 ≤ r.parent ∧ r.parent ≤ (enT t r).length := by rw [en_len]; exact hpl
  have hW := withM_zero hw
  obtain ⟨I, hI⟩ : ∃ I, enI t r = I := ⟨_, rfl⟩
  rw [hI] at hW hw
  have hT : blT t r = setT (enT t r) r.parent (withM (tget t r.parent) r.name I) := by unfold blT; rw [hI]
  have hents : (withM (tget t r.parent) r.name I).ents = ins (r.name, I) (tget t r.parent).ents := by rw [hW]
  have hkind : (withM (tget t r.parent) r.name I).kind = (tget t r.parent).kind := by rw [hW]
  have hlk : ∀ j, linkT (blT t r) j = linkT (enT t r) j + if I = j then 1 else 0 := fun j => by
    have := link_set hpin (withM (tget t r.parent) r.name I) j
    rw [hents, cnt_ins, hpe] at this
    rw [hT]
    simp only at this
    omega
  have hen : entT (blT t r) = entT (enT t r) + 1 := by
    have := ent_set hpin (withM (tget t r.parent) r.name I)
    rw [hents, len_ins, hpe] at this
    rw [hT]
    omega
  have hpa : ∀ j, j ≠ I → parT (blT t r) 0 j = parT (enT t r) 0 j := fun j hj => by
    rw [hT]
    refine par_set hpin ?_
    rw [hents, cnt_ins, hpe, if_neg (fun q => hj q.symm)]
    exact Iff.rfl
  have hgt : ∀ j, tget (blT t r) j = if j = r.parent then withM (tget t r.parent) r.name I else tget (enT t r) j := fun j => by
    rw [hT]; exact tget_set hpin
  have hkd : ∀ j, (tget (blT t r) j).kind = (tget (enT t r) j).kind := fun j => by
    rw [hgt]
    split
    · rename_i q
      rw [hkind, q, hpe]
    · rfl
  have htis : ∀ j, tis (blT t r) j = tis (enT t r) j := fun j => by unfold tis; rw [hkd]
  have hus : usedT (blT t r) = usedT (enT t r) := by
    have := used_setT hpin (withM (tget t r.parent) r.name I)
    rw [if_pos (en_tis hp), if_pos (by rw [hkind, hpk]; decide)] at this
    rw [hT]
    omega
  rcases en_zero.1 he with ⟨h4, h5, h6⟩ | ⟨h4, h5, h6⟩
  · have hI2 : r.node = I := by
      rw [← hI]; unfold enI; rw [if_pos he, if_pos h4]
    have hE : enT t r = t := by unfold enT; rw [if_pos he, if_pos h4]
    rw [hE] at hlk hen hpa hgt hkd htis hus
    have hIn := (h.num r.node).1 h5
    rw [hI2] at h5 h6 hIn
    refine ⟨⟨hok, by rw [bl_len]; exact h.le, fun i => ?_, by rw [hkd]; exact h.one, fun i e he => ?_, ?_, fun i q1 q2 => ?_⟩, by rw [hus, if_pos h4, Nat.add_zero], hen⟩
    · rw [htis, hus]; exact h.num i
    · rw [hus]
      rw [hgt] at he
      split at he
      · rw [hents] at he
        rcases (mem_ins _ _ _).1 he with rfl | he
        · exact hIn
        · exact h.here _ e he
      · exact h.here _ e he
    · have h1 : I ≠ 1 := by rintro rfl; exact h6 h.one
      rw [hlk, if_neg h1, h.top]
    · rw [hus] at q2
      obtain ⟨a1, a2⟩ := h.link i q1 q2
      refine ⟨by rw [hlk]; omega, fun hk => ?_⟩
      rw [hkd] at hk
      have hne : i ≠ I := by rintro rfl; exact h6 hk
      rw [hlk, if_neg (fun q => hne q.symm), hpa i hne]
      exact a2 hk
  · have hI2 : (freeT t 0 : Int) = I := by
      rw [← hI]; unfold enI; rw [if_pos he, if_neg h4]
    have hE : enT t r = setT t (freeT t 0) r.nd := by unfold enT; rw [if_pos he, if_neg h4]
    obtain ⟨b1, b2, b3, b4, b5, b6⟩ := tre_node h h5 rfl h6
    obtain ⟨c1, c2, -⟩ := free_is h6
    rw [← hE] at b1 b3 b4 b5
    have hIu : I = (usedT t : Int) + 1 := by omega
    rw [hI2] at b6 c1 c2
    have hge : ∀ j, tget (enT t r) j = if j = I then r.nd else tget t j := fun j => by rw [hE, hI2]; exact tget_set c1
    have hpI : r.parent ≠ I := by omega
    have hnz : r.nd.kind ≠ 0 := right_kind h5
    refine ⟨⟨hok, by rw [bl_len]; exact h.le, fun i => ?_, ?_, fun i e he => ?_, ?_, fun i q1 q2 => ?_⟩, by rw [hus, b1, if_neg h4], by rw [hen, b5]⟩
    · rw [htis, hus, b1]
      unfold tis
      rw [hge]
      by_cases q : i = I
      · rw [if_pos q]
        exact ⟨fun _ => by omega, fun _ => decide_eq_true hnz⟩
      · rw [if_neg q]
        have := h.num i
        unfold tis at this
        rw [this]
        constructor
        · intro q; omega
        · intro q; omega
    · rw [hkd, hge, if_neg (by omega)]
      exact h.one
    · rw [hus, b1]
      rw [hgt] at he
      split at he
      · rw [hents] at he
        rcases (mem_ins _ _ _).1 he with rfl | he
        · exact ⟨by show 1 ≤ I; omega, by show I ≤ _; omega⟩
        · have := h.here _ e he
          exact ⟨this.1, by omega⟩
      · rw [hge] at he
        split at he
        · cases he
        · have := h.here _ e he
          exact ⟨this.1, by omega⟩
    · rw [hlk, b3, h.top, if_neg (by omega)]
    · rw [hus, b1] at q2
      by_cases q : i = I
      · rw [hlk, b3, q, b6, if_pos rfl]
        refine ⟨by omega, fun _ => ⟨by omega, ?_⟩⟩
        have hk : (r.parent - 1).toNat < (blT t r).length := by rw [bl_len]; omega
        have he1 : r.parent = (((r.parent - 1).toNat : Nat) : Int) + 1 := by omega
        have := par_one (j := I) (blT t r) 0 (r.parent - 1).toNat ⟨hk, by
          rw [← tget_at hk, ← he1, hgt, if_pos rfl, hents, cnt_ins, if_pos rfl]
          omega⟩ (fun m hm hmk => by
          rw [← tget_at hm, hgt, if_neg (by omega), hge]
          split
          · rfl
          · exact link_zero.1 b6 _)
        rw [this]
        omega
      · obtain ⟨a1, a2⟩ := h.link i q1 (by omega)
        refine ⟨by rw [hlk, b3]; omega, fun hk => ?_⟩
        rw [hkd, hge, if_neg q] at hk
        rw [hlk, b3, if_neg (fun p => q p.symm), hpa i q, b4]
        exact a2 hk
theorem tre_bld : ∀ (l : List Rw) (t : List Nd) (k : Nat) (T : List Nd), Trx t → bld t k l = .good T → Trx T ∧ usedT T = usedT t + l.countP (fun r => decide (r.kind ≠ 4)) ∧ entT T = entT t + l.length ∧ T.length = t.length
  | [], t, k, T, h, hb => by
    rw [bld] at hb
    injection hb with hb
    subst hb
    exact ⟨h, rfl, rfl, rfl⟩
  | r :: l, t, k, T, h, hb => by
    rw [bld] at hb
    split at hb
    · rename_i q
      obtain ⟨h1, h2, h3⟩ := tre_step h q
      obtain ⟨a1, a2, a3, a4⟩ := tre_bld l _ _ T h1 hb
      refine ⟨a1, ?_, by rw [a3, h3, List.length_cons]; omega, by rw [a4, bl_len]⟩
      rw [a2, h2, List.countP_cons]
      by_cases q4 : r.kind = 4
      · rw [if_pos q4, if_neg (by simp [q4])]; omega
      · rw [if_neg q4, if_pos (by simp [q4])]; omega
    · cases hb
theorem tre_all {m : Int} {l : List Rw} {T : List Nd} (hb : bldA m l = .good T) : Trx T ∧ usedT T = l.countP (fun r => decide (r.kind ≠ 4)) ∧ entT T + 1 = l.length ∧ T.length = newL m := by
  cases l with
  | nil => cases hb
  | cons r l =>
    rw [bldA] at hb
    split at hb
    · rename_i q
      obtain ⟨h1, h2, h3⟩ := tre_root q
      obtain ⟨a1, a2, a3, a4⟩ := tre_bld l _ _ T h1 hb
      have hk := (rt_zero.1 q).1
      refine ⟨a1, ?_, by rw [a3, h3, List.length_cons]; omega, by rw [a4, rt_len, new_len]⟩
      rw [a2, h2, List.countP_cons, if_pos (by rw [hk]; decide)]
      omega
    · cases hb
end Go.Proofs.YtkmkfolpjlkfoaaGreat
