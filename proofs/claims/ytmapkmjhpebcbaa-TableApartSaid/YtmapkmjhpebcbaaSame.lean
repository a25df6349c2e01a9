/-
  Whether two nodes are the same: alike at its two types, Same. The conditions: no list is longer than a thousand.
-/
import Derived.Test.YtmapkmjhpebcbaaRight
import Derived.Laws.StructEq
namespace Go.Proofs.Ytmapkmjhpebcbaa
open Go Go.RowKit

theorem eq_ent (a b : Int) (s t : ByteArray) (w : World) : (Op.equalIn 10000 72 (.agg #[.string s, .int .i64 a]) (.agg #[.string t, .int .i64 b])).run Try.prog w = .ok (s.toList == t.toList && a == b) w := by
  have hS : Try.prog.underlying 72 = some (.struct (Try.prog.fieldsOf 72)) := by kernel_rfl
  rw [show (10000 : Nat) = 9999 + 1 from rfl, run_equalIn_agg w 9999 72 _ _ hS (by kernel_rfl)]
  have u5 := Try.underlying3
  have u9 := Try.underlying9
  simp only [Program.fieldsOf, Try.underlying72]
  go_simp
  by_cases h1 : a = b <;> by_cases h2 : s.toList = t.toList <;> simp [h1, h2]
theorem take_eq_snoc {α : Type} {a b : List α} {k : Nat} {x : α} (h : a.take k = b.take k) (ha : a[k]? = some x) (hb : b[k]? = some x) : a.take (k + 1) = b.take (k + 1) := by rw [take_snoc' ha, take_snoc' hb, h]
set_option maxRecDepth 100000 in
set_option maxHeartbeats 4000000 in
theorem alikeB_any (v v' : Value) (l m : List UInt8) (w : World) (hR : BytesR w v l) (hR' : BytesR w v' m) (hl : l.length ≤ 1000) (_hm : m.length ≤ 1000) :
    Calls Try.prog 57 #[v, v'] w fun e w' => e = .returned (.bool (toB (l = m))) ∧ Below w.heap.size w w' := by
  obtain ⟨A, c, rfl⟩ := bytes_form hR rfl
  obtain ⟨A', c', rfl⟩ := bytes_form hR' rfl
  have HR := Lib.hid hR
  have HR' := Lib.hid hR'
  clear hR hR'
  by_cases hlen : l.length = m.length
  · have q0 : ((l.length : Int) != (m.length : Int)) = false := by rw [hlen]; simp
    have HY := Lib.hid (show l.take l.length = m.take l.length → toB (l = m) = true from fun h => toB_true (by rw [List.take_length, hlen, List.take_length] at h; exact h))
    have HN := Lib.hid (fun (k : Nat) (x y : UInt8) (hx : l[k]? = some x) (hy : m[k]? = some y) (hne : ¬ x = y) => show toB (l = m) = false from toB_false (fun h => hne (by rw [h, hy] at hx; injection hx with hx; exact hx.symm)))
    have hml : m.length = l.length := hlen.symm
    have HML := Lib.hid hml
    generalize toB (l = m) = X at HY HN ⊢
    rw [hml] at HR' q0 ⊢
    clear hlen hml
    go_enter Try.func57, Try.ntmps57
    go_wp2
    go_loopg [13] l.length (fun g s wr => ∃ (k nq : Nat), s = .int .i64 k ∧ k ≤ l.length ∧ g = l.length - k ∧ l.take k = m.take k ∧ wr = w.drewN nq)
    case atStart => exact ⟨0, 0, rfl, Nat.zero_le _, rfl, rfl, rfl⟩
    case round =>
      obtain ⟨k, nq, rfl, hk, rfl, htk, rfl⟩ := hrel
      have HT := Lib.hid htk
      clear htk
      by_cases hlt : k < l.length
      · obtain ⟨x, hx⟩ : ∃ x, l[k]? = some x := ⟨_, List.getElem?_eq_getElem hlt⟩
        obtain ⟨y, hy⟩ : ∃ y, m[k]? = some y := ⟨_, List.getElem?_eq_getElem (by rw [HML.out]; exact hlt)⟩
        obtain ⟨ad, rfl, c0⟩ := bytes_get HR.out hx
        obtain ⟨ad', rfl, c1⟩ := bytes_get HR'.out hy
        have HX := Lib.hid hx
        have HY2 := Lib.hid hy
        clear hx hy
        by_cases hxy : x = y
        · subst hxy
          have q1 : (co x != co x) = false := by simp
          go_wp2
          go_quiet (fail)
          go_wp2
          go_roundg (l.length - (k + 1))
          case measure => omega
          case rel => exact ⟨k + 1, _, by go_num, by omega, rfl, take_eq_snoc HT.out HX.out HY2.out, rfl⟩
        · have q1 : (co x != co y) = true := by simp only [bne_iff_ne, ne_eq]; exact fun e => hxy (co_inj e)
          have HF := Lib.hid (HN.out k x y HX.out HY2.out hxy)
          clear hxy
          go_wp2
          go_quiet (fail)
          go_wp2
          go_ret
          exact ⟨ret_bool HF.out.symm, ⟨rfl, rfl, rfl, Nat.le_refl _, fun _ _ => rfl⟩⟩
      · have HF := Lib.hid (HY.out (by have := HT.out; rw [show k = l.length by omega] at this; exact this))
        go_wp2
        go_ret
        exact ⟨ret_bool HF.out.symm, ⟨rfl, rfl, rfl, Nat.le_refl _, fun _ _ => rfl⟩⟩
  · have q0 : ((l.length : Int) != (m.length : Int)) = true := by simp only [bne_iff_ne, ne_eq]; omega
    have HF := Lib.hid (show toB (l = m) = false from toB_false (fun h => hlen (by rw [h])))
    clear hlen
    go_enter Try.func57, Try.ntmps57
    go_wp2
    go_ret
    exact ⟨ret_bool HF.out.symm, Below.refl _ _⟩
attribute [local go_sem] eq_ent
set_option maxRecDepth 100000 in
set_option maxHeartbeats 4000000 in
theorem alikeE_any (v v' : Value) (l m : List En) (w : World) (hR : EntsR w v l) (hR' : EntsR w v' m) (hl : l.length ≤ 1000) (_hm : m.length ≤ 1000) :
    Calls Try.prog 58 #[v, v'] w fun e w' => e = .returned (.bool (toB (l = m))) ∧ Below w.heap.size w w' := by
  obtain ⟨A, c, rfl⟩ := ents_form hR rfl
  obtain ⟨A', c', rfl⟩ := ents_form hR' rfl
  have HR := Lib.hid hR
  have HR' := Lib.hid hR'
  clear hR hR'
  by_cases hlen : l.length = m.length
  · have q0 : ((l.length : Int) != (m.length : Int)) = false := by rw [hlen]; simp
    have HY := Lib.hid (show l.take l.length = m.take l.length → toB (l = m) = true from fun h => toB_true (by rw [List.take_length, hlen, List.take_length] at h; exact h))
    have HN := Lib.hid (fun (k : Nat) (x y : En) (hx : l[k]? = some x) (hy : m[k]? = some y) (hne : ¬ x = y) => show toB (l = m) = false from toB_false (fun h => hne (by rw [h, hy] at hx; injection hx with hx; exact hx.symm)))
    have hml : m.length = l.length := hlen.symm
    have HML := Lib.hid hml
    generalize toB (l = m) = X at HY HN ⊢
    rw [hml] at HR' q0 ⊢
    clear hlen hml
    go_enter Try.func58, Try.ntmps58
    go_wp2
    go_loopg [13] l.length (fun g s wr => ∃ (k nq : Nat), s = .int .i64 k ∧ k ≤ l.length ∧ g = l.length - k ∧ l.take k = m.take k ∧ wr = w.drewN nq)
    case atStart => exact ⟨0, 0, rfl, Nat.zero_le _, rfl, rfl, rfl⟩
    case round =>
      obtain ⟨k, nq, rfl, hk, rfl, htk, rfl⟩ := hrel
      have HT := Lib.hid htk
      clear htk
      by_cases hlt : k < l.length
      · obtain ⟨x, hx⟩ : ∃ x, l[k]? = some x := ⟨_, List.getElem?_eq_getElem hlt⟩
        obtain ⟨y, hy⟩ : ∃ y, m[k]? = some y := ⟨_, List.getElem?_eq_getElem (by rw [HML.out]; exact hlt)⟩
        obtain ⟨ad, rfl, c0, d0⟩ := ents_get HR.out hx
        obtain ⟨ad', rfl, c1, d1⟩ := ents_get HR'.out hy
        have HX := Lib.hid hx
        have HY2 := Lib.hid hy
        clear hx hy
        by_cases hxy : x = y
        · subst hxy
          have q1 : ((bA x.1).toList == (bA x.1).toList && x.2 == x.2) = true := by simp
          have q2 : ((bA x.1).toList == (bA x.1).toList) = true := by simp
          have q3 : (x.2 == x.2) = true := by simp
          go_wp2
          go_quiet (fail)
          go_wp2
          go_roundg (l.length - (k + 1))
          case measure => omega
          case rel => exact ⟨k + 1, _, by go_num, by omega, rfl, take_eq_snoc HT.out HX.out HY2.out, rfl⟩
        · have q1 : ((bA x.1).toList == (bA y.1).toList && x.2 == y.2) = false := by
            rw [bA_list, bA_list, Bool.and_eq_false_iff, beq_eq_false_iff_ne, beq_eq_false_iff_ne]
            by_cases h1 : x.1 = y.1
            · exact .inr (fun h2 => hxy (Prod.ext h1 h2))
            · exact .inl h1
          have HF := Lib.hid (HN.out k x y HX.out HY2.out hxy)
          clear hxy
          obtain ⟨B1, hB1⟩ : ∃ B1, ((bA x.1).toList == (bA y.1).toList) = B1 := ⟨_, rfl⟩
          obtain ⟨B2, hB2⟩ : ∃ B2, (x.2 == y.2) = B2 := ⟨_, rfl⟩
          rw [hB1, hB2] at q1
          cases B1 <;> cases B2
          case true.true => cases q1
          all_goals (
            clear q1
            go_wp2
            go_quiet (fail)
            go_wp2
            go_ret
            exact ⟨ret_bool HF.out.symm, ⟨rfl, rfl, rfl, Nat.le_refl _, fun _ _ => rfl⟩⟩)
      · have HF := Lib.hid (HY.out (by have := HT.out; rw [show k = l.length by omega] at this; exact this))
        go_wp2
        go_ret
        exact ⟨ret_bool HF.out.symm, ⟨rfl, rfl, rfl, Nat.le_refl _, fun _ _ => rfl⟩⟩
  · have q0 : ((l.length : Int) != (m.length : Int)) = true := by simp only [bne_iff_ne, ne_eq]; omega
    have HF := Lib.hid (show toB (l = m) = false from toB_false (fun h => hlen (by rw [h])))
    clear hlen
    go_enter Try.func58, Try.ntmps58
    go_wp2
    go_ret
    exact ⟨ret_bool HF.out.symm, Below.refl _ _⟩
end Go.Proofs.Ytmapkmjhpebcbaa
