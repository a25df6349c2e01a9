/-
  BuildAgain: what is told of a tree builds one that is told alike, with as many nodes; built of that once more it is the same. The condition: what is told is no longer than a machine can hold.
-/
import Derived.Test.YtehaohaphlmndaaBldAw
import Derived.Test.YtehaohaphlmndaaAgO
namespace Go.Proofs.Ytehaohaphlmndaa
open Go Go.RowKit
set_option maxRecDepth 100000

attribute [local go_sem] cell_off4 cell_blk4
theorem node_short {t : List Nd} (ho : okT t) (i p : Int) {nm : Nm} (h : nm.length ≤ 40) : shortR (rwN (tget t i) p nm) := by
  rcases ok_tget ho i with q | q
  · unfold rwN
    rw [q]
    exact ⟨h, Nat.zero_le _, Nat.zero_le _⟩
  · refine ⟨h, ?_, ?_⟩
    · show (tget t i).data.length ≤ 100
      rcases q.2 with q | q | q
      · have := q.2.2.2; omega
      · rw [q.2.1]; decide
      · rw [q.2.1]; decide
    · show (tget t i).target.length ≤ 100
      rcases q.2 with q | q | q
      · rw [q.2.2.1]; decide
      · rw [q.2.2.1]; decide
      · have h5 := q.2.2.2.2
        unfold fok at h5
        rw [Bool.and_eq_true] at h5
        have := of_decide_eq_true h5.1
        omega
theorem name_short {t : List Nd} (ho : okT t) (i : Int) (e : En) (he : e ∈ (tget t i).ents) : e.1.length ≤ 40 := by
  rcases ok_tget ho i with q | q
  · rw [q] at he; cases he
  · rcases q.2 with q | q | q
    · rw [q.2.1] at he; cases he
    · have h5 := (q.2.2.2.1 e he).1
      unfold nok at h5
      rw [Bool.and_eq_true] at h5
      have := of_decide_eq_true h5.2
      omega
    · rw [q.2.2.1] at he; cases he
theorem short_E {t : List Nd} (ho : okT t) {s : Tl} {p i : Int} {nm : Nm} (hn : nm.length ≤ 40) (h : ∀ r ∈ s.2, shortR r) : ∀ r ∈ (tlE t p s i nm).2, shortR r := by
  unfold tlE
  split
  · intro r hr
    rcases List.mem_append.1 hr with hr | hr
    · exact h r hr
    · rw [List.mem_singleton] at hr
      subst hr
      exact ⟨hn, by show ([] : List UInt8).length ≤ 100; decide, by show ([] : List UInt8).length ≤ 100; decide⟩
  · intro r hr
    rcases List.mem_append.1 hr with hr | hr
    · exact h r hr
    · rw [List.mem_singleton] at hr
      subst hr
      exact node_short ho i p hn
theorem short_D {t : List Nd} (ho : okT t) (k : Nat) : ∀ (l : List En) (s : Tl), (∀ e ∈ l, e.1.length ≤ 40) → (∀ r ∈ s.2, shortR r) → ∀ r ∈ (tlD t k s l).2, shortR r
  | [], _, _, h => h
  | e :: l, _, hl, h => short_D ho k l _ (fun f hf => hl f (List.mem_cons_of_mem _ hf)) (short_E ho (hl e (List.mem_cons_self ..)) h)
theorem short_S {t : List Nd} (ho : okT t) : ∀ k, ∀ r ∈ (tlS t k).2, shortR r
  | 0 => by
    rw [tlS]
    exact short_E ho (by decide) (fun r hr => by cases hr)
  | k + 1 => by
    have ih := short_S ho k
    rw [tlS]
    split
    · exact short_D ho k _ _ (fun e he => name_short ho _ e he) ih
    · exact ih
theorem tell_few {t : List Nd} (ho : okT t) (hl : (tellL t).length ≤ 50) : fewR (tellL t) := by
  refine ⟨?_, hl⟩
  unfold tellL
  split
  · exact short_S ho 24
  · intro r hr; cases hr
set_option maxHeartbeats 4000000 in
theorem again_big (v : Value) (l : List Rw) (m : Int) (w : World) (h : RawsR w v l) (hl : l.length ≤ maxLen) (hs : ¬ fewR l) :
    Calls Try.prog 11 #[.int .u8 m, v] w fun e w' => e = .returned (.bool true) ∧ Below w.heap.size w w' := by
  have HA := Lib.hid (awake10_any w)
  have HS := Lib.hid (fun W (hb : Below w.heap.size w W) => fewR_any v l W (h.below hb) hl)
  rw [toB_false hs] at HS
  clear h hl hs
  go_enter Try.func11, Try.ntmps11
  go_wp2_with fail
  refine HA.out.mono ?_
  rintro e w1 ⟨rfl, hb1⟩
  have HB1 := Lib.hid hb1
  clear hb1
  go_wp2_with fail
  refine (HS.out _ HB1.out).mono ?_
  rintro e w2 ⟨rfl, hb2⟩
  have HB2 := Lib.hid (bt hb2 HB1.out)
  clear hb2
  go_wp2
  go_ret
  exact ⟨rfl, HB2.out⟩
set_option maxHeartbeats 4000000 in
theorem again_few (v : Value) (l : List Rw) (m : Int) (w : World) (hm0 : 0 ≤ m) (hm1 : m ≤ 255) (h : RawsR w v l) (hl : l.length ≤ maxLen) (hs : fewR l) :
    Calls Try.prog 11 #[.int .u8 m, v] w fun e w' => e = .returned (.bool true) ∧ Below w.heap.size w w' := by
  have HA := Lib.hid (awake10_any w)
  have HS := Lib.hid (fun W (hb : Below w.heap.size w W) => fewR_any v l W (h.below hb) hl)
  rw [toB_true hs] at HS
  have HC := Lib.hid (fun W (hb : Below w.heap.size w W) => build_any m v l W (h.below hb) hs)
  have h50 := hs.2
  obtain ⟨A, c, rfl⟩ := raws_form h
  clear h hl hs
  cases hX : bldA m l with
  | bad k0 e0 =>
    rw [hX] at HC
    clear hX
    go_enter Try.func11, Try.ntmps11
    go_wp2_with fail
    refine HA.out.mono ?_
    rintro e w1 ⟨rfl, hb1⟩
    have HB1 := Lib.hid hb1
    clear hb1
    go_wp2_with fail
    refine (HS.out _ HB1.out).mono ?_
    rintro e w2 ⟨rfl, hb2⟩
    have HB2 := Lib.hid (bt hb2 HB1.out)
    clear hb2
    go_wp2_with fail
    refine (HC.out _ HB2.out).mono ?_
    rintro e w3 ⟨⟨rfl, hne⟩, hb3⟩
    have HB3 := Lib.hid (bt hb3 HB2.out)
    have q0 : (e0 != 0) = true := by simpa using hne
    clear hb3 hne
    go_wp2
    go_ret
    exact ⟨rfl, HB3.out⟩
  | good T =>
    obtain ⟨U, hU1, hU2, hU3, hU4, hU5⟩ := again_all hX
    have hfew := tell_few (tre_all hX).1.ok (by omega)
    have HUS := Lib.hid hU2
    have HTU := Lib.hid hU3
    have HLN := Lib.hid hU4
    have HSM := Lib.hid hU5
    obtain ⟨X, hX2⟩ : ∃ X, tellL T = X := ⟨_, rfl⟩
    rw [hX2] at hU1 hU3 hU4 hfew HTU HLN
    have HX2 := Lib.hid hX2
    have HCX := Lib.hid (fun (v : Value) W (h : RawsR W v X) => build_any m v X W h hfew)
    rw [hU1] at HCX
    rw [hX] at HC
    have hxl : X.length ≤ 50 := by omega
    clear hX hU1 hU2 hU3 hU4 hU5 hX2 hfew
    go_enter Try.func11, Try.ntmps11
    go_wp2_with fail
    refine HA.out.mono ?_
    rintro e w1 ⟨rfl, hb1⟩
    have HB1 := Lib.hid hb1
    clear hb1
    go_wp2_with fail
    refine (HS.out _ HB1.out).mono ?_
    rintro e w2 ⟨rfl, hb2⟩
    have HB2 := Lib.hid (bt hb2 HB1.out)
    clear hb2
    go_wp2_with fail
    refine (HC.out _ HB2.out).mono ?_
    rintro e w3 ⟨⟨g, rfl, ht, -⟩, hb3⟩
    have HT3 := Lib.hid ht.ptr
    have HB3 := Lib.hid (bt hb3 HB2.out)
    clear ht hb3 HC HS HA HB1 HB2
    go_wp2_with fail
    refine (tell_any _ T w3 HT3.out).mono ?_
    rintro e w4 ⟨⟨vx, rfl, hx⟩, hb4⟩
    rw [HX2.out] at hx
    have HX4 := Lib.hid hx
    have HT4 := Lib.hid (HT3.out.below hb4)
    have HB4 := Lib.hid (bt hb4 HB3.out)
    obtain ⟨Ax, cx, rfl⟩ := raws_form hx
    clear hx hb4 HT3 HB3
    go_wp2_with fail
    refine (HCX.out _ w4 HX4.out).mono ?_
    rintro e w5 ⟨⟨g5, rfl, hu, -⟩, hb5⟩
    have HU5 := Lib.hid hu.ptr
    have HT5 := Lib.hid (HT4.out.below hb5)
    have HX5 := Lib.hid (HX4.out.below hb5)
    have HB5 := Lib.hid (bt hb5 HB4.out)
    clear hu hb5 HT4 HB4 HX4
    go_wp2_with fail
    refine (used_any _ U w5 HU5.out).mono ?_
    rintro e w6 ⟨rfl, hb6⟩
    have HU6 := Lib.hid (HU5.out.below hb6)
    have HT6 := Lib.hid (HT5.out.below hb6)
    have HX6 := Lib.hid (HX5.out.below hb6)
    have HB6 := Lib.hid (bt hb6 HB5.out)
    rw [HUS.out]
    clear hb6 HT5 HB5 HX5 HU5
    go_wp2_with fail
    refine (used_any _ T w6 HT6.out).mono ?_
    rintro e w7 ⟨rfl, hb7⟩
    have HU7 := Lib.hid (HU6.out.below hb7)
    have HX7 := Lib.hid (HX6.out.below hb7)
    have HB7 := Lib.hid (bt hb7 HB6.out)
    clear hb7 HT6 HB6 HX6 HU6
    generalize usedT T = US
    have qU : ((US : Int) != (US : Int)) = false := by simp
    go_wp2_with fail
    refine (tell_any _ U w7 HU7.out).mono ?_
    rintro e w8 ⟨⟨vy, rfl, hy⟩, hb8⟩
    rw [HTU.out] at hy
    have HY8 := Lib.hid hy
    have HX8 := Lib.hid (HX7.out.below hb8)
    have HU8 := Lib.hid (HU7.out.below hb8)
    have HB8 := Lib.hid (bt hb8 HB7.out)
    obtain ⟨Ay, cy, rfl⟩ := raws_form hy
    clear hy hb8 HX7 HU7 HB7
    go_wp2_with fail
    refine (HCX.out _ w8 HY8.out).mono ?_
    rintro e w9 ⟨⟨g9, rfl, hv, -⟩, hb9⟩
    have HV9 := Lib.hid hv.ptr
    have HU9 := Lib.hid (HU8.out.below hb9)
    have HX9 := Lib.hid (HX8.out.below hb9)
    have HY9 := Lib.hid (HY8.out.below hb9)
    have HB9 := Lib.hid (bt hb9 HB8.out)
    clear hv hb9 HX8 HU8 HB8 HY8
    have qX : ((X.length : Int) != (X.length : Int)) = false := by simp
    go_wp2_with fail
    refine (tsame_any _ _ U U w9 HV9.out HU9.out).mono ?_
    rintro e wa ⟨rfl, hba⟩
    rw [HSM.out]
    have HXA := Lib.hid (HX9.out.below hba)
    have HYA := Lib.hid (HY9.out.below hba)
    have HBA := Lib.hid (bt hba HB9.out)
    clear hba HX9 HY9 HB9 HU9 HV9
    go_wp2
    go_loopg [18] X.length (fun gh s18 wr => ∃ k : Nat, s18 = .int .i64 k ∧ k ≤ X.length ∧ gh = X.length - k ∧ Below w.heap.size w wr ∧ RawsR wr (.slice Ax X.length cx) X ∧ RawsR wr (.slice Ay X.length cy) X)
    case atStart => exact ⟨0, rfl, Nat.zero_le _, rfl, HBA.out, HXA.out, HYA.out⟩
    case round =>
      clear HBA HXA HYA
      obtain ⟨k, rfl, hk, rfl, hbr, hxr, hyr⟩ := hrel
      have HBA := Lib.hid hbr
      have HXA := Lib.hid hxr
      have HYA := Lib.hid hyr
      clear hbr hxr hyr
      by_cases hlt : k < X.length
      · have hlt' : (k : Int) < (X.length : Int) := by omega
        obtain ⟨r, hr⟩ : ∃ r, X[k]? = some r := ⟨_, List.getElem?_eq_getElem hlt⟩
        obtain ⟨ad, vd, hA, c0, ⟨c1, c2, c3, c4, c5, c6, c7, c8⟩, -⟩ := raws_get HXA.out hr
        obtain ⟨ad', vd', hA', c0', ⟨c1', c2', c3', c4', c5', c6', c7', c8'⟩, -⟩ := raws_get HYA.out hr
        subst hA hA'
        clear hr
        have y0 : (r.kind != r.kind) = false := by simp
        have y1 : (r.mode != r.mode) = false := by simp
        have y2 : (r.parent != r.parent) = false := by simp
        have y3 : (r.node != r.node) = false := by simp
        have y4 : ((bA r.name).toList != (bA r.name).toList) = false := by simp
        go_wp2
        go_quiet (fail)
        go_wp2
        go_roundg (X.length - (k + 1))
        case measure => omega
        case rel => exact ⟨k + 1, by go_num, by omega, rfl, bdN HBA.out _, HXA.out.below (bdN (Below.refl _ _) _), HYA.out.below (bdN (Below.refl _ _) _)⟩
      · have hlt' : ¬ (k : Int) < (X.length : Int) := by omega
        have qL : ((X.length : Int) == (l.length : Int)) = true := by rw [HLN.out]; simp
        go_wp2
        go_ret
        exact ⟨rfl, HBA.out⟩
theorem again_any (v : Value) (l : List Rw) (m : Int) (w : World) (hm0 : 0 ≤ m) (hm1 : m ≤ 255) (h : RawsR w v l) (hl : l.length ≤ maxLen) :
    Calls Try.prog 11 #[.int .u8 m, v] w fun e w' => e = .returned (.bool true) ∧ Below w.heap.size w w' := by
  by_cases q : fewR l
  · exact again_few v l m w hm0 hm1 h hl q
  · exact again_big v l m w h hl q
end Go.Proofs.Ytehaohaphlmndaa
