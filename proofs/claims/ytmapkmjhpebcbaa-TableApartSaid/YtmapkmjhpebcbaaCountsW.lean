/-
  TableCounts: all nodes' links together are no more than all entries; where all entries have nodes, they are as many. The condition: the list of acts is no longer than a machine can hold.
-/
import Derived.Test.YtmapkmjhpebcbaaTabAw
namespace Go.Proofs.Ytmapkmjhpebcbaa
open Go Go.RowKit

attribute [local go_sem] cell_off4 cell_blk4
theorem ok_play : ∀ (l : List Ac) {t : List Nd}, okT t → okT (playT t l)
  | [], _, h => h
  | _ :: l, _, h => ok_play l (ok_act h (fun hr => toB_iff.1 hr))
/-- All entries of the first nodes have nodes. -/
def whlT (T : List Nd) (k : Nat) : Prop := ∀ n ∈ T.take k, ∀ e ∈ n.ents, tis T e.2 = true
def whlE (T : List Nd) (l : List En) (j : Nat) : Prop := ∀ e ∈ l.take j, tis T e.2 = true
theorem toB_and (p q : Prop) : toB (p ∧ q) = (toB p && toB q) := by
  by_cases hp : p
  · by_cases hq : q
    · rw [toB_true hp, toB_true hq, toB_true ⟨hp, hq⟩]; rfl
    · rw [toB_false hq, toB_false (fun h => hq h.2), Bool.and_false]
  · rw [toB_false hp, toB_false (fun h => hp h.1), Bool.false_and]
theorem toB_congr {p q : Prop} (h : p ↔ q) : toB p = toB q := by
  by_cases hp : p
  · rw [toB_true hp, toB_true (h.1 hp)]
  · rw [toB_false hp, toB_false (fun hq => hp (h.2 hq))]
theorem whlE_snoc {T : List Nd} {l : List En} {j : Nat} {e : En} (h : l[j]? = some e) (A : Prop) : toB (A ∧ whlE T l (j + 1)) = (toB (A ∧ whlE T l j) && tis T e.2) := by
  have h2 : whlE T l (j + 1) ↔ (whlE T l j ∧ tis T e.2 = true) := by
    unfold whlE
    rw [take_snoc' h]
    constructor
    · intro hx
      exact ⟨fun x hm => hx x (List.mem_append.2 (.inl hm)), hx e (by simp)⟩
    · rintro ⟨h1, h2⟩ x hm
      rcases List.mem_append.1 hm with hm | hm
      · exact h1 x hm
      · rw [List.mem_singleton] at hm
        rw [hm]
        exact h2
  rw [toB_and, toB_congr h2, toB_and, toB_and, ← Bool.and_assoc]
  congr 1
  cases tis T e.2 with
  | true => exact toB_true rfl
  | false => exact toB_false Bool.false_ne_true
theorem whlE_zero (T : List Nd) (l : List En) (A : Prop) : toB (A ∧ whlE T l 0) = toB A := toB_congr ⟨fun h => h.1, fun h => ⟨h, fun e he => by simp at he⟩⟩
theorem whlT_snoc {T : List Nd} {k : Nat} {n : Nd} (h : T[k]? = some n) : toB (whlT T k ∧ whlE T n.ents n.ents.length) = toB (whlT T (k + 1)) := by
  refine toB_congr ?_
  unfold whlT whlE
  rw [take_snoc' h, List.take_length]
  constructor
  · rintro ⟨h1, h2⟩ m hm
    rcases List.mem_append.1 hm with hm | hm
    · exact h1 m hm
    · rw [List.mem_singleton] at hm
      rw [hm]
      exact h2
  · intro h1
    exact ⟨fun m hm => h1 m (List.mem_append.2 (.inl hm)), h1 n (by simp)⟩
theorem ent_snoc {T : List Nd} {k : Nat} {n : Nd} (h : T[k]? = some n) : entT (T.take (k + 1)) = entT (T.take k) + n.ents.length := by
  unfold entT
  rw [take_snoc' h, List.map_append, List.sum_append, List.map_cons, List.map_nil, List.sum_cons, List.sum_nil, Nat.add_zero]
theorem ent_bd {t : List Nd} (h : okT t) : ∀ (k : Nat), entT (t.take k) ≤ 8 * k
  | 0 => by simp [entT]
  | k + 1 => by
    have ih := ent_bd h k
    by_cases hlt : k < t.length
    · have hk := List.getElem?_eq_getElem hlt
      rw [ent_snoc hk]
      have h1 := ok_ents_le h (List.getElem_mem hlt)
      omega
    · rw [List.take_of_length_le (by omega)] at ih ⊢
      omega
theorem link_bd2 {t : List Nd} (h : okT t) (hl : t.length ≤ 24) (i : Int) : linkT t i ≤ 192 := by
  have := link_bd h i t.length
  rw [List.take_length] at this
  omega
set_option maxRecDepth 100000 in
set_option maxHeartbeats 8000000 in
theorem counts_big (v : Value) (l : List Ac) (w : World) (h : ActsR w v l) (hl : l.length ≤ maxLen) (hs : ¬ smallP l) :
    Calls Try.prog 7 #[v] w fun e w' => e = .returned (.bool true) ∧ Below w.heap.size w w' := by
  have HA := Lib.hid (awake_any w)
  have HS := Lib.hid (fun W (hb : Below w.heap.size w W) => small_any v l W (h.below hb) hl)
  rw [toB_false hs] at HS
  clear h hl hs
  go_enter Try.func7, Try.ntmps7
  go_wp2_with fail
  refine HA.out.mono ?_
  rintro e w1 ⟨rfl, hb1⟩
  have HB1 := Lib.hid hb1
  clear hb1
  go_wp2_with fail
  refine (HS.out _ HB1.out).mono ?_
  rintro e w2 ⟨rfl, hb2⟩
  have HB2 := Lib.hid (bt hb2 HB1.out)
  clear hb2
  go_wp2
  go_ret
  exact ⟨rfl, HB2.out⟩
set_option maxRecDepth 100000 in
set_option maxHeartbeats 8000000 in
theorem counts_few (v : Value) (l : List Ac) (w : World) (h : ActsR w v l) (hl : l.length ≤ maxLen) (hs : smallP l) :
    Calls Try.prog 7 #[v] w fun e w' => e = .returned (.bool true) ∧ Below w.heap.size w w' := by
  have HA := Lib.hid (awake_any w)
  have HSM := Lib.hid (fun W (hb : Below w.heap.size w W) => small_any v l W (h.below hb) hl)
  rw [toB_true hs] at HSM
  have HAC := Lib.hid h
  have HSP := Lib.hid hs
  obtain ⟨A0, c0, rfl⟩ := acts_form h
  clear h hl hs
  go_enter Try.func7, Try.ntmps7
  go_wp2_with fail
  refine HA.out.mono ?_
  rintro e w1 ⟨rfl, hb1⟩
  have HB1 := Lib.hid hb1
  clear hb1
  go_wp2_with fail
  refine (HSM.out _ HB1.out).mono ?_
  rintro e w2 ⟨rfl, hb2⟩
  have HB2 := Lib.hid (bt hb2 HB1.out)
  clear hb2
  go_wp2_with fail
  refine (new_any 24 w2).mono ?_
  rintro e w3 ⟨rfl, ht3, hb3, -⟩
  obtain ⟨g, hg⟩ : ∃ g, w2.heap.size = g := ⟨_, rfl⟩
  have HT3 := Lib.hid (ht3 (fun _ => True))
  have HB3 := Lib.hid (bt hb3 HB2.out)
  have HG := Lib.hid (show w.heap.size ≤ g by rw [← hg]; exact HB2.out.size)
  rw [hg] at HT3 ⊢
  clear ht3 hb3 hg
  go_wp2_with fail
  refine (play_any g _ (fun _ => True) _ l w w3 HT3.out HAC.out HB3.out HG.out HSP.out (fun _ _ => trivial)).mono ?_
  rintro e w4 ⟨rfl, ht4, hg4⟩
  obtain ⟨T, hT⟩ : ∃ T, playT (List.replicate (newL 24) Nd.zero) l = T := ⟨_, rfl⟩
  have HLT := Lib.hid (show T.length = 24 by rw [← hT, len_play, List.length_replicate]; rfl)
  have HOK := Lib.hid (show okT T by rw [← hT]; exact ok_play l (ok_new _))
  rw [hT] at ht4
  have HT4 := Lib.hid ht4
  have HB4 := Lib.hid (grown_bl HB3.out hg4 HG.out)
  clear ht4 hg4 hT
  go_wp2
  go_loopg [6, 7, 8, 9] 24 (fun gh s6 s7 s8 s9 wr => ∃ k : Nat, s6 = .int .i64 (entT (T.take k) : Int) ∧ s7 = .int .i64 (lnkT T k : Int) ∧ s8 = .bool (toB (whlT T k)) ∧ s9 = .int .i64 ((k : Int) + 1) ∧ k ≤ 24 ∧ gh = 24 - k ∧ Below w4.heap.size w4 wr)
  case atStart => exact ⟨0, rfl, rfl, by rw [toB_true (show whlT T 0 from fun n hn => by simp at hn)], rfl, Nat.zero_le _, rfl, Below.refl _ _⟩
  case round =>
    obtain ⟨k, rfl, rfl, rfl, rfl, hk, rfl, hbr⟩ := hrel
    have HBR := Lib.hid hbr
    clear hbr
    by_cases hlt : k < 24
    · have hlt' : (k : Int) + 1 ≤ 24 := by omega
      obtain ⟨n, hn⟩ : ∃ n, T[k]? = some n := ⟨_, List.getElem?_eq_getElem (by rw [HLT.out]; exact hlt)⟩
      have hTn : tget T ((k : Int) + 1) = n := by
        obtain ⟨h1, h2⟩ := List.getElem?_eq_some_iff.1 hn
        rw [tget_at h1, h2]
      have HG5 := Lib.hid (get_any _ T ((k : Int) + 1) wr (HT4.out.below HBR.out).ptr)
      rw [hTn] at HG5
      have hE := ent_bd HOK.out k
      have hne := ok_ents_le HOK.out (List.mem_of_getElem? hn)
      have HES := Lib.hid (ent_snoc hn)
      have HWS := Lib.hid (whlT_snoc hn)
      have HLK := Lib.hid (show lnkT T (k + 1) = lnkT T k + if tis T ((k : Int) + 1) = true then linkT T ((k : Int) + 1) else 0 from rfl)
      have hL := Nat.le_trans (lnk_le T k) (show entT T ≤ 192 by have := ent_bd HOK.out 24; rw [List.take_of_length_le (by rw [HLT.out]; exact Nat.le_refl _)] at this; omega)
      have HPZ := Lib.hid (par_zero (i := (k : Int) + 1) T 0)
      have hlk := link_bd2 HOK.out (by rw [HLT.out]; exact Nat.le_refl _) ((k : Int) + 1)
      have HLI := Lib.hid (fun W (hb : Below w4.heap.size w4 W) => links_any _ T ((k : Int) + 1) W (HT4.out.below hb).ptr)
      have HPI := Lib.hid (fun W (hb : Below w4.heap.size w4 W) => parent_any _ T ((k : Int) + 1) W (HT4.out.below hb).ptr)
      generalize entT (T.take k) = E at hE HES ⊢
      generalize lnkT T k = L at hL HLK ⊢
      generalize tis T ((k : Int) + 1) = IS at HG5 HLK
      generalize linkT T ((k : Int) + 1) = LI at HLI HLK HPZ hlk
      generalize parT T 0 ((k : Int) + 1) = PA at HPI HPZ
      clear hn hTn
      go_wp2_with fail
      refine HG5.out.mono ?_
      rintro e w5 ⟨vd, ve, rfl, hd5, he5, -, -, hb5⟩
      have HE5 := Lib.hid (he5.below (ba w5 (.cells (ndC n vd ve) 39)))
      have HB5 := Lib.hid (bt (ba w5 (.cells (ndC n vd ve) 39)) (bt hb5 HBR.out))
      obtain ⟨A1, k1, rfl⟩ := bytesT_form hd5
      obtain ⟨A2, k2, rfl⟩ := entsT_form he5
      have HK5 := Lib.hid (Blk.new w5 39 (ndC n (.slice A1 n.data.length k1) (.slice A2 n.ents.length k2)))
      clear hd5 he5 hb5
      unfold nodeV
      go_wp2
      go_loopg [6, 8, 12] n.ents.length (fun gh s6 s8 s12 wr2 => ∃ j : Nat, s6 = .int .i64 ((E : Int) + (j : Int)) ∧ s8 = .bool (toB (whlT T k ∧ whlE T n.ents j)) ∧ s12 = .int .i64 j ∧ j ≤ n.ents.length ∧ gh = n.ents.length - j ∧ Below (w5.alloc (.cells (ndC n (.slice A1 n.data.length k1) (.slice A2 n.ents.length k2)) 39)).heap.size (w5.alloc (.cells (ndC n (.slice A1 n.data.length k1) (.slice A2 n.ents.length k2)) 39)) wr2)
      case atStart => exact ⟨0, by simp, by rw [whlE_zero], rfl, Nat.zero_le _, rfl, Below.refl _ _⟩
      case round =>
        obtain ⟨j, rfl, rfl, rfl, hj, rfl, hbr2⟩ := hrel
        have HBR2 := Lib.hid hbr2
        have p5 : wr.cell? ⟨w5.heap.size, 5, none⟩ = some (.slice A2 n.ents.length k2) := (HK5.out.below hbr2).cell 5
        clear hbr2
        by_cases hjl : j < n.ents.length
        · have hjl' : (j : Int) < (n.ents.length : Int) := by omega
          obtain ⟨e, hje⟩ : ∃ e, n.ents[j]? = some e := ⟨_, List.getElem?_eq_getElem hjl⟩
          obtain ⟨ad, hA, d0, d1⟩ := ents_get (HE5.out.below HBR2.out).1 hje
          subst hA
          have HWE := Lib.hid (whlE_snoc (T := T) hje (whlT T k))
          have HG6 := Lib.hid (get_any _ T e.2 wr (HT4.out.below (bt HBR2.out HB5.out)).ptr)
          generalize toB (whlT T k ∧ whlE T n.ents j) = Y at HWE ⊢
          generalize tis T e.2 = TI at HWE HG6
          clear hje
          cases Y
          all_goals (
            go_wp2_with fail
            refine HG6.out.mono ?_
            rintro e6 w6 ⟨vd6, ve6, rfl, hd6, he6, -, -, hb6⟩
            have HB6 := Lib.hid (bt (ba w6 (.cells (ndC (tget T e.2) vd6 ve6) 39)) (bt hb6 HBR2.out))
            obtain ⟨A3, k3, rfl⟩ := bytesT_form hd6
            obtain ⟨A4, k4, rfl⟩ := entsT_form he6
            clear hd6 he6 hb6 d0 d1 p5
            unfold nodeV
            go_wp2
            go_roundg (n.ents.length - (j + 1))
            case measure => omega
            case rel => exact ⟨j + 1, by go_num, by rw [HWE.out]; rfl, by go_num, by omega, rfl, HB6.out⟩)
        · have hjl' : ¬ (j : Int) < (n.ents.length : Int) := by omega
          have hje : j = n.ents.length := by omega
          have HJE := Lib.hid hje
          clear hje
          have HB8 := Lib.hid (bt HBR2.out HB5.out)
          have HX1 := Lib.hid (show (E : Int) + (j : Int) = (entT (T.take (k + 1)) : Int) by rw [HES.out, HJE.out]; rfl)
          have HX2 := Lib.hid (show toB (whlT T k ∧ whlE T n.ents j) = toB (whlT T (k + 1)) by rw [← HWS.out, HJE.out])
          generalize toB (whlT T k ∧ whlE T n.ents j) = Y at HX2 ⊢
          have HLI2 := Lib.hid (HLI.out wr HB8.out)
          have HPI2 := Lib.hid (fun W (hb : Below wr.heap.size wr W) => HPI.out W (bt hb HB8.out))
          have HLI3 := Lib.hid (fun W (hb : Below wr.heap.size wr W) => HLI.out W (bt hb HB8.out))
          have HB0 := Lib.hid (Below.refl wr.heap.size wr)
          cases IS with
          | true =>
            have HX3 := Lib.hid (show (L : Int) + (LI : Int) = (lnkT T (k + 1) : Int) by rw [HLK.out, if_pos rfl]; rfl)
            by_cases hp : PA = 0
            · have hl0 : LI = 0 := HPZ.out.1 hp
              have q1 : ((PA : Int) == 0) = true := by rw [hp]; rfl
              have q2 : ((LI : Int) == 0) = true := by rw [hl0]; rfl
              clear hp hl0
              go_wp2_with fail
              refine HLI2.out.mono ?_
              rintro e w6 ⟨rfl, hb6⟩
              have HB6 := Lib.hid hb6
              clear hb6
              go_wp2_with fail
              refine (HPI2.out w6 HB6.out).mono ?_
              rintro e w7 ⟨rfl, hb7⟩
              have HB7 := Lib.hid (bt hb7 HB6.out)
              clear hb7
              go_wp2_with fail
              refine (HLI3.out w7 HB7.out).mono ?_
              rintro e w8 ⟨rfl, hb8⟩
              have HBZ := Lib.hid (bt hb8 HB7.out)
              clear hb8 p5
              go_wp2
              go_roundg (24 - (k + 1))
              case measure => omega
              case rel => exact ⟨k + 1, by rw [← HX1.out], by rw [← HX3.out], by rw [← HX2.out], by go_num, by omega, rfl, bt HBZ.out HB8.out⟩
            · have hl0 : ¬ LI = 0 := fun e => hp (HPZ.out.2 e)
              have q1 : ((PA : Int) == 0) = false := by rw [beq_eq_false_iff_ne]; omega
              have q2 : ((LI : Int) == 0) = false := by rw [beq_eq_false_iff_ne]; omega
              clear hp hl0
              go_wp2_with fail
              refine HLI2.out.mono ?_
              rintro e w6 ⟨rfl, hb6⟩
              have HB6 := Lib.hid hb6
              clear hb6
              go_wp2_with fail
              refine (HPI2.out w6 HB6.out).mono ?_
              rintro e w7 ⟨rfl, hb7⟩
              have HB7 := Lib.hid (bt hb7 HB6.out)
              clear hb7
              go_wp2_with fail
              refine (HLI3.out w7 HB7.out).mono ?_
              rintro e w8 ⟨rfl, hb8⟩
              have HBZ := Lib.hid (bt hb8 HB7.out)
              clear hb8 p5
              go_wp2
              go_roundg (24 - (k + 1))
              case measure => omega
              case rel => exact ⟨k + 1, by rw [← HX1.out], by rw [← HX3.out], by rw [← HX2.out], by go_num, by omega, rfl, bt HBZ.out HB8.out⟩
          | false =>
            have HX3 := Lib.hid (show (L : Int) = (lnkT T (k + 1) : Int) by rw [HLK.out, if_neg Bool.false_ne_true]; rfl)
            by_cases hp : PA = 0
            · have hl0 : LI = 0 := HPZ.out.1 hp
              have q1 : ((PA : Int) == 0) = true := by rw [hp]; rfl
              have q2 : ((LI : Int) == 0) = true := by rw [hl0]; rfl
              clear hp hl0
              go_wp2_with fail
              refine (HPI2.out wr HB0.out).mono ?_
              rintro e w7 ⟨rfl, hb7⟩
              have HB7 := Lib.hid (bt hb7 HB0.out)
              clear hb7
              go_wp2_with fail
              refine (HLI3.out w7 HB7.out).mono ?_
              rintro e w8 ⟨rfl, hb8⟩
              have HBZ := Lib.hid (bt hb8 HB7.out)
              clear hb8 p5
              go_wp2
              go_roundg (24 - (k + 1))
              case measure => omega
              case rel => exact ⟨k + 1, by rw [← HX1.out], by rw [← HX3.out], by rw [← HX2.out], by go_num, by omega, rfl, bt HBZ.out HB8.out⟩
            · have hl0 : ¬ LI = 0 := fun e => hp (HPZ.out.2 e)
              have q1 : ((PA : Int) == 0) = false := by rw [beq_eq_false_iff_ne]; omega
              have q2 : ((LI : Int) == 0) = false := by rw [beq_eq_false_iff_ne]; omega
              clear hp hl0
              go_wp2_with fail
              refine (HPI2.out wr HB0.out).mono ?_
              rintro e w7 ⟨rfl, hb7⟩
              have HB7 := Lib.hid (bt hb7 HB0.out)
              clear hb7
              go_wp2_with fail
              refine (HLI3.out w7 HB7.out).mono ?_
              rintro e w8 ⟨rfl, hb8⟩
              have HBZ := Lib.hid (bt hb8 HB7.out)
              clear hb8 p5
              go_wp2
              go_roundg (24 - (k + 1))
              case measure => omega
              case rel => exact ⟨k + 1, by rw [← HX1.out], by rw [← HX3.out], by rw [← HX2.out], by go_num, by omega, rfl, bt HBZ.out HB8.out⟩
    · have hlt' : ¬ (k : Int) + 1 ≤ 24 := by omega
      have hk24 : k = 24 := by omega
      have hte : T.take k = T := List.take_of_length_le (by rw [HLT.out]; omega)
      rw [hte]
      have hLE := lnk_le T k
      have HEQ := Lib.hid (show toB (whlT T k) = true → lnkT T k = entT T from fun h => lnk_all (by rw [HLT.out]; omega) (fun n hn e he => (toB_iff.1 h) n (by rw [hte]; exact hn) e he))
      have hEB : entT T ≤ 192 := by have := ent_bd HOK.out 24; rw [List.take_of_length_le (by rw [HLT.out]; exact Nat.le_refl _)] at this; omega
      have HBF := Lib.hid (bt HBR.out HB4.out)
      clear hte hk24
      generalize toB (whlT T k) = Y at HEQ ⊢
      generalize lnkT T k = L at hLE HEQ ⊢
      generalize entT T = E at hLE HEQ hEB ⊢
      have hLE' : (L : Int) ≤ (E : Int) := by omega
      cases Y with
      | true =>
        have hq := HEQ.out rfl
        have q1 : ((L : Int) == (E : Int)) = true := by rw [hq]; simp
        clear hq
        go_wp2
        go_ret
        exact ⟨rfl, HBF.out⟩
      | false =>
        go_wp2
        go_ret
        exact ⟨rfl, HBF.out⟩
theorem counts_any (v : Value) (l : List Ac) (w : World) (h : ActsR w v l) (hl : l.length ≤ maxLen) :
    Calls Try.prog 7 #[v] w fun e w' => e = .returned (.bool true) ∧ Below w.heap.size w w' := by
  by_cases hs : smallP l
  · exact counts_few v l w h hl hs
  · exact counts_big v l w h hl hs
end Go.Proofs.Ytmapkmjhpebcbaa
