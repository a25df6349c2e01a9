/-
  What the reference's one answers of a text: the clause that it is, or that it is none.
-/
import Derived.Test.YtbjajipeiigodaaDoorOneM
import Derived.Test.YtbjajipeiigodaaDoorSame
import Derived.RegionTactic
namespace Go.Proofs.YtbjajipeiigodaaDoor
open Go Go.RowKit

/-- What one answers. -/
def OnePost (o : Option CC) (w : World) (e : Ending) (w' : World) : Prop := Below w.heap.size w w' ∧ match o with
  | none => ∃ (x : Int) (A : Option Addr) (n c : Nat), e = .returned (.tuple #[.agg #[.int .i64 x, .slice A n c], .bool false])
  | some cc => ∃ (A : Option Addr) (n c B : Nat), e = .returned (.tuple #[.agg #[.int .i64 cc.who, .slice A n c], .bool true]) ∧ w.heap.size ≤ B ∧ w'.ownsRow B 76 3 (.slice A n c) cc.acts.length (aCells cc.acts)
theorem lenL (s : ByteArray) : s.data.toList.length = s.size := by simp
theorem take_text (s : ByteArray) (n : Nat) : (s.extract 0 n).data.toList = s.data.toList.take n := by
  rw [ByteArray.data_extract, Array.toList_extract, List.extract_eq_take_drop]
  simp
attribute [local go_sem] cell_set_off cell_set_blk
set_option maxRecDepth 100000 in
set_option maxHeartbeats 1000000 in
theorem one_all (s : ByteArray) (w : World) (hs : s.size ≤ 1000000) (hW : ∀ c ∈ s.data.toList, c ∈ [117, 103, 111, 97]) : Calls Tryd.prog 37 #[.string s] w (OnePost (oneC s.data.toList) w) := by
  have hone : oneC s.data.toList = none := by
    have h := one_of (W := s.data.toList) (rest := []) hW (fun e r h => by cases h)
    rw [List.append_nil] at h
    rw [h]; rfl
  rw [hone]
  have HW := Lib.hid hW
  clear hone hW
  go_enter Tryd.func37, Tryd.ntmps37
  go_wp2
  go_loop [4] (fun i => ∃ k : Nat, k ≤ s.size ∧ i = .int .i64 k) (fun i => s.size - (intOf i).toNat)
  case atStart => exact ⟨0, Nat.zero_le _, rfl⟩
  case round =>
    obtain ⟨k, hk, rfl⟩ := hrel
    by_cases hlt : k < s.size
    · obtain ⟨c, hc⟩ : ∃ c, s[k] = c := ⟨_, rfl⟩
      have hck : s.data.toList[k]? = some c := by rw [← hc]; exact List.getElem?_eq_getElem (by simpa using hlt)
      have HPL := Lib.hid (fun w => place_any ⟨#[117, 103, 111, 97]⟩ c w (by decide))
      have hp : 0 ≤ plc (⟨#[117, 103, 111, 97]⟩ : ByteArray).data.toList c := (plc_mem c [117, 103, 111, 97]).2 (HW.out c (List.mem_of_getElem? hck))
      generalize plc (⟨#[117, 103, 111, 97]⟩ : ByteArray).data.toList c = P at HPL hp
      clear hck
      go_wp2_with fail
      refine (HPL.out _).mono ?_
      rintro e w1 ⟨rfl, rfl⟩
      go_wp2
      go_round
      case rel => exact ⟨k + 1, by omega, by go_num⟩
      case measure => simp [intOf]; omega
    · obtain rfl : k = s.size := by omega
      have HSM := Lib.hid (fun w => sum_any s ⟨#[117, 103, 111]⟩ w hs (by decide))
      have HPA := Lib.hid (fun w => place_any s 97 w hs)
      generalize sumK s.data.toList (⟨#[117, 103, 111]⟩ : ByteArray).data.toList (⟨#[117, 103, 111]⟩ : ByteArray).size = x at HSM
      generalize plc s.data.toList 97 = P at HPA
      rw [show co 97 = 97 from rfl] at HPA
      go_wp2_with fail
      (with_reducible refine (HSM.out _).mono ?_)
      rintro e w1 ⟨rfl, rfl⟩
      go_wp2_with fail
      (with_reducible refine (HPA.out _).mono ?_)
      rintro e w1 ⟨rfl, rfl⟩
      by_cases hP : 0 ≤ P
      · go_wp2
        refine wp_loop_rounds 1 ?_
        rw [rounds_succ]
        go_wp2
        go_region
        all_goals
          go_wp2
          exact bodyPost_ret (v := .tuple #[.agg #[.int .i64 7, .slice none 0 0], .bool false]) (by simp [results, Tryd.results37, go_sem]) rfl ⟨(((Below.refl _ _).alloc (Nat.le_refl _) _).alloc (by simp) _).drew, _, _, _, _, rfl⟩
      · go_wp2
        refine wp_loop_rounds 1 ?_
        rw [rounds_succ]
        go_wp2
        go_region
        all_goals
          go_wp2
          exact bodyPost_ret (v := .tuple #[.agg #[.int .i64 x, .slice none 0 0], .bool false]) (by simp [results, Tryd.results37, go_sem]) rfl ⟨(((Below.refl _ _).alloc (Nat.le_refl _) _).alloc (by simp) _).drew, _, _, _, _, rfl⟩
/-- Inside: the result's block, the clause's, and its acts. -/
def OI (w : World) (who : Int) (al : List CA) (va : Value) (wr : World) : Prop :=
  Below w.heap.size w wr ∧ Blk wr w.heap.size 73 #[.int .i64 0, .slice none 0 0] ∧ Blk wr (w.heap.size + 1) 73 #[.int .i64 who, va] ∧ wr.ownsRow (w.heap.size + 2) 76 3 va al.length (aCells al)
theorem OI.start (w : World) (who : Int) : OI w who [] (.slice none 0 0) ((w.alloc (.cells #[.int .i64 0, .slice none 0 0] 73)).alloc (.cells #[.int .i64 who, .slice none 0 0] 73)) := by
  have e : (w.alloc (.cells #[.int .i64 0, .slice none 0 0] 73)).heap.size = w.heap.size + 1 := by simp
  refine ⟨((Below.refl _ _).alloc (Nat.le_refl _) _).alloc (by simp) _, (Blk.new w _ _).alloc _, ?_, World.ownsRow_nil _ _ _ _⟩
  have h := Blk.new (w.alloc (.cells #[.int .i64 0, .slice none 0 0] 73)) 73 #[.int .i64 who, .slice none 0 0]
  rwa [e] at h
theorem len_of2 {a : ByteArray} {l : List UInt8} (h : a.data.toList = l) : a.size = l.length := by rw [← h]; simp
/-- How far letters of what go on. -/
theorem run_ex (L : List UInt8) : ∀ (d m : Nat), L.length - m = d → m ≤ L.length → ∃ K, m ≤ K ∧ K ≤ L.length ∧ (∀ t, m ≤ t → t < K → ∀ c, L[t]? = some c → perR (co c) ≠ 0) ∧ (∀ c, L[K]? = some c → perR (co c) = 0)
  | 0, m, hd, hm => ⟨m, Nat.le_refl _, hm, fun t h1 h2 => by omega, fun c hc => by
      have := (List.getElem?_eq_some_iff.1 hc).1
      omega⟩
  | d + 1, m, hd, hm => by
    obtain ⟨c, hc⟩ : ∃ c, L[m]? = some c := ⟨_, List.getElem?_eq_getElem (show m < L.length by omega)⟩
    by_cases hp : perR (co c) = 0
    · exact ⟨m, Nat.le_refl _, hm, fun t h1 h2 => by omega, fun e he => by rw [hc] at he; injection he with he; rw [← he]; exact hp⟩
    · obtain ⟨K, h1, h2, h3, h4⟩ := run_ex L d (m + 1) (by omega) (by omega)
      refine ⟨K, by omega, h2, fun t ht1 ht2 e he => ?_, h4⟩
      by_cases htm : t = m
      · subst htm
        rw [hc] at he
        injection he with he
        rw [← he]; exact hp
      · exact h3 t (by omega) ht2 e he
/-- A piece of a text. -/
theorem piece_run (s : ByteArray) (i j : Nat) (I J : Int) (hI : I = (i : Int)) (hJ : J = (j : Int)) (h1 : i ≤ j) (h2 : j ≤ s.size) : ∃ pc : ByteArray, pc.data.toList = (s.data.toList.drop i).take (j - i) ∧ ∀ w : World, (Instr.slice 9 (.string s) (some (.int .i64 I)) (some (.int .i64 J)) none).run Tryd.prog w = .ok (.string pc) w := by
  subst hI hJ
  refine ⟨s.extract i j, ?_, fun w => ?_⟩
  · rw [ByteArray.data_extract, Array.toList_extract, List.extract_eq_take_drop]
  · have e := run_slice_string w 9 s .i64 .i64 (i : Int) (j : Int) Tryd.underlying9 (by omega) (by omega) (by omega)
    rwa [show ((i : Int)).toNat = i by omega, show ((j : Int)).toNat = j by omega] at e
set_option maxRecDepth 100000 in
set_option maxHeartbeats 8000000 in
theorem one_a (s : ByteArray) (w : World) (hs : s.size ≤ 1000000) (n : Nat) (hn : n < s.size) (hW : ∀ c ∈ s.data.toList.take n, c ∈ [117, 103, 111, 97]) (he : whoR (co s[n]) = 0) (ha : 0 ≤ plc (s.data.toList.take n) 97) : Calls Tryd.prog 37 #[.string s] w (OnePost (oneC s.data.toList) w) := by
  have hone := one_of (W := s.data.toList.take n) (rest := s.data.toList.drop n) hW (fun e r h => by
    rw [List.drop_eq_getElem_cons (by simpa using hn)] at h
    injection h with h _
    rw [← h]; exact he)
  rw [List.take_append_drop] at hone
  obtain ⟨O, hO⟩ : ∃ O, oneC s.data.toList = O := ⟨_, rfl⟩
  rw [hO] at hone ⊢
  have HONE := Lib.hid hone
  have hws := who_sum hW
  rw [if_pos ha] at hws
  have HW := Lib.hid hW
  have HE := Lib.hid he
  obtain ⟨who, hwho⟩ : ∃ who : Int, ((orN wN (s.data.toList.take n) 0 : Nat) : Int) = who := ⟨_, rfl⟩
  rw [hwho] at hws
  have HWS := Lib.hid hws
  have HWHO := Lib.hid hwho
  clear hone hO hW he hws hwho
  go_enter Tryd.func37, Tryd.ntmps37
  go_wp2
  go_loop [4] (fun i => ∃ k : Nat, k ≤ n ∧ i = .int .i64 k) (fun i => n - (intOf i).toNat)
  case atStart => exact ⟨0, Nat.zero_le _, rfl⟩
  case round =>
    obtain ⟨k, hk, rfl⟩ := hrel
    have hks : k < s.size := by omega
    obtain ⟨c, hc⟩ : ∃ c, s[k] = c := ⟨_, rfl⟩
    have hck : s.data.toList[k]? = some c := by rw [← hc]; exact List.getElem?_eq_getElem (by simpa using hks)
    have HPL := Lib.hid (fun w => place_any ⟨#[117, 103, 111, 97]⟩ c w (by decide))
    have hpm := place_of c
    by_cases hlt : k < n
    · have hp : 0 ≤ plc (⟨#[117, 103, 111, 97]⟩ : ByteArray).data.toList c := (plc_mem c [117, 103, 111, 97]).2 (HW.out c (List.mem_of_getElem? (by rw [List.getElem?_take, if_pos hlt]; exact hck)))
      generalize plc (⟨#[117, 103, 111, 97]⟩ : ByteArray).data.toList c = P at HPL hp
      clear hck hpm
      go_wp2_with fail
      refine (HPL.out _).mono ?_
      rintro e w1 ⟨rfl, rfl⟩
      go_wp2
      go_round
      case rel => exact ⟨k + 1, by omega, by go_num⟩
      case measure => simp [intOf]; omega
    · obtain rfl : k = n := by omega
      have hp : ¬ 0 ≤ plc (⟨#[117, 103, 111, 97]⟩ : ByteArray).data.toList c := by
        intro h
        have := hpm.1.1 h
        apply this
        rw [← hc]; exact HE.out
      generalize plc (⟨#[117, 103, 111, 97]⟩ : ByteArray).data.toList c = P at HPL hp
      have hxz : (s.extract 0 k).size ≤ 1000000 := by simp; omega
      have HSM := Lib.hid (fun w => sum_any (s.extract 0 k) ⟨#[117, 103, 111]⟩ w hxz (by decide))
      have HPA := Lib.hid (fun w => place_any (s.extract 0 k) 97 w hxz)
      rw [take_text] at HSM HPA
      rw [show co 97 = 97 from rfl] at HPA
      have hss : sumK (s.data.toList.take k) (⟨#[117, 103, 111]⟩ : ByteArray).data.toList (⟨#[117, 103, 111]⟩ : ByteArray).size = sumK (s.data.toList.take k) [117, 103, 111] 3 := rfl
      rw [hss] at HSM
      generalize plc (s.data.toList.take k) 97 = Q at HPA ha
      generalize sumK (s.data.toList.take k) [117, 103, 111] 3 = x at HSM
      clear hck hpm hss
      go_wp2_with fail
      refine (HPL.out _).mono ?_
      rintro e w1 ⟨rfl, rfl⟩
      go_wp2_with fail
      (with_reducible refine (HSM.out _).mono ?_)
      rintro e w1 ⟨rfl, rfl⟩
      go_wp2_with fail
      (with_reducible refine (HPA.out _).mono ?_)
      rintro e w1 ⟨rfl, rfl⟩
      go_wp2
      obtain rfl : who = 7 := HWS.out.symm
      go_loopg [4] (s.size - k) (fun g s4 wr => ∃ (j : Nat) (al : List CA) (va : Value), s4 = .int .i64 j ∧ k ≤ j ∧ j ≤ s.size ∧ g = s.size - j ∧ (al = [] → j = k) ∧ al.length ≤ j ∧ actsR (s.data.toList.drop k) = (actsR (s.data.toList.drop j)).map (al ++ ·) ∧ OI w 7 al va wr)
      case atStart => exact ⟨k, [], .slice none 0 0, rfl, Nat.le_refl _, by omega, rfl, fun _ => rfl, Nat.zero_le _, by simp, OI.start w 7⟩
      case round =>
        obtain ⟨j, al, va, rfl, hkj, hj, rfl, hal, hall, hact, hI⟩ := hrel
        have HI := Lib.hid hI
        have HACT := Lib.hid hact
        have HAL := Lib.hid hal
        have k0 := hI.2.2.1.cell 0
        have k1 := hI.2.2.1.cell 1
        have r0 := hI.2.1.cell 0
        have r1 := hI.2.1.cell 1
        have q0 := hI.2.1.frozen 0
        have q1 := hI.2.1.frozen 1
        simp at k0 k1 r0 r1
        have hgl : w.heap.size + 1 < wr.heap.size := hI.2.2.1.lt
        clear hI hact hal
        by_cases hjs : j < s.size
        · obtain ⟨c, hcj⟩ : ∃ c, s[j] = c := ⟨_, rfl⟩
          have hdj : s.data.toList.drop j = c :: s.data.toList.drop (j + 1) := by rw [← hcj]; exact List.drop_eq_getElem_cons (by simpa using hjs)
          have HDJ := Lib.hid hdj
          have HSG := Lib.hid (fun w => place_any ⟨#[43, 45, 61]⟩ c w (by decide))
          have hps := plc_sign c
          rw [show plc (⟨#[43, 45, 61]⟩ : ByteArray).data.toList c = plc [43, 45, 61] c from rfl] at HSG
          clear hdj
          by_cases hsg : sgR (co c) = true
          · have hp2 := hps.2 hsg
            have HSIG := Lib.hid hsg
            generalize plc [43, 45, 61] c = P2 at HSG hp2
            clear hps hsg
            by_cases hj1 : j + 1 < s.size
            · obtain ⟨d, hcd⟩ : ∃ d, s[j + 1] = d := ⟨_, rfl⟩
              have hj1' : (j : Int) + 1 < s.size := by omega
              have hdd : s.data.toList.drop (j + 1) = d :: s.data.toList.drop (j + 2) := by rw [← hcd]; exact List.drop_eq_getElem_cons (by simpa using hj1)
              have HDD := Lib.hid hdd
              have HCP := Lib.hid (fun w => place_any ⟨#[117, 103, 111]⟩ d w (by decide))
              rw [show plc (⟨#[117, 103, 111]⟩ : ByteArray).data.toList d = plc [117, 103, 111] d from rfl] at HCP
              have hpd := place_of d
              clear hdd
              by_cases hcp : copR (co d) ≠ 0
              · have hp3 := hpd.2.1.2 hcp
                have hp4 := hpd.2.2.1 hp3
                have HP1 := Lib.hid (show actsR (s.data.toList.drop k) = (actsR (s.data.toList.drop (j + 2))).map (al ++ [(⟨c, 0, copR (co d)⟩ : CA)] ++ ·) by
                  rw [HACT.out, HDJ.out, HDD.out, act_copy HSIG.out hcp, Option.map_map]
                  congr 1
                  funext x
                  simp)
                obtain ⟨Y, hY⟩ : ∃ Y, copR (co d) = Y := ⟨_, rfl⟩
                rw [hY] at HP1 hp4
                obtain ⟨P3, hP3⟩ : ∃ P3, plc [117, 103, 111] d = P3 := ⟨_, rfl⟩
                rw [hP3] at HCP hp3 hp4
                have hY3 : Y ≤ 3 := by rcases copR_cases (co d) with h | h | h | h <;> omega
                subst hp4
                clear hpd hcp hY hP3
                go_wp2_with fail
                refine (HSG.out _).mono ?_
                rintro e w1 ⟨rfl, rfl⟩
                go_wp2_with fail
                refine (HCP.out _).mono ?_
                rintro e w1 ⟨rfl, rfl⟩
                go_wp2_with fail
                refine (HCP.out _).mono ?_
                rintro e w1 ⟨rfl, rfl⟩
                have HOV := Lib.hid (HI.out.2.2.2.alloc (.cells #[.int .u8 (co c), .int .i64 0, .int .i64 (P3 + 1)] 76))
                have HBK0 := Lib.hid (HI.out.2.2.1.alloc (.cells #[.int .u8 (co c), .int .i64 0, .int .i64 (P3 + 1)] 76))
                have HB20 := Lib.hid (HI.out.2.1.alloc (.cells #[.int .u8 (co c), .int .i64 0, .int .i64 (P3 + 1)] 76))
                go_wp2_with (at_builtin; refine wpList_append_one rfl (.tmp 88) (.tmp 90) _ rfl (w.heap.size + 2) 76 _ 3 24 Tryd.underlying71 info_A rfl (by decide) va al.length (aCells al) rfl (wr.alloc _) [.int .u8 (co c), .int .i64 0, .int .i64 (P3 + 1)] rfl (act_one ⟨c, 0, (P3 + 1)⟩) HOV.out (slice_next wr _) (by omega) (by omega) (by simp; omega) ?_; intro v' w' ho hg; obtain ⟨gv, cv, hv', hv1, hv2⟩ := ho.form (Nat.succ_pos _); subst hv'; have hbk := HBK0.out.kept hg (own_blk_ne' HOV.out HBK0.out (by decide)).symm; have kk1 := hbk.cell 1; have ff1 := hbk.frozen 1; simp at kk1; have HBK := Lib.hid hbk; have HO := Lib.hid ho; have HG := Lib.hid hg; clear ho hg hbk)
                have G1 : wr.grownBy w' va.ownBlock := grown_trans (World.grownBy_alloc wr _ _) HG.out
                have GS := grown_setCell w' ⟨w.heap.size + 1, 1, none⟩ (.slice (some ⟨gv, 0, none⟩) (al.length + 1) cv)
                go_roundg (s.size - (j + 2))
                case measure => omega
                case rel =>
                  refine ⟨j + 2, al ++ [⟨c, 0, (P3 + 1)⟩], .slice (some ⟨gv, 0, none⟩) (al.length + 1) cv, by go_num, by omega, by omega, rfl, by simp, by rw [List.length_append, List.length_singleton]; omega, HP1.out, ?_, ?_, ?_, ?_⟩
                  · exact (HI.out.1.grown G1 HI.out.1.size (fun q hq => by have := (HI.out.2.2.2.lt q hq).1; omega)).setCell (by simp) _
                  · exact (HB20.out.kept HG.out (own_blk_ne' HOV.out HB20.out (by decide)).symm).far (by simp) _
                  · exact HBK.out.set_ 1 _
                  · rw [aCells_snoc, List.length_append]
                    exact HO.out.kept GS (.inr (own_blk_ne' HO.out HBK.out (by decide)))
              · have hcp0 : copR (co d) = 0 := by omega
                have hp3 : ¬ 0 ≤ plc [117, 103, 111] d := fun h => hcp (hpd.2.1.1 h)
                generalize plc [117, 103, 111] d = P3 at HCP hp3
                obtain ⟨K, hK1, hK2, hK3, hK4⟩ := run_ex s.data.toList (s.data.toList.length - (j + 1)) (j + 1) rfl (by simp; omega)
                rw [lenL] at hK2
                have HK3 := Lib.hid hK3
                have HK4 := Lib.hid hK4
                have hPP : ∀ x ∈ (s.data.toList.drop (j + 1)).take (K - (j + 1)), x ∈ [114, 119, 120, 88, 115, 116] := by
                  intro x hx
                  obtain ⟨i, hi, rfl⟩ := List.getElem_of_mem hx
                  rw [List.length_take, List.length_drop] at hi
                  refine (place_of _).2.2.2.2.2.2 (hK3 (j + 1 + i) (by omega) (by omega) _ ?_)
                  rw [List.getElem_take, List.getElem_drop]
                  exact List.getElem?_eq_getElem _
                have HP1 := Lib.hid (show actsR (s.data.toList.drop k) = (actsR (s.data.toList.drop K)).map (al ++ [(⟨c, (orN pN ((s.data.toList.drop (j + 1)).take (K - (j + 1))) 0 : Nat), 0⟩ : CA)] ++ ·) by
                  have h1 : s.data.toList.drop (j + 1) = (s.data.toList.drop (j + 1)).take (K - (j + 1)) ++ s.data.toList.drop K := by
                    conv => lhs; rw [← List.take_append_drop (K - (j + 1)) (s.data.toList.drop (j + 1))]
                    rw [List.drop_drop, show j + 1 + (K - (j + 1)) = K by omega]
                  have hhead : ∀ e r, s.data.toList.drop K = e :: r → s.data.toList[K]? = some e := by
                    intro e r h
                    have := List.getElem?_drop (xs := s.data.toList) (i := K) (j := 0)
                    rw [h] at this
                    simpa using this.symm
                  have h2 := act_perm (c := c) (P := (s.data.toList.drop (j + 1)).take (K - (j + 1))) (rest := s.data.toList.drop K) HSIG.out hPP (fun e r h => hK4 e (hhead e r h)) (fun hn e r h => by
                    have hl := congrArg List.length hn
                    rw [List.length_take, List.length_drop, lenL] at hl
                    simp only [List.length_nil] at hl
                    have hKj : K = j + 1 := by omega
                    have h3 := hhead e r h
                    rw [hKj] at h3
                    have h4 : s.data.toList[j + 1]? = some d := by rw [← hcd]; exact List.getElem?_eq_getElem (by simpa using hj1)
                    rw [h4] at h3
                    injection h3 with h3
                    rw [← h3]; exact hcp0)
                  have h5 := congrArg (fun l => actsR (c :: l)) h1
                  rw [HACT.out, HDJ.out, h5, h2, Option.map_map]
                  congr 1
                  funext x
                  simp)
                have hps := per_sum hPP
                obtain ⟨pc, hpc, hrun⟩ := piece_run s (j + 1) K ((j : Int) + 1) (K : Int) (by omega) rfl (by omega) (by omega)
                have hpz : pc.size ≤ 1000000 := by rw [len_of2 hpc, List.length_take, List.length_drop, lenL]; omega
                have HSP := Lib.hid (fun w => sum_any pc ⟨#[120, 119, 114, 88, 115, 116]⟩ w hpz (by decide))
                rw [hpc] at HSP
                rw [show sumK ((s.data.toList.drop (j + 1)).take (K - (j + 1))) (⟨#[120, 119, 114, 88, 115, 116]⟩ : ByteArray).data.toList (⟨#[120, 119, 114, 88, 115, 116]⟩ : ByteArray).size = ((orN pN ((s.data.toList.drop (j + 1)).take (K - (j + 1))) 0 : Nat) : Int) from hps] at HSP
                generalize ((orN pN ((s.data.toList.drop (j + 1)).take (K - (j + 1))) 0 : Nat) : Int) = X at HSP HP1
                clear hpc hps hPP hpd hcp hcp0 hK3 hK4
                go_wp2_with fail
                refine (HSG.out _).mono ?_
                rintro e w1 ⟨rfl, rfl⟩
                go_wp2_with fail
                refine (HCP.out _).mono ?_
                rintro e w1 ⟨rfl, rfl⟩
                go_wp2_with fail
                go_loop [4] (fun i => ∃ m : Nat, j + 1 ≤ m ∧ m ≤ K ∧ i = .int .i64 m) (fun i => K - (intOf i).toNat)
                case atStart => exact ⟨j + 1, Nat.le_refl _, hK1, by go_num⟩
                case round =>
                  obtain ⟨m, hm1, hm2, rfl⟩ := hrel
                  by_cases hmK : m < K
                  · have hms : m < s.size := by omega
                    obtain ⟨f, hcf⟩ : ∃ f, s[m] = f := ⟨_, rfl⟩
                    have hfk : s.data.toList[m]? = some f := by rw [← hcf]; exact List.getElem?_eq_getElem (by simpa using hms)
                    have hpf := (place_of f).2.2.2.1.2 (HK3.out m hm1 hmK f hfk)
                    have HFP := Lib.hid (fun w => place_any ⟨#[120, 119, 114, 88, 115, 116]⟩ f w (by decide))
                    rw [show plc (⟨#[120, 119, 114, 88, 115, 116]⟩ : ByteArray).data.toList f = plc [120, 119, 114, 88, 115, 116] f from rfl] at HFP
                    generalize plc [120, 119, 114, 88, 115, 116] f = P4 at HFP hpf
                    clear hfk
                    go_wp2_with fail
                    refine (HFP.out _).mono ?_
                    rintro e w1 ⟨rfl, rfl⟩
                    go_wp2
                    go_round
                    case rel => exact ⟨m + 1, by omega, by omega, by go_num⟩
                    case measure => simp [intOf]; omega
                  · obtain rfl : m = K := by omega
                    by_cases hms : m < s.size
                    · obtain ⟨f, hcf⟩ : ∃ f, s[m] = f := ⟨_, rfl⟩
                      have hfk : s.data.toList[m]? = some f := by rw [← hcf]; exact List.getElem?_eq_getElem (by simpa using hms)
                      have hz := HK4.out f hfk
                      have hpf : ¬ 0 ≤ plc [120, 119, 114, 88, 115, 116] f := fun h => (place_of f).2.2.2.1.1 h hz
                      have HFP := Lib.hid (fun w => place_any ⟨#[120, 119, 114, 88, 115, 116]⟩ f w (by decide))
                      rw [show plc (⟨#[120, 119, 114, 88, 115, 116]⟩ : ByteArray).data.toList f = plc [120, 119, 114, 88, 115, 116] f from rfl] at HFP
                      generalize plc [120, 119, 114, 88, 115, 116] f = P4 at HFP hpf
                      clear hfk hz
                      go_wp2_with fail
                      refine (HFP.out _).mono ?_
                      rintro e w1 ⟨rfl, rfl⟩
                      go_wp2_with fail
                      (with_reducible refine (HSP.out _).mono ?_)
                      rintro e w1 ⟨rfl, rfl⟩
                      have HOV := Lib.hid (HI.out.2.2.2.alloc (.cells #[.int .u8 (co c), .int .i64 X, .int .i64 0] 76))
                      have HBK0 := Lib.hid (HI.out.2.2.1.alloc (.cells #[.int .u8 (co c), .int .i64 X, .int .i64 0] 76))
                      have HB20 := Lib.hid (HI.out.2.1.alloc (.cells #[.int .u8 (co c), .int .i64 X, .int .i64 0] 76))
                      go_wp2_with (at_builtin; refine wpList_append_one rfl (.tmp 88) (.tmp 90) _ rfl (w.heap.size + 2) 76 _ 3 24 Tryd.underlying71 info_A rfl (by decide) va al.length (aCells al) rfl (wr.alloc _) [.int .u8 (co c), .int .i64 X, .int .i64 0] rfl (act_one ⟨c, X, 0⟩) HOV.out (slice_next wr _) (by omega) (by omega) (by simp; omega) ?_; intro v' w' ho hg; obtain ⟨gv, cv, hv', hv1, hv2⟩ := ho.form (Nat.succ_pos _); subst hv'; have hbk := HBK0.out.kept hg (own_blk_ne' HOV.out HBK0.out (by decide)).symm; have kk1 := hbk.cell 1; have ff1 := hbk.frozen 1; simp at kk1; have HBK := Lib.hid hbk; have HO := Lib.hid ho; have HG := Lib.hid hg; clear ho hg hbk)
                      have G1 : wr.grownBy w' va.ownBlock := grown_trans (World.grownBy_alloc wr _ _) HG.out
                      have GS := grown_setCell w' ⟨w.heap.size + 1, 1, none⟩ (.slice (some ⟨gv, 0, none⟩) (al.length + 1) cv)
                      go_roundg (s.size - (m))
                      case measure => omega
                      case rel =>
                        refine ⟨m, al ++ [⟨c, X, 0⟩], .slice (some ⟨gv, 0, none⟩) (al.length + 1) cv, by go_num, by omega, by omega, rfl, by simp, by rw [List.length_append, List.length_singleton]; omega, HP1.out, ?_, ?_, ?_, ?_⟩
                        · exact (HI.out.1.grown G1 HI.out.1.size (fun q hq => by have := (HI.out.2.2.2.lt q hq).1; omega)).setCell (by simp) _
                        · exact (HB20.out.kept HG.out (own_blk_ne' HOV.out HB20.out (by decide)).symm).far (by simp) _
                        · exact HBK.out.set_ 1 _
                        · rw [aCells_snoc, List.length_append]
                          exact HO.out.kept GS (.inr (own_blk_ne' HO.out HBK.out (by decide)))
                    · go_wp2_with fail
                      (with_reducible refine (HSP.out _).mono ?_)
                      rintro e w1 ⟨rfl, rfl⟩
                      have HOV := Lib.hid (HI.out.2.2.2.alloc (.cells #[.int .u8 (co c), .int .i64 X, .int .i64 0] 76))
                      have HBK0 := Lib.hid (HI.out.2.2.1.alloc (.cells #[.int .u8 (co c), .int .i64 X, .int .i64 0] 76))
                      have HB20 := Lib.hid (HI.out.2.1.alloc (.cells #[.int .u8 (co c), .int .i64 X, .int .i64 0] 76))
                      go_wp2_with (at_builtin; refine wpList_append_one rfl (.tmp 88) (.tmp 90) _ rfl (w.heap.size + 2) 76 _ 3 24 Tryd.underlying71 info_A rfl (by decide) va al.length (aCells al) rfl (wr.alloc _) [.int .u8 (co c), .int .i64 X, .int .i64 0] rfl (act_one ⟨c, X, 0⟩) HOV.out (slice_next wr _) (by omega) (by omega) (by simp; omega) ?_; intro v' w' ho hg; obtain ⟨gv, cv, hv', hv1, hv2⟩ := ho.form (Nat.succ_pos _); subst hv'; have hbk := HBK0.out.kept hg (own_blk_ne' HOV.out HBK0.out (by decide)).symm; have kk1 := hbk.cell 1; have ff1 := hbk.frozen 1; simp at kk1; have HBK := Lib.hid hbk; have HO := Lib.hid ho; have HG := Lib.hid hg; clear ho hg hbk)
                      have G1 : wr.grownBy w' va.ownBlock := grown_trans (World.grownBy_alloc wr _ _) HG.out
                      have GS := grown_setCell w' ⟨w.heap.size + 1, 1, none⟩ (.slice (some ⟨gv, 0, none⟩) (al.length + 1) cv)
                      go_roundg (s.size - (m))
                      case measure => omega
                      case rel =>
                        refine ⟨m, al ++ [⟨c, X, 0⟩], .slice (some ⟨gv, 0, none⟩) (al.length + 1) cv, by go_num, by omega, by omega, rfl, by simp, by rw [List.length_append, List.length_singleton]; omega, HP1.out, ?_, ?_, ?_, ?_⟩
                        · exact (HI.out.1.grown G1 HI.out.1.size (fun q hq => by have := (HI.out.2.2.2.lt q hq).1; omega)).setCell (by simp) _
                        · exact (HB20.out.kept HG.out (own_blk_ne' HOV.out HB20.out (by decide)).symm).far (by simp) _
                        · exact HBK.out.set_ 1 _
                        · rw [aCells_snoc, List.length_append]
                          exact HO.out.kept GS (.inr (own_blk_ne' HO.out HBK.out (by decide)))
            · have HP1 := Lib.hid (show actsR (s.data.toList.drop k) = (actsR (s.data.toList.drop (j + 1))).map (al ++ [(⟨c, 0, 0⟩ : CA)] ++ ·) by
                have h1 : s.data.toList.drop (j + 1) = [] := List.drop_of_length_le (by simp; omega)
                have h2 := act_perm (c := c) (P := []) (rest := []) HSIG.out (by simp) (by simp) (by simp)
                rw [HACT.out, HDJ.out, h1]
                rw [List.nil_append] at h2
                rw [h2]
                simp [actsR, orN])
              obtain ⟨pc, hpc, hrun⟩ := piece_run s (j + 1) (j + 1) ((j : Int) + 1) ((j : Int) + 1) (by omega) (by omega) (by omega) (by omega)
              have hpz : pc.size ≤ 1000000 := by rw [len_of2 hpc, List.length_take]; omega
              have HSP := Lib.hid (fun w => sum_any pc ⟨#[120, 119, 114, 88, 115, 116]⟩ w hpz (by decide))
              rw [hpc, Nat.sub_self, List.take_zero] at HSP
              rw [show sumK [] (⟨#[120, 119, 114, 88, 115, 116]⟩ : ByteArray).data.toList (⟨#[120, 119, 114, 88, 115, 116]⟩ : ByteArray).size = 0 from rfl] at HSP
              clear hpc
              go_wp2_with fail
              refine (HSG.out _).mono ?_
              rintro e w1 ⟨rfl, rfl⟩
              go_wp2_with fail
              refine wp_loop_rounds 1 ?_
              rw [rounds_succ]
              go_wp2_with fail
              (with_reducible refine (HSP.out _).mono ?_)
              rintro e w1 ⟨rfl, rfl⟩
              have HOV := Lib.hid (HI.out.2.2.2.alloc (.cells #[.int .u8 (co c), .int .i64 0, .int .i64 0] 76))
              have HBK0 := Lib.hid (HI.out.2.2.1.alloc (.cells #[.int .u8 (co c), .int .i64 0, .int .i64 0] 76))
              have HB20 := Lib.hid (HI.out.2.1.alloc (.cells #[.int .u8 (co c), .int .i64 0, .int .i64 0] 76))
              go_wp2_with (at_builtin; refine wpList_append_one rfl (.tmp 88) (.tmp 90) _ rfl (w.heap.size + 2) 76 _ 3 24 Tryd.underlying71 info_A rfl (by decide) va al.length (aCells al) rfl (wr.alloc _) [.int .u8 (co c), .int .i64 0, .int .i64 0] rfl (act_one ⟨c, 0, 0⟩) HOV.out (slice_next wr _) (by omega) (by omega) (by simp; omega) ?_; intro v' w' ho hg; obtain ⟨gv, cv, hv', hv1, hv2⟩ := ho.form (Nat.succ_pos _); subst hv'; have hbk := HBK0.out.kept hg (own_blk_ne' HOV.out HBK0.out (by decide)).symm; have kk1 := hbk.cell 1; have ff1 := hbk.frozen 1; simp at kk1; have HBK := Lib.hid hbk; have HO := Lib.hid ho; have HG := Lib.hid hg; clear ho hg hbk)
              have G1 : wr.grownBy w' va.ownBlock := grown_trans (World.grownBy_alloc wr _ _) HG.out
              have GS := grown_setCell w' ⟨w.heap.size + 1, 1, none⟩ (.slice (some ⟨gv, 0, none⟩) (al.length + 1) cv)
              go_roundg (s.size - (j + 1))
              case measure => omega
              case rel =>
                refine ⟨j + 1, al ++ [⟨c, 0, 0⟩], .slice (some ⟨gv, 0, none⟩) (al.length + 1) cv, by go_num, by omega, by omega, rfl, by simp, by rw [List.length_append, List.length_singleton]; omega, HP1.out, ?_, ?_, ?_, ?_⟩
                · exact (HI.out.1.grown G1 HI.out.1.size (fun q hq => by have := (HI.out.2.2.2.lt q hq).1; omega)).setCell (by simp) _
                · exact (HB20.out.kept HG.out (own_blk_ne' HOV.out HB20.out (by decide)).symm).far (by simp) _
                · exact HBK.out.set_ 1 _
                · rw [aCells_snoc, List.length_append]
                  exact HO.out.kept GS (.inr (own_blk_ne' HO.out HBK.out (by decide)))
          · have hsg' : sgR (co c) = false := by simpa using hsg
            obtain rfl : O = none := by
              have h := HONE.out
              rw [HACT.out, HDJ.out, actsR_none hsg'] at h
              exact h
            have hp2 : ¬ 0 ≤ plc [43, 45, 61] c := fun h => hsg (hps.1 h)
            generalize plc [43, 45, 61] c = P2 at HSG hp2
            clear hps hsg hsg'
            go_wp2_with fail
            refine (HSG.out _).mono ?_
            rintro e w1 ⟨rfl, rfl⟩
            go_wp2
            exact bodyPost_ret (v := .tuple #[.agg #[.int .i64 0, .slice none 0 0], .bool false]) (by simp [results, Tryd.results37, go_sem, r0, r1]) rfl ⟨by repeat (first | exact HI.out.1 | refine Below.setCell ?_ (by simp) _), _, _, _, _, rfl⟩
        · obtain rfl : j = s.size := by omega
          have hald : al ≠ [] := fun h => by have := HAL.out h; omega
          obtain ⟨a1, al', rfl⟩ : ∃ a1 al', al = a1 :: al' := by cases al with
            | nil => exact absurd rfl hald
            | cons a1 al' => exact ⟨a1, al', rfl⟩
          obtain rfl : O = some ⟨7, a1 :: al'⟩ := by
            have h := HONE.out
            rw [HACT.out, List.drop_of_length_le (by simp), HWHO.out] at h
            simpa [actsR] using h
          obtain ⟨gv, cv, hva, -, -⟩ := HI.out.2.2.2.form (by simp)
          subst hva
          have HOF := Lib.hid (HI.out.2.2.2.kept (grown_trans (grown_setCell wr ⟨w.heap.size, 0, none⟩ (.int .i64 7)) (grown_setCell _ ⟨w.heap.size, 1, none⟩ (.slice (some ⟨gv, 0, none⟩) (a1 :: al').length cv))) (.inr (own_blk_ne' HI.out.2.2.2 HI.out.2.1 (by decide))))
          go_wp2
          go_region
          all_goals
            go_wp2
            exact bodyPost_ret (v := .tuple #[.agg #[.int .i64 7, .slice (some ⟨gv, 0, none⟩) (a1 :: al').length cv], .bool true]) (by simp [results, Tryd.results37, go_sem, r0, r1]) rfl ⟨((HI.out.1.setCell (by simp) _).setCell (by simp) _).drew, _, _, _, w.heap.size + 2, rfl, by omega, HOF.out⟩
set_option maxRecDepth 100000 in
set_option maxHeartbeats 8000000 in
theorem one_b (s : ByteArray) (w : World) (hs : s.size ≤ 1000000) (n : Nat) (hn : n < s.size) (hW : ∀ c ∈ s.data.toList.take n, c ∈ [117, 103, 111, 97]) (he : whoR (co s[n]) = 0) (ha : ¬ 0 ≤ plc (s.data.toList.take n) 97) : Calls Tryd.prog 37 #[.string s] w (OnePost (oneC s.data.toList) w) := by
  have hone := one_of (W := s.data.toList.take n) (rest := s.data.toList.drop n) hW (fun e r h => by
    rw [List.drop_eq_getElem_cons (by simpa using hn)] at h
    injection h with h _
    rw [← h]; exact he)
  rw [List.take_append_drop] at hone
  obtain ⟨O, hO⟩ : ∃ O, oneC s.data.toList = O := ⟨_, rfl⟩
  rw [hO] at hone ⊢
  have HONE := Lib.hid hone
  have hws := who_sum hW
  rw [if_neg ha] at hws
  have HW := Lib.hid hW
  have HE := Lib.hid he
  obtain ⟨who, hwho⟩ : ∃ who : Int, ((orN wN (s.data.toList.take n) 0 : Nat) : Int) = who := ⟨_, rfl⟩
  rw [hwho] at hws
  have HWS := Lib.hid hws
  have HWHO := Lib.hid hwho
  clear hone hO hW he hws hwho
  go_enter Tryd.func37, Tryd.ntmps37
  go_wp2
  go_loop [4] (fun i => ∃ k : Nat, k ≤ n ∧ i = .int .i64 k) (fun i => n - (intOf i).toNat)
  case atStart => exact ⟨0, Nat.zero_le _, rfl⟩
  case round =>
    obtain ⟨k, hk, rfl⟩ := hrel
    have hks : k < s.size := by omega
    obtain ⟨c, hc⟩ : ∃ c, s[k] = c := ⟨_, rfl⟩
    have hck : s.data.toList[k]? = some c := by rw [← hc]; exact List.getElem?_eq_getElem (by simpa using hks)
    have HPL := Lib.hid (fun w => place_any ⟨#[117, 103, 111, 97]⟩ c w (by decide))
    have hpm := place_of c
    by_cases hlt : k < n
    · have hp : 0 ≤ plc (⟨#[117, 103, 111, 97]⟩ : ByteArray).data.toList c := (plc_mem c [117, 103, 111, 97]).2 (HW.out c (List.mem_of_getElem? (by rw [List.getElem?_take, if_pos hlt]; exact hck)))
      generalize plc (⟨#[117, 103, 111, 97]⟩ : ByteArray).data.toList c = P at HPL hp
      clear hck hpm
      go_wp2_with fail
      refine (HPL.out _).mono ?_
      rintro e w1 ⟨rfl, rfl⟩
      go_wp2
      go_round
      case rel => exact ⟨k + 1, by omega, by go_num⟩
      case measure => simp [intOf]; omega
    · obtain rfl : k = n := by omega
      have hp : ¬ 0 ≤ plc (⟨#[117, 103, 111, 97]⟩ : ByteArray).data.toList c := by
        intro h
        have := hpm.1.1 h
        apply this
        rw [← hc]; exact HE.out
      generalize plc (⟨#[117, 103, 111, 97]⟩ : ByteArray).data.toList c = P at HPL hp
      have hxz : (s.extract 0 k).size ≤ 1000000 := by simp; omega
      have HSM := Lib.hid (fun w => sum_any (s.extract 0 k) ⟨#[117, 103, 111]⟩ w hxz (by decide))
      have HPA := Lib.hid (fun w => place_any (s.extract 0 k) 97 w hxz)
      rw [take_text] at HSM HPA
      rw [show co 97 = 97 from rfl] at HPA
      have hss : sumK (s.data.toList.take k) (⟨#[117, 103, 111]⟩ : ByteArray).data.toList (⟨#[117, 103, 111]⟩ : ByteArray).size = sumK (s.data.toList.take k) [117, 103, 111] 3 := rfl
      rw [hss] at HSM
      rw [HWS.out] at HSM
      generalize plc (s.data.toList.take k) 97 = Q at HPA ha
      clear hck hpm hss
      go_wp2_with fail
      refine (HPL.out _).mono ?_
      rintro e w1 ⟨rfl, rfl⟩
      go_wp2_with fail
      (with_reducible refine (HSM.out _).mono ?_)
      rintro e w1 ⟨rfl, rfl⟩
      go_wp2_with fail
      (with_reducible refine (HPA.out _).mono ?_)
      rintro e w1 ⟨rfl, rfl⟩
      go_wp2
      go_loopg [4] (s.size - k) (fun g s4 wr => ∃ (j : Nat) (al : List CA) (va : Value), s4 = .int .i64 j ∧ k ≤ j ∧ j ≤ s.size ∧ g = s.size - j ∧ (al = [] → j = k) ∧ al.length ≤ j ∧ actsR (s.data.toList.drop k) = (actsR (s.data.toList.drop j)).map (al ++ ·) ∧ OI w who al va wr)
      case atStart => exact ⟨k, [], .slice none 0 0, rfl, Nat.le_refl _, by omega, rfl, fun _ => rfl, Nat.zero_le _, by simp, OI.start w who⟩
      case round =>
        obtain ⟨j, al, va, rfl, hkj, hj, rfl, hal, hall, hact, hI⟩ := hrel
        have HI := Lib.hid hI
        have HACT := Lib.hid hact
        have HAL := Lib.hid hal
        have k0 := hI.2.2.1.cell 0
        have k1 := hI.2.2.1.cell 1
        have r0 := hI.2.1.cell 0
        have r1 := hI.2.1.cell 1
        have q0 := hI.2.1.frozen 0
        have q1 := hI.2.1.frozen 1
        simp at k0 k1 r0 r1
        have hgl : w.heap.size + 1 < wr.heap.size := hI.2.2.1.lt
        clear hI hact hal
        by_cases hjs : j < s.size
        · obtain ⟨c, hcj⟩ : ∃ c, s[j] = c := ⟨_, rfl⟩
          have hdj : s.data.toList.drop j = c :: s.data.toList.drop (j + 1) := by rw [← hcj]; exact List.drop_eq_getElem_cons (by simpa using hjs)
          have HDJ := Lib.hid hdj
          have HSG := Lib.hid (fun w => place_any ⟨#[43, 45, 61]⟩ c w (by decide))
          have hps := plc_sign c
          rw [show plc (⟨#[43, 45, 61]⟩ : ByteArray).data.toList c = plc [43, 45, 61] c from rfl] at HSG
          clear hdj
          by_cases hsg : sgR (co c) = true
          · have hp2 := hps.2 hsg
            have HSIG := Lib.hid hsg
            generalize plc [43, 45, 61] c = P2 at HSG hp2
            clear hps hsg
            by_cases hj1 : j + 1 < s.size
            · obtain ⟨d, hcd⟩ : ∃ d, s[j + 1] = d := ⟨_, rfl⟩
              have hj1' : (j : Int) + 1 < s.size := by omega
              have hdd : s.data.toList.drop (j + 1) = d :: s.data.toList.drop (j + 2) := by rw [← hcd]; exact List.drop_eq_getElem_cons (by simpa using hj1)
              have HDD := Lib.hid hdd
              have HCP := Lib.hid (fun w => place_any ⟨#[117, 103, 111]⟩ d w (by decide))
              rw [show plc (⟨#[117, 103, 111]⟩ : ByteArray).data.toList d = plc [117, 103, 111] d from rfl] at HCP
              have hpd := place_of d
              clear hdd
              by_cases hcp : copR (co d) ≠ 0
              · have hp3 := hpd.2.1.2 hcp
                have hp4 := hpd.2.2.1 hp3
                have HP1 := Lib.hid (show actsR (s.data.toList.drop k) = (actsR (s.data.toList.drop (j + 2))).map (al ++ [(⟨c, 0, copR (co d)⟩ : CA)] ++ ·) by
                  rw [HACT.out, HDJ.out, HDD.out, act_copy HSIG.out hcp, Option.map_map]
                  congr 1
                  funext x
                  simp)
                obtain ⟨Y, hY⟩ : ∃ Y, copR (co d) = Y := ⟨_, rfl⟩
                rw [hY] at HP1 hp4
                obtain ⟨P3, hP3⟩ : ∃ P3, plc [117, 103, 111] d = P3 := ⟨_, rfl⟩
                rw [hP3] at HCP hp3 hp4
                have hY3 : Y ≤ 3 := by rcases copR_cases (co d) with h | h | h | h <;> omega
                subst hp4
                clear hpd hcp hY hP3
                go_wp2_with fail
                refine (HSG.out _).mono ?_
                rintro e w1 ⟨rfl, rfl⟩
                go_wp2_with fail
                refine (HCP.out _).mono ?_
                rintro e w1 ⟨rfl, rfl⟩
                go_wp2_with fail
                refine (HCP.out _).mono ?_
                rintro e w1 ⟨rfl, rfl⟩
                have HOV := Lib.hid (HI.out.2.2.2.alloc (.cells #[.int .u8 (co c), .int .i64 0, .int .i64 (P3 + 1)] 76))
                have HBK0 := Lib.hid (HI.out.2.2.1.alloc (.cells #[.int .u8 (co c), .int .i64 0, .int .i64 (P3 + 1)] 76))
                have HB20 := Lib.hid (HI.out.2.1.alloc (.cells #[.int .u8 (co c), .int .i64 0, .int .i64 (P3 + 1)] 76))
                go_wp2_with (at_builtin; refine wpList_append_one rfl (.tmp 88) (.tmp 90) _ rfl (w.heap.size + 2) 76 _ 3 24 Tryd.underlying71 info_A rfl (by decide) va al.length (aCells al) rfl (wr.alloc _) [.int .u8 (co c), .int .i64 0, .int .i64 (P3 + 1)] rfl (act_one ⟨c, 0, (P3 + 1)⟩) HOV.out (slice_next wr _) (by omega) (by omega) (by simp; omega) ?_; intro v' w' ho hg; obtain ⟨gv, cv, hv', hv1, hv2⟩ := ho.form (Nat.succ_pos _); subst hv'; have hbk := HBK0.out.kept hg (own_blk_ne' HOV.out HBK0.out (by decide)).symm; have kk1 := hbk.cell 1; have ff1 := hbk.frozen 1; simp at kk1; have HBK := Lib.hid hbk; have HO := Lib.hid ho; have HG := Lib.hid hg; clear ho hg hbk)
                have G1 : wr.grownBy w' va.ownBlock := grown_trans (World.grownBy_alloc wr _ _) HG.out
                have GS := grown_setCell w' ⟨w.heap.size + 1, 1, none⟩ (.slice (some ⟨gv, 0, none⟩) (al.length + 1) cv)
                go_roundg (s.size - (j + 2))
                case measure => omega
                case rel =>
                  refine ⟨j + 2, al ++ [⟨c, 0, (P3 + 1)⟩], .slice (some ⟨gv, 0, none⟩) (al.length + 1) cv, by go_num, by omega, by omega, rfl, by simp, by rw [List.length_append, List.length_singleton]; omega, HP1.out, ?_, ?_, ?_, ?_⟩
                  · exact (HI.out.1.grown G1 HI.out.1.size (fun q hq => by have := (HI.out.2.2.2.lt q hq).1; omega)).setCell (by simp) _
                  · exact (HB20.out.kept HG.out (own_blk_ne' HOV.out HB20.out (by decide)).symm).far (by simp) _
                  · exact HBK.out.set_ 1 _
                  · rw [aCells_snoc, List.length_append]
                    exact HO.out.kept GS (.inr (own_blk_ne' HO.out HBK.out (by decide)))
              · have hcp0 : copR (co d) = 0 := by omega
                have hp3 : ¬ 0 ≤ plc [117, 103, 111] d := fun h => hcp (hpd.2.1.1 h)
                generalize plc [117, 103, 111] d = P3 at HCP hp3
                obtain ⟨K, hK1, hK2, hK3, hK4⟩ := run_ex s.data.toList (s.data.toList.length - (j + 1)) (j + 1) rfl (by simp; omega)
                rw [lenL] at hK2
                have HK3 := Lib.hid hK3
                have HK4 := Lib.hid hK4
                have hPP : ∀ x ∈ (s.data.toList.drop (j + 1)).take (K - (j + 1)), x ∈ [114, 119, 120, 88, 115, 116] := by
                  intro x hx
                  obtain ⟨i, hi, rfl⟩ := List.getElem_of_mem hx
                  rw [List.length_take, List.length_drop] at hi
                  refine (place_of _).2.2.2.2.2.2 (hK3 (j + 1 + i) (by omega) (by omega) _ ?_)
                  rw [List.getElem_take, List.getElem_drop]
                  exact List.getElem?_eq_getElem _
                have HP1 := Lib.hid (show actsR (s.data.toList.drop k) = (actsR (s.data.toList.drop K)).map (al ++ [(⟨c, (orN pN ((s.data.toList.drop (j + 1)).take (K - (j + 1))) 0 : Nat), 0⟩ : CA)] ++ ·) by
                  have h1 : s.data.toList.drop (j + 1) = (s.data.toList.drop (j + 1)).take (K - (j + 1)) ++ s.data.toList.drop K := by
                    conv => lhs; rw [← List.take_append_drop (K - (j + 1)) (s.data.toList.drop (j + 1))]
                    rw [List.drop_drop, show j + 1 + (K - (j + 1)) = K by omega]
                  have hhead : ∀ e r, s.data.toList.drop K = e :: r → s.data.toList[K]? = some e := by
                    intro e r h
                    have := List.getElem?_drop (xs := s.data.toList) (i := K) (j := 0)
                    rw [h] at this
                    simpa using this.symm
                  have h2 := act_perm (c := c) (P := (s.data.toList.drop (j + 1)).take (K - (j + 1))) (rest := s.data.toList.drop K) HSIG.out hPP (fun e r h => hK4 e (hhead e r h)) (fun hn e r h => by
                    have hl := congrArg List.length hn
                    rw [List.length_take, List.length_drop, lenL] at hl
                    simp only [List.length_nil] at hl
                    have hKj : K = j + 1 := by omega
                    have h3 := hhead e r h
                    rw [hKj] at h3
                    have h4 : s.data.toList[j + 1]? = some d := by rw [← hcd]; exact List.getElem?_eq_getElem (by simpa using hj1)
                    rw [h4] at h3
                    injection h3 with h3
                    rw [← h3]; exact hcp0)
                  have h5 := congrArg (fun l => actsR (c :: l)) h1
                  rw [HACT.out, HDJ.out, h5, h2, Option.map_map]
                  congr 1
                  funext x
                  simp)
                have hps := per_sum hPP
                obtain ⟨pc, hpc, hrun⟩ := piece_run s (j + 1) K ((j : Int) + 1) (K : Int) (by omega) rfl (by omega) (by omega)
                have hpz : pc.size ≤ 1000000 := by rw [len_of2 hpc, List.length_take, List.length_drop, lenL]; omega
                have HSP := Lib.hid (fun w => sum_any pc ⟨#[120, 119, 114, 88, 115, 116]⟩ w hpz (by decide))
                rw [hpc] at HSP
                rw [show sumK ((s.data.toList.drop (j + 1)).take (K - (j + 1))) (⟨#[120, 119, 114, 88, 115, 116]⟩ : ByteArray).data.toList (⟨#[120, 119, 114, 88, 115, 116]⟩ : ByteArray).size = ((orN pN ((s.data.toList.drop (j + 1)).take (K - (j + 1))) 0 : Nat) : Int) from hps] at HSP
                generalize ((orN pN ((s.data.toList.drop (j + 1)).take (K - (j + 1))) 0 : Nat) : Int) = X at HSP HP1
                clear hpc hps hPP hpd hcp hcp0 hK3 hK4
                go_wp2_with fail
                refine (HSG.out _).mono ?_
                rintro e w1 ⟨rfl, rfl⟩
                go_wp2_with fail
                refine (HCP.out _).mono ?_
                rintro e w1 ⟨rfl, rfl⟩
                go_wp2_with fail
                go_loop [4] (fun i => ∃ m : Nat, j + 1 ≤ m ∧ m ≤ K ∧ i = .int .i64 m) (fun i => K - (intOf i).toNat)
                case atStart => exact ⟨j + 1, Nat.le_refl _, hK1, by go_num⟩
                case round =>
                  obtain ⟨m, hm1, hm2, rfl⟩ := hrel
                  by_cases hmK : m < K
                  · have hms : m < s.size := by omega
                    obtain ⟨f, hcf⟩ : ∃ f, s[m] = f := ⟨_, rfl⟩
                    have hfk : s.data.toList[m]? = some f := by rw [← hcf]; exact List.getElem?_eq_getElem (by simpa using hms)
                    have hpf := (place_of f).2.2.2.1.2 (HK3.out m hm1 hmK f hfk)
                    have HFP := Lib.hid (fun w => place_any ⟨#[120, 119, 114, 88, 115, 116]⟩ f w (by decide))
                    rw [show plc (⟨#[120, 119, 114, 88, 115, 116]⟩ : ByteArray).data.toList f = plc [120, 119, 114, 88, 115, 116] f from rfl] at HFP
                    generalize plc [120, 119, 114, 88, 115, 116] f = P4 at HFP hpf
                    clear hfk
                    go_wp2_with fail
                    refine (HFP.out _).mono ?_
                    rintro e w1 ⟨rfl, rfl⟩
                    go_wp2
                    go_round
                    case rel => exact ⟨m + 1, by omega, by omega, by go_num⟩
                    case measure => simp [intOf]; omega
                  · obtain rfl : m = K := by omega
                    by_cases hms : m < s.size
                    · obtain ⟨f, hcf⟩ : ∃ f, s[m] = f := ⟨_, rfl⟩
                      have hfk : s.data.toList[m]? = some f := by rw [← hcf]; exact List.getElem?_eq_getElem (by simpa using hms)
                      have hz := HK4.out f hfk
                      have hpf : ¬ 0 ≤ plc [120, 119, 114, 88, 115, 116] f := fun h => (place_of f).2.2.2.1.1 h hz
                      have HFP := Lib.hid (fun w => place_any ⟨#[120, 119, 114, 88, 115, 116]⟩ f w (by decide))
                      rw [show plc (⟨#[120, 119, 114, 88, 115, 116]⟩ : ByteArray).data.toList f = plc [120, 119, 114, 88, 115, 116] f from rfl] at HFP
                      generalize plc [120, 119, 114, 88, 115, 116] f = P4 at HFP hpf
                      clear hfk hz
                      go_wp2_with fail
                      refine (HFP.out _).mono ?_
                      rintro e w1 ⟨rfl, rfl⟩
                      go_wp2_with fail
                      (with_reducible refine (HSP.out _).mono ?_)
                      rintro e w1 ⟨rfl, rfl⟩
                      have HOV := Lib.hid (HI.out.2.2.2.alloc (.cells #[.int .u8 (co c), .int .i64 X, .int .i64 0] 76))
                      have HBK0 := Lib.hid (HI.out.2.2.1.alloc (.cells #[.int .u8 (co c), .int .i64 X, .int .i64 0] 76))
                      have HB20 := Lib.hid (HI.out.2.1.alloc (.cells #[.int .u8 (co c), .int .i64 X, .int .i64 0] 76))
                      go_wp2_with (at_builtin; refine wpList_append_one rfl (.tmp 88) (.tmp 90) _ rfl (w.heap.size + 2) 76 _ 3 24 Tryd.underlying71 info_A rfl (by decide) va al.length (aCells al) rfl (wr.alloc _) [.int .u8 (co c), .int .i64 X, .int .i64 0] rfl (act_one ⟨c, X, 0⟩) HOV.out (slice_next wr _) (by omega) (by omega) (by simp; omega) ?_; intro v' w' ho hg; obtain ⟨gv, cv, hv', hv1, hv2⟩ := ho.form (Nat.succ_pos _); subst hv'; have hbk := HBK0.out.kept hg (own_blk_ne' HOV.out HBK0.out (by decide)).symm; have kk1 := hbk.cell 1; have ff1 := hbk.frozen 1; simp at kk1; have HBK := Lib.hid hbk; have HO := Lib.hid ho; have HG := Lib.hid hg; clear ho hg hbk)
                      have G1 : wr.grownBy w' va.ownBlock := grown_trans (World.grownBy_alloc wr _ _) HG.out
                      have GS := grown_setCell w' ⟨w.heap.size + 1, 1, none⟩ (.slice (some ⟨gv, 0, none⟩) (al.length + 1) cv)
                      go_roundg (s.size - (m))
                      case measure => omega
                      case rel =>
                        refine ⟨m, al ++ [⟨c, X, 0⟩], .slice (some ⟨gv, 0, none⟩) (al.length + 1) cv, by go_num, by omega, by omega, rfl, by simp, by rw [List.length_append, List.length_singleton]; omega, HP1.out, ?_, ?_, ?_, ?_⟩
                        · exact (HI.out.1.grown G1 HI.out.1.size (fun q hq => by have := (HI.out.2.2.2.lt q hq).1; omega)).setCell (by simp) _
                        · exact (HB20.out.kept HG.out (own_blk_ne' HOV.out HB20.out (by decide)).symm).far (by simp) _
                        · exact HBK.out.set_ 1 _
                        · rw [aCells_snoc, List.length_append]
                          exact HO.out.kept GS (.inr (own_blk_ne' HO.out HBK.out (by decide)))
                    · go_wp2_with fail
                      (with_reducible refine (HSP.out _).mono ?_)
                      rintro e w1 ⟨rfl, rfl⟩
                      have HOV := Lib.hid (HI.out.2.2.2.alloc (.cells #[.int .u8 (co c), .int .i64 X, .int .i64 0] 76))
                      have HBK0 := Lib.hid (HI.out.2.2.1.alloc (.cells #[.int .u8 (co c), .int .i64 X, .int .i64 0] 76))
                      have HB20 := Lib.hid (HI.out.2.1.alloc (.cells #[.int .u8 (co c), .int .i64 X, .int .i64 0] 76))
                      go_wp2_with (at_builtin; refine wpList_append_one rfl (.tmp 88) (.tmp 90) _ rfl (w.heap.size + 2) 76 _ 3 24 Tryd.underlying71 info_A rfl (by decide) va al.length (aCells al) rfl (wr.alloc _) [.int .u8 (co c), .int .i64 X, .int .i64 0] rfl (act_one ⟨c, X, 0⟩) HOV.out (slice_next wr _) (by omega) (by omega) (by simp; omega) ?_; intro v' w' ho hg; obtain ⟨gv, cv, hv', hv1, hv2⟩ := ho.form (Nat.succ_pos _); subst hv'; have hbk := HBK0.out.kept hg (own_blk_ne' HOV.out HBK0.out (by decide)).symm; have kk1 := hbk.cell 1; have ff1 := hbk.frozen 1; simp at kk1; have HBK := Lib.hid hbk; have HO := Lib.hid ho; have HG := Lib.hid hg; clear ho hg hbk)
                      have G1 : wr.grownBy w' va.ownBlock := grown_trans (World.grownBy_alloc wr _ _) HG.out
                      have GS := grown_setCell w' ⟨w.heap.size + 1, 1, none⟩ (.slice (some ⟨gv, 0, none⟩) (al.length + 1) cv)
                      go_roundg (s.size - (m))
                      case measure => omega
                      case rel =>
                        refine ⟨m, al ++ [⟨c, X, 0⟩], .slice (some ⟨gv, 0, none⟩) (al.length + 1) cv, by go_num, by omega, by omega, rfl, by simp, by rw [List.length_append, List.length_singleton]; omega, HP1.out, ?_, ?_, ?_, ?_⟩
                        · exact (HI.out.1.grown G1 HI.out.1.size (fun q hq => by have := (HI.out.2.2.2.lt q hq).1; omega)).setCell (by simp) _
                        · exact (HB20.out.kept HG.out (own_blk_ne' HOV.out HB20.out (by decide)).symm).far (by simp) _
                        · exact HBK.out.set_ 1 _
                        · rw [aCells_snoc, List.length_append]
                          exact HO.out.kept GS (.inr (own_blk_ne' HO.out HBK.out (by decide)))
            · have HP1 := Lib.hid (show actsR (s.data.toList.drop k) = (actsR (s.data.toList.drop (j + 1))).map (al ++ [(⟨c, 0, 0⟩ : CA)] ++ ·) by
                have h1 : s.data.toList.drop (j + 1) = [] := List.drop_of_length_le (by simp; omega)
                have h2 := act_perm (c := c) (P := []) (rest := []) HSIG.out (by simp) (by simp) (by simp)
                rw [HACT.out, HDJ.out, h1]
                rw [List.nil_append] at h2
                rw [h2]
                simp [actsR, orN])
              obtain ⟨pc, hpc, hrun⟩ := piece_run s (j + 1) (j + 1) ((j : Int) + 1) ((j : Int) + 1) (by omega) (by omega) (by omega) (by omega)
              have hpz : pc.size ≤ 1000000 := by rw [len_of2 hpc, List.length_take]; omega
              have HSP := Lib.hid (fun w => sum_any pc ⟨#[120, 119, 114, 88, 115, 116]⟩ w hpz (by decide))
              rw [hpc, Nat.sub_self, List.take_zero] at HSP
              rw [show sumK [] (⟨#[120, 119, 114, 88, 115, 116]⟩ : ByteArray).data.toList (⟨#[120, 119, 114, 88, 115, 116]⟩ : ByteArray).size = 0 from rfl] at HSP
              clear hpc
              go_wp2_with fail
              refine (HSG.out _).mono ?_
              rintro e w1 ⟨rfl, rfl⟩
              go_wp2_with fail
              refine wp_loop_rounds 1 ?_
              rw [rounds_succ]
              go_wp2_with fail
              (with_reducible refine (HSP.out _).mono ?_)
              rintro e w1 ⟨rfl, rfl⟩
              have HOV := Lib.hid (HI.out.2.2.2.alloc (.cells #[.int .u8 (co c), .int .i64 0, .int .i64 0] 76))
              have HBK0 := Lib.hid (HI.out.2.2.1.alloc (.cells #[.int .u8 (co c), .int .i64 0, .int .i64 0] 76))
              have HB20 := Lib.hid (HI.out.2.1.alloc (.cells #[.int .u8 (co c), .int .i64 0, .int .i64 0] 76))
              go_wp2_with (at_builtin; refine wpList_append_one rfl (.tmp 88) (.tmp 90) _ rfl (w.heap.size + 2) 76 _ 3 24 Tryd.underlying71 info_A rfl (by decide) va al.length (aCells al) rfl (wr.alloc _) [.int .u8 (co c), .int .i64 0, .int .i64 0] rfl (act_one ⟨c, 0, 0⟩) HOV.out (slice_next wr _) (by omega) (by omega) (by simp; omega) ?_; intro v' w' ho hg; obtain ⟨gv, cv, hv', hv1, hv2⟩ := ho.form (Nat.succ_pos _); subst hv'; have hbk := HBK0.out.kept hg (own_blk_ne' HOV.out HBK0.out (by decide)).symm; have kk1 := hbk.cell 1; have ff1 := hbk.frozen 1; simp at kk1; have HBK := Lib.hid hbk; have HO := Lib.hid ho; have HG := Lib.hid hg; clear ho hg hbk)
              have G1 : wr.grownBy w' va.ownBlock := grown_trans (World.grownBy_alloc wr _ _) HG.out
              have GS := grown_setCell w' ⟨w.heap.size + 1, 1, none⟩ (.slice (some ⟨gv, 0, none⟩) (al.length + 1) cv)
              go_roundg (s.size - (j + 1))
              case measure => omega
              case rel =>
                refine ⟨j + 1, al ++ [⟨c, 0, 0⟩], .slice (some ⟨gv, 0, none⟩) (al.length + 1) cv, by go_num, by omega, by omega, rfl, by simp, by rw [List.length_append, List.length_singleton]; omega, HP1.out, ?_, ?_, ?_, ?_⟩
                · exact (HI.out.1.grown G1 HI.out.1.size (fun q hq => by have := (HI.out.2.2.2.lt q hq).1; omega)).setCell (by simp) _
                · exact (HB20.out.kept HG.out (own_blk_ne' HOV.out HB20.out (by decide)).symm).far (by simp) _
                · exact HBK.out.set_ 1 _
                · rw [aCells_snoc, List.length_append]
                  exact HO.out.kept GS (.inr (own_blk_ne' HO.out HBK.out (by decide)))
          · have hsg' : sgR (co c) = false := by simpa using hsg
            obtain rfl : O = none := by
              have h := HONE.out
              rw [HACT.out, HDJ.out, actsR_none hsg'] at h
              exact h
            have hp2 : ¬ 0 ≤ plc [43, 45, 61] c := fun h => hsg (hps.1 h)
            generalize plc [43, 45, 61] c = P2 at HSG hp2
            clear hps hsg hsg'
            go_wp2_with fail
            refine (HSG.out _).mono ?_
            rintro e w1 ⟨rfl, rfl⟩
            go_wp2
            exact bodyPost_ret (v := .tuple #[.agg #[.int .i64 0, .slice none 0 0], .bool false]) (by simp [results, Tryd.results37, go_sem, r0, r1]) rfl ⟨by repeat (first | exact HI.out.1 | refine Below.setCell ?_ (by simp) _), _, _, _, _, rfl⟩
        · obtain rfl : j = s.size := by omega
          have hald : al ≠ [] := fun h => by have := HAL.out h; omega
          obtain ⟨a1, al', rfl⟩ : ∃ a1 al', al = a1 :: al' := by cases al with
            | nil => exact absurd rfl hald
            | cons a1 al' => exact ⟨a1, al', rfl⟩
          obtain rfl : O = some ⟨who, a1 :: al'⟩ := by
            have h := HONE.out
            rw [HACT.out, List.drop_of_length_le (by simp), HWHO.out] at h
            simpa [actsR] using h
          obtain ⟨gv, cv, hva, -, -⟩ := HI.out.2.2.2.form (by simp)
          subst hva
          have HOF := Lib.hid (HI.out.2.2.2.kept (grown_trans (grown_setCell wr ⟨w.heap.size, 0, none⟩ (.int .i64 who)) (grown_setCell _ ⟨w.heap.size, 1, none⟩ (.slice (some ⟨gv, 0, none⟩) (a1 :: al').length cv))) (.inr (own_blk_ne' HI.out.2.2.2 HI.out.2.1 (by decide))))
          go_wp2
          go_region
          all_goals
            go_wp2
            exact bodyPost_ret (v := .tuple #[.agg #[.int .i64 who, .slice (some ⟨gv, 0, none⟩) (a1 :: al').length cv], .bool true]) (by simp [results, Tryd.results37, go_sem, r0, r1]) rfl ⟨((HI.out.1.setCell (by simp) _).setCell (by simp) _).drew, _, _, _, w.heap.size + 2, rfl, by omega, HOF.out⟩
theorem who_ex (L : List UInt8) : ∀ (d m : Nat), L.length - m = d → m ≤ L.length → (∀ c ∈ L.take m, c ∈ [117, 103, 111, 97]) → ∃ K, K ≤ L.length ∧ (∀ c ∈ L.take K, c ∈ [117, 103, 111, 97]) ∧ (∀ c, L[K]? = some c → whoR (co c) = 0)
  | 0, m, hd, hm, hw => ⟨m, hm, hw, fun c hc => by
      have := (List.getElem?_eq_some_iff.1 hc).1
      omega⟩
  | d + 1, m, hd, hm, hw => by
    obtain ⟨c, hc⟩ : ∃ c, L[m]? = some c := ⟨_, List.getElem?_eq_getElem (show m < L.length by omega)⟩
    by_cases hp : whoR (co c) = 0
    · exact ⟨m, hm, hw, fun e he => by rw [hc] at he; injection he with he; rw [← he]; exact hp⟩
    · refine who_ex L d (m + 1) (by omega) (by omega) (fun e he => ?_)
      rw [take_snoc' hc] at he
      rcases List.mem_append.1 he with he | he
      · exact hw e he
      · rw [List.mem_singleton] at he
        rw [he]
        exact (place_of c).2.2.2.2.2.1 hp
theorem one_any (s : ByteArray) (w : World) (hs : s.size ≤ 1000000) : Calls Tryd.prog 37 #[.string s] w (OnePost (oneC s.data.toList) w) := by
  obtain ⟨K, hK, hW, hE⟩ := who_ex s.data.toList (s.data.toList.length - 0) 0 rfl (Nat.zero_le _) (by simp)
  rw [lenL] at hK
  by_cases hlt : K < s.size
  · have he : whoR (co s[K]) = 0 := hE _ (List.getElem?_eq_getElem (by simpa using hlt))
    by_cases ha : 0 ≤ plc (s.data.toList.take K) 97
    · exact one_a s w hs K hlt hW he ha
    · exact one_b s w hs K hlt hW he ha
  · have hk : K = s.size := by omega
    rw [hk, List.take_of_length_le (by simp)] at hW
    exact one_all s w hs hW
end Go.Proofs.YtbjajipeiigodaaDoor
