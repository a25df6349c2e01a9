/-
  The reference's Without of nodes, with where its lists lie. The conditions are said at each.
-/
import Derived.Test.YtiimdmbalnhmmaaGreatWR
namespace Go.Proofs.YtiimdmbalnhmmaaGreat
open Go Go.RowKit
set_option maxRecDepth 100000

theorem erase_snoc_lt {l : List En} {k P : Nat} {e : En} (he : l[k]? = some e) (h : ¬ k = P) : (l.take (k + 1)).eraseIdx P = (l.take k).eraseIdx P ++ [e] := by
  have hlt : k < l.length := (List.getElem?_eq_some_iff.1 he).1
  have hlk : (l.take k).length = k := by rw [List.length_take]; omega
  rw [take_snoc' he]
  by_cases hp : P < k
  · exact List.eraseIdx_append_of_lt_length (by omega) _
  · rw [List.eraseIdx_of_length_le (by rw [List.length_append, hlk]; simp; omega), List.eraseIdx_of_length_le (by omega)]
theorem erase_snoc_eq {l : List En} {k : Nat} {e : En} (he : l[k]? = some e) : (l.take (k + 1)).eraseIdx k = (l.take k).eraseIdx k := by
  have hlt : k < l.length := (List.getElem?_eq_some_iff.1 he).1
  have hlk : (l.take k).length = k := by rw [List.length_take]; omega
  rw [take_snoc' he, List.eraseIdx_append_of_length_le (by omega), hlk, Nat.sub_self, List.eraseIdx_of_length_le (l := l.take k) (by omega)]
  simp
attribute [local go_sem] cell_off4 cell_blk4
set_option maxRecDepth 100000 in
set_option maxHeartbeats 4000000 in
theorem ref_out (n : Nd) (vn vk : Value) (name : Nm) (w : World) (hN : StrsR w vn (nmA (nmE n.ents))) (hK : IntsR w vk (idE n.ents)) (hn : n.ents.length ≤ 1000) :
    Calls Tryz.prog 72 #[.agg (rfC n vn vk), .string (bA name)] w fun e w' => ∃ v, e = .returned (.tuple #[v, .int .i64 (outE n name)]) ∧ NrP w w' v (outM n name) ∧ Below w.heap.size w w' := by
  obtain ⟨W1, hW1⟩ : ∃ W1, W1 = (w.alloc (.cells (rfC n vn vk) 87)).alloc (.cells rfZ 87) := ⟨_, rfl⟩
  have hb1 : Below w.heap.size w W1 := by rw [hW1]; exact al (ba _ _) _
  have hkb : Blk W1 w.heap.size 87 (rfC n vn vk) := by rw [hW1]; exact (Blk.new _ _ _).alloc _
  have hkr : Blk W1 (w.heap.size + 1) 87 rfZ := by rw [hW1]; have := Blk.new (w.alloc (.cells (rfC n vn vk) 87)) 87 rfZ; simpa using this
  have HP := Lib.hid (ref_place n vn vk name W1 (hN.below hb1) (hK.below hb1) hn)
  have HN1 := Lib.hid (hN.below hb1)
  have HK1 := Lib.hid (hK.below hb1)
  have HB1 := Lib.hid hb1
  have HKB := Lib.hid hkb
  have HKR := Lib.hid hkr
  obtain ⟨A1, c1, rfl⟩ := strs_form hN (nm_len _)
  obtain ⟨A2, c2, rfl⟩ := ints_form hK (idE_len _)
  clear hN hK hb1 hkb hkr
  subst hW1

  have hmem := plc_mem name n.ents
  by_cases h1 : n.kind = 2
  · have k1 : (n.kind != 2) = false := by simpa using h1
    unfold plcI at HP
    by_cases h2 : n.ents.findIdx (isN name) < n.ents.length
    · have h3 := hmem.1 h2
      have hX : outE n name = 0 := by rw [outE, if_neg (fun h => h h1), if_pos h3]
      have HM := Lib.hid (show outM n name = { n with ents := n.ents.eraseIdx (n.ents.findIdx (isN name)) } by rw [outM, if_pos hX, plc_del _ _ h3, List.eraseIdx_eq_take_drop_succ])
      rw [if_pos h2] at HP
      rw [hX]
      clear hX h1 hmem h3
      generalize outM n name = M at HM ⊢
      generalize n.ents.findIdx (isN name) = P at HM HP h2
      go_enter Tryz.func72, Tryz.ntmps72
      go_wp2_with fail
      refine HP.out.mono ?_
      rintro e w2 ⟨rfl, hb2⟩
      have HB2 := Lib.hid (bt hb2 HB1.out)
      have HKB2 := Lib.hid (HKB.out.below hb2)
      have HKR2 := Lib.hid (HKR.out.below hb2)
      have HN2 := Lib.hid (HN1.out.below hb2)
      have HK2 := Lib.hid (HK1.out.below hb2)
      clear hb2

      have Q5 : w2.cell? ⟨w.heap.size, 5, none⟩ = some (.slice A1 n.ents.length c1) := HKB2.out.cell 5
      have Q6 : w2.cell? ⟨w.heap.size, 6, none⟩ = some (.slice A2 n.ents.length c2) := HKB2.out.cell 6
      go_wp2
      go_loopg [7, 8, 9] n.ents.length (fun gh s7 s8 s9 wr => ∃ (k : Nat) (An : Option Addr) (cn : Nat) (Ak : Option Addr) (ck : Nat), s9 = .int .i64 k ∧ s7 = .slice An ((n.ents.take k).eraseIdx P).length cn ∧ s8 = .slice Ak ((n.ents.take k).eraseIdx P).length ck ∧ k ≤ n.ents.length ∧ gh = n.ents.length - k ∧ RX w2 wr s7 s8 (nmA (nmE ((n.ents.take k).eraseIdx P))) (idE ((n.ents.take k).eraseIdx P)))
      case atStart => exact ⟨0, none, 0, none, 0, rfl, rfl, rfl, Nat.zero_le _, rfl, RX.nil _⟩
      case round =>
        obtain ⟨k, An, cn, Ak, ck, rfl, rfl, rfl, hk, rfl, hx⟩ := hrel
        have HX := Lib.hid hx
        have Q5' := bc hx.below Q5
        have Q6' := bc hx.below Q6
        clear hx
        by_cases hlt : k < n.ents.length
        · obtain ⟨e, he⟩ : ∃ e, n.ents[k]? = some e := ⟨_, List.getElem?_eq_getElem hlt⟩
          obtain ⟨adN, hAN, QN⟩ := strs_get HN2.out (nmA_at (nmE_at he))
          subst hAN
          obtain ⟨adK, hAK, QK⟩ := ints_get HK2.out (idE_at he)
          subst hAK
          have QN' := bc HX.out.below QN
          have QK' := bc HX.out.below QK
          have hlt' : (k : Int) < (n.ents.length : Int) := by omega
          by_cases hkP : k = P
          · have q1 : ((k : Int) != (P : Int)) = false := by rw [hkP]; simp
            have HL := Lib.hid (show (n.ents.take (k + 1)).eraseIdx P = (n.ents.take k).eraseIdx P by rw [← hkP]; exact erase_snoc_eq he)
            clear hkP he
            go_wp2
            go_roundg (n.ents.length - (k + 1))
            case measure => omega
            case rel => exact ⟨k + 1, An, cn, Ak, ck, by go_num, by rw [HL.out], by rw [HL.out], by omega, rfl, by rw [HL.out]; exact HX.out⟩
          · have q1 : ((k : Int) != (P : Int)) = true := by simp only [bne_iff_ne, ne_eq]; omega
            have HL := Lib.hid (erase_snoc_lt he hkP)
            obtain ⟨L, hL⟩ : ∃ L, (n.ents.take k).eraseIdx P = L := ⟨_, rfl⟩
            have hLl : L.length ≤ 1000 := by
              rw [← hL]
              have := (List.eraseIdx_sublist (n.ents.take k) P).length_le
              rw [List.length_take] at this
              omega
            rw [hL] at HL HX ⊢
            have hl1 : (nmA (nmE L)).length = L.length := nm_len L
            have hl2 : (idE L).length = L.length := idE_len L
            obtain ⟨LN, hLN⟩ : ∃ LN, nmA (nmE L) = LN := ⟨_, rfl⟩
            obtain ⟨LK, hLK⟩ : ∃ LK, idE L = LK := ⟨_, rfl⟩
            rw [hLN] at hl1 HX
            rw [hLK] at hl2 HX
            have HLN := Lib.hid hLN
            have HLK := Lib.hid hLK
            clear hkP he hL hLN hLK
            go_wp2_with (first | (at_builtin; refine wpList_append_one rfl (.tmp 30) (.tmp 36) _ rfl w2.heap.size 9 _ 1 16 Tryz.underlying85 info_str rfl (by decide) (.slice An L.length cn) LN.length (sCells LN) (by first | rfl | (rw [hl1]; rfl)) _ [.string (bA e.1)] rfl (str_one _) HX.out.nm rfl (by omega) (by omega) HX.out.below.size ?_; intro v5 w5 ho hg; obtain ⟨A5, c5, hv5, hx5⟩ := HX.out.nmApp ho hg; subst hv5; have HX5 := Lib.hid hx5; have P55 := bc hx5.below Q5; have P65 := bc hx5.below Q6; have PN5 := bc hx5.below QN; have PK5 := bc hx5.below QK; clear ho hg hx5) | (at_builtin; refine wpList_append_one rfl (.tmp 38) (.tmp 44) _ rfl w2.heap.size 3 _ 1 8 Tryz.underlying23 info_int rfl (by decide) (.slice Ak L.length ck) LK.length (iCells LK) (by first | rfl | (rw [hl2]; rfl)) _ [.int .i64 e.2] rfl (int_one _) HX5.out.kd rfl (by omega) (by omega) HX5.out.below.size ?_; intro v6 w6 ho hg; obtain ⟨A6, c6, hv6, hx6⟩ := HX5.out.kdApp ho hg; subst hv6; have HX6 := Lib.hid hx6; have P56 := bc hx6.below Q5; have P66 := bc hx6.below Q6; have PN6 := bc hx6.below QN; have PK6 := bc hx6.below QK; clear ho hg hx6))
            go_roundg (n.ents.length - (k + 1))
            case measure => omega
            case rel =>
              have h := HX6.out
              rw [← HLN.out, ← HLK.out, nm_len, idE_len] at h
              exact ⟨k + 1, A5, c5, A6, c6, by go_num, by rw [HL.out, List.length_append]; rfl, by rw [HL.out, List.length_append]; rfl, by omega, rfl, by rw [HL.out, nmA_app, idE_app]; exact h⟩
        · have hlt' : ¬ (k : Int) < (n.ents.length : Int) := by omega
          have hke : n.ents.take k = n.ents := List.take_of_length_le (by omega)
          rw [hke] at HX ⊢
          clear hke Q5'
          obtain ⟨L, hL⟩ : ∃ L, n.ents.eraseIdx P = L := ⟨_, rfl⟩
          rw [hL] at HX HM ⊢
          clear hL
          have Q5' : wr.cell? ⟨w.heap.size, 5, none⟩ = some (.slice A1 n.ents.length c1) := bc HX.out.below Q5
          have hkb6 := HKB2.out.below HX.out.below
          have hkr6 := HKR2.out.below HX.out.below
          have HKB6 := Lib.hid hkb6
          have HKR6 := Lib.hid hkr6
          obtain ⟨p0, p1, p2, p3, p4, p5, p6, p7⟩ := hkb6.c8
          obtain ⟨f0, f1, f2, f3, f4, f5, f6, f7⟩ := hkb6.f8
          have t5 : ∀ u, (wr.setCell ⟨w.heap.size, 5, none⟩ u).cell? ⟨w.heap.size, 5, none⟩ = some u := fun u => (hkb6.set8_5 u).cell 5
          have t6 : ∀ u v, ((wr.setCell ⟨w.heap.size, 5, none⟩ u).setCell ⟨w.heap.size, 6, none⟩ v).cell? ⟨w.heap.size, 6, none⟩ = some v := fun u v => ((hkb6.set8_5 u).set8_6 v).cell 6
          have HG7 := Lib.hid (grown_trans (grown_setCell wr ⟨w.heap.size, 5, none⟩ (.slice An L.length cn)) (grown_setCell _ ⟨w.heap.size, 6, none⟩ (.slice Ak L.length ck)))
          have hkr7 := hkr6.kept HG7.out (by simp)
          obtain ⟨r0, r1, r2, r3, r4, r5, r6, r7⟩ := hkr7.c8
          obtain ⟨g0, g1, g2, g3, g4, g5, g6, g7⟩ := hkr7.f8
          obtain ⟨s0, s1, s2, s3, s4, s5, s6, s7⟩ := hkr7.s8
          clear hkb6 hkr6 hkr7
          go_wp2
          have HG8 := grown8 ((wr.setCell ⟨w.heap.size, 5, none⟩ (.slice An L.length cn)).setCell ⟨w.heap.size, 6, none⟩ (.slice Ak L.length ck)) (w.heap.size + 1) (.int .i64 n.kind) (.int .i64 n.mode) (.int .i64 n.uid) (.int .i64 n.gid) (.string (bA n.data)) (.slice An L.length cn) (.slice Ak L.length ck) (.string (bA n.target))
          rw [HM.out]
          exact bodyPost_ret (v := .tuple #[refV n (.slice An L.length cn) (.slice Ak L.length ck), .int .i64 0]) (by simp [results, Tryz.results72, go_sem, refV, s0, s1, s2, s3, s4, s5, s6, s7]) rfl (rgood_endP (l := L) HX.out HB2.out.size rfl rfl HKB6.out HKR6.out (by omega) (bt HX.out.below HB2.out) (Nat.le_refl _) (Nat.le_succ _) _ HG7.out HG8 0)
    · have h3 : ¬ name ∈ nmE n.ents := fun h => h2 (hmem.2 h)
      have hX : outE n name = 2 := by rw [outE, if_neg (fun h => h h1), if_neg h3]
      have hM : outM n name = Nd.zero := if_neg (by rw [hX]; decide)
      rw [if_neg h2] at HP
      rw [hX, hM]
      clear hX hM h1 h2 hmem h3
      go_enter Tryz.func72, Tryz.ntmps72
      go_wp2_with fail
      refine HP.out.mono ?_
      rintro e w2 ⟨rfl, hb2⟩
      have HB2 := Lib.hid (bt hb2 HB1.out)
      have HKB2 := Lib.hid (HKB.out.below hb2)
      have HKR2 := Lib.hid (HKR.out.below hb2)
      have HN2 := Lib.hid (HN1.out.below hb2)
      have HK2 := Lib.hid (HK1.out.below hb2)
      clear hb2
      obtain ⟨r0, r1, r2, r3, r4, r5, r6, r7⟩ := HKR2.out.c8
      obtain ⟨g0, g1, g2, g3, g4, g5, g6, g7⟩ := HKR2.out.f8
      obtain ⟨s0, s1, s2, s3, s4, s5, s6, s7⟩ := HKR2.out.s8
      go_wp2
      have HG8 := grown8 w2 (w.heap.size + 1) (.int .i64 0) (.int .i64 0) (.int .i64 0) (.int .i64 0) (.string ⟨#[]⟩) (.slice none 0 0) (.slice none 0 0) (.string ⟨#[]⟩)
      exact bodyPost_ret (v := .tuple #[.agg rfZ, .int .i64 2]) (by simp [results, Tryz.results72, go_sem, s0, s1, s2, s3, s4, s5, s6, s7]) rfl (rbad_endP HB2.out HG8 (Nat.le_succ _) 2)
  · have k1 : (n.kind != 2) = true := by simpa using h1
    have hX : outE n name = 20 := by rw [outE, if_pos h1]
    have hM : outM n name = Nd.zero := if_neg (by rw [hX]; decide)
    rw [hX, hM]
    clear hX hM h1 hmem HP
    go_enter Tryz.func72, Tryz.ntmps72
    go_wp2
    exact bodyPost_ret (v := .tuple #[.agg rfZ, .int .i64 20]) (by simp [results, Tryz.results72, go_sem]) rfl ⟨_, rfl, zero_nrP _ _, HB1.out⟩
end Go.Proofs.YtiimdmbalnhmmaaGreat

