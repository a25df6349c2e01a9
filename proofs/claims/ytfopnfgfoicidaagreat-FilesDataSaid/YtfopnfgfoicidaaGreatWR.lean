/-
  The reference's Less, Place and With of nodes. The conditions are said at each.
-/
import Derived.Test.YtfopnfgfoicidaaGreatWB
import Derived.Test.YtfopnfgfoicidaaGreatRF
import Derived.Test.YtfopnfgfoicidaaGreatBS
namespace Go.Proofs.YtfopnfgfoicidaaGreat
open Go Go.RowKit
set_option maxRecDepth 100000

set_option maxRecDepth 100000 in
set_option maxHeartbeats 4000000 in
/-- Two that are the same. -/
theorem ref_same (n : Nd) (vn vk vn' vk' : Value) (w : World) (hN : StrsR w vn (nmA (nmE n.ents))) (hK : IntsR w vk (idE n.ents)) (hN' : StrsR w vn' (nmA (nmE n.ents))) (hK' : IntsR w vk' (idE n.ents)) (hn : n.ents.length ≤ 1000) :
    Calls Tryz.prog 41 #[.agg (rfC n vn vk), .agg (rfC n vn' vk')] w fun e w' => e = .returned (.bool true) ∧ Below w.heap.size w w' := by
  obtain ⟨W1, hW1⟩ : ∃ W1, W1 = (w.alloc (.cells (rfC n vn vk) 82)).alloc (.cells (rfC n vn' vk') 82) := ⟨_, rfl⟩
  have hb1 : Below w.heap.size w W1 := by rw [hW1]; exact al (ba _ _) _
  have hka : Blk W1 w.heap.size 82 (rfC n vn vk) := by rw [hW1]; exact (Blk.new _ _ _).alloc _
  have hkb : Blk W1 (w.heap.size + 1) 82 (rfC n vn' vk') := by rw [hW1]; have := Blk.new (w.alloc (.cells (rfC n vn vk) 82)) 82 (rfC n vn' vk'); simpa using this
  have H1 := Lib.hid (hN.below hb1)
  have H2 := Lib.hid (hK.below hb1)
  have H3 := Lib.hid (hN'.below hb1)
  have H4 := Lib.hid (hK'.below hb1)
  have HB1 := Lib.hid hb1
  obtain ⟨A1, c1, rfl⟩ := strs_form hN (nm_len _)
  obtain ⟨A2, c2, rfl⟩ := ints_form hK (idE_len _)
  obtain ⟨A3, c3, rfl⟩ := strs_form hN' (nm_len _)
  obtain ⟨A4, c4, rfl⟩ := ints_form hK' (idE_len _)
  obtain ⟨p0, p1, p2, p3, p4, p5, p6, p7⟩ := hka.c8
  obtain ⟨r0, r1, r2, r3, r4, r5, r6, r7⟩ := hkb.c8
  have HW1 := Lib.hid hW1
  clear hN hK hN' hK' hb1 hka hkb hW1
  have q0 : (n.kind != n.kind) = false := by simp
  have q1 : (n.mode != n.mode) = false := by simp
  have q2 : (n.uid != n.uid) = false := by simp
  have q3 : (n.gid != n.gid) = false := by simp
  have q4 : ((bA n.data).toList != (bA n.data).toList) = false := by simp
  have q5 : ((bA n.target).toList != (bA n.target).toList) = false := by simp
  have q6 : ((n.ents.length : Int) != (n.ents.length : Int)) = false := by simp
  go_enter Tryz.func41, Tryz.ntmps41
  go_wp2
  go_loopg [5] n.ents.length (fun g s5 wr => ∃ (k nq : Nat), s5 = .int .i64 k ∧ k ≤ n.ents.length ∧ g = n.ents.length - k ∧ wr = W1.drewN nq)
  case atStart => exact ⟨0, 0, rfl, Nat.zero_le _, rfl, by rw [HW1.out]; rfl⟩
  case round =>
    obtain ⟨k, nq, rfl, hk, rfl, rfl⟩ := hrel
    by_cases hlt : k < n.ents.length
    · have hlt' : (k : Int) < (n.ents.length : Int) := by omega
      obtain ⟨e, he⟩ : ∃ e, n.ents[k]? = some e := ⟨_, List.getElem?_eq_getElem hlt⟩
      obtain ⟨a1, rfl, d1⟩ := strs_get H1.out (nmA_at (nmE_at he))
      obtain ⟨a2, rfl, d2⟩ := ints_get H2.out (idE_at he)
      obtain ⟨a3, rfl, d3⟩ := strs_get H3.out (nmA_at (nmE_at he))
      obtain ⟨a4, rfl, d4⟩ := ints_get H4.out (idE_at he)
      have m1 : ((bA e.1).toList != (bA e.1).toList) = false := by simp
      have m2 : (e.2 != e.2) = false := by simp
      clear he
      go_wp2
      go_quiet (fail)
      go_wp2
      go_roundg (n.ents.length - (k + 1))
      case measure => omega
      case rel => exact ⟨k + 1, _, by go_num, by omega, rfl, rfl⟩
    · have hlt' : ¬ (k : Int) < (n.ents.length : Int) := by omega
      go_wp2
      go_ret
      exact ⟨rfl, ref_bdN HB1.out _⟩
end Go.Proofs.YtfopnfgfoicidaaGreat
namespace Go.Proofs.YtfopnfgfoicidaaGreat
open Go Go.RowKit
set_option maxRecDepth 100000

theorem ins_any (x : En) : ∀ (l m : List En), l.any (gtN x.1) = true → ins x (l ++ m) = ins x l ++ m
  | [], _, h => by cases h
  | y :: l, m, h => by
    rw [List.cons_append, ins, ins]
    by_cases hy : lss x.1 y.1 = true
    · rw [if_pos hy, if_pos hy]; rfl
    · rw [if_neg hy, if_neg hy]
      have h2 : l.any (gtN x.1) = true := by
        rw [List.any_cons] at h
        have : gtN x.1 y = false := by simpa [gtN] using hy
        rw [this, Bool.false_or] at h
        exact h
      rw [ins_any x l m h2]; rfl
theorem ins_none (x : En) : ∀ (l m : List En), l.any (gtN x.1) = false → ins x (l ++ m) = l ++ ins x m
  | [], _, _ => rfl
  | y :: l, m, h => by
    rw [List.any_cons, Bool.or_eq_false_iff] at h
    have hy : ¬ lss x.1 y.1 = true := by have := h.1; unfold gtN at this; rw [this]; decide
    rw [List.cons_append, ins, if_neg hy, ins_none x l m h.2]; rfl
/-- Entries so far, with the new one among them or not. -/
def outL (x : En) (D : Bool) (l : List En) : List En := if D = true then ins x l else l
theorem outL_next {x : En} {l : List En} {e : En} (D : Bool) (h : l.any (gtN x.1) = D) (h2 : D = true ∨ gtN x.1 e = false) : outL x ((l ++ [e]).any (gtN x.1)) (l ++ [e]) = outL x D l ++ [e] := by
  rw [List.any_append, h]
  cases D with
  | true => rw [Bool.true_or, outL, outL, if_pos rfl, if_pos rfl, ins_any x l [e] h]
  | false =>
    have h3 : gtN x.1 e = false := by rcases h2 with h2 | h2; cases h2; exact h2
    have h4 : [e].any (gtN x.1) = false := by simpa using h3
    rw [h4, Bool.false_or, outL, outL, if_neg (by decide), if_neg (by decide)]
theorem outL_put {x : En} {l : List En} {e : En} (h : l.any (gtN x.1) = false) (h2 : gtN x.1 e = true) : outL x ((l ++ [e]).any (gtN x.1)) (l ++ [e]) = outL x false l ++ [x] ++ [e] := by
  have h4 : [e].any (gtN x.1) = true := by simpa using h2
  have hg : lss x.1 e.1 = true := h2
  rw [List.any_append, h, h4, Bool.false_or, outL, outL, if_pos rfl, if_neg (by decide), ins_none x l [e] h, ins, if_pos hg]
  simp
theorem outL_end {x : En} {l : List En} (D : Bool) (h : l.any (gtN x.1) = D) : ins x l = if D = true then outL x D l else outL x D l ++ [x] := by
  cases D with
  | true => rfl
  | false =>
    rw [if_neg (by decide), outL, if_neg (by decide)]
    have := ins_none x l [] h
    rw [List.append_nil] at this
    exact this
theorem outL_len (x : En) (D : Bool) (l : List En) : (outL x D l).length ≤ l.length + 1 := by
  unfold outL
  split
  · rw [len_ins]; exact Nat.le_refl _
  · omega
attribute [local go_sem] cell_off4 cell_blk4
theorem zero_nrP (w w' : World) : NrP w w' (.agg rfZ) Nd.zero := ⟨_, _, rfl, StrsR.nil _, IntsR.nil _, LP.nil _, LP.nil _⟩
theorem rbad_endP {w0 w2 w3 : World} {r : Nat} (hb : Below w0.heap.size w0 w2) (hg : w2.grownBy w3 (some r)) (h1 : w0.heap.size ≤ r) (X : Int) :
    ∃ v, Ending.returned (.tuple #[.agg rfZ, .int .i64 X]) = .returned (.tuple #[v, .int .i64 X]) ∧ NrP w0 w3 v Nd.zero ∧ Below w0.heap.size w0 w3 :=
  ⟨_, rfl, zero_nrP _ _, below_grown hb hg h1⟩
theorem rgood_endP {w0 wB w6 w8 : World} {g r : Nat} {n : Nd} {vn vk : Value} {ln : List ByteArray} {lk : List Int} {l : List En} {cs : Array Value} (hx : RX wB w6 vn vk ln lk) (hwB : w0.heap.size ≤ wB.heap.size) (hn : ln = nmA (nmE l)) (hk : lk = idE l) (hkb : Blk w6 g 82 cs) (hkr : Blk w6 r 82 rfZ) (hgr : g ≠ r) (hb : Below w0.heap.size w0 w6) (h0 : w0.heap.size ≤ g) (h1 : w0.heap.size ≤ r)
    (w7 : World) (hg7 : w6.grownBy w7 (some g)) (hg8 : w7.grownBy w8 (some r)) (X : Int) :
    ∃ v, Ending.returned (.tuple #[refV n vn vk, .int .i64 X]) = .returned (.tuple #[v, .int .i64 X]) ∧ NrP w0 w8 v { n with ents := l } ∧ Below w0.heap.size w0 w8 := by
  subst hn hk
  have hkr7 := hkr.kept hg7 (fun e => hgr (by injection e with e; exact e.symm))
  have n7 := hx.nm.kept hg7 (.inr (own_blk_ne hx.nm hkb (by decide)))
  have k7 := hx.kd.kept hg7 (.inr (own_blk_ne hx.kd hkb (by decide)))
  have n8 := n7.kept hg8 (.inr (own_blk_ne n7 hkr7 (by decide)))
  have k8 := k7.kept hg8 (.inr (own_blk_ne k7 hkr7 (by decide)))
  exact ⟨_, rfl, ⟨vn, vk, rfl, StrsR.of_own n8, IntsR.of_own k8, (lp_own n8).mono (fun b hb => ⟨Nat.le_trans hwB hb.1, hb.2⟩), (lp_own k8).mono (fun b hb => ⟨Nat.le_trans hwB hb.1, hb.2⟩)⟩, below_grown (below_grown hb hg7 h0) hg8 h1⟩
set_option maxRecDepth 100000 in
set_option maxHeartbeats 4000000 in
theorem ref_with (n : Nd) (vn vk : Value) (name : Nm) (id : Int) (w : World) (hN : StrsR w vn (nmA (nmE n.ents))) (hK : IntsR w vk (idE n.ents)) (hn : n.ents.length ≤ 1000) (hnm : ∀ e ∈ n.ents, e.1.length ≤ 1000) (hs : name.length ≤ 1000) : Calls Tryz.prog 87 #[.agg (rfC n vn vk), .string (bA name), .int .i64 id] w fun e w' => ∃ v, e = .returned (.tuple #[v, .int .i64 (withE n name id)]) ∧ NrP w w' v (withM n name id) ∧ Below w.heap.size w w' := by
  obtain ⟨W1, hW1⟩ : ∃ W1, W1 = (w.alloc (.cells (rfC n vn vk) 82)).alloc (.cells rfZ 82) := ⟨_, rfl⟩
  have hb1 : Below w.heap.size w W1 := by rw [hW1]; exact al (ba _ _) _
  have hkb : Blk W1 w.heap.size 82 (rfC n vn vk) := by rw [hW1]; exact (Blk.new _ _ _).alloc _
  have hkr : Blk W1 (w.heap.size + 1) 82 rfZ := by rw [hW1]; have := Blk.new (w.alloc (.cells (rfC n vn vk) 82)) 82 rfZ; simpa using this
  have HP := Lib.hid (ref_place n vn vk name W1 (hN.below hb1) (hK.below hb1) hn)
  have HN1 := Lib.hid (hN.below hb1)
  have HK1 := Lib.hid (hK.below hb1)
  have HB1 := Lib.hid hb1
  have HKB := Lib.hid hkb
  have HKR := Lib.hid hkr
  obtain ⟨A1, c1, rfl⟩ := strs_form hN (nm_len _)
  obtain ⟨A2, c2, rfl⟩ := ints_form hK (idE_len _)
  clear hN hK hb1 hkb hkr
  subst hW1
  have HH1 := Lib.hid (ref_has (bA name) 47 ((w.alloc (.cells (rfC n (.slice A1 n.ents.length c1) (.slice A2 n.ents.length c2)) 82)).alloc (.cells rfZ 82)) (by rw [size_bA]; omega))
  have HH2 := Lib.hid (ref_has (bA name) 0 ((w.alloc (.cells (rfC n (.slice A1 n.ents.length c1) (.slice A2 n.ents.length c2)) 82)).alloc (.cells rfZ 82)) (by rw [size_bA]; omega))
  rw [tl_bA, show co 47 = 47 from rfl] at HH1
  rw [tl_bA, show co 0 = 0 from rfl] at HH2
  have hsz := size_bA name

  by_cases h1 : n.kind = 2
  · have k1 : (n.kind != 2) = false := by simpa using h1
    by_cases h2 : id < 1
    · have hX : withE n name id = 22 := by rw [withE, if_neg (fun h => h h1), if_pos (.inl h2)]
      have hM : withM n name id = Nd.zero := if_neg (by rw [hX]; decide)
      rw [hX, hM]

      clear hX hM h1
      go_enter Tryz.func87, Tryz.ntmps87
      go_wp2
      exact bodyPost_ret (v := .tuple #[.agg rfZ, .int .i64 22]) (by simp [results, Tryz.results87, go_sem]) rfl ⟨_, rfl, zero_nrP _ _, HB1.out⟩
    · by_cases hq : name = []
      · have hX : withE n name id = 22 := by rw [withE, if_neg (fun h => h h1), if_pos (.inr (by rw [hq]; rfl))]
        have hM : withM n name id = Nd.zero := if_neg (by rw [hX]; decide)
        rw [hX, hM]
        have n1 : ((bA name).toList == ([] : List UInt8)) = true := by rw [bA_list, hq]; rfl
        have n2 : (bA name).toList.isEmpty = true := by rw [bA_list, hq]; rfl

        clear hX hM h1 hq hsz
        go_enter Tryz.func87, Tryz.ntmps87
        go_wp2
        exact bodyPost_ret (v := .tuple #[.agg rfZ, .int .i64 22]) (by simp [results, Tryz.results87, go_sem]) rfl ⟨_, rfl, zero_nrP _ _, HB1.out⟩
      · by_cases hd1 : name = [46]
        · have hX : withE n name id = 22 := by rw [withE, if_neg (fun h => h h1), if_pos (.inr (by rw [hd1]; rfl))]
          have hM : withM n name id = Nd.zero := if_neg (by rw [hX]; decide)
          rw [hX, hM]
          have n1 : ((bA name).toList == ([] : List UInt8)) = false := by rw [bA_list, beq_eq_false_iff_ne]; exact hq
          have n2 : (bA name).toList.isEmpty = false := by rw [bA_list]; cases name with | nil => exact absurd rfl hq | cons a b => rfl
          have n3 : ¬ (bA name).toList = [] := by rw [bA_list]; exact hq
          have m1 : ((bA name).toList == [46]) = true := by rw [bA_list, hd1]; rfl
          clear hX hM h1 hq hd1 hsz
          go_enter Tryz.func87, Tryz.ntmps87
          go_wp2
          exact bodyPost_ret (v := .tuple #[.agg rfZ, .int .i64 22]) (by simp [results, Tryz.results87, go_sem]) rfl ⟨_, rfl, zero_nrP _ _, HB1.out⟩
        · by_cases hd2 : name = [46, 46]
          · have hX : withE n name id = 22 := by rw [withE, if_neg (fun h => h h1), if_pos (.inr (by rw [hd2]; rfl))]
            have hM : withM n name id = Nd.zero := if_neg (by rw [hX]; decide)
            rw [hX, hM]
            have n1 : ((bA name).toList == ([] : List UInt8)) = false := by rw [bA_list, beq_eq_false_iff_ne]; exact hq
            have n2 : (bA name).toList.isEmpty = false := by rw [bA_list]; cases name with | nil => exact absurd rfl hq | cons a b => rfl
            have n3 : ¬ (bA name).toList = [] := by rw [bA_list]; exact hq
            have m1 : ((bA name).toList == [46]) = false := by rw [bA_list, beq_eq_false_iff_ne]; exact hd1
            have m2 : ((bA name).toList == [46, 46]) = true := by rw [bA_list, hd2]; rfl
            clear hX hM h1 hq hd1 hd2 hsz
            go_enter Tryz.func87, Tryz.ntmps87
            go_wp2
            exact bodyPost_ret (v := .tuple #[.agg rfZ, .int .i64 22]) (by simp [results, Tryz.results87, go_sem]) rfl ⟨_, rfl, zero_nrP _ _, HB1.out⟩
          · have hbad : badN name = (name.contains 47 || name.contains 0) := by
              unfold badN
              rw [show (name == ([] : Nm)) = false from by rw [beq_eq_false_iff_ne]; exact hq, show (name == ([46] : Nm)) = false from by rw [beq_eq_false_iff_ne]; exact hd1, show (name == ([46, 46] : Nm)) = false from by rw [beq_eq_false_iff_ne]; exact hd2]
              rfl
            have n1 : ((bA name).toList == ([] : List UInt8)) = false := by rw [bA_list, beq_eq_false_iff_ne]; exact hq
            have n2 : (bA name).toList.isEmpty = false := by rw [bA_list]; cases name with | nil => exact absurd rfl hq | cons a b => rfl
            have n3 : ¬ (bA name).toList = [] := by rw [bA_list]; exact hq
            have m1 : ((bA name).toList == [46]) = false := by rw [bA_list, beq_eq_false_iff_ne]; exact hd1
            have m2 : ((bA name).toList == [46, 46]) = false := by rw [bA_list, beq_eq_false_iff_ne]; exact hd2
            clear hq hd1 hd2
            obtain ⟨H1, hH1⟩ : ∃ H1, name.contains 47 = H1 := ⟨_, rfl⟩
            obtain ⟨H2, hH2⟩ : ∃ H2, name.contains 0 = H2 := ⟨_, rfl⟩
            rw [hH1] at HH1 hbad
            rw [hH2] at HH2 hbad
            clear hH1 hH2
            cases H1 with
            | true =>
              have hX : withE n name id = 22 := by rw [withE, if_neg (fun h => h h1), if_pos (.inr (by rw [hbad]; rfl))]
              have hM : withM n name id = Nd.zero := if_neg (by rw [hX]; decide)
              rw [hX, hM]

              clear hX hM h1 hbad hsz
              go_enter Tryz.func87, Tryz.ntmps87
              go_wp2_with fail
              refine HH1.out.mono ?_
              rintro e w1 ⟨rfl, rfl⟩
              go_wp2
              exact bodyPost_ret (v := .tuple #[.agg rfZ, .int .i64 22]) (by simp [results, Tryz.results87, go_sem]) rfl ⟨_, rfl, zero_nrP _ _, HB1.out⟩
            | false =>
              cases H2 with
              | true =>
                have hX : withE n name id = 22 := by rw [withE, if_neg (fun h => h h1), if_pos (.inr (by rw [hbad]; rfl))]
                have hM : withM n name id = Nd.zero := if_neg (by rw [hX]; decide)
                rw [hX, hM]

                clear hX hM h1 hbad hsz
                go_enter Tryz.func87, Tryz.ntmps87
                go_wp2_with fail
                refine HH1.out.mono ?_
                rintro e w1 ⟨rfl, rfl⟩
                go_wp2_with fail
                refine HH2.out.mono ?_
                rintro e w1 ⟨rfl, rfl⟩
                go_wp2
                exact bodyPost_ret (v := .tuple #[.agg rfZ, .int .i64 22]) (by simp [results, Tryz.results87, go_sem]) rfl ⟨_, rfl, zero_nrP _ _, HB1.out⟩
              | false =>
                have hb0 : ¬ (id < 1 ∨ badN name = true) := by
                  rintro (h | h)
                  · exact h2 h
                  · rw [hbad] at h; cases h
                clear hbad
                by_cases h12 : 12 < name.length
                · have q12 : (12 : Int) < ((bA name).size : Int) := by rw [hsz]; omega
                  have hX : withE n name id = 36 := by rw [withE, if_neg (fun h => h h1), if_neg hb0, if_pos h12]
                  have hM : withM n name id = Nd.zero := if_neg (by rw [hX]; decide)
                  rw [hX, hM]

                  clear hX hM h1 hb0 h12 hsz
                  go_enter Tryz.func87, Tryz.ntmps87
                  go_wp2_with fail
                  refine HH1.out.mono ?_
                  rintro e w1 ⟨rfl, rfl⟩
                  go_wp2_with fail
                  refine HH2.out.mono ?_
                  rintro e w1 ⟨rfl, rfl⟩
                  go_wp2
                  exact bodyPost_ret (v := .tuple #[.agg rfZ, .int .i64 36]) (by simp [results, Tryz.results87, go_sem]) rfl ⟨_, rfl, zero_nrP _ _, HB1.out⟩
                · have q12 : ¬ (12 : Int) < ((bA name).size : Int) := by rw [hsz]; omega
                  have hmem := plc_mem name n.ents
                  unfold plcI at HP
                  by_cases hp : n.ents.findIdx (isN name) < n.ents.length
                  · have hX : withE n name id = 17 := by rw [withE, if_neg (fun h => h h1), if_neg hb0, if_neg h12, if_pos (hmem.1 hp)]
                    have hM : withM n name id = Nd.zero := if_neg (by rw [hX]; decide)
                    rw [hX, hM]

                    rw [if_pos hp] at HP
                    clear hX hM h1 hb0 h12 hsz hmem hp
                    generalize n.ents.findIdx (isN name) = P at HP
                    go_enter Tryz.func87, Tryz.ntmps87
                    go_wp2_with fail
                    refine HH1.out.mono ?_
                    rintro e w1 ⟨rfl, rfl⟩
                    go_wp2_with fail
                    refine HH2.out.mono ?_
                    rintro e w1 ⟨rfl, rfl⟩
                    go_wp2_with fail
                    refine HP.out.mono ?_
                    rintro e w2 ⟨rfl, hb2⟩
                    have HB2 := Lib.hid (bt hb2 HB1.out)
                    have HKB2 := Lib.hid (HKB.out.below hb2)
                    have HKR2 := Lib.hid (HKR.out.below hb2)
                    have HN2 := Lib.hid (HN1.out.below hb2)
                    have HK2 := Lib.hid (HK1.out.below hb2)
                    clear hb2
                    obtain ⟨r0, r1, r2, r3, r4, r5, r6, r7⟩ := HKR2.out.c8
                    obtain ⟨g0, g1, g2, g3, g4, g5, g6, g7⟩ := HKR2.out.f8
                    obtain ⟨s0, s1, s2, s3, s4, s5, s6, s7⟩ := HKR2.out.s8
                    go_wp2
                    have HG8 := grown8 w2 (w.heap.size + 1) (.int .i64 0) (.int .i64 0) (.int .i64 0) (.int .i64 0) (.string ⟨#[]⟩) (.slice none 0 0) (.slice none 0 0) (.string ⟨#[]⟩)
                    exact bodyPost_ret (v := .tuple #[.agg rfZ, .int .i64 17]) (by simp [results, Tryz.results87, go_sem, s0, s1, s2, s3, s4, s5, s6, s7]) rfl (rbad_endP HB2.out HG8 (Nat.le_succ _) 17)
                  · have hnm2 : ¬ name ∈ nmE n.ents := fun h => hp (hmem.2 h)
                    rw [if_neg hp] at HP
                    by_cases h8 : 8 ≤ n.ents.length
                    · have q8 : (8 : Int) ≤ (n.ents.length : Int) := by omega
                      have hX : withE n name id = 28 := by rw [withE, if_neg (fun h => h h1), if_neg hb0, if_neg h12, if_neg hnm2, if_pos h8]
                      have hM : withM n name id = Nd.zero := if_neg (by rw [hX]; decide)
                      rw [hX, hM]

                      clear hX hM h1 hb0 h12 hsz hmem hp hnm2 h8
                      go_enter Tryz.func87, Tryz.ntmps87
                      go_wp2_with fail
                      refine HH1.out.mono ?_
                      rintro e w1 ⟨rfl, rfl⟩
                      go_wp2_with fail
                      refine HH2.out.mono ?_
                      rintro e w1 ⟨rfl, rfl⟩
                      go_wp2_with fail
                      refine HP.out.mono ?_
                      rintro e w2 ⟨rfl, hb2⟩
                      have HB2 := Lib.hid (bt hb2 HB1.out)
                      have HKB2 := Lib.hid (HKB.out.below hb2)
                      have HKR2 := Lib.hid (HKR.out.below hb2)
                      have HN2 := Lib.hid (HN1.out.below hb2)
                      have HK2 := Lib.hid (HK1.out.below hb2)
                      clear hb2
                      obtain ⟨r0, r1, r2, r3, r4, r5, r6, r7⟩ := HKR2.out.c8
                      obtain ⟨g0, g1, g2, g3, g4, g5, g6, g7⟩ := HKR2.out.f8
                      obtain ⟨s0, s1, s2, s3, s4, s5, s6, s7⟩ := HKR2.out.s8
                      obtain ⟨p0, p1, p2, p3, p4, p5, p6, p7⟩ := HKB2.out.c8
                      go_wp2
                      have HG8 := grown8 w2 (w.heap.size + 1) (.int .i64 0) (.int .i64 0) (.int .i64 0) (.int .i64 0) (.string ⟨#[]⟩) (.slice none 0 0) (.slice none 0 0) (.string ⟨#[]⟩)
                      exact bodyPost_ret (v := .tuple #[.agg rfZ, .int .i64 28]) (by simp [results, Tryz.results87, go_sem, s0, s1, s2, s3, s4, s5, s6, s7]) rfl (rbad_endP HB2.out HG8 (Nat.le_succ _) 28)
                    · have q8 : ¬ (8 : Int) ≤ (n.ents.length : Int) := by omega
                      have hX : withE n name id = 0 := by rw [withE, if_neg (fun h => h h1), if_neg hb0, if_neg h12, if_neg hnm2, if_neg h8]
                      have HM := Lib.hid (show withM n name id = { n with ents := ins (name, id) n.ents } from if_pos hX)
                      rw [hX]
                      clear hX h1 hb0 h12 hsz hmem hp hnm2 h8
                      generalize withM n name id = M at HM ⊢
                      go_enter Tryz.func87, Tryz.ntmps87
                      go_wp2_with fail
                      refine HH1.out.mono ?_
                      rintro e w1 ⟨rfl, rfl⟩
                      go_wp2_with fail
                      refine HH2.out.mono ?_
                      rintro e w1 ⟨rfl, rfl⟩
                      go_wp2_with fail
                      refine HP.out.mono ?_
                      rintro e w2 ⟨rfl, hb2⟩
                      have HB2 := Lib.hid (bt hb2 HB1.out)
                      have HKB2 := Lib.hid (HKB.out.below hb2)
                      have HKR2 := Lib.hid (HKR.out.below hb2)
                      have HN2 := Lib.hid (HN1.out.below hb2)
                      have HK2 := Lib.hid (HK1.out.below hb2)
                      clear hb2
                      have Q5 : w2.cell? ⟨w.heap.size, 5, none⟩ = some (.slice A1 n.ents.length c1) := HKB2.out.cell 5
                      have Q6 : w2.cell? ⟨w.heap.size, 6, none⟩ = some (.slice A2 n.ents.length c2) := HKB2.out.cell 6
                      go_wp2
                      go_loopg [8, 9, 10, 11] n.ents.length (fun gh s8 s9 s10 s11 wr => ∃ (k : Nat) (D : Bool) (An : Option Addr) (cn : Nat) (Ak : Option Addr) (ck : Nat), s11 = .int .i64 k ∧ s10 = .bool D ∧ s8 = .slice An (outL (name, id) D (n.ents.take k)).length cn ∧ s9 = .slice Ak (outL (name, id) D (n.ents.take k)).length ck ∧ k ≤ n.ents.length ∧ gh = n.ents.length - k ∧ (n.ents.take k).any (gtN name) = D ∧ RX w2 wr s8 s9 (nmA (nmE (outL (name, id) D (n.ents.take k)))) (idE (outL (name, id) D (n.ents.take k))))
                      case atStart => exact ⟨0, false, none, 0, none, 0, rfl, rfl, rfl, rfl, Nat.zero_le _, rfl, rfl, RX.nil _⟩
                      case round =>
                        obtain ⟨k, D, An, cn, Ak, ck, rfl, rfl, rfl, rfl, hk, rfl, hD, hx⟩ := hrel
                        have HX := Lib.hid hx
                        have HD := Lib.hid hD
                        have Q5' := bc hx.below Q5
                        have Q6' := bc hx.below Q6
                        clear hx hD
                        have hLl : (outL (name, id) D (n.ents.take k)).length ≤ 1001 := by
                          have := outL_len (name, id) D (n.ents.take k)
                          rw [List.length_take] at this
                          omega
                        by_cases hlt : k < n.ents.length
                        · obtain ⟨e, he⟩ : ∃ e, n.ents[k]? = some e := ⟨_, List.getElem?_eq_getElem hlt⟩
                          obtain ⟨adN, hAN, QN⟩ := strs_get HN2.out (nmA_at (nmE_at he))
                          subst hAN
                          obtain ⟨adK, hAK, QK⟩ := ints_get HK2.out (idE_at he)
                          subst hAK
                          have QN' := bc HX.out.below QN
                          have QK' := bc HX.out.below QK
                          have hlt' : (k : Int) < (n.ents.length : Int) := by omega
                          have HTK := Lib.hid (show n.ents.take (k + 1) = n.ents.take k ++ [e] from take_snoc' he)
                          have HLS := Lib.hid (fun W => ref_less name e.1 W hs (hnm e (List.mem_of_getElem? he)))
                          obtain ⟨G, hG⟩ : ∃ G, lss name e.1 = G := ⟨_, rfl⟩
                          rw [hG] at HLS
                          have HG := Lib.hid (show gtN name e = G from hG)
                          clear he hG
                          obtain ⟨L, hL⟩ : ∃ L, outL (name, id) D (n.ents.take k) = L := ⟨_, rfl⟩
                          have HLL := Lib.hid hL
                          rw [hL] at HX hLl ⊢
                          have hl1 : (nmA (nmE L)).length = L.length := nm_len L
                          have hl2 : (idE L).length = L.length := idE_len L
                          obtain ⟨LN, hLN⟩ : ∃ LN, nmA (nmE L) = LN := ⟨_, rfl⟩
                          obtain ⟨LK, hLK⟩ : ∃ LK, idE L = LK := ⟨_, rfl⟩
                          rw [hLN] at hl1 HX
                          rw [hLK] at hl2 HX
                          have HLN := Lib.hid hLN
                          have HLK := Lib.hid hLK
                          clear hL hLN hLK
                          go_wp2_with fail
                          refine (HLS.out wr).mono ?_
                          rintro e3 w3 ⟨rfl, hb3⟩
                          have HX3 := Lib.hid (HX.out.later hb3)
                          have P53 := bc HX3.out.below Q5
                          have P63 := bc HX3.out.below Q6
                          have PN3 := bc HX3.out.below QN
                          have PK3 := bc HX3.out.below QK
                          clear hb3 Q5' Q6' QN' QK' HX
                          have hcases : (D = true ∨ G = false) ∨ (D = false ∧ G = true) := by cases D <;> cases G <;> simp
                          rcases hcases with hc | ⟨rfl, rfl⟩
                          · have HN2' := Lib.hid (show outL (name, id) ((n.ents.take (k + 1)).any (gtN name)) (n.ents.take (k + 1)) = L ++ [e] by rw [HTK.out, ← HLL.out]; exact outL_next D HD.out (by rw [show gtN (name, id).1 e = G from HG.out]; exact hc))
                            have HD2 := Lib.hid (show (n.ents.take (k + 1)).any (gtN name) = D by
                              rw [HTK.out, List.any_append, HD.out]
                              have h4 : [e].any (gtN name) = G := by simpa using HG.out
                              rw [h4]
                              rcases hc with h | h
                              · rw [h]; rfl
                              · rw [h, Bool.or_false])
                            have hpk : (G && !D) = false := by rcases hc with h | h <;> rw [h] <;> simp
                            clear hc
                            cases D <;> cases G
                            case false.true => cases hpk
                            all_goals (
                              go_wp2_with (first | (at_builtin; refine wpList_append_one rfl (.tmp 81) (.tmp 87) _ rfl w2.heap.size 9 _ 1 16 Tryz.underlying80 info_str rfl (by decide) (.slice An L.length cn) LN.length (sCells LN) (by first | rfl | (rw [hl1]; rfl)) _ [.string (bA e.1)] rfl (str_one _) HX3.out.nm rfl (by omega) (by omega) HX3.out.below.size ?_; intro v7 w7 ho hg; obtain ⟨A7, c7, hv7, hx7⟩ := HX3.out.nmApp ho hg; subst hv7; have HX7 := Lib.hid hx7; have P57 := bc hx7.below Q5; have P67 := bc hx7.below Q6; have PN7 := bc hx7.below QN; have PK7 := bc hx7.below QK; clear ho hg hx7) | (at_builtin; refine wpList_append_one rfl (.tmp 89) (.tmp 95) _ rfl w2.heap.size 3 _ 1 8 Tryz.underlying23 info_int rfl (by decide) (.slice Ak L.length ck) LK.length (iCells LK) (by first | rfl | (rw [hl2]; rfl)) _ [.int .i64 e.2] rfl (int_one _) HX7.out.kd rfl (by omega) (by omega) HX7.out.below.size ?_; intro v8 w8 ho hg; obtain ⟨A8, c8, hv8, hx8⟩ := HX7.out.kdApp ho hg; subst hv8; have HX8 := Lib.hid hx8; have P58 := bc hx8.below Q5; have P68 := bc hx8.below Q6; have PN8 := bc hx8.below QN; have PK8 := bc hx8.below QK; clear ho hg hx8))
                              go_roundg (n.ents.length - (k + 1))
                              case measure => omega
                              case rel =>
                                have h := HX8.out
                                rw [← HLN.out, ← HLK.out, nm_len, idE_len] at h
                                have hN := HN2'.out
                                rw [HD2.out] at hN
                                exact ⟨k + 1, _, A7, c7, A8, c8, by go_num, rfl, by rw [hN, List.length_append]; rfl, by rw [hN, List.length_append]; rfl, by omega, rfl, HD2.out, by rw [hN, nmA_app, idE_app]; exact h⟩)
                          · have HN2' := Lib.hid (show outL (name, id) ((n.ents.take (k + 1)).any (gtN name)) (n.ents.take (k + 1)) = L ++ [(name, id)] ++ [e] by rw [HTK.out, ← HLL.out]; exact outL_put HD.out HG.out)
                            have HD2 := Lib.hid (show (n.ents.take (k + 1)).any (gtN name) = true by
                              have h4 : [e].any (gtN name) = true := by simpa using HG.out
                              rw [HTK.out, List.any_append, HD.out, h4]; rfl)
                            have hl3 : (LN ++ [bA name]).length = L.length + 1 := by rw [List.length_append, hl1]; rfl
                            have hl4 : (LK ++ [id]).length = L.length + 1 := by rw [List.length_append, hl2]; rfl
                            obtain ⟨LN2, hLN2⟩ : ∃ LN2, LN ++ [bA name] = LN2 := ⟨_, rfl⟩
                            obtain ⟨LK2, hLK2⟩ : ∃ LK2, LK ++ [id] = LK2 := ⟨_, rfl⟩
                            rw [hLN2] at hl3
                            rw [hLK2] at hl4
                            have HLN2 := Lib.hid hLN2
                            have HLK2 := Lib.hid hLK2
                            clear hLN2 hLK2
                            go_wp2_with (first | (at_builtin; refine wpList_append_one rfl (.tmp 73) (.tmp 75) _ rfl w2.heap.size 9 _ 1 16 Tryz.underlying80 info_str rfl (by decide) (.slice An L.length cn) LN.length (sCells LN) (by first | rfl | (rw [hl1]; rfl)) _ [.string (bA name)] rfl (str_one _) HX3.out.nm rfl (by omega) (by omega) HX3.out.below.size ?_; intro v5 w5 ho hg; obtain ⟨A5, c5, hv5, hx5⟩ := HX3.out.nmApp ho hg; rw [hl1] at hv5 hx5; subst hv5; have HX5 := Lib.hid hx5; have P55 := bc hx5.below Q5; have P65 := bc hx5.below Q6; have PN5 := bc hx5.below QN; have PK5 := bc hx5.below QK; clear ho hg hx5) | (at_builtin; refine wpList_append_one rfl (.tmp 77) (.tmp 79) _ rfl w2.heap.size 3 _ 1 8 Tryz.underlying23 info_int rfl (by decide) (.slice Ak L.length ck) LK.length (iCells LK) (by first | rfl | (rw [hl2]; rfl)) _ [.int .i64 id] rfl (int_one _) HX5.out.kd rfl (by omega) (by omega) HX5.out.below.size ?_; intro v6 w6 ho hg; obtain ⟨A6, c6, hv6, hx6⟩ := HX5.out.kdApp ho hg; rw [hl2] at hv6 hx6; rw [HLN2.out, HLK2.out] at hx6; subst hv6; have HX6 := Lib.hid hx6; have P56 := bc hx6.below Q5; have P66 := bc hx6.below Q6; have PN6 := bc hx6.below QN; have PK6 := bc hx6.below QK; clear ho hg hx6) | (at_builtin; refine wpList_append_one rfl (.tmp 81) (.tmp 87) _ rfl w2.heap.size 9 _ 1 16 Tryz.underlying80 info_str rfl (by decide) (.slice A5 (L.length + 1) c5) LN2.length (sCells LN2) (by first | rfl | (rw [hl3]; rfl)) _ [.string (bA e.1)] rfl (str_one _) HX6.out.nm rfl (by omega) (by omega) HX6.out.below.size ?_; intro v7 w7 ho hg; obtain ⟨A7, c7, hv7, hx7⟩ := HX6.out.nmApp ho hg; subst hv7; have HX7 := Lib.hid hx7; have P57 := bc hx7.below Q5; have P67 := bc hx7.below Q6; have PN7 := bc hx7.below QN; have PK7 := bc hx7.below QK; clear ho hg hx7) | (at_builtin; refine wpList_append_one rfl (.tmp 89) (.tmp 95) _ rfl w2.heap.size 3 _ 1 8 Tryz.underlying23 info_int rfl (by decide) (.slice A6 (L.length + 1) c6) LK2.length (iCells LK2) (by first | rfl | (rw [hl4]; rfl)) _ [.int .i64 e.2] rfl (int_one _) HX7.out.kd rfl (by omega) (by omega) HX7.out.below.size ?_; intro v8 w8 ho hg; obtain ⟨A8, c8, hv8, hx8⟩ := HX7.out.kdApp ho hg; subst hv8; have HX8 := Lib.hid hx8; have P58 := bc hx8.below Q5; have P68 := bc hx8.below Q6; have PN8 := bc hx8.below QN; have PK8 := bc hx8.below QK; clear ho hg hx8))
                            go_roundg (n.ents.length - (k + 1))
                            case measure => omega
                            case rel =>
                              have h := HX8.out
                              rw [← HLN2.out, ← HLK2.out, ← HLN.out, ← HLK.out] at h
                              simp only [List.length_append, nm_len, idE_len, List.length_cons, List.length_nil] at h
                              have hN := HN2'.out
                              rw [HD2.out] at hN
                              exact ⟨k + 1, _, A7, c7, A8, c8, by go_num, rfl, by rw [hN]; simp, by rw [hN]; simp, by omega, rfl, HD2.out, by rw [hN, nmA_app, idE_app, nmA_app, idE_app]; exact h⟩
                        · have hlt' : ¬ (k : Int) < (n.ents.length : Int) := by omega
                          have hke : n.ents.take k = n.ents := List.take_of_length_le (by omega)
                          rw [hke] at HX HD hLl ⊢
                          clear hke
                          have hend := outL_end (x := (name, id)) D HD.out
                          rw [hend] at HM
                          clear hend Q5' Q6'
                          obtain ⟨L, hL⟩ : ∃ L, outL (name, id) D n.ents = L := ⟨_, rfl⟩
                          rw [hL] at HX HM hLl ⊢
                          have hl1 : (nmA (nmE L)).length = L.length := nm_len L
                          have hl2 : (idE L).length = L.length := idE_len L
                          clear hL
                          cases D with
                          | true =>
                            rw [if_pos rfl] at HM
                            have Q5' : wr.cell? ⟨w.heap.size, 5, none⟩ = some (.slice A1 n.ents.length c1) := bc HX.out.below Q5
                            have hkb6 := HKB2.out.below HX.out.below
                            have hkr6 := HKR2.out.below HX.out.below
                            have HKB6 := Lib.hid hkb6
                            have HKR6 := Lib.hid hkr6
                            obtain ⟨p0, p1, p2, p3, p4, p5, p6, p7⟩ := hkb6.c8
                            obtain ⟨f0, f1, f2, f3, f4, f5, f6, f7⟩ := hkb6.f8
                            have t5 : ∀ u, (wr.setCell ⟨w.heap.size, 5, none⟩ u).cell? ⟨w.heap.size, 5, none⟩ = some u := fun u => (hkb6.set8_5 u).cell 5
                            have t6 : ∀ u v, ((wr.setCell ⟨w.heap.size, 5, none⟩ u).setCell ⟨w.heap.size, 6, none⟩ v).cell? ⟨w.heap.size, 6, none⟩ = some v := fun u v => ((hkb6.set8_5 u).set8_6 v).cell 6
                            have HG7 := Lib.hid (grown_trans (grown_setCell wr ⟨w.heap.size, 5, none⟩ (.slice An L.length cn)) (grown_setCell _ ⟨w.heap.size, 6, none⟩ (.slice Ak L.length ck)))
                            have hkr7 := hkr6.kept HG7.out (by simp)
                            obtain ⟨r0, r1, r2, r3, r4, r5, r6, r7⟩ := hkr7.c8
                            obtain ⟨g0, g1, g2, g3, g4, g5, g6, g7⟩ := hkr7.f8
                            obtain ⟨s0, s1, s2, s3, s4, s5, s6, s7⟩ := hkr7.s8
                            clear hkb6 hkr6 hkr7
                            go_wp2
                            have HG8 := grown8 ((wr.setCell ⟨w.heap.size, 5, none⟩ (.slice An L.length cn)).setCell ⟨w.heap.size, 6, none⟩ (.slice Ak L.length ck)) (w.heap.size + 1) (.int .i64 n.kind) (.int .i64 n.mode) (.int .i64 n.uid) (.int .i64 n.gid) (.string (bA n.data)) (.slice An L.length cn) (.slice Ak L.length ck) (.string (bA n.target))
                            rw [HM.out]
                            exact bodyPost_ret (v := .tuple #[refV n (.slice An L.length cn) (.slice Ak L.length ck), .int .i64 0]) (by simp [results, Tryz.results87, go_sem, refV, s0, s1, s2, s3, s4, s5, s6, s7]) rfl (rgood_endP (l := L) HX.out HB2.out.size rfl rfl HKB6.out HKR6.out (by omega) (bt HX.out.below HB2.out) (Nat.le_refl _) (Nat.le_succ _) _ HG7.out HG8 0)
                          | false =>
                            rw [if_neg (by decide)] at HM
                            obtain ⟨LN, hLN⟩ : ∃ LN, nmA (nmE L) = LN := ⟨_, rfl⟩
                            obtain ⟨LK, hLK⟩ : ∃ LK, idE L = LK := ⟨_, rfl⟩
                            rw [hLN] at hl1 HX
                            rw [hLK] at hl2 HX
                            have HLN := Lib.hid (show LN ++ [bA name] = nmA (nmE (L ++ [(name, id)])) by rw [nmA_app, hLN]; rfl)
                            have HLK := Lib.hid (show LK ++ [id] = idE (L ++ [(name, id)]) by rw [idE_app, hLK]; rfl)
                            clear hLN hLK
                            have Q5' : wr.cell? ⟨w.heap.size, 5, none⟩ = some (.slice A1 n.ents.length c1) := bc HX.out.below Q5
                            go_wp2_with (first | (at_builtin; refine wpList_append_one rfl (.tmp 99) (.tmp 101) _ rfl w2.heap.size 9 _ 1 16 Tryz.underlying80 info_str rfl (by decide) (.slice An L.length cn) LN.length (sCells LN) (by first | rfl | (rw [hl1]; rfl)) _ [.string (bA name)] rfl (str_one _) HX.out.nm rfl (by omega) (by omega) HX.out.below.size ?_; intro v5 w5 ho hg; obtain ⟨A5, c5, hv5, hx5⟩ := HX.out.nmApp ho hg; subst hv5; have HX5 := Lib.hid hx5; clear ho hg hx5) | (at_builtin; refine wpList_append_one rfl (.tmp 103) (.tmp 105) _ rfl w2.heap.size 3 _ 1 8 Tryz.underlying23 info_int rfl (by decide) (.slice Ak L.length ck) LK.length (iCells LK) (by first | rfl | (rw [hl2]; rfl)) _ [.int .i64 id] rfl (int_one _) HX5.out.kd rfl (by omega) (by omega) HX5.out.below.size ?_; intro v6 w6 ho hg; obtain ⟨A6, c6, hv6, hx6⟩ := HX5.out.kdApp ho hg; subst hv6; have HX6 := Lib.hid hx6; clear ho hg hx6; have hkb6 := HKB2.out.below HX6.out.below; have hkr6 := HKR2.out.below HX6.out.below; have HKB6 := Lib.hid hkb6; have HKR6 := Lib.hid hkr6; obtain ⟨p0, p1, p2, p3, p4, p5, p6, p7⟩ := hkb6.c8; obtain ⟨f0, f1, f2, f3, f4, f5, f6, f7⟩ := hkb6.f8; have t5 : ∀ u, (w6.setCell ⟨w.heap.size, 5, none⟩ u).cell? ⟨w.heap.size, 5, none⟩ = some u := fun u => (hkb6.set8_5 u).cell 5; have t6 : ∀ u v, ((w6.setCell ⟨w.heap.size, 5, none⟩ u).setCell ⟨w.heap.size, 6, none⟩ v).cell? ⟨w.heap.size, 6, none⟩ = some v := fun u v => ((hkb6.set8_5 u).set8_6 v).cell 6; have HG7 := Lib.hid (grown_trans (grown_setCell w6 ⟨w.heap.size, 5, none⟩ (.slice A5 (L.length + 1) c5)) (grown_setCell _ ⟨w.heap.size, 6, none⟩ (.slice A6 (L.length + 1) c6))); have hkr7 := hkr6.kept HG7.out (by simp); obtain ⟨r0, r1, r2, r3, r4, r5, r6, r7⟩ := hkr7.c8; obtain ⟨g0, g1, g2, g3, g4, g5, g6, g7⟩ := hkr7.f8; obtain ⟨s0, s1, s2, s3, s4, s5, s6, s7⟩ := hkr7.s8; clear hkb6 hkr6 hkr7))
                            have HG8 := grown8 ((w6.setCell ⟨w.heap.size, 5, none⟩ (.slice A5 (L.length + 1) c5)).setCell ⟨w.heap.size, 6, none⟩ (.slice A6 (L.length + 1) c6)) (w.heap.size + 1) (.int .i64 n.kind) (.int .i64 n.mode) (.int .i64 n.uid) (.int .i64 n.gid) (.string (bA n.data)) (.slice A5 (L.length + 1) c5) (.slice A6 (L.length + 1) c6) (.string (bA n.target))
                            have hX6 := HX6.out
                            rw [HLN.out, HLK.out, hl1, hl2] at hX6
                            rw [HM.out]
                            exact bodyPost_ret (v := .tuple #[refV n (.slice A5 (L.length + 1) c5) (.slice A6 (L.length + 1) c6), .int .i64 0]) (by simp [results, Tryz.results87, go_sem, refV, s0, s1, s2, s3, s4, s5, s6, s7]) rfl (rgood_endP (l := L ++ [(name, id)]) hX6 HB2.out.size rfl rfl HKB6.out HKR6.out (by omega) (bt HX6.out.below HB2.out) (Nat.le_refl _) (Nat.le_succ _) _ HG7.out HG8 0)
  · have k1 : (n.kind != 2) = true := by simpa using h1
    have hX : withE n name id = 20 := by rw [withE, if_pos h1]
    have hM : withM n name id = Nd.zero := if_neg (by rw [hX]; decide)
    rw [hX, hM]

    clear hX hM h1
    go_enter Tryz.func87, Tryz.ntmps87
    go_wp2
    exact bodyPost_ret (v := .tuple #[.agg rfZ, .int .i64 20]) (by simp [results, Tryz.results87, go_sem]) rfl ⟨_, rfl, zero_nrP _ _, HB1.out⟩
end Go.Proofs.YtfopnfgfoicidaaGreat

