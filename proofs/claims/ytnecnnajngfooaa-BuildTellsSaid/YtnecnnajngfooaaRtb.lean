/-
  The reference's Tell of stage 10. The conditions: a table of 24 nodes at most, each of which may be.
-/
import Derived.Test.YtnecnnajngfooaaRta
import Derived.Test.YtnecnnajngfooaaTelL
import Derived.Deep.RegionHeld3
import Derived.Deep.AppendLies
import Derived.Deep.DeepCutAuto
namespace Go.Proofs.Ytnecnnajngfooaa
open Go Go.RowKit
set_option maxRecDepth 100000

attribute [local go_sem] cell_off4 cell_blk4
/-- Where Tell of the reference stands. -/
structure TR (w W : World) (v vt vr : Value) (s : Tl) : Prop where
  below : Below w.heap.size w W
  kt : Blk W w.heap.size 29 #[v]
  ot : W.ownsRow w.heap.size 3 1 vt s.1.length (iCells s.1)
  or_ : W.ownsRow w.heap.size 84 11 vr s.2.length (xCells s.2)
section
variable {w W W' : World} {v vt vr v' : Value} {s : Tl}
theorem TR.later (h : TR w W v vt vr s) (hb : Below W.heap.size W W') : TR w W' v vt vr s := ⟨bt hb h.below, h.kt.below hb, own_below h.ot hb, own_below h.or_ hb⟩
theorem TR.putT {i : Int} (h : TR w W v vt vr s) (ho : W'.ownsRow w.heap.size 3 1 v' (s.1.length + 1) (iCells s.1 ++ [.int .i64 i])) (hg : W.grownBy W' vt.ownBlock) : TR w W' v v' vr (s.1 ++ [i], s.2) :=
  ⟨h.below.grown hg h.below.size (fun q hq => (h.ot.lt q hq).1), h.kt.kept hg (own_blk_ne h.ot h.kt (by decide)).symm, by rw [iCells_snoc] at ho; rw [List.length_append]; exact ho, h.or_.kept hg (own_apart h.ot h.or_ (by decide))⟩
theorem TR.putR {r : Rw} (h : TR w W v vt vr s) (ho : W'.ownsRow w.heap.size 84 11 v' (s.2.length + 1) (xCells s.2 ++ (rrC r).toList)) (hg : W.grownBy W' vr.ownBlock) : TR w W' v vt v' (s.1, s.2 ++ [r]) :=
  ⟨h.below.grown hg h.below.size (fun q hq => (h.or_.lt q hq).1), h.kt.kept hg (own_blk_ne h.or_ h.kt (by decide)).symm, h.ot.kept hg (own_apart h.or_ h.ot (by decide)), by rw [xCells_snoc] at ho; rw [List.length_append]; exact ho⟩
theorem TR.form (h : TR w W v vt vr s) : ∃ A c A' c', vt = .slice A s.1.length c ∧ vr = .slice A' s.2.length c' := by
  obtain ⟨A, c, rfl⟩ := own_slice h.ot
  obtain ⟨A', c', rfl⟩ := own_slice h.or_
  exact ⟨A, c, A', c', rfl, rfl⟩
theorem TR.blkT {d : Nat} {cs : Array Value} {b : TypeId} (h : TR w W v vt vr s) (hk : Blk W d b cs) (hg : W.grownBy W' vt.ownBlock) (hne : 3 ≠ b) : Blk W' d b cs := hk.kept hg (own_blk_ne h.ot hk hne).symm
theorem TR.blkR {d : Nat} {cs : Array Value} {b : TypeId} (h : TR w W v vt vr s) (hk : Blk W d b cs) (hg : W.grownBy W' vr.ownBlock) (hne : 84 ≠ b) : Blk W' d b cs := hk.kept hg (own_blk_ne h.or_ hk hne).symm
end
/-- A directory that is looked at. -/
structure TRd (w W : World) (n : Nd) (d : Nat) (vn vk : Value) : Prop where
  kn : Blk W d 34 (rfC n vn vk)
  lo : w.heap.size ≤ d
  nm : StrsR w vn (nmA (nmE n.ents))
  kd : IntsR w vk (idE n.ents)
theorem TR.put {w W : World} {v vt vr : Value} {s : Tl} {d : Nat} {cs : Array Value} (h : TR w W v vt vr s) (hk : Blk W d 34 cs) (hd : w.heap.size ≤ d) (u0 u1 u2 u3 u4 u5 u6 u7 : Value) : TR w (put8 W d u0 u1 u2 u3 u4 u5 u6 u7) v vt vr s :=
  have hg := grown8 W d u0 u1 u2 u3 u4 u5 u6 u7
  ⟨below_grown h.below hg hd, h.kt.kept hg (fun e => by injection e with e; exact blk_ne h.kt hk (by decide) e), h.ot.kept hg (.inr (own_blk_ne h.ot hk (by decide))), h.or_.kept hg (.inr (own_blk_ne h.or_ hk (by decide)))⟩
set_option maxHeartbeats 16000000 in
theorem rtell_any {P : Nat → Prop} (v : Value) (t : List Nd) (w : World) (h : NsR P w v t) (hl : t.length ≤ 24) (ho : okT t) :
    Calls Try.prog 47 #[.agg #[v]] w fun e w' => ∃ u, e = .returned u ∧ RsX w' w.heap.size u (tellL t) ∧ Below w.heap.size w w' := by
  obtain ⟨g0, k0, rfl⟩ := ns_form h
  have hb1 := ba w (.cells #[.slice (some ⟨g0, 0, none⟩) t.length k0] 29)
  have hk1 := Blk.new w 29 #[.slice (some ⟨g0, 0, none⟩) t.length k0]
  obtain ⟨W1, hW1⟩ : ∃ W1, w.alloc (.cells #[.slice (some ⟨g0, 0, none⟩) t.length k0] 29) = W1 := ⟨_, rfl⟩
  rw [hW1] at hb1 hk1
  have HRT := Lib.hid (rtright_any (.slice (some ⟨g0, 0, none⟩) t.length k0) (.slice none 0 0) t [] W1 (h.below hb1) (IntsR.nil _) (by decide) hl ho)
  have HG := Lib.hid (fun i W hb => rget_base (.slice (some ⟨g0, 0, none⟩) t.length k0) t i w W h hb hl)
  have p0 : W1.cell? ⟨w.heap.size, 0, none⟩ = some (.slice (some ⟨g0, 0, none⟩) t.length k0) := hk1.cell 0
  have HB1 := Lib.hid hb1
  have HK1 := Lib.hid hk1
  have HO := Lib.hid ho
  clear h ho hb1 hk1
  by_cases q : toB (allT t []) = true
  · have HA := Lib.hid (toB_iff.1 q)
    have HTL := Lib.hid (show tellL t = (tlS t 24).2 from by unfold tellL; rw [if_pos q]; rfl)
    rw [q] at HRT
    have HOK := Lib.hid (okS_all HO.out hl HA.out)
    have HLN := Lib.hid (fun k => (show (tlS t k).1.length ≤ 24 from Nat.le_trans (okS_len (HOK.out k)) hl))
    have HLR := Lib.hid (tlS_len HO.out)
    have HAE := Lib.hid (fun i e he => all_ents HO.out hl HA.out i e he)
    have HEL := Lib.hid (ents_le HO.out)
    have HS0 := Lib.hid (show tlS t 0 = ([1], [rwN (tget t 1) 0 []]) from rfl)
    clear q
    go_enter Try.func47, Try.ntmps47
    go_wp2_with fail
    clear hW1
    refine HRT.out.mono ?_
    rintro e w2 ⟨rfl, hb2⟩
    have HB2 := Lib.hid (bt hb2 HB1.out)
    have HK2 := Lib.hid (HK1.out.below hb2)
    clear hb2 p0 HRT
    have hts : TR w (w2.alloc (.cells #[.int .i64 1] 3)) (.slice (some ⟨g0, 0, none⟩) t.length k0) (.slice (some ⟨w2.heap.size, 0, none⟩) 1 1) (.slice none 0 0) ([1], []) :=
      ⟨al HB2.out _, HK2.out.alloc _, World.ownsRow_lit w2 #[.int .i64 1] 1 HB2.out.size (by decide) rfl, World.ownsRow_nil _ _ _ _⟩
    obtain ⟨z, hz⟩ : ∃ z, w2.heap.size = z := ⟨_, rfl⟩
    obtain ⟨W3, hW3⟩ : ∃ W3, w2.alloc (.cells #[.int .i64 1] 3) = W3 := ⟨_, rfl⟩
    rw [hW3, hz] at hts
    have HTS := Lib.hid hts
    have p0 : W3.cell? ⟨w.heap.size, 0, none⟩ = some (.slice (some ⟨g0, 0, none⟩) t.length k0) := hts.kt.cell 0
    have HG1 := Lib.hid (HG.out 1 W3 hts.below)
    obtain ⟨n, hn⟩ : ∃ n, tget t 1 = n := ⟨_, rfl⟩
    rw [hn] at HG1 HS0
    clear hts hn
    go_wp2_with fail
    clear hW3 hz
    refine HG1.out.mono ?_
    rintro e w4 ⟨vn, vk, rfl, -, hb4⟩
    have HTS4 := Lib.hid (HTS.out.later hb4)
    clear hb4 p0 HTS HG1
    go_wp2_with fail
    refine (bare_any n vn vk w4).mono ?_
    rintro e w5 ⟨rfl, hb5⟩
    have HTS5 := Lib.hid (HTS4.out.later hb5)
    clear hb5 HTS4
    have HOWN := Lib.hid (show w5.ownsRow w.heap.size 84 11 (.slice none 0 0) 0 (xCells []) from HTS5.out.or_)
    go_wp2_with (at_builtin; refine wpList_append_one rfl (.tmp 16) (.tmp 21) _ rfl w.heap.size 84 _ 11 144 Try.underlying76 info_rr' rfl (by decide) (.slice none 0 0) 0 (xCells []) rfl w5 [.int .i64 n.kind, .int .i64 n.mode, .int .i64 n.uid, .int .i64 n.gid, .string (bA n.data), .slice none 0 0, .slice none 0 0, .string (bA n.target), .int .i64 0, .string ⟨#[]⟩, .int .i64 0] rfl (rr_one (rwN n 0 [])) HOWN.out rfl (by omega) (by omega) HTS5.out.below.size ?_; intro v6 w6 ho hg; have HTS6 := Lib.hid (show TR w w6 (.slice (some ⟨g0, 0, none⟩) t.length k0) (.slice (some ⟨z, 0, none⟩) 1 1) v6 (tlS t 0) by rw [HS0.out]; exact TR.putR (r := rwN n 0 []) HTS5.out ho hg); clear ho hg)
    go_loopg [3, 5, 6] 24 (fun gh s3 s5 s6 wr => ∃ (k : Nat) (vt vr : Value), s3 = vr ∧ s5 = vt ∧ s6 = .int .i64 k ∧ k ≤ 24 ∧ gh = 24 - k ∧ TR w wr (.slice (some ⟨g0, 0, none⟩) t.length k0) vt vr (tlS t k))
    case atStart => exact ⟨0, _, _, rfl, rfl, rfl, Nat.zero_le _, rfl, HTS6.out⟩
    case round =>
      clear HTS6 HTS5 HOWN HS0
      obtain ⟨k, vt, vr, rfl, rfl, rfl, hk, rfl, hts⟩ := hrel
      have h24 := HLN.out k
      have hlr := HLR.out k
      have HGO := Lib.hid (fun i (h : (tlS t k).1[k]? = some i) => tlS_go h)
      have HSTOP := Lib.hid (show (tlS t k).1.length ≤ k → tlS t 24 = tlS t k from fun h => by
        have := tlS_stay h (24 - k)
        rwa [show k + (24 - k) = 24 by omega] at this)
      have HLP := Lib.hid (fun (i : Int) (h : (tlS t k).1[k]? = some i) (j : Nat) => show (tlD t k (tlS t k) ((tget t i).ents.take j)).1.length ≤ 24 from
        Nat.le_trans (okS_len (okS_D (HOK.out k) (fun e he => HAE.out i e (List.mem_of_mem_take he)))) hl)
      generalize tlS t k = s at hts h24 hlr HGO HSTOP HLP
      have HTS := Lib.hid hts
      obtain ⟨A1, c1, A2, c2, rfl, rfl⟩ := hts.form
      clear hts
      by_cases hlt : k < s.1.length
      · have hlt' : (k : Int) < (s.1.length : Int) := by omega
        obtain ⟨i, hki⟩ : ∃ i, s.1[k]? = some i := ⟨_, List.getElem?_eq_getElem hlt⟩
        have HGI := Lib.hid (HGO.out i hki)
        have HLI := Lib.hid (HLP.out i hki)
        have hel := HEL.out i
        obtain ⟨ad0, hA0, d0⟩ := ints_get (IntsR.of_own HTS.out.ot) hki
        subst hA0
        have HGA := Lib.hid (HG.out i wr.drew (bt (Below.refl _ _).drew HTS.out.below))
        have HGB := Lib.hid (HG.out i (wr.alloc (.cells rfZ 34)).drew (bt (ba wr (.cells rfZ 34)).drew HTS.out.below))
        obtain ⟨n, hn⟩ : ∃ n, tget t i = n := ⟨_, rfl⟩
        rw [hn] at HGA HGB HGI HLI hel
        clear hki HGO HSTOP HLP hn
        have e0 : wr.drew.cell? ⟨w.heap.size, 0, none⟩ = some (.slice (some ⟨g0, 0, none⟩) t.length k0) := HTS.out.kt.cell 0
        have e1 : wr.drew.cell? (ad0.add k) = some (.int .i64 i) := d0
        have p1 : wr.cell? ⟨w.heap.size, 0, none⟩ = some (.slice (some ⟨g0, 0, none⟩) t.length k0) := HTS.out.kt.cell 0
        have z3 : (ad0.add k).block < wr.heap.size := World.block_lt_of_cell? _ _ d0
        have z4 := HTS.out.kt.lt
        go_upto_region 10 with fail
        go_cut [7] (fun s7 wx => ∃ (d : Nat) (A5 A6 : Option Addr) (k5 k6 : Nat), s7 = .pointer (some ⟨d, 0, none⟩) ∧ TR w wx (.slice (some ⟨g0, 0, none⟩) t.length k0) (.slice (some ad0) s.1.length c1) (.slice A2 s.2.length c2) s ∧ TRd w wx n d (.slice A5 n.ents.length k5) (.slice A6 n.ents.length k6))
        case first =>
          go_region_with (first
            | (go_at_call 25; (with_reducible refine HGA.out.mono ?_); rintro e w7 ⟨vn, vk, rfl, ⟨hn7, hk7⟩, hb7⟩; obtain ⟨A5, k5, hv5⟩ := strs_form hn7 (nm_len _); obtain ⟨A6, k6, hv6⟩ := ints_form hk7 (idE_len _); subst hv5 hv6; have HN7 := Lib.hid hn7; have HK7 := Lib.hid hk7; have HT7 := Lib.hid (HTS.out.later (bt hb7 (Below.refl _ _).drew)); clear hn7 hk7 hb7)
            | (go_at_call 25; (with_reducible refine HGB.out.mono ?_); rintro e w7 ⟨vn, vk, rfl, ⟨hn7, hk7⟩, hb7⟩; obtain ⟨A5, k5, hv5⟩ := strs_form hn7 (nm_len _); obtain ⟨A6, k6, hv6⟩ := ints_form hk7 (idE_len _); subst hv5 hv6; have HN7 := Lib.hid hn7; have HK7 := Lib.hid hk7; have HT7 := Lib.hid (HTS.out.later (bt hb7 (ba wr (.cells rfZ 34)).drew)); have hx7 : Blk w7 wr.heap.size 34 rfZ := Blk.below (w := (wr.alloc (.cells rfZ 34)).drew) (Blk.new wr 34 _) hb7; have HX7 := Lib.hid hx7; obtain ⟨y0, y1, y2, y3, y4, y5, y6, y7⟩ := hx7.c8; obtain ⟨f0, f1, f2, f3, f4, f5, f6, f7⟩ := hx7.f8; clear hn7 hk7 hb7 hx7))
          all_goals (
            go_wp2
            go_meet
            first
              | (with_reducible exact ⟨_, A5, A6, k5, k6, rfl, HT7.out.later (ba w7 _), Blk.new w7 _ _, HT7.out.below.size, HN7.out, HK7.out⟩)
              | exact ⟨_, A5, A6, k5, k6, rfl, HT7.out.put HX7.out HTS.out.below.size _ _ _ _ _ _ _ _, HX7.out.put8 _ _ _ _ _ _ _ _, HTS.out.below.size, HN7.out, HK7.out⟩)
        case rest =>
          obtain ⟨d, A5, A6, k5, k6, rfl, htr, htd⟩ := hcut
          have HTR := Lib.hid htr
          have HTD := Lib.hid htd
          clear htr htd e0 e1 p1 z3 z4 d0 HGA HGB HTS
          go_wp2
          go_loopg [3, 5, 8] n.ents.length (fun gh s3 s5 s8 wr => ∃ (j : Nat) (vt vr : Value), s3 = vr ∧ s5 = vt ∧ s8 = .int .i64 j ∧ j ≤ n.ents.length ∧ gh = n.ents.length - j ∧ TR w wr (.slice (some ⟨g0, 0, none⟩) t.length k0) vt vr (tlD t k s (n.ents.take j)) ∧ TRd w wr n d (.slice A5 n.ents.length k5) (.slice A6 n.ents.length k6))
          case atStart => exact ⟨0, _, _, rfl, rfl, rfl, Nat.zero_le _, rfl, HTR.out, HTD.out⟩
          case round =>
            clear HTR HTD
            obtain ⟨j, vt, vr, rfl, rfl, rfl, hj, rfl, htr, htd⟩ := hrel
            have HTD := Lib.hid htd
            have hl1 := HLI.out j
            have hl2 : (tlD t k s (n.ents.take j)).2.length ≤ 1000 := by
              rw [(tlD_len ..).1, List.length_take]
              omega
            by_cases hjl : j < n.ents.length
            · have hjl' : (j : Int) < (n.ents.length : Int) := by omega
              obtain ⟨e, he⟩ : ∃ e, n.ents[j]? = some e := ⟨_, List.getElem?_eq_getElem hjl⟩
              have HSN := Lib.hid (tlD_snoc (t := t) (k := k) (s := s) he)
              generalize tlD t k s (n.ents.take j) = S at htr hl1 hl2 HSN
              have HTR := Lib.hid htr
              obtain ⟨B1, b1, B2, b2, rfl, rfl⟩ := htr.form
              obtain ⟨adn, hAn, dn⟩ := strs_get htd.nm (by unfold nmA; rw [List.getElem?_map, nmE_at he]; rfl)
              obtain ⟨adk, hAk, dk⟩ := ints_get htd.kd (idE_at he)
              subst hAn hAk
              have HDN := Lib.hid dn
              have HDK := Lib.hid dk
              have x0 := bc htr.below dn
              have x1 := bc htr.below dk
              obtain ⟨-, -, -, -, -, y5, y6, -⟩ := htd.kn.c8
              have HPL := Lib.hid (place_any _ S.1 e.2 wr (IntsR.of_own htr.ot) (by omega))
              clear he dn dk htr htd
              go_wp2_with fail
              refine HPL.out.mono ?_
              rintro e' w8 ⟨rfl, rfl⟩
              clear HPL
              by_cases qm : e.2 ∈ S.1
              · have HIX := Lib.hid (show ixI S.1 e.2 = (S.1.idxOf e.2 : Int) from by unfold ixI; rw [if_pos qm])
                have HT2 := Lib.hid (show tlE t ((k : Int) + 1) S e.2 e.1 = (S.1, S.2 ++ [rwA ((k : Int) + 1) e.1 ((S.1.idxOf e.2 : Int) + 1)]) from by unfold tlE; rw [if_pos qm])
                rw [HIX.out]
                have hii : S.1.idxOf e.2 < S.1.length := List.idxOf_lt_length_iff.2 qm
                generalize S.1.idxOf e.2 = ii at HT2 hii ⊢
                have hge : (ii : Int) ≥ 0 := by omega
                have HOWN := Lib.hid HTR.out.or_
                clear qm HIX
                go_wp2_with (at_builtin; refine wpList_append_one rfl (.tmp 51) (.tmp 63) _ rfl w.heap.size 84 _ 11 144 Try.underlying76 info_rr' rfl (by decide) (.slice B2 S.2.length b2) S.2.length (xCells S.2) rfl w8 [.int .i64 4, .int .i64 0, .int .i64 0, .int .i64 0, .string ⟨#[]⟩, .slice none 0 0, .slice none 0 0, .string ⟨#[]⟩, .int .i64 ((k : Int) + 1), .string (bA e.1), .int .i64 ((ii : Int) + 1)] rfl (rr_one (rwA ((k : Int) + 1) e.1 ((ii : Int) + 1))) HOWN.out rfl (by omega) (by omega) HTR.out.below.size ?_; intro v9 w9 ho hg; have HTD9 := Lib.hid (show TRd w w9 n d _ _ from ⟨HTR.out.blkR HTD.out.kn hg (by decide), HTD.out.lo, HTD.out.nm, HTD.out.kd⟩); have HTR9 := Lib.hid (TR.putR (r := rwA ((k : Int) + 1) e.1 ((ii : Int) + 1)) HTR.out ho hg); clear ho hg)
                go_roundg (n.ents.length - (j + 1))
                case measure => omega
                case rel => exact ⟨j + 1, _, _, rfl, rfl, by go_num, by omega, rfl, by rw [HSN.out, HT2.out]; exact HTR9.out, HTD9.out⟩
              · have HIX := Lib.hid (show ixI S.1 e.2 = -1 from by unfold ixI; rw [if_neg qm])
                have HT2 := Lib.hid (show tlE t ((k : Int) + 1) S e.2 e.1 = (S.1 ++ [e.2], S.2 ++ [rwN (tget t e.2) ((k : Int) + 1) e.1]) from by unfold tlE; rw [if_neg qm])
                rw [HIX.out]
                have HOWN := Lib.hid HTR.out.ot
                clear qm HIX
                go_wp2_with (at_builtin; refine wpList_append_one rfl (.tmp 65) (.tmp 71) _ rfl w.heap.size 3 _ 1 8 Try.underlying32 info_int rfl (by decide) (.slice B1 S.1.length b1) S.1.length (iCells S.1) rfl w8 [.int .i64 e.2] rfl (int_one e.2) HOWN.out rfl (by omega) (by omega) HTR.out.below.size ?_; intro v9 w9 ho hg; have HTD9 := Lib.hid (show TRd w w9 n d _ _ from ⟨HTR.out.blkT HTD.out.kn hg (by decide), HTD.out.lo, HTD.out.nm, HTD.out.kd⟩); have HTR9 := Lib.hid (TR.putT (i := e.2) HTR.out ho hg); clear ho hg)
                obtain ⟨B3, b3, hv9⟩ : ∃ (A : Option Addr) (c : Nat), v9 = .slice A (S.1.length + 1) c := by obtain ⟨A, c, h⟩ := own_slice HTR9.out.ot; exact ⟨A, c, by rw [h]; simp⟩
                subst hv9
                clear HOWN
                have jw : IntKind.i64.wrap ((k : Int) + 1) = (k : Int) + 1 := by rw [IntKind.wrap_i64]; omega
                obtain ⟨m, hm⟩ : ∃ m, tget t e.2 = m := ⟨_, rfl⟩
                rw [hm] at HT2
                have HG2 := Lib.hid (fun W (hb : Below w9.heap.size w9 W) => by have h := HG.out e.2 W (bt hb HTR9.out.below); rw [hm] at h; exact h)
                have HBR := Lib.hid (fun vn vk W => bare_any m vn vk W)
                have HPR := Lib.hid (fun (W : World) (hb : Below w9.heap.size w9 W) => show W.cell? ⟨w.heap.size, 0, none⟩ = some (.slice (some ⟨g0, 0, none⟩) t.length k0) ∧ W.cell? ⟨d, 5, none⟩ = some (.slice (some adn) n.ents.length k5) ∧ W.cell? ⟨d, 6, none⟩ = some (.slice (some adk) n.ents.length k6) ∧ W.cell? (adn.add j) = some (.string (bA e.1)) ∧ W.cell? (adk.add j) = some (.int .i64 e.2) from ⟨bc hb (HTR9.out.kt.cell 0), bc hb HTD9.out.kn.c8.2.2.2.2.2.1, bc hb HTD9.out.kn.c8.2.2.2.2.2.2.1, bc hb (bc HTR9.out.below HDN.out), bc hb (bc HTR9.out.below HDK.out)⟩)
                have j0 : Below w9.heap.size w9 w9.drew := (Below.refl _ _).drew
                obtain ⟨i0, hi0, hz0, hz1, hz2⟩ := info_parts info_rr'
                clear hm x0 x1 y5 y6
                go_region_held3 (fun w' => w'.cell? ⟨w.heap.size, 0, none⟩ = some (.slice (some ⟨g0, 0, none⟩) t.length k0) ∧ w'.cell? ⟨d, 5, none⟩ = some (.slice (some adn) n.ents.length k5) ∧ w'.cell? ⟨d, 6, none⟩ = some (.slice (some adk) n.ents.length k6) ∧ w'.cell? (adn.add j) = some (.string (bA e.1)) ∧ w'.cell? (adk.add j) = some (.int .i64 e.2))
                  (first | (with_reducible exact HPR.out _ j0) | (with_reducible exact HPR.out _ j1) | (with_reducible exact HPR.out _ j2) | (with_reducible exact HPR.out _ j3) | (with_reducible exact HP12.out))
                  (first
                  | (go_at_call 25; (with_reducible refine (HG2.out _ j0).mono ?_); rintro e1 w10 ⟨vn', vk', rfl, -, h1⟩; have j1 := bt h1 j0; clear h1)
                  | (go_at_call 73; (with_reducible refine (HBR.out _ _ _).mono ?_); rintro e2 w11 ⟨rfl, h2⟩; have j2 := bt h2 j1; have j3 := al j2 (.cells (List.toArray [.int .i64 m.kind, .int .i64 m.mode, .int .i64 m.uid, .int .i64 m.gid, .string (bA m.data), .slice none 0 0, .slice none 0 0, .string (bA m.target), .int .i64 ((k : Int) + 1), .string (bA e.1), .int .i64 0]) 84); have HTRA := Lib.hid (HTR9.out.later j3); have HOWN2 := Lib.hid HTRA.out.or_; have HTDA := Lib.hid (show TRd w _ n d _ _ from ⟨HTD9.out.kn.below j3, HTD9.out.lo, HTD9.out.nm, HTD9.out.kd⟩); have HNEW := Lib.hid (fun j u (hj : ([.int .i64 m.kind, .int .i64 m.mode, .int .i64 m.uid, .int .i64 m.gid, .string (bA m.data), .slice none 0 0, .slice none 0 0, .string (bA m.target), .int .i64 ((k : Int) + 1), .string (bA e.1), .int .i64 0] : List Value)[j]? = some u) => World.news_of_block (heap_alloc_new w11 (.cells (List.toArray [.int .i64 m.kind, .int .i64 m.mode, .int .i64 m.uid, .int .i64 m.gid, .string (bA m.data), .slice none 0 0, .slice none 0 0, .string (bA m.target), .int .i64 ((k : Int) + 1), .string (bA e.1), .int .i64 0]) 84)) j u (by simpa using hj)); have HBS := Lib.hid (HTRA.out.below.size); clear h2)
                  | (refine step_append_lies _ rfl (.tmp 73) (.tmp 90) 76 rfl w.heap.size 84 i0 _ 11 144 Try.underlying76 hi0 hz0 hz1 hz2 rfl (by decide) (.slice B2 S.2.length b2) S.2.length (xCells S.2) (by simp [Act.eval]) HOWN2.out ⟨w11.heap.size, 0, none⟩ 1 1 [.int .i64 m.kind, .int .i64 m.mode, .int .i64 m.uid, .int .i64 m.gid, .string (bA m.data), .slice none 0 0, .slice none 0 0, .string (bA m.target), .int .i64 ((k : Int) + 1), .string (bA e.1), .int .i64 0] (by simp [Act.eval]) rfl HNEW.out (rr_one (rwN m ((k : Int) + 1) e.1)) (by decide) (by unfold maxLen; omega) (by omega) HBS.out _ rfl ?_; intro g1 cap1 w12 ho1 hg1 hat1 hlt1; have HTR12 := Lib.hid (TR.putR (r := rwN m ((k : Int) + 1) e.1) HTRA.out ho1 hg1); have HTD12 := Lib.hid (show TRd w w12 n d _ _ from ⟨HTRA.out.blkR HTDA.out.kn hg1 (by decide), HTD9.out.lo, HTD9.out.nm, HTD9.out.kd⟩); have HP12 := Lib.hid (show w12.cell? ⟨w.heap.size, 0, none⟩ = some (.slice (some ⟨g0, 0, none⟩) t.length k0) ∧ w12.cell? ⟨d, 5, none⟩ = some (.slice (some adn) n.ents.length k5) ∧ w12.cell? ⟨d, 6, none⟩ = some (.slice (some adk) n.ents.length k6) ∧ w12.cell? (adn.add j) = some (.string (bA e.1)) ∧ w12.cell? (adk.add j) = some (.int .i64 e.2) from ⟨HTR12.out.kt.cell 0, HTD12.out.kn.c8.2.2.2.2.2.1, HTD12.out.kn.c8.2.2.2.2.2.2.1, bc HTR12.out.below HDN.out, bc HTR12.out.below HDK.out⟩); clear ho1 hg1 hat1 hlt1))
                all_goals (
                  go_wp2
                  go_roundg (n.ents.length - (j + 1))
                  case measure => omega
                  case rel => exact ⟨j + 1, _, _, rfl, rfl, by go_num, by omega, rfl, by rw [HSN.out, HT2.out]; exact HTR12.out, HTD12.out⟩)
            · have hjl' : ¬ (j : Int) < (n.ents.length : Int) := by omega
              have hje : n.ents.take j = n.ents := List.take_of_length_le (by omega)
              rw [hje] at htr
              have HTR := Lib.hid htr
              obtain ⟨B1, b1, B2, b2, rfl, rfl⟩ := htr.form
              obtain ⟨-, -, -, -, -, y5, y6, -⟩ := htd.kn.c8
              clear htr htd hje
              go_wp2
              go_roundg (24 - (k + 1))
              case measure => omega
              case rel => exact ⟨k + 1, _, _, rfl, rfl, by go_num, by omega, rfl, by rw [HGI.out]; exact HTR.out⟩
      · have hlt' : ¬ (k : Int) < (s.1.length : Int) := by omega
        have HE := Lib.hid (HSTOP.out (by omega))
        go_wp2
        go_ret
        exact ⟨_, rfl, by rw [HTL.out, HE.out]; exact HTS.out.or_, HTS.out.below⟩
  · have HTL := Lib.hid (show tellL t = [] from by unfold tellL; rw [if_neg q])
    have qf : toB (allT t []) = false := by simpa using q
    rw [qf] at HRT
    clear q qf
    go_enter Try.func47, Try.ntmps47
    go_wp2_with fail
    clear hW1
    refine HRT.out.mono ?_
    rintro e w2 ⟨rfl, hb2⟩
    have HB2 := Lib.hid (bt hb2 HB1.out)
    clear hb2 p0 HRT
    go_wp2
    go_ret
    exact ⟨_, rfl, by rw [HTL.out]; exact World.ownsRow_nil _ _ _ _, HB2.out⟩
end Go.Proofs.Ytnecnnajngfooaa
