/-
  BuildTells: what builds any tree is the reference's. The conditions: what is told, and the nodes, are no longer than a machine can hold.
-/
import Derived.Test.YtnecnnajngfooaaNdr
import Derived.Test.YtnecnnajngfooaaBldAw
import Derived.Test.YtnecnnajngfooaaMTr
import Derived.Test.YtnecnnajngfooaaBldB
import Derived.Deep.RegionHeld3
namespace Go.Proofs.Ytnecnnajngfooaa
open Go Go.RowKit
set_option maxRecDepth 100000

attribute [local go_sem] cell_off4 cell_blk4
def ndOf (r : Rw) : Nd := ⟨r.kind, r.mode, r.uid, r.gid, r.data, [], r.target⟩
set_option maxHeartbeats 16000000 in
theorem btells_any (m : Int) (v : Value) (l : List Rw) (vn : Value) (ns : List Nd) (w : World) (h : RawsR w v l) (hl : l.length ≤ maxLen) (hn : NodesR w vn ns) :
    Calls Try.prog 6 #[.int .i64 m, v, vn] w fun e w' => e = .returned (.bool true) ∧ Below w.heap.size w w' := by
  obtain ⟨An, cn, rfl⟩ := nodes_form hn
  have HA := Lib.hid (awake10_any w)
  have HR := Lib.hid h
  have HN := Lib.hid hn
  have HS := Lib.hid (fun W (hb : Below w.heap.size w W) => fewR_any v l W (h.below hb) hl)
  clear h hl hn
  by_cases hs : fewR l
  · rw [toB_true hs] at HS
    have HF := Lib.hid hs
    have HC := Lib.hid (fun W (hb : Below w.heap.size w W) => build_any m v l W (HR.out.below hb) hs)
    clear hs
    obtain ⟨X, hX⟩ : ∃ X, bldA m l = X := ⟨_, rfl⟩
    rw [hX] at HC
    go_enter Try.func6, Try.ntmps6
    go_wp2_with fail
    refine HA.out.mono ?_
    rintro e w1 ⟨rfl, hb1⟩
    have HB1 := Lib.hid hb1
    clear hb1
    go_wp2_with fail
    refine (HS.out _ HB1.out).mono ?_
    rintro e w2 ⟨rfl, hb2⟩
    have HB2 := Lib.hid (bt hb2 HB1.out)
    clear hb2
    by_cases h30 : 30 < ns.length
    · have y30 : (ns.length : Int) > 30 := by omega
      clear h30
      go_wp2
      go_ret
      exact ⟨rfl, HB2.out⟩
    have y30 : ¬ (ns.length : Int) > 30 := by omega
    have H30 := Lib.hid h30
    clear h30
    cases X with
    | bad k e0 =>
      clear hX
      go_wp2_with fail
      refine (HC.out _ HB2.out).mono ?_
      rintro e w3 ⟨⟨rfl, hne⟩, hb3⟩
      have HB3 := Lib.hid (bt hb3 HB2.out)
      have q0 : (e0 != 0) = true := by simpa using hne
      clear hb3 hne
      go_wp2_with fail
      refine (new_any 24 w3).mono ?_
      rintro e w4 ⟨rfl, hT, hb4, -⟩
      have HTB := Lib.hid (hT (fun _ => True))
      have HB4 := Lib.hid (bt hb4 HB3.out)
      have HLO := Lib.hid (show w.heap.size ≤ w3.heap.size from HB3.out.size)
      clear hT hb4
      generalize List.replicate (newL 24) Nd.zero = T0 at HTB
      generalize w3.heap.size = g at HTB HLO ⊢
      go_wp2
      go_loopg [12] ns.length (fun gh s12 wr => ∃ (k : Nat) (T : List Nd), s12 = .int .i64 k ∧ k ≤ ns.length ∧ gh = ns.length - k ∧ TabR wr g T (fun _ => True) ∧ Below w.heap.size w wr)
      case atStart => exact ⟨0, T0, rfl, Nat.zero_le _, rfl, HTB.out, HB4.out⟩
      case round =>
        clear HTB HB4
        obtain ⟨k, T, rfl, hk, rfl, htb, hbr⟩ := hrel
        have HTB := Lib.hid htb
        have HBR := Lib.hid hbr
        by_cases hlt : k < ns.length
        · have hlt' : (k : Int) < (ns.length : Int) := by omega
          obtain ⟨n, hkn⟩ : ∃ n, ns[k]? = some n := ⟨_, List.getElem?_eq_getElem hlt⟩
          obtain ⟨ad, vd, ve, hA, p0, ⟨p1, p2, p3, p4, p5, p6⟩, hd, he, hsz⟩ := nodes_get (HN.out.below hbr) hkn
          subst hA
          obtain ⟨A5, k5, rfl⟩ := bytes_form hd rfl
          obtain ⟨A6, k6, rfl⟩ := ents_form he rfl
          have HD := Lib.hid hd
          have HE := Lib.hid he
          have HSZ := Lib.hid hsz
          have hst := size_bA n.target
          clear hkn hd he hsz htb hbr
          by_cases h20 : 20 < n.ents.length
          · have a1 : (n.ents.length : Int) > 20 := by omega
            clear h20 hst
            go_wp2
            go_ret
            exact ⟨rfl, HBR.out⟩
          have a1 : ¬ (n.ents.length : Int) > 20 := by omega
          by_cases h100 : 100 < n.data.length
          · have a2 : (n.data.length : Int) > 100 := by omega
            clear h100 h20 hst
            go_wp2
            go_ret
            exact ⟨rfl, HBR.out⟩
          have a2 : ¬ (n.data.length : Int) > 100 := by omega
          by_cases ht100 : 100 < n.target.length
          · have a3 : ((bA n.target).size : Int) > 100 := by omega
            clear h100 h20 ht100 hst
            go_wp2
            go_ret
            exact ⟨rfl, HBR.out⟩
          have a3 : ¬ ((bA n.target).size : Int) > 100 := by omega
          have HFB := Lib.hid (show FewB n from ⟨by omega, by omega, HSZ.out, by omega⟩)
          have HAD := Lib.hid (add_big g T (fun _ => True) n _ _ wr HTB.out HD.out HE.out HFB.out (fun _ _ => trivial))
          unfold nodeV at HAD
          clear h100 h20 ht100 hst
          go_wp2_with fail
          refine HAD.out.mono ?_
          rintro e w6 ⟨⟨x, y, rfl⟩, ⟨T6, ht6⟩, hg6⟩
          have HT6 := Lib.hid ht6
          have HB6 := Lib.hid (below_grown HBR.out hg6 HLO.out)
          clear ht6 hg6 p0 p1 p2 p3 p4 p5 p6 HAD
          go_wp2
          go_roundg (ns.length - (k + 1))
          case measure => omega
          case rel => exact ⟨k + 1, T6, by go_num, by omega, rfl, HT6.out, HB6.out⟩
        · have hlt' : ¬ (k : Int) < (ns.length : Int) := by omega
          have HTL := Lib.hid (tell_any _ T wr HTB.out.ptr)
          have HLL := Lib.hid (tellL_len HTB.out.ok)
          have HOK := Lib.hid HTB.out.ok
          have HSM := Lib.hid (tellL_same (t := copyT T 24) (u := T) (fun j => copy_all HTB.out.hi j))
          clear htb hbr
          go_wp2_with fail
          refine HTL.out.mono ?_
          rintro e w6 ⟨⟨u, rfl, hu⟩, hb6⟩
          have HB6 := Lib.hid (bt hb6 HBR.out)
          have HT6 := Lib.hid (HTB.out.below hb6)
          have HTO := Lib.hid (told_any u _ w6 hu (Nat.le_trans HLL.out (by decide)))
          clear hu hb6
          go_wp2_with fail
          refine HTO.out.mono ?_
          rintro e w7 ⟨u7, rfl, hx7, hb7⟩
          have HB7 := Lib.hid (bt hb7 HB6.out)
          have HT7 := Lib.hid (HT6.out.below hb7)
          have HX7 := Lib.hid hx7
          clear hx7 hb7
          go_wp2_with fail
          refine (tree_any g T w7 HT7.out).mono ?_
          rintro e w8 ⟨g8, c8, rfl, hn8, hb8⟩
          have HB8 := Lib.hid (bt hb8 HB7.out)
          have HX8 := Lib.hid (show RsX w8 _ _ _ from own_below HX7.out hb8)
          have HRT := Lib.hid (rtell_any _ (copyT T 24) w8 hn8 (by rw [copy_len]; decide) (copy_ok HOK.out 24))
          rw [HSM.out] at HRT
          clear hn8 hb8
          go_wp2_with fail
          refine HRT.out.mono ?_
          rintro e w9 ⟨u9, rfl, hx9, hb9⟩
          have HB9 := Lib.hid (bt hb9 HB8.out)
          have HX9 := Lib.hid (show RsX w9 _ _ _ from own_below HX8.out hb9)
          have HY9 := Lib.hid hx9
          clear HRT HTL HTO HSM HX7 HX8
          generalize w6.heap.size = B6 at HX9
          generalize w8.heap.size = B8 at HY9 hx9
          have hx9' := HX9.out
          generalize tellL T = L at HX9 HY9 HLL hx9 hx9'
          obtain ⟨A7, c7, rfl⟩ := rs_form hx9'
          obtain ⟨A9, c9, rfl⟩ := rs_form hx9
          have yl : ((L.length : Int) != (L.length : Int)) = false := by simp
          have HLL2 := Lib.hid (show L.length ≤ 193 from HLL.out)
          clear hx9 hx9' hb9 hlt hlt'
          go_wp2
          go_loopg [15] L.length (fun gh s15 wr => ∃ (k : Nat), s15 = .int .i64 k ∧ k ≤ L.length ∧ gh = L.length - k ∧ Below w9.heap.size w9 wr)
          case atStart => exact ⟨0, rfl, Nat.zero_le _, rfl, Below.refl _ _⟩
          case round =>
            obtain ⟨k, rfl, hk, rfl, hbk⟩ := hrel
            have HBK := Lib.hid hbk
            by_cases hlt : k < L.length
            · have hlt' : (k : Int) < (L.length : Int) := by omega
              obtain ⟨r, hr⟩ : ∃ r, L[k]? = some r := ⟨_, List.getElem?_eq_getElem hlt⟩
              obtain ⟨ga, hA, -, ca⟩ := rs_get (show RsX wr _ _ _ from own_below HX9.out hbk) hr
              obtain ⟨gb, hB, -, cb⟩ := rs_get (show RsX wr _ _ _ from own_below HY9.out hbk) hr
              subst hA hB
              have HPR := Lib.hid (fun (W : World) (hb : Below wr.heap.size wr W) => show W.cell? ⟨ga, k * 11, none⟩ = some (.int .i64 r.kind) ∧ W.cell? ⟨ga, k * 11 + 1, none⟩ = some (.int .i64 r.mode) ∧ W.cell? ⟨ga, k * 11 + 2, none⟩ = some (.int .i64 r.uid) ∧ W.cell? ⟨ga, k * 11 + 3, none⟩ = some (.int .i64 r.gid) ∧ W.cell? ⟨ga, k * 11 + 4, none⟩ = some (.string (bA r.data)) ∧ W.cell? ⟨ga, k * 11 + 5, none⟩ = some (.slice none 0 0) ∧ W.cell? ⟨ga, k * 11 + 6, none⟩ = some (.slice none 0 0) ∧ W.cell? ⟨ga, k * 11 + 7, none⟩ = some (.string (bA r.target)) ∧ W.cell? ⟨ga, k * 11 + 8, none⟩ = some (.int .i64 r.parent) ∧ W.cell? ⟨ga, k * 11 + 9, none⟩ = some (.string (bA r.name)) ∧ W.cell? ⟨ga, k * 11 + 10, none⟩ = some (.int .i64 r.node) ∧ W.cell? ⟨gb, k * 11, none⟩ = some (.int .i64 r.kind) ∧ W.cell? ⟨gb, k * 11 + 1, none⟩ = some (.int .i64 r.mode) ∧ W.cell? ⟨gb, k * 11 + 2, none⟩ = some (.int .i64 r.uid) ∧ W.cell? ⟨gb, k * 11 + 3, none⟩ = some (.int .i64 r.gid) ∧ W.cell? ⟨gb, k * 11 + 4, none⟩ = some (.string (bA r.data)) ∧ W.cell? ⟨gb, k * 11 + 5, none⟩ = some (.slice none 0 0) ∧ W.cell? ⟨gb, k * 11 + 6, none⟩ = some (.slice none 0 0) ∧ W.cell? ⟨gb, k * 11 + 7, none⟩ = some (.string (bA r.target)) ∧ W.cell? ⟨gb, k * 11 + 8, none⟩ = some (.int .i64 r.parent) ∧ W.cell? ⟨gb, k * 11 + 9, none⟩ = some (.string (bA r.name)) ∧ W.cell? ⟨gb, k * 11 + 10, none⟩ = some (.int .i64 r.node) from ⟨bc hb (ca 0 _ (by decide) rfl), bc hb (ca 1 _ (by decide) rfl), bc hb (ca 2 _ (by decide) rfl), bc hb (ca 3 _ (by decide) rfl), bc hb (ca 4 _ (by decide) rfl), bc hb (ca 5 _ (by decide) rfl), bc hb (ca 6 _ (by decide) rfl), bc hb (ca 7 _ (by decide) rfl), bc hb (ca 8 _ (by decide) rfl), bc hb (ca 9 _ (by decide) rfl), bc hb (ca 10 _ (by decide) rfl), bc hb (cb 0 _ (by decide) rfl), bc hb (cb 1 _ (by decide) rfl), bc hb (cb 2 _ (by decide) rfl), bc hb (cb 3 _ (by decide) rfl), bc hb (cb 4 _ (by decide) rfl), bc hb (cb 5 _ (by decide) rfl), bc hb (cb 6 _ (by decide) rfl), bc hb (cb 7 _ (by decide) rfl), bc hb (cb 8 _ (by decide) rfl), bc hb (cb 9 _ (by decide) rfl), bc hb (cb 10 _ (by decide) rfl)⟩)
              have HSA := Lib.hid (fun W => show Calls Try.prog 24 #[.agg #[.int .i64 r.kind, .int .i64 r.mode, .int .i64 r.uid, .int .i64 r.gid, .string (bA r.data), .slice none 0 0, .slice none 0 0, .string (bA r.target)], .agg #[.int .i64 r.kind, .int .i64 r.mode, .int .i64 r.uid, .int .i64 r.gid, .string (bA r.data), .slice none 0 0, .slice none 0 0, .string (bA r.target)]] W (fun e w' => e = .returned (.bool true) ∧ Below W.heap.size W w') from by have h9 := rsame_any (ndOf r) (ndOf r) (.slice none 0 0) (.slice none 0 0) (.slice none 0 0) (.slice none 0 0) W (StrsR.nil _) (IntsR.nil _) (StrsR.nil _) (IntsR.nil _) (Nat.zero_le _) (Nat.zero_le _); rw [toB_true rfl] at h9; exact h9)
              have j0 : Below wr.heap.size wr wr.drew := (Below.refl _ _).drew
              have y1 : (r.parent != r.parent) = false := by simp
              have y2 : ((bA r.name).toList == (bA r.name).toList) = true := by simp
              have y3 : (r.node != r.node) = false := by simp
              clear hr ca cb hbk
              go_upto_region 23 with fail
              go_region_held3 (fun w' => w'.cell? ⟨ga, k * 11, none⟩ = some (.int .i64 r.kind) ∧ w'.cell? ⟨ga, k * 11 + 1, none⟩ = some (.int .i64 r.mode) ∧ w'.cell? ⟨ga, k * 11 + 2, none⟩ = some (.int .i64 r.uid) ∧ w'.cell? ⟨ga, k * 11 + 3, none⟩ = some (.int .i64 r.gid) ∧ w'.cell? ⟨ga, k * 11 + 4, none⟩ = some (.string (bA r.data)) ∧ w'.cell? ⟨ga, k * 11 + 5, none⟩ = some (.slice none 0 0) ∧ w'.cell? ⟨ga, k * 11 + 6, none⟩ = some (.slice none 0 0) ∧ w'.cell? ⟨ga, k * 11 + 7, none⟩ = some (.string (bA r.target)) ∧ w'.cell? ⟨ga, k * 11 + 8, none⟩ = some (.int .i64 r.parent) ∧ w'.cell? ⟨ga, k * 11 + 9, none⟩ = some (.string (bA r.name)) ∧ w'.cell? ⟨ga, k * 11 + 10, none⟩ = some (.int .i64 r.node) ∧ w'.cell? ⟨gb, k * 11, none⟩ = some (.int .i64 r.kind) ∧ w'.cell? ⟨gb, k * 11 + 1, none⟩ = some (.int .i64 r.mode) ∧ w'.cell? ⟨gb, k * 11 + 2, none⟩ = some (.int .i64 r.uid) ∧ w'.cell? ⟨gb, k * 11 + 3, none⟩ = some (.int .i64 r.gid) ∧ w'.cell? ⟨gb, k * 11 + 4, none⟩ = some (.string (bA r.data)) ∧ w'.cell? ⟨gb, k * 11 + 5, none⟩ = some (.slice none 0 0) ∧ w'.cell? ⟨gb, k * 11 + 6, none⟩ = some (.slice none 0 0) ∧ w'.cell? ⟨gb, k * 11 + 7, none⟩ = some (.string (bA r.target)) ∧ w'.cell? ⟨gb, k * 11 + 8, none⟩ = some (.int .i64 r.parent) ∧ w'.cell? ⟨gb, k * 11 + 9, none⟩ = some (.string (bA r.name)) ∧ w'.cell? ⟨gb, k * 11 + 10, none⟩ = some (.int .i64 r.node))
                (first | (with_reducible exact HPR.out _ j0) | (with_reducible exact HPR.out _ j1))
                (first
                | (go_at_call 24; (with_reducible refine (HSA.out _).mono ?_); rintro e1 w11 ⟨rfl, h1⟩; have j1 := bt h1 j0; clear h1))
              all_goals (
                have h193 := HLL2.out
                have jw : wrap64 ((k : Int) + 1) = (k : Int) + 1 := by unfold wrap64; omega
                go_wp2
                go_roundg (L.length - (k + 1))
                case measure => omega
                case rel => exact ⟨k + 1, by go_num, by omega, rfl, bt j1 HBK.out⟩)
            · have hlt' : ¬ (k : Int) < (L.length : Int) := by omega
              clear hbk
              go_wp2
              go_ret
              exact ⟨rfl, bt HBK.out HB9.out⟩
    | good T0 =>
      clear hX
      go_wp2_with fail
      refine (HC.out _ HB2.out).mono ?_
      rintro e w4 ⟨⟨g, rfl, ht, hlo⟩, hb4⟩
      have HTB := Lib.hid ht
      have HB4 := Lib.hid (bt hb4 HB2.out)
      have HLO := Lib.hid (show w.heap.size ≤ g from Nat.le_trans HB2.out.size hlo)
      clear ht hlo hb4
      go_wp2
      go_loopg [12] ns.length (fun gh s12 wr => ∃ (k : Nat) (T : List Nd), s12 = .int .i64 k ∧ k ≤ ns.length ∧ gh = ns.length - k ∧ TabR wr g T (fun _ => True) ∧ Below w.heap.size w wr)
      case atStart => exact ⟨0, T0, rfl, Nat.zero_le _, rfl, HTB.out, HB4.out⟩
      case round =>
        clear HTB HB4
        obtain ⟨k, T, rfl, hk, rfl, htb, hbr⟩ := hrel
        have HTB := Lib.hid htb
        have HBR := Lib.hid hbr
        by_cases hlt : k < ns.length
        · have hlt' : (k : Int) < (ns.length : Int) := by omega
          obtain ⟨n, hkn⟩ : ∃ n, ns[k]? = some n := ⟨_, List.getElem?_eq_getElem hlt⟩
          obtain ⟨ad, vd, ve, hA, p0, ⟨p1, p2, p3, p4, p5, p6⟩, hd, he, hsz⟩ := nodes_get (HN.out.below hbr) hkn
          subst hA
          obtain ⟨A5, k5, rfl⟩ := bytes_form hd rfl
          obtain ⟨A6, k6, rfl⟩ := ents_form he rfl
          have HD := Lib.hid hd
          have HE := Lib.hid he
          have HSZ := Lib.hid hsz
          have hst := size_bA n.target
          clear hkn hd he hsz htb hbr
          by_cases h20 : 20 < n.ents.length
          · have a1 : (n.ents.length : Int) > 20 := by omega
            clear h20 hst
            go_wp2
            go_ret
            exact ⟨rfl, HBR.out⟩
          have a1 : ¬ (n.ents.length : Int) > 20 := by omega
          by_cases h100 : 100 < n.data.length
          · have a2 : (n.data.length : Int) > 100 := by omega
            clear h100 h20 hst
            go_wp2
            go_ret
            exact ⟨rfl, HBR.out⟩
          have a2 : ¬ (n.data.length : Int) > 100 := by omega
          by_cases ht100 : 100 < n.target.length
          · have a3 : ((bA n.target).size : Int) > 100 := by omega
            clear h100 h20 ht100 hst
            go_wp2
            go_ret
            exact ⟨rfl, HBR.out⟩
          have a3 : ¬ ((bA n.target).size : Int) > 100 := by omega
          have HFB := Lib.hid (show FewB n from ⟨by omega, by omega, HSZ.out, by omega⟩)
          have HAD := Lib.hid (add_big g T (fun _ => True) n _ _ wr HTB.out HD.out HE.out HFB.out (fun _ _ => trivial))
          unfold nodeV at HAD
          clear h100 h20 ht100 hst
          go_wp2_with fail
          refine HAD.out.mono ?_
          rintro e w6 ⟨⟨x, y, rfl⟩, ⟨T6, ht6⟩, hg6⟩
          have HT6 := Lib.hid ht6
          have HB6 := Lib.hid (below_grown HBR.out hg6 HLO.out)
          clear ht6 hg6 p0 p1 p2 p3 p4 p5 p6 HAD
          go_wp2
          go_roundg (ns.length - (k + 1))
          case measure => omega
          case rel => exact ⟨k + 1, T6, by go_num, by omega, rfl, HT6.out, HB6.out⟩
        · have hlt' : ¬ (k : Int) < (ns.length : Int) := by omega
          have HTL := Lib.hid (tell_any _ T wr HTB.out.ptr)
          have HLL := Lib.hid (tellL_len HTB.out.ok)
          have HOK := Lib.hid HTB.out.ok
          have HSM := Lib.hid (tellL_same (t := copyT T 24) (u := T) (fun j => copy_all HTB.out.hi j))
          clear htb hbr
          go_wp2_with fail
          refine HTL.out.mono ?_
          rintro e w6 ⟨⟨u, rfl, hu⟩, hb6⟩
          have HB6 := Lib.hid (bt hb6 HBR.out)
          have HT6 := Lib.hid (HTB.out.below hb6)
          have HTO := Lib.hid (told_any u _ w6 hu (Nat.le_trans HLL.out (by decide)))
          clear hu hb6
          go_wp2_with fail
          refine HTO.out.mono ?_
          rintro e w7 ⟨u7, rfl, hx7, hb7⟩
          have HB7 := Lib.hid (bt hb7 HB6.out)
          have HT7 := Lib.hid (HT6.out.below hb7)
          have HX7 := Lib.hid hx7
          clear hx7 hb7
          go_wp2_with fail
          refine (tree_any g T w7 HT7.out).mono ?_
          rintro e w8 ⟨g8, c8, rfl, hn8, hb8⟩
          have HB8 := Lib.hid (bt hb8 HB7.out)
          have HX8 := Lib.hid (show RsX w8 _ _ _ from own_below HX7.out hb8)
          have HRT := Lib.hid (rtell_any _ (copyT T 24) w8 hn8 (by rw [copy_len]; decide) (copy_ok HOK.out 24))
          rw [HSM.out] at HRT
          clear hn8 hb8
          go_wp2_with fail
          refine HRT.out.mono ?_
          rintro e w9 ⟨u9, rfl, hx9, hb9⟩
          have HB9 := Lib.hid (bt hb9 HB8.out)
          have HX9 := Lib.hid (show RsX w9 _ _ _ from own_below HX8.out hb9)
          have HY9 := Lib.hid hx9
          clear HRT HTL HTO HSM HX7 HX8
          generalize w6.heap.size = B6 at HX9
          generalize w8.heap.size = B8 at HY9 hx9
          have hx9' := HX9.out
          generalize tellL T = L at HX9 HY9 HLL hx9 hx9'
          obtain ⟨A7, c7, rfl⟩ := rs_form hx9'
          obtain ⟨A9, c9, rfl⟩ := rs_form hx9
          have yl : ((L.length : Int) != (L.length : Int)) = false := by simp
          have HLL2 := Lib.hid (show L.length ≤ 193 from HLL.out)
          clear hx9 hx9' hb9 hlt hlt'
          go_wp2
          go_loopg [15] L.length (fun gh s15 wr => ∃ (k : Nat), s15 = .int .i64 k ∧ k ≤ L.length ∧ gh = L.length - k ∧ Below w9.heap.size w9 wr)
          case atStart => exact ⟨0, rfl, Nat.zero_le _, rfl, Below.refl _ _⟩
          case round =>
            obtain ⟨k, rfl, hk, rfl, hbk⟩ := hrel
            have HBK := Lib.hid hbk
            by_cases hlt : k < L.length
            · have hlt' : (k : Int) < (L.length : Int) := by omega
              obtain ⟨r, hr⟩ : ∃ r, L[k]? = some r := ⟨_, List.getElem?_eq_getElem hlt⟩
              obtain ⟨ga, hA, -, ca⟩ := rs_get (show RsX wr _ _ _ from own_below HX9.out hbk) hr
              obtain ⟨gb, hB, -, cb⟩ := rs_get (show RsX wr _ _ _ from own_below HY9.out hbk) hr
              subst hA hB
              have HPR := Lib.hid (fun (W : World) (hb : Below wr.heap.size wr W) => show W.cell? ⟨ga, k * 11, none⟩ = some (.int .i64 r.kind) ∧ W.cell? ⟨ga, k * 11 + 1, none⟩ = some (.int .i64 r.mode) ∧ W.cell? ⟨ga, k * 11 + 2, none⟩ = some (.int .i64 r.uid) ∧ W.cell? ⟨ga, k * 11 + 3, none⟩ = some (.int .i64 r.gid) ∧ W.cell? ⟨ga, k * 11 + 4, none⟩ = some (.string (bA r.data)) ∧ W.cell? ⟨ga, k * 11 + 5, none⟩ = some (.slice none 0 0) ∧ W.cell? ⟨ga, k * 11 + 6, none⟩ = some (.slice none 0 0) ∧ W.cell? ⟨ga, k * 11 + 7, none⟩ = some (.string (bA r.target)) ∧ W.cell? ⟨ga, k * 11 + 8, none⟩ = some (.int .i64 r.parent) ∧ W.cell? ⟨ga, k * 11 + 9, none⟩ = some (.string (bA r.name)) ∧ W.cell? ⟨ga, k * 11 + 10, none⟩ = some (.int .i64 r.node) ∧ W.cell? ⟨gb, k * 11, none⟩ = some (.int .i64 r.kind) ∧ W.cell? ⟨gb, k * 11 + 1, none⟩ = some (.int .i64 r.mode) ∧ W.cell? ⟨gb, k * 11 + 2, none⟩ = some (.int .i64 r.uid) ∧ W.cell? ⟨gb, k * 11 + 3, none⟩ = some (.int .i64 r.gid) ∧ W.cell? ⟨gb, k * 11 + 4, none⟩ = some (.string (bA r.data)) ∧ W.cell? ⟨gb, k * 11 + 5, none⟩ = some (.slice none 0 0) ∧ W.cell? ⟨gb, k * 11 + 6, none⟩ = some (.slice none 0 0) ∧ W.cell? ⟨gb, k * 11 + 7, none⟩ = some (.string (bA r.target)) ∧ W.cell? ⟨gb, k * 11 + 8, none⟩ = some (.int .i64 r.parent) ∧ W.cell? ⟨gb, k * 11 + 9, none⟩ = some (.string (bA r.name)) ∧ W.cell? ⟨gb, k * 11 + 10, none⟩ = some (.int .i64 r.node) from ⟨bc hb (ca 0 _ (by decide) rfl), bc hb (ca 1 _ (by decide) rfl), bc hb (ca 2 _ (by decide) rfl), bc hb (ca 3 _ (by decide) rfl), bc hb (ca 4 _ (by decide) rfl), bc hb (ca 5 _ (by decide) rfl), bc hb (ca 6 _ (by decide) rfl), bc hb (ca 7 _ (by decide) rfl), bc hb (ca 8 _ (by decide) rfl), bc hb (ca 9 _ (by decide) rfl), bc hb (ca 10 _ (by decide) rfl), bc hb (cb 0 _ (by decide) rfl), bc hb (cb 1 _ (by decide) rfl), bc hb (cb 2 _ (by decide) rfl), bc hb (cb 3 _ (by decide) rfl), bc hb (cb 4 _ (by decide) rfl), bc hb (cb 5 _ (by decide) rfl), bc hb (cb 6 _ (by decide) rfl), bc hb (cb 7 _ (by decide) rfl), bc hb (cb 8 _ (by decide) rfl), bc hb (cb 9 _ (by decide) rfl), bc hb (cb 10 _ (by decide) rfl)⟩)
              have HSA := Lib.hid (fun W => show Calls Try.prog 24 #[.agg #[.int .i64 r.kind, .int .i64 r.mode, .int .i64 r.uid, .int .i64 r.gid, .string (bA r.data), .slice none 0 0, .slice none 0 0, .string (bA r.target)], .agg #[.int .i64 r.kind, .int .i64 r.mode, .int .i64 r.uid, .int .i64 r.gid, .string (bA r.data), .slice none 0 0, .slice none 0 0, .string (bA r.target)]] W (fun e w' => e = .returned (.bool true) ∧ Below W.heap.size W w') from by have h9 := rsame_any (ndOf r) (ndOf r) (.slice none 0 0) (.slice none 0 0) (.slice none 0 0) (.slice none 0 0) W (StrsR.nil _) (IntsR.nil _) (StrsR.nil _) (IntsR.nil _) (Nat.zero_le _) (Nat.zero_le _); rw [toB_true rfl] at h9; exact h9)
              have j0 : Below wr.heap.size wr wr.drew := (Below.refl _ _).drew
              have y1 : (r.parent != r.parent) = false := by simp
              have y2 : ((bA r.name).toList == (bA r.name).toList) = true := by simp
              have y3 : (r.node != r.node) = false := by simp
              clear hr ca cb hbk
              go_upto_region 23 with fail
              go_region_held3 (fun w' => w'.cell? ⟨ga, k * 11, none⟩ = some (.int .i64 r.kind) ∧ w'.cell? ⟨ga, k * 11 + 1, none⟩ = some (.int .i64 r.mode) ∧ w'.cell? ⟨ga, k * 11 + 2, none⟩ = some (.int .i64 r.uid) ∧ w'.cell? ⟨ga, k * 11 + 3, none⟩ = some (.int .i64 r.gid) ∧ w'.cell? ⟨ga, k * 11 + 4, none⟩ = some (.string (bA r.data)) ∧ w'.cell? ⟨ga, k * 11 + 5, none⟩ = some (.slice none 0 0) ∧ w'.cell? ⟨ga, k * 11 + 6, none⟩ = some (.slice none 0 0) ∧ w'.cell? ⟨ga, k * 11 + 7, none⟩ = some (.string (bA r.target)) ∧ w'.cell? ⟨ga, k * 11 + 8, none⟩ = some (.int .i64 r.parent) ∧ w'.cell? ⟨ga, k * 11 + 9, none⟩ = some (.string (bA r.name)) ∧ w'.cell? ⟨ga, k * 11 + 10, none⟩ = some (.int .i64 r.node) ∧ w'.cell? ⟨gb, k * 11, none⟩ = some (.int .i64 r.kind) ∧ w'.cell? ⟨gb, k * 11 + 1, none⟩ = some (.int .i64 r.mode) ∧ w'.cell? ⟨gb, k * 11 + 2, none⟩ = some (.int .i64 r.uid) ∧ w'.cell? ⟨gb, k * 11 + 3, none⟩ = some (.int .i64 r.gid) ∧ w'.cell? ⟨gb, k * 11 + 4, none⟩ = some (.string (bA r.data)) ∧ w'.cell? ⟨gb, k * 11 + 5, none⟩ = some (.slice none 0 0) ∧ w'.cell? ⟨gb, k * 11 + 6, none⟩ = some (.slice none 0 0) ∧ w'.cell? ⟨gb, k * 11 + 7, none⟩ = some (.string (bA r.target)) ∧ w'.cell? ⟨gb, k * 11 + 8, none⟩ = some (.int .i64 r.parent) ∧ w'.cell? ⟨gb, k * 11 + 9, none⟩ = some (.string (bA r.name)) ∧ w'.cell? ⟨gb, k * 11 + 10, none⟩ = some (.int .i64 r.node))
                (first | (with_reducible exact HPR.out _ j0) | (with_reducible exact HPR.out _ j1))
                (first
                | (go_at_call 24; (with_reducible refine (HSA.out _).mono ?_); rintro e1 w11 ⟨rfl, h1⟩; have j1 := bt h1 j0; clear h1))
              all_goals (
                have h193 := HLL2.out
                have jw : wrap64 ((k : Int) + 1) = (k : Int) + 1 := by unfold wrap64; omega
                go_wp2
                go_roundg (L.length - (k + 1))
                case measure => omega
                case rel => exact ⟨k + 1, by go_num, by omega, rfl, bt j1 HBK.out⟩)
            · have hlt' : ¬ (k : Int) < (L.length : Int) := by omega
              clear hbk
              go_wp2
              go_ret
              exact ⟨rfl, bt HBK.out HB9.out⟩
  · rw [toB_false hs] at HS
    clear hs
    go_enter Try.func6, Try.ntmps6
    go_wp2_with fail
    refine HA.out.mono ?_
    rintro e w1 ⟨rfl, hb1⟩
    have HB1 := Lib.hid hb1
    clear hb1
    go_wp2_with fail
    refine (HS.out _ HB1.out).mono ?_
    rintro e w2 ⟨rfl, hb2⟩
    have HB2 := Lib.hid (bt hb2 HB1.out)
    clear hb2
    go_wp2
    go_ret
    exact ⟨rfl, HB2.out⟩
end Go.Proofs.Ytnecnnajngfooaa
