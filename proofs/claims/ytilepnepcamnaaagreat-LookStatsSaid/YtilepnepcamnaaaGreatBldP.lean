/-
  entryNode, addRoot, addBelow, Build, of whatever is told. The conditions: names, data and targets are short, and a list is no longer than a machine can hold.
-/
import Derived.Test.YtilepnepcamnaaaGreatRaw
import Derived.Test.YtilepnepcamnaaaGreatWB
namespace Go.Proofs.YtilepnepcamnaaaGreat
open Go Go.RowKit
set_option maxRecDepth 100000

attribute [local go_sem] cell_off4 cell_blk4
theorem en_new {t : List Nd} {r : Rw} (h : ¬ r.kind = 4) (i : Int) : enE t r = addE t (toB (rightP r.nd)) ∧ enI t r = addI t (toB (rightP r.nd)) ∧ enT t r = actT t 1 i r.nd (toB (rightP r.nd)) := by
  have h1 : enE t r = addE t (toB (rightP r.nd)) := by unfold enE; rw [if_neg h]
  refine ⟨h1, ?_, ?_⟩
  · unfold enI
    rw [h1, if_neg h]
    unfold addI addE
    by_cases q : rightP r.nd
    · rw [toB_true q, if_neg (show ¬ (true = false) by decide), if_pos (show true = true from rfl)]
      by_cases q2 : freeT t 0 = 0
      · rw [if_pos q2, if_neg (show ¬ (28 : Int) = 0 by decide), q2]; rfl
      · rw [if_neg q2, if_pos rfl]
    · rw [toB_false q, if_pos rfl, if_neg (show ¬ (22 : Int) = 0 by decide), if_neg (show ¬ (false = true) by decide)]
  · unfold enT
    rw [h1, if_neg h]
    unfold actT addE
    rw [if_neg (show ¬ (1 : Int) = 0 by decide), if_pos rfl]
    by_cases q : rightP r.nd
    · rw [toB_true q, if_neg (show ¬ (true = false) by decide)]
      by_cases q2 : freeT t 0 = 0
      · rw [if_pos q2, if_neg (show ¬ (28 : Int) = 0 by decide), if_neg (fun h => h.2 q2)]
      · rw [if_neg q2, if_pos rfl, if_pos ⟨rfl, q2⟩]
    · rw [toB_false q, if_pos rfl, if_neg (show ¬ (22 : Int) = 0 by decide), if_neg (fun h => absurd h.1 (by decide))]
theorem ret_two {a b c d : Int} (h1 : a = c) (h2 : b = d) : Ending.returned (.tuple #[.int .i64 a, .int .i64 b]) = .returned (.tuple #[.int .i64 c, .int .i64 d]) := by rw [h1, h2]
set_option maxHeartbeats 4000000 in
theorem entry_any (g : Nat) (t : List Nd) (r : Rw) (A : Option Addr) (c : Nat) (w : World) (h : TabR w g t (fun _ => True)) (hd : BytesR w (.slice A r.data.length c) r.data) (hs : shortR r) :
    Calls Tryz.prog 66 #[.pointer (some ⟨g, 0, none⟩), .agg (rwC r (.slice A r.data.length c))] w fun e w' => e = .returned (.tuple #[.int .i64 (enI t r), .int .i64 (enE t r)]) ∧ TabR w' g (enT t r) (fun _ => True) ∧ w.grownBy w' (some g) := by
  obtain ⟨W1, hW1⟩ : ∃ W1, w.alloc (.cells (rwC r (.slice A r.data.length c)) 65) = W1 := ⟨_, rfl⟩
  have hb1 : Below w.heap.size w W1 := by rw [← hW1]; exact ba _ _
  have hk1 : Blk W1 w.heap.size 65 (rwC r (.slice A r.data.length c)) := by rw [← hW1]; exact Blk.new _ _ _
  have HB := Lib.hid hb1
  have HT := Lib.hid (h.below hb1)
  have HD := Lib.hid (hd.below hb1)
  have HK := Lib.hid hk1
  obtain ⟨p0, p1, p2, p3, p4, p5, p6, p7, p8⟩ := hk1.c9
  clear h hd hb1 hk1
  by_cases h4 : r.kind = 4
  · have e4 : (r.kind != 4) = false := by simpa using h4
    have HG := Lib.hid (get_any _ t r.node W1 HT.out.ptr)
    have hET : enT t r = t := by
      unfold enT
      rw [if_pos h4]
      split <;> rfl
    rw [hET]
    have HE := Lib.hid (show enE t r = if tis t r.node = false then 2 else if (tget t r.node).kind = 2 then 1 else 0 by unfold enE; rw [if_pos h4])
    have HI := Lib.hid (show enI t r = if enE t r = 0 then r.node else 0 by unfold enI; rw [if_pos h4])
    clear h4 hET
    generalize enE t r = X at HE HI ⊢
    generalize enI t r = I at HI ⊢
    generalize tget t r.node = n at HG HE
    go_enter Tryz.func66, Tryz.ntmps66
    go_wp2_with fail
    clear hW1
    refine HG.out.mono ?_
    rintro e w2 ⟨vd, ve, rfl, hd2, he2, -, -, hb2⟩
    obtain ⟨A5, k5, rfl⟩ := bytesT_form hd2
    obtain ⟨A6, k6, rfl⟩ := entsT_form he2
    have hkr := (HK.out.below hb2).alloc (.cells (ndC n (.slice A5 n.data.length k5) (.slice A6 n.ents.length k6)) 70)
    have hkn := Blk.new w2 70 (ndC n (.slice A5 n.data.length k5) (.slice A6 n.ents.length k6))
    have HB2 := Lib.hid (al (bt hb2 HB.out) (.cells (ndC n (.slice A5 n.data.length k5) (.slice A6 n.ents.length k6)) 70))
    have HT2 := Lib.hid (HT.out.below (al hb2 (.cells (ndC n (.slice A5 n.data.length k5) (.slice A6 n.ents.length k6)) 70)))
    obtain ⟨W3, hW3⟩ : ∃ W3, w2.alloc (.cells (ndC n (.slice A5 n.data.length k5) (.slice A6 n.ents.length k6)) 70) = W3 := ⟨_, rfl⟩
    rw [hW3] at hkr hkn HB2 HT2
    clear p0 p1 p2 p3 p4 p5 p6 p7 p8
    obtain ⟨p0, p1, p2, p3, p4, p5, p6, p7, p8⟩ := hkr.c9
    have n0 := hkn.c7.1
    clear hkr hkn hd2 he2 hb2
    unfold nodeV
    cases hX : tis t r.node
    · have hE := HE.out
      rw [hX, if_pos rfl] at hE
      have HI2 := Lib.hid (show (0 : Int) = I by rw [HI.out, hE]; rfl)
      have HE2 := Lib.hid hE.symm
      clear hE hX
      go_wp2
      go_ret2
      exact ⟨ret_two HI2.out HE2.out, HT2.out, grown_below HB2.out _⟩
    · have hE := HE.out
      rw [hX, if_neg (by decide)] at hE
      clear hX
      by_cases q : n.kind = 2
      · have e2 : (n.kind == 2) = true := by simpa using q
        rw [if_pos q] at hE
        have HI2 := Lib.hid (show (0 : Int) = I by rw [HI.out, hE]; rfl)
        have HE2 := Lib.hid hE.symm
        clear hE q
        go_wp2
        go_ret2
        exact ⟨ret_two HI2.out HE2.out, HT2.out, grown_below HB2.out _⟩
      · have e2 : (n.kind == 2) = false := by simpa using q
        rw [if_neg q] at hE
        have HI2 := Lib.hid (show r.node = I by rw [HI.out, hE]; rfl)
        have HE2 := Lib.hid hE.symm
        clear hE q
        go_wp2
        go_ret2
        exact ⟨ret_two HI2.out HE2.out, HT2.out, grown_below HB2.out _⟩
  · have e4 : (r.kind != 4) = true := by simpa using h4
    obtain ⟨h1, h2, h3⟩ := en_new (t := t) h4 0
    rw [h1, h2, h3]
    have HN := Lib.hid (nodeOf_any r A r.data.length c W1)
    have HA := Lib.hid (fun W (hb : Below W1.heap.size W1 W) => add_any g t (fun _ => True) r.nd (.slice A r.data.length c) (.slice none 0 0) W (HT.out.below hb) (HD.out.below hb) (EntsR.nil W) hs.few (fun _ _ => trivial) 0)
    clear h1 h2 h3 h4 hs
    go_enter Tryz.func66, Tryz.ntmps66
    go_wp2_with fail
    clear hW1
    refine HN.out.mono ?_
    rintro e w2 ⟨rfl, hb2⟩
    have HB2 := Lib.hid (bt hb2 HB.out)
    have HC := Lib.hid (HA.out w2 hb2)
    clear hb2 HA
    unfold nodeV at HC ⊢
    go_wp2_with fail
    refine HC.out.mono ?_
    rintro e w3 ⟨rfl, ht3, hg3⟩
    have HT3 := Lib.hid ht3
    have HG3 := Lib.hid (grown_trans (grown_below HB2.out (some g)) hg3)
    clear ht3 hg3
    go_wp2
    go_ret2
    exact ⟨rfl, HT3.out, HG3.out⟩
/-- Behind a change of one block, one is changed that was new. -/
theorem grown_new {a b c : World} {g d : Nat} (h : a.grownBy b (some g)) (h' : b.grownBy c (some d)) (hd : a.heap.size ≤ d) : a.grownBy c (some g) :=
  ⟨h'.os.trans h.os, h'.tape.trans h.tape, h'.output.trans h.output, Nat.le_trans h.size h'.size, fun i hi hne => (h'.block i (Nat.lt_of_lt_of_le hi h.size) (by intro e; injection e with e; omega)).trans (h.block i hi hne)⟩
set_option maxHeartbeats 4000000 in
theorem root_any (g : Nat) (t : List Nd) (r : Rw) (A : Option Addr) (c : Nat) (w : World) (h : TabR w g t (fun _ => True)) (hd : BytesR w (.slice A r.data.length c) r.data) (hs : shortR r) :
    Calls Tryz.prog 51 #[.pointer (some ⟨g, 0, none⟩), .agg (rwC r (.slice A r.data.length c))] w fun e w' => e = .returned (.int .i64 (rtE t r)) ∧ w.grownBy w' (some g) ∧ (rtE t r = 0 → TabR w' g (rtT t r) (fun _ => True)) := by
  obtain ⟨W1, hW1⟩ : ∃ W1, w.alloc (.cells (rwC r (.slice A r.data.length c)) 65) = W1 := ⟨_, rfl⟩
  have hb1 : Below w.heap.size w W1 := by rw [← hW1]; exact ba _ _
  have hk1 : Blk W1 w.heap.size 65 (rwC r (.slice A r.data.length c)) := by rw [← hW1]; exact Blk.new _ _ _
  have HB := Lib.hid hb1
  have HT := Lib.hid (h.below hb1)
  have HD := Lib.hid (hd.below hb1)
  obtain ⟨p0, p1, p2, p3, p4, p5, p6, p7, p8⟩ := hk1.c9
  clear h hd hb1 hk1
  have HN := Lib.hid (nodeOf_any r A r.data.length c W1)
  have HA := Lib.hid (fun W (hb : Below W1.heap.size W1 W) => add_any g t (fun _ => True) r.nd (.slice A r.data.length c) (.slice none 0 0) W (HT.out.below hb) (HD.out.below hb) (EntsR.nil W) hs.few (fun _ _ => trivial) 0)
  by_cases q : r.kind ≠ 2 ∨ r.parent ≠ 0 ∨ r.name ≠ []
  · have hE : rtE t r = 22 := by unfold rtE; rw [if_pos q]
    rw [hE]
    have HX := Lib.hid (show (22 : Int) = 0 → ∀ W, TabR W g (rtT t r) (fun _ => True) from fun h => absurd h (by decide))
    clear hE hs HN HA
    by_cases q1 : r.kind = 2
    · have e1 : (r.kind != 2) = false := by simpa using q1
      by_cases q2 : r.parent = 0
      · have e2 : (r.parent != 0) = false := by simpa using q2
        have q3 : r.name ≠ [] := by
          rcases q with q | q | q
          · exact absurd q1 q
          · exact absurd q2 q
          · exact q
        have e3 : ((bA r.name).toList == ([] : List UInt8)) = false := by
          rw [Bool.eq_false_iff]
          intro h
          exact q3 ((len0_iff _).1 h)
        have e4 : ((bA r.name).toList != ([] : List UInt8)) = true := by
          show (!((bA r.name).toList == ([] : List UInt8))) = true
          rw [e3]; rfl
        clear q q1 q2 q3
        go_enter Tryz.func51, Tryz.ntmps51
        go_wp2
        go_ret
        exact ⟨rfl, grown_below HB.out _, fun h => HX.out h _⟩
      · have e2 : (r.parent != 0) = true := by simpa using q2
        clear q q1 q2
        go_enter Tryz.func51, Tryz.ntmps51
        go_wp2
        go_ret
        exact ⟨rfl, grown_below HB.out _, fun h => HX.out h _⟩
    · have e1 : (r.kind != 2) = true := by simpa using q1
      clear q q1
      go_enter Tryz.func51, Tryz.ntmps51
      go_wp2
      go_ret
      exact ⟨rfl, grown_below HB.out _, fun h => HX.out h _⟩
  · have hE : rtE t r = addE t (toB (rightP r.nd)) := by unfold rtE; rw [if_neg q]
    have q1 : r.kind = 2 := Classical.byContradiction (fun z => q (.inl z))
    have q2 : r.parent = 0 := Classical.byContradiction (fun z => q (.inr (.inl z)))
    have q3 : r.name = [] := Classical.byContradiction (fun z => q (.inr (.inr z)))
    have e1 : (r.kind != 2) = false := by simpa using q1
    have e2 : (r.parent != 0) = false := by simpa using q2
    have e3 : ((bA r.name).toList == ([] : List UInt8)) = true := (len0_iff _).2 q3
    have e4 : ((bA r.name).toList != ([] : List UInt8)) = false := by
      show (!((bA r.name).toList == ([] : List UInt8))) = false
      rw [e3]; rfl
    rw [hE]
    have HX := Lib.hid (show addE t (toB (rightP r.nd)) = 0 → rtT t r = actT t 1 0 r.nd (toB (rightP r.nd)) from fun h => by
      obtain ⟨h1, h2⟩ := addE_zero.1 h
      unfold rtT actT
      rw [if_neg (show ¬ (1 : Int) = 0 by decide), if_pos rfl, toB_true h1, if_pos ⟨rfl, h2⟩])
    clear q q1 q2 q3 hE hs
    go_enter Tryz.func51, Tryz.ntmps51
    go_wp2_with fail
    clear hW1
    refine HN.out.mono ?_
    rintro e w2 ⟨rfl, hb2⟩
    have HB2 := Lib.hid (bt hb2 HB.out)
    have HC := Lib.hid (HA.out w2 hb2)
    clear hb2 HA
    unfold nodeV at HC ⊢
    go_wp2_with fail
    refine HC.out.mono ?_
    rintro e w3 ⟨rfl, ht3, hg3⟩
    have HT3 := Lib.hid ht3
    have HG3 := Lib.hid (grown_trans (grown_below HB2.out (some g)) hg3)
    clear ht3 hg3
    go_wp2
    go_ret
    exact ⟨rfl, HG3.out, fun h => by rw [HX.out h]; exact HT3.out⟩
theorem EntsT.not {w : World} {g : Nat} {v : Value} {l : List En} {t : TypeId} {cs : Array Value} (h : EntsT w v l) (hk : Blk w g t cs) (hne : 103 ≠ t) : ∀ (ad : Addr) (n c : Nat), v = .slice (some ad) n c → ad.block ≠ g := fun ad n c hv => by
  obtain ⟨ds, hb⟩ := h.2 ad n c hv
  exact blk_ne hb hk hne
set_option maxHeartbeats 8000000 in
theorem below_any (g : Nat) (t : List Nd) (r : Rw) (A : Option Addr) (c : Nat) (w : World) (h : TabR w g t (fun _ => True)) (hd : BytesR w (.slice A r.data.length c) r.data) (hs : shortR r) :
    Calls Tryz.prog 50 #[.pointer (some ⟨g, 0, none⟩), .agg (rwC r (.slice A r.data.length c))] w fun e w' => e = .returned (.int .i64 (blE t r)) ∧ w.grownBy w' (some g) ∧ (blE t r = 0 → TabR w' g (blT t r) (fun _ => True)) := by
  obtain ⟨W1, hW1⟩ : ∃ W1, w.alloc (.cells (rwC r (.slice A r.data.length c)) 65) = W1 := ⟨_, rfl⟩
  have hb1 : Below w.heap.size w W1 := by rw [← hW1]; exact ba _ _
  have hk1 : Blk W1 w.heap.size 65 (rwC r (.slice A r.data.length c)) := by rw [← hW1]; exact Blk.new _ _ _
  have HGW := Lib.hid h.lt
  have HB := Lib.hid hb1
  have HT := Lib.hid (h.below hb1)
  have HDD := Lib.hid (show BytesR W1 (.slice A r.data.length c) r.data from hd.below hb1)
  have HK := Lib.hid hk1
  have HGW1 := Lib.hid hk1.lt
  have HS := Lib.hid hs
  obtain ⟨p0, p1, p2, p3, p4, p5, p6, p7, p8⟩ := hk1.c9
  have HG := Lib.hid (get_any _ t r.parent W1 HT.out.ptr)
  have HFD := Lib.hid (ok_few h.ok r.parent)
  have HRT := Lib.hid (show tis t r.parent = true → enE t r = 0 → withE (tget t r.parent) r.name (enI t r) = 0 → rightP (withM (tget t r.parent) r.name (enI t r)) from fun h1 _ h3 => (right_with (tis_right h.ok h1) h3).1)
  have HBL := Lib.hid (show blE t r = if tis t r.parent = false then 2 else if enE t r = 0 then withE (tget t r.parent) r.name (enI t r) else enE t r from rfl)
  have HBT := Lib.hid (show tis t r.parent = true → rightP (withM (tget t r.parent) r.name (enI t r)) → actT (enT t r) 0 r.parent (withM (tget t r.parent) r.name (enI t r)) (toB (rightP (withM (tget t r.parent) r.name (enI t r)))) = blT t r ∧ putE (enT t r) r.parent (toB (rightP (withM (tget t r.parent) r.name (enI t r)))) = 0 from fun h1 h2 => by
    have h3 : tis (enT t r) r.parent = true := en_tis h1
    constructor
    · unfold actT blT
      rw [if_pos rfl, if_pos ⟨h3, toB_true h2⟩]
    · unfold putE
      rw [h3, toB_true h2]
      rfl)
  have HEN := Lib.hid (fun W (ht : TabR W g t (fun _ => True)) (hb : BytesR W (.slice A r.data.length c) r.data) => entry_any g t r A c W ht hb HS.out)
  generalize blE t r = Z at HBL ⊢
  generalize blT t r = T2 at HBT ⊢
  generalize enE t r = X at HRT HBL HEN
  generalize enI t r = I at HRT HBL HBT HEN
  generalize enT t r = T1 at HBT HEN
  clear h hd hb1 hk1 hs
  obtain ⟨n, hn⟩ : ∃ n, tget t r.parent = n := ⟨_, rfl⟩
  rw [hn] at HG HRT HBL HBT HFD
  go_enter Tryz.func50, Tryz.ntmps50
  go_wp2_with fail
  clear hW1 hn
  refine HG.out.mono ?_
  rintro e w2 ⟨vd, ve, rfl, hd2, he2, hl2, hm2, hb2⟩
  obtain ⟨A5, k5, rfl⟩ := bytesT_form hd2
  obtain ⟨A6, k6, rfl⟩ := entsT_form he2
  have hbx := al hb2 (.cells (ndC n (.slice A5 n.data.length k5) (.slice A6 n.ents.length k6)) 70)
  have hbw := ba w2 (.cells (ndC n (.slice A5 n.data.length k5) (.slice A6 n.ents.length k6)) 70)
  have hkr := HK.out.below hbx
  have hkn := Blk.new w2 70 (ndC n (.slice A5 n.data.length k5) (.slice A6 n.ents.length k6))
  have hd3 := hd2.below hbw
  have he3 := he2.below hbw
  have ht3 := HT.out.below hbx
  have hdd3 := HDD.out.below hbx
  have HB3 := Lib.hid (bt hbx HB.out)
  obtain ⟨d, hdz⟩ : ∃ d, w2.heap.size = d := ⟨_, rfl⟩
  have HDG := Lib.hid (show d ≠ g ∧ w.heap.size < d by have := HGW.out; have := HGW1.out; have := hb2.size; constructor <;> omega)
  obtain ⟨W3, hW3⟩ : ∃ W3, w2.alloc (.cells (ndC n (.slice A5 n.data.length k5) (.slice A6 n.ents.length k6)) 70) = W3 := ⟨_, rfl⟩
  rw [hW3] at hkr hkn hd3 he3 ht3 hdd3 HB3
  rw [hdz] at hkn
  have HKR := Lib.hid hkr
  have HKN := Lib.hid hkn
  have HD3 := Lib.hid hd3
  have HE3 := Lib.hid he3
  have HC3 := Lib.hid (HEN.out W3 ht3 hdd3)
  have HL2 := Lib.hid (show (∀ (ad : Addr) (m c : Nat), Value.slice A5 n.data.length k5 = .slice (some ad) m c → ad.block ≠ g) ∧ (∀ (ad : Addr) (m c : Nat), Value.slice A6 n.ents.length k6 = .slice (some ad) m c → ad.block ≠ g) from
    ⟨fun ad m c hv => by have h1 := hl2 ad m c hv; have := HGW.out; have := HB.out.size; omega, fun ad m c hv => by have h1 := hm2 ad m c hv; have := HGW.out; have := HB.out.size; omega⟩)
  clear p0 p1 p2 p3 p4 p5 p6 p7 p8
  obtain ⟨p0, p1, p2, p3, p4, p5, p6, p7, p8⟩ := hkr.c9
  clear hkr hkn hd2 he2 hb2 hbx hbw hd3 he3 ht3 hdd3 hl2 hm2 HG HEN HT HDD HK
  unfold nodeV
  cases hX : tis t r.parent
  · have hZ := HBL.out
    rw [hX, if_pos rfl] at hZ
    have HZ := Lib.hid hZ.symm
    clear hZ hX
    go_wp2
    go_ret
    exact ⟨ret_int HZ.out, grown_below HB3.out _, fun h => by rw [← HZ.out] at h; exact absurd h (by decide)⟩
  · have hZ := HBL.out
    rw [hX, if_neg (by decide)] at hZ
    have HBT2 := Lib.hid (HBT.out hX)
    have HRT2 := Lib.hid (HRT.out hX)
    clear hX HBL HBT HRT
    go_wp2_with fail
    clear hW3 hdz
    refine HC3.out.mono ?_
    rintro e w4 ⟨rfl, ht4, hg4⟩
    have hkr4 := HKR.out.kept hg4 (by intro e; injection e with e; have := HGW.out; omega)
    have hkn4 := HKN.out.kept hg4 (by intro e; injection e with e; exact HDG.out.1 e)
    have hd4 := HD3.out.other hg4 HL2.out.1
    have he4 := HE3.out.other hg4 HL2.out.2
    have hgw4 := grown_trans (grown_below HB3.out (some g)) hg4
    have HGW4 := Lib.hid hgw4
    have HKR4 := Lib.hid hkr4
    have HKN4 := Lib.hid hkn4
    have HT4 := Lib.hid ht4
    clear p0 p1 p2 p3 p4 p5 p6 p7 p8
    obtain ⟨p0, p1, p2, p3, p4, p5, p6, p7, p8⟩ := hkr4.c9
    obtain ⟨n0, n1, n2, n3, n4, n5, n6⟩ := hkn4.c7
    by_cases qX : X = 0
    · subst qX
      rw [if_pos rfl] at hZ
      have HC5 := Lib.hid (with_anyT n _ _ r.name I w4 hd4.1 he4.1 HFD.out.data HFD.out.ents (by have := HS.out.1; omega))
      have HRT3 := Lib.hid (HRT2.out rfl)
      clear hkr4 hkn4 hd4 he4 ht4 hg4 hgw4 HC3 HD3 HE3 HKR HKN HRT2
      rw [← hZ] at HC5 HRT3
      generalize withM n r.name I = N at HC5 HRT3 HBT2
      unfold nodeV at HC5
      go_wp2_with fail
      refine HC5.out.mono ?_
      rintro e w5 ⟨v, rfl, ⟨vd5, ve5, rfl, hx5, hy5⟩, hb5⟩
      obtain ⟨A7, k7, rfl⟩ := bytesX_form hx5
      obtain ⟨A8, k8, rfl⟩ := entsT_form hy5
      have hkr5 := HKR4.out.below hb5
      have hkn5 := HKN4.out.below hb5
      obtain ⟨W6, hW6⟩ : ∃ W6, put7 w5 d (.int .i64 N.kind) (.int .i64 N.mode) (.int .i64 N.uid) (.int .i64 N.gid) (.slice A7 N.data.length k7) (.slice A8 N.ents.length k8) (.string (bA N.target)) = W6 := ⟨_, rfl⟩
      have hg6 : w5.grownBy W6 (some d) := by rw [← hW6]; exact grown7 _ _ _ _ _ _ _ _ _
      have hkn6 : Blk W6 d 70 (ndC N (.slice A7 N.data.length k7) (.slice A8 N.ents.length k8)) := by rw [← hW6]; exact hkn5.put7 _ _ _ _ _ _ _
      have hkr6 := hkr5.kept hg6 (by intro e; injection e with e; have := HDG.out.2; omega)
      have HT6 := Lib.hid ((HT4.out.below hb5).kind hg6 (fun e => HDG.out.1 e.symm) hkn5 (by decide) (by decide))
      have HX6 := Lib.hid (hx5.kept hkn5 (by decide) hg6)
      have HY6 := Lib.hid (hy5.kept hkn5 (by decide) hg6)
      have HGW6 := Lib.hid (show w.grownBy W6 (some g) from grown_new (grown_trans HGW4.out (grown_below hb5 (some g))) hg6 (Nat.le_of_lt HDG.out.2))
      clear n0 n1 n2 n3 n4 n5 n6 p0 p1 p2 p3 p4 p5 p6 p7 p8
      obtain ⟨f0, f1, f2, f3, f4, f5, f6⟩ := hkn5.f7
      obtain ⟨m0, m1, m2, m3, m4, m5, m6⟩ := hkn5.c7
      obtain ⟨n0, n1, n2, n3, n4, n5, n6⟩ := hkn6.c7
      obtain ⟨p0, p1, p2, p3, p4, p5, p6, p7, p8⟩ := hkr6.c9
      unfold put7 at hW6
      clear hkr5 hkn5 hkn6 hkr6 hx5 hy5 hb5 hg6 HC5 HKR4 HKN4 HT4
      unfold nodeV
      by_cases qZ : Z = 0
      · have eZ : (Z != 0) = false := by simpa using qZ
        have HRN := Lib.hid (HRT3.out qZ)
        have HPT := Lib.hid (HBT2.out HRN.out)
        have HC7 := Lib.hid (put_any g T1 (fun _ => True) r.parent N _ _ W6 HT6.out HX6.out.bytes HY6.out.1 (right_few HRN.out) (fun _ _ => trivial))
        rw [HPT.out.1, HPT.out.2] at HC7
        unfold nodeV at HC7
        have HZ := Lib.hid qZ
        clear qZ hZ HRT3 HBT2
        go_wp2_with fail
        clear hW6
        refine HC7.out.mono ?_
        rintro e w7 ⟨rfl, ht7, hg7⟩
        have HT7 := Lib.hid ht7
        have HG7 := Lib.hid (grown_trans HGW6.out hg7)
        clear ht7 hg7
        go_wp2
        go_ret
        exact ⟨ret_int HZ.out.symm, HG7.out, fun _ => HT7.out⟩
      · have eZ : (Z != 0) = true := by simpa using qZ
        have HZ := Lib.hid qZ
        clear qZ hZ HBT2 HRT3
        go_wp2
        go_ret
        exact ⟨rfl, HGW6.out, fun h => absurd h HZ.out⟩
    · rw [if_neg qX] at hZ
      subst hZ
      have eX : (Z != 0) = true := by simpa using qX
      have HX := Lib.hid qX
      clear qX hkr4 hkn4 hd4 he4 ht4 hg4 hgw4 HC3 HRT2 HBT2
      go_wp2
      go_ret
      exact ⟨rfl, HGW4.out, fun h => absurd h HX.out⟩
end Go.Proofs.YtilepnepcamnaaaGreat
