/-
  The walk of LookBelow: it answers true of whatever is told, of any who ask, of any path. The condition: what is told is no longer than a machine can hold.
-/
import Derived.Test.YtilepnepcamnaaaGreatLkK
import Derived.Test.YtilepnepcamnaaaGreatRsB
import Derived.Test.YtilepnepcamnaaaGreatLkX
import Derived.Test.YtilepnepcamnaaaGreatRsJ
import Derived.Deep.RegionWith
import Derived.Deep.DeepCutAuto
import Derived.Deep.RegionHeld3
namespace Go.Proofs.YtilepnepcamnaaaGreat
open Go Go.RowKit
set_option maxRecDepth 100000

attribute [local go_sem] cell_off4 cell_blk4
attribute [local go_sem] eq_stat
theorem ok_name {t : List Nd} (h : okT t) {i : Int} {e : En} (he : e ∈ (tget t i).ents) : e.1.length ≤ 12 := by
  rcases ok_tget h i with q | q
  · rw [q] at he
    cases he
  · rcases q.2 with q | q | q
    · rw [q.2.1] at he; cases he
    · have := (nok_nok (q.2.2.2.1 e he).1).len
      omega
    · rw [q.2.2.1] at he; cases he
theorem lst_bound {t : List Nd} (h : okT t) (c : Wh) (p : Nm) : (∀ n ∈ (lstM t c p).1, n.length ≤ 12) ∧ (lstM t c p).1.length ≤ 12 := by
  have hz : (∀ n ∈ ([] : List Nm), n.length ≤ 12) ∧ ([] : List Nm).length ≤ 12 := ⟨(fun n hn => by cases hn), Nat.zero_le _⟩
  unfold lstM
  split
  · exact hz
  · split
    · exact hz
    · split
      · exact hz
      · refine ⟨fun n hn => ?_, by rw [len_nmE]; exact (ok_rise h _).2⟩
        obtain ⟨e, he, rfl⟩ := List.mem_map.1 hn
        exact ok_name h he
theorem putS_below {W w8 : World} {d : Nat} (S : Sta) (h : Below W.heap.size W w8) (hd : W.heap.size ≤ d) : Below W.heap.size W (((((((w8.setCell ⟨d, 0, none⟩ (.int .i64 S.node)).setCell ⟨d, 1, none⟩ (.int .i64 S.kind)).setCell ⟨d, 2, none⟩ (.int .i64 S.mode)).setCell ⟨d, 3, none⟩ (.int .i64 S.uid)).setCell ⟨d, 4, none⟩ (.int .i64 S.gid)).setCell ⟨d, 5, none⟩ (.int .i64 S.links)).setCell ⟨d, 6, none⟩ (.int .i64 S.size)) := below_grown h (grown7 w8 d _ _ _ _ _ _ _) hd
/-- A box of what is told, behind some steps. -/
structure Bs (w wx : World) (d : Nat) (S : Sta) : Prop where
  blk : Blk wx d 35 (stC S)
  below : Below w.heap.size w wx
theorem Bs.fresh {w w8 : World} {S : Sta} (h : Below w.heap.size w w8) : Bs w (w8.alloc (.cells #[.int .i64 S.node, .int .i64 S.kind, .int .i64 S.mode, .int .i64 S.uid, .int .i64 S.gid, .int .i64 S.links, .int .i64 S.size] 35)) w8.heap.size S := ⟨Blk.new _ _ _, al h _⟩
theorem Bs.put {w w8 : World} {d : Nat} {S : Sta} (hk : Blk w8 d 35 #[.int .i64 0, .int .i64 0, .int .i64 0, .int .i64 0, .int .i64 0, .int .i64 0, .int .i64 0]) (h : Below w.heap.size w w8) (hd : w.heap.size ≤ d) : Bs w (((((((w8.setCell ⟨d, 0, none⟩ (.int .i64 S.node)).setCell ⟨d, 1, none⟩ (.int .i64 S.kind)).setCell ⟨d, 2, none⟩ (.int .i64 S.mode)).setCell ⟨d, 3, none⟩ (.int .i64 S.uid)).setCell ⟨d, 4, none⟩ (.int .i64 S.gid)).setCell ⟨d, 5, none⟩ (.int .i64 S.links)).setCell ⟨d, 6, none⟩ (.int .i64 S.size)) d S :=
  ⟨hk.put7 _ _ _ _ _ _ _, putS_below S h hd⟩
set_option maxHeartbeats 8000000 in
theorem lbelow_any (x0 : Int) (v1 : Value) (l : List Rw) (c : Wh) (A0 : Option Addr) (n0 k0 : Nat) (s : ByteArray) (w : World) (h1 : RawsR w v1 l) (hl1 : l.length ≤ maxLen) (h2 : IntsR w (.slice A0 n0 k0) c.gs) :
    Calls Tryz.prog 6 #[.int .i64 x0, v1, .agg #[.int .i64 c.u, .int .i64 c.g, .slice A0 n0 k0], .string s] w fun e w' => e = .returned (.bool true) ∧ Below w.heap.size w w' := by
  have hb0 := ba w (.cells #[.int .i64 c.u, .int .i64 c.g, .slice A0 n0 k0] 25)
  have hk0 := Blk.new w 25 #[.int .i64 c.u, .int .i64 c.g, .slice A0 n0 k0]
  obtain ⟨W1, hW1⟩ : ∃ W1, w.alloc (.cells #[.int .i64 c.u, .int .i64 c.g, .slice A0 n0 k0] 25) = W1 := ⟨_, rfl⟩
  rw [hW1] at hb0 hk0
  have HA := Lib.hid (awake12_any W1)
  have HR := Lib.hid (h1.below hb0)
  have HI := Lib.hid (h2.below hb0)
  have HL := Lib.hid hl1
  have HB0 := Lib.hid hb0
  have HK0 := Lib.hid hk0
  clear h1 h2 hl1 hb0 hk0
  go_enter Tryz.func6, Tryz.ntmps6
  go_wp2_with fail
  clear hW1
  refine HA.out.mono ?_
  rintro e w2 ⟨rfl, hb2⟩
  have hk2 := HK0.out.below hb2
  have HB2 := Lib.hid (bt hb2 HB0.out)
  have HK2 := Lib.hid hk2
  have HI2 := Lib.hid (HI.out.below hb2)
  have HBL := Lib.hid (built_any x0 v1 l c A0 n0 k0 w2 (HR.out.below hb2) HL.out HI2.out)
  obtain ⟨k0', k1, k2⟩ := hk2.c3
  clear hb2 hk2 HA HK0 HI HR HB0
  go_wp2_with fail
  refine HBL.out.mono ?_
  rintro e w3 ⟨hans, hb3⟩
  have HB3 := Lib.hid (bt hb3 HB2.out)
  have hk3 := HK2.out.below hb3
  have HI3 := Lib.hid (HI2.out.below hb3)
  clear k0' k1 k2 hb3 HBL
  rcases hans with ⟨rfl, -⟩ | ⟨g, T, rfl, hB, hT⟩
  · clear hk3
    go_wp2
    go_ret
    exact ⟨rfl, HB3.out⟩
  have HTT := Lib.hid hT
  have HT3 := Lib.hid hT.ptr
  have HTR := Lib.hid ((tre_all hB.2).1)
  have HCR3 := Lib.hid (show CrR w3 c A0 n0 k0 from ⟨HI3.out, by have := hB.1.2; omega⟩)
  have HK3 := Lib.hid hk3
  obtain ⟨k0', k1, k2⟩ := hk3.c3
  clear hT hB hk3 HK2 HI2 HB2
  by_cases ha : 40 < s.size
  · have ya : (s.size : Int) > 40 := by omega
    clear ha
    go_wp2
    go_ret
    exact ⟨rfl, HB3.out⟩
  have ya : ¬ (s.size : Int) > 40 := by omega
  have hs40 : s.size ≤ 40 := by omega
  have hl40 : (tl s).length ≤ 40 := by rw [tl_len]; exact hs40
  clear ha
  obtain ⟨LE, hLE⟩ : ∃ LE, lstM T c (tl s) = LE := ⟨_, rfl⟩
  obtain ⟨N, E⟩ := LE
  have HLS := Lib.hid (show ∀ W, Below w3.heap.size w3 W → Calls Tryz.prog 21 #[.pointer (some ⟨g, 0, none⟩), .agg #[.int .i64 c.u, .int .i64 c.g, .slice A0 n0 k0], .string s] W fun e w' => ∃ u, e = .returned (.tuple #[u, .int .i64 E]) ∧ StrsR w' u (nmA N) ∧ Below W.heap.size W w' from fun W hb => by have h1 := list_any _ T c A0 n0 k0 (tl s) W (HT3.out.below hb) (HCR3.out.below hb) (N, E) hLE; rw [bA_tl] at h1; exact h1)
  have HNO := Lib.hid (fun (q : E ≠ 0) => show N = [] from by have h := lst_none (t := T) (c := c) (p := tl s) (by rw [hLE]; exact q); rw [hLE] at h; exact h)
  have HYE := Lib.hid (fun (q : E = 0) => show ∃ S : Sta, staM T c (tl s) true = (S, 0) ∧ S.kind = 2 ∧ S.size = (N.length : Int) ∧ ∀ n ∈ N, ∃ a : Sta, (a.node ≠ 0 ∧ 1 ≤ a.links) ∧ staM T wh0 (joinP (tl s) n) false = (a, 0) ∧ (staM T c (joinP (tl s) n) false = (Sta.zero, 13) ∨ staM T c (joinP (tl s) n) false = (a, 0)) from by have h := lst_some HTR.out (c := c) (p := tl s) hl40 (by rw [hLE]; exact q); rw [hLE] at h; exact h)
  have HNB := Lib.hid (show (∀ n ∈ N, n.length ≤ 12) ∧ N.length ≤ 12 from by have h := lst_bound HTR.out.ok c (tl s); rw [hLE] at h; exact h)
  have hN12 : N.length ≤ 12 := HNB.out.2
  clear hLE HTT HI3
  go_wp2_with fail
  refine (HLS.out _ (Below.refl _ _)).mono ?_
  rintro e w4 ⟨u, rfl, hu, hb⟩
  have J4 := Lib.hid hb
  have HK4 := Lib.hid (HK3.out.below hb)
  have HU4 := Lib.hid hu
  obtain ⟨A7, k7, rfl⟩ := strs_form hu (nmA_len N)
  clear hb hu HLS k0' k1 k2
  by_cases qE : E = 0
  · have e1 : (E != 0) = false := by simpa using qE
    obtain ⟨S, hS, hSk, hSz, hall⟩ := HYE.out qE
    have HST := Lib.hid (show ∀ W, Below w3.heap.size w3 W → Calls Tryz.prog 12 #[.pointer (some ⟨g, 0, none⟩), .agg #[.int .i64 c.u, .int .i64 c.g, .slice A0 n0 k0], .string s] W fun e w' => e = .returned (.tuple #[.agg #[.int .i64 S.node, .int .i64 S.kind, .int .i64 S.mode, .int .i64 S.uid, .int .i64 S.gid, .int .i64 S.links, .int .i64 S.size], .int .i64 0]) ∧ Below W.heap.size W w' from fun W hb => by have h1 := stat_any _ T c A0 n0 k0 (tl s) W (HT3.out.below hb) (HCR3.out.below hb) (S, 0) hS; rw [bA_tl] at h1; exact h1)
    have HALL := Lib.hid hall
    have e2 : (S.kind != 2) = false := by simp [hSk]
    have e3 : (S.size != (N.length : Int)) = false := by simp [hSz]
    clear hS hSk hSz hall HNO HYE qE
    obtain ⟨k0', k1, k2⟩ := HK4.out.c3
    go_wp2_with fail
    refine (HST.out _ J4.out).mono ?_
    rintro e w5 ⟨rfl, hb⟩
    have hbx := al hb (.cells #[.int .i64 S.node, .int .i64 S.kind, .int .i64 S.mode, .int .i64 S.uid, .int .i64 S.gid, .int .i64 S.links, .int .i64 S.size] 35)
    have hs5 := Blk.new w5 35 #[.int .i64 S.node, .int .i64 S.kind, .int .i64 S.mode, .int .i64 S.uid, .int .i64 S.gid, .int .i64 S.links, .int .i64 S.size]
    obtain ⟨W5, hW5⟩ : ∃ W5, w5.alloc (.cells #[.int .i64 S.node, .int .i64 S.kind, .int .i64 S.mode, .int .i64 S.uid, .int .i64 S.gid, .int .i64 S.links, .int .i64 S.size] 35) = W5 := ⟨_, rfl⟩
    rw [hW5] at hbx hs5
    have J5 := Lib.hid (bt hbx J4.out)
    have HK5 := Lib.hid (HK4.out.below hbx)
    have HU5 := Lib.hid (HU4.out.below hbx)
    clear hb hbx HST k0' k1 k2
    obtain ⟨a0, a1, a2, a3, a4, a5, a6⟩ := hs5.c7
    clear hs5
    go_wp2
    clear hW5 a0 a1 a2 a3 a4 a5 a6
    go_loopg [16] N.length (fun gh s16 wr => ∃ i : Nat, s16 = .int .i64 i ∧ i ≤ N.length ∧ gh = N.length - i ∧ Below W5.heap.size W5 wr)
    case atStart => exact ⟨0, rfl, Nat.zero_le _, rfl, Below.refl _ _⟩
    case round =>
      obtain ⟨i, rfl, hi, rfl, hbr⟩ := hrel
      have JR := Lib.hid (bt hbr J5.out)
      have HKR := Lib.hid (HK5.out.below hbr)
      have HUR := Lib.hid (HU5.out.below hbr)
      have HBR := Lib.hid hbr
      clear hbr
      by_cases hlt : i < N.length
      · have hlt' : (i : Int) < (N.length : Int) := by omega
        have HLT := Lib.hid hlt
        obtain ⟨n, hn⟩ : ∃ n, N[i]? = some n := ⟨_, List.getElem?_eq_getElem hlt⟩
        obtain ⟨ad, hA, c0⟩ := strs_get HUR.out (nmA_at hn)
        subst hA
        obtain ⟨a, ⟨ha1, ha2⟩, hr0, hrc⟩ := HALL.out n (List.mem_of_getElem? hn)
        have HJ := Lib.hid (fun (W : World) => show Calls Tryz.prog 26 #[.string s, .string (bA n)] W fun e w' => e = .returned (.string (bA (joinP (tl s) n))) ∧ Below W.heap.size W w' from join_any s (bA n) W (by omega) (by rw [size_bA]; have := HNB.out.1 n (List.mem_of_getElem? hn); omega))
        obtain ⟨U, hU⟩ : ∃ U, joinP (tl s) n = U := ⟨_, rfl⟩
        rw [hU] at HJ hr0 hrc
        obtain ⟨GH, hGH⟩ : ∃ GH, staM T c U false = GH := ⟨_, rfl⟩
        obtain ⟨G, H⟩ := GH
        rw [hGH] at hrc
        have HLC := Lib.hid (show ∀ W, Below wr.heap.size wr W → Calls Tryz.prog 15 #[.pointer (some ⟨g, 0, none⟩), .agg #[.int .i64 c.u, .int .i64 c.g, .slice A0 n0 k0], .string (bA U)] W fun e w' => e = .returned (.tuple #[.agg #[.int .i64 G.node, .int .i64 G.kind, .int .i64 G.mode, .int .i64 G.uid, .int .i64 G.gid, .int .i64 G.links, .int .i64 G.size], .int .i64 H]) ∧ Below W.heap.size W w' from fun W hb => lstat_any _ T c A0 n0 k0 U W (HT3.out.below (bt hb JR.out)) (HCR3.out.below (bt hb JR.out)) (G, H) hGH)
        have HLR := Lib.hid (show ∀ W, Below wr.heap.size wr W → Calls Tryz.prog 15 #[.pointer (some ⟨g, 0, none⟩), .agg #[.int .i64 0, .int .i64 0, .slice none 0 0], .string (bA U)] W fun e w' => e = .returned (.tuple #[.agg #[.int .i64 a.node, .int .i64 a.kind, .int .i64 a.mode, .int .i64 a.uid, .int .i64 a.gid, .int .i64 a.links, .int .i64 a.size], .int .i64 0]) ∧ Below W.heap.size W w' from fun W hb => lstat_any _ T wh0 none 0 0 U W (HT3.out.below (bt hb JR.out)) (crr_nil W wh0 rfl) (a, 0) hr0)
        have HCS := Lib.hid (show (H = 13 ∨ (H = 0 ∧ G = a)) ∧ a.node ≠ 0 ∧ 1 ≤ a.links from ⟨by
          rcases hrc with h | h
          · injection h with h1 h2
            exact .inl h2
          · injection h with h1 h2
            exact .inr ⟨h2, h1⟩, ha1, ha2⟩)
        clear hU hGH hrc hr0 ha1 ha2 hn
        obtain ⟨k0', k1, k2⟩ := HKR.out.c3
        have zC := HKR.out.lt
        have q0 : wr.drew.cell? ⟨w.heap.size, 0, none⟩ = some (.int .i64 c.u) := k0'
        have q1 : wr.drew.cell? ⟨w.heap.size, 1, none⟩ = some (.int .i64 c.g) := k1
        have q2 : wr.drew.cell? ⟨w.heap.size, 2, none⟩ = some (.slice A0 n0 k0) := k2
        have q3 : wr.drew.cell? (ad.add i) = some (.string (bA n)) := c0
        have a0 : (wr.alloc (.cells #[.int .i64 0, .int .i64 0, .int .i64 0, .int .i64 0, .int .i64 0, .int .i64 0, .int .i64 0] 35)).drew.cell? ⟨w.heap.size, 0, none⟩ = some (.int .i64 c.u) := bc (ba wr _).drew k0'
        have a1 : (wr.alloc (.cells #[.int .i64 0, .int .i64 0, .int .i64 0, .int .i64 0, .int .i64 0, .int .i64 0, .int .i64 0] 35)).drew.cell? ⟨w.heap.size, 1, none⟩ = some (.int .i64 c.g) := bc (ba wr _).drew k1
        have a2 : (wr.alloc (.cells #[.int .i64 0, .int .i64 0, .int .i64 0, .int .i64 0, .int .i64 0, .int .i64 0, .int .i64 0] 35)).drew.cell? ⟨w.heap.size, 2, none⟩ = some (.slice A0 n0 k0) := bc (ba wr _).drew k2
        have a3 : (wr.alloc (.cells #[.int .i64 0, .int .i64 0, .int .i64 0, .int .i64 0, .int .i64 0, .int .i64 0, .int .i64 0] 35)).drew.cell? (ad.add i) = some (.string (bA n)) := bc (ba wr _).drew c0
        have HPQ := Lib.hid (fun (W : World) (hb : Below wr.heap.size wr W) => show W.cell? ⟨w.heap.size, 0, none⟩ = some (.int .i64 c.u) ∧ W.cell? ⟨w.heap.size, 1, none⟩ = some (.int .i64 c.g) ∧ W.cell? ⟨w.heap.size, 2, none⟩ = some (.slice A0 n0 k0) ∧ W.cell? (ad.add i) = some (.string (bA n)) from ⟨bc hb k0', bc hb k1, bc hb k2, bc hb c0⟩)
        have HDR := Lib.hid (show Below wr.heap.size wr wr.drew from (Below.refl _ _).drew)
        have HAD := Lib.hid (show Below wr.heap.size wr (wr.alloc (.cells #[.int .i64 0, .int .i64 0, .int .i64 0, .int .i64 0, .int .i64 0, .int .i64 0, .int .i64 0] 35)).drew from (ba wr _).drew)
        clear k0' k1 k2 c0
        go_upto_region 16 with fail
        go_cut [17, 18] (fun s17 s18 wx => ∃ d : Nat, s17 = .pointer (some ⟨d, 0, none⟩) ∧ s18 = .int .i64 H ∧ Bs wr wx d G)
        case first =>
          go_region_held3 (fun w' => w'.cell? ⟨w.heap.size, 0, none⟩ = some (.int .i64 c.u) ∧ w'.cell? ⟨w.heap.size, 1, none⟩ = some (.int .i64 c.g) ∧ w'.cell? ⟨w.heap.size, 2, none⟩ = some (.slice A0 n0 k0) ∧ w'.cell? (ad.add i) = some (.string (bA n)))
            (first | (with_reducible exact HPQ.out _ HDR.out) | (with_reducible exact HPQ.out _ HAD.out) | (with_reducible exact HPQ.out _ HB7.out) | (with_reducible exact HPQ.out _ (al HB7.out _)) | (with_reducible exact HPQ.out _ HB8.out) | (with_reducible exact HPQ.out _ (al HB8.out _)) | (with_reducible exact ⟨t0, t1, t2, t3⟩))
            (first
            | (go_at_call 26; (with_reducible refine (HJ.out wr.drew).mono ?_); rintro e1 w7 ⟨rfl, hb7⟩; have HB7 := Lib.hid (bt hb7 HDR.out); obtain ⟨r0, r1, r2, r3⟩ := HPQ.out _ HB7.out; clear hb7)
            | (go_at_call 26; (with_reducible refine (HJ.out (wr.alloc (.cells #[.int .i64 0, .int .i64 0, .int .i64 0, .int .i64 0, .int .i64 0, .int .i64 0, .int .i64 0] 35)).drew).mono ?_); rintro e1 w7 ⟨rfl, hb7⟩; have HB7 := Lib.hid (bt hb7 HAD.out); have HBX := Lib.hid (show Blk w7 wr.heap.size 35 #[.int .i64 0, .int .i64 0, .int .i64 0, .int .i64 0, .int .i64 0, .int .i64 0, .int .i64 0] from Blk.below (w := (wr.alloc (.cells #[.int .i64 0, .int .i64 0, .int .i64 0, .int .i64 0, .int .i64 0, .int .i64 0, .int .i64 0] 35)).drew) (Blk.new wr 35 _) hb7); obtain ⟨r0, r1, r2, r3⟩ := HPQ.out _ HB7.out; clear hb7)
            | (go_at_call 15; (with_reducible refine (HLC.out w7 HB7.out).mono ?_); rintro e2 w8 ⟨rfl, hb8⟩; have HB8 := Lib.hid (bt hb8 HB7.out); obtain ⟨v0, v1', v2, v3⟩ := HPQ.out _ HB8.out; first | (have hx8 := HBX.out.below hb8; have HX8 := Lib.hid hx8; obtain ⟨x0, x1, x2, x3, x4, x5, x6⟩ := hx8.c7; obtain ⟨f0, f1, f2, f3, f4, f5, f6⟩ := hx8.f7; obtain ⟨t0, t1, t2, t3⟩ := HPQ.out (((((((w8.setCell ⟨wr.heap.size, 0, none⟩ (.int .i64 G.node)).setCell ⟨wr.heap.size, 1, none⟩ (.int .i64 G.kind)).setCell ⟨wr.heap.size, 2, none⟩ (.int .i64 G.mode)).setCell ⟨wr.heap.size, 3, none⟩ (.int .i64 G.uid)).setCell ⟨wr.heap.size, 4, none⟩ (.int .i64 G.gid)).setCell ⟨wr.heap.size, 5, none⟩ (.int .i64 G.links)).setCell ⟨wr.heap.size, 6, none⟩ (.int .i64 G.size)) (putS_below G HB8.out (Nat.le_refl _)); clear hx8 hb8) | clear hb8)
            | (go_at_call 15; (with_reducible refine (HLC.out (w7.alloc (.cells #[.int .i64 0, .int .i64 0, .int .i64 0, .int .i64 0, .int .i64 0, .int .i64 0, .int .i64 0] 35)) (al HB7.out _)).mono ?_); rintro e2 w8 ⟨rfl, hb8⟩; have HB8 := Lib.hid (bt hb8 (al HB7.out _)); obtain ⟨v0, v1', v2, v3⟩ := HPQ.out _ HB8.out; have hx8 := Blk.below (Blk.new w7 35 #[.int .i64 0, .int .i64 0, .int .i64 0, .int .i64 0, .int .i64 0, .int .i64 0, .int .i64 0]) hb8; have HX8 := Lib.hid hx8; obtain ⟨x0, x1, x2, x3, x4, x5, x6⟩ := hx8.c7; obtain ⟨f0, f1, f2, f3, f4, f5, f6⟩ := hx8.f7; obtain ⟨t0, t1, t2, t3⟩ := HPQ.out (((((((w8.setCell ⟨w7.heap.size, 0, none⟩ (.int .i64 G.node)).setCell ⟨w7.heap.size, 1, none⟩ (.int .i64 G.kind)).setCell ⟨w7.heap.size, 2, none⟩ (.int .i64 G.mode)).setCell ⟨w7.heap.size, 3, none⟩ (.int .i64 G.uid)).setCell ⟨w7.heap.size, 4, none⟩ (.int .i64 G.gid)).setCell ⟨w7.heap.size, 5, none⟩ (.int .i64 G.links)).setCell ⟨w7.heap.size, 6, none⟩ (.int .i64 G.size)) (putS_below G HB8.out HB7.out.size); clear hx8 hb8))
          all_goals (
            go_wp2
            go_meet
            first
              | with_reducible exact ⟨_, rfl, rfl, Bs.put HX8.out HB8.out (Nat.le_refl _)⟩
              | with_reducible exact ⟨_, rfl, rfl, Bs.put HX8.out HB8.out HB7.out.size⟩
              | exact ⟨_, rfl, rfl, Bs.fresh HB8.out⟩)
        case rest =>
          obtain ⟨d, rfl, rfl, hbx⟩ := hcut
          have JX := Lib.hid hbx.below
          have HGX := Lib.hid hbx.blk
          have HQX := Lib.hid (HPQ.out _ hbx.below)
          have hgx := hbx.blk
          unfold stC at hgx
          obtain ⟨g0, g1, g2, g3, g4, g5, g6⟩ := hgx.c7
          obtain ⟨-, -, -, v3⟩ := HQX.out
          clear hbx hgx q0 q1 q2 q3 a0 a1 a2 a3 zC HDR HAD HLC
          rcases HCS.out.1 with r | ⟨r, rG⟩
          · have m1 : (H != 13) = false := by simp [r]
            have m2 : (H == 0) = false := by simp [r]
            clear r HCS HGX
            go_wp2_with fail
            refine (HJ.out _).mono ?_
            rintro e w9 ⟨rfl, hb9⟩
            have J9 := Lib.hid (bt hb9 JX.out)
            clear hb9 v3 g0 g1 g2 g3 g4 g5 g6
            go_wp2_with fail
            refine (HLR.out _ J9.out).mono ?_
            rintro e w10 ⟨rfl, hb10⟩
            have J11 := Lib.hid (bt (al hb10 (.cells #[.int .i64 a.node, .int .i64 a.kind, .int .i64 a.mode, .int .i64 a.uid, .int .i64 a.gid, .int .i64 a.links, .int .i64 a.size] 35)) J9.out)
            clear hb10
            go_wp2
            go_roundg (N.length - (i + 1))
            case measure => (have := HLT.out; omega)
            case rel => exact ⟨i + 1, by go_num, (by have := HLT.out; omega), rfl, bt J11.out HBR.out⟩
          · have m1 : (H != 13) = true := by simp [r]
            have m2 : (H != 0) = false := by simp [r]
            have m5 : (H == 0) = true := by simp [r]
            have m3 : (a.node == 0) = false := by simpa using HCS.out.2.1
            have m4 : ¬ a.links < 1 := by have := HCS.out.2.2; omega
            subst rG
            clear r HCS
            go_wp2_with fail
            refine (HJ.out _).mono ?_
            rintro e w9 ⟨rfl, hb9⟩
            have J9 := Lib.hid (bt hb9 JX.out)
            have HG9 := Lib.hid (HGX.out.below hb9)
            clear hb9 v3 g0 g1 g2 g3 g4 g5 g6
            go_wp2_with fail
            refine (HLR.out _ J9.out).mono ?_
            rintro e w10 ⟨rfl, hb10⟩
            have J11 := Lib.hid (bt (al hb10 (.cells #[.int .i64 G.node, .int .i64 G.kind, .int .i64 G.mode, .int .i64 G.uid, .int .i64 G.gid, .int .i64 G.links, .int .i64 G.size] 35)) J9.out)
            have hg11 := HG9.out.below (al hb10 (.cells #[.int .i64 G.node, .int .i64 G.kind, .int .i64 G.mode, .int .i64 G.uid, .int .i64 G.gid, .int .i64 G.links, .int .i64 G.size] 35))
            unfold stC at hg11
            obtain ⟨g0, g1, g2, g3, g4, g5, g6⟩ := hg11.c7
            have ha11 := Blk.new w10 35 #[.int .i64 G.node, .int .i64 G.kind, .int .i64 G.mode, .int .i64 G.uid, .int .i64 G.gid, .int .i64 G.links, .int .i64 G.size]
            obtain ⟨b0, b1, b2, b3, b4, b5, b6⟩ := ha11.c7
            clear hg11 ha11
            clear hb10
            go_wp2
            go_roundg (N.length - (i + 1))
            case measure => (have := HLT.out; omega)
            case rel => exact ⟨i + 1, by go_num, (by have := HLT.out; omega), rfl, bt J11.out HBR.out⟩
      · have hlt' : ¬ (i : Int) < (N.length : Int) := by omega
        go_wp2
        go_ret
        exact ⟨rfl, bt JR.out HB3.out⟩
  · have e1 : (E != 0) = true := by simpa using qE
    have hN := HNO.out qE
    have e2 : ((N.length : Int) == 0) = true := by rw [hN]; rfl
    clear qE HNO HYE hN
    go_wp2
    go_ret
    exact ⟨ret_bool (by first | rfl | simp), bt J4.out HB3.out⟩
end Go.Proofs.YtilepnepcamnaaaGreat
