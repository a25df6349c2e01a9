/-
  The walk of ResolveParts: it answers true of whatever is told, of any who ask, of any path and name. The condition: what is told is no longer than a machine can hold.
-/
import Derived.Test.YtnecnnajngfooaaRsK
import Derived.Test.YtnecnnajngfooaaRsO
import Derived.Test.YtnecnnajngfooaaRsJ
import Derived.Deep.RegionWith
import Derived.Deep.DeepCutAuto
import Derived.Deep.RegionHeld3
namespace Go.Proofs.Ytnecnnajngfooaa
open Go Go.RowKit
set_option maxRecDepth 100000

attribute [local go_sem] cell_off4 cell_blk4
theorem isB_trp {m : Int} {l : List Rw} {c : Wh} {T : List Nd} (h : isB m l c T) : Trx T := (tre_all h.2).1
theorem isB_crp {m : Int} {l : List Rw} {c : Wh} {T : List Nd} {A0 : Option Addr} {n0 k0 : Nat} {W : World} (h : isB m l c T) (hi : IntsR W (.slice A0 n0 k0) c.gs) : CrR W c A0 n0 k0 := ⟨hi, by have := h.1.2; omega⟩
theorem last_at {q : ByteArray} {n : Nat} (h : q.size = n + 1) (hn : n < q.size) : (tl q).getLast? = some q[n] := by
  rw [List.getLast?_eq_getElem?, tl_len, h, Nat.add_sub_cancel, tl_at hn]
/-- Where a box lies, and what is in it; what was there is there. -/
structure Bx (w wx : World) (d : Nat) (cs : Array Value) : Prop where
  blk : Blk wx d 91 cs
  below : Below w.heap.size w wx
theorem Bx.fresh {w w8 : World} {cs : Array Value} (h : Below w.heap.size w w8) : Bx w (w8.alloc (.cells cs 91)) w8.heap.size cs := ⟨Blk.new _ _ _, al h _⟩
theorem Bx.put {w w8 : World} {d : Nat} {a b c a' b' c' : Value} (hk : Blk w8 d 91 #[a', b', c']) (h : Below w.heap.size w w8) (hd : w.heap.size ≤ d) : Bx w (put3 w8 d a b c) d #[a, b, c] := ⟨hk.put3 a b c, below_grown h (grown3 _ _ _ _ _) hd⟩
set_option maxHeartbeats 8000000 in
theorem parts_any (x0 : Int) (v1 : Value) (l : List Rw) (c : Wh) (A0 : Option Addr) (n0 k0 : Nat) (s : ByteArray) (sn : ByteArray) (w : World) (h1 : RawsR w v1 l) (hl1 : l.length ≤ maxLen) (h2 : IntsR w (.slice A0 n0 k0) c.gs) :
    Calls Try.prog 8 #[.int .i64 x0, v1, .agg #[.int .i64 c.u, .int .i64 c.g, .slice A0 n0 k0], .string s, .string sn] w fun e w' => e = .returned (.bool true) ∧ Below w.heap.size w w' := by
  have hb0 := ba w (.cells #[.int .i64 c.u, .int .i64 c.g, .slice A0 n0 k0] 87)
  have hk0 := Blk.new w 87 #[.int .i64 c.u, .int .i64 c.g, .slice A0 n0 k0]
  obtain ⟨W1, hW1⟩ : ∃ W1, w.alloc (.cells #[.int .i64 c.u, .int .i64 c.g, .slice A0 n0 k0] 87) = W1 := ⟨_, rfl⟩
  rw [hW1] at hb0 hk0
  have HA := Lib.hid (awake11_any W1)
  have HR := Lib.hid (h1.below hb0)
  have HI := Lib.hid (h2.below hb0)
  have HL := Lib.hid hl1
  have HB0 := Lib.hid hb0
  have HK0 := Lib.hid hk0
  clear h1 h2 hl1 hb0 hk0
  go_enter Try.func8, Try.ntmps8
  go_wp2_with fail
  clear hW1
  refine HA.out.mono ?_
  rintro e w2 ⟨rfl, hb2⟩
  have hk2 := HK0.out.below hb2
  have HB2 := Lib.hid (bt hb2 HB0.out)
  have HK2 := Lib.hid hk2
  have HI2 := Lib.hid (HI.out.below hb2)
  have HBL := Lib.hid (built_any x0 v1 l c A0 n0 k0 w2 (HR.out.below hb2) HL.out HI2.out)
  obtain ⟨k0', k1, k2⟩ := hk2.c3
  clear hb2 hk2 HA HK0 HI HR HB0
  go_wp2_with fail
  refine HBL.out.mono ?_
  rintro e w3 ⟨hans, hb3⟩
  have HB3 := Lib.hid (bt hb3 HB2.out)
  have hk3 := HK2.out.below hb3
  have HI3 := Lib.hid (HI2.out.below hb3)
  clear k0' k1 k2 hb3 HBL
  rcases hans with ⟨rfl, -⟩ | ⟨g, T, rfl, hB, hT⟩
  · clear hk3
    go_wp2
    go_ret
    exact ⟨rfl, HB3.out⟩
  have HT3 := Lib.hid hT.ptr
  have HTR := Lib.hid (isB_trp hB)
  have HCR3 := Lib.hid (isB_crp hB HI3.out)
  have HK3 := Lib.hid hk3
  obtain ⟨k0', k1, k2⟩ := hk3.c3
  clear hT hB hk3 HK2 HI2 HB2
  by_cases h40 : 40 < s.size
  · have y40 : (s.size : Int) > 40 := by omega
    clear h40
    go_wp2
    go_ret
    exact ⟨rfl, HB3.out⟩
  have y40 : ¬ (s.size : Int) > 40 := by omega
  have hs40 : s.size ≤ 40 := by omega
  clear h40
  by_cases h20 : 20 < sn.size
  · have y20 : (sn.size : Int) > 20 := by omega
    clear h20
    go_wp2
    go_ret
    exact ⟨rfl, HB3.out⟩
  have y20 : ¬ (sn.size : Int) > 20 := by omega
  have hn20 : sn.size ≤ 20 := by omega
  clear h20
  have HNM := Lib.hid (fun W => Name_any sn W (by unfold maxLen; omega))
  rw [nam_nok] at HNM
  have nq0 := neq_empty s
  cases hok : nok (tl sn) with
  | false =>
    rw [hok] at HNM
    clear hok
    go_wp2_with fail
    refine (HNM.out _).mono ?_
    rintro e w4 ⟨rfl, rfl⟩
    go_wp2
    go_ret
    exact ⟨rfl, HB3.out⟩
  | true =>
  rw [hok] at HNM
  have HOK := Lib.hid hok
  clear hok
  go_wp2_with fail
  refine (HNM.out _).mono ?_
  rintro e w4 ⟨rfl, rfl⟩
  by_cases h0 : s.size = 0
  · have e0 : (s.toList == ([] : List UInt8)) = true := by rw [(empty_iff s).2 h0]; rfl
    clear h0
    go_wp2
    go_ret
    exact ⟨rfl, HB3.out⟩
  have e0 : (s.toList == ([] : List UInt8)) = false := eq_empty s (by omega)
  obtain ⟨m, hm⟩ : ∃ m, s.size = m + 1 := ⟨s.size - 1, by omega⟩
  have hml : m < s.size := by omega
  have HLA := Lib.hid (last_at hm hml)
  have hi : ((s.size : Int) - 1) = (m : Int) := by omega
  obtain ⟨b, hb⟩ : ∃ b, s[m] = b := ⟨_, rfl⟩
  rw [hb] at HLA
  have HSZ := Lib.hid (show tl s ≠ [] ∧ (tl s).length ≤ 40 from ⟨fun q => h0 (by rw [← tl_len, q]; rfl), by rw [tl_len]; exact hs40⟩)
  by_cases h47 : b = 47
  · subst h47
    clear h0
    go_wp2
    go_ret
    exact ⟨rfl, HB3.out⟩
  have hqb : ((b.toNat : Int) == 47) = false := co_ne (a := b) (b := 47) h47
  have HEN := Lib.hid (show ¬ (tl s).getLast? = some 47 from fun q => h47 (by rw [HLA.out] at q; injection q))
  obtain ⟨X, hX⟩ : ∃ X, resM T c (tl s) true = X := ⟨_, rfl⟩
  obtain ⟨F, E⟩ := X
  obtain ⟨Y, hY⟩ : ∃ Y, thn T c (tl sn) (F, E) = Y := ⟨_, rfl⟩
  obtain ⟨G, H⟩ := Y
  have HX := Lib.hid (show Calls Try.prog 50 #[.pointer (some ⟨g, 0, none⟩), .agg #[.int .i64 c.u, .int .i64 c.g, .slice A0 n0 k0], .string s, .bool true] w3 fun e w' => e = .returned (.tuple #[.agg #[.int .i64 F.dir, .string (bA F.name), .int .i64 F.node], .int .i64 E]) ∧ Below w3.heap.size w3 w' from by have h1 := resolve_any _ T c A0 n0 k0 (tl s) true w3 HT3.out HCR3.out (F, E) hX; rw [bA_tl] at h1; exact h1)
  have HEQ := Lib.hid hX
  have HTH := Lib.hid hY
  have HPT := Lib.hid (show resM T c (joinP (tl s) (tl sn)) false = (G, H) from by rw [res_parts HTR.out.one c HSZ.out.1 HEN.out HSZ.out.2 HOK.out, hX, hY])
  have HJ := Lib.hid (fun W => join_any s sn W (by omega) (by omega))
  clear hX hY h0 h47
  go_wp2_with fail
  refine HX.out.mono ?_
  rintro e w5 ⟨rfl, hb5⟩
  clear hm hml hi hb
  have hbx := al hb5 (.cells #[.int .i64 F.dir, .string (bA F.name), .int .i64 F.node] 91)
  have HB5 := Lib.hid (bt hbx HB3.out)
  have HT5 := Lib.hid (HT3.out.below hbx)
  have HCR5 := Lib.hid (HCR3.out.ints.below hbx)
  have HFE := Lib.hid (HCR3.out.few)
  have hk5 := HK3.out.below hbx
  have hf5 := Blk.new w5 91 #[.int .i64 F.dir, .string (bA F.name), .int .i64 F.node]
  obtain ⟨y, hy⟩ : ∃ y, w5.heap.size = y := ⟨_, rfl⟩
  obtain ⟨W5, hW5⟩ : ∃ W5, w5.alloc (.cells #[.int .i64 F.dir, .string (bA F.name), .int .i64 F.node] 91) = W5 := ⟨_, rfl⟩
  rw [hW5] at HB5 HT5 HCR5 hk5 hf5
  rw [hy] at hf5
  have HK5 := Lib.hid hk5
  have HF5 := Lib.hid hf5
  have zC := hk5.lt
  clear k0' k1 k2 hb5 hbx HX HK3 HI3 HB3 HT3
  obtain ⟨k0', k1, k2⟩ := hk5.c3
  have q0 : W5.drew.cell? ⟨w.heap.size, 0, none⟩ = some (.int .i64 c.u) := k0'
  have q1 : W5.drew.cell? ⟨w.heap.size, 1, none⟩ = some (.int .i64 c.g) := k1
  have q2 : W5.drew.cell? ⟨w.heap.size, 2, none⟩ = some (.slice A0 n0 k0) := k2
  have a0 : (W5.alloc (.cells #[.int .i64 0, .string ⟨#[]⟩, .int .i64 0] 91)).drew.cell? ⟨w.heap.size, 0, none⟩ = some (.int .i64 c.u) := bc (ba W5 _).drew k0'
  have a1 : (W5.alloc (.cells #[.int .i64 0, .string ⟨#[]⟩, .int .i64 0] 91)).drew.cell? ⟨w.heap.size, 1, none⟩ = some (.int .i64 c.g) := bc (ba W5 _).drew k1
  have a2 : (W5.alloc (.cells #[.int .i64 0, .string ⟨#[]⟩, .int .i64 0] 91)).drew.cell? ⟨w.heap.size, 2, none⟩ = some (.slice A0 n0 k0) := bc (ba W5 _).drew k2
  have HDR := Lib.hid (show Below W5.heap.size W5 W5.drew from (Below.refl _ _).drew)
  have HAD := Lib.hid (show Below W5.heap.size W5 (W5.alloc (.cells #[.int .i64 0, .string ⟨#[]⟩, .int .i64 0] 91)).drew from (ba W5 _).drew)
  have HXX := Lib.hid (fun (W : World) (hb : Below W5.heap.size W5 W) => show Calls Try.prog 50 #[.pointer (some ⟨g, 0, none⟩), .agg #[.int .i64 c.u, .int .i64 c.g, .slice A0 n0 k0], .string (bA (joinP (tl s) (tl sn))), .bool false] W fun e w' => e = .returned (.tuple #[.agg #[.int .i64 G.dir, .string (bA G.name), .int .i64 G.node], .int .i64 H]) ∧ Below W.heap.size W w' from resolve_any _ T c A0 n0 k0 (joinP (tl s) (tl sn)) false W (HT5.out.below hb) ⟨HCR5.out.below hb, HFE.out⟩ (G, H) HPT.out)
  generalize joinP (tl s) (tl sn) = J at HJ HXX
  clear hk5 hf5 HPT k0' k1 k2
  go_upto_region 8 with fail
  go_cut [16, 17] (fun s16 s17 wx => ∃ d : Nat, s16 = .pointer (some ⟨d, 0, none⟩) ∧ s17 = .int .i64 H ∧ Bx W5 wx d #[.int .i64 G.dir, .string (bA G.name), .int .i64 G.node])
  case first =>
    go_region_held3 (fun w' => w'.cell? ⟨w.heap.size, 0, none⟩ = some (.int .i64 c.u) ∧ w'.cell? ⟨w.heap.size, 1, none⟩ = some (.int .i64 c.g) ∧ w'.cell? ⟨w.heap.size, 2, none⟩ = some (.slice A0 n0 k0))
      (first | (with_reducible exact ⟨q0, q1, q2⟩) | (with_reducible exact ⟨r0, r1, r2⟩) | (with_reducible exact ⟨v0, v1', v2⟩) | (with_reducible exact ⟨a0, a1, a2⟩) | (with_reducible exact ⟨u0, u1, u2⟩) | (with_reducible exact ⟨t0, t1, t2⟩) | (with_reducible exact ⟨bc (ba w8 _) v0, bc (ba w8 _) v1', bc (ba w8 _) v2⟩))
      (first
      | (go_at_call 54; (with_reducible refine (HJ.out W5.drew).mono ?_); rintro e1 w7 ⟨rfl, hb7⟩; have HB7 := Lib.hid (bt hb7 HDR.out); have z7 : w.heap.size < w7.heap.size := Nat.lt_of_lt_of_le zC HB7.out.size; have r0 := bc hb7 q0; have r1 := bc hb7 q1; have r2 := bc hb7 q2; have u0 := bc (ba w7 (.cells #[.int .i64 0, .string ⟨#[]⟩, .int .i64 0] 91)) r0; have u1 := bc (ba w7 (.cells #[.int .i64 0, .string ⟨#[]⟩, .int .i64 0] 91)) r1; have u2 := bc (ba w7 (.cells #[.int .i64 0, .string ⟨#[]⟩, .int .i64 0] 91)) r2; clear hb7)
      | (go_at_call 54; (with_reducible refine (HJ.out (W5.alloc (.cells #[.int .i64 0, .string ⟨#[]⟩, .int .i64 0] 91)).drew).mono ?_); rintro e1 w7 ⟨rfl, hb7⟩; have HB7 := Lib.hid (bt hb7 HAD.out); have z7 : w.heap.size < w7.heap.size := Nat.lt_of_lt_of_le zC HB7.out.size; have HBX := Lib.hid (show Blk w7 W5.heap.size 91 #[.int .i64 0, .string ⟨#[]⟩, .int .i64 0] from Blk.below (w := (W5.alloc (.cells #[.int .i64 0, .string ⟨#[]⟩, .int .i64 0] 91)).drew) (Blk.new W5 91 _) hb7); have r0 := bc HB7.out HK5.out.c3.1; have r1 := bc HB7.out HK5.out.c3.2.1; have r2 := bc HB7.out HK5.out.c3.2.2; have u0 := bc (ba w7 (.cells #[.int .i64 0, .string ⟨#[]⟩, .int .i64 0] 91)) r0; have u1 := bc (ba w7 (.cells #[.int .i64 0, .string ⟨#[]⟩, .int .i64 0] 91)) r1; have u2 := bc (ba w7 (.cells #[.int .i64 0, .string ⟨#[]⟩, .int .i64 0] 91)) r2; clear hb7)
      | (go_at_call 50; (with_reducible refine (HXX.out w7 HB7.out).mono ?_); rintro e2 w8 ⟨rfl, hb8⟩; have HB8 := Lib.hid (bt hb8 HB7.out); have v0 := bc hb8 r0; have v1' := bc hb8 r1; have v2 := bc hb8 r2; first | (have hx8 := HBX.out.below hb8; have HX8 := Lib.hid hx8; obtain ⟨x0, x1, x2⟩ := hx8.c3; obtain ⟨f0, f1, f2⟩ := hx8.f3; have ht8 : Blk (((w8.setCell ⟨W5.heap.size, 0, none⟩ (.int .i64 G.dir)).setCell ⟨W5.heap.size, 1, none⟩ (.string (bA G.name))).setCell ⟨W5.heap.size, 2, none⟩ (.int .i64 G.node)) w.heap.size 87 #[.int .i64 c.u, .int .i64 c.g, .slice A0 n0 k0] := (HK5.out.below HB8.out).kept (grown3 w8 W5.heap.size (.int .i64 G.dir) (.string (bA G.name)) (.int .i64 G.node)) (some_ne (Nat.ne_of_lt zC)); obtain ⟨t0, t1, t2⟩ := ht8.c3; clear hx8 hb8 ht8) | clear hb8)
      | (go_at_call 50; (with_reducible refine (HXX.out (w7.alloc (.cells #[.int .i64 0, .string ⟨#[]⟩, .int .i64 0] 91)) (al HB7.out _)).mono ?_); rintro e2 w8 ⟨rfl, hb8⟩; have HB8 := Lib.hid (bt hb8 (al HB7.out _)); have v0 := bc hb8 u0; have v1' := bc hb8 u1; have v2 := bc hb8 u2; have hx8 := Blk.below (Blk.new w7 91 #[.int .i64 0, .string ⟨#[]⟩, .int .i64 0]) hb8; have HX8 := Lib.hid hx8; obtain ⟨x0, x1, x2⟩ := hx8.c3; obtain ⟨f0, f1, f2⟩ := hx8.f3; have ht8 : Blk (((w8.setCell ⟨w7.heap.size, 0, none⟩ (.int .i64 G.dir)).setCell ⟨w7.heap.size, 1, none⟩ (.string (bA G.name))).setCell ⟨w7.heap.size, 2, none⟩ (.int .i64 G.node)) w.heap.size 87 #[.int .i64 c.u, .int .i64 c.g, .slice A0 n0 k0] := (HK5.out.below HB8.out).kept (grown3 w8 w7.heap.size (.int .i64 G.dir) (.string (bA G.name)) (.int .i64 G.node)) (some_ne (Nat.ne_of_lt z7)); obtain ⟨t0, t1, t2⟩ := ht8.c3; clear hx8 hb8 ht8))
    all_goals (
      go_wp2
      go_meet
      first
        | exact ⟨_, rfl, rfl, Bx.fresh HB8.out⟩
        | exact ⟨_, rfl, rfl, Bx.put HX8.out HB8.out (Nat.le_refl _)⟩
        | exact ⟨_, rfl, rfl, Bx.put HX8.out HB8.out HB7.out.size⟩)
  case rest =>
    obtain ⟨d, rfl, rfl, hbx⟩ := hcut
    have HB9 := Lib.hid (bt hbx.below HB5.out)
    have HT9 := Lib.hid (HT5.out.below hbx.below)
    have HCR9 := Lib.hid (HCR5.out.below hbx.below)
    have HK9 := Lib.hid (HK5.out.below hbx.below)
    have hf9 := HF5.out.below hbx.below
    have HF9 := Lib.hid hf9
    have HG9 := Lib.hid hbx.blk
    obtain ⟨g0, g1, g2⟩ := hbx.blk.c3
    obtain ⟨b0, b1, b2⟩ := hf9.c3
    clear hbx hf9 HB5 HT5 HCR5 HK5 HF5 q0 q1 q2 a0 a1 a2 zC hW5 hy HDR HAD HXX HJ HNM
    by_cases qE : E = 0
    · have qE1 : (E != 0) = false := by simpa using qE
      by_cases qN : F.node = 0
      · have eN : (F.node == 0) = true := by simpa using qN
        have hz : H = 2 := by
          have h := HTH.out
          unfold thn at h
          rw [if_neg (fun q => q qE), if_pos qN] at h
          injection h with h1 h2
          exact h2.symm
        subst hz
        clear qE qN
        go_wp2
        go_ret
        exact ⟨rfl, HB9.out⟩
      have eN : (F.node == 0) = false := by simpa using qN
      have HG := Lib.hid (get_any _ T F.node wc HT9.out)
      obtain ⟨n1, hn1⟩ : ∃ n1, tget T F.node = n1 := ⟨_, rfl⟩
      rw [hn1] at HG
      have HN1 := Lib.hid hn1
      have HTQ := Lib.hid (show (if srE T c F.node ≠ 0 then (Fo.zero, srE T c F.node) else (⟨F.node, tl sn, fnd n1.ents (tl sn)⟩, 0)) = (G, H) from by
        have h := HTH.out
        unfold thn at h
        rw [if_neg (fun q => q qE), if_neg qN] at h
        rw [← hn1]
        exact h)
      generalize tis T F.node = b9 at HG
      unfold nodeV at HG
      clear qE qN hn1 HTH
      go_wp2_with fail
      refine HG.out.mono ?_
      rintro e w10 ⟨vd, ve, rfl, hd10, he10, -, -, hb10⟩
      obtain ⟨A5, k5, rfl⟩ := bytesT_form hd10
      obtain ⟨A6, k6, rfl⟩ := entsT_form he10
      have hbx := al hb10 (.cells (ndC n1 (.slice A5 n1.data.length k5) (.slice A6 n1.ents.length k6)) 39)
      have hbw := ba w10 (.cells (ndC n1 (.slice A5 n1.data.length k5) (.slice A6 n1.ents.length k6)) 39)
      have HB11 := Lib.hid (bt hbx HB9.out)
      have HT11 := Lib.hid (HT9.out.below hbx)
      have HCR11 := Lib.hid (HCR9.out.below hbx)
      have hk11 := HK9.out.below hbx
      have hf11 := HF9.out.below hbx
      have hg11 := HG9.out.below hbx
      have hn11 := Blk.new w10 39 (ndC n1 (.slice A5 n1.data.length k5) (.slice A6 n1.ents.length k6))
      have HD11 := Lib.hid (hd10.1.below hbw)
      have HE11 := Lib.hid (he10.1.below hbw)
      obtain ⟨z, hz⟩ : ∃ z, w10.heap.size = z := ⟨_, rfl⟩
      obtain ⟨W11, hW11⟩ : ∃ W11, w10.alloc (.cells (ndC n1 (.slice A5 n1.data.length k5) (.slice A6 n1.ents.length k6)) 39) = W11 := ⟨_, rfl⟩
      rw [hW11] at HB11 HT11 HCR11 hk11 hf11 hg11 hn11 HD11 HE11
      rw [hz] at hn11
      have HF11 := Lib.hid hf11
      have HG11 := Lib.hid hg11
      have HN11 := Lib.hid hn11
      clear g0 g1 g2 b0 b1 b2 hd10 he10 hb10 hbx hbw HG HK9 HF9 HG9 HB9 HT9 HCR9
      obtain ⟨n0', n1', n2', n3', n4', n5', n6'⟩ := hn11.c7
      obtain ⟨k0', k1, k2⟩ := hk11.c3
      obtain ⟨b0, b1, b2⟩ := hf11.c3
      clear hk11 hf11 hg11 hn11
      by_cases qK : n1.kind = 2
      · have eK : (n1.kind != 2) = false := by simpa using qK
        have HC := Lib.hid (rescan_any _ T c A0 n0 k0 F.node 1 W11 HT11.out ⟨HCR11.out, HFE.out⟩)
        have HSR := Lib.hid (show srE T c F.node = if canT T c F.node 1 = false then 13 else 0 from by unfold srE; rw [if_neg (fun q => q (by rw [HN1.out]; exact qK))])
        generalize canT T c F.node 1 = cn at HC HSR
        clear qK
        go_wp2_with fail
        refine HC.out.mono ?_
        rintro e w12 ⟨rfl, hb12⟩
        have HB12 := Lib.hid (bt hb12 HB11.out)
        have HG12 := Lib.hid (HG11.out.below hb12)
        have HF12 := Lib.hid (HF11.out.below hb12)
        have HN12 := Lib.hid (HN11.out.below hb12)
        have HD12 := Lib.hid (HD11.out.below hb12)
        have HE12 := Lib.hid (HE11.out.below hb12)
        clear hb12 n0' n1' n2' n3' n4' n5' n6' k0' k1 k2 b0 b1 b2
        cases cn with
        | false =>
          have hz : H = 13 := by
            have h := HTQ.out
            rw [HSR.out, if_pos rfl, if_pos (by decide)] at h
            injection h with h1 h2
            exact h2.symm
          subst hz
          go_wp2
          go_ret
          exact ⟨rfl, HB12.out⟩
        | true =>
          obtain ⟨hz1, hz2⟩ : G = ⟨F.node, tl sn, fnd n1.ents (tl sn)⟩ ∧ H = 0 := by
            have h := HTQ.out
            rw [HSR.out, if_neg (by decide)] at h
            injection h with h1 h2
            exact ⟨h1.symm, h2.symm⟩
          subst hz2
          have hg12 := HG12.out
          rw [hz1] at hg12
          have HFEW := Lib.hid (show n1.ents.length ≤ 1000 from by rw [← HN1.out]; have := (ok_few HT11.out.ok.1 F.node).ents; omega)
          have HFD := Lib.hid (fun W (hb : Below w12.heap.size w12 W) => show Calls Try.prog 52 #[nodeV n1 (.slice A5 n1.data.length k5) (.slice A6 n1.ents.length k6), .string sn] W _ from by have h := find_any n1 _ _ (tl sn) W (HD12.out.below hb) (HE12.out.below hb) HFEW.out; rw [bA_tl] at h; exact h)
          unfold nodeV at HFD
          generalize fnd n1.ents (tl sn) = id at HFD hg12
          have hg12 : Blk w12 d 91 #[.int .i64 F.node, .string sn, .int .i64 id] := by have h := hg12; simp only [bA_tl] at h; exact h
          obtain ⟨g0, g1, g2⟩ := hg12.c3
          obtain ⟨b0, b1, b2⟩ := HF12.out.c3
          obtain ⟨n0', n1', n2', n3', n4', n5', n6'⟩ := HN12.out.c7
          have y1 : (F.node == F.node) = true := by simp
          have y2 : (sn.toList == sn.toList) = true := by simp
          have y3 : (id == id) = true := by simp
          clear hz1 hg12 HTQ HSR HEQ
          go_upto_region 18 with fail
          have hs0 : w12.drew.cell? ⟨z, 0, none⟩ = some (.int .i64 n1.kind) := n0'
          have hs1 : w12.drew.cell? ⟨z, 1, none⟩ = some (.int .i64 n1.mode) := n1'
          have hs2 : w12.drew.cell? ⟨z, 2, none⟩ = some (.int .i64 n1.uid) := n2'
          have hs3 : w12.drew.cell? ⟨z, 3, none⟩ = some (.int .i64 n1.gid) := n3'
          have hs4 : w12.drew.cell? ⟨z, 4, none⟩ = some (.slice A5 n1.data.length k5) := n4'
          have hs5 : w12.drew.cell? ⟨z, 5, none⟩ = some (.slice A6 n1.ents.length k6) := n5'
          have hs6 : w12.drew.cell? ⟨z, 6, none⟩ = some (.string (bA n1.target)) := n6'
          have hs7 : w12.drew.cell? ⟨d, 0, none⟩ = some (.int .i64 F.node) := g0
          have hs8 : w12.drew.cell? ⟨d, 1, none⟩ = some (.string sn) := g1
          have hs9 : w12.drew.cell? ⟨d, 2, none⟩ = some (.int .i64 id) := g2
          have hs10 : w12.drew.cell? ⟨y, 2, none⟩ = some (.int .i64 F.node) := b2
          have hs11 : Below w12.heap.size w12 w12.drew := (Below.refl _ _).drew
          clear n0' n1' n2' n3' n4' n5' n6' g0 g1 g2 b0 b1 b2
          go_region_held3 (fun w' => w'.cell? ⟨z, 0, none⟩ = some (.int .i64 n1.kind) ∧ w'.cell? ⟨z, 1, none⟩ = some (.int .i64 n1.mode) ∧ w'.cell? ⟨z, 2, none⟩ = some (.int .i64 n1.uid) ∧ w'.cell? ⟨z, 3, none⟩ = some (.int .i64 n1.gid) ∧ w'.cell? ⟨z, 4, none⟩ = some (.slice A5 n1.data.length k5) ∧ w'.cell? ⟨z, 5, none⟩ = some (.slice A6 n1.ents.length k6) ∧ w'.cell? ⟨z, 6, none⟩ = some (.string (bA n1.target)) ∧ w'.cell? ⟨d, 0, none⟩ = some (.int .i64 F.node) ∧ w'.cell? ⟨d, 1, none⟩ = some (.string sn) ∧ w'.cell? ⟨d, 2, none⟩ = some (.int .i64 id) ∧ w'.cell? ⟨y, 2, none⟩ = some (.int .i64 F.node) ∧ Below w12.heap.size w12 w')
            (first | exact ⟨hs0, hs1, hs2, hs3, hs4, hs5, hs6, hs7, hs8, hs9, hs10, hs11⟩ | exact ⟨bc h1 (hs0), bc h1 (hs1), bc h1 (hs2), bc h1 (hs3), bc h1 (hs4), bc h1 (hs5), bc h1 (hs6), bc h1 (hs7), bc h1 (hs8), bc h1 (hs9), bc h1 (hs10), bt h1 (hs11)⟩)
            (first | (go_at_call 52; (with_reducible refine (HFD.out _ hs11).mono ?_); rintro e1 w13 ⟨rfl, h1⟩))
          all_goals (
            go_wp2
            go_ret
            exact ⟨ret_bool (by first | rfl | simp), bt h1 (bt hs11 HB12.out)⟩)
      · have eK : (n1.kind != 2) = true := by simpa using qK
        have hz : H = 20 := by
          have h := HTQ.out
          have h2 : srE T c F.node = 20 := by unfold srE; rw [if_pos (by rw [HN1.out]; exact qK)]
          rw [h2, if_pos (by decide)] at h
          injection h with h1 h2
          exact h2.symm
        subst hz
        clear qK
        go_wp2
        go_ret
        exact ⟨rfl, HB11.out⟩
    · have qE1 : (E != 0) = true := by simpa using qE
      obtain ⟨hz1, hz2⟩ : G = Fo.zero ∧ H = E := by
        have h := HTH.out
        unfold thn at h
        rw [if_pos qE] at h
        injection h with h1 h2
        exact ⟨h1.symm, h2.symm⟩
      subst hz2
      have hg12 := HG9.out
      rw [hz1] at hg12
      have hg13 : Blk wc d 91 #[.int .i64 0, .string ⟨#[]⟩, .int .i64 0] := hg12
      clear g0 g1 g2
      obtain ⟨g0, g1, g2⟩ := hg13.c3
      have y1 : (H == H) = true := by simp
      clear qE hz1 hg12 hg13
      go_wp2
      go_ret
      exact ⟨ret_bool (by first | rfl | simp), HB9.out⟩
end Go.Proofs.Ytnecnnajngfooaa
