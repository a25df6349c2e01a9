/-
  The walk of ResolveRoot: it answers true of whatever is told, of any who ask, of any path. The condition: what is told is no longer than a machine can hold.
-/
import Derived.Test.YtnecnnajngfooaaRsK
import Derived.Test.YtnecnnajngfooaaRsN
namespace Go.Proofs.Ytnecnnajngfooaa
open Go Go.RowKit
set_option maxRecDepth 100000

attribute [local go_sem] cell_off4 cell_blk4
theorem isB_trr {m : Int} {l : List Rw} {c : Wh} {T : List Nd} (h : isB m l c T) : Trx T := (tre_all h.2).1
theorem isB_cre {m : Int} {l : List Rw} {c : Wh} {T : List Nd} {A0 : Option Addr} {n0 k0 : Nat} {W : World} (h : isB m l c T) (hi : IntsR W (.slice A0 n0 k0) c.gs) : CrR W c A0 n0 k0 := ⟨hi, by have := h.1.2; omega⟩
/-- So many of a table's directories may be searched by all. -/
def opnU (t : List Nd) (j : Nat) : List Nd := (t.take j).map opnN ++ t.drop j
theorem opnU_zero (t : List Nd) : opnU t 0 = t := rfl
theorem opnU_all (t : List Nd) : opnU t t.length = opnT t := by
  unfold opnU opnT
  rw [List.take_length, List.drop_length, List.append_nil]
theorem opnU_len (t : List Nd) (j : Nat) : (opnU t j).length = t.length := by
  unfold opnU
  rw [List.length_append, List.length_map, List.length_take, List.length_drop]
  omega
theorem opnU_at {t : List Nd} {j : Nat} {n : Nd} (h : t[j]? = some n) : tget (opnU t j) ((j : Int) + 1) = n := by
  have hj : j < t.length := (List.getElem?_eq_some_iff.1 h).1
  rw [tget_at (by rw [opnU_len]; exact hj)]
  have e : (opnU t j)[j]? = some n := by
    unfold opnU
    rw [List.getElem?_append_right (by rw [List.length_map, List.length_take]; omega), List.length_map, List.length_take, List.getElem?_drop, show j + (j - min j t.length) = j by omega]
    exact h
  exact (List.getElem?_eq_some_iff.1 e).2
theorem opnU_set {t : List Nd} {j : Nat} {n : Nd} (h : t[j]? = some n) : (opnU t j).set j (opnN n) = opnU t (j + 1) := by
  have hj : j < t.length := (List.getElem?_eq_some_iff.1 h).1
  unfold opnU
  have hl : ((t.take j).map opnN).length = j := by rw [List.length_map, List.length_take]; omega
  rw [List.set_append_right _ _ (by omega), hl, Nat.sub_self, take_snoc' h, List.map_append, List.append_assoc]
  congr 1
  have hd : t.drop j = n :: t.drop (j + 1) := by
    obtain ⟨h1, h2⟩ := List.getElem?_eq_some_iff.1 h
    rw [List.drop_eq_getElem_cons h1, h2]
  rw [hd]
  rfl
theorem opnU_same {t : List Nd} {j : Nat} {n : Nd} (h : t[j]? = some n) (hk : n.kind ≠ 2) : opnU t (j + 1) = opnU t j := by
  rw [← opnU_set h]
  have hj : j < t.length := (List.getElem?_eq_some_iff.1 h).1
  have e : opnN n = n := by unfold opnN; rw [if_neg hk]
  have h1 := opnU_at h
  rw [tget_at (by rw [opnU_len]; exact hj)] at h1
  rw [e]
  apply List.ext_getElem?
  intro m
  rw [List.getElem?_set]
  split
  · rename_i hm
    subst hm
    rw [if_pos (by rw [opnU_len]; exact hj), List.getElem?_eq_getElem (by rw [opnU_len]; exact hj), h1]
  · rfl
theorem opn_right {n : Nd} (h : rightP n) : rightP (opnN n) := by
  unfold opnN
  split
  · rename_i hk
    refine ⟨⟨⟨show (0 : Int) ≤ 511 by decide, show (511 : Int) ≤ 4095 by decide⟩, h.1.2⟩, ?_⟩
    rcases h.2 with q | q | q
    · exact absurd (q.1.symm.trans hk) (by decide)
    · exact .inr (.inl q)
    · exact absurd (q.1.symm.trans hk) (by decide)
  · exact h
set_option maxHeartbeats 8000000 in
theorem asroot_any (x0 : Int) (v1 : Value) (l : List Rw) (c : Wh) (A0 : Option Addr) (n0 k0 : Nat) (s : ByteArray) (f : Bool) (w : World) (h1 : RawsR w v1 l) (hl1 : l.length ≤ maxLen) (h2 : IntsR w (.slice A0 n0 k0) c.gs) :
    Calls Try.prog 9 #[.int .i64 x0, v1, .agg #[.int .i64 c.u, .int .i64 c.g, .slice A0 n0 k0], .string s, .bool f] w fun e w' => e = .returned (.bool true) ∧ Below w.heap.size w w' := by
  have hb0 := ba w (.cells #[.int .i64 c.u, .int .i64 c.g, .slice A0 n0 k0] 87)
  have hk0 := Blk.new w 87 #[.int .i64 c.u, .int .i64 c.g, .slice A0 n0 k0]
  obtain ⟨W1, hW1⟩ : ∃ W1, w.alloc (.cells #[.int .i64 c.u, .int .i64 c.g, .slice A0 n0 k0] 87) = W1 := ⟨_, rfl⟩
  rw [hW1] at hb0 hk0
  have HA := Lib.hid (awake11_any W1)
  have HR := Lib.hid (h1.below hb0)
  have HI := Lib.hid (h2.below hb0)
  have HL := Lib.hid hl1
  have HB0 := Lib.hid hb0
  have HK0 := Lib.hid hk0
  clear h1 h2 hl1 hb0 hk0
  go_enter Try.func9, Try.ntmps9
  go_wp2_with fail
  clear hW1
  refine HA.out.mono ?_
  rintro e w2 ⟨rfl, hb2⟩
  have hk2 := HK0.out.below hb2
  have HB2 := Lib.hid (bt hb2 HB0.out)
  have HK2 := Lib.hid hk2
  have HI2 := Lib.hid (HI.out.below hb2)
  have HBL := Lib.hid (built_any x0 v1 l c A0 n0 k0 w2 (HR.out.below hb2) HL.out HI2.out)
  obtain ⟨k0', k1, k2⟩ := hk2.c3
  clear hb2 hk2 HA HK0 HI HR HB0
  go_wp2_with fail
  refine HBL.out.mono ?_
  rintro e w3 ⟨hans, hb3⟩
  have HB3 := Lib.hid (bt hb3 HB2.out)
  have hk3 := HK2.out.below hb3
  have HI3 := Lib.hid (HI2.out.below hb3)
  clear k0' k1 k2 hb3 HBL
  rcases hans with ⟨rfl, -⟩ | ⟨g, T, rfl, hB, hT⟩
  · clear hk3
    go_wp2
    go_ret
    exact ⟨rfl, HB3.out⟩
  have HT3 := Lib.hid hT.ptr
  have HTG := Lib.hid hT
  have HTR := Lib.hid (isB_trr hB)
  have HCR3 := Lib.hid (isB_cre hB HI3.out)
  have HK3 := Lib.hid hk3
  obtain ⟨k0', k1, k2⟩ := hk3.c3
  clear hT hB hk3 HK2 HI2 HB2
  by_cases h100 : 100 < s.size
  · have y100 : (s.size : Int) > 100 := by omega
    clear h100
    go_wp2
    go_ret
    exact ⟨rfl, HB3.out⟩
  have y100 : ¬ (s.size : Int) > 100 := by omega
  clear h100
  obtain ⟨X, hX⟩ : ∃ X, resM T c (tl s) f = X := ⟨_, rfl⟩
  obtain ⟨F, E⟩ := X
  obtain ⟨X0, hX0⟩ : ∃ X, resM T wh0 (tl s) f = X := ⟨_, rfl⟩
  obtain ⟨F0, E0⟩ := X0
  have HX := Lib.hid (show Calls Try.prog 50 #[.pointer (some ⟨g, 0, none⟩), .agg #[.int .i64 c.u, .int .i64 c.g, .slice A0 n0 k0], .string s, .bool f] w3 fun e w' => e = .returned (.tuple #[.agg #[.int .i64 F.dir, .string (bA F.name), .int .i64 F.node], .int .i64 E]) ∧ Below (w3).heap.size w3 w' from by have h1 := resolve_any _ (T) c A0 n0 k0 (tl s) f w3 HT3.out HCR3.out (F, E) hX; rw [bA_tl] at h1; exact h1)
  have HX0 := Lib.hid (fun (W : World) (h : TabP W (.pointer (some ⟨g, 0, none⟩)) T) => show Calls Try.prog 50 #[.pointer (some ⟨g, 0, none⟩), .agg #[.int .i64 0, .int .i64 0, .slice none 0 0], .string s, .bool f] W fun e w' => e = .returned (.tuple #[.agg #[.int .i64 F0.dir, .string (bA F0.name), .int .i64 F0.node], .int .i64 E0]) ∧ Below W.heap.size W w' from by have h1 := resolve_any _ T wh0 none 0 0 (tl s) f W h (crr_nil W wh0 rfl) (F0, E0) hX0; rw [bA_tl] at h1; exact h1)
  have HEQ := Lib.hid (show (F, E) = (F0, E0) ∨ (F, E) = (Fo.zero, 13) from by have h := res_root T c (tl s) f; rw [hX, hX0] at h; exact h)
  have H13 := Lib.hid (show E0 ≠ 13 from by have h := res_root13 T (tl s) f; rw [hX0] at h; exact h)
  have HOP := Lib.hid (show resM (opnT T) c (tl s) f = (F0, E0) from (res_open T c (tl s) f).trans hX0)
  clear hX hX0
  go_wp2_with fail
  refine HX.out.mono ?_
  rintro e w4 ⟨rfl, hb4⟩
  have hbx := al hb4 (.cells #[.int .i64 F.dir, .string (bA F.name), .int .i64 F.node] 91)
  have HB4 := Lib.hid (bt hbx HB3.out)
  have HT4 := Lib.hid (HT3.out.below hbx)
  have HCR4 := Lib.hid (HCR3.out.ints.below hbx)
  have HFEW := Lib.hid (HCR3.out.few)
  have HK4 := Lib.hid (HK3.out.below hbx)
  have HF4 := Lib.hid (Blk.new w4 91 #[.int .i64 F.dir, .string (bA F.name), .int .i64 F.node])
  have HTG4 := Lib.hid (HTG.out.below hbx)
  clear k0' k1 k2 hb4 hbx HX HK3 HI3 HB3 HT3
  go_wp2_with fail
  refine (HX0.out _ HT4.out).mono ?_
  rintro e w5 ⟨rfl, hb5⟩
  have hbx := al hb5 (.cells #[.int .i64 F0.dir, .string (bA F0.name), .int .i64 F0.node] 91)
  have HB5 := Lib.hid (bt hbx HB4.out)
  have HT5 := Lib.hid (HT4.out.below hbx)
  have HTG5 := Lib.hid (HTG4.out.below hbx)
  have HCR5 := Lib.hid (HCR4.out.below hbx)
  have HK5 := Lib.hid (HK4.out.below hbx)
  have hf5 := HF4.out.below hbx
  have hg5 := Blk.new w5 91 #[.int .i64 F0.dir, .string (bA F0.name), .int .i64 F0.node]
  have HF5 := Lib.hid hf5
  have HG5 := Lib.hid hg5
  obtain ⟨b0, b1, b2⟩ := hf5.c3
  obtain ⟨d0, d1, d2⟩ := hg5.c3
  clear hb5 hbx hf5 hg5 HX0 HK4 HT4 HTG4 HCR4 HF4 HB4
  by_cases qE : E = 0
  · have qE1 : (E == 0) = true := by simpa using qE
    have hz : F = F0 ∧ E = E0 := by
      rcases HEQ.out with h | h
      · injection h with h1 h2; exact ⟨h1, h2⟩
      · injection h with h1 h2; exact absurd (h2.symm.trans qE) (by decide)
    obtain ⟨hz1, hz2⟩ := hz
    subst hz1
    have qE2 : (E0 == 0) = true := by rw [← hz2]; exact qE1
    have q2 : (F.dir == F.dir) = true := by simp
    have q3 : (F.node == F.node) = true := by simp
    have q4 : ((bA F.name).toList == (bA F.name).toList) = true := by simp
    clear qE hz2
    go_wp2
    go_ret
    exact ⟨ret_bool (by first | rfl | simp), HB5.out⟩
  have qE1 : (E == 0) = false := by simpa using qE
  obtain ⟨W5, hW5⟩ : ∃ W5, w5.alloc (.cells #[.int .i64 F0.dir, .string (bA F0.name), .int .i64 F0.node] 91) = W5 := ⟨_, rfl⟩
  rw [hW5] at HB5 HT5 HTG5 HCR5 HK5 HF5 HG5 b0 b1 b2 d0 d1 d2
  have HCL := Lib.hid (clone_any g T (fun _ => True) (fun b => W5.heap.size ≤ b) W5 HTG5.out (fun b hb => hb))
  clear qE
  go_wp2_with fail
  clear hW5
  refine HCL.out.mono ?_
  rintro e w6 ⟨rfl, ht6, hb6⟩
  have HU6 := Lib.hid (show TabR w6 W5.heap.size (opnU T 0) (fun b => W5.heap.size ≤ b) from ht6)
  have HB6 := Lib.hid hb6
  have HOK := Lib.hid (HTR.out.ok)
  obtain ⟨u, hu⟩ : ∃ u, W5.heap.size = u := ⟨_, rfl⟩
  have HUU := Lib.hid hu
  rw [hu] at HU6 ⊢
  clear ht6 hb6 HCL b0 b1 b2 d0 d1 d2 hu
  go_wp2
  go_loopg [19] (T.length + 1) (fun gh s19 wr => ∃ j : Nat, s19 = .int .i64 ((j : Int) + 1) ∧ j ≤ T.length ∧ gh = T.length + 1 - j ∧ TabR wr u (opnU T j) (fun b => u ≤ b) ∧ Below W5.heap.size W5 wr)
  case atStart => exact ⟨0, rfl, Nat.zero_le _, rfl, HU6.out, HB6.out⟩
  case round =>
    clear HU6 HB6
    obtain ⟨j, rfl, hj, rfl, hur, hbr⟩ := hrel
    have HUR := Lib.hid hur
    have HBR := Lib.hid hbr
    have HRM := Lib.hid (room_any _ T wr (HT5.out.below hbr))
    have hT24 : T.length ≤ 24 := HT5.out.ok.2
    clear hur hbr
    go_wp2_with fail
    refine HRM.out.mono ?_
    rintro e w7 ⟨rfl, rfl⟩
    clear HRM
    by_cases hlt : j < T.length
    · have hle : (j : Int) + 1 ≤ (T.length : Int) := by omega
      obtain ⟨n, hn⟩ : ∃ n, T[j]? = some n := ⟨_, List.getElem?_eq_getElem hlt⟩
      have HN := Lib.hid hn
      have HG := Lib.hid (get_any _ (opnU T j) ((j : Int) + 1) wr HUR.out.ptr)
      have htis : tis (opnU T j) ((j : Int) + 1) = decide (n.kind ≠ 0) := by unfold tis; rw [opnU_at hn]
      rw [opnU_at hn, htis] at HG
      have HTI := Lib.hid htis
      unfold nodeV at HG
      clear hn htis
      go_wp2_with fail
      refine HG.out.mono ?_
      rintro e w8 ⟨vd, ve, rfl, hd8, he8, -, -, hb8⟩
      obtain ⟨A5, k5, rfl⟩ := bytesT_form hd8
      obtain ⟨A6, k6, rfl⟩ := entsT_form he8
      have hbx := al hb8 (.cells (ndC n (.slice A5 n.data.length k5) (.slice A6 n.ents.length k6)) 39)
      have hbw := ba w8 (.cells (ndC n (.slice A5 n.data.length k5) (.slice A6 n.ents.length k6)) 39)
      have hn9 := Blk.new w8 39 (ndC n (.slice A5 n.data.length k5) (.slice A6 n.ents.length k6))
      have HD9 := Lib.hid (hd8.below hbw)
      have HE9 := Lib.hid (he8.below hbw)
      have HUR9 := Lib.hid (HUR.out.below hbx)
      have HB9 := Lib.hid (bt hbx HBR.out)
      have HZ := Lib.hid (show u < w8.heap.size from Nat.lt_of_lt_of_le HUR.out.lt hb8.size)
      obtain ⟨z, hz⟩ : ∃ z, w8.heap.size = z := ⟨_, rfl⟩
      obtain ⟨W9, hW9⟩ : ∃ W9, w8.alloc (.cells (ndC n (.slice A5 n.data.length k5) (.slice A6 n.ents.length k6)) 39) = W9 := ⟨_, rfl⟩
      rw [hW9] at hn9 HD9 HE9 HUR9 HB9
      rw [hz] at hn9 HZ
      have HN9 := Lib.hid hn9
      obtain ⟨n0', n1', n2', n3', n4', n5', n6'⟩ := hn9.c7
      clear hd8 he8 hb8 hbx hbw HG HUR HBR
      by_cases q2 : n.kind = 2
      · have e1 : decide (n.kind ≠ 0) = true := decide_eq_true (by omega)
        have e2 : (n.kind == 2) = true := by simpa using q2
        have hrp : rightP n := by
          rcases HOK.out n (List.mem_of_getElem? HN.out) with h | h
          · rw [h] at q2; exact absurd q2 (by decide)
          · exact h
        have hset := hn9.set7_1 (.int .i64 511)
        have hgs := grown_setCell W9 ⟨z, 1, none⟩ (.int .i64 511)
        have hop : opnN n = ⟨n.kind, 511, n.uid, n.gid, n.data, n.ents, n.target⟩ := by unfold opnN; rw [if_pos q2]
        have hrq := opn_right hrp
        rw [hop] at hrq
        have HUS := Lib.hid (HUR9.out.kind hgs (Nat.ne_of_lt HZ.out) hn9 (by decide) (by decide))
        have HDS := Lib.hid (HD9.out.other hgs (fun ad m k hv => by obtain ⟨cs, hk⟩ := HD9.out.2 ad m k hv; exact blk_ne hk hn9 (by decide)))
        have HES := Lib.hid (HE9.out.other hgs (fun ad m k hv => by obtain ⟨cs, hk⟩ := HE9.out.2 ad m k hv; exact blk_ne hk hn9 (by decide)))
        have HBS := Lib.hid (below_grown HB9.out hgs (by rw [HUU.out]; exact Nat.le_of_lt HZ.out))
        have HF := Lib.hid (right_few hrq)
        have hpt : putE (opnU T j) ((j : Int) + 1) (toB (rightP ⟨n.kind, 511, n.uid, n.gid, n.data, n.ents, n.target⟩)) = 0 := by
          unfold putE
          rw [HTI.out, e1, toB_true hrq]
          rfl
        have hac : actT (opnU T j) 0 ((j : Int) + 1) ⟨n.kind, 511, n.uid, n.gid, n.data, n.ents, n.target⟩ (toB (rightP ⟨n.kind, 511, n.uid, n.gid, n.data, n.ents, n.target⟩)) = opnU T (j + 1) := by
          unfold actT
          rw [if_pos rfl, if_pos ⟨by rw [HTI.out, e1], toB_true hrq⟩, setT_at, ← hop]
          exact opnU_set HN.out
        have HP := Lib.hid (put_any u (opnU T j) (fun b => u ≤ b) ((j : Int) + 1) ⟨n.kind, 511, n.uid, n.gid, n.data, n.ents, n.target⟩ _ _ (W9.setCell ⟨z, 1, none⟩ (.int .i64 511)) HUS.out HDS.out.1 HES.out.1 HF.out (fun b hb => by have h1 := HUS.out.lt; omega))
        rw [hpt, hac] at HP
        unfold nodeV at HP
        obtain ⟨f0, f1, f2, f3, f4, f5, f6⟩ := hn9.f7
        obtain ⟨t0, t1, t2, t3, t4, t5, t6⟩ := hset.c7
        clear q2 hrp hrq hset hgs hop hpt hac hn9
        go_wp2_with fail
        clear hW9 hz
        refine HP.out.mono ?_
        rintro e w10 ⟨rfl, htp, hgp⟩
        have HTP := Lib.hid htp
        have HBP := Lib.hid (below_grown HBS.out hgp (by rw [HUU.out]; exact Nat.le_refl _))
        clear htp hgp n0' n1' n2' n3' n4' n5' n6' f0 f1 f2 f3 f4 f5 f6 t0 t1 t2 t3 t4 t5 t6
        go_wp2
        go_roundg (T.length + 1 - (j + 1))
        case measure => omega
        case rel => exact ⟨j + 1, by go_num, by omega, rfl, HTP.out, HBP.out⟩
      · have e2 : (n.kind == 2) = false := by simpa using q2
        have HSM := Lib.hid (show TabR W9 u (opnU T (j + 1)) (fun b => u ≤ b) from by rw [opnU_same HN.out q2]; exact HUR9.out)
        clear q2 hn9
        by_cases q0 : n.kind = 0
        · have e1 : decide (n.kind ≠ 0) = false := decide_eq_false (fun q => q q0)
          have e3 : (n.kind != 0) = false := by simpa using q0
          clear q0
          go_wp2
          go_roundg (T.length + 1 - (j + 1))
          case measure => omega
          case rel => exact ⟨j + 1, by go_num, by omega, rfl, HSM.out, HB9.out⟩
        · have e1 : decide (n.kind ≠ 0) = true := decide_eq_true q0
          have e3 : (n.kind != 0) = true := by simpa using q0
          clear q0
          go_wp2
          go_roundg (T.length + 1 - (j + 1))
          case measure => omega
          case rel => exact ⟨j + 1, by go_num, by omega, rfl, HSM.out, HB9.out⟩
    · have hle : ¬ (j : Int) + 1 ≤ (T.length : Int) := by omega
      have HTE := Lib.hid (show TabR wr u (opnT T) (fun b => u ≤ b) from by have h := HUR.out; rw [show j = T.length by omega, opnU_all] at h; exact h)
      have HX3 := Lib.hid (show Calls Try.prog 50 #[.pointer (some ⟨u, 0, none⟩), .agg #[.int .i64 c.u, .int .i64 c.g, .slice A0 n0 k0], .string s, .bool f] wr fun e w' => e = .returned (.tuple #[.agg #[.int .i64 F0.dir, .string (bA F0.name), .int .i64 F0.node], .int .i64 E0]) ∧ Below (wr).heap.size wr w' from by have h1 := resolve_any _ (opnT T) c A0 n0 k0 (tl s) f wr HTE.out.ptr ⟨HCR5.out.below HBR.out, HFEW.out⟩ (F0, E0) HOP.out; rw [bA_tl] at h1; exact h1)
      have hkr := HK5.out.below HBR.out
      have hfr := HF5.out.below HBR.out
      have hgr := HG5.out.below HBR.out
      have HGR := Lib.hid hgr
      obtain ⟨k0', k1, k2⟩ := hkr.c3
      clear hkr hfr hgr
      go_wp2_with fail
      refine HX3.out.mono ?_
      rintro e w12 ⟨rfl, hb12⟩
      have hbx := al hb12 (.cells #[.int .i64 F0.dir, .string (bA F0.name), .int .i64 F0.node] 91)
      have hg12 := HGR.out.below hbx
      have hh12 := Blk.new w12 91 #[.int .i64 F0.dir, .string (bA F0.name), .int .i64 F0.node]
      have HB12 := Lib.hid (bt hbx (bt HBR.out HB5.out))
      obtain ⟨d0, d1, d2⟩ := hg12.c3
      obtain ⟨g0, g1, g2⟩ := hh12.c3
      clear hb12 hbx hg12 hh12 k0' k1 k2
      have y1 : (E0 != 13) = true := by simpa using H13.out
      have y2 : (E0 == E0) = true := by simp
      have q2 : (F0.dir == F0.dir) = true := by simp
      have q3 : (F0.node == F0.node) = true := by simp
      have q4 : ((bA F0.name).toList == (bA F0.name).toList) = true := by simp
      by_cases q13 : E = 13
      · have y3 : (E == 13) = true := by simpa using q13
        clear q13
        go_wp2
        go_ret
        exact ⟨ret_bool (by first | rfl | simp), HB12.out⟩
      · have y3 : (E == 13) = false := by simpa using q13
        have y4 : (E0 == E) = true := by
          rcases HEQ.out with h | h
          · injection h with h1 h2; rw [h2]; simp
          · injection h with h1 h2; exact absurd h2 q13
        clear q13
        go_wp2
        go_ret
        exact ⟨ret_bool (by first | rfl | simp), HB12.out⟩
end Go.Proofs.Ytnecnnajngfooaa
