/-
  The walk of ResolveDots: it answers true of whatever is told, of any path. The condition: what is told is no longer than a machine can hold.
-/
import Derived.Test.YtnecnnajngfooaaRsK
import Derived.Test.YtnecnnajngfooaaRsO
namespace Go.Proofs.Ytnecnnajngfooaa
open Go Go.RowKit
set_option maxRecDepth 100000

attribute [local go_sem] cell_off4 cell_blk4
theorem one_at {t : ByteArray} {k : Nat} (h : k < t.size) : tl (t.extract k (k + 1)) = [t[k]] := by
  rw [tl_ext, take_snoc' (tl_at h), List.drop_append_of_le_length (by rw [List.length_take, tl_len]; omega), List.drop_eq_nil_of_le (by rw [List.length_take]; omega)]
  rfl
theorem sl_run (s : ByteArray) (n : Nat) (h : n + 1 ≤ s.size) (w : World) : (Instr.slice 9 (.string s) (some (.int .i64 (n : Int))) (some (.int .i64 ((n : Int) + 1))) none).run Try.prog w = .ok (.string (s.extract n (n + 1))) w := by
  have e := run_slice_string w 9 s .i64 .i64 (n : Int) ((n : Int) + 1) Try.underlying9 (by omega) (by omega) (by omega)
  rwa [show ((n : Int)).toNat = n by omega, show ((n : Int) + 1).toNat = n + 1 by omega] at e
theorem isB_tree {m : Int} {l : List Rw} {c : Wh} {T : List Nd} (h : isB m l c T) : Trx T := (tre_all h.2).1
set_option maxHeartbeats 8000000 in
theorem dots_any (x0 : Int) (v1 : Value) (l : List Rw) (s : ByteArray) (f : Bool) (w : World) (h1 : RawsR w v1 l) (hl1 : l.length ≤ maxLen) :
    Calls Try.prog 10 #[.int .i64 x0, v1, .string s, .bool f] w fun e w' => e = .returned (.bool true) ∧ Below w.heap.size w w' := by
  have HA := Lib.hid (awake11_any w)
  have HR := Lib.hid h1
  have HL := Lib.hid hl1
  clear h1 hl1
  go_enter Try.func10, Try.ntmps10
  go_wp2_with fail
  refine HA.out.mono ?_
  rintro e w1 ⟨rfl, hb1⟩
  have hbx := al hb1 (.cells #[.int .i64 0, .int .i64 0, .slice none 0 0] 87)
  have HK := Lib.hid (Blk.new w1 87 #[.int .i64 0, .int .i64 0, .slice none 0 0])
  have HB := Lib.hid hbx
  have HBL := Lib.hid (show Calls Try.prog 49 #[.int .i64 x0, v1, .agg #[.int .i64 0, .int .i64 0, .slice none 0 0]] _ _ from built_any x0 v1 l wh0 none 0 0 _ (HR.out.below hbx) HL.out (IntsR.nil _))
  clear hb1 hbx HA
  go_wp2_with fail
  refine HBL.out.mono ?_
  rintro e w2 ⟨hans, hb2⟩
  have HB2 := Lib.hid (bt hb2 HB.out)
  have hk2 := HK.out.below hb2
  clear hb2
  rcases hans with ⟨rfl, -⟩ | ⟨g, T, rfl, hB, hT⟩
  · clear hk2
    go_wp2
    go_ret
    exact ⟨rfl, HB2.out⟩
  have HT := Lib.hid hT.ptr
  have HKD := Lib.hid (isB_tree hB).one
  have HK2 := Lib.hid hk2
  obtain ⟨k0, k1, k2⟩ := hk2.c3
  generalize w1.heap.size = x at k0 k1 k2 HK2 ⊢
  clear hT hB hk2 HBL HK HB
  by_cases h20 : 20 < s.size
  · have y20 : (s.size : Int) > 20 := by omega
    clear h20
    go_wp2
    go_ret
    exact ⟨rfl, HB2.out⟩
  have y20 : ¬ (s.size : Int) > 20 := by omega
  have hs20 : s.size ≤ 20 := by omega
  clear h20
  go_wp2
  go_loopg [13, 14] s.size (fun gh s13 s14 wr => ∃ (k : Nat) (cur : ByteArray), s14 = .int .i64 k ∧ s13 = .string cur ∧ k ≤ s.size ∧ gh = s.size - k ∧ tl cur = dotP ((tl s).take k) ∧ cur.size ≤ 3 * k ∧ w2 = wr)
  case atStart => exact ⟨0, ⟨#[]⟩, rfl, rfl, Nat.zero_le _, rfl, rfl, Nat.zero_le _, rfl⟩
  case round =>
    obtain ⟨k, cur, rfl, rfl, hk, rfl, hc, hcz, rfl⟩ := hrel
    have HC := Lib.hid hc
    clear hc
    by_cases hlt : k < s.size
    · have hlt' : (k : Int) < (s.size : Int) := by omega
      have ho := one_at hlt
      obtain ⟨b, hb⟩ : ∃ b, s[k] = b := ⟨_, rfl⟩
      rw [hb] at ho
      obtain ⟨y, hy⟩ : ∃ y, s.extract k (k + 1) = y := ⟨_, rfl⟩
      have hrun := sl_run s k (by omega)
      rw [hy] at ho hrun
      have hyz : y.size = 1 := by rw [← tl_len, ho]; rfl
      have hyz' : y.size ≤ 1 := by omega
      have hcz' : cur.size ≤ 60 := by omega
      have htk : (tl s).take (k + 1) = (tl s).take k ++ [b] := by rw [take_snoc' (tl_at hlt), hb]
      have hsz : (cur ++ y).size = cur.size + 1 := by rw [← tl_len, tl_app, List.length_append, tl_len, tl_len, hyz]
      have hsz' : (cur ++ y).size ≤ 61 := by omega
      by_cases h47 : b = 47
      · subst h47
        have HN := Lib.hid (show tl (cur ++ y ++ ⟨#[46, 47]⟩) = dotP ((tl s).take (k + 1)) by
          rw [htk, dotP_app, if_pos rfl, tl_app, tl_app, ho, HC.out, List.append_assoc]
          rfl)
        have HSZ := Lib.hid (show (cur ++ y ++ ⟨#[46, 47]⟩).size ≤ 3 * (k + 1) by rw [← tl_len, tl_app, List.length_append, tl_len]; show (cur ++ y).size + 2 ≤ _; omega)
        have HCZ := Lib.hid hcz
        clear ho hy hyz htk hsz hcz
        go_wp2
        go_roundg (s.size - (k + 1))
        case measure => omega
        case rel => exact ⟨k + 1, _, by go_num, rfl, by omega, rfl, HN.out, HSZ.out, rfl⟩
      · have hqb : ((b.toNat : Int) == 47) = false := co_ne (a := b) (b := 47) h47
        have HN := Lib.hid (show tl (cur ++ y) = dotP ((tl s).take (k + 1)) by
          rw [htk, dotP_app, if_neg h47, tl_app, ho, HC.out])
        have HSZ := Lib.hid (show (cur ++ y).size ≤ 3 * (k + 1) by omega)
        have HCZ := Lib.hid hcz
        clear ho hy hyz htk hsz hcz h47
        go_wp2
        go_roundg (s.size - (k + 1))
        case measure => omega
        case rel => exact ⟨k + 1, _, by go_num, rfl, by omega, rfl, HN.out, HSZ.out, rfl⟩
    · have hlt' : ¬ (k : Int) < (s.size : Int) := by omega
      have HCU := Lib.hid (show cur = bA (dotP (tl s)) by
        have h := HC.out
        rw [List.take_of_length_le (by rw [tl_len]; omega)] at h
        exact bA_eq h)
      have HSL := Lib.hid (show (⟨#[47]⟩ ++ s : ByteArray) = bA (47 :: tl s) from bA_eq (by rw [tl_app]; rfl))
      have hsl : (⟨#[47]⟩ ++ s : ByteArray).size ≤ 30 := by rw [← tl_len, tl_app, List.length_append, tl_len]; show 1 + s.size ≤ _; omega
      have HPL := Lib.hid (show (tl s).length ≤ 20 by rw [tl_len]; exact hs20)
      obtain ⟨X, hX⟩ : ∃ X, resM T wh0 (tl s) f = X := ⟨_, rfl⟩
      have HX1 := Lib.hid (fun (W : World) (h : TabP W (.pointer (some ⟨g, 0, none⟩)) T) => show Calls Try.prog 50 #[.pointer (some ⟨g, 0, none⟩), .agg #[.int .i64 0, .int .i64 0, .slice none 0 0], .string s, .bool f] W fun e w' => e = .returned (.tuple #[.agg #[.int .i64 X.1.dir, .string (bA X.1.name), .int .i64 X.1.node], .int .i64 X.2]) ∧ Below W.heap.size W w' from by have h1 := resolve_any _ T wh0 none 0 0 (tl s) f W h (crr_nil W wh0 rfl) X hX; rw [bA_tl] at h1; exact h1)
      have HX2 := Lib.hid (fun (W : World) (h : TabP W (.pointer (some ⟨g, 0, none⟩)) T) => show Calls Try.prog 50 #[.pointer (some ⟨g, 0, none⟩), .agg #[.int .i64 0, .int .i64 0, .slice none 0 0], .string cur, .bool f] W fun e w' => e = .returned (.tuple #[.agg #[.int .i64 X.1.dir, .string (bA X.1.name), .int .i64 X.1.node], .int .i64 X.2]) ∧ Below W.heap.size W w' from by have h1 := resolve_any _ T wh0 none 0 0 (dotP (tl s)) f W h (crr_nil W wh0 rfl) X ((res_dots HKD.out f HPL.out).trans hX); rw [← HCU.out] at h1; exact h1)
      by_cases hp : tl s = []
      · have HX3 := Lib.hid (fun (W : World) (h : TabP W (.pointer (some ⟨g, 0, none⟩)) T) => show Calls Try.prog 50 #[.pointer (some ⟨g, 0, none⟩), .agg #[.int .i64 0, .int .i64 0, .slice none 0 0], .string (⟨#[47]⟩ ++ s), .bool f] W fun e w' => e = .returned (.tuple #[.agg #[.int .i64 1, .string ⟨#[]⟩, .int .i64 1], .int .i64 0]) ∧ Below W.heap.size W w' from by have h1 := resolve_any _ T wh0 none 0 0 (47 :: tl s) f W h (crr_nil W wh0 rfl) (⟨1, [], 1⟩, 0) (by rw [hp]; exact res_top HKD.out wh0 f); rw [← HSL.out] at h1; exact h1)
        have HX0 := Lib.hid (show X.2 = 2 by rw [← hX, hp]; rfl)
        have e1 : (s.toList == ([] : List UInt8)) = true := by rw [(empty_iff s).2 (by rw [← tl_len, hp]; rfl)]; rfl
        generalize X.1.dir = a at HX1 HX2
        generalize X.1.name = b at HX1 HX2
        generalize X.1.node = c at HX1 HX2
        generalize X.2 = e2 at HX1 HX2 HX0
        have he2 := HX0.out
        subst he2
        clear hX hp hk hcz
        go_wp2_with fail
        refine (HX1.out _ HT.out).mono ?_
        rintro e w3 ⟨rfl, hb⟩
        have hbx := al hb (.cells #[.int .i64 a, .string (bA b), .int .i64 c] 91)
        have hT := HT.out.below hbx
        have HT3 := Lib.hid hT
        have hK := HK2.out.below hbx
        have HK3 := Lib.hid hK
        have HB3 := Lib.hid (bt hbx HB2.out)
        have HF3_3 := Lib.hid (Blk.new w3 91 #[.int .i64 a, .string (bA b), .int .i64 c])
        clear k0 k1 k2
        obtain ⟨k0, k1, k2⟩ := hK.c3
        clear hb hbx hT hK
        go_wp2_with fail
        refine (HX2.out _ HT3.out).mono ?_
        rintro e w4 ⟨rfl, hb⟩
        have hbx := al hb (.cells #[.int .i64 a, .string (bA b), .int .i64 c] 91)
        have hT := HT3.out.below hbx
        have HT4 := Lib.hid hT
        have hK := HK3.out.below hbx
        have HK4 := Lib.hid hK
        have HB4 := Lib.hid (bt hbx HB3.out)
        have HF3_4 := Lib.hid (HF3_3.out.below hbx)
        have HF4_4 := Lib.hid (Blk.new w4 91 #[.int .i64 a, .string (bA b), .int .i64 c])
        clear k0 k1 k2
        obtain ⟨k0, k1, k2⟩ := hK.c3
        clear hb hbx hT hK
        go_wp2_with fail
        refine (HX3.out _ HT4.out).mono ?_
        rintro e w5 ⟨rfl, hb⟩
        have hbx := al hb (.cells #[.int .i64 1, .string ⟨#[]⟩, .int .i64 1] 91)
        have HB5 := Lib.hid (bt hbx HB4.out)
        have HF3_5 := Lib.hid (HF3_4.out.below hbx)
        have HF4_5 := Lib.hid (HF4_4.out.below hbx)
        have HF5_5 := Lib.hid (Blk.new w5 91 #[.int .i64 1, .string ⟨#[]⟩, .int .i64 1])
        clear hb hbx k0 k1 k2
        obtain ⟨b30, b31, b32⟩ := HF3_5.out.c3
        obtain ⟨b40, b41, b42⟩ := HF4_5.out.c3
        obtain ⟨b50, b51, b52⟩ := HF5_5.out.c3
        go_wp2
        go_ret
        exact ⟨rfl, HB5.out⟩
      · have HX3 := Lib.hid (fun (W : World) (h : TabP W (.pointer (some ⟨g, 0, none⟩)) T) => show Calls Try.prog 50 #[.pointer (some ⟨g, 0, none⟩), .agg #[.int .i64 0, .int .i64 0, .slice none 0 0], .string (⟨#[47]⟩ ++ s), .bool f] W fun e w' => e = .returned (.tuple #[.agg #[.int .i64 X.1.dir, .string (bA X.1.name), .int .i64 X.1.node], .int .i64 X.2]) ∧ Below W.heap.size W w' from by have h1 := resolve_any _ T wh0 none 0 0 (47 :: tl s) f W h (crr_nil W wh0 rfl) X ((res_slash HKD.out f hp HPL.out).trans hX); rw [← HSL.out] at h1; exact h1)
        have e1 : (s.toList == ([] : List UInt8)) = false := by
          rw [beq_eq_false_iff_ne]
          intro q
          exact hp (List.eq_nil_of_length_eq_zero (by rw [tl_len]; exact (empty_iff s).1 q))
        generalize X.1.dir = a at HX1 HX2 HX3
        generalize X.1.name = b at HX1 HX2 HX3
        generalize X.1.node = c at HX1 HX2 HX3
        generalize X.2 = e2 at HX1 HX2 HX3
        have q1 : (e2 == e2) = true := by simp
        have q2 : (a == a) = true := by simp
        have q3 : (c == c) = true := by simp
        have q4 : ((bA b).toList == (bA b).toList) = true := by simp
        clear hX hp hk hcz
        go_wp2_with fail
        refine (HX1.out _ HT.out).mono ?_
        rintro e w3 ⟨rfl, hb⟩
        have hbx := al hb (.cells #[.int .i64 a, .string (bA b), .int .i64 c] 91)
        have hT := HT.out.below hbx
        have HT3 := Lib.hid hT
        have hK := HK2.out.below hbx
        have HK3 := Lib.hid hK
        have HB3 := Lib.hid (bt hbx HB2.out)
        have HF3_3 := Lib.hid (Blk.new w3 91 #[.int .i64 a, .string (bA b), .int .i64 c])
        clear k0 k1 k2
        obtain ⟨k0, k1, k2⟩ := hK.c3
        clear hb hbx hT hK
        go_wp2_with fail
        refine (HX2.out _ HT3.out).mono ?_
        rintro e w4 ⟨rfl, hb⟩
        have hbx := al hb (.cells #[.int .i64 a, .string (bA b), .int .i64 c] 91)
        have hT := HT3.out.below hbx
        have HT4 := Lib.hid hT
        have hK := HK3.out.below hbx
        have HK4 := Lib.hid hK
        have HB4 := Lib.hid (bt hbx HB3.out)
        have HF3_4 := Lib.hid (HF3_3.out.below hbx)
        have HF4_4 := Lib.hid (Blk.new w4 91 #[.int .i64 a, .string (bA b), .int .i64 c])
        clear k0 k1 k2
        obtain ⟨k0, k1, k2⟩ := hK.c3
        clear hb hbx hT hK
        go_wp2_with fail
        refine (HX3.out _ HT4.out).mono ?_
        rintro e w5 ⟨rfl, hb⟩
        have hbx := al hb (.cells #[.int .i64 a, .string (bA b), .int .i64 c] 91)
        have HB5 := Lib.hid (bt hbx HB4.out)
        have HF3_5 := Lib.hid (HF3_4.out.below hbx)
        have HF4_5 := Lib.hid (HF4_4.out.below hbx)
        have HF5_5 := Lib.hid (Blk.new w5 91 #[.int .i64 a, .string (bA b), .int .i64 c])
        clear hb hbx k0 k1 k2
        obtain ⟨b30, b31, b32⟩ := HF3_5.out.c3
        obtain ⟨b40, b41, b42⟩ := HF4_5.out.c3
        obtain ⟨b50, b51, b52⟩ := HF5_5.out.c3
        go_wp2
        go_ret
        exact ⟨ret_bool (by first | rfl | simp), HB5.out⟩
end Go.Proofs.Ytnecnnajngfooaa
