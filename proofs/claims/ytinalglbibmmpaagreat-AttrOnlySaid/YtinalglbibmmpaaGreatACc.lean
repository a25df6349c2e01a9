/-
  Package attr's change: what becomes of the node to which a path leads. The conditions are said at each.
-/
import Derived.Test.YtinalglbibmmpaaGreatACb
import Derived.Test.YtinalglbibmmpaaGreatLP
namespace Go.Proofs.YtinalglbibmmpaaGreat
open Go Go.RowKit
set_option maxRecDepth 100000

attribute [local go_sem] cell_off4 cell_blk4
theorem cf_chm (args : Array Value) (W : World) : (callFunc 29 args).run Tryz.prog W = .ok (.enter 29 args) W := by
  first | (simp only [go_sem]; done) | rfl
theorem cf_chw (args : Array Value) (W : World) : (callFunc 34 args).run Tryz.prog W = .ok (.enter 34 args) W := by
  first | (simp only [go_sem]; done) | rfl
/-- What a closure does to a node behind a pointer, in any world behind w. -/
def ClR (w : World) (F : FuncId) (caps : Array Value) (E : Nd → Int) (N : Nd → Nd) : Prop := ∀ (n : Nd) (vd ve : Value) (z : Nat) (W : World), Below w.heap.size w W → w.heap.size ≤ z → Blk W z 55 (ndC n vd ve) →
  Calls Tryz.prog F (#[.pointer (some ⟨z, 0, none⟩)] ++ caps) W fun e w' => e = .returned (.int .i64 (E n)) ∧ Blk w' z 55 (ndC (if E n = 0 then N n else n) vd ve) ∧ W.grownBy w' (some z)
theorem sta_res {t : List Nd} {c : Wh} {p : Nm} {f : Bool} {R : Fo} {e : Int} (h : resM t c p f = (R, e)) (hz : (staM t c p f).2 ≠ 0) : (e ≠ 0 ∧ (staM t c p f).2 = e) ∨ (e = 0 ∧ tis t R.node = false ∧ (staM t c p f).2 = 2) := by
  unfold staM at hz ⊢
  rw [h] at hz ⊢
  by_cases q : e = 0
  · right
    cases hi : tis t R.node with
    | true =>
      rw [staF_good (R := (R, e)) q hi] at hz
      exact absurd rfl hz
    | false =>
      refine ⟨q, rfl, ?_⟩
      unfold staF
      rw [if_neg (fun r => r q), if_neg (by show ¬ tis t R.node = true; rw [hi]; decide)]
  · left
    rw [staF_err (R := (R, e)) q]
    exact ⟨q, rfl⟩
set_option maxHeartbeats 8000000 in
theorem change_err (v : Value) (t : List Nd) (c : Wh) (A0 : Option Addr) (m k : Nat) (p : Nm) (f : Bool) (F : FuncId) (caps : Array Value) (w : World) (h : TabP w v t) (hc : CrR w c A0 m k) (hz : (staM t c p f).2 ≠ 0) :
    Calls Tryz.prog 28 #[v, .agg #[.int .i64 c.u, .int .i64 c.g, .slice A0 m k], .string (bA p), .bool f, .func (.func F) #[] caps] w fun e w' => e = .returned (.int .i64 (staM t c p f).2) ∧ Below w.heap.size w w' := by
  have hb1 := ba w (.cells #[.int .i64 c.u, .int .i64 c.g, .slice A0 m k] 25)
  have hk1 := Blk.new w 25 #[.int .i64 c.u, .int .i64 c.g, .slice A0 m k]
  obtain ⟨W1, hW1⟩ : ∃ W1, w.alloc (.cells #[.int .i64 c.u, .int .i64 c.g, .slice A0 m k] 25) = W1 := ⟨_, rfl⟩
  rw [hW1] at hb1 hk1
  obtain ⟨RE, hRE⟩ : ∃ RE, resM t c p f = RE := ⟨_, rfl⟩
  obtain ⟨R, e0⟩ := RE
  have HRS := Lib.hid (resolve_any v t c A0 m k p f W1 (h.below hb1) (hc.below hb1) (R, e0) hRE)
  have HS := Lib.hid (sta_res hRE hz)
  have HT := Lib.hid (h.below hb1)
  have HB1 := Lib.hid hb1
  obtain ⟨X, hX⟩ : ∃ X, (staM t c p f).2 = X := ⟨_, rfl⟩
  rw [hX] at HS ⊢
  clear h hc hz hRE hb1 hX
  obtain ⟨k0, k1, k2⟩ := hk1.c3
  clear hk1
  go_enter Tryz.func28, Tryz.ntmps28
  go_wp2_with fail
  clear hW1
  refine HRS.out.mono ?_
  rintro e w3 ⟨rfl, hb3⟩
  have hbx := al hb3 (.cells #[.int .i64 R.dir, .string (bA R.name), .int .i64 R.node] 103)
  have HB4 := Lib.hid (bt hbx HB1.out)
  have HT4 := Lib.hid (HT.out.below hbx)
  have hf4 := Blk.new w3 103 #[.int .i64 R.dir, .string (bA R.name), .int .i64 R.node]
  obtain ⟨y, hy⟩ : ∃ y, w3.heap.size = y := ⟨_, rfl⟩
  obtain ⟨W4, hW4⟩ : ∃ W4, w3.alloc (.cells #[.int .i64 R.dir, .string (bA R.name), .int .i64 R.node] 103) = W4 := ⟨_, rfl⟩
  rw [hW4] at HB4 HT4 hf4
  rw [hy] at hf4
  clear hb3 hbx k0 k1 k2 HRS HT
  rcases HS.out with ⟨qE, hX⟩ | ⟨qE, hi, hX⟩
  · have qE1 : (e0 != 0) = true := by simpa using qE
    clear qE hf4
    go_wp2
    go_ret
    exact ⟨by rw [hX]; rfl, HB4.out⟩
  · have qE1 : (e0 != 0) = false := by simpa using qE
    obtain ⟨b0, b1, b2⟩ := hf4.c3
    have HG := Lib.hid (get_any v t R.node W4 HT4.out)
    rw [hi] at HG
    generalize tget t R.node = n at HG
    clear qE hf4 hi
    go_wp2_with fail
    clear hW4 hy
    refine HG.out.mono ?_
    rintro e w5 ⟨vd, ve, rfl, hd, he, -, -, hb5⟩
    have HB5 := Lib.hid (bt (al hb5 (.cells (ndC n vd ve) 55)) HB4.out)
    obtain ⟨A1, c1, hv1⟩ := bytesT_form hd
    obtain ⟨A2, c2, hv2⟩ := entsT_form he
    subst hv1 hv2
    unfold nodeV
    unfold ndC at HB5
    clear hd he hb5 b0 b1 b2 HG
    go_wp2
    go_ret
    exact ⟨by rw [hX]; rfl, HB5.out⟩
set_option maxHeartbeats 16000000 in
theorem change_go (g : Nat) (t : List Nd) (P : Nat → Prop) (c : Wh) (A0 : Option Addr) (m k : Nat) (p : Nm) (f : Bool) (F : FuncId) (caps : Array Value) (E : Nd → Int) (N : Nd → Nd) (w : World) (h : TabR w g t P) (hc : CrR w c A0 m k) (hP : ∀ b, w.heap.size ≤ b → P b) (hF : ClR w F caps E N) (hcf : ∀ (args : Array Value) (W : World), (callFunc F args).run Tryz.prog W = .ok (.enter F args) W) (hz : (staM t c p f).2 = 0) (i : Int) (hi : (staM t c p f).1.node = i) (hN : E (tget t i) = 0 → rightP (N (tget t i))) (hD : (N (tget t i)).data = (tget t i).data) (hE : (N (tget t i)).ents = (tget t i).ents) :
    Calls Tryz.prog 28 #[.pointer (some ⟨g, 0, none⟩), .agg #[.int .i64 c.u, .int .i64 c.g, .slice A0 m k], .string (bA p), .bool f, .func (.func F) #[] caps] w fun e w' => e = .returned (.int .i64 (E (tget t i))) ∧ TabR w' g (if E (tget t i) = 0 then setT t i (N (tget t i)) else t) P ∧ w.grownBy w' (some g) := by
  have hb1 := ba w (.cells #[.int .i64 c.u, .int .i64 c.g, .slice A0 m k] 25)
  have hk1 := Blk.new w 25 #[.int .i64 c.u, .int .i64 c.g, .slice A0 m k]
  obtain ⟨W1, hW1⟩ : ∃ W1, w.alloc (.cells #[.int .i64 c.u, .int .i64 c.g, .slice A0 m k] 25) = W1 := ⟨_, rfl⟩
  rw [hW1] at hb1 hk1
  obtain ⟨s1, s2, s3, -⟩ := staM_zero hz
  rw [hi] at s2 s3
  obtain ⟨RE, hRE⟩ : ∃ RE, resM t c p f = RE := ⟨_, rfl⟩
  obtain ⟨R, e0⟩ := RE
  have HRS := Lib.hid (resolve_any (.pointer (some ⟨g, 0, none⟩)) t c A0 m k p f W1 (h.below hb1).ptr (hc.below hb1) (R, e0) hRE)
  rw [hRE] at s1 s3
  have e1 : e0 = 0 := s1
  have e2 : R.node = i := s3
  subst e1
  subst e2
  have HI := Lib.hid s2
  have HT := Lib.hid h
  have HB1 := Lib.hid hb1
  have HP := Lib.hid hP
  have HN := Lib.hid hN
  have HND := Lib.hid hD
  have HNE := Lib.hid hE
  have HCL := Lib.hid hF
  obtain ⟨T2, hT2⟩ : ∃ T2, (if E (tget t R.node) = 0 then setT t R.node (N (tget t R.node)) else t) = T2 := ⟨_, rfl⟩
  rw [hT2]
  obtain ⟨EE, hEE⟩ : ∃ EE, E (tget t R.node) = EE := ⟨_, rfl⟩
  rw [hEE] at hT2 ⊢
  have HEE := Lib.hid hEE
  have HT2 := Lib.hid hT2
  clear h hc hz hRE hb1 hP hN hD hE hF s1 s2 s3 hi hEE hT2
  obtain ⟨k0, k1, k2⟩ := hk1.c3
  clear hk1
  go_enter Tryz.func28, Tryz.ntmps28
  go_wp2_with fail
  clear hW1
  refine HRS.out.mono ?_
  rintro e w3 ⟨rfl, hb3⟩
  have hbx := al hb3 (.cells #[.int .i64 R.dir, .string (bA R.name), .int .i64 R.node] 103)
  have HB4 := Lib.hid (bt hbx HB1.out)
  have hf4 := Blk.new w3 103 #[.int .i64 R.dir, .string (bA R.name), .int .i64 R.node]
  obtain ⟨y, hy⟩ : ∃ y, w3.heap.size = y := ⟨_, rfl⟩
  obtain ⟨W4, hW4⟩ : ∃ W4, w3.alloc (.cells #[.int .i64 R.dir, .string (bA R.name), .int .i64 R.node] 103) = W4 := ⟨_, rfl⟩
  rw [hW4] at HB4 hf4
  rw [hy] at hf4
  have HF4 := Lib.hid hf4
  have HT4 := Lib.hid (HT.out.below HB4.out)
  clear hb3 hbx k0 k1 k2 HRS
  obtain ⟨b0, b1, b2⟩ := hf4.c3
  have HG := Lib.hid (get_any (.pointer (some ⟨g, 0, none⟩)) t R.node W4 HT4.out.ptr)
  rw [HI.out] at HG
  have HFW := Lib.hid (fun h => right_few (HN.out h))
  generalize tget t R.node = n at HG HN HND HNE HFW HEE HT2
  rw [HEE.out] at HN HFW
  clear hf4
  go_wp2_with fail
  clear hW4 hy
  refine HG.out.mono ?_
  rintro e w5 ⟨vd, ve, rfl, hd, he, -, -, hb5⟩
  have hbx := al hb5 (.cells (ndC n vd ve) 55)
  have hkn := Blk.new w5 55 (ndC n vd ve)
  have hd6 := hd.below (ba w5 (.cells (ndC n vd ve) 55))
  have he6 := he.below (ba w5 (.cells (ndC n vd ve) 55))
  have HB6 := Lib.hid (bt hbx HB4.out)
  have HF6 := Lib.hid (HF4.out.below hbx)
  have HT6 := Lib.hid (HT4.out.below hbx)
  have HZ := Lib.hid (show w.heap.size ≤ w5.heap.size from (bt hb5 HB4.out).size)
  have HYZ := Lib.hid (show y ≠ w5.heap.size from Nat.ne_of_lt (HF4.out.below hb5).lt)
  have HGZ := Lib.hid (show g ≠ w5.heap.size from Nat.ne_of_lt (HT4.out.below hb5).lt)
  obtain ⟨A1, c1, hv1⟩ := bytesT_form hd
  obtain ⟨A2, c2, hv2⟩ := entsT_form he
  subst hv1 hv2
  obtain ⟨z, hz⟩ : ∃ z, w5.heap.size = z := ⟨_, rfl⟩
  obtain ⟨W6, hW6⟩ : ∃ W6, w5.alloc (.cells (ndC n (.slice A1 n.data.length c1) (.slice A2 n.ents.length c2)) 55) = W6 := ⟨_, rfl⟩
  rw [hW6] at HB6 HF6 HT6 hkn hd6 he6
  rw [hz] at HZ HYZ HGZ hkn
  have HK6 := Lib.hid hkn
  have HD6 := Lib.hid hd6
  have HE6 := Lib.hid he6
  have HC6 := Lib.hid (HCL.out n _ _ z W6 HB6.out HZ.out hkn)
  unfold nodeV
  unfold ndC at hW6
  clear hd he hb5 hbx hkn hd6 he6 b0 b1 b2 HG HCL
  go_wp2_with fail
  clear hW6 hz hcf
  refine HC6.out.mono ?_
  rintro e w7 ⟨rfl, hk7, hg7⟩
  have hf7 := HF6.out.kept hg7 (some_ne HYZ.out)
  have HT7 := Lib.hid (show TabR w7 g t P from HT6.out.kind hg7 HGZ.out HK6.out (by decide) (by decide))
  have HD7 := Lib.hid (HD6.out.other hg7 (fun ad n c hv => by obtain ⟨cs, h⟩ := HD6.out.2 ad n c hv; exact blk_ne h HK6.out (by decide)))
  have HE7 := Lib.hid (HE6.out.other hg7 (fun ad n c hv => by obtain ⟨cs, h⟩ := HE6.out.2 ad n c hv; exact blk_ne h HK6.out (by decide)))
  have HB7 := Lib.hid (below_grown HB6.out hg7 HZ.out)
  rw [HEE.out] at hk7 ⊢
  clear hg7 HC6
  by_cases q : EE = 0
  · have q1 : (EE != 0) = false := by simpa using q
    rw [if_pos q] at hk7
    have HRT := Lib.hid (HN.out q)
    have HPT := Lib.hid (put_any g t P R.node (N n) _ _ w7 HT7.out (by rw [HND.out]; exact HD7.out.1) (by rw [HNE.out]; exact HE7.out.1) (HFW.out q) (fun b r => HP.out b (Nat.le_trans HB7.out.size r)))
    have HFI := Lib.hid (show actT t 0 R.node (N n) (toB (rightP (N n))) = T2 from by rw [← HT2.out, if_pos q, actT, if_pos rfl, if_pos ⟨HI.out, toB_true HRT.out⟩])
    have HPE := Lib.hid (show putE t R.node (toB (rightP (N n))) = EE from by rw [putE, if_neg (by rw [HI.out]; decide), toB_true HRT.out, if_neg (by decide)]; exact q.symm)
    rw [HPE.out, HFI.out] at HPT
    obtain ⟨n2, hn2⟩ : ∃ n2, N n = n2 := ⟨_, rfl⟩
    rw [hn2] at hk7 HPT
    obtain ⟨x0, x1, x2, x3, x4, x5, x6⟩ := hk7.c7
    obtain ⟨b0, b1, b2⟩ := hf7.c3
    unfold nodeV at HPT
    clear q hk7 hf7 HN HFW HRT HPE HND HNE hn2 HFI HT2
    go_wp2_with fail
    refine HPT.out.mono ?_
    rintro e w8 ⟨rfl, h8, hg8⟩
    have H8 := Lib.hid h8
    have HG8 := Lib.hid (grown_trans (grown_below HB7.out (some g)) hg8)
    clear h8 hg8
    go_wp2
    go_ret
    exact ⟨rfl, H8.out, HG8.out⟩
  · have q1 : (EE != 0) = true := by simpa using q
    have HFI := Lib.hid (show T2 = t from by rw [← HT2.out, if_neg q])
    clear q hk7 hf7 HN HFW HND HNE
    go_wp2
    go_ret
    exact ⟨rfl, by rw [HFI.out]; exact HT7.out, grown_below HB7.out _⟩
end Go.Proofs.YtinalglbibmmpaaGreat
