/-
  The reference's place and bare of stage 10, and its Get over a table that has lain a while. The conditions: a table has 24 nodes at most.
-/
import Derived.Test.YtnecnnajngfooaaRtl
import Derived.Test.YtnecnnajngfooaaNZ
import Derived.Test.YtnecnnajngfooaaTelP
namespace Go.Proofs.Ytnecnnajngfooaa
open Go Go.RowKit
set_option maxRecDepth 100000

attribute [local go_sem] cell_off4 cell_blk4
/-- Get, where the names and the kids are those of the world in which the table was made. -/
theorem rget_base {P : Nat → Prop} (v : Value) (t : List Nd) (i : Int) (w W : World) (h : NsR P w v t) (hb : Below w.heap.size w W) (hl : t.length ≤ 24) :
    Calls Try.prog 25 #[.agg #[v], .int .i64 i] W fun e w' => ∃ vn vk, e = .returned (.agg (rfC (tget t i) vn vk)) ∧ (StrsR w vn (nmA (nmE (tget t i).ents)) ∧ IntsR w vk (idE (tget t i).ents)) ∧ Below W.heap.size W w' := by
  obtain ⟨g, c, rfl⟩ := ns_form h
  by_cases h1 : 1 ≤ i ∧ i ≤ t.length
  · have d1 : ¬ i < 1 := by omega
    have d2 : ¬ (t.length : Int) < i := by omega
    obtain ⟨k, hk⟩ : ∃ k : Nat, i = (k : Int) + 1 := ⟨(i - 1).toNat, by omega⟩
    subst hk
    have hlt : k < t.length := by omega
    rw [tget_at hlt]
    obtain ⟨vn, vk, ⟨c0, c1, c2, c3, c4, c5, c6, c7⟩, hs, hi⟩ := ns_get h (List.getElem?_eq_getElem hlt)
    replace c0 := bc hb c0
    replace c1 := bc hb c1
    replace c2 := bc hb c2
    replace c3 := bc hb c3
    replace c4 := bc hb c4
    replace c5 := bc hb c5
    replace c6 := bc hb c6
    replace c7 := bc hb c7
    have hg := World.block_lt_of_cell? _ _ c0
    generalize t[k] = n at c0 c1 c2 c3 c4 c5 c6 c7 hs hi ⊢
    obtain ⟨A1, k1, rfl⟩ := strs_form hs (nm_len _)
    obtain ⟨A2, k2, rfl⟩ := ints_form hi (idE_len _)
    have HE := Lib.hid (And.intro hs hi)
    clear h hs hi h1 hb
    go_enter Try.func25, Try.ntmps25
    go_wp2
    exact bodyPost_ret (v := .agg (rfC n (.slice A1 n.ents.length k1) (.slice A2 n.ents.length k2))) (by simp [results, Try.results25, go_sem]) rfl ⟨_, _, rfl, HE.out, al (ba _ _) _⟩
  · rw [tget_out h1]
    have HE := Lib.hid (show StrsR w (.slice none 0 0) (nmA (nmE Nd.zero.ents)) ∧ IntsR w (.slice none 0 0) (idE Nd.zero.ents) from ⟨StrsR.nil _, IntsR.nil _⟩)
    by_cases h2 : i < 1
    · clear h h1 hb
      go_enter Try.func25, Try.ntmps25
      go_wp2
      exact bodyPost_ret (v := .agg rfZ) (by simp [results, Try.results25, go_sem]) rfl ⟨_, _, rfl, HE.out, al (ba _ _) _⟩
    · have h3 : (t.length : Int) < i := by omega
      clear h h1 hb
      go_enter Try.func25, Try.ntmps25
      go_wp2
      exact bodyPost_ret (v := .agg rfZ) (by simp [results, Try.results25, go_sem]) rfl ⟨_, _, rfl, HE.out, al (ba _ _) _⟩
theorem bare_any (n : Nd) (vn vk : Value) (w : World) :
    Calls Try.prog 73 #[.agg (rfC n vn vk)] w fun e w' => e = .returned (.agg (rfC n (.slice none 0 0) (.slice none 0 0))) ∧ Below w.heap.size w w' := by
  have hb1 := al (ba w (.cells (rfC n vn vk) 34)) (.cells rfZ 34)
  have hk1 := (Blk.new w 34 (rfC n vn vk)).alloc (.cells rfZ 34)
  have hr1 := Blk.new (w.alloc (.cells (rfC n vn vk) 34)) 34 rfZ
  have ez : (w.alloc (.cells (rfC n vn vk) 34)).heap.size = w.heap.size + 1 := by simp
  rw [ez] at hr1
  go_enter Try.func73, Try.ntmps73
  go_upto_region 1 with fail
  obtain ⟨W1, hW1⟩ : ∃ W1, (w.alloc (.cells (rfC n vn vk) 34)).alloc (.cells rfZ 34) = W1 := ⟨_, rfl⟩
  rw [hW1] at hb1 hk1 hr1 ⊢
  clear hW1
  have k5 := hk1.set8_5 (.slice none 0 0)
  have k6 := k5.set8_6 (.slice none 0 0)
  have g5 := grown_setCell W1 ⟨w.heap.size, 5, none⟩ (.slice none 0 0)
  have g6 := grown_setCell (W1.setCell ⟨w.heap.size, 5, none⟩ (.slice none 0 0)) ⟨w.heap.size, 6, none⟩ (.slice none 0 0)
  have r6 := (hr1.kept g5 (fun e => by injection e with e; have e : w.heap.size + 1 = w.heap.size := e; omega)).kept g6 (fun e => by injection e with e; have e : w.heap.size + 1 = w.heap.size := e; omega)
  have HB6 := Lib.hid (below_grown (below_grown hb1 g5 (Nat.le_refl _)) g6 (Nat.le_refl _))
  have HR6 := Lib.hid r6
  obtain ⟨-, -, -, -, -, p5, -, -⟩ := hk1.c8
  obtain ⟨-, -, -, -, -, z5, z6, -⟩ := hk1.f8
  obtain ⟨-, -, -, -, -, -, p6, -⟩ := k5.c8
  obtain ⟨-, -, -, -, -, -, y6, -⟩ := k5.f8
  obtain ⟨c0, c1, c2, c3, c4, c5, c6, c7⟩ := k6.c8
  obtain ⟨q0, q1, q2, q3, q4, q5, q6, q7⟩ := r6.c8
  obtain ⟨f0, f1, f2, f3, f4, f5, f6, f7⟩ := r6.f8
  obtain ⟨s0, s1, s2, s3, s4, s5, s6, s7⟩ := r6.s8
  clear hb1 hk1 hr1 ez k5 k6 g5 g6 r6
  go_wp2
  exact bodyPost_ret (v := .agg (rfC n (.slice none 0 0) (.slice none 0 0))) (by simp [results, Try.results73, go_sem, s0, s1, s2, s3, s4, s5, s6, s7]) rfl ⟨rfl, below_grown HB6.out (grown8 _ (w.heap.size + 1) _ _ _ _ _ _ _ _) (Nat.le_succ _)⟩
/-- Where a number stands: a walk through a list. -/
theorem ix_some {l : List Int} {k : Nat} {i : Int} (hk : l[k]? = some i) (hno : ∀ j, j < k → l[j]? ≠ some i) : ixI l i = (k : Int) := by
  obtain ⟨hlt, hk⟩ := List.getElem?_eq_some_iff.1 hk
  have h := idx_first (n := i) hlt (fun j hj q => hno j hj (by rw [List.getElem?_eq_getElem (by omega), q])) hk
  unfold ixI
  rw [if_pos (by rw [← hk]; exact List.getElem_mem _), h]
theorem ix_none {l : List Int} {i : Int} (hno : ∀ j, j < l.length → l[j]? ≠ some i) : ixI l i = -1 := by
  unfold ixI
  rw [if_neg]
  intro h
  obtain ⟨j, hj, e⟩ := List.getElem_of_mem h
  exact hno j hj (by rw [List.getElem?_eq_getElem hj, e])
set_option maxHeartbeats 4000000 in
theorem place_any (v : Value) (l : List Int) (i : Int) (w : World) (h : IntsR w v l) (hl : l.length ≤ 1000) :
    Calls Try.prog 74 #[v, .int .i64 i] w fun e w' => e = .returned (.int .i64 (ixI l i)) ∧ w' = w := by
  obtain ⟨A0, c0, rfl⟩ := ints_form h rfl
  have HL := Lib.hid h
  clear h
  go_enter Try.func74, Try.ntmps74
  go_wp2
  go_loopg [5] l.length (fun gh s5 wr => ∃ (k : Nat), s5 = .int .i64 k ∧ k ≤ l.length ∧ gh = l.length - k ∧ (∀ j, j < k → l[j]? ≠ some i) ∧ wr = w)
  case atStart => exact ⟨0, rfl, Nat.zero_le _, rfl, fun j hj => absurd hj (Nat.not_lt_zero _), rfl⟩
  case round =>
    obtain ⟨k, rfl, hk, rfl, hno, rfl⟩ := hrel
    have HNO := Lib.hid hno
    clear hno
    by_cases hlt : k < l.length
    · have hlt' : (k : Int) < (l.length : Int) := by omega
      obtain ⟨x, hx⟩ : ∃ x, l[k]? = some x := ⟨_, List.getElem?_eq_getElem hlt⟩
      obtain ⟨ad, hA, d0⟩ := ints_get HL.out hx
      subst hA
      have HX := Lib.hid hx
      clear hx
      by_cases q : x = i
      · have e1 : (x == i) = true := by simpa using q
        have HZ := Lib.hid (ix_some (i := i) (by rw [← q]; exact HX.out) HNO.out)
        clear q
        go_wp2
        go_ret
        exact ⟨ret_int HZ.out.symm, rfl⟩
      · have e1 : (x == i) = false := by simpa using q
        have HN2 := Lib.hid (show ∀ j, j < k + 1 → l[j]? ≠ some i from fun j hj => by
          by_cases e : j < k
          · exact HNO.out j e
          · have e2 : j = k := by omega
            subst e2
            rw [HX.out]
            intro e3
            injection e3 with e3
            exact q e3)
        clear q
        go_wp2
        go_roundg (l.length - (k + 1))
        case measure => omega
        case rel => exact ⟨k + 1, by go_num, by omega, rfl, HN2.out, rfl⟩
    · have hlt' : ¬ (k : Int) < (l.length : Int) := by omega
      have HZ := Lib.hid (ix_none (i := i) (fun j hj => HNO.out j (by omega)))
      go_wp2
      go_ret
      exact ⟨ret_int HZ.out.symm, rfl⟩
end Go.Proofs.Ytnecnnajngfooaa
