/-
  Reading a table: Get, Used, Links, Parent. No condition.
-/
import Derived.Test.YtmapkmjhpebcbaaTabC
namespace Go.Proofs.Ytmapkmjhpebcbaa
open Go Go.RowKit

attribute [local go_sem] cell_off4 cell_blk4
theorem get_end {w w3 w4 : World} {n : Nd} {va vb : Value} {b : Bool} {cs : Array Value} {s : Nat} (hd : BytesT w3 va n.data) (he : EntsT w3 vb n.ents) (hk : Blk w3 w.heap.size 39 cs) (hg : w3.grownBy w4 (some w.heap.size))
    (h2 : LP (fun b => s ≤ b) va) (h4 : LP (fun b => s ≤ b) vb) (h1 : w.heap.size ≤ s) (hb : Below w.heap.size w w3) :
    ∃ vd ve, Ending.returned (.tuple #[nodeV n va vb, .bool b]) = .returned (.tuple #[nodeV n vd ve, .bool b]) ∧ BytesT w4 vd n.data ∧ EntsT w4 ve n.ents ∧ LP (fun b => w.heap.size ≤ b) vd ∧ LP (fun b => w.heap.size ≤ b) ve ∧ Below w.heap.size w w4 := by
  have hd5 := hd.other hg (fun ad n c hv => by obtain ⟨cs, h⟩ := hd.2 ad n c hv; exact blk_ne h hk (by decide))
  have he5 := he.other hg (fun ad n c hv => by obtain ⟨cs, h⟩ := he.2 ad n c hv; exact blk_ne h hk (by decide))
  exact ⟨va, vb, rfl, hd5, he5, h2.mono (fun b hb => Nat.le_trans h1 hb), h4.mono (fun b hb => Nat.le_trans h1 hb), below_grown hb hg (Nat.le_refl _)⟩
set_option maxRecDepth 100000 in
set_option maxHeartbeats 4000000 in
theorem get_any (v : Value) (t : List Nd) (i : Int) (w : World) (h : TabP w v t) :
    Calls Try.prog 19 #[v, .int .i64 i] w fun e w' => ∃ vd ve, e = .returned (.tuple #[nodeV (tget t i) vd ve, .bool (tis t i)]) ∧ BytesT w' vd (tget t i).data ∧ EntsT w' ve (tget t i).ents ∧ LP (fun b => w.heap.size ≤ b) vd ∧ LP (fun b => w.heap.size ≤ b) ve ∧ Below w.heap.size w w' := by
  have HA := Lib.hid (fun W (hb : Below w.heap.size w W) => at_any v t i W (h.below hb))
  have HH := Lib.hid (fun W (hb : Below w.heap.size w W) => thas_any v t i W (h.below hb))
  have HF := Lib.hid (ok_few h.ok.1 i)
  have HBN := Lib.hid (Blk.new w 39 ndZ)
  have HB0 := Lib.hid (ba w (.cells ndZ 39))
  clear h
  generalize tis t i = X at HH ⊢
  generalize tget t i = n at HA HF ⊢
  go_enter Try.func19, Try.ntmps19
  go_wp2_with fail
  refine (HA.out _ HB0.out).mono ?_
  rintro e w1 ⟨vd1, ve1, rfl, hd1, he1, hb1⟩
  have HD1 := Lib.hid hd1
  have HE1 := Lib.hid he1
  have HB1 := Lib.hid (bt hb1 HB0.out)
  have HK1 := Lib.hid (HBN.out.below hb1)
  clear hd1 he1 hb1
  go_wp2_with fail
  refine (copied_any n vd1 ve1 w1 HD1.out.1 HE1.out.1 HF.out).mono ?_
  rintro e w2 ⟨vd2, ve2, rfl, hd2, he2, hl2, hm2, hb2⟩
  have HD2 := Lib.hid hd2
  have HE2 := Lib.hid he2
  have HL2 := Lib.hid hl2
  have HM2 := Lib.hid hm2
  have HB2 := Lib.hid (bt hb2 HB1.out)
  have HK2 := Lib.hid (HK1.out.below hb2)
  have HS1 := Lib.hid HB1.out.size
  clear hd2 he2 hl2 hm2 hb2
  go_wp2_with fail
  refine (HH.out w2 HB2.out).mono ?_
  rintro e w3 ⟨rfl, hb3⟩
  have HB3 := Lib.hid (bt hb3 HB2.out)
  have HD3 := Lib.hid (HD2.out.below hb3)
  have HE3 := Lib.hid (HE2.out.below hb3)
  have hk3 := HK2.out.below hb3
  have HK3 := Lib.hid hk3
  obtain ⟨p0, p1, p2, p3, p4, p5, p6⟩ := hk3.c7
  obtain ⟨q0, q1, q2, q3, q4, q5, q6⟩ := hk3.f7
  obtain ⟨s0, s1, s2, s3, s4, s5, s6⟩ := hk3.s7
  clear hb3 hk3
  obtain ⟨A1, c1, hv1⟩ := bytesT_form HD3.out
  obtain ⟨A2, c2, hv2⟩ := entsT_form HE3.out
  subst hv1 hv2
  unfold nodeV
  go_wp2
  have HG := Lib.hid (grown7 w3 w.heap.size (.int .i64 n.kind) (.int .i64 n.mode) (.int .i64 n.uid) (.int .i64 n.gid) (.slice A1 n.data.length c1) (.slice A2 n.ents.length c2) (.string (bA n.target)))
  exact bodyPost_ret (v := .tuple #[nodeV n (.slice A1 n.data.length c1) (.slice A2 n.ents.length c2), .bool X]) (by simp [results, Try.results19, go_sem, nodeV, s0, s1, s2, s3, s4, s5, s6]) rfl (get_end HD3.out HE3.out HK3.out HG.out HL2.out HM2.out HS1.out HB3.out)
/-- How many entries of a node have a node. -/
theorem cnt_snoc {l : List En} {k : Nat} {e : En} {i : Int} (he : l[k]? = some e) : cntE (l.take (k + 1)) i = cntE (l.take k) i + if e.2 = i then 1 else 0 := by
  unfold cntE
  rw [take_snoc' he, List.countP_append, List.countP_cons, List.countP_nil, Nat.zero_add]
  simp
theorem cnt_le (l : List En) (i : Int) : cntE l i ≤ l.length := List.countP_le_length
set_option maxRecDepth 100000 in
set_option maxHeartbeats 4000000 in
theorem entriesOf_any (n : Nd) (vd ve : Value) (i : Int) (w : World) (hd : BytesR w vd n.data) (he : EntsR w ve n.ents) (hf : Few n) :
    Calls Try.prog 43 #[nodeV n vd ve, .int .i64 i] w fun e w' => e = .returned (.int .i64 (cntE n.ents i : Int)) ∧ Below w.heap.size w w' := by
  have hfe := hf.ents
  have HB1 := Lib.hid (ba w (.cells (ndC n vd ve) 39))
  obtain ⟨A1, c1, rfl⟩ := bytes_form hd rfl
  obtain ⟨A2, c2, rfl⟩ := ents_form he rfl
  have HE := Lib.hid (box_ents (vd := .slice A1 n.data.length c1) he)
  clear hd he hf
  unfold nodeV
  go_enter Try.func43, Try.ntmps43
  go_wp2
  go_loopg [5, 11] n.ents.length (fun gh s5 s11 wr => ∃ k : Nat, s5 = .int .i64 (cntE (n.ents.take k) i : Int) ∧ s11 = .int .i64 k ∧ k ≤ n.ents.length ∧ gh = n.ents.length - k ∧ Below (w.alloc (.cells (ndC n (.slice A1 n.data.length c1) (.slice A2 n.ents.length c2)) 39)).heap.size (w.alloc (.cells (ndC n (.slice A1 n.data.length c1) (.slice A2 n.ents.length c2)) 39)) wr)
  case atStart => exact ⟨0, rfl, rfl, Nat.zero_le _, rfl, Below.refl _ _⟩
  case round =>
    obtain ⟨k, rfl, rfl, hk, rfl, hbr⟩ := hrel
    have HB := Lib.hid hbr
    clear hbr
    by_cases hlt : k < n.ents.length
    · obtain ⟨e, hke⟩ : ∃ e, n.ents[k]? = some e := ⟨_, List.getElem?_eq_getElem hlt⟩
      obtain ⟨ad, hA, d0, d1⟩ := ents_get (HE.out.below HB.out) hke
      subst hA
      have hcl := cnt_le (n.ents.take k) i
      rw [List.length_take] at hcl
      have hcl2 : cntE (n.ents.take k) i ≤ 1000 := by omega
      have HS := Lib.hid (cnt_snoc (i := i) hke)
      have hadl : (ad.add (k * 2)).block < wr.heap.size := World.block_lt_of_cell? _ _ d0
      have HBA := Lib.hid (bt (ba wr (.cells #[.string (bA e.1), .int .i64 e.2] 72)) HB.out)
      clear hke hcl
      generalize cntE (n.ents.take k) i = C at HS hcl2 ⊢
      by_cases q : e.2 = i
      · have q1 : (e.2 == i) = true := by simpa using q
        have HX := Lib.hid (show (C : Int) + 1 = (cntE (n.ents.take (k + 1)) i : Int) by rw [HS.out, if_pos q]; first | done | rfl)
        clear q
        go_wp2
        go_roundg (n.ents.length - (k + 1))
        case measure => omega
        case rel => exact ⟨k + 1, by rw [← HX.out], by go_num, by omega, rfl, HBA.out⟩
      · have q1 : (e.2 == i) = false := by simpa using q
        have HX := Lib.hid (show (C : Int) = (cntE (n.ents.take (k + 1)) i : Int) by rw [HS.out, if_neg q, Nat.add_zero])
        clear q
        go_wp2
        go_roundg (n.ents.length - (k + 1))
        case measure => omega
        case rel => exact ⟨k + 1, by rw [← HX.out], by go_num, by omega, rfl, HBA.out⟩
    · have hlt' : ¬ (k : Int) < (n.ents.length : Int) := by omega
      have HX := Lib.hid (show (cntE (n.ents.take k) i : Int) = (cntE n.ents i : Int) by rw [List.take_of_length_le (by omega)])
      generalize (cntE (n.ents.take k) i : Int) = C at HX ⊢
      go_wp2
      go_ret
      exact ⟨ret_int HX.out, bt HB.out HB1.out⟩
end Go.Proofs.Ytmapkmjhpebcbaa
