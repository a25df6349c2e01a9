/-
  What is told of a node, as it lies in memory; node.Size and the reference's; texts that are held beside each other. The conditions: no list is longer than a million.
-/
import Derived.Test.YtilepnepcamnaaaGreatLkM
import Derived.Test.YtilepnepcamnaaaGreatMR
namespace Go.Proofs.YtilepnepcamnaaaGreat
open Go Go.RowKit
set_option maxRecDepth 100000

attribute [local go_sem] cell_off4 cell_blk4
def stC (s : Sta) : Array Value := #[.int .i64 s.node, .int .i64 s.kind, .int .i64 s.mode, .int .i64 s.uid, .int .i64 s.gid, .int .i64 s.links, .int .i64 s.size]
def stV (s : Sta) : Value := .agg (stC s)
theorem eq_stat (a0 a1 a2 a3 a4 a5 a6 b0 b1 b2 b3 b4 b5 b6 : Int) (w : World) : (Op.equalIn 10000 35 (.agg #[.int .i64 a0, .int .i64 a1, .int .i64 a2, .int .i64 a3, .int .i64 a4, .int .i64 a5, .int .i64 a6]) (.agg #[.int .i64 b0, .int .i64 b1, .int .i64 b2, .int .i64 b3, .int .i64 b4, .int .i64 b5, .int .i64 b6])).run Tryz.prog w = .ok (a0 == b0 && (a1 == b1 && (a2 == b2 && (a3 == b3 && (a4 == b4 && (a5 == b5 && a6 == b6)))))) w := by
  have hS : Tryz.prog.underlying 35 = some (.struct (Tryz.prog.fieldsOf 35)) := by kernel_rfl
  rw [show (10000 : Nat) = 9999 + 1 from rfl, run_equalIn_agg w 9999 35 _ _ hS (by kernel_rfl)]
  have u5 := Tryz.underlying3
  simp only [Program.fieldsOf, Tryz.underlying35]
  go_simp
  by_cases h0 : a0 = b0 <;> by_cases h1 : a1 = b1 <;> by_cases h2 : a2 = b2 <;> by_cases h3 : a3 = b3 <;> by_cases h4 : a4 = b4 <;> by_cases h5 : a5 = b5 <;> by_cases h6 : a6 = b6 <;> simp [h0, h1, h2, h3, h4, h5, h6]
set_option maxHeartbeats 4000000 in
theorem size_any (n : Nd) (vd ve : Value) (w : World) (hd : BytesR w vd n.data) (he : EntsR w ve n.ents) (hf : Few n) :
    Calls Tryz.prog 34 #[nodeV n vd ve] w fun e w' => e = .returned (.int .i64 (sizM n)) ∧ Below w.heap.size w w' := by
  have HB1 := Lib.hid (ba w (.cells (ndC n vd ve) 70))
  obtain ⟨A1, c1, rfl⟩ := bytes_form hd rfl
  obtain ⟨A2, c2, rfl⟩ := ents_form he rfl
  have hdl := hf.data
  have hel := hf.ents
  have htl := hf.target
  have hsz := size_bA n.target
  clear hd he hf
  unfold nodeV
  by_cases k1 : n.kind = 1
  · have hk : (n.kind == 1) = true := by simpa using k1
    have HX := Lib.hid (show sizM n = (n.data.length : Int) by rw [sizM, if_pos k1])
    clear k1
    generalize sizM n = X at HX ⊢
    go_enter Tryz.func34, Tryz.ntmps34
    go_wp2
    go_ret
    exact ⟨ret_int HX.out.symm, HB1.out⟩
  · have hk : (n.kind == 1) = false := by simpa using k1
    by_cases k2 : n.kind = 2
    · have hk2 : (n.kind == 2) = true := by simpa using k2
      have HX := Lib.hid (show sizM n = (n.ents.length : Int) by rw [sizM, if_neg k1, if_pos k2])
      clear k1 k2
      generalize sizM n = X at HX ⊢
      go_enter Tryz.func34, Tryz.ntmps34
      go_wp2
      go_ret
      exact ⟨ret_int HX.out.symm, HB1.out⟩
    · have hk2 : (n.kind == 2) = false := by simpa using k2
      by_cases k3 : n.kind = 3
      · have hk3 : (n.kind == 3) = true := by simpa using k3
        have HX := Lib.hid (show sizM n = ((bA n.target).size : Int) by rw [sizM, if_neg k1, if_neg k2, if_pos k3, hsz])
        clear k1 k2 k3
        generalize sizM n = X at HX ⊢
        go_enter Tryz.func34, Tryz.ntmps34
        go_wp2
        go_ret
        exact ⟨ret_int HX.out.symm, HB1.out⟩
      · have hk3 : (n.kind == 3) = false := by simpa using k3
        have HX := Lib.hid (show sizM n = 0 by rw [sizM, if_neg k1, if_neg k2, if_neg k3])
        clear k1 k2 k3
        generalize sizM n = X at HX ⊢
        go_enter Tryz.func34, Tryz.ntmps34
        go_wp2
        go_ret
        exact ⟨ret_int HX.out.symm, HB1.out⟩
theorem data_ofN (n : Nd) : (bA n.data).size = n.data.length := size_bA n.data
set_option maxHeartbeats 4000000 in
theorem rsize_any (n : Nd) (vn vk : Value) (w : World) (hs : StrsR w vn (nmA (nmE n.ents))) (hi : IntsR w vk (idE n.ents)) :
    Calls Tryz.prog 39 #[.agg (rfC n vn vk)] w fun e w' => e = .returned (.int .i64 (sizM n)) ∧ Below w.heap.size w w' := by
  have HB1 := Lib.hid (ba w (.cells (rfC n vn vk) 75))
  obtain ⟨A1, c1, rfl⟩ := strs_form hs (nm_len _)
  obtain ⟨A2, c2, rfl⟩ := ints_form hi (idE_len _)
  have hsz := size_bA n.target
  have hsd := size_bA n.data
  clear hs hi
  unfold rfC
  by_cases k1 : n.kind = 1
  · have hk : (n.kind == 1) = true := by simpa using k1
    have HX := Lib.hid (show sizM n = ((bA n.data).size : Int) by rw [sizM, if_pos k1, hsd])
    clear k1
    generalize sizM n = X at HX ⊢
    go_enter Tryz.func39, Tryz.ntmps39
    go_wp2
    go_ret
    exact ⟨ret_int HX.out.symm, HB1.out⟩
  · have hk : (n.kind == 1) = false := by simpa using k1
    by_cases k2 : n.kind = 2
    · have hk2 : (n.kind == 2) = true := by simpa using k2
      have HX := Lib.hid (show sizM n = (n.ents.length : Int) by rw [sizM, if_neg k1, if_pos k2])
      clear k1 k2
      generalize sizM n = X at HX ⊢
      go_enter Tryz.func39, Tryz.ntmps39
      go_wp2
      go_ret
      exact ⟨ret_int HX.out.symm, HB1.out⟩
    · have hk2 : (n.kind == 2) = false := by simpa using k2
      by_cases k3 : n.kind = 3
      · have hk3 : (n.kind == 3) = true := by simpa using k3
        have HX := Lib.hid (show sizM n = ((bA n.target).size : Int) by rw [sizM, if_neg k1, if_neg k2, if_pos k3, hsz])
        clear k1 k2 k3
        generalize sizM n = X at HX ⊢
        go_enter Tryz.func39, Tryz.ntmps39
        go_wp2
        go_ret
        exact ⟨ret_int HX.out.symm, HB1.out⟩
      · have hk3 : (n.kind == 3) = false := by simpa using k3
        have HX := Lib.hid (show sizM n = 0 by rw [sizM, if_neg k1, if_neg k2, if_neg k3])
        clear k1 k2 k3
        generalize sizM n = X at HX ⊢
        go_enter Tryz.func39, Tryz.ntmps39
        go_wp2
        go_ret
        exact ⟨ret_int HX.out.symm, HB1.out⟩
set_option maxHeartbeats 8000000 in
theorem strs_same (v v' : Value) (l : List ByteArray) (w : World) (hR : StrsR w v l) (hR' : StrsR w v' l) (hm : l.length ≤ 1000000) :
    Calls Tryz.prog 23 #[v, v'] w fun e w' => e = .returned (.bool true) ∧ Below w.heap.size w w' := by
  obtain ⟨B, d, rfl, -, hd⟩ := hR
  obtain ⟨B', d', rfl, -, hd'⟩ := hR'
  have HD := Lib.hid hd
  have HD' := Lib.hid hd'
  have n2 : ((l.length : Int) != (l.length : Int)) = false := by simp
  clear hd hd'
  go_enter Tryz.func23, Tryz.ntmps23
  go_wp2
  go_loopg [5] l.length (fun gh s5 wr => ∃ m : Nat, s5 = .int .i64 m ∧ m ≤ l.length ∧ gh = l.length - m ∧ ∃ n, wr = w.drewN n)
  case atStart => exact ⟨0, rfl, Nat.zero_le _, rfl, 0, rfl⟩
  case round =>
    obtain ⟨m, rfl, hk, rfl, n1, rfl⟩ := hrel
    by_cases hlt : m < l.length
    · obtain ⟨s, hs⟩ : ∃ s, l[m]? = some s := ⟨_, List.getElem?_eq_getElem hlt⟩
      obtain ⟨ad, rfl, c0⟩ := HD.out m s hs
      obtain ⟨ad', rfl, c0'⟩ := HD'.out m s hs
      have m2 : (s.toList != s.toList) = false := by simp
      clear hs
      go_wp2
      go_quiet (fail)
      go_wp2
      go_roundg (l.length - (m + 1))
      case measure => omega
      case rel => exact ⟨m + 1, by go_num, by omega, rfl, _, rfl⟩
    · go_wp2
      go_ret
      exact ⟨rfl, ⟨rfl, rfl, rfl, Nat.le_refl _, fun _ _ => rfl⟩⟩
end Go.Proofs.YtilepnepcamnaaaGreat
