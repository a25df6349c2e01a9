/-
  The reference's ReadAt of stage 16. The conditions are said at each.
-/
import Derived.Test.YtfopnfgfoicidaaGreatFRa
namespace Go.Proofs.YtfopnfgfoicidaaGreat
open Go Go.RowKit
set_option maxRecDepth 100000

attribute [local go_sem] cell_off4 cell_blk4
theorem fir_sl (s : ByteArray) (n : Nat) (h : n + 1 ≤ s.size) (w : World) : (Instr.slice 9 (.string s) (some (.int .i64 (n : Int))) (some (.int .i64 ((n : Int) + 1))) none).run Tryz.prog w = .ok (.string (s.extract n (n + 1))) w := by
  have e := run_slice_string w 9 s .i64 .i64 (n : Int) ((n : Int) + 1) Tryz.underlying9 (by omega) (by omega) (by omega)
  rwa [show ((n : Int)).toNat = n by omega, show ((n : Int) + 1).toNat = n + 1 by omega] at e
theorem read_snoc {d : List UInt8} {o j : Nat} (h : o + j < d.length) : (d.drop o).take (j + 1) = (d.drop o).take j ++ (d.take (o + j + 1)).drop (o + j) := by
  have e : (d.drop o)[j]? = some d[o + j] := by rw [List.getElem?_drop, List.getElem?_eq_getElem h]
  rw [take_snoc' e]
  congr 1
  rw [List.take_succ_eq_append_getElem h, List.drop_append_of_le_length (by rw [List.length_take]; omega), List.drop_eq_nil_of_le (by rw [List.length_take]; omega), List.nil_append]
theorem read_end {d : List UInt8} {o j N : Nat} (hj : j ≤ N) (h : ¬ (o + j < d.length ∧ j < N)) : (d.drop o).take j = (d.drop o).take N := by
  by_cases h1 : o + j < d.length
  · have : j = N := by omega
    rw [this]
  · rw [List.take_of_length_le (by rw [List.length_drop]; omega), List.take_of_length_le (by rw [List.length_drop]; omega)]
set_option maxHeartbeats 8000000 in
theorem rfread_any {P : Nat → Prop} (v : Value) (t : List Nd) (i off n : Int) (w : World) (h : NsR P w v t) (hl : t.length ≤ 24) (ho : okT t) :
    Calls Tryz.prog 16 #[.agg #[v], .int .i64 i, .int .i64 off, .int .i64 n] w fun e w' => e = .returned (.tuple #[.string (bA (faB t i off n)), .int .i64 (faE t i off n)]) ∧ Below w.heap.size w w' := by
  obtain ⟨g, cc, rfl⟩ := ns_form h
  obtain ⟨X, hX⟩ : ∃ X, faE t i off n = X := ⟨_, rfl⟩
  obtain ⟨Y, hY⟩ : ∃ Y, faB t i off n = Y := ⟨_, rfl⟩
  have hx : X = if (tget t i).kind ≠ 1 then 9 else if off < 0 ∨ n < 0 then 22 else 0 := hX.symm
  have hy : Y = if X = 0 then ((tget t i).data.drop off.toNat).take n.toNat else [] := by rw [← hY, ← hX]; rfl
  have hlen : (tget t i).kind = 1 → (tget t i).data.length ≤ 48 := fun q => (file_parts (tis_right ho (kind_is q)) q).2.2.2
  rw [hX, hY]
  have hb1 := ba w (.cells #[.slice (some ⟨g, 0, none⟩) t.length cc] 32)
  have h11 := Blk.new w 32 #[.slice (some ⟨g, 0, none⟩) t.length cc]
  obtain ⟨W1, hW1⟩ : ∃ W, w.alloc (.cells #[.slice (some ⟨g, 0, none⟩) t.length cc] 32) = W := ⟨_, rfl⟩
  rw [hW1] at hb1 h11
  have HGT := Lib.hid (rget_rf _ t i W1 (h.below hb1) hl)
  have HB1 := Lib.hid hb1
  have t0 := h11.cell 0
  simp at t0
  generalize tget t i = d at HGT hx hy hlen
  clear h hl ho hX hY hb1 h11
  go_enter Tryz.func16, Tryz.ntmps16
  go_wp2_with fail
  clear hW1
  refine HGT.out.mono ?_
  rintro e w2 ⟨vn, vk, rfl, hn, hk, hb2⟩
  obtain ⟨A1, k1, rfl⟩ := strs_form hn (nm_len _)
  obtain ⟨A2, k2, rfl⟩ := ints_form hk (idE_len _)
  have hbx := al hb2 (.cells (rfC d (.slice A1 d.ents.length k1) (.slice A2 d.ents.length k2)) 82)
  have hf := Blk.new w2 82 (rfC d (.slice A1 d.ents.length k1) (.slice A2 d.ents.length k2))
  obtain ⟨W3, hW3⟩ : ∃ W, w2.alloc (.cells (rfC d (.slice A1 d.ents.length k1) (.slice A2 d.ents.length k2)) 82) = W := ⟨_, rfl⟩
  obtain ⟨y, hyy⟩ : ∃ z, w2.heap.size = z := ⟨_, rfl⟩
  rw [hW3] at hbx hf
  rw [hyy] at hf
  have HB3 := Lib.hid (bt hbx HB1.out)
  obtain ⟨p0, p1, p2, p3, p4, p5, p6, p7⟩ := hf.c8
  clear hn hk hb2 hbx hf t0 HGT
  by_cases q1 : d.kind = 1
  · have y1 : (d.kind != 1) = false := by simpa using q1
    have hl48 := hlen q1
    rw [if_neg (fun z => z q1)] at hx
    by_cases q2 : off < 0
    · rw [if_pos (.inl q2)] at hx
      have HX := Lib.hid (show X = 22 ∧ Y = [] from ⟨hx, by rw [hy, hx]; rfl⟩)
      clear hx hy hlen q1 hl48
      go_wp2
      clear hW3 hyy
      go_ret2
      exact ⟨by rw [HX.out.1, HX.out.2]; rfl, HB3.out⟩
    by_cases q3 : n < 0
    · rw [if_pos (.inr q3)] at hx
      have HX := Lib.hid (show X = 22 ∧ Y = [] from ⟨hx, by rw [hy, hx]; rfl⟩)
      clear hx hy hlen q1 hl48
      go_wp2
      clear hW3 hyy
      go_ret2
      exact ⟨by rw [HX.out.1, HX.out.2]; rfl, HB3.out⟩
    rw [if_neg (by omega)] at hx
    obtain ⟨o, rfl⟩ : ∃ o : Nat, off = (o : Int) := ⟨off.toNat, by omega⟩
    obtain ⟨N, rfl⟩ : ∃ N : Nat, n = (N : Int) := ⟨n.toNat, by omega⟩
    rw [if_pos hx, show ((o : Int)).toNat = o by omega, show ((N : Int)).toNat = N by omega] at hy
    have HX := Lib.hid (And.intro hx hy)
    have hsz := size_bA d.data
    clear hx hy hlen q1
    go_wp2
    clear hW3 hyy
    go_loopg [11, 12] d.data.length (fun gh s11 s12 wr => ∃ (j : Nat) (cur : ByteArray), s11 = .string cur ∧ s12 = .int .i64 ((o : Int) + j) ∧ j ≤ N ∧ (j = 0 ∨ o + j ≤ d.data.length) ∧ gh = d.data.length - j ∧ tl cur = (d.data.drop o).take j ∧ W3 = wr)
    case atStart => exact ⟨0, ⟨#[]⟩, rfl, by simp, Nat.zero_le _, .inl rfl, rfl, rfl, rfl⟩
    case round =>
      obtain ⟨j, cur, rfl, rfl, hj, hoj, rfl, hc, rfl⟩ := hrel
      have HC := Lib.hid hc
      have hcz : cur.size ≤ 48 := by rw [← tl_len, hc, List.length_take, List.length_drop]; omega
      clear hc
      by_cases h1 : o + j < d.data.length
      · have y1' : (o : Int) + (j : Int) < ((bA d.data).size : Int) := by omega
        have y2 : IntKind.i64.wrap ((o : Int) + (j : Int) - (o : Int)) = (j : Int) := by rw [IntKind.wrap_i64] <;> omega
        have y2' : (o : Int) + (j : Int) - (o : Int) = (j : Int) := by omega
        by_cases h2 : j < N
        · have y3 : (j : Int) < (N : Int) := by omega
          obtain ⟨z, hz⟩ : ∃ z, (bA d.data).extract (o + j) (o + j + 1) = z := ⟨_, rfl⟩
          have hrun := fir_sl (bA d.data) (o + j) (by omega)
          rw [hz] at hrun
          have htz : tl z = (d.data.take (o + j + 1)).drop (o + j) := by rw [← hz, tl_ext, tl_bA]
          have hzz : z.size = 1 := by rw [← tl_len, htz, List.length_drop, List.length_take]; omega
          have hz1 : z.size ≤ 1 := by omega
          have HN := Lib.hid (show tl (cur ++ z) = (d.data.drop o).take (j + 1) from by rw [read_snoc h1, tl_app, HC.out, htz])
          rw [show (((o + j : Nat)) : Int) = (o : Int) + (j : Int) from by omega] at hrun
          have hbo : o + j < 48 := by omega
          have HOJ := Lib.hid h1
          clear hz htz hzz hoj h2
          go_wp2
          go_roundg (d.data.length - (j + 1))
          case measure => have := HOJ.out; omega
          case rel => exact ⟨j + 1, _, rfl, by go_num, by omega, .inr (by have := HOJ.out; omega), rfl, HN.out, rfl⟩
        · have y3 : ¬ (j : Int) < (N : Int) := by omega
          have HE := Lib.hid (show tl cur = Y from by rw [HC.out, HX.out.2]; exact read_end hj (fun z => h2 z.2))
          clear hoj h2
          go_wp2
          go_ret2
          exact ⟨by rw [HX.out.1, ← HE.out, bA_tl]; rfl, HB3.out⟩
      · have y1' : ¬ (o : Int) + (j : Int) < ((bA d.data).size : Int) := by omega
        have HE := Lib.hid (show tl cur = Y from by rw [HC.out, HX.out.2]; exact read_end hj (fun z => h1 z.1))
        clear hoj h1
        go_wp2
        go_ret2
        exact ⟨by rw [HX.out.1, ← HE.out, bA_tl]; rfl, HB3.out⟩
  · have y1 : (d.kind != 1) = true := by simpa using q1
    rw [if_pos q1] at hx
    have HX := Lib.hid (show X = 9 ∧ Y = [] from ⟨hx, by rw [hy, hx]; rfl⟩)
    clear hx hy hlen q1
    go_wp2
    clear hW3 hyy
    go_ret2
    exact ⟨by rw [HX.out.1, HX.out.2]; rfl, HB3.out⟩
end Go.Proofs.YtfopnfgfoicidaaGreat
