/-
  What the reference's Show answers of any numbers that a machine has. No other condition.
-/
import Derived.Test.YtkbdlmmpeieaeaaDoorShow2
namespace Go.Proofs.YtkbdlmmpeieaeaaDoor
open Go Go.RowKit

theorem dgs_nat (n : Nat) : dgs (n : Int) = Lib.decDigits n := by
  rw [dgs, if_neg (by omega)]
  rfl
def RS (u g : Int) (w : World) (e : Ending) (w' : World) : Prop := (∃ t : ByteArray, e = .returned (.string t) ∧ t.data.toList = shw u g) ∧ Below w.heap.size w w'
set_option maxHeartbeats 1000000 in
theorem rshow_NN (u : Int) (hu : u < 0) (g : Int) (hg : g < 0) (w : World) : Calls Tryd.prog 16 #[.int .i64 u, .int .i64 g] w (RS u g w) := by
  have HS := Lib.hid (show shw u g = [] by rw [shw, if_pos hg, List.append_nil]; exact (show tx root ann bob cat u = [] by rw [tx_big (.inl hu), dgs, if_pos hu]))
  have zs : (⟨#[58]⟩ : ByteArray).size ≤ 1 := Nat.le_refl 1
  have ze : (⟨#[]⟩ : ByteArray).size ≤ 1 := by decide
  have q1 : decide (0 ≤ u) = false := by simpa using hu
  have r1 : decide (g < 0) = true := by simpa using hg
  have HB0 := Lib.hid (Below.refl w.heap.size w)
  go_enter Tryd.func16, Tryd.ntmps16
  go_wp2
  go_ret
  exact ⟨⟨_, rfl, by rw [HS.out]⟩, HB0.out⟩
set_option maxHeartbeats 1000000 in
theorem rshow_NS (u : Int) (hu : u < 0) (j : Nat) (hj : j < 4) (w : World) : Calls Tryd.prog 16 #[.int .i64 u, .int .i64 (j : Int)] w (RS u (j : Int) w) := by
  obtain ⟨Y, hY, zY, hYc⟩ := name4 wheel staff ops lab (by decide) (by decide) (by decide) (by decide) (by decide) (by decide) (by decide) (by decide) j (by omega) 9
  have HS := Lib.hid (show shw u (j : Int) = [] ++ 58 :: Y.data.toList by rw [shw, if_neg (by omega), show tx root ann bob cat u = [] by rw [tx_big (.inl hu), dgs, if_pos hu], hY.symm])
  have zs : (⟨#[58]⟩ : ByteArray).size ≤ 1 := Nat.le_refl 1
  have ze : (⟨#[]⟩ : ByteArray).size ≤ 1 := by decide
  have q1 : decide (0 ≤ u) = false := by simpa using hu
  have r1 : decide ((j : Int) < 0) = false := by simp
  have r2 : decide ((j : Int) < 4) = true := by simp; omega
  clear hY
  change ∀ W : World, (W.alloc (.cells #[.string ⟨#[119, 104, 101, 101, 108]⟩, .string ⟨#[115, 116, 97, 102, 102]⟩, .string ⟨#[111, 112, 115]⟩, .string ⟨#[108, 97, 98]⟩] 9)).cell? ⟨W.heap.size, j, none⟩ = some (.string Y) at hYc
  have HB0 := Lib.hid (Below.refl w.heap.size w)
  go_enter Tryd.func16, Tryd.ntmps16
  go_wp2
  go_ret
  exact ⟨⟨_, rfl, by simp only [ByteArray.data_append, Array.toList_append, HS.out]; simp⟩, (HB0.out.alloc (by have := HB0.out.size; first | (simp; omega) | simp) _)⟩
set_option maxHeartbeats 1000000 in
theorem rshow_NB (u : Int) (hu : u < 0) (m : Nat) (hm : 4 ≤ m) (hm1 : m ≤ 9223372036854775807) (w : World) : Calls Tryd.prog 16 #[.int .i64 u, .int .i64 (m : Int)] w (RS u (m : Int) w) := by
  have HS := Lib.hid (show shw u (m : Int) = [] ++ 58 :: Lib.decDigits m by rw [shw, if_neg (by omega), show tx root ann bob cat u = [] by rw [tx_big (.inl hu), dgs, if_pos hu], show tx wheel staff ops lab (m : Int) = Lib.decDigits m by rw [tx_big (.inr (by omega)), dgs_nat]])
  have zs : (⟨#[58]⟩ : ByteArray).size ≤ 1 := Nat.le_refl 1
  have ze : (⟨#[]⟩ : ByteArray).size ≤ 1 := by decide
  have q1 : decide (0 ≤ u) = false := by simpa using hu
  have r1 : decide ((m : Int) < 0) = false := by simp
  have r2 : decide ((m : Int) < 4) = false := by simp; omega
  have HE := Lib.hid (fun w => rdig_any m w hm1)
  have he := dgs_len (m : Int) (by omega)
  rw [dgs_nat] at he
  have HB0 := Lib.hid (Below.refl w.heap.size w)
  go_enter Tryd.func16, Tryd.ntmps16
  go_wp2_with fail
  refine (HE.out _).mono ?_
  rintro e w2 ⟨⟨t2, rfl, ht2⟩, hb2⟩
  have HT2 := Lib.hid ht2
  have zt2 : t2.size ≤ 19 := by rw [len_of ht2]; exact he
  have HB2 := Lib.hid (bt hb2 HB0.out)
  clear hb2 ht2
  go_wp2
  go_ret
  exact ⟨⟨_, rfl, by simp only [ByteArray.data_append, Array.toList_append, HT2.out, HS.out]; simp⟩, HB2.out⟩
set_option maxHeartbeats 1000000 in
theorem rshow_SN (k : Nat) (hk : k < 4) (g : Int) (hg : g < 0) (w : World) : Calls Tryd.prog 16 #[.int .i64 (k : Int), .int .i64 g] w (RS (k : Int) g w) := by
  obtain ⟨X, hX, zX, hXc⟩ := name4 root ann bob cat (by decide) (by decide) (by decide) (by decide) (by decide) (by decide) (by decide) (by decide) k (by omega) 9
  have HS := Lib.hid (show shw (k : Int) g = X.data.toList by rw [shw, if_pos hg, List.append_nil]; exact (hX.symm))
  have zs : (⟨#[58]⟩ : ByteArray).size ≤ 1 := Nat.le_refl 1
  have ze : (⟨#[]⟩ : ByteArray).size ≤ 1 := by decide
  have q1 : decide (0 ≤ (k : Int)) = true := by simp
  have q2 : decide ((k : Int) < 4) = true := by simp; omega
  have HD := Lib.hid (fun w => rdig_any k w (by omega))
  have hd := dgs_len (k : Int) (by omega)
  rw [dgs_nat] at hd
  clear hX
  change ∀ W : World, (W.alloc (.cells #[.string ⟨#[114, 111, 111, 116]⟩, .string ⟨#[97, 110, 110]⟩, .string ⟨#[98, 111, 98]⟩, .string ⟨#[99, 97, 116]⟩] 9)).cell? ⟨W.heap.size, k, none⟩ = some (.string X) at hXc
  have r1 : decide (g < 0) = true := by simpa using hg
  have HB0 := Lib.hid (Below.refl w.heap.size w)
  go_enter Tryd.func16, Tryd.ntmps16
  go_wp2_with fail
  refine (HD.out _).mono ?_
  rintro e w1 ⟨⟨t, rfl, ht⟩, hb1⟩
  have HT := Lib.hid ht
  have zt : t.size ≤ 19 := by rw [len_of ht]; exact hd
  have HB1 := Lib.hid hb1
  clear hb1 ht
  go_wp2
  go_ret
  exact ⟨⟨_, rfl, by rw [HS.out]⟩, (HB1.out.alloc HB1.out.size _)⟩
set_option maxHeartbeats 1000000 in
theorem rshow_SS (k : Nat) (hk : k < 4) (j : Nat) (hj : j < 4) (w : World) : Calls Tryd.prog 16 #[.int .i64 (k : Int), .int .i64 (j : Int)] w (RS (k : Int) (j : Int) w) := by
  obtain ⟨X, hX, zX, hXc⟩ := name4 root ann bob cat (by decide) (by decide) (by decide) (by decide) (by decide) (by decide) (by decide) (by decide) k (by omega) 9
  obtain ⟨Y, hY, zY, hYc⟩ := name4 wheel staff ops lab (by decide) (by decide) (by decide) (by decide) (by decide) (by decide) (by decide) (by decide) j (by omega) 9
  have HS := Lib.hid (show shw (k : Int) (j : Int) = X.data.toList ++ 58 :: Y.data.toList by rw [shw, if_neg (by omega), hX.symm, hY.symm])
  have zs : (⟨#[58]⟩ : ByteArray).size ≤ 1 := Nat.le_refl 1
  have ze : (⟨#[]⟩ : ByteArray).size ≤ 1 := by decide
  have q1 : decide (0 ≤ (k : Int)) = true := by simp
  have q2 : decide ((k : Int) < 4) = true := by simp; omega
  have HD := Lib.hid (fun w => rdig_any k w (by omega))
  have hd := dgs_len (k : Int) (by omega)
  rw [dgs_nat] at hd
  clear hX
  change ∀ W : World, (W.alloc (.cells #[.string ⟨#[114, 111, 111, 116]⟩, .string ⟨#[97, 110, 110]⟩, .string ⟨#[98, 111, 98]⟩, .string ⟨#[99, 97, 116]⟩] 9)).cell? ⟨W.heap.size, k, none⟩ = some (.string X) at hXc
  have r1 : decide ((j : Int) < 0) = false := by simp
  have r2 : decide ((j : Int) < 4) = true := by simp; omega
  clear hY
  change ∀ W : World, (W.alloc (.cells #[.string ⟨#[119, 104, 101, 101, 108]⟩, .string ⟨#[115, 116, 97, 102, 102]⟩, .string ⟨#[111, 112, 115]⟩, .string ⟨#[108, 97, 98]⟩] 9)).cell? ⟨W.heap.size, j, none⟩ = some (.string Y) at hYc
  have HB0 := Lib.hid (Below.refl w.heap.size w)
  go_enter Tryd.func16, Tryd.ntmps16
  go_wp2_with fail
  refine (HD.out _).mono ?_
  rintro e w1 ⟨⟨t, rfl, ht⟩, hb1⟩
  have HT := Lib.hid ht
  have zt : t.size ≤ 19 := by rw [len_of ht]; exact hd
  have HB1 := Lib.hid hb1
  clear hb1 ht
  have hYc2 := hYc (w1.alloc (.cells #[.string ⟨#[114, 111, 111, 116]⟩, .string ⟨#[97, 110, 110]⟩, .string ⟨#[98, 111, 98]⟩, .string ⟨#[99, 97, 116]⟩] 9))
  rw [show (w1.alloc (.cells #[.string ⟨#[114, 111, 111, 116]⟩, .string ⟨#[97, 110, 110]⟩, .string ⟨#[98, 111, 98]⟩, .string ⟨#[99, 97, 116]⟩] 9)).heap.size = w1.heap.size + 1 by simp] at hYc2
  go_wp2
  go_ret
  exact ⟨⟨_, rfl, by simp only [ByteArray.data_append, Array.toList_append, HS.out]; simp⟩, ((HB1.out.alloc HB1.out.size _).alloc (by have := HB1.out.size; first | (simp; omega) | simp) _)⟩
set_option maxHeartbeats 1000000 in
theorem rshow_SB (k : Nat) (hk : k < 4) (m : Nat) (hm : 4 ≤ m) (hm1 : m ≤ 9223372036854775807) (w : World) : Calls Tryd.prog 16 #[.int .i64 (k : Int), .int .i64 (m : Int)] w (RS (k : Int) (m : Int) w) := by
  obtain ⟨X, hX, zX, hXc⟩ := name4 root ann bob cat (by decide) (by decide) (by decide) (by decide) (by decide) (by decide) (by decide) (by decide) k (by omega) 9
  have HS := Lib.hid (show shw (k : Int) (m : Int) = X.data.toList ++ 58 :: Lib.decDigits m by rw [shw, if_neg (by omega), hX.symm, show tx wheel staff ops lab (m : Int) = Lib.decDigits m by rw [tx_big (.inr (by omega)), dgs_nat]])
  have zs : (⟨#[58]⟩ : ByteArray).size ≤ 1 := Nat.le_refl 1
  have ze : (⟨#[]⟩ : ByteArray).size ≤ 1 := by decide
  have q1 : decide (0 ≤ (k : Int)) = true := by simp
  have q2 : decide ((k : Int) < 4) = true := by simp; omega
  have HD := Lib.hid (fun w => rdig_any k w (by omega))
  have hd := dgs_len (k : Int) (by omega)
  rw [dgs_nat] at hd
  clear hX
  change ∀ W : World, (W.alloc (.cells #[.string ⟨#[114, 111, 111, 116]⟩, .string ⟨#[97, 110, 110]⟩, .string ⟨#[98, 111, 98]⟩, .string ⟨#[99, 97, 116]⟩] 9)).cell? ⟨W.heap.size, k, none⟩ = some (.string X) at hXc
  have r1 : decide ((m : Int) < 0) = false := by simp
  have r2 : decide ((m : Int) < 4) = false := by simp; omega
  have HE := Lib.hid (fun w => rdig_any m w hm1)
  have he := dgs_len (m : Int) (by omega)
  rw [dgs_nat] at he
  have HB0 := Lib.hid (Below.refl w.heap.size w)
  go_enter Tryd.func16, Tryd.ntmps16
  go_wp2_with fail
  refine (HD.out _).mono ?_
  rintro e w1 ⟨⟨t, rfl, ht⟩, hb1⟩
  have HT := Lib.hid ht
  have zt : t.size ≤ 19 := by rw [len_of ht]; exact hd
  have HB1 := Lib.hid hb1
  clear hb1 ht
  go_wp2_with fail
  refine (HE.out _).mono ?_
  rintro e w2 ⟨⟨t2, rfl, ht2⟩, hb2⟩
  have HT2 := Lib.hid ht2
  have zt2 : t2.size ≤ 19 := by rw [len_of ht2]; exact he
  have HB2 := Lib.hid (bt hb2 (HB1.out.alloc HB1.out.size _))
  clear hb2 ht2
  go_wp2
  go_ret
  exact ⟨⟨_, rfl, by simp only [ByteArray.data_append, Array.toList_append, HT2.out, HS.out]; simp⟩, HB2.out⟩
set_option maxHeartbeats 1000000 in
theorem rshow_BN (n : Nat) (hn : 4 ≤ n) (hn1 : n ≤ 9223372036854775807) (g : Int) (hg : g < 0) (w : World) : Calls Tryd.prog 16 #[.int .i64 (n : Int), .int .i64 g] w (RS (n : Int) g w) := by
  have HS := Lib.hid (show shw (n : Int) g = Lib.decDigits n by rw [shw, if_pos hg, List.append_nil]; exact (show tx root ann bob cat (n : Int) = Lib.decDigits n by rw [tx_big (.inr (by omega)), dgs_nat]))
  have zs : (⟨#[58]⟩ : ByteArray).size ≤ 1 := Nat.le_refl 1
  have ze : (⟨#[]⟩ : ByteArray).size ≤ 1 := by decide
  have q1 : decide (0 ≤ (n : Int)) = true := by simp
  have q2 : decide ((n : Int) < 4) = false := by simp; omega
  have HD := Lib.hid (fun w => rdig_any n w hn1)
  have hd := dgs_len (n : Int) (by omega)
  rw [dgs_nat] at hd
  have r1 : decide (g < 0) = true := by simpa using hg
  have HB0 := Lib.hid (Below.refl w.heap.size w)
  go_enter Tryd.func16, Tryd.ntmps16
  go_wp2_with fail
  refine (HD.out _).mono ?_
  rintro e w1 ⟨⟨t, rfl, ht⟩, hb1⟩
  have HT := Lib.hid ht
  have zt : t.size ≤ 19 := by rw [len_of ht]; exact hd
  have HB1 := Lib.hid hb1
  clear hb1 ht
  go_wp2
  go_ret
  exact ⟨⟨_, rfl, by rw [HS.out, HT.out]⟩, HB1.out⟩
set_option maxHeartbeats 1000000 in
theorem rshow_BS (n : Nat) (hn : 4 ≤ n) (hn1 : n ≤ 9223372036854775807) (j : Nat) (hj : j < 4) (w : World) : Calls Tryd.prog 16 #[.int .i64 (n : Int), .int .i64 (j : Int)] w (RS (n : Int) (j : Int) w) := by
  obtain ⟨Y, hY, zY, hYc⟩ := name4 wheel staff ops lab (by decide) (by decide) (by decide) (by decide) (by decide) (by decide) (by decide) (by decide) j (by omega) 9
  have HS := Lib.hid (show shw (n : Int) (j : Int) = Lib.decDigits n ++ 58 :: Y.data.toList by rw [shw, if_neg (by omega), show tx root ann bob cat (n : Int) = Lib.decDigits n by rw [tx_big (.inr (by omega)), dgs_nat], hY.symm])
  have zs : (⟨#[58]⟩ : ByteArray).size ≤ 1 := Nat.le_refl 1
  have ze : (⟨#[]⟩ : ByteArray).size ≤ 1 := by decide
  have q1 : decide (0 ≤ (n : Int)) = true := by simp
  have q2 : decide ((n : Int) < 4) = false := by simp; omega
  have HD := Lib.hid (fun w => rdig_any n w hn1)
  have hd := dgs_len (n : Int) (by omega)
  rw [dgs_nat] at hd
  have r1 : decide ((j : Int) < 0) = false := by simp
  have r2 : decide ((j : Int) < 4) = true := by simp; omega
  clear hY
  change ∀ W : World, (W.alloc (.cells #[.string ⟨#[119, 104, 101, 101, 108]⟩, .string ⟨#[115, 116, 97, 102, 102]⟩, .string ⟨#[111, 112, 115]⟩, .string ⟨#[108, 97, 98]⟩] 9)).cell? ⟨W.heap.size, j, none⟩ = some (.string Y) at hYc
  have HB0 := Lib.hid (Below.refl w.heap.size w)
  go_enter Tryd.func16, Tryd.ntmps16
  go_wp2_with fail
  refine (HD.out _).mono ?_
  rintro e w1 ⟨⟨t, rfl, ht⟩, hb1⟩
  have HT := Lib.hid ht
  have zt : t.size ≤ 19 := by rw [len_of ht]; exact hd
  have HB1 := Lib.hid hb1
  clear hb1 ht
  go_wp2
  go_ret
  exact ⟨⟨_, rfl, by simp only [ByteArray.data_append, Array.toList_append, HT.out, HS.out]; simp⟩, (HB1.out.alloc (by have := HB1.out.size; first | (simp; omega) | simp) _)⟩
set_option maxHeartbeats 1000000 in
theorem rshow_BB (n : Nat) (hn : 4 ≤ n) (hn1 : n ≤ 9223372036854775807) (m : Nat) (hm : 4 ≤ m) (hm1 : m ≤ 9223372036854775807) (w : World) : Calls Tryd.prog 16 #[.int .i64 (n : Int), .int .i64 (m : Int)] w (RS (n : Int) (m : Int) w) := by
  have HS := Lib.hid (show shw (n : Int) (m : Int) = Lib.decDigits n ++ 58 :: Lib.decDigits m by rw [shw, if_neg (by omega), show tx root ann bob cat (n : Int) = Lib.decDigits n by rw [tx_big (.inr (by omega)), dgs_nat], show tx wheel staff ops lab (m : Int) = Lib.decDigits m by rw [tx_big (.inr (by omega)), dgs_nat]])
  have zs : (⟨#[58]⟩ : ByteArray).size ≤ 1 := Nat.le_refl 1
  have ze : (⟨#[]⟩ : ByteArray).size ≤ 1 := by decide
  have q1 : decide (0 ≤ (n : Int)) = true := by simp
  have q2 : decide ((n : Int) < 4) = false := by simp; omega
  have HD := Lib.hid (fun w => rdig_any n w hn1)
  have hd := dgs_len (n : Int) (by omega)
  rw [dgs_nat] at hd
  have r1 : decide ((m : Int) < 0) = false := by simp
  have r2 : decide ((m : Int) < 4) = false := by simp; omega
  have HE := Lib.hid (fun w => rdig_any m w hm1)
  have he := dgs_len (m : Int) (by omega)
  rw [dgs_nat] at he
  have HB0 := Lib.hid (Below.refl w.heap.size w)
  go_enter Tryd.func16, Tryd.ntmps16
  go_wp2_with fail
  refine (HD.out _).mono ?_
  rintro e w1 ⟨⟨t, rfl, ht⟩, hb1⟩
  have HT := Lib.hid ht
  have zt : t.size ≤ 19 := by rw [len_of ht]; exact hd
  have HB1 := Lib.hid hb1
  clear hb1 ht
  go_wp2_with fail
  refine (HE.out _).mono ?_
  rintro e w2 ⟨⟨t2, rfl, ht2⟩, hb2⟩
  have HT2 := Lib.hid ht2
  have zt2 : t2.size ≤ 19 := by rw [len_of ht2]; exact he
  have HB2 := Lib.hid (bt hb2 HB1.out)
  clear hb2 ht2
  go_wp2
  go_ret
  exact ⟨⟨_, rfl, by simp only [ByteArray.data_append, Array.toList_append, HT.out, HT2.out, HS.out]; simp⟩, HB2.out⟩
end Go.Proofs.YtkbdlmmpeieaeaaDoor
