/-
  What owner.Show and the reference's Show answer of any numbers that a machine has, under the condition that strconv's table of powers holds what its initialiser lays.
-/
import Derived.Test.YtkbdlmmpeieaeaaDoorShow
namespace Go.Proofs.YtkbdlmmpeieaeaaDoor
open Go Go.RowKit

/-- An owner and a group as a text. -/
def shw (u g : Int) : List UInt8 := tx root ann bob cat u ++ (if g < 0 then [] else 58 :: tx wheel staff ops lab g)
theorem txt_len (a b c d : List UInt8) (n : Int) (ha : a.length ≤ 5) (hb : b.length ≤ 5) (hc : c.length ≤ 5) (hd : d.length ≤ 5) : (txt a b c d n).length ≤ 5 := by
  unfold txt
  repeat (split; assumption)
  simp
theorem tx_len {a b c d : List UInt8} {n : Int} (h : (txt a b c d n).length ≤ 5) (hn : n ≤ 9223372036854775807) : (tx a b c d n).length ≤ 19 := by
  have := dgs_len n hn
  unfold tx fst2
  split <;> omega
theorem tu_len (n : Int) (hn : n ≤ 9223372036854775807) : (tx root ann bob cat n).length ≤ 19 := tx_len (txt_len _ _ _ _ n (by decide) (by decide) (by decide) (by decide)) hn
theorem tg_len (n : Int) (hn : n ≤ 9223372036854775807) : (tx wheel staff ops lab n).length ≤ 19 := tx_len (txt_len _ _ _ _ n (by decide) (by decide) (by decide) (by decide)) hn
set_option maxHeartbeats 1000000 in
theorem show_any (u g : Int) (w : World) (hu0 : -9223372036854775808 ≤ u) (hu1 : u ≤ 9223372036854775807) (hg0 : -9223372036854775808 ≤ g) (hg1 : g ≤ 9223372036854775807) (hT : Tb w) :
    Calls Tryd.prog 15 #[.int .i64 u, .int .i64 g] w fun e w' => (∃ t : ByteArray, e = .returned (.string t) ∧ t.data.toList = shw u g) ∧ Below w.heap.size w w' := by
  have HT := Lib.hid hT
  have HU := Lib.hid (fun bm w hb hT => textOf_any root ann bob cat u bm w hb hu0 hu1 hT)
  have HG := Lib.hid (fun bm w hb hT => textOf_any wheel staff ops lab g bm w hb hg0 hg1 hT)
  have zu : (⟨(tx root ann bob cat u).toArray⟩ : ByteArray).size ≤ 19 := tu_len u hu1
  have zg : (⟨(tx wheel staff ops lab g).toArray⟩ : ByteArray).size ≤ 19 := tg_len g hg1
  obtain ⟨X, hX⟩ : ∃ X : ByteArray, (⟨(tx root ann bob cat u).toArray⟩ : ByteArray) = X := ⟨_, rfl⟩
  obtain ⟨Y, hY⟩ : ∃ Y : ByteArray, (⟨(tx wheel staff ops lab g).toArray⟩ : ByteArray) = Y := ⟨_, rfl⟩
  have HX := Lib.hid (show X.data.toList = tx root ann bob cat u by rw [← hX])
  have HY := Lib.hid (show Y.data.toList = tx wheel staff ops lab g by rw [← hY])
  rw [hX] at zu
  rw [hY] at zg
  simp only [hX] at HU
  simp only [hY] at HG
  clear hX hY hT hu0 hu1 hg0 hg1
  have zs : (⟨#[58]⟩ : ByteArray).size ≤ 1 := Nat.le_refl 1
  by_cases hg : g < 0
  · have HS := Lib.hid (show shw u g = tx root ann bob cat u by rw [shw, if_pos hg, List.append_nil])
    have hg' : decide (0 ≤ g) = false := by simpa using hg
    go_enter Tryd.func15, Tryd.ntmps15
    go_wp2_with fail
    refine (users_any _).mono ?_
    rintro e w1 ⟨rfl, hw⟩
    have HB1 := Lib.hid (show Below w.heap.size w w1 by rw [hw]; exact (Below.refl _ _).alloc (Nat.le_refl _) _)
    have HM := Lib.hid (show w1.heap[w.heap.size]? = some (.map (es4 root ann bob cat) 4) by rw [hw]; exact (MapKept.heap_alloc _ _).1)
    clear hw
    go_wp2_with fail
    refine (HU.out _ _ HM.out (HT.out.below HB1.out)).mono ?_
    rintro e w2 ⟨rfl, hb2⟩
    have HB2 := Lib.hid (bt hb2 HB1.out)
    clear hb2
    go_wp2
    go_ret
    exact ⟨⟨_, rfl, by rw [HX.out, HS.out]⟩, HB2.out⟩
  · have HS := Lib.hid (show shw u g = tx root ann bob cat u ++ 58 :: tx wheel staff ops lab g by rw [shw, if_neg hg])
    have hg' : decide (0 ≤ g) = true := by simpa using hg
    go_enter Tryd.func15, Tryd.ntmps15
    go_wp2_with fail
    refine (users_any _).mono ?_
    rintro e w1 ⟨rfl, hw⟩
    have HB1 := Lib.hid (show Below w.heap.size w w1 by rw [hw]; exact (Below.refl _ _).alloc (Nat.le_refl _) _)
    have HM := Lib.hid (show w1.heap[w.heap.size]? = some (.map (es4 root ann bob cat) 4) by rw [hw]; exact (MapKept.heap_alloc _ _).1)
    clear hw
    go_wp2_with fail
    refine (HU.out _ _ HM.out (HT.out.below HB1.out)).mono ?_
    rintro e w2 ⟨rfl, hb2⟩
    have HB2 := Lib.hid (bt hb2 HB1.out)
    clear hb2
    go_wp2_with fail
    refine (groups_any _).mono ?_
    rintro e w3 ⟨rfl, hw⟩
    have HB3 := Lib.hid (show Below w.heap.size w w3 by rw [hw]; exact HB2.out.alloc HB2.out.size _)
    have HM2 := Lib.hid (show w3.heap[w2.heap.size]? = some (.map (es4 wheel staff ops lab) 4) by rw [hw]; exact (MapKept.heap_alloc _ _).1)
    clear hw
    go_wp2_with fail
    refine (HG.out _ _ HM2.out (HT.out.below HB3.out)).mono ?_
    rintro e w4 ⟨rfl, hb4⟩
    have HB4 := Lib.hid (bt hb4 HB3.out)
    clear hb4
    go_wp2
    go_ret
    exact ⟨⟨_, rfl, by simp only [ByteArray.data_append, Array.toList_append, HX.out, HY.out, HS.out]; rfl⟩, HB4.out⟩

theorem txt_big {a b c d : List UInt8} {n : Int} (h : n < 0 ∨ 4 ≤ n) : txt a b c d n = [] := by
  rw [txt, if_neg (by omega), if_neg (by omega), if_neg (by omega), if_neg (by omega)]
theorem tx_big {a b c d : List UInt8} {n : Int} (h : n < 0 ∨ 4 ≤ n) : tx a b c d n = dgs n := by rw [tx, txt_big h, fst2, if_pos rfl]
theorem tx_small {a b c d : List UInt8} (ha : a ≠ []) (hb : b ≠ []) (hc : c ≠ []) (hd : d ≠ []) (k : Nat) (hk : k < 4) : tx a b c d (k : Int) = [a, b, c, d].getD k [] := by
  match k, hk with
  | 0, _ => show fst2 a _ = a; rw [fst2, if_neg ha]
  | 1, _ => show fst2 b _ = b; rw [fst2, if_neg hb]
  | 2, _ => show fst2 c _ = c; rw [fst2, if_neg hc]
  | 3, _ => show fst2 d _ = d; rw [fst2, if_neg hd]
theorem cell4 (a b c d : ByteArray) (k : Nat) (hk : k < 4) (T : TypeId) : ∃ x : ByteArray, x = [a, b, c, d].getD k a ∧ ∀ W : World, (W.alloc (.cells #[.string a, .string b, .string c, .string d] T)).cell? ⟨W.heap.size, k, none⟩ = some (.string x) := by
  match k, hk with
  | 0, _ => exact ⟨a, rfl, fun W => by simp⟩
  | 1, _ => exact ⟨b, rfl, fun W => by simp⟩
  | 2, _ => exact ⟨c, rfl, fun W => by simp⟩
  | 3, _ => exact ⟨d, rfl, fun W => by simp⟩
/-- What is found in the reference's list of names. -/
theorem name4 (a b c d : List UInt8) (ha : a ≠ []) (hb : b ≠ []) (hc : c ≠ []) (hd : d ≠ []) (la : a.length ≤ 5) (lb : b.length ≤ 5) (lc : c.length ≤ 5) (ld : d.length ≤ 5) (k : Nat) (hk : k < 4) (T : TypeId) :
    ∃ x : ByteArray, x.data.toList = tx a b c d (k : Int) ∧ x.size ≤ 5 ∧ ∀ W : World, (W.alloc (.cells #[.string ⟨a.toArray⟩, .string ⟨b.toArray⟩, .string ⟨c.toArray⟩, .string ⟨d.toArray⟩] T)).cell? ⟨W.heap.size, k, none⟩ = some (.string x) := by
  obtain ⟨x, hx, hc⟩ := cell4 ⟨a.toArray⟩ ⟨b.toArray⟩ ⟨c.toArray⟩ ⟨d.toArray⟩ k hk T
  refine ⟨x, ?_, ?_, hc⟩
  · rw [tx_small ha hb (by assumption) hd k hk, hx]
    match k, hk with
    | 0, _ => rfl
    | 1, _ => rfl
    | 2, _ => rfl
    | 3, _ => rfl
  · rw [hx]
    match k, hk with
    | 0, _ => exact la
    | 1, _ => exact lb
    | 2, _ => exact lc
    | 3, _ => exact ld
end Go.Proofs.YtkbdlmmpeieaeaaDoor
