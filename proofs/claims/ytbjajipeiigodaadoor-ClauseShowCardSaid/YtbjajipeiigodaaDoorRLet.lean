/-
  What the reference's letters answers: those of a number's bits, in an order.
-/
import Derived.Test.YtbjajipeiigodaaDoorRRight
import Derived.Test.YtbjajipeiigodaaDoorBackM2
namespace Go.Proofs.YtbjajipeiigodaaDoor
open Go Go.RowKit

theorem lsl_run (s : ByteArray) (n : Nat) (h : n + 1 ≤ s.size) (w : World) : (Instr.slice 9 (.string s) (some (.int .i64 (n : Int))) (some (.int .i64 ((n : Int) + 1))) none).run Tryd.prog w = .ok (.string (s.extract n (n + 1))) w := by
  have e := run_slice_string w 9 s .i64 .i64 (n : Int) ((n : Int) + 1) Tryd.underlying9 (by omega) (by omega) (by omega)
  rwa [show ((n : Int)).toNat = n by omega, show ((n : Int) + 1).toNat = n + 1 by omega] at e
theorem ext_one (s : ByteArray) (n : Nat) (h : n < s.size) : (s.extract n (n + 1)).data.toList = [s[n]] := by
  rw [ByteArray.data_extract, Array.toList_extract, List.extract_eq_take_drop, show n + 1 - n = 1 by omega]
  have h2 : n < s.data.toList.length := by simpa using h
  rw [List.drop_eq_getElem_cons h2]
  rfl
theorem len_of {a : ByteArray} {l : List UInt8} (h : a.data.toList = l) : a.size = l.length := by rw [← h]; simp
/-- The letters of a number's bits, of the first k of an order. -/
def letP (n : Nat) (bs os : List UInt8) (k : Nat) : List UInt8 := (os.take k).filter fun c => n / 2 ^ (plc bs c).toNat % 2 == 1
def LetPost (l : List UInt8) (w : World) (e : Ending) (w' : World) : Prop := ∃ t : ByteArray, e = .returned (.string t) ∧ t.data.toList = l ∧ w = w'
set_option maxHeartbeats 2000000 in
theorem letters_any (n : Nat) (bs os : ByteArray) (w : World) (hn : n ≤ 1000) (hb : bs.size ≤ 10) (ho : os.size ≤ 10) (hin : ∀ c ∈ os.data.toList, 0 ≤ plc bs.data.toList c ∧ plc bs.data.toList c ≤ 10) : Calls Tryd.prog 42 #[.int .i64 (n : Int), .string bs, .string os] w (LetPost (letP n bs.data.toList os.data.toList os.size) w) := by
  obtain ⟨R, hR⟩ : ∃ R, letP n bs.data.toList os.data.toList os.size = R := ⟨_, rfl⟩
  have HR := Lib.hid hR
  rw [hR]
  have HIN := Lib.hid hin
  clear hR hin
  go_enter Tryd.func42, Tryd.ntmps42
  go_wp2
  go_loop [7, 8] (fun s i => ∃ (k : Nat) (t : ByteArray), k ≤ os.size ∧ i = .int .i64 k ∧ s = .string t ∧ t.data.toList = letP n bs.data.toList os.data.toList k) (fun _ i => os.size - (intOf i).toNat)
  case atStart => exact ⟨0, ⟨#[]⟩, Nat.zero_le _, rfl, rfl, rfl⟩
  case round =>
    obtain ⟨k, t, hk, rfl, rfl, ht⟩ := hrel
    have HT := Lib.hid ht
    have zt : t.size ≤ 10 := by
      have h1 := len_of ht
      have h2 : (letP n bs.data.toList os.data.toList k).length ≤ k := Nat.le_trans (List.length_filter_le ..) (List.length_take_le ..)
      omega
    clear ht
    by_cases hlt : k < os.size
    · obtain ⟨c, hc⟩ : ∃ c, os[k] = c := ⟨_, rfl⟩
      have hck : os.data.toList[k]? = some c := by rw [← hc]; exact List.getElem?_eq_getElem (by simpa using hlt)
      have hpl := HIN.out c (List.mem_of_getElem? hck)
      have HPL := Lib.hid (fun w => place_any bs c w (by omega))
      have HN := Lib.hid (show letP n bs.data.toList os.data.toList (k + 1) = letP n bs.data.toList os.data.toList k ++ if (n / 2 ^ (plc bs.data.toList c).toNat % 2 == 1) = true then [c] else [] by
        unfold letP
        rw [take_snoc' hck, List.filter_append]
        congr 1
        simp only [List.filter_cons, List.filter_nil])
      obtain ⟨s1, hs1, hsl⟩ : ∃ s1 : ByteArray, s1.data.toList = [c] ∧ ∀ w : World, (Instr.slice 9 (.string os) (some (.int .i64 (k : Int))) (some (.int .i64 ((k : Int) + 1))) none).run Tryd.prog w = .ok (.string s1) w := ⟨_, by rw [ext_one os k hlt, hc], fun w => lsl_run os k (by omega) w⟩
      have HS1 := Lib.hid hs1
      have z1 : s1.size ≤ 1 := by have := len_of hs1; simp at this; omega
      obtain ⟨P, hP⟩ : ∃ P, plc bs.data.toList c = P := ⟨_, rfl⟩
      rw [hP] at HPL HN hpl
      have HPW := Lib.hid (fun w => pow_any P w hpl.1 (by omega))
      obtain ⟨q, hq⟩ : ∃ q : Nat, (2 : Nat) ^ P.toNat = q := ⟨_, rfl⟩
      rw [show (2 : Int) ^ P.toNat = (q : Int) by rw [← hq]; simp] at HPW
      rw [hq] at HN
      have hq0 : 0 < q := by rw [← hq]; exact Nat.two_pow_pos _
      have hqz : ((q : Int) == 0) = false := by rw [beq_eq_false_iff_ne]; omega
      have hq1 : (0 : Int) < q := by omega
      obtain ⟨Q, hQ⟩ : ∃ Q, n / q = Q := ⟨_, rfl⟩
      have hd : (n : Int) / (q : Int) = (Q : Int) := by rw [← hQ]; simp
      have hQ1 : Q ≤ 1000 := by rw [← hQ]; exact Nat.le_trans (Nat.div_le_self _ _) hn
      rw [hQ] at HN
      have hw64 : wrap64 (Q : Int) = (Q : Int) := by unfold wrap64; omega
      have p0 := hpl.1
      clear hs1 hP hck hq hpl hQ
      by_cases hbit : Q % 2 = 1
      · have hb1 : ((Q : Int) % 2 == 1) = true := by rw [beq_iff_eq]; omega
        have HE := Lib.hid (show letP n bs.data.toList os.data.toList (k + 1) = letP n bs.data.toList os.data.toList k ++ [c] by rw [HN.out, if_pos (by rw [beq_iff_eq]; exact hbit)])
        clear hbit
        go_wp2_with fail
        refine (HPL.out _).mono ?_
        rintro e w1 ⟨rfl, rfl⟩
        go_wp2_with fail
        refine (HPW.out _).mono ?_
        rintro e w1 ⟨rfl, rfl⟩
        go_wp2
        go_round
        case rel => exact ⟨k + 1, t ++ s1, by omega, by go_num, rfl, by rw [ByteArray.data_append, Array.toList_append, HT.out, HS1.out, HE.out]⟩
        case measure => simp [intOf]; omega
      · have hb1 : ((Q : Int) % 2 == 1) = false := by rw [beq_eq_false_iff_ne]; omega
        have HE := Lib.hid (show letP n bs.data.toList os.data.toList (k + 1) = letP n bs.data.toList os.data.toList k by rw [HN.out, if_neg (by rw [beq_iff_eq]; exact hbit), List.append_nil])
        clear hbit
        go_wp2_with fail
        refine (HPL.out _).mono ?_
        rintro e w1 ⟨rfl, rfl⟩
        go_wp2_with fail
        refine (HPW.out _).mono ?_
        rintro e w1 ⟨rfl, rfl⟩
        go_wp2
        go_round
        case rel => exact ⟨k + 1, t, by omega, by go_num, rfl, by rw [HT.out, HE.out]⟩
        case measure => simp [intOf]; omega
    · have HF := Lib.hid (show t.data.toList = R by rw [HT.out, ← HR.out, show k = os.size by omega])
      go_wp2
      go_ret
      exact ⟨t, rfl, HF.out, rfl⟩
theorem let_who : ∀ k : Fin 8, k.val ≠ 7 → letP k.val [117, 103, 111] [117, 103, 111] 3 = whoL (k.val : Int) := by decide +kernel
theorem let_per : ∀ p : Fin 64, letP p.val [120, 119, 114, 88, 115, 116] [114, 119, 120, 88, 115, 116] 6 = perP (p.val : Int) 6 := by decide +kernel
theorem letters_who (k : Nat) (w : World) (hk : k < 7) : Calls Tryd.prog 42 #[.int .i64 (k : Int), .string ⟨#[117, 103, 111]⟩, .string ⟨#[117, 103, 111]⟩] w (LetPost (whoL (k : Int)) w) := by
  rw [← let_who ⟨k, by omega⟩ (by simp; omega)]
  exact letters_any k ⟨#[117, 103, 111]⟩ ⟨#[117, 103, 111]⟩ w (by omega) (by decide) (by decide) (by
    intro c hc
    simp only [List.mem_cons, List.mem_nil_iff, or_false] at hc
    rcases hc with rfl | rfl | rfl <;> decide)
theorem letters_per (p : Nat) (w : World) (hp : p < 64) : Calls Tryd.prog 42 #[.int .i64 (p : Int), .string ⟨#[120, 119, 114, 88, 115, 116]⟩, .string ⟨#[114, 119, 120, 88, 115, 116]⟩] w (LetPost (perP (p : Int) 6) w) := by
  rw [← let_per ⟨p, hp⟩]
  exact letters_any p ⟨#[120, 119, 114, 88, 115, 116]⟩ ⟨#[114, 119, 120, 88, 115, 116]⟩ w (by omega) (by decide) (by decide) (by
    intro c hc
    simp only [List.mem_cons, List.mem_nil_iff, or_false] at hc
    rcases hc with rfl | rfl | rfl | rfl | rfl | rfl <;> decide)
/-- A text of one byte. -/
theorem conv_one (w : World) (b : UInt8) (T : TypeId) (c : Nat) : (convert 42 9 (.slice (some ⟨w.heap.size, 0, none⟩) 1 c)).run Tryd.prog (w.alloc (.cells #[.int .u8 (co b)] T)) = .ok (.string ⟨#[b]⟩) (w.alloc (.cells #[.int .u8 (co b)] T)) := by
  rw [run_convert_bytes_string _ 42 9 5 _ _ _ Tryd.underlying42 Tryd.underlying5 Tryd.underlying9]
  have hl := run_loadCells_list (P := Tryd.prog) (w.alloc (.cells #[.int .u8 (co b)] T)) ⟨w.heap.size, 0, none⟩ ([co b].map (Value.int .u8)) (fun j u hj => by
    rw [Addr.add_lit, Nat.zero_add, World.cell?_alloc_mark]
    simpa using hj)
  rw [show (1 : Nat) = ([co b].map (Value.int .u8)).length from rfl, run_bytesToString _ _ _ _ [co b] hl]
  simp [co]
  rfl
end Go.Proofs.YtbjajipeiigodaaDoor
