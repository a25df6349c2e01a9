/-
  What owner.User and owner.Group answer of any text, and nameOf of any number, in whatever order the map is gone through. The only condition is that a text's length is a number that a machine has.
-/
import Derived.Test.YtkbdlmmpeieaeaaDoorMap
namespace Go.Proofs.YtkbdlmmpeieaeaaDoor
open Go Go.RowKit
open Go.ChangeMaps (setBlock)

/-- The id of a text by four names, or the number whose text it is; -1: none. -/
def idn (a b c d l : List UInt8) : Int := if nam a b c d l < 0 then num l else nam a b c d l
theorem nam_bd (a b c d l : List UInt8) : -1 ≤ nam a b c d l ∧ nam a b c d l ≤ 3 := by
  unfold nam
  repeat (split <;> try decide)
theorem idn_bd (a b c d l : List UInt8) : -1 ≤ idn a b c d l ∧ idn a b c d l ≤ 65535 := by
  unfold idn
  have h1 := num_bd l
  have h2 := nam_bd a b c d l
  split <;> omega
theorem idOf_any (a b c d : List UInt8) (s : ByteArray) (bm : Nat) (w : World) (hm : s.size ≤ 9223372036854775807) (hb : w.heap[bm]? = some (.map (es4 a b c d) 4)) :
    Calls Tryd.prog 19 #[.map (some bm), .string s] w fun e w' => e = .returned (.tuple #[.int .i64 (okN (idn a b c d s.data.toList)), .int .i64 (okE (idn a b c d s.data.toList))]) ∧ w = w' := by
  have hl := look4 a b c d s w bm hb
  have HN := Lib.hid (number_any s w hm)
  clear hb
  by_cases hn : nam a b c d s.data.toList < 0
  · have he := Lib.hid (show idn a b c d s.data.toList = num s.data.toList by rw [idn, if_pos hn])
    rw [show decide (0 ≤ nam a b c d s.data.toList) = false by simpa using hn, okN, if_pos hn] at hl
    clear hn
    go_enter Tryd.func19, Tryd.ntmps19
    go_wp2_with fail
    refine HN.out.mono ?_
    rintro e w' ⟨rfl, rfl⟩
    go_wp2
    go_ret2
    exact ⟨ret_two ⟨by rw [he.out], by rw [he.out]⟩, rfl⟩
  · have he := Lib.hid (show idn a b c d s.data.toList = nam a b c d s.data.toList by rw [idn, if_neg hn])
    have HK := Lib.hid (ok_some (show 0 ≤ nam a b c d s.data.toList by omega))
    rw [show decide (0 ≤ nam a b c d s.data.toList) = true by simpa using hn, HK.out.1] at hl
    obtain ⟨N, hN⟩ : ∃ N, nam a b c d s.data.toList = N := ⟨_, rfl⟩
    rw [hN] at hl he HK
    clear hn hN
    go_enter Tryd.func19, Tryd.ntmps19
    go_wp2
    go_ret2
    exact ⟨ret_two ⟨by rw [he.out, HK.out.1], by rw [he.out, HK.out.2]⟩, rfl⟩
theorem user_any (s : ByteArray) (w : World) (hm : s.size ≤ 9223372036854775807) :
    Calls Tryd.prog 11 #[.string s] w fun e w' => e = .returned (.tuple #[.int .i64 (okN (idn root ann bob cat s.data.toList)), .int .i64 (okE (idn root ann bob cat s.data.toList))]) ∧ Below w.heap.size w w' := by
  have HM := Lib.hid hm
  clear hm
  go_enter Tryd.func11, Tryd.ntmps11
  go_wp2_with fail
  refine (users_any _).mono ?_
  rintro e w' ⟨rfl, rfl⟩
  go_wp2_with fail
  refine (idOf_any root ann bob cat s _ _ HM.out (MapKept.heap_alloc _ _).1).mono ?_
  rintro e w' ⟨rfl, rfl⟩
  go_wp2
  go_ret2
  exact ⟨rfl, (Below.refl _ _).alloc (Nat.le_refl _) _⟩
theorem group_any (s : ByteArray) (w : World) (hm : s.size ≤ 9223372036854775807) :
    Calls Tryd.prog 12 #[.string s] w fun e w' => e = .returned (.tuple #[.int .i64 (okN (idn wheel staff ops lab s.data.toList)), .int .i64 (okE (idn wheel staff ops lab s.data.toList))]) ∧ Below w.heap.size w w' := by
  have HM := Lib.hid hm
  clear hm
  go_enter Tryd.func12, Tryd.ntmps12
  go_wp2_with fail
  refine (groups_any _).mono ?_
  rintro e w' ⟨rfl, rfl⟩
  go_wp2_with fail
  refine (idOf_any wheel staff ops lab s _ _ HM.out (MapKept.heap_alloc _ _).1).mono ?_
  rintro e w' ⟨rfl, rfl⟩
  go_wp2
  go_ret2
  exact ⟨rfl, (Below.refl _ _).alloc (Nat.le_refl _) _⟩

theorem stamped4 (a b c d : List UInt8) : (∀ x ∈ (es4 a b c d).toList, x.born < 4) ∧ ((es4 a b c d).toList.map (·.born)).Nodup := by
  refine ⟨?_, by show [0, 1, 2, 3].Nodup; decide⟩
  intro x hx
  have hx : x ∈ [en a 0, en b 1, en c 2, en d 3] := hx
  simp only [List.mem_cons, List.not_mem_nil, or_false] at hx
  rcases hx with rfl | rfl | rfl | rfl <;> simp [en]
theorem mem4 {a b c d : List UInt8} {x : MapEntry} (h : x ∈ (es4 a b c d).toList) : ∃ l n, x = en l n ∧ n < 4 ∧ txt a b c d n = l := by
  have hx : x ∈ [en a 0, en b 1, en c 2, en d 3] := h
  simp only [List.mem_cons, List.not_mem_nil, or_false] at hx
  rcases hx with rfl | rfl | rfl | rfl
  · exact ⟨_, _, rfl, by decide, rfl⟩
  · exact ⟨_, _, rfl, by decide, rfl⟩
  · exact ⟨_, _, rfl, by decide, rfl⟩
  · exact ⟨_, _, rfl, by decide, rfl⟩
/-- A walk through the map is under way: of what has come nothing bore the number. -/
def Rg (w : World) (bm : Nat) (a b c d : List UInt8) (id : Int) (seen : Array Nat) (wr : World) : Prop :=
  Below w.heap.size w wr ∧ wr.heap[w.heap.size]? = some (.mapIter (some bm) 4 seen 4) ∧ wr.heap[bm]? = some (.map (es4 a b c d) 4) ∧ ∀ n : Nat, n < 4 → seen.contains n = true → ¬ (n : Int) = id
theorem rg_next {w : World} {bm : Nat} {a b c d : List UInt8} {id : Int} {seen : Array Nat} {wr : World} (hlt : bm < w.heap.size) (h : Rg w bm a b c d id seen wr) :
    ((leftOf (es4 a b c d) seen).size = 0 ∧ ∀ ty, (Instr.next (.pointer (some ⟨w.heap.size, 0, none⟩)) false ty).run Tryd.prog wr = .ok (.tuple #[.bool false]) wr) ∨
    ∃ (l : List UInt8) (n : Nat) (w2 : World), n < 4 ∧ txt a b c d n = l ∧ (∀ ty, (Instr.next (.pointer (some ⟨w.heap.size, 0, none⟩)) false ty).run Tryd.prog wr = .ok (.tuple #[.bool true, .string ⟨l.toArray⟩, .int .i64 n]) w2) ∧
      (Instr.entry (.pointer (some ⟨w.heap.size, 0, none⟩))).run Tryd.prog w2 = .ok (.tuple #[.string ⟨l.toArray⟩, .int .i64 n]) w2 ∧ Below w.heap.size w w2 ∧ (leftOf (es4 a b c d) (seen.push n)).size < (leftOf (es4 a b c d) seen).size ∧ (¬ (n : Int) = id → Rg w bm a b c d id (seen.push n) w2) := by
  obtain ⟨hB, hr, hb, hno⟩ := h
  rcases run_next_at (P := Tryd.prog) wr 0 w.heap.size bm 4 4 seen (es4 a b c d) 4 hr hb (stamped4 a b c d).1 (Nat.le_refl _) with ⟨h0, hrun⟩ | ⟨e, he, w1, hal, hrun⟩
  · exact .inl ⟨h0, fun _ => hrun⟩
  · obtain ⟨hem, hes⟩ := mem_left he
    have hsh := left_shrinks _ _ _ he
    obtain ⟨l, n, rfl, hn, hl⟩ := mem4 hem
    have hr1 : w1.heap[w.heap.size]? = some (.mapIter (some bm) 4 seen 4) := by rcases hal with rfl | rfl <;> exact hr
    have hb1 : w1.heap[bm]? = some (.map (es4 a b c d) 4) := by rcases hal with rfl | rfl <;> exact hb
    have hset := MapKept.heap_set (o' := .mapIter (some bm) 4 (seen.push (en l n).born) 4) hr1
    have hr2 : (setBlock w1 w.heap.size (.mapIter (some bm) 4 (seen.push (en l n).born) 4)).heap[w.heap.size]? = some (.mapIter (some bm) 4 (seen.push (en l n).born) 4) := hset.1
    have hb2 : (setBlock w1 w.heap.size (.mapIter (some bm) 4 (seen.push (en l n).born) 4)).heap[bm]? = some (.map (es4 a b c d) 4) := (hset.2 bm (by omega)).trans hb1
    have hB1 : Below w.heap.size w w1 := by
      rcases hal with rfl | rfl
      · exact hB
      · exact hB.drew
    have hB2 : Below w.heap.size w (setBlock w1 w.heap.size (.mapIter (some bm) 4 (seen.push (en l n).born) 4)) :=
      hB1.trans ⟨rfl, rfl, rfl, by simp [setBlock], fun k hk => hset.2 k (by omega)⟩
    refine .inr ⟨l, n, _, hn, hl, fun _ => hrun, run_entry_at _ _ bm 4 seen (es4 a b c d) 4 (en l n) hr2 hb2 hem (stamped4 a b c d).2, hB2, hsh, fun hne => ⟨hB2, hr2, hb2, fun m hm hc => ?_⟩⟩
    rw [contains_push] at hc
    rcases Bool.or_eq_true _ _ ▸ hc with h1 | h1
    · exact hno m hm h1
    · have : m = n := beq_iff_eq.1 h1
      subst this
      exact hne
theorem txt_none {a b c d : List UInt8} {id : Int} (h : ∀ n : Nat, n < 4 → ¬ (n : Int) = id) : txt a b c d id = [] := by
  have h0 := h 0 (by decide)
  have h1 := h 1 (by decide)
  have h2 := h 2 (by decide)
  have h3 := h 3 (by decide)
  rw [txt, if_neg (by omega), if_neg (by omega), if_neg (by omega), if_neg (by omega)]
theorem seen4 {a b c d : List UInt8} {seen : Array Nat} (h : (leftOf (es4 a b c d) seen).size = 0) (n : Nat) (hn : n < 4) : seen.contains n = true := by
  have h := all_seen _ _ h
  have hm : ∀ x, x ∈ [en a 0, en b 1, en c 2, en d 3] → seen.contains x.born = true := h
  match n, hn with
  | 0, _ => exact hm (en a 0) (by simp)
  | 1, _ => exact hm (en b 1) (by simp)
  | 2, _ => exact hm (en c 2) (by simp)
  | 3, _ => exact hm (en d 3) (by simp)
theorem ret_str {a b : List UInt8} (h : a = b) : Ending.returned (.string ⟨a.toArray⟩) = .returned (.string ⟨b.toArray⟩) := by rw [h]
set_option maxHeartbeats 1000000 in
theorem nameOf_any (a b c d : List UInt8) (id : Int) (bm : Nat) (w : World) (hb : w.heap[bm]? = some (.map (es4 a b c d) 4)) :
    Calls Tryd.prog 28 #[.map (some bm), .int .i64 id] w fun e w' => e = .returned (.string ⟨(txt a b c d id).toArray⟩) ∧ Below w.heap.size w w' := by
  have hrg := run_range_map (P := Tryd.prog) w 43 9 3 bm _ 4 Tryd.underlying43 hb
  have hlt : bm < w.heap.size := by
    rcases Nat.lt_or_ge bm w.heap.size with h | h
    · exact h
    · simp [Array.getElem?_eq_none h] at hb
  have HS := Lib.hid (show Rg w bm a b c d id #[] (w.alloc (.mapIter (some bm) 4 #[] 4)) from
    ⟨(Below.refl _ _).alloc (Nat.le_refl _) _, (MapKept.heap_alloc _ _).1, ((MapKept.heap_alloc _ _).2 bm hlt).trans hb, fun n _ h => by simp at h⟩)
  have HL := Lib.hid hlt
  clear hb hlt
  go_enter Tryd.func28, Tryd.ntmps28
  go_wp2
  go_loopg [5] (leftOf (es4 a b c d) #[]).size (fun g _ wr => ∃ seen, g = (leftOf (es4 a b c d) seen).size ∧ Rg w bm a b c d id seen wr)
  case atStart => exact ⟨#[], rfl, HS.out⟩
  case round =>
    obtain ⟨seen, rfl, hR⟩ := hrel
    rcases rg_next HL.out hR with ⟨h0, hnx⟩ | ⟨l, n, w2, hn, hl, hnx, hen, hB, hsh, hgo⟩
    · have HF := Lib.hid (show txt a b c d id = [] from txt_none (fun n hn => hR.2.2.2 n hn (seen4 h0 n hn)))
      have HB := Lib.hid hR.1
      clear hR h0 hrg
      go_wp2
      go_ret
      exact ⟨ret_str (a := []) HF.out.symm, HB.out⟩
    · have HB := Lib.hid hB
      have HG := Lib.hid hgo
      have HT := Lib.hid hl
      have HSH := Lib.hid hsh
      clear hR hB hgo hl hrg hsh
      by_cases hid : (n : Int) = id
      · have hq : ((n : Int) == id) = true := by simpa using hid
        have HI := Lib.hid hid
        clear hid
        go_wp2
        go_ret
        exact ⟨ret_str (by rw [← HI.out, HT.out]), HB.out⟩
      · have hq : ((n : Int) == id) = false := by simpa using hid
        have HI := Lib.hid hid
        clear hid
        go_wp2
        go_roundg (leftOf (es4 a b c d) (seen.push n)).size
        case measure => exact HSH.out
        case rel => exact ⟨seen.push n, rfl, HG.out HI.out⟩
end Go.Proofs.YtkbdlmmpeieaeaaDoor
