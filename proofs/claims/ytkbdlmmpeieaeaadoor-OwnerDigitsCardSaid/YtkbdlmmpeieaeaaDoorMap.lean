/-
  The maps of names: what users and groups lay, what is found in such a map by a name (idOf) and by a number (nameOf), in whatever order it is gone through. The only condition is that a text's length is a number that a machine has.
-/
import Derived.Test.YtkbdlmmpeieaeaaDoorDec
import Derived.Laws.IdiomRangeMap
import Derived.Maps.RangeRun
import Derived.Deep.Draws
namespace Go.Proofs.YtkbdlmmpeieaeaaDoor
open Go Go.RowKit
open Go.ChangeMaps (setBlock)

def en (a : List UInt8) (n : Nat) : MapEntry := { key := .string ⟨a.toArray⟩, val := .int .i64 n, born := n }
def es4 (a b c d : List UInt8) : Array MapEntry := #[en a 0, en b 1, en c 2, en d 3]
/-- The place of a text among four; -1: it is none. -/
def nam (a b c d l : List UInt8) : Int := if l = a then 0 else if l = b then 1 else if l = c then 2 else if l = d then 3 else -1
/-- The text of a place among four; empty: there is none. -/
def txt (a b c d : List UInt8) (n : Int) : List UInt8 := if n = 0 then a else if n = 1 then b else if n = 2 then c else if n = 3 then d else []
theorem ba_iff {s : ByteArray} {a : List UInt8} : s = ⟨a.toArray⟩ ↔ s.data.toList = a := by
  constructor
  · rintro rfl; rfl
  · intro h; obtain ⟨x⟩ := s; subst h; simp
theorem ba_beq (s : ByteArray) (a : List UInt8) : (s == (⟨a.toArray⟩ : ByteArray)) = decide (s.data.toList = a) := by
  rw [Bool.eq_iff_iff, MapKept.bytes_beq, ba_iff, decide_eq_true_iff]
theorem find4 (a b c d : List UInt8) (s : ByteArray) : Instr.findNow .string (.string s) (es4 a b c d).toList 0 =
    some (if s.data.toList = a then some (0, .int .i64 0) else if s.data.toList = b then some (1, .int .i64 1) else if s.data.toList = c then some (2, .int .i64 2) else if s.data.toList = d then some (3, .int .i64 3) else none) := by
  simp only [es4, en, Instr.findNow, Instr.sameNow, ba_beq]
  generalize s.data.toList = l
  by_cases ha : l = a
  · subst ha; simp
  · by_cases hb : l = b
    · subst hb; simp [ha]
    · by_cases hc : l = c
      · subst hc; simp [ha, hb]
      · by_cases hd : l = d
        · subst hd; simp [ha, hb, hc]
        · simp [ha, hb, hc, hd]
theorem zero_int (w : World) : (zeroValue 3).run Tryd.prog w = .ok (.int .i64 0) w := by kernel_rfl
theorem look4 (a b c d : List UInt8) (s : ByteArray) (w : World) (bm : Nat) (hb : w.heap[bm]? = some (.map (es4 a b c d) 4)) :
    (Instr.lookup 43 (.map (some bm)) (.string s) true).run Tryd.prog w = .ok (.tuple #[.int .i64 (okN (nam a b c d s.data.toList)), .bool (decide (0 ≤ nam a b c d s.data.toList))]) w := by
  have hk := MapKept.run_checkKey (P := Tryd.prog) (w := w) Tryd.underlying9 (k := .string s) trivial false 9999
  have hf := MapKept.run_findKey (P := Tryd.prog) (w := w) Tryd.underlying9 (find4 a b c d s)
  have he : (es4 a b c d).isEmpty = false := rfl
  have main : ∀ r : Option (Nat × Value), (Instr.findKey 9 (.string s) (es4 a b c d).toList).run Tryd.prog w = .ok r w →
      (Instr.lookup 43 (.map (some bm)) (.string s) true).run Tryd.prog w = .ok (match r with | some (_, v) => .tuple #[v, .bool true] | none => .tuple #[.int .i64 0, .bool false]) w := by
    intro r hr
    simp only [Instr.lookup, Sem.run_bind, run_underlying Tryd.underlying43, Result.andThen, MapKept.run_getObj_map hb, Sem.run_pure, he, hk, hr]
    cases r with
    | some x => rfl
    | none =>
      simp only [Sem.run_bind, zero_int, Result.andThen]
      rfl
  rw [main _ hf, nam]
  clear main hf hb
  generalize s.data.toList = l
  by_cases ha : l = a
  · simp [ha, okN]
  · by_cases hb : l = b
    · subst hb; simp [ha, okN]
    · by_cases hc : l = c
      · subst hc; simp [ha, hb, okN]
      · by_cases hd : l = d
        · subst hd; simp [ha, hb, hc, okN]
        · simp [ha, hb, hc, hd, okN]
theorem upd4 (key : ByteArray) (v : Value) (es : Array MapEntry) (c : Nat) (w : World) (h : Instr.findNow .string (.string key) es.toList 0 = some none) :
    (Instr.mapUpdate 43 (.map (some w.heap.size)) (.string key) v).run Tryd.prog (w.alloc (.map es c)) = .ok () (w.alloc (.map (es.push { key := .string key, val := v, born := c }) (c + 1))) := by
  have hb : (w.alloc (.map es c)).heap[w.heap.size]? = some (.map es c) := (MapKept.heap_alloc w _).1
  have hk := MapKept.run_checkKey (P := Tryd.prog) (w := w.alloc (.map es c)) Tryd.underlying9 (k := .string key) trivial false 9999
  have hf := MapKept.run_findKey (P := Tryd.prog) (w := w.alloc (.map es c)) Tryd.underlying9 h
  simp only [Instr.mapUpdate, Sem.run_bind, run_underlying Tryd.underlying43, Result.andThen, MapKept.run_getObj_map hb, hk, hf, MapKept.run_setObj_map _ hb]
  have hp : ∀ (h : Array Obj) (x y : Obj), (h.push x).setIfInBounds h.size y = h.push y := by
    intro h x y
    apply Array.toList_inj.1
    simp
  show Result.ok () ({ w.alloc (.map es c) with heap := (w.heap.push (.map es c)).setIfInBounds w.heap.size (.map (es.push { key := .string key, val := v, born := c }) (c + 1)) } : World) = _
  rw [hp]
  rfl

def root : List UInt8 := [114, 111, 111, 116]
def ann : List UInt8 := [97, 110, 110]
def bob : List UInt8 := [98, 111, 98]
def cat : List UInt8 := [99, 97, 116]
def wheel : List UInt8 := [119, 104, 101, 101, 108]
def staff : List UInt8 := [115, 116, 97, 102, 102]
def ops : List UInt8 := [111, 112, 115]
def lab : List UInt8 := [108, 97, 98]
theorem users_any (w : World) : Calls Tryd.prog 20 #[] w fun e w' => e = .returned (.map (some w.heap.size)) ∧ w' = w.alloc (.map (es4 root ann bob cat) 4) := by
  have hmm := @run_makeMap Tryd.prog
  have h0 : (Instr.mapUpdate 43 (.map (some w.heap.size)) (.string ⟨#[114, 111, 111, 116]⟩) (.int .i64 0)).run Tryd.prog (w.alloc (.map #[] 0)) = .ok () (w.alloc (.map #[en root 0] 1)) := upd4 ⟨#[114, 111, 111, 116]⟩ (.int .i64 0) #[] 0 w (by rfl)
  have h1 : (Instr.mapUpdate 43 (.map (some w.heap.size)) (.string ⟨#[97, 110, 110]⟩) (.int .i64 1)).run Tryd.prog (w.alloc (.map #[en root 0] 1)) = .ok () (w.alloc (.map #[en root 0, en ann 1] 2)) := upd4 ⟨#[97, 110, 110]⟩ (.int .i64 1) #[en root 0] 1 w (by rfl)
  have h2 : (Instr.mapUpdate 43 (.map (some w.heap.size)) (.string ⟨#[98, 111, 98]⟩) (.int .i64 2)).run Tryd.prog (w.alloc (.map #[en root 0, en ann 1] 2)) = .ok () (w.alloc (.map #[en root 0, en ann 1, en bob 2] 3)) := upd4 ⟨#[98, 111, 98]⟩ (.int .i64 2) #[en root 0, en ann 1] 2 w (by rfl)
  have h3 : (Instr.mapUpdate 43 (.map (some w.heap.size)) (.string ⟨#[99, 97, 116]⟩) (.int .i64 3)).run Tryd.prog (w.alloc (.map #[en root 0, en ann 1, en bob 2] 3)) = .ok () (w.alloc (.map #[en root 0, en ann 1, en bob 2, en cat 3] 4)) := upd4 ⟨#[99, 97, 116]⟩ (.int .i64 3) #[en root 0, en ann 1, en bob 2] 3 w (by rfl)
  go_enter Tryd.func20, Tryd.ntmps20
  go_wp2
  go_ret
  exact ⟨rfl, rfl⟩
theorem groups_any (w : World) : Calls Tryd.prog 21 #[] w fun e w' => e = .returned (.map (some w.heap.size)) ∧ w' = w.alloc (.map (es4 wheel staff ops lab) 4) := by
  have hmm := @run_makeMap Tryd.prog
  have h0 : (Instr.mapUpdate 43 (.map (some w.heap.size)) (.string ⟨#[119, 104, 101, 101, 108]⟩) (.int .i64 0)).run Tryd.prog (w.alloc (.map #[] 0)) = .ok () (w.alloc (.map #[en wheel 0] 1)) := upd4 ⟨#[119, 104, 101, 101, 108]⟩ (.int .i64 0) #[] 0 w (by rfl)
  have h1 : (Instr.mapUpdate 43 (.map (some w.heap.size)) (.string ⟨#[115, 116, 97, 102, 102]⟩) (.int .i64 1)).run Tryd.prog (w.alloc (.map #[en wheel 0] 1)) = .ok () (w.alloc (.map #[en wheel 0, en staff 1] 2)) := upd4 ⟨#[115, 116, 97, 102, 102]⟩ (.int .i64 1) #[en wheel 0] 1 w (by rfl)
  have h2 : (Instr.mapUpdate 43 (.map (some w.heap.size)) (.string ⟨#[111, 112, 115]⟩) (.int .i64 2)).run Tryd.prog (w.alloc (.map #[en wheel 0, en staff 1] 2)) = .ok () (w.alloc (.map #[en wheel 0, en staff 1, en ops 2] 3)) := upd4 ⟨#[111, 112, 115]⟩ (.int .i64 2) #[en wheel 0, en staff 1] 2 w (by rfl)
  have h3 : (Instr.mapUpdate 43 (.map (some w.heap.size)) (.string ⟨#[108, 97, 98]⟩) (.int .i64 3)).run Tryd.prog (w.alloc (.map #[en wheel 0, en staff 1, en ops 2] 3)) = .ok () (w.alloc (.map #[en wheel 0, en staff 1, en ops 2, en lab 3] 4)) := upd4 ⟨#[108, 97, 98]⟩ (.int .i64 3) #[en wheel 0, en staff 1, en ops 2] 3 w (by rfl)
  go_enter Tryd.func21, Tryd.ntmps21
  go_wp2
  go_ret
  exact ⟨rfl, rfl⟩
end Go.Proofs.YtkbdlmmpeieaeaaDoor
