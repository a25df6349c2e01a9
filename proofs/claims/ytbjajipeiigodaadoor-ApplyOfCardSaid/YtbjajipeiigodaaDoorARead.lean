/-
  What apply.Read tells of a text, what apply.Of makes of a mode by it, and the statements' function of.
-/
import Derived.Test.YtbjajipeiigodaaDoorApply
import Derived.Test.YtbjajipeiigodaaDoorMOct
import Derived.Test.YtbjajipeiigodaaDoorParse
import Derived.Test.YtbjajipeiigodaaDoorMath2
namespace Go.Proofs.YtbjajipeiigodaaDoor
open Go Go.RowKit

/-- A mode as it is told. -/
inductive TM where
  | bad
  | num (n : Int)
  | cl (cs : List CC)
/-- Does a text begin with a digit? -/
def dig0 (l : List UInt8) : Bool := match l with
  | [] => false
  | c :: _ => decide (48 ≤ co c) && decide (co c ≤ 57)
def octM (s : ByteArray) : TM := if rdo s < 0 then .bad else .num (rdo s)
def clM (s : ByteArray) : TM := match parseC s.data.toList with
  | none => .bad
  | some cs => .cl cs
def rdM (s : ByteArray) : TM := if dig0 s.data.toList = true then octM s else clM s
def RdPost (t : TM) (w : World) (e : Ending) (w' : World) : Prop := ∃ A n c, Below w.heap.size w w' ∧ match t with
  | .bad => Value.slice A n c = .slice none 0 0 ∧ e = .returned (.tuple #[.agg #[.bool false, .int .i64 0, .slice none 0 0], .int .i64 22])
  | .num x => Value.slice A n c = .slice none 0 0 ∧ e = .returned (.tuple #[.agg #[.bool true, .int .i64 x, .slice none 0 0], .int .i64 0])
  | .cl cs => ClsO w' (.slice A n c) cs ∧ e = .returned (.tuple #[.agg #[.bool false, .int .i64 0, .slice A n c], .int .i64 0])

theorem isDigit_any (c : Int) (w : World) : Calls Tryd.prog 44 #[.int .u8 c] w fun e w' => e = .returned (.bool (decide (48 ≤ c) && decide (c ≤ 57))) ∧ w = w' := by
  by_cases h0 : 48 ≤ c
  · by_cases h1 : c ≤ 57
    · go_enter Tryd.func44, Tryd.ntmps44
      go_wp2
      go_ret
      exact ⟨ret_bool (by simp [h0, h1]), rfl⟩
    · go_enter Tryd.func44, Tryd.ntmps44
      go_wp2
      go_ret
      exact ⟨ret_bool (by simp [h1]), rfl⟩
  · go_enter Tryd.func44, Tryd.ntmps44
    go_wp2
    go_ret
    exact ⟨ret_bool (by simp; omega), rfl⟩

attribute [local go_sem] cell_set_off cell_set_blk
theorem ret_any {a b : Value} (h : a = b) : Ending.returned a = .returned b := by rw [h]
set_option maxHeartbeats 1000000 in
theorem aoctal_any (s : ByteArray) (w : World) (hs : s.size ≤ 1000000) : Calls Tryd.prog 45 #[.string s] w (RdPost (octM s) w) := by
  have HRO := Lib.hid (fun w => readOctal_any s w (by omega))
  by_cases hneg : rdo s < 0
  · have e1 : roN s = 0 := by rw [roN, if_pos hneg]
    have e2 : roE s = 22 := by rw [roE, if_pos hneg]
    have e3 : octM s = .bad := by rw [octM, if_pos hneg]
    rw [e1, e2] at HRO
    rw [e3]
    clear e1 e2 e3 hneg
    go_enter Tryd.func45, Tryd.ntmps45
    go_wp2_with fail
    refine (HRO.out _).mono ?_
    rintro e w1 ⟨rfl, hb⟩
    obtain ⟨hcl, hfr⟩ := bcell hb
    have s0 : ∀ v, (w1.setCell ⟨w.heap.size, 0, none⟩ v).cell? ⟨w.heap.size, 0, none⟩ = some v := fun v => World.cell?_setCell_same' _ _ _ (by rw [hcl _ _ (by simp)]; simp [go_sem])
    have HB := Lib.hid hb
    clear hb
    go_wp2
    have hbb : Below w.heap.size w w1 := ((Below.refl _ _).alloc (Nat.le_refl _) _).trans (HB.out.mono (by simp))
    exact bodyPost_ret (v := .tuple #[.agg #[.bool false, .int .i64 0, .slice none 0 0], .int .i64 22]) (by simp [results, Tryd.results45, go_sem, hcl]) rfl ⟨none, 0, 0, by repeat (first | exact hbb | refine Below.setCell ?_ (by simp) _), rfl, rfl⟩
  · have e1 : roN s = rdo s := by rw [roN, if_neg hneg]
    have e2 : roE s = 0 := by rw [roE, if_neg hneg]
    have e3 : octM s = .num (rdo s) := by rw [octM, if_neg hneg]
    rw [e1, e2] at HRO
    rw [e3]
    clear e1 e2 e3 hneg
    generalize rdo s = x at HRO ⊢
    go_enter Tryd.func45, Tryd.ntmps45
    go_wp2_with fail
    refine (HRO.out _).mono ?_
    rintro e w1 ⟨rfl, hb⟩
    obtain ⟨hcl, hfr⟩ := bcell hb
    have s0 : ∀ v, (w1.setCell ⟨w.heap.size, 0, none⟩ v).cell? ⟨w.heap.size, 0, none⟩ = some v := fun v => World.cell?_setCell_same' _ _ _ (by rw [hcl _ _ (by simp)]; simp [go_sem])
    have HB := Lib.hid hb
    clear hb
    go_wp2
    have hbb : Below w.heap.size w w1 := ((Below.refl _ _).alloc (Nat.le_refl _) _).trans (HB.out.mono (by simp))
    exact bodyPost_ret (v := .tuple #[.agg #[.bool true, .int .i64 x, .slice none 0 0], .int .i64 0]) (by simp [results, Tryd.results45, go_sem, hcl]) rfl ⟨none, 0, 0, by repeat (first | exact hbb | refine Below.setCell ?_ (by simp) _), rfl, rfl⟩

/-- Clauses that a call made stay while another block, of another kind, is written. -/
theorem ClsO.far {w w' : World} {v : Value} {cs : List CC} {b : Nat} {cells : Array Value} (h : ClsO w v cs) (hb : Blk w b 45 cells) (h8 : ∀ (i : Nat) (x : Int), cells[i]? ≠ some (Value.int .u8 x)) (hg : w.grownBy w' (some b)) : ClsO w' v cs := by
  obtain ⟨l, B, rfl, ho, ha⟩ := h
  have hk : w'.ownsRow B 34 2 v l.length (cCells l) := by
    refine ho.kept hg (.inr ?_)
    rcases ho.2 with ⟨rfl, _⟩ | ⟨g, cap, cur, rfl, _, hh, _⟩
    · simp [Value.ownBlock]
    · intro e
      have e2 : g = b := by simpa [Value.ownBlock] using e
      subst e2
      unfold Blk at hb
      rw [hh] at hb
      injection hb with hb
      injection hb with _ ht
      exact absurd ht (by decide)
  refine ⟨l, B, rfl, hk, fun p hp => ⟨?_, (ha p hp).2⟩⟩
  obtain ⟨A, c, hv, hc⟩ := (ha p hp).1
  refine ⟨A, c, hv, fun k a hka => ?_⟩
  obtain ⟨ad, hA, h0, h1, h2⟩ := hc k a hka
  have hne : some (ad.add (k * 3)).block ≠ some b := by
    intro e
    injection e with e
    have hu := hb
    unfold Blk at hu
    have h3 := h0
    unfold World.cell? at h3
    rw [e, hu] at h3
    simp only at h3
    split at h3
    · cases h3
    · exact h8 _ _ h3
  refine ⟨ad, hA, ?_, ?_, ?_⟩
  · rw [World.cell?_of_block (w := w) (hg.block _ (World.block_lt_of_cell? _ _ h0) hne)]; exact h0
  · rw [World.cell?_of_block (w := w) (hg.block _ (World.block_lt_of_cell? _ _ h1) hne)]; exact h1
  · rw [World.cell?_of_block (w := w) (hg.block _ (World.block_lt_of_cell? _ _ h2) hne)]; exact h2
theorem set3 (w : World) (b : Nat) (x y z : Value) : w.grownBy (((w.setCell ⟨b, 0, none⟩ x).setCell ⟨b, 1, none⟩ y).setCell ⟨b, 2, none⟩ z) (some b) :=
  grown_trans (grown_trans (grown_setCell w ⟨b, 0, none⟩ x) (grown_setCell _ ⟨b, 1, none⟩ y)) (grown_setCell _ ⟨b, 2, none⟩ z)
theorem zero8 (i : Nat) (x : Int) : (#[Value.bool false, .int .i64 0, .slice none 0 0] : Array Value)[i]? ≠ some (.int .u8 x) := by
  match i with
  | 0 => simp
  | 1 => simp
  | 2 => simp
  | _ + 3 => simp
set_option maxHeartbeats 1000000 in
theorem aclauses_any (s : ByteArray) (w : World) (hs : s.size ≤ 1000000) : Calls Tryd.prog 46 #[.string s] w (RdPost (clM s) w) := by
  have HP := Lib.hid (fun w => parse_any s w hs)
  cases hc : parseC s.data.toList with
  | none =>
    have e3 : clM s = .bad := by rw [clM, hc]
    rw [e3]
    rw [hc] at HP
    unfold ParsePost at HP
    simp only at HP
    clear hc e3
    go_enter Tryd.func46, Tryd.ntmps46
    go_wp2_with fail
    refine (HP.out _).mono ?_
    rintro e w1 ⟨v1, hb, rfl, rfl⟩
    obtain ⟨hcl, hfr⟩ := bcell hb
    have s0 : ∀ v, (w1.setCell ⟨w.heap.size, 0, none⟩ v).cell? ⟨w.heap.size, 0, none⟩ = some v := fun v => World.cell?_setCell_same' _ _ _ (by rw [hcl _ _ (by simp)]; simp [go_sem])
    have HB := Lib.hid hb
    clear hb
    go_wp2
    have hbb : Below w.heap.size w w1 := ((Below.refl _ _).alloc (Nat.le_refl _) _).trans (HB.out.mono (by simp))
    exact bodyPost_ret (v := .tuple #[.agg #[.bool false, .int .i64 0, .slice none 0 0], .int .i64 22]) (by simp [results, Tryd.results46, go_sem, hcl]) rfl ⟨none, 0, 0, by repeat (first | exact hbb | refine Below.setCell ?_ (by simp) _), rfl, rfl⟩
  | some cs =>
    have e3 : clM s = .cl cs := by rw [clM, hc]
    rw [e3]
    rw [hc] at HP
    unfold ParsePost at HP
    simp only at HP
    have HN := Lib.hid (parseC_ne hc)
    clear hc e3
    go_enter Tryd.func46, Tryd.ntmps46
    go_wp2_with fail
    refine (HP.out _).mono ?_
    rintro e w1 ⟨v1, hb, ho, rfl⟩
    have HO := Lib.hid ho
    obtain ⟨A, c, rfl, -⟩ := ho.cls
    have hbk : Blk w1 w.heap.size 45 #[.bool false, .int .i64 0, .slice none 0 0] := (hb.block _ (by simp)).trans (Blk.new w _ _)
    have HBK := Lib.hid hbk
    obtain ⟨hcl, hfr⟩ := bcell hb
    have s0 : ∀ v, (w1.setCell ⟨w.heap.size, 2, none⟩ v).cell? ⟨w.heap.size, 2, none⟩ = some v := fun v => World.cell?_setCell_same' _ _ _ (by rw [hcl _ _ (by simp)]; simp [go_sem])
    have HB := Lib.hid hb
    clear hb hbk
    go_wp2
    have hbb : Below w.heap.size w w1 := ((Below.refl _ _).alloc (Nat.le_refl _) _).trans (HB.out.mono (by simp))
    refine bodyPost_ret (v := .tuple #[.agg #[.bool false, .int .i64 0, .slice A cs.length c], .int .i64 0]) (by simp [results, Tryd.results46, go_sem, hcl]) rfl ⟨A, cs.length, c, by repeat (first | exact hbb | refine Below.setCell ?_ (by simp) _), ?_, rfl⟩
    exact ClsO.far HO.out HBK.out zero8 (set3 _ _ _ _ _)

theorem head_of {s : ByteArray} (h : 0 < s.size) : dig0 s.data.toList = (decide ((48 : Int) ≤ (s[0].toNat : Int)) && decide ((s[0].toNat : Int) ≤ (57 : Int))) := by
  have h2 : s.data.toList = s[0] :: s.data.toList.drop 1 := by
    have h3 : 0 < s.data.toList.length := by simpa using h
    have h4 := List.drop_eq_getElem_cons h3
    rw [List.drop_zero] at h4
    exact h4
  rw [h2]
  rfl
attribute [local go_sem] cell_set_off cell_set_blk
set_option maxHeartbeats 1000000 in
theorem aread_nil (s : ByteArray) (w : World) (hs : s.size ≤ 1000000) (he : s.toList = []) : Calls Tryd.prog 24 #[.string s] w (RdPost (clM s) w) := by
  have HC := Lib.hid (fun w => aclauses_any s w hs)
  have h1 : (s.toList == []) = true := by rw [he]; rfl
  generalize clM s = t at HC ⊢
  unfold RdPost at HC ⊢
  cases t with
  | bad =>
    simp only at HC ⊢
    go_enter Tryd.func24, Tryd.ntmps24
    go_wp2_with fail
    refine (HC.out _).mono ?_
    rintro e w1 ⟨A, n, c, hb, hv, rfl⟩
    obtain ⟨hcl, hfr⟩ := bcell hb
    have HB := Lib.hid hb
    clear hb hv
    go_wp2
    have hbb : Below w.heap.size w w1 := ((Below.refl _ _).alloc (Nat.le_refl _) _).trans (HB.out.mono (by simp))
    exact bodyPost_ret (v := .tuple #[.agg #[.bool false, .int .i64 0, .slice none 0 0], .int .i64 22]) (by simp [results, Tryd.results24, go_sem, hcl]) rfl ⟨none, 0, 0, by repeat (first | exact hbb | refine Below.setCell ?_ (by simp) _), rfl, rfl⟩
  | num x =>
    simp only at HC ⊢
    go_enter Tryd.func24, Tryd.ntmps24
    go_wp2_with fail
    refine (HC.out _).mono ?_
    rintro e w1 ⟨A, n, c, hb, hv, rfl⟩
    obtain ⟨hcl, hfr⟩ := bcell hb
    have HB := Lib.hid hb
    clear hb hv
    go_wp2
    have hbb : Below w.heap.size w w1 := ((Below.refl _ _).alloc (Nat.le_refl _) _).trans (HB.out.mono (by simp))
    exact bodyPost_ret (v := .tuple #[.agg #[.bool true, .int .i64 x, .slice none 0 0], .int .i64 0]) (by simp [results, Tryd.results24, go_sem, hcl]) rfl ⟨none, 0, 0, by repeat (first | exact hbb | refine Below.setCell ?_ (by simp) _), rfl, rfl⟩
  | cl cs =>
    simp only at HC ⊢
    go_enter Tryd.func24, Tryd.ntmps24
    go_wp2_with fail
    refine (HC.out _).mono ?_
    rintro e w1 ⟨A, n, c, hb, hv, rfl⟩
    have HO := Lib.hid hv
    have hbk : Blk w1 w.heap.size 45 #[.bool false, .int .i64 0, .slice none 0 0] := (hb.block _ (by simp)).trans (Blk.new w _ _)
    have HBK := Lib.hid hbk
    clear hbk
    obtain ⟨hcl, hfr⟩ := bcell hb
    have HB := Lib.hid hb
    clear hb hv
    go_wp2
    have hbb : Below w.heap.size w w1 := ((Below.refl _ _).alloc (Nat.le_refl _) _).trans (HB.out.mono (by simp))
    exact bodyPost_ret (v := .tuple #[.agg #[.bool false, .int .i64 0, .slice A n c], .int .i64 0]) (by simp [results, Tryd.results24, go_sem, hcl]) rfl ⟨A, n, c, by repeat (first | exact hbb | refine Below.setCell ?_ (by simp) _), ClsO.far HO.out HBK.out zero8 (set3 _ _ _ _ _), rfl⟩
set_option maxHeartbeats 1000000 in
theorem aread_no (s : ByteArray) (w : World) (hs : s.size ≤ 1000000) (he : ¬ s.toList = []) (hz : 0 < s.size) (hd : dig0 s.data.toList = false) : Calls Tryd.prog 24 #[.string s] w (RdPost (clM s) w) := by
  have HC := Lib.hid (fun w => aclauses_any s w hs)
  have HD := Lib.hid (fun w => isDigit_any (s[0].toNat : Int) w)
  rw [← head_of hz, hd] at HD
  have h1 : s.toList.isEmpty = false := by simpa using he
  clear hd
  generalize clM s = t at HC ⊢
  unfold RdPost at HC ⊢
  cases t with
  | bad =>
    simp only at HC ⊢
    go_enter Tryd.func24, Tryd.ntmps24
    go_wp2_with fail
    refine (HD.out _).mono ?_
    rintro e w0 ⟨rfl, rfl⟩
    go_wp2_with fail
    refine (HC.out _).mono ?_
    rintro e w1 ⟨A, n, c, hb, hv, rfl⟩
    obtain ⟨hcl, hfr⟩ := bcell hb
    have HB := Lib.hid hb
    clear hb hv
    go_wp2
    have hbb : Below w.heap.size w w1 := ((Below.refl _ _).alloc (Nat.le_refl _) _).trans (HB.out.mono (by simp))
    exact bodyPost_ret (v := .tuple #[.agg #[.bool false, .int .i64 0, .slice none 0 0], .int .i64 22]) (by simp [results, Tryd.results24, go_sem, hcl]) rfl ⟨none, 0, 0, by repeat (first | exact hbb | refine Below.setCell ?_ (by simp) _), rfl, rfl⟩
  | num x =>
    simp only at HC ⊢
    go_enter Tryd.func24, Tryd.ntmps24
    go_wp2_with fail
    refine (HD.out _).mono ?_
    rintro e w0 ⟨rfl, rfl⟩
    go_wp2_with fail
    refine (HC.out _).mono ?_
    rintro e w1 ⟨A, n, c, hb, hv, rfl⟩
    obtain ⟨hcl, hfr⟩ := bcell hb
    have HB := Lib.hid hb
    clear hb hv
    go_wp2
    have hbb : Below w.heap.size w w1 := ((Below.refl _ _).alloc (Nat.le_refl _) _).trans (HB.out.mono (by simp))
    exact bodyPost_ret (v := .tuple #[.agg #[.bool true, .int .i64 x, .slice none 0 0], .int .i64 0]) (by simp [results, Tryd.results24, go_sem, hcl]) rfl ⟨none, 0, 0, by repeat (first | exact hbb | refine Below.setCell ?_ (by simp) _), rfl, rfl⟩
  | cl cs =>
    simp only at HC ⊢
    go_enter Tryd.func24, Tryd.ntmps24
    go_wp2_with fail
    refine (HD.out _).mono ?_
    rintro e w0 ⟨rfl, rfl⟩
    go_wp2_with fail
    refine (HC.out _).mono ?_
    rintro e w1 ⟨A, n, c, hb, hv, rfl⟩
    have HO := Lib.hid hv
    have hbk : Blk w1 w.heap.size 45 #[.bool false, .int .i64 0, .slice none 0 0] := (hb.block _ (by simp)).trans (Blk.new w _ _)
    have HBK := Lib.hid hbk
    clear hbk
    obtain ⟨hcl, hfr⟩ := bcell hb
    have HB := Lib.hid hb
    clear hb hv
    go_wp2
    have hbb : Below w.heap.size w w1 := ((Below.refl _ _).alloc (Nat.le_refl _) _).trans (HB.out.mono (by simp))
    exact bodyPost_ret (v := .tuple #[.agg #[.bool false, .int .i64 0, .slice A n c], .int .i64 0]) (by simp [results, Tryd.results24, go_sem, hcl]) rfl ⟨A, n, c, by repeat (first | exact hbb | refine Below.setCell ?_ (by simp) _), ClsO.far HO.out HBK.out zero8 (set3 _ _ _ _ _), rfl⟩
set_option maxHeartbeats 1000000 in
theorem aread_yes (s : ByteArray) (w : World) (hs : s.size ≤ 1000000) (he : ¬ s.toList = []) (hz : 0 < s.size) (hd : dig0 s.data.toList = true) : Calls Tryd.prog 24 #[.string s] w (RdPost (octM s) w) := by
  have HO := Lib.hid (fun w => aoctal_any s w hs)
  have HD := Lib.hid (fun w => isDigit_any (s[0].toNat : Int) w)
  rw [← head_of hz, hd] at HD
  have h1 : s.toList.isEmpty = false := by simpa using he
  clear hd
  generalize octM s = t at HO ⊢
  unfold RdPost at HO ⊢
  cases t with
  | bad =>
    simp only at HO ⊢
    go_enter Tryd.func24, Tryd.ntmps24
    go_wp2_with fail
    refine (HD.out _).mono ?_
    rintro e w0 ⟨rfl, rfl⟩
    go_wp2_with fail
    refine (HO.out _).mono ?_
    rintro e w1 ⟨A, n, c, hb, hv, rfl⟩
    obtain ⟨hcl, hfr⟩ := bcell hb
    have HB := Lib.hid hb
    clear hb hv
    go_wp2
    have hbb : Below w.heap.size w w1 := ((Below.refl _ _).alloc (Nat.le_refl _) _).trans (HB.out.mono (by simp))
    exact bodyPost_ret (v := .tuple #[.agg #[.bool false, .int .i64 0, .slice none 0 0], .int .i64 22]) (by simp [results, Tryd.results24, go_sem, hcl]) rfl ⟨none, 0, 0, by repeat (first | exact hbb | refine Below.setCell ?_ (by simp) _), rfl, rfl⟩
  | num x =>
    simp only at HO ⊢
    go_enter Tryd.func24, Tryd.ntmps24
    go_wp2_with fail
    refine (HD.out _).mono ?_
    rintro e w0 ⟨rfl, rfl⟩
    go_wp2_with fail
    refine (HO.out _).mono ?_
    rintro e w1 ⟨A, n, c, hb, hv, rfl⟩
    obtain ⟨hcl, hfr⟩ := bcell hb
    have HB := Lib.hid hb
    clear hb hv
    go_wp2
    have hbb : Below w.heap.size w w1 := ((Below.refl _ _).alloc (Nat.le_refl _) _).trans (HB.out.mono (by simp))
    exact bodyPost_ret (v := .tuple #[.agg #[.bool true, .int .i64 x, .slice none 0 0], .int .i64 0]) (by simp [results, Tryd.results24, go_sem, hcl]) rfl ⟨none, 0, 0, by repeat (first | exact hbb | refine Below.setCell ?_ (by simp) _), rfl, rfl⟩
  | cl cs =>
    simp only at HO ⊢
    go_enter Tryd.func24, Tryd.ntmps24
    go_wp2_with fail
    refine (HD.out _).mono ?_
    rintro e w0 ⟨rfl, rfl⟩
    go_wp2_with fail
    refine (HO.out _).mono ?_
    rintro e w1 ⟨A, n, c, hb, hv, rfl⟩
    have HO := Lib.hid hv
    have hbk : Blk w1 w.heap.size 45 #[.bool false, .int .i64 0, .slice none 0 0] := (hb.block _ (by simp)).trans (Blk.new w _ _)
    have HBK := Lib.hid hbk
    clear hbk
    obtain ⟨hcl, hfr⟩ := bcell hb
    have HB := Lib.hid hb
    clear hb hv
    go_wp2
    have hbb : Below w.heap.size w w1 := ((Below.refl _ _).alloc (Nat.le_refl _) _).trans (HB.out.mono (by simp))
    exact bodyPost_ret (v := .tuple #[.agg #[.bool false, .int .i64 0, .slice A n c], .int .i64 0]) (by simp [results, Tryd.results24, go_sem, hcl]) rfl ⟨A, n, c, by repeat (first | exact hbb | refine Below.setCell ?_ (by simp) _), ClsO.far HO.out HBK.out zero8 (set3 _ _ _ _ _), rfl⟩
theorem aread_any (s : ByteArray) (w : World) (hs : s.size ≤ 1000000) : Calls Tryd.prog 24 #[.string s] w (RdPost (rdM s) w) := by
  by_cases he : s.toList = []
  · have e1 : rdM s = clM s := by
      have h2 := he
      rw [ByteArray.toList_eq] at h2
      rw [rdM, h2]; rfl
    rw [e1]
    exact aread_nil s w hs he
  · have hz : 0 < s.size := by
      rcases Nat.eq_zero_or_pos s.size with h | h
      · exfalso
        apply he
        rw [ByteArray.toList_eq]
        exact List.eq_nil_of_length_eq_zero (by simpa using h)
      · exact h
    cases hd : dig0 s.data.toList with
    | false =>
      have e1 : rdM s = clM s := by rw [rdM, hd]; rfl
      rw [e1]
      exact aread_no s w hs he hz hd
    | true =>
      have e1 : rdM s = octM s := by rw [rdM, hd]; rfl
      rw [e1]
      exact aread_yes s w hs he hz hd
end Go.Proofs.YtbjajipeiigodaaDoor
