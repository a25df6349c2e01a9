/-
  What the reference's Read tells of a text, and what its Of makes of a mode.
-/
import Derived.Test.YtbjajipeiigodaaDoorRParse2
namespace Go.Proofs.YtbjajipeiigodaaDoor
open Go Go.RowKit

def RRPost (t : TM) (w : World) (e : Ending) (w' : World) : Prop := Below w.heap.size w w' ∧ match t with
  | .bad => e = .returned (.tuple #[.agg #[.bool false, .int .i64 0, .slice none 0 0], .bool false])
  | .num x => e = .returned (.tuple #[.agg #[.bool true, .int .i64 x, .slice none 0 0], .bool true])
  | .cl cs => ∃ A n c, ClsR w' (.slice A n c) cs ∧ e = .returned (.tuple #[.agg #[.bool false, .int .i64 0, .slice A n c], .bool true])
attribute [local go_sem] cell_set_off cell_set_blk
set_option maxHeartbeats 1000000 in
theorem rread_nil (s : ByteArray) (w : World) (hs : s.size ≤ 100000) (he : s.toList = []) : Calls Tryd.prog 25 #[.string s] w (RRPost (clM s) w) := by
  have HP := Lib.hid (fun w => rparse2_any s w hs)
  have h1 : (s.toList == []) = true := by rw [he]; rfl
  cases hc : parseC s.data.toList with
  | none =>
    have e3 : clM s = .bad := by rw [clM, hc]
    rw [e3]
    rw [hc] at HP
    unfold RPPost2 at HP
    simp only at HP
    clear hc e3
    go_enter Tryd.func25, Tryd.ntmps25
    go_wp2_with fail
    refine (HP.out _).mono ?_
    rintro e w1 ⟨hb, rfl⟩
    obtain ⟨hcl, hfr⟩ := bcell hb
    have HB := Lib.hid hb
    clear hb
    go_wp2
    have hbb : Below w.heap.size w w1 := ((Below.refl _ _).alloc (Nat.le_refl _) _).trans (HB.out.mono (by simp))
    exact bodyPost_ret (v := .tuple #[.agg #[.bool false, .int .i64 0, .slice none 0 0], .bool false]) (by simp [results, Tryd.results25, go_sem, hcl]) rfl ⟨by repeat (first | exact hbb | refine Below.setCell ?_ (by simp) _), rfl⟩
  | some cs =>
    have e3 : clM s = .cl cs := by rw [clM, hc]
    rw [e3]
    rw [hc] at HP
    unfold RPPost2 at HP
    simp only at HP
    clear hc e3
    go_enter Tryd.func25, Tryd.ntmps25
    go_wp2_with fail
    refine (HP.out _).mono ?_
    rintro e w1 ⟨hb, A, n, c, rfl, ho⟩
    have HO := Lib.hid ho
    have hbk : Blk w1 w.heap.size 49 #[.bool false, .int .i64 0, .slice none 0 0] := (hb.block _ (by simp)).trans (Blk.new w _ _)
    have HBK := Lib.hid hbk
    obtain ⟨hcl, hfr⟩ := bcell hb
    have HB := Lib.hid hb
    clear hb hbk ho
    go_wp2
    have hbb : Below w.heap.size w w1 := ((Below.refl _ _).alloc (Nat.le_refl _) _).trans (HB.out.mono (by simp))
    exact bodyPost_ret (v := .tuple #[.agg #[.bool false, .int .i64 0, .slice A n c], .bool true]) (by simp [results, Tryd.results25, go_sem, hcl]) rfl ⟨by repeat (first | exact hbb | refine Below.setCell ?_ (by simp) _), A, n, c, (ClsQ.far HO.out HBK.out (set3 _ _ _ _ _)).cls, rfl⟩
set_option maxHeartbeats 1000000 in
theorem rread_lo (s : ByteArray) (w : World) (hs : s.size ≤ 100000) (he : ¬ s.toList = []) (hz : 0 < s.size) (hd : (s[0].toNat : Int) < 48) : Calls Tryd.prog 25 #[.string s] w (RRPost (clM s) w) := by
  have HP := Lib.hid (fun w => rparse2_any s w hs)
  have h1 : s.toList.isEmpty = false := by simpa using he
  have hd' : ¬ (48 : Int) ≤ (s[0].toNat : Int) := by omega
  cases hc : parseC s.data.toList with
  | none =>
    have e3 : clM s = .bad := by rw [clM, hc]
    rw [e3]
    rw [hc] at HP
    unfold RPPost2 at HP
    simp only at HP
    clear hc e3
    go_enter Tryd.func25, Tryd.ntmps25
    go_wp2_with fail
    refine (HP.out _).mono ?_
    rintro e w1 ⟨hb, rfl⟩
    obtain ⟨hcl, hfr⟩ := bcell hb
    have HB := Lib.hid hb
    clear hb
    go_wp2
    have hbb : Below w.heap.size w w1 := ((Below.refl _ _).alloc (Nat.le_refl _) _).trans (HB.out.mono (by simp))
    exact bodyPost_ret (v := .tuple #[.agg #[.bool false, .int .i64 0, .slice none 0 0], .bool false]) (by simp [results, Tryd.results25, go_sem, hcl]) rfl ⟨by repeat (first | exact hbb | refine Below.setCell ?_ (by simp) _), rfl⟩
  | some cs =>
    have e3 : clM s = .cl cs := by rw [clM, hc]
    rw [e3]
    rw [hc] at HP
    unfold RPPost2 at HP
    simp only at HP
    clear hc e3
    go_enter Tryd.func25, Tryd.ntmps25
    go_wp2_with fail
    refine (HP.out _).mono ?_
    rintro e w1 ⟨hb, A, n, c, rfl, ho⟩
    have HO := Lib.hid ho
    have hbk : Blk w1 w.heap.size 49 #[.bool false, .int .i64 0, .slice none 0 0] := (hb.block _ (by simp)).trans (Blk.new w _ _)
    have HBK := Lib.hid hbk
    obtain ⟨hcl, hfr⟩ := bcell hb
    have HB := Lib.hid hb
    clear hb hbk ho
    go_wp2
    have hbb : Below w.heap.size w w1 := ((Below.refl _ _).alloc (Nat.le_refl _) _).trans (HB.out.mono (by simp))
    exact bodyPost_ret (v := .tuple #[.agg #[.bool false, .int .i64 0, .slice A n c], .bool true]) (by simp [results, Tryd.results25, go_sem, hcl]) rfl ⟨by repeat (first | exact hbb | refine Below.setCell ?_ (by simp) _), A, n, c, (ClsQ.far HO.out HBK.out (set3 _ _ _ _ _)).cls, rfl⟩
set_option maxHeartbeats 1000000 in
theorem rread_hi (s : ByteArray) (w : World) (hs : s.size ≤ 100000) (he : ¬ s.toList = []) (hz : 0 < s.size) (hd : (57 : Int) < (s[0].toNat : Int)) : Calls Tryd.prog 25 #[.string s] w (RRPost (clM s) w) := by
  have HP := Lib.hid (fun w => rparse2_any s w hs)
  have h1 : s.toList.isEmpty = false := by simpa using he
  have hd' : ¬ (s[0].toNat : Int) ≤ 57 := by omega
  have hd2 : (48 : Int) ≤ (s[0].toNat : Int) := by omega
  cases hc : parseC s.data.toList with
  | none =>
    have e3 : clM s = .bad := by rw [clM, hc]
    rw [e3]
    rw [hc] at HP
    unfold RPPost2 at HP
    simp only at HP
    clear hc e3
    go_enter Tryd.func25, Tryd.ntmps25
    go_wp2_with fail
    refine (HP.out _).mono ?_
    rintro e w1 ⟨hb, rfl⟩
    obtain ⟨hcl, hfr⟩ := bcell hb
    have HB := Lib.hid hb
    clear hb
    go_wp2
    have hbb : Below w.heap.size w w1 := ((Below.refl _ _).alloc (Nat.le_refl _) _).trans (HB.out.mono (by simp))
    exact bodyPost_ret (v := .tuple #[.agg #[.bool false, .int .i64 0, .slice none 0 0], .bool false]) (by simp [results, Tryd.results25, go_sem, hcl]) rfl ⟨by repeat (first | exact hbb | refine Below.setCell ?_ (by simp) _), rfl⟩
  | some cs =>
    have e3 : clM s = .cl cs := by rw [clM, hc]
    rw [e3]
    rw [hc] at HP
    unfold RPPost2 at HP
    simp only at HP
    clear hc e3
    go_enter Tryd.func25, Tryd.ntmps25
    go_wp2_with fail
    refine (HP.out _).mono ?_
    rintro e w1 ⟨hb, A, n, c, rfl, ho⟩
    have HO := Lib.hid ho
    have hbk : Blk w1 w.heap.size 49 #[.bool false, .int .i64 0, .slice none 0 0] := (hb.block _ (by simp)).trans (Blk.new w _ _)
    have HBK := Lib.hid hbk
    obtain ⟨hcl, hfr⟩ := bcell hb
    have HB := Lib.hid hb
    clear hb hbk ho
    go_wp2
    have hbb : Below w.heap.size w w1 := ((Below.refl _ _).alloc (Nat.le_refl _) _).trans (HB.out.mono (by simp))
    exact bodyPost_ret (v := .tuple #[.agg #[.bool false, .int .i64 0, .slice A n c], .bool true]) (by simp [results, Tryd.results25, go_sem, hcl]) rfl ⟨by repeat (first | exact hbb | refine Below.setCell ?_ (by simp) _), A, n, c, (ClsQ.far HO.out HBK.out (set3 _ _ _ _ _)).cls, rfl⟩
set_option maxHeartbeats 1000000 in
theorem rread_dig (s : ByteArray) (w : World) (hs : s.size ≤ 100000) (he : ¬ s.toList = []) (hz : 0 < s.size) (d0 : (48 : Int) ≤ (s[0].toNat : Int)) (d1 : (s[0].toNat : Int) ≤ 57) : Calls Tryd.prog 25 #[.string s] w (RRPost (octM s) w) := by
  have HRO := Lib.hid (fun w => rreadOctal_any s w (by omega))
  have h1 : s.toList.isEmpty = false := by simpa using he
  by_cases hneg : rdo s < 0
  · have e3 : octM s = .bad := by rw [octM, if_pos hneg]
    rw [e3]
    clear e3
    generalize rdo s = x at HRO hneg
    go_enter Tryd.func25, Tryd.ntmps25
    go_wp2_with fail
    refine (HRO.out _).mono ?_
    rintro e w1 ⟨rfl, rfl⟩
    go_wp2
    exact bodyPost_ret (v := .tuple #[.agg #[.bool false, .int .i64 0, .slice none 0 0], .bool false]) (by simp [results, Tryd.results25, go_sem]) rfl ⟨(Below.refl _ _).alloc (Nat.le_refl _) _, rfl⟩
  · have e3 : octM s = .num (rdo s) := by rw [octM, if_neg hneg]
    rw [e3]
    clear e3
    generalize rdo s = x at HRO hneg ⊢
    go_enter Tryd.func25, Tryd.ntmps25
    go_wp2_with fail
    refine (HRO.out _).mono ?_
    rintro e w1 ⟨rfl, rfl⟩
    go_wp2
    exact bodyPost_ret (v := .tuple #[.agg #[.bool true, .int .i64 x, .slice none 0 0], .bool true]) (by simp [results, Tryd.results25, go_sem]) rfl ⟨(Below.refl _ _).alloc (Nat.le_refl _) _, rfl⟩
theorem rread_any (s : ByteArray) (w : World) (hs : s.size ≤ 100000) : Calls Tryd.prog 25 #[.string s] w (RRPost (rdM s) w) := by
  by_cases he : s.toList = []
  · have e1 : rdM s = clM s := by
      have h2 := he
      rw [ByteArray.toList_eq] at h2
      rw [rdM, h2]; rfl
    rw [e1]
    exact rread_nil s w hs he
  · have hz : 0 < s.size := by
      rcases Nat.eq_zero_or_pos s.size with h | h
      · exfalso
        apply he
        rw [ByteArray.toList_eq]
        exact List.eq_nil_of_length_eq_zero (by simpa using h)
      · exact h
    have hh := head_of hz
    by_cases d0 : (48 : Int) ≤ (s[0].toNat : Int)
    · by_cases d1 : (s[0].toNat : Int) ≤ 57
      · have e1 : rdM s = octM s := by rw [rdM, hh]; simp [d0, d1]
        rw [e1]
        exact rread_dig s w hs he hz d0 d1
      · have e1 : rdM s = clM s := by rw [rdM, hh]; simp [d1]
        rw [e1]
        exact rread_hi s w hs he hz (by omega)
    · have e1 : rdM s = clM s := by rw [rdM, hh]; simp [d0]
      rw [e1]
      exact rread_lo s w hs he hz (by omega)
theorem rof_num (x : Int) (v : Value) (mode : Int) (dir : Bool) (u : Int) (w : World) : Calls Tryd.prog 27 #[.agg #[.bool true, .int .i64 x, v], .int .i64 mode, .bool dir, .int .i64 u] w fun e w' => e = .returned (.int .i64 (x % 4096)) ∧ Below w.heap.size w w' := by
  go_enter Tryd.func27, Tryd.ntmps27
  go_wp2_with fail
  refine (low_any _ _).mono ?_
  rintro e w1 ⟨rfl, rfl⟩
  go_wp2
  go_ret
  exact ⟨rfl, (Below.refl _ _).alloc (Nat.le_refl _) _⟩
theorem rof_cl (cs : List CC) (x : Int) (A : Option Addr) (n c : Nat) (mode : Int) (dir : Bool) (u : Int) (w : World) (h : ClsR w (.slice A n c) cs) (hn : cs.length ≤ 1000000) (hl : ∀ c ∈ cs, c.acts.length ≤ 1000000) : Calls Tryd.prog 27 #[.agg #[.bool false, .int .i64 x, .slice A n c], .int .i64 mode, .bool dir, .int .i64 u] w fun e w' => e = .returned (.int .i64 (applyM cs mode dir u)) ∧ Below w.heap.size w w' := by
  have hb0 : Below w.heap.size w (w.alloc (.cells #[.bool false, .int .i64 x, .slice A n c] 49)) := (Below.refl _ _).alloc (Nat.le_refl _) _
  have HAP := Lib.hid (rapply_any (.slice A n c) cs mode dir u _ (h.below hb0) hn hl)
  have HB0 := Lib.hid hb0
  clear hb0 hl
  go_enter Tryd.func27, Tryd.ntmps27
  go_wp2_with fail
  refine HAP.out.mono ?_
  rintro e w1 ⟨rfl, hb⟩
  have HB := Lib.hid (HB0.out.trans (hb.mono (by simp)))
  clear hb
  go_wp2
  go_ret
  exact ⟨rfl, HB.out⟩
end Go.Proofs.YtbjajipeiigodaaDoor
