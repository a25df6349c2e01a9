/-
  The calls of package paths. The conditions are said at each. cred.Can, and the reference's. The conditions are said at each.
-/
import Derived.Test.YtnkjaocmfhjnoaaGreatE1
import Derived.Lib.Bytealg
import Derived.Lib.IndexBytes
import Derived.Lib.OthersKept
import Derived.Laws.OwnMore
import Derived.Deep.AppendLies
import Derived.Deep.LoopGhost
import Derived.OwnWalk
import Derived.Laws.AppendOwnNone
import Derived.Deep.Draws
import Derived.Deep.QuietTactic
import Derived.BigQuiet
import Derived.Laws.IdiomStrings
import Derived.Deep.Onto
import Derived.Laws.BitsLemmas
import Derived.WalkKit
import Derived.Lib.Hide
import Derived.Deep.RegionHeld3
import Derived.StillTailTactics
namespace Go.Proofs.YtnkjaocmfhjnoaaGreat

def npF (cur : List UInt8) : List UInt8 → List (List UInt8)
  | [] => if cur = [] then [] else [cur]
  | c :: r => if c = 47 then (if cur = [] then npF [] r else cur :: npF [] r) else npF (cur ++ [c]) r
def nms (p : List UInt8) : List (List UInt8) := npF [] p
def noSl (n : List UInt8) : Prop := ∀ c ∈ n, ¬ c = 47
def absP (p : List UInt8) : Bool := p.head? == some 47
def splitP (p : List UInt8) : List (List UInt8) := if nms p ≠ [] ∧ p.getLast? = some 47 then nms p ++ [[46]] else nms p
end Go.Proofs.YtnkjaocmfhjnoaaGreat
namespace Go.Proofs.YtnkjaocmfhjnoaaGreat

end Go.Proofs.YtnkjaocmfhjnoaaGreat
namespace Go.Proofs.YtnkjaocmfhjnoaaGreat
open Go Go.RowKit
set_option maxRecDepth 100000

def sp (n st : Nat) : List UInt8 → List (Nat × Nat)
  | [] => if st < n then [(st, n)] else []
  | c :: r => if c = 47 then (if st < n then (st, n) :: sp (n + 1) (n + 1) r else sp (n + 1) (n + 1) r) else sp (n + 1) st r
def sps (p : List UInt8) : List (Nat × Nat) := sp 0 0 p
theorem sp_names (p : List UInt8) : ∀ (r done : List UInt8) (st : Nat), p = done ++ r → st ≤ done.length → (sp done.length st r).map (fun x => (p.take x.2).drop x.1) = npF (done.drop st) r
  | [], done, st, hp, hst => by
    rw [List.append_nil] at hp
    subst hp
    rw [sp, npF]
    by_cases h : st < p.length
    · rw [if_pos h, if_neg (by rw [List.drop_eq_nil_iff]; omega)]
      simp
    · rw [if_neg h, if_pos (by rw [List.drop_eq_nil_iff]; omega)]
      rfl
  | c :: r, done, st, hp, hst => by
    have hp' : p = (done ++ [c]) ++ r := by rw [hp]; simp
    have hl : (done ++ [c]).length = done.length + 1 := by simp
    rw [sp, npF]
    by_cases hc : c = 47
    · rw [if_pos hc, if_pos hc]
      have ih := sp_names p r (done ++ [c]) (done.length + 1) hp' (by omega)
      rw [hl, List.drop_eq_nil_of_le (by omega)] at ih
      by_cases h : st < done.length
      · rw [if_pos h, if_neg (by rw [List.drop_eq_nil_iff]; omega), List.map_cons, ih]
        congr 1
        simp only
        rw [hp, List.take_append_of_le_length (Nat.le_refl _), List.take_length]
      · rw [if_neg h, if_pos (by rw [List.drop_eq_nil_iff]; omega), ih]
    · rw [if_neg hc, if_neg hc]
      have ih := sp_names p r (done ++ [c]) st hp' (by omega)
      rw [hl, List.drop_append_of_le_length hst] at ih
      exact ih
theorem sps_names (p : List UInt8) : (sps p).map (fun x => (p.take x.2).drop x.1) = nms p := by
  have := sp_names p p [] 0 rfl (Nat.zero_le _)
  simpa [sps, nms] using this
theorem sp_bd : ∀ (r : List UInt8) (n st : Nat), st ≤ n → ∀ x ∈ sp n st r, x.1 < x.2 ∧ x.2 ≤ n + r.length
  | [], n, st, h, x, hx => by
    rw [sp] at hx
    split at hx
    · rw [List.mem_singleton] at hx
      subst hx
      rename_i h2
      exact ⟨h2, Nat.le_refl _⟩
    · cases hx
  | c :: r, n, st, h, x, hx => by
    rw [sp] at hx
    rw [List.length_cons]
    split at hx
    · split at hx
      · rcases List.mem_cons.1 hx with hx | hx
        · subst hx
          rename_i h2
          exact ⟨h2, by simp⟩
        · have := sp_bd r (n + 1) (n + 1) (Nat.le_refl _) x hx
          omega
      · have := sp_bd r (n + 1) (n + 1) (Nat.le_refl _) x hx
        omega
    · have := sp_bd r (n + 1) st (by omega) x hx
      omega
theorem sps_bd {p : List UInt8} {k a b : Nat} (h : (sps p)[k]? = some (a, b)) : a < b ∧ b ≤ p.length := by
  have := sp_bd p 0 0 (Nat.le_refl _) (a, b) (List.mem_of_getElem? h)
  simpa using this
theorem sp_len : ∀ (r : List UInt8) (n st : Nat), (sp n st r).length ≤ r.length + 1
  | [], n, st => by
    rw [sp]
    split <;> simp
  | c :: r, n, st => by
    rw [sp]
    have h1 := sp_len r (n + 1) (n + 1)
    have h2 := sp_len r (n + 1) st
    split
    · split
      · simp only [List.length_cons]; omega
      · simp only [List.length_cons]; omega
    · simp only [List.length_cons]; omega
theorem sps_len (p : List UInt8) : (sps p).length ≤ p.length + 1 := sp_len p 0 0
theorem len_sps (p : List UInt8) : (sps p).length = (nms p).length := by rw [← sps_names, List.length_map]
theorem nms_len (p : List UInt8) : (nms p).length ≤ p.length + 1 := by rw [← len_sps]; exact sps_len p
def spX (p : List UInt8) (k st : Nat) : List (Nat × Nat) := if k ≤ p.length then sp k st (p.drop k) else []
theorem spX_zero (p : List UInt8) : spX p 0 0 = sps p := by rw [spX, if_pos (Nat.zero_le _), List.drop_zero]; rfl
theorem spX_end (p : List UInt8) (k st : Nat) (h : p.length < k) : spX p k st = [] := by rw [spX, if_neg (by omega)]
theorem spX_byte {p : List UInt8} {k : Nat} {c : UInt8} (st : Nat) (h : p[k]? = some c) (hc : ¬ c = 47) : spX p k st = spX p (k + 1) st := by
  have hl := (List.getElem?_eq_some_iff.1 h).1
  have hd : p.drop k = c :: p.drop (k + 1) := by rw [List.drop_eq_getElem_cons hl]; congr 1; exact (List.getElem?_eq_some_iff.1 h).2
  rw [spX, spX, if_pos (by omega), if_pos (by omega), hd, sp, if_neg hc]
theorem spX_slash {p : List UInt8} {k : Nat} (st : Nat) (h : p[k]? = some 47 ∨ k = p.length) : spX p k st = (if st < k then [(st, k)] else []) ++ spX p (k + 1) (k + 1) := by
  rcases h with h | h
  · have hl := (List.getElem?_eq_some_iff.1 h).1
    have hd : p.drop k = 47 :: p.drop (k + 1) := by rw [List.drop_eq_getElem_cons hl]; congr 1; exact (List.getElem?_eq_some_iff.1 h).2
    have h1 : k ≤ p.length := by omega
    have h2 : k + 1 ≤ p.length := by omega
    rw [spX, spX, if_pos h1, if_pos h2, hd, sp, if_pos rfl]
    split <;> rfl
  · subst h
    rw [spX_end _ (p.length + 1) _ (by omega), List.append_nil, spX, if_pos (Nat.le_refl _), List.drop_length, sp]
theorem spX_pos {p : List UInt8} {k st : Nat} (h : p[k]? = some 47 ∨ k = p.length) (hs : st < k) : spX p k st = (st, k) :: spX p (k + 1) (k + 1) := by rw [spX_slash st h, if_pos hs]; rfl
theorem spX_neg {p : List UInt8} {k st : Nat} (h : p[k]? = some 47 ∨ k = p.length) (hs : ¬ st < k) : spX p k st = spX p (k + 1) (k + 1) := by rw [spX_slash st h, if_neg hs]; rfl

end Go.Proofs.YtnkjaocmfhjnoaaGreat
namespace Go.Proofs.YtnkjaocmfhjnoaaGreat
open Go Go.RowKit
set_option maxRecDepth 100000

section
variable {w w' : World} {g : Nat} {t : TypeId} {cs : Array Value}
end
def pCells (l : List (Nat × Nat)) : List Value := l.flatMap fun x => [.int .i64 (x.1 : Int), .int .i64 (x.2 : Int)]
theorem pCells_snoc (l : List (Nat × Nat)) (x : Nat × Nat) : pCells (l ++ [x]) = pCells l ++ [.int .i64 (x.1 : Int), .int .i64 (x.2 : Int)] := by simp [pCells]
theorem pCells_at : ∀ (l : List (Nat × Nat)) (k : Nat) (x : Nat × Nat), l[k]? = some x → (pCells l)[k * 2]? = some (.int .i64 (x.1 : Int)) ∧ (pCells l)[k * 2 + 1]? = some (.int .i64 (x.2 : Int))
  | [], k, f, h => by simp at h
  | x :: l, 0, f, h => by
    simp at h
    subst h
    exact ⟨rfl, rfl⟩
  | x :: l, k + 1, f, h => by
    have := pCells_at l k f (by simpa using h)
    rw [show (k + 1) * 2 = k * 2 + 2 by omega]
    exact this
def SpansR (w : World) (v : Value) (l : List (Nat × Nat)) : Prop := ∃ A c, v = .slice A l.length c ∧ ∀ (k : Nat) (x : Nat × Nat), l[k]? = some x → ∃ ad : Addr, A = some ad ∧
  w.cell? (ad.add (k * 2)) = some (.int .i64 (x.1 : Int)) ∧ w.cell? ⟨(ad.add (k * 2)).block, (ad.add (k * 2)).off + 1, none⟩ = some (.int .i64 (x.2 : Int))
theorem SpansR.nil (w : World) : SpansR w (.slice none 0 0) [] := ⟨none, 0, rfl, fun k s h => by simp at h⟩
theorem SpansR.of_own {w : World} {B : Nat} {e : TypeId} {v : Value} {l : List (Nat × Nat)} (h : w.ownsRow B e 2 v l.length (pCells l)) : SpansR w v l := by
  rcases h.2 with ⟨rfl, hn⟩ | ⟨g, cap, cur, rfl, _⟩
  · have : l = [] := List.eq_nil_of_length_eq_zero hn
    subst this
    exact SpansR.nil w
  · refine ⟨some ⟨g, 0, none⟩, cap, rfl, fun k a hk => ⟨_, rfl, ?_⟩⟩
    obtain ⟨h0, h1⟩ := pCells_at l k a hk
    rw [add_lit]
    exact ⟨row_at h _ _ h0, row_at h _ _ h1⟩
theorem info_span : (Tryz.prog.info? 279).map (fun i => (i.zero, i.size, i.bytes)) = some (some (.agg #[.int .i64 0, .int .i64 0]), 2, 16) := by kernel_rfl
theorem span_one (a b : Int) : ∀ u ∈ [Value.int .i64 a, .int .i64 b], u.oneCell' = true := by
  intro u hu
  simp only [List.mem_cons, List.mem_nil_iff, or_false] at hu
  rcases hu with rfl | rfl <;> rfl
theorem app_span {W w4 w5 : World} {B : Nat} {v v5 : Value} {l : List (Nat × Nat)} {s : Nat × Nat} (hb : Below B W w4) (hB : B ≤ w4.heap.size) (ho4 : w4.ownsRow B 279 2 v l.length (pCells l)) (ho : w5.ownsRow B 279 2 v5 (l.length + 1) (pCells l ++ [.int .i64 (s.1 : Int), .int .i64 (s.2 : Int)])) (hg : w4.grownBy w5 v.ownBlock) :
    ∃ A c, v5 = .slice A (l.length + 1) c ∧ w5.ownsRow B 279 2 (.slice A (l.length + 1) c) (l ++ [s]).length (pCells (l ++ [s])) ∧ Below B W w5 := by
  obtain ⟨A, c, rfl⟩ := own_slice ho
  rw [← pCells_snoc] at ho
  exact ⟨A, c, rfl, by rw [List.length_append]; exact ho, hb.grown hg hB (fun q hq => (ho4.lt q hq).1)⟩
end Go.Proofs.YtnkjaocmfhjnoaaGreat
namespace Go.Proofs.YtnkjaocmfhjnoaaGreat
open Go Go.RowKit
set_option maxRecDepth 100000

def slAt (p : ByteArray) (i : Int) : Bool := decide (0 ≤ i) && (tl p)[i.toNat]? == some 47
theorem slashIn_any (p : ByteArray) (w : World) :
    Calls Tryz.prog 222 #[.string p] w fun e w' => e = .returned (.func (.func 235) #[] #[.pointer (some ⟨w.heap.size, 0, none⟩)]) ∧ w'.cell? ⟨w.heap.size, 0, none⟩ = some (.string p) ∧ Below w.heap.size w w' := by
  have hmf : ∀ (fn : Fn) (first cap : Array Value) (w : World), (Instr.makeFunc fn first cap).run Tryz.prog w = .ok (.func fn first cap) w := fun _ _ _ _ => rfl
  go_enter Tryz.func222, Tryz.ntmps222
  go_wp2
  go_ret
  exact ⟨rfl, by simp, (Below.refl _ _).alloc (Nat.le_refl _) _⟩
theorem isSlash_any (p : ByteArray) (i : Int) (g : Nat) (w : World) (hc : w.cell? ⟨g, 0, none⟩ = some (.string p)) (hs : p.size ≤ maxLen) :
    Calls Tryz.prog 235 #[.int .i64 i, .pointer (some ⟨g, 0, none⟩)] w fun e w' => e = .returned (.bool (slAt p i)) ∧ w = w' := by
  have hs' : p.size ≤ 9223372036854775807 := by unfold maxLen at hs; omega
  have HF := Lib.hid (show slAt p i = (decide (0 ≤ i) && (tl p)[i.toNat]? == some 47) from rfl)
  generalize slAt p i = F at HF ⊢
  clear hs
  by_cases h0 : 0 ≤ i
  · obtain ⟨k, rfl⟩ : ∃ k : Nat, i = (k : Int) := ⟨i.toNat, by omega⟩
    rw [decide_eq_true h0, Bool.true_and, Int.toNat_natCast] at HF
    have h1 : (k : Int) ≥ 0 := h0
    by_cases hk : k < p.size
    · obtain ⟨b, hb⟩ : ∃ b, p[k] = b := ⟨_, rfl⟩
      have HB := Lib.hid (show F = (b == 47) by rw [HF.out, tl_at hk, hb]; simp)
      go_enter Tryz.func235, Tryz.ntmps235
      go_wp2
      go_ret
      exact ⟨ret_bool (by
        rw [HB.out]
        by_cases h : b = 47
        · rw [h]; rfl
        · rw [beq_eq_false_iff_ne.2 h]; exact co_ne (a := b) (b := 47) h), rfl⟩
    · have HB := Lib.hid (show F = false by rw [HF.out, List.getElem?_eq_none (by rw [tl_len]; omega)]; rfl)
      have hk' : ¬ (k : Int) < (p.size : Int) := by omega
      go_enter Tryz.func235, Tryz.ntmps235
      go_wp2
      go_ret
      exact ⟨ret_bool HB.out.symm, rfl⟩
  · rw [decide_eq_false h0, Bool.false_and] at HF
    have h1 : ¬ i ≥ 0 := h0
    go_enter Tryz.func235, Tryz.ntmps235
    go_wp2
    go_ret
    exact ⟨ret_bool HF.out.symm, rfl⟩
end Go.Proofs.YtnkjaocmfhjnoaaGreat
namespace Go.Proofs.YtnkjaocmfhjnoaaGreat
open Go Go.RowKit
set_option maxRecDepth 100000

theorem slAt_nat (p : ByteArray) (k : Nat) : slAt p (k : Int) = ((tl p)[k]? == some 47) := by
  rw [slAt, decide_eq_true (by omega), Bool.true_and, Int.toNat_natCast]
structure SPS (W wr : World) (p : ByteArray) (k st : Nat) (v : Value) (out : List (Nat × Nat)) : Prop where
  below : Below W.heap.size W wr
  own : wr.ownsRow W.heap.size 279 2 v out.length (pCells out)
  so : out ++ spX (tl p) k st = sps (tl p)
theorem SPS.len {W wr : World} {p : ByteArray} {k st : Nat} {v : Value} {out : List (Nat × Nat)} (h : SPS W wr p k st v out) : out.length ≤ p.size + 1 := by
  have h1 := congrArg List.length h.so
  have h2 := sps_len (tl p)
  rw [List.length_append] at h1
  rw [tl_len] at h2
  omega
set_option maxRecDepth 100000 in
set_option maxHeartbeats 8000000 in
theorem spans_any (p : ByteArray) (w : World) (hp : p.size ≤ 1000000) :
    Calls Tryz.prog 236 #[.string p] w fun e w' => ∃ v, e = .returned v ∧ SpansR w' v (sps (tl p)) ∧ Below w.heap.size w w' := by
  have HS := Lib.hid (slashIn_any p w)
  go_enter Tryz.func236, Tryz.ntmps236
  go_wp2_with fail
  refine HS.out.mono ?_
  rintro e W ⟨rfl, hc, hb⟩
  have HC := Lib.hid hc
  have HB := Lib.hid hb
  clear hc hb HS
  go_wp2
  go_loopg [4, 5, 12] (p.size + 1) (fun gh s4 s5 s12 wr => ∃ (k st : Nat) (out : List (Nat × Nat)), s12 = .int .i64 k ∧ s5 = .int .i64 st ∧ k ≤ p.size + 1 ∧ gh = p.size + 1 - k ∧ st ≤ k ∧ SPS W wr p k st s4 out)
  case atStart => exact ⟨0, 0, [], rfl, rfl, Nat.zero_le _, rfl, Nat.le_refl _, Below.refl _ _, World.ownsRow_nil _ _ _ _, spX_zero _⟩
  case round =>
    obtain ⟨k, st, out, rfl, rfl, hk, rfl, hst, hS⟩ := hrel
    obtain ⟨vl, rfl⟩ : ∃ vl, vl = u4 := ⟨_, rfl⟩
    have hln := hS.len
    have HS := Lib.hid hS
    have hB0 := hS.below.size
    clear hS
    by_cases hlt : k < p.size + 1
    · by_cases hin : k < p.size
      · obtain ⟨b, hb⟩ : ∃ b, p[k] = b := ⟨_, rfl⟩
        have hy : (tl p)[k]? = some b := by rw [tl_at hin, hb]
        have kc := bc HS.out.below HC.out
        by_cases h47 : b = 47
        · subst h47
          have HY := Lib.hid hy
          clear hy hb
          by_cases hs : st < k
          · have HSO := Lib.hid (show (out ++ [(st, k)]) ++ spX (tl p) (k + 1) (k + 1) = sps (tl p) by rw [← HS.out.so, spX_pos (.inl HY.out) hs]; simp)
            have hs' : (st : Int) < (k : Int) := by omega
            go_wp2_with fail
            refine (isSlash_any p _ _ wr kc (by unfold maxLen; omega)).mono ?_
            rintro e w' ⟨rfl, rfl⟩
            rw [slAt_nat, HY.out]
            go_wp2_with (at_builtin; refine wpList_append_one rfl (.tmp 28) (.tmp 32) _ rfl W.heap.size 279 _ 2 16 Tryz.underlying276 info_span rfl (by decide) vl out.length (pCells out) rfl wr [.int .i64 (st : Int), .int .i64 (k : Int)] rfl (span_one _ _) HS.out.own rfl (by omega) (by omega) hB0 ?_; intro v5 w5 ho hg; obtain ⟨A5, c5, hv5, ho5, hb5⟩ := app_span (s := (st, k)) HS.out.below hB0 HS.out.own ho hg; subst hv5; have HO5 := Lib.hid ho5; have HB5 := Lib.hid hb5; clear ho hg ho5 hb5)
            go_roundg (p.size + 1 - (k + 1))
            case measure => omega
            case rel => exact ⟨k + 1, k + 1, out ++ [(st, k)], by go_num, by go_num, by omega, rfl, Nat.le_refl _, HB5.out, HO5.out, HSO.out⟩
          · have HSO := Lib.hid (show out ++ spX (tl p) (k + 1) (k + 1) = sps (tl p) by rw [← HS.out.so, spX_neg (.inl HY.out) hs])
            have hs' : ¬ (st : Int) < (k : Int) := by omega
            go_wp2_with fail
            refine (isSlash_any p _ _ wr kc (by unfold maxLen; omega)).mono ?_
            rintro e w' ⟨rfl, rfl⟩
            rw [slAt_nat, HY.out]
            go_wp2
            go_roundg (p.size + 1 - (k + 1))
            case measure => omega
            case rel => exact ⟨k + 1, k + 1, out, by go_num, by go_num, by omega, rfl, Nat.le_refl _, HS.out.below, HS.out.own, HSO.out⟩
        · have HY := Lib.hid hy
          have HSO := Lib.hid (show out ++ spX (tl p) (k + 1) st = sps (tl p) by rw [← HS.out.so, spX_byte st hy h47])
          have hq : (some b == some (47 : UInt8)) = false := by simpa using h47
          clear hy hb h47
          go_wp2_with fail
          refine (isSlash_any p _ _ wr kc (by unfold maxLen; omega)).mono ?_
          rintro e w' ⟨rfl, rfl⟩
          rw [slAt_nat, HY.out, hq]
          go_wp2
          go_roundg (p.size + 1 - (k + 1))
          case measure => omega
          case rel => exact ⟨k + 1, st, out, by go_num, by go_num, by omega, rfl, by omega, HS.out.below, HS.out.own, HSO.out⟩
      · have hke : k = p.size := by omega
        have HK := Lib.hid (show k = (tl p).length by rw [tl_len]; exact hke)
        clear hke
        by_cases hs : st < k
        · have HSO := Lib.hid (show (out ++ [(st, k)]) ++ spX (tl p) (k + 1) (k + 1) = sps (tl p) by rw [← HS.out.so, spX_pos (.inr HK.out) hs]; simp)
          have hs' : (st : Int) < (k : Int) := by omega
          go_wp2_with (at_builtin; refine wpList_append_one rfl (.tmp 28) (.tmp 32) _ rfl W.heap.size 279 _ 2 16 Tryz.underlying276 info_span rfl (by decide) vl out.length (pCells out) rfl wr [.int .i64 (st : Int), .int .i64 (k : Int)] rfl (span_one _ _) HS.out.own rfl (by omega) (by omega) hB0 ?_; intro v5 w5 ho hg; obtain ⟨A5, c5, hv5, ho5, hb5⟩ := app_span (s := (st, k)) HS.out.below hB0 HS.out.own ho hg; subst hv5; have HO5 := Lib.hid ho5; have HB5 := Lib.hid hb5; clear ho hg ho5 hb5)
          go_roundg (p.size + 1 - (k + 1))
          case measure => omega
          case rel => exact ⟨k + 1, k + 1, out ++ [(st, k)], by go_num, by go_num, by omega, rfl, Nat.le_refl _, HB5.out, HO5.out, HSO.out⟩
        · have HSO := Lib.hid (show out ++ spX (tl p) (k + 1) (k + 1) = sps (tl p) by rw [← HS.out.so, spX_neg (.inr HK.out) hs])
          have hs' : ¬ (st : Int) < (k : Int) := by omega
          go_wp2
          go_roundg (p.size + 1 - (k + 1))
          case measure => omega
          case rel => exact ⟨k + 1, k + 1, out, by go_num, by go_num, by omega, rfl, Nat.le_refl _, HS.out.below, HS.out.own, HSO.out⟩
    · have HR := Lib.hid (show SpansR wr vl (sps (tl p)) by
        have h := HS.out.so
        rw [spX_end _ _ _ (by rw [tl_len]; omega), List.append_nil] at h
        rw [← h]
        exact SpansR.of_own HS.out.own)
      go_wp2
      go_ret
      exact ⟨_, rfl, HR.out, bt HS.out.below HB.out⟩
end Go.Proofs.YtnkjaocmfhjnoaaGreat
namespace Go.Proofs.YtnkjaocmfhjnoaaGreat
open Go Go.RowKit
set_option maxRecDepth 100000

def bAs (l : List (List UInt8)) : List ByteArray := l.map bA
theorem bAs_len (l : List (List UInt8)) : (bAs l).length = l.length := by rw [bAs, List.length_map]
end Go.Proofs.YtnkjaocmfhjnoaaGreat
namespace Go.Proofs.YtnkjaocmfhjnoaaGreat
open Go Go.RowKit
set_option maxRecDepth 100000

def nam (p : ByteArray) (k : Nat) : List ByteArray := ((sps (tl p)).take k).map fun x => bA (((tl p).take x.2).drop x.1)
theorem nam_snoc {p : ByteArray} {k a b : Nat} (h : (sps (tl p))[k]? = some (a, b)) : nam p (k + 1) = nam p k ++ [bA (((tl p).take b).drop a)] := by
  rw [nam, take_snoc' h, List.map_append]
  rfl
theorem nam_len {p : ByteArray} {k : Nat} (h : k ≤ (sps (tl p)).length) : (nam p k).length = k := by rw [nam, List.length_map, List.length_take]; omega
theorem nam_all (p : ByteArray) : nam p (sps (tl p)).length = bAs (nms (tl p)) := by
  rw [nam, List.take_length, bAs, ← sps_names, List.map_map]
  rfl
def BufR (w : World) (v : Value) (p : ByteArray) : Prop := ∃ g c, v = .slice (some ⟨g, 0, none⟩) p.size c ∧ p.size ≤ c ∧ ∀ (k : Nat) (b : UInt8), (tl p)[k]? = some b → w.cell? ⟨g, k, none⟩ = some (.int .u8 (b.toNat : Int))
theorem BufR.below {w w' : World} {v : Value} {p : ByteArray} (h : BufR w v p) (hb : Below w.heap.size w w') : BufR w' v p := by
  obtain ⟨g, c, hv, hle, hc⟩ := h
  exact ⟨g, c, hv, hle, fun k b hk => bc hb (hc k b hk)⟩
theorem bytes_run (w : World) (s : ByteArray) : ∃ v w', (convert 9 46 (.string s)).run Tryz.prog w = .ok v w' ∧ BufR w' v s ∧ Below w.heap.size w w' := by
  refine ⟨_, _, run_bytes_of_string w 9 46 5 s Tryz.underlying9 Tryz.underlying46 Tryz.underlying5, ⟨_, _, rfl, ?_, ?_⟩, ?_⟩
  · exact grownCap_ge _ _ _ _
  · intro k b hk
    have hlt : k < s.size := by rw [← tl_len]; exact (List.getElem?_eq_some_iff.1 hk).1
    rw [tl_at hlt] at hk
    injection hk with hk
    have := World.cell?_alloc_mark w.drew (bytesRow s (grownCap w s.size 0 5)) 5 ((bytesRow s (grownCap w s.size 0 5)).size, (bytesRow s (grownCap w s.size 0 5)).size + 1) k
    refine this.trans ?_
    unfold bytesRow
    rw [Array.getElem?_append_left (by simpa using hlt), Array.getElem?_map, ← hk]
    have h2 : s.data[k]? = some s[k] := by rw [← Array.getElem?_toList]; exact tl_at hlt
    rw [h2]
    rfl
  · exact (Below.refl _ _).drew.alloc (Nat.le_refl _) _
theorem part_run {w : World} {g c a b : Nat} {p : ByteArray} (h : BufR w (.slice (some ⟨g, 0, none⟩) p.size c) p) (hb : b ≤ p.size) : (convert 46 9 (.slice (some ⟨g, a, none⟩) (b - a) (b - a))).run Tryz.prog w = .ok (.string (bA (((tl p).take b).drop a))) w := by
  obtain ⟨g', c', hv, -, hc⟩ := h
  injection hv with hA
  injection hA with hA
  injection hA with hg
  subst hg
  have hl : (((tl p).take b).drop a).length = b - a := by rw [List.length_drop, List.length_take, tl_len]; omega
  have h := run_convert_bytes_back (P := Tryz.prog) w 46 9 5 ⟨g, a, none⟩ (b - a) (((tl p).take b).drop a) Tryz.underlying46 Tryz.underlying5 Tryz.underlying9 (by
    intro j hj
    rw [hl] at hj
    rw [Addr.add_lit]
    refine hc (a + j) _ ?_
    rw [List.getElem_drop, List.getElem_take]
    exact List.getElem?_eq_getElem _)
  rw [hl] at h
  exact h
set_option maxRecDepth 100000 in
set_option maxHeartbeats 8000000 in
theorem names_any (p : ByteArray) (w : World) (hp : p.size ≤ 1000000) :
    Calls Tryz.prog 223 #[.string p] w fun e w' => ∃ v, e = .returned v ∧ w'.ownsRow w.heap.size 9 1 v (bAs (nms (tl p))).length (sCells (bAs (nms (tl p)))) ∧ Below w.heap.size w w' := by
  obtain ⟨vs, ws, hrun, hbuf, hbs⟩ := bytes_run w p
  have HBS := Lib.hid hbs
  have HBUF := Lib.hid hbuf
  have HS := Lib.hid (spans_any p ws hp)
  have hsl := sps_len (tl p)
  rw [tl_len] at hsl
  have HP0 := Lib.hid (show nam p 0 = [] from rfl)
  clear hbs
  obtain ⟨g, cg, rfl, hcg, -⟩ := hbuf
  go_enter Tryz.func223, Tryz.ntmps223
  go_wp2_with fail
  refine HS.out.mono ?_
  rintro e W ⟨v, rfl, hsp, hb⟩
  obtain ⟨A, c, rfl, hc⟩ := hsp
  have HC := Lib.hid hc
  have HB := Lib.hid (bt hb HBS.out)
  have HBUFW := Lib.hid (HBUF.out.below hb)
  clear hc hb HS
  go_wp2
  go_loopg [4, 12] (sps (tl p)).length (fun gh s4 s12 wr => ∃ (k : Nat), s12 = .int .i64 k ∧ k ≤ (sps (tl p)).length ∧ gh = (sps (tl p)).length - k ∧ wr.ownsRow W.heap.size 9 1 s4 (nam p k).length (sCells (nam p k)) ∧ Below W.heap.size W wr)
  case atStart => exact ⟨0, rfl, Nat.zero_le _, rfl, by rw [HP0.out]; exact own_nil_str _, Below.refl _ _⟩
  case round =>
    obtain ⟨k, rfl, hk, rfl, ho, hbr⟩ := hrel
    obtain ⟨vl, rfl⟩ : ∃ vl, vl = u4 := ⟨_, rfl⟩
    have HO := Lib.hid ho
    have HBR := Lib.hid hbr
    have hB0 := hbr.size
    clear ho hbr
    have hln := nam_len hk
    by_cases hlt : k < (sps (tl p)).length
    · obtain ⟨⟨a, b⟩, hx⟩ : ∃ x, (sps (tl p))[k]? = some x := ⟨_, List.getElem?_eq_getElem hlt⟩
      obtain ⟨ad, rfl, c0, c1⟩ := HC.out k _ hx
      have e0 := bc HBR.out c0
      have e1 := bc HBR.out c1
      have hbd := sps_bd hx
      rw [tl_len] at hbd
      have HN := Lib.hid (nam_snoc hx)
      clear c0 c1 hx
      obtain ⟨ha, hb⟩ := hbd
      have ha' : (a : Int) ≤ (b : Int) := by omega
      have hb' : (b : Int) ≤ (cg : Int) := by omega
      have HZ := Lib.hid (show (wr.alloc (.cells #[.int .i64 (a : Int), .int .i64 (b : Int)] 279)).heap.size = wr.heap.size + 1 by simp)
      have HOA := Lib.hid (HO.out.alloc (.cells #[.int .i64 (a : Int), .int .i64 (b : Int)] 279))
      have HBA := Lib.hid (HBR.out.alloc hB0 (.cells #[.int .i64 (a : Int), .int .i64 (b : Int)] 279))
      have hcv := part_run (a := a) (HBUFW.out.below HBA.out) hb
      obtain ⟨X, hX⟩ : ∃ X, bA (((tl p).take b).drop a) = X := ⟨_, rfl⟩
      rw [hX] at hcv HN
      clear hX
      go_wp2_with (at_builtin; refine wpList_append_one rfl (.tmp 16) (.tmp 26) _ rfl W.heap.size 9 _ 1 16 Tryz.underlying55 info_str rfl (by decide) vl (nam p k).length (sCells (nam p k)) rfl (wr.alloc (.cells #[.int .i64 (a : Int), .int .i64 (b : Int)] 279)) [.string X] rfl (str_one _) HOA.out (by rw [HZ.out]; rfl) (by omega) (by omega) HBA.out.size ?_; intro v5 w5 ho hg; obtain ⟨A5, c5, hv5, ho5, hb5⟩ := app_one HBA.out HBA.out.size HOA.out ho hg; subst hv5; have HO5 := Lib.hid ho5; have HB5 := Lib.hid hb5; clear ho hg ho5 hb5)
      go_roundg ((sps (tl p)).length - (k + 1))
      case measure => omega
      case rel => exact ⟨k + 1, by go_num, by omega, rfl, by have h := HO5.out; rw [hln] at h; rw [HN.out]; exact h, HB5.out⟩
    · have HR := Lib.hid (show wr.ownsRow w.heap.size 9 1 vl (bAs (nms (tl p))).length (sCells (bAs (nms (tl p)))) by
        rw [← nam_all, show (sps (tl p)).length = k by omega]
        exact HO.out.mono HB.out.size)
      go_wp2
      go_ret
      exact ⟨_, rfl, HR.out, bt HBR.out HB.out⟩
end Go.Proofs.YtnkjaocmfhjnoaaGreat
namespace Go.Proofs.YtnkjaocmfhjnoaaGreat
open Go Go.RowKit
set_option maxRecDepth 100000

theorem abs_at (p : ByteArray) : slAt p 0 = absP (tl p) := by
  unfold slAt absP
  rw [List.head?_eq_getElem?]
  rfl
theorem end_at {p : ByteArray} (h : 0 < p.size) : slAt p ((p.size : Int) - 1) = decide ((tl p).getLast? = some 47) := by
  obtain ⟨n, hn⟩ : ∃ n, p.size = n + 1 := ⟨p.size - 1, by omega⟩
  rw [List.getLast?_eq_getElem?, tl_len, hn, show ((n + 1 : Nat) : Int) - 1 = (n : Int) by omega, slAt_nat, Nat.add_sub_cancel]
  by_cases h : (tl p)[n]? = some 47
  · rw [h]; rfl
  · rw [decide_eq_false h, beq_eq_false_iff_ne]; exact h
theorem pos_of_nms {p : ByteArray} (h : 0 < (nms (tl p)).length) : 0 < p.size := by
  rw [← tl_len]
  cases hq : tl p with
  | nil => rw [hq] at h; exact absurd h (by decide)
  | cons c r => simp
theorem bAs_snoc (l : List (List UInt8)) (x : List UInt8) : bAs (l ++ [x]) = bAs l ++ [bA x] := by simp [bAs]
theorem own_len {w : World} {B n m : Nat} {e : TypeId} {v : Value} {xs : List Value} (h : w.ownsRow B e 1 v n xs) (hn : m = n) : w.ownsRow B e 1 v m xs := hn ▸ h
theorem own_mono {w : World} {B B0 : Nat} {e : TypeId} {size n : Nat} {v : Value} {xs : List Value} (h : w.ownsRow B e size v n xs) (hB : B0 ≤ B) : w.ownsRow B0 e size v n xs := ⟨h.1, h.2.imp id (fun ⟨g, cap, cur, a, b, c⟩ => ⟨g, cap, cur, a, Nat.le_trans hB b, c⟩)⟩
set_option maxRecDepth 100000 in
set_option maxHeartbeats 8000000 in
theorem split_own (p : ByteArray) (w : World) (hp : p.size ≤ 1000000) :
    Calls Tryz.prog 202 #[.string p] w fun e w' => ∃ v, e = .returned (.tuple #[.bool (absP (tl p)), v]) ∧ w'.ownsRow w.heap.size 9 1 v (bAs (splitP (tl p))).length (sCells (bAs (splitP (tl p)))) ∧ Below w.heap.size w w' := by
  have HS := Lib.hid (slashIn_any p w)
  have HN := Lib.hid (fun w1 => names_any p w1 hp)
  have HSP := Lib.hid (show splitP (tl p) = if nms (tl p) ≠ [] ∧ (tl p).getLast? = some 47 then nms (tl p) ++ [[46]] else nms (tl p) from rfl)
  have HPOS := Lib.hid (fun h => pos_of_nms (p := p) h)
  have hnl := nms_len (tl p)
  rw [tl_len] at hnl
  have hbl := bAs_len (nms (tl p))
  generalize nms (tl p) = ns at HN HSP HPOS hnl hbl
  have hmx : p.size ≤ maxLen := by unfold maxLen; omega
  have ab := abs_at p
  generalize splitP (tl p) = R at HSP ⊢
  generalize absP (tl p) = ap at ab ⊢
  by_cases h0 : 0 < ns.length
  · have hps := HPOS.out h0
    have hne : ¬ ns = [] := by intro e; rw [e] at h0; exact absurd h0 (by decide)
    have ee := end_at hps
    have h0' : (0 : Int) < (ns.length : Int) := by omega
    by_cases hl : (tl p).getLast? = some 47
    · rw [decide_eq_true hl] at ee
      rw [if_pos ⟨hne, hl⟩] at HSP
      have HR := Lib.hid (show bAs R = bAs ns ++ [⟨#[46]⟩] by rw [HSP.out, bAs_snoc]; rfl)
      clear hl hne HSP
      go_enter Tryz.func202, Tryz.ntmps202
      go_wp2_with fail
      refine HS.out.mono ?_
      rintro e w1 ⟨rfl, hc, hb⟩
      have HC := Lib.hid hc
      have HB := Lib.hid hb
      clear hc hb HS
      go_wp2_with fail
      refine (HN.out _).mono ?_
      rintro e w2 ⟨v, rfl, ho, hb⟩
      have HO := Lib.hid ho
      have HB2 := Lib.hid hb
      have kc := bc hb HC.out
      obtain ⟨A, c, rfl⟩ := own_slice ho
      clear ho hb HN
      go_wp2_with fail
      refine (isSlash_any p _ _ w2 kc hmx).mono ?_
      rintro e w' ⟨rfl, rfl⟩
      rw [ee]
      go_wp2_with (first | (at_builtin; refine wpList_append_one rfl (.tmp 20) (.tmp 21) _ rfl w1.heap.size 9 _ 1 16 Tryz.underlying55 info_str rfl (by decide) (.slice A (bAs ns).length c) (bAs ns).length (sCells (bAs ns)) (by first | rfl | (rw [hbl]; rfl)) w2 [.string ⟨#[46]⟩] rfl (str_one _) HO.out rfl (by omega) (by omega) HB2.out.size ?_; intro v5 w5 ho hg; obtain ⟨A5, c5, hv5, ho5, hb5⟩ := app_one HB2.out HB2.out.size HO.out ho hg; subst hv5; have HO5 := Lib.hid ho5; have HB5 := Lib.hid hb5; have kc5 := bc hb5 HC.out; clear ho hg ho5 hb5) | fail)
      refine (isSlash_any p _ _ w5 kc5 hmx).mono ?_
      rintro e w' ⟨rfl, rfl⟩
      rw [ab]
      go_wp2
      go_ret2
      exact ⟨_, rfl, by rw [HR.out]; have h := own_mono HO5.out HB.out.size; rw [hbl] at h; exact h, bt HB5.out HB.out⟩
    · rw [decide_eq_false hl] at ee
      rw [if_neg (fun e => hl e.2)] at HSP
      clear hl hne
      go_enter Tryz.func202, Tryz.ntmps202
      go_wp2_with fail
      refine HS.out.mono ?_
      rintro e w1 ⟨rfl, hc, hb⟩
      have HC := Lib.hid hc
      have HB := Lib.hid hb
      clear hc hb HS
      go_wp2_with fail
      refine (HN.out _).mono ?_
      rintro e w2 ⟨v, rfl, ho, hb⟩
      have HO := Lib.hid ho
      have HB2 := Lib.hid hb
      have kc := bc hb HC.out
      obtain ⟨A, c, rfl⟩ := own_slice ho
      clear ho hb HN
      go_wp2_with fail
      refine (isSlash_any p _ _ w2 kc hmx).mono ?_
      rintro e w' ⟨rfl, rfl⟩
      rw [ee]
      go_wp2_with fail
      refine (isSlash_any p _ _ w2 kc hmx).mono ?_
      rintro e w' ⟨rfl, rfl⟩
      rw [ab]
      go_wp2
      go_ret2
      exact ⟨_, rfl, by rw [HSP.out]; have h := own_mono HO.out HB.out.size; (rw [hbl] at h; have h2 := own_len h hbl; exact h2), bt HB2.out HB.out⟩
  · have hn0 : ns.length = 0 := by omega
    have hns : ns = [] := List.eq_nil_of_length_eq_zero hn0
    rw [if_neg (fun e => e.1 hns)] at HSP
    rw [hn0] at hbl
    clear hns h0
    go_enter Tryz.func202, Tryz.ntmps202
    go_wp2_with fail
    refine HS.out.mono ?_
    rintro e w1 ⟨rfl, hc, hb⟩
    have HC := Lib.hid hc
    have HB := Lib.hid hb
    clear hc hb HS
    go_wp2_with fail
    refine (HN.out _).mono ?_
    rintro e w2 ⟨v, rfl, ho, hb⟩
    have HO := Lib.hid ho
    have HB2 := Lib.hid hb
    have kc := bc hb HC.out
    obtain ⟨A, c, rfl⟩ := own_slice ho
    clear ho hb HN
    go_wp2_with fail
    refine (isSlash_any p _ _ w2 kc hmx).mono ?_
    rintro e w' ⟨rfl, rfl⟩
    rw [ab]
    go_wp2
    go_ret2
    exact ⟨_, rfl, by rw [HSP.out]; have h := own_mono HO.out HB.out.size; (rw [hbl] at h; have h2 := own_len h hbl; exact h2), bt HB2.out HB.out⟩
end Go.Proofs.YtnkjaocmfhjnoaaGreat
namespace Go.Proofs.YtnkjaocmfhjnoaaGreat
open Go Go.RowKit
set_option maxRecDepth 100000

end Go.Proofs.YtnkjaocmfhjnoaaGreat
namespace Go.Proofs.YtnkjaocmfhjnoaaGreat
open Go

theorem and_mask (n : Int) (j : Nat) (m : Int) (hm : (BitVec.ofInt 64 m).toNat = 2 ^ j - 1) (hj : j ≤ 62) : bits .and .i64 n m = n % 2 ^ j := by
  have key : (BitVec.ofInt 64 n &&& BitVec.ofInt 64 m).toNat = (n % ((2 ^ 64 : Nat) : Int)).toNat % 2 ^ j := by
    rw [BitVec.toNat_and, BitVec.toNat_ofInt, hm, Nat.and_two_pow_sub_one_eq_mod]
  show IntKind.i64.wrap ((BitVec.ofInt 64 n &&& BitVec.ofInt 64 m).toNat : Nat) = n % 2 ^ j
  rw [key, IntKind.wrap_i64]
  have hp : (2 : Nat) ^ j ≤ 2 ^ 62 := Nat.pow_le_pow_right (by decide) hj
  have hlt : (n % ((2 ^ 64 : Nat) : Int)).toNat % 2 ^ j < 2 ^ j := Nat.mod_lt _ (Nat.two_pow_pos j)
  have h0 : 0 ≤ n % ((2 ^ 64 : Nat) : Int) := Int.emod_nonneg _ (by decide)
  have hc : (((n % ((2 ^ 64 : Nat) : Int)).toNat % 2 ^ j : Nat) : Int) = n % 2 ^ j := by
    rw [Int.natCast_emod, Int.toNat_of_nonneg h0, Int.natCast_pow]
    have hd : ((2 : Int) ^ j) ∣ ((2 ^ 64 : Nat) : Int) := by
      refine ⟨(2 : Int) ^ (64 - j), ?_⟩
      rw [← Int.pow_add, show j + (64 - j) = 64 by omega]
      rfl
    exact Int.emod_emod_of_dvd n hd
  rw [← hc]
  generalize (n % ((2 ^ 64 : Nat) : Int)).toNat % 2 ^ j = x at hlt
  omega

theorem and7 (n : Int) : bits .and .i64 n 7 = n % 8 := and_mask n 3 7 (by decide) (by decide)
theorem nat_and_bit (X j : Nat) : X &&& 2 ^ j = X / 2 ^ j % 2 * 2 ^ j := by
  apply Nat.eq_of_testBit_eq
  intro i
  rw [Nat.testBit_and, Nat.testBit_two_pow, Nat.testBit_mul_two_pow]
  by_cases h : j = i
  · subst h
    simp [Nat.testBit_eq_decide_div_mod_eq]
  · by_cases h2 : j ≤ i
    · have : (X / 2 ^ j % 2).testBit (i - j) = false := by
        apply Nat.testBit_lt_two_pow
        have h3 : X / 2 ^ j % 2 < 2 := Nat.mod_lt _ (by decide)
        have h4 : 2 ^ 1 ≤ 2 ^ (i - j) := Nat.pow_le_pow_right (by decide) (by omega)
        omega
      simp [h, this]
    · simp [h, h2]

theorem and_bit (n : Int) (j : Nat) (m : Int) (hm : (BitVec.ofInt 64 m).toNat = 2 ^ j) (hj : j ≤ 61) : bits .and .i64 n m = n / 2 ^ j % 2 * 2 ^ j := by
  have key : (BitVec.ofInt 64 n &&& BitVec.ofInt 64 m).toNat = (n % ((2 ^ 64 : Nat) : Int)).toNat / 2 ^ j % 2 * 2 ^ j := by
    rw [BitVec.toNat_and, BitVec.toNat_ofInt, hm]
    exact nat_and_bit _ j
  show IntKind.i64.wrap ((BitVec.ofInt 64 n &&& BitVec.ofInt 64 m).toNat : Nat) = n / 2 ^ j % 2 * 2 ^ j
  rw [key, IntKind.wrap_i64]
  have h0 : 0 ≤ n % ((2 ^ 64 : Nat) : Int) := Int.emod_nonneg _ (by decide)
  have hp : (2 : Nat) ^ j ≤ 2 ^ 61 := Nat.pow_le_pow_right (by decide) hj
  have hpp : (0 : Int) < 2 ^ j := Int.pow_pos (by decide)
  have hc : (((n % ((2 ^ 64 : Nat) : Int)).toNat / 2 ^ j % 2 : Nat) : Int) = n / 2 ^ j % 2 := by
    rw [Int.natCast_emod, Int.natCast_ediv, Int.toNat_of_nonneg h0, Int.natCast_pow]
    show n % ((2 ^ 64 : Nat) : Int) / 2 ^ j % 2 = n / 2 ^ j % 2
    have e : ((2 ^ 64 : Nat) : Int) = 2 ^ j * (2 * 2 ^ (63 - j)) := by
      rw [show (2 : Int) * 2 ^ (63 - j) = 2 ^ (64 - j) by rw [show 64 - j = (63 - j) + 1 by omega, Int.pow_succ, Int.mul_comm], ← Int.pow_add, show j + (64 - j) = 64 by omega]
      rfl
    have hdm := Int.mul_ediv_add_emod n ((2 ^ 64 : Nat) : Int)
    have hn : n = n % ((2 ^ 64 : Nat) : Int) + 2 ^ j * (2 * 2 ^ (63 - j) * (n / ((2 ^ 64 : Nat) : Int))) := by
      rw [← Int.mul_assoc, ← e]; omega
    conv => rhs; rw [hn]
    rw [Int.add_mul_ediv_left _ _ (Int.ne_of_gt hpp), Int.mul_assoc 2, Int.add_mul_emod_self_left]
  have hlt : (n % ((2 ^ 64 : Nat) : Int)).toNat / 2 ^ j % 2 < 2 := Nat.mod_lt _ (by decide)
  rw [← hc]
  generalize (n % ((2 ^ 64 : Nat) : Int)).toNat / 2 ^ j % 2 = x at hlt
  have hxx : ((x * 2 ^ j : Nat) : Int) = (x : Int) * 2 ^ j := by rw [Int.natCast_mul, Int.natCast_pow]; rfl
  rw [← hxx]
  have : x * 2 ^ j ≤ 1 * 2 ^ 61 := Nat.mul_le_mul (by omega) hp
  generalize x * 2 ^ j = y at this
  omega

theorem and1024 (n : Int) : bits .and .i64 n 1024 = n / 1024 % 2 * 1024 := and_bit n 10 1024 (by decide) (by decide)
theorem and512 (n : Int) : bits .and .i64 n 512 = n / 512 % 2 * 512 := and_bit n 9 512 (by decide) (by decide)

theorem wraps_i64 (n : Int) (h₀ : 0 ≤ n) (h₁ : n < 2 ^ 62) : IntKind.i64.wrap n = n := by rw [IntKind.wrap_i64]; omega

theorem or_join (i : Nat) (x y : Int) (hx₀ : 0 ≤ x) (hx : x % 2 ^ i = 0) (hx₁ : x < 2 ^ 62) (hy₀ : 0 ≤ y) (hy : y < 2 ^ i) (hy₁ : y < 2 ^ 62) : bits .or .i64 x y = x + y :=
  bits_join .i64 62 (by decide) wraps_i64 i x y hx₀ hx hx₁ hy₀ hy hy₁

end Go.Proofs.YtnkjaocmfhjnoaaGreat
namespace Go.Proofs.YtnkjaocmfhjnoaaGreat
open Go Go.RowKit
set_option maxRecDepth 100000

def cls (m k : Int) : Int := if k = 0 then m / 64 % 8 else if k = 1 then m / 8 % 8 else if k = 2 then m % 8 else 0
theorem isClass_yes (k : Int) (w : World) (h0 : 0 ≤ k) (h1 : k < 3) : Calls Tryz.prog 197 #[.int .i64 k] w fun e w' => e = .returned (.bool true) ∧ w = w' := by
  go_enter Tryz.func197, Tryz.ntmps197
  go_wp2
  go_ret
  exact ⟨rfl, rfl⟩
theorem isClass_no (k : Int) (w : World) (h : k < 0 ∨ 3 ≤ k) : Calls Tryz.prog 197 #[.int .i64 k] w fun e w' => e = .returned (.bool false) ∧ w = w' := by
  rcases h with h | h
  · have h1 : ¬ 0 ≤ k := by omega
    go_enter Tryz.func197, Tryz.ntmps197
    go_wp2
    go_ret
    exact ⟨rfl, rfl⟩
  · have h1 : ¬ k < 3 := by omega
    have h2 : 0 ≤ k := by omega
    go_enter Tryz.func197, Tryz.ntmps197
    go_wp2
    go_ret
    exact ⟨rfl, rfl⟩
theorem shift_any (k : Int) (w : World) (h0 : 0 ≤ k) (h1 : k < 3) : Calls Tryz.prog 198 #[.int .i64 k] w fun e w' => e = .returned (.int .i64 (3 * (2 - k))) ∧ w = w' := by
  go_enter Tryz.func198, Tryz.ntmps198
  go_wp2
  go_ret
  exact ⟨rfl, rfl⟩

theorem class_no (m k : Int) (w : World) (h : k < 0 ∨ 3 ≤ k) : Calls Tryz.prog 174 #[.int .i64 m, .int .i64 k] w fun e w' => e = .returned (.int .i64 0) ∧ w = w' := by
  go_enter Tryz.func174, Tryz.ntmps174
  go_wp2_with (go_at_call 197; refine (isClass_no _ _ h).mono ?_; rintro e w' ⟨rfl, rfl⟩)
  go_ret
  exact ⟨rfl, rfl⟩
theorem class_yes (m k : Int) (w : World) (h0 : 0 ≤ k) (h1 : k < 3) : Calls Tryz.prog 174 #[.int .i64 m, .int .i64 k] w fun e w' => e = .returned (.int .i64 (cls m k)) ∧ w = w' := by
  obtain rfl | rfl | rfl : k = 0 ∨ k = 1 ∨ k = 2 := by omega
  all_goals
    go_enter Tryz.func174, Tryz.ntmps174
    go_wp2_with (first | (go_at_call 197; refine (isClass_yes _ _ (by omega) (by omega)).mono ?_; rintro e w' ⟨rfl, rfl⟩) | (go_at_call 198; refine (shift_any _ _ (by omega) (by omega)).mono ?_; rintro e w' ⟨rfl, rfl⟩))
    go_ret
    exact ⟨ret_int (by simp [and7, cls]), rfl⟩
theorem class_any (m k : Int) (w : World) : Calls Tryz.prog 174 #[.int .i64 m, .int .i64 k] w fun e w' => e = .returned (.int .i64 (cls m k)) ∧ w = w' := by
  by_cases h : 0 ≤ k ∧ k < 3
  · exact class_yes m k w h.1 h.2
  · have e : cls m k = 0 := by unfold cls; rw [if_neg (by omega), if_neg (by omega), if_neg (by omega)]
    rw [e]
    exact class_no m k w (by omega)

end Go.Proofs.YtnkjaocmfhjnoaaGreat
namespace Go.Proofs.YtnkjaocmfhjnoaaGreat
open Go Go.RowKit
set_option maxRecDepth 100000

def BoolsR (w : World) (v : Value) (bs : List Bool) : Prop :=
  ∃ (A : Option Addr) (c : Nat), v = .slice A bs.length c ∧ ∀ (k : Nat) (b : Bool), bs[k]? = some b → ∃ ad, A = some ad ∧ w.cell? (ad.add k) = some (.bool b)
theorem has_at {α : Type} [BEq α] [LawfulBEq α] {l : List α} {k : Nat} {x : α} (h : l[k]? = some x) : l.contains x = true := by simpa using List.mem_of_getElem? h
theorem ghas_next {α : Type} [BEq α] [LawfulBEq α] {l : List α} {k : Nat} {x y : α} (h : l[k]? = some y) (hn : (l.take k).contains x = false) (hy : ¬ x = y) : (l.take (k + 1)).contains x = false := by
  rw [take_snoc' h, List.contains_append, hn]
  simpa using hy

theorem idxB (v : Value) (l : List Bool) (x : Bool) (w : World) (h : BoolsR w v l) (hn : l.length ≤ 2000000) :
    Calls Tryz.prog 221 #[v, .bool x] w fun e w' => ∃ i : Int, e = .returned (.int .i64 i) ∧ -1 ≤ i ∧ i ≤ 2000000 ∧ decide (0 ≤ i) = l.contains x ∧ w = w' := by
  obtain ⟨A, c, rfl, hc⟩ := h
  have HC := Lib.hid hc
  clear hc
  go_enter Tryz.func221, Tryz.ntmps221
  go_wp2
  go_loopg [8] l.length (fun g s8 wr => ∃ k : Nat, s8 = .int .i64 k ∧ k ≤ l.length ∧ g = l.length - k ∧ (l.take k).contains x = false ∧ w = wr)
  case atStart => exact ⟨0, rfl, Nat.zero_le _, rfl, rfl, rfl⟩
  case round =>
    obtain ⟨k, rfl, hk, rfl, hno, rfl⟩ := hrel
    have HNO := Lib.hid hno
    clear hno
    by_cases hlt : k < l.length
    · obtain ⟨y, hy⟩ : ∃ y, l[k]? = some y := ⟨_, List.getElem?_eq_getElem hlt⟩
      obtain ⟨ad, rfl, c0⟩ := HC.out k y hy
      have HY := Lib.hid hy
      clear hy
      by_cases hxy : x = y
      · subst hxy
        go_wp2
        go_ret
        exact ⟨_, rfl, by omega, by omega, by rw [has_at HY.out]; simp, rfl⟩
      · have hne : (x == y) = false := by simpa using hxy
        have HN := Lib.hid hxy
        clear hxy
        go_wp2
        go_roundg (l.length - (k + 1))
        case measure => omega
        case rel => exact ⟨k + 1, by go_num, by omega, rfl, ghas_next HY.out HNO.out HN.out, rfl⟩
    · have hke : k = l.length := by omega
      subst hke
      have HF := Lib.hid (show l.contains x = false by have := HNO.out; rwa [List.take_length] at this)
      go_wp2
      go_ret
      exact ⟨_, rfl, by omega, by omega, by rw [HF.out]; rfl, rfl⟩

theorem idxI (v : Value) (l : List Int) (x : Int) (w : World) (h : IntsR w v l) (hn : l.length ≤ 2000000) :
    Calls Tryz.prog 186 #[v, .int .i64 x] w fun e w' => ∃ i : Int, e = .returned (.int .i64 i) ∧ -1 ≤ i ∧ i ≤ 2000000 ∧ decide (0 ≤ i) = l.contains x ∧ w = w' := by
  obtain ⟨A, c, rfl, hc⟩ := h
  have HC := Lib.hid hc
  clear hc
  go_enter Tryz.func186, Tryz.ntmps186
  go_wp2
  go_loopg [8] l.length (fun g s8 wr => ∃ k : Nat, s8 = .int .i64 k ∧ k ≤ l.length ∧ g = l.length - k ∧ (l.take k).contains x = false ∧ w = wr)
  case atStart => exact ⟨0, rfl, Nat.zero_le _, rfl, rfl, rfl⟩
  case round =>
    obtain ⟨k, rfl, hk, rfl, hno, rfl⟩ := hrel
    have HNO := Lib.hid hno
    clear hno
    by_cases hlt : k < l.length
    · obtain ⟨y, hy⟩ : ∃ y, l[k]? = some y := ⟨_, List.getElem?_eq_getElem hlt⟩
      obtain ⟨ad, rfl, c0⟩ := HC.out k y hy
      have HY := Lib.hid hy
      clear hy
      by_cases hxy : x = y
      · subst hxy
        go_wp2
        go_ret
        exact ⟨_, rfl, by omega, by omega, by rw [has_at HY.out]; simp, rfl⟩
      · have hne : (x == y) = false := by simpa using hxy
        have HN := Lib.hid hxy
        clear hxy
        go_wp2
        go_roundg (l.length - (k + 1))
        case measure => omega
        case rel => exact ⟨k + 1, by go_num, by omega, rfl, ghas_next HY.out HNO.out HN.out, rfl⟩
    · have hke : k = l.length := by omega
      subst hke
      have HF := Lib.hid (show l.contains x = false by have := HNO.out; rwa [List.take_length] at this)
      go_wp2
      go_ret
      exact ⟨_, rfl, by omega, by omega, by rw [HF.out]; rfl, rfl⟩

theorem conB (v : Value) (l : List Bool) (x : Bool) (w : World) (h : BoolsR w v l) (hn : l.length ≤ 2000000) :
    Calls Tryz.prog 195 #[v, .bool x] w fun e w' => e = .returned (.bool (l.contains x)) ∧ w = w' := by
  have H := Lib.hid (idxB v l x w h hn)
  obtain ⟨R, hR⟩ : ∃ R, l.contains x = R := ⟨_, rfl⟩
  rw [hR] at H ⊢
  clear hR
  obtain ⟨A, c, rfl, -⟩ := h
  go_enter Tryz.func195, Tryz.ntmps195
  go_wp2_with fail
  refine H.out.mono ?_
  rintro e w' ⟨i, rfl, h0, h1, hi, rfl⟩
  by_cases hp : 0 ≤ i
  · have HI := Lib.hid hi
    clear hi
    go_wp2
    go_ret
    exact ⟨ret_bool (by first | exact HI.out | (rw [← HI.out]; simp [hp])), rfl⟩
  · have HI := Lib.hid hi
    clear hi
    go_wp2
    go_ret
    exact ⟨ret_bool (by first | exact HI.out | (rw [← HI.out]; simp [hp])), rfl⟩

theorem conI (v : Value) (l : List Int) (x : Int) (w : World) (h : IntsR w v l) (hn : l.length ≤ 2000000) :
    Calls Tryz.prog 157 #[v, .int .i64 x] w fun e w' => e = .returned (.bool (l.contains x)) ∧ w = w' := by
  have H := Lib.hid (idxI v l x w h hn)
  obtain ⟨R, hR⟩ : ∃ R, l.contains x = R := ⟨_, rfl⟩
  rw [hR] at H ⊢
  clear hR
  obtain ⟨A, c, rfl, -⟩ := h
  go_enter Tryz.func157, Tryz.ntmps157
  go_wp2_with fail
  refine H.out.mono ?_
  rintro e w' ⟨i, rfl, h0, h1, hi, rfl⟩
  by_cases hp : 0 ≤ i
  · have HI := Lib.hid hi
    clear hi
    go_wp2
    go_ret
    exact ⟨ret_bool (by first | exact HI.out | (rw [← HI.out]; simp [hp])), rfl⟩
  · have HI := Lib.hid hi
    clear hi
    go_wp2
    go_ret
    exact ⟨ret_bool (by first | exact HI.out | (rw [← HI.out]; simp [hp])), rfl⟩

theorem anyOf_any (v : Value) (l : List Bool) (w : World) (h : BoolsR w v l) (hn : l.length ≤ 2000000) :
    Calls Tryz.prog 170 #[v] w fun e w' => e = .returned (.bool (l.contains true)) ∧ w = w' := by
  have H := Lib.hid (conB v l true w h hn)
  obtain ⟨R, hR⟩ : ∃ R, l.contains true = R := ⟨_, rfl⟩
  rw [hR] at H ⊢
  clear hR
  obtain ⟨A, c, rfl, -⟩ := h
  go_enter Tryz.func170, Tryz.ntmps170
  go_wp2_with fail
  refine H.out.mono ?_
  rintro e w' ⟨rfl, rfl⟩
  go_wp2
  go_ret
  exact ⟨rfl, rfl⟩
end Go.Proofs.YtnkjaocmfhjnoaaGreat
namespace Go.Proofs.YtnkjaocmfhjnoaaGreat
open Go Go.RowKit
set_option maxRecDepth 100000

theorem isRoot_any (u g : Int) (A : Option Addr) (n c : Nat) (w : World) :
    Calls Tryz.prog 171 #[.agg #[.int .i64 u, .int .i64 g, .slice A n c]] w fun e w' => e = .returned (.bool (u == 0)) ∧ Below w.heap.size w w' := by
  go_enter Tryz.func171, Tryz.ntmps171
  go_wp2
  go_ret
  exact ⟨rfl, (Below.refl _ _).alloc (Nat.le_refl _) _⟩
theorem bools2 (W : World) (a b : Bool) : BoolsR (W.alloc (.cells #[.bool a, .bool b] 4)) (.slice (some ⟨W.heap.size, 0, none⟩) 2 2) [a, b] := by
  refine ⟨_, _, rfl, fun k x hk => ⟨_, rfl, ?_⟩⟩
  match k, hk with
  | 0, hk => simp at hk; subst hk; simp [Addr.add]
  | 1, hk => simp at hk; subst hk; simp [Addr.add]
theorem bools4 (W : World) (a b c d : Bool) : BoolsR (W.alloc (.cells #[.bool a, .bool b, .bool c, .bool d] 4)) (.slice (some ⟨W.heap.size, 0, none⟩) 4 4) [a, b, c, d] := by
  refine ⟨_, _, rfl, fun k x hk => ⟨_, rfl, ?_⟩⟩
  match k, hk with
  | 0, hk => simp at hk; subst hk; simp [Addr.add]
  | 1, hk => simp at hk; subst hk; simp [Addr.add]
  | 2, hk => simp at hk; subst hk; simp [Addr.add]
  | 3, hk => simp at hk; subst hk; simp [Addr.add]
theorem anyOf2 (W : World) (a b : Bool) : Calls Tryz.prog 170 #[.slice (some ⟨W.heap.size, 0, none⟩) 2 2] (W.alloc (.cells #[.bool a, .bool b] 4)) fun e w' => e = .returned (.bool (a || b)) ∧ W.alloc (.cells #[.bool a, .bool b] 4) = w' :=
  (anyOf_any _ _ _ (bools2 W a b) (by simp)).mono fun _ _ h => ⟨h.1.trans (ret_bool (by cases a <;> cases b <;> rfl)), h.2⟩
theorem anyOf4 (W : World) (a b c d : Bool) : Calls Tryz.prog 170 #[.slice (some ⟨W.heap.size, 0, none⟩) 4 4] (W.alloc (.cells #[.bool a, .bool b, .bool c, .bool d] 4)) fun e w' => e = .returned (.bool (a || b || c || d)) ∧ W.alloc (.cells #[.bool a, .bool b, .bool c, .bool d] 4) = w' :=
  (anyOf_any _ _ _ (bools4 W a b c d) (by simp)).mono fun _ _ h => ⟨h.1.trans (ret_bool (by cases a <;> cases b <;> cases c <;> cases d <;> rfl)), h.2⟩
theorem member_any (u g : Int) (A : Option Addr) (n c : Nat) (gs : List Int) (x : Int) (w : World) (h : IntsR w (.slice A n c) gs) (hn : gs.length ≤ 2000000) :
    Calls Tryz.prog 173 #[.agg #[.int .i64 u, .int .i64 g, .slice A n c], .int .i64 x] w fun e w' => e = .returned (.bool (x == g || gs.contains x)) ∧ Below w.heap.size w w' := by
  have HG := Lib.hid (fun w' hb => conI _ gs x w' (h.below hb) hn)
  clear h
  obtain ⟨R, hR⟩ : ∃ R, gs.contains x = R := ⟨_, rfl⟩
  rw [hR] at HG ⊢
  clear hR
  go_enter Tryz.func173, Tryz.ntmps173
  go_wp2_with fail
  have k1 : (w.alloc (.cells #[.int .i64 u, .int .i64 g, .slice A n c] 30)).cell? ⟨w.heap.size, 1, none⟩ = some (.int .i64 g) := by simp
  have k2 : (w.alloc (.cells #[.int .i64 u, .int .i64 g, .slice A n c] 30)).cell? ⟨w.heap.size, 2, none⟩ = some (.slice A n c) := by simp
  have hb : Below w.heap.size w (w.alloc (.cells #[.int .i64 u, .int .i64 g, .slice A n c] 30)) := (Below.refl _ _).alloc (Nat.le_refl _) _
  generalize w.alloc (.cells #[.int .i64 u, .int .i64 g, .slice A n c] 30) = W1 at k1 k2 hb ⊢
  have HB := Lib.hid hb
  clear hb
  go_still_tail 8, (by kernel_rfl)
  still_call ((HG.out _ (by exact HB.out.drew)).mono fun _ _ h => ⟨h.1, h.2.symm⟩)
  repeat still_step
  refine wpStill_nil ?_
  change wpList _ _ _ _ _ (World.drew _)
  have HB2 := Lib.hid HB.out.drew
  generalize W1.drew = W2 at HB2 ⊢
  go_wp2_with fail
  refine (anyOf2 _ _ _).mono ?_
  rintro e w2 ⟨rfl, rfl⟩
  go_wp2
  go_ret
  exact ⟨rfl, HB2.out.alloc HB2.out.size _⟩
theorem class_of (u g : Int) (A : Option Addr) (n c : Nat) (gs : List Int) (x y : Int) (w : World) (h : IntsR w (.slice A n c) gs) (hn : gs.length ≤ 2000000) :
    Calls Tryz.prog 192 #[.agg #[.int .i64 u, .int .i64 g, .slice A n c], .int .i64 x, .int .i64 y] w fun e w' => e = .returned (.int .i64 (if x = u then 0 else if (y == g || gs.contains y) = true then 1 else 2)) ∧ Below w.heap.size w w' := by
  have hb : Below w.heap.size w (w.alloc (.cells #[.int .i64 u, .int .i64 g, .slice A n c] 30)) := (Below.refl _ _).alloc (Nat.le_refl _) _
  have HM := Lib.hid (member_any u g A n c gs y _ (h.below hb) hn)
  have HB := Lib.hid hb
  clear h hb
  obtain ⟨R, hR⟩ : ∃ R, (y == g || gs.contains y) = R := ⟨_, rfl⟩
  rw [hR] at HM ⊢
  clear hR
  by_cases hx : x = u
  · subst hx
    rw [if_pos rfl]
    go_enter Tryz.func192, Tryz.ntmps192
    go_wp2
    go_ret
    exact ⟨rfl, HB.out⟩
  · rw [if_neg hx]
    have hx' : (x == u) = false := by simpa using hx
    clear hx
    cases R with
    | true =>
      go_enter Tryz.func192, Tryz.ntmps192
      go_wp2_with fail
      refine HM.out.mono ?_
      rintro e w2 ⟨rfl, hb2⟩
      have HB2 := Lib.hid hb2
      clear hb2
      go_wp2
      go_ret
      exact ⟨rfl, bt HB2.out HB.out⟩
    | false =>
      go_enter Tryz.func192, Tryz.ntmps192
      go_wp2_with fail
      refine HM.out.mono ?_
      rintro e w2 ⟨rfl, hb2⟩
      have HB2 := Lib.hid hb2
      clear hb2
      go_wp2
      go_ret
      exact ⟨rfl, bt HB2.out HB.out⟩
end Go.Proofs.YtnkjaocmfhjnoaaGreat
namespace Go.Proofs.YtnkjaocmfhjnoaaGreat
open Go Go.RowKit
set_option maxRecDepth 100000

def clsOf (u g : Int) (gs : List Int) (x y : Int) : Int := if x = u then 0 else if (y == g || gs.contains y) = true then 1 else 2
def lets (want b : Int) : Bool := bits .andNot .i64 (bits .and .i64 want 7) b == 0

theorem can_any (u g : Int) (A : Option Addr) (n c : Nat) (gs : List Int) (x y m want : Int) (w : World) (h : IntsR w (.slice A n c) gs) (hn : gs.length ≤ 2000000) :
    Calls Tryz.prog 167 #[.agg #[.int .i64 u, .int .i64 g, .slice A n c], .int .i64 x, .int .i64 y, .int .i64 m, .int .i64 want] w fun e w' => e = .returned (.bool (u == 0 || lets want (cls m (clsOf u g gs x y)))) ∧ Below w.heap.size w w' := by
  have HM := Lib.hid (fun w' hb => class_of u g A n c gs x y w' (h.below hb) hn)
  clear h
  unfold clsOf
  obtain ⟨R, hR⟩ : ∃ R, (if x = u then 0 else if (y == g || gs.contains y) = true then 1 else 2 : Int) = R := ⟨_, rfl⟩
  rw [hR] at HM ⊢
  clear hR
  unfold lets
  go_enter Tryz.func167, Tryz.ntmps167
  have HB := Lib.hid (ba w (.cells #[.int .i64 u, .int .i64 g, .slice A n c] 30))
  go_wp2_with fail
  refine (HM.out _ HB.out).mono ?_
  rintro e w2 ⟨rfl, hb2⟩
  have k0 : w2.cell? ⟨w.heap.size, 0, none⟩ = some (.int .i64 u) := bc hb2 (by simp)
  have k1 : w2.cell? ⟨w.heap.size, 1, none⟩ = some (.int .i64 g) := bc hb2 (by simp)
  have k2 : w2.cell? ⟨w.heap.size, 2, none⟩ = some (.slice A n c) := bc hb2 (by simp)
  have HB2 := Lib.hid (bt hb2 HB.out)
  clear hb2 HB
  go_wp2_with fail
  refine (class_any _ _ _).mono ?_
  rintro e w3 ⟨rfl, rfl⟩
  go_wp2_with fail
  refine (isRoot_any _ _ _ _ _ _).mono ?_
  rintro e w3 ⟨rfl, hb3⟩
  have HB3 := Lib.hid (bt hb3 HB2.out)
  clear hb3
  go_wp2_with fail
  refine (anyOf2 _ _ _).mono ?_
  rintro e w4 ⟨rfl, rfl⟩
  go_wp2
  go_ret
  exact ⟨rfl, HB3.out.alloc HB3.out.size _⟩

end Go.Proofs.YtnkjaocmfhjnoaaGreat
namespace Go.Proofs.YtnkjaocmfhjnoaaGreat
open Go Go.RowKit
set_option maxRecDepth 100000

end Go.Proofs.YtnkjaocmfhjnoaaGreat
namespace Go.Proofs.YtnkjaocmfhjnoaaGreat
open Go Go.RowKit
set_option maxRecDepth 100000

end Go.Proofs.YtnkjaocmfhjnoaaGreat
