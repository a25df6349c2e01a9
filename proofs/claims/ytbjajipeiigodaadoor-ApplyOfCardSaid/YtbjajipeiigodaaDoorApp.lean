/-
  What clause.appendWho and appendAct append to bytes that a call owns; and the text that such bytes are.
-/
import Derived.Test.YtbjajipeiigodaaDoorParse
import Derived.Laws.IdiomStrings
namespace Go.Proofs.YtbjajipeiigodaaDoor
open Go Go.RowKit

def bCells (l : List UInt8) : List Value := l.map fun c => .int .u8 (co c)
theorem bCells_snoc (l : List UInt8) (c : UInt8) : bCells (l ++ [c]) = bCells l ++ [.int .u8 (co c)] := by simp [bCells]
theorem bCells_len (l : List UInt8) : (bCells l).length = l.length := by simp [bCells]
theorem info_u8 : (Tryd.prog.info? 5).map (fun i => (i.zero, i.size, i.bytes)) = some (some (.int .u8 0), 1, 1) := by kernel_rfl
/-- Bytes that a call owns. -/
def Buf (w : World) (B : Nat) (v : Value) (l : List UInt8) : Prop := w.ownsRow B 5 1 v l.length (bCells l)
theorem Buf.kept {w w' : World} {B : Nat} {v : Value} {l : List UInt8} {row : Option Nat} (h : Buf w B v l) (hg : w.grownBy w' row) (hne : v.ownBlock = none ∨ v.ownBlock ≠ row) : Buf w' B v l := World.ownsRow.kept h hg hne
theorem Buf.below {w w' : World} {B : Nat} {v : Value} {l : List UInt8} (h : Buf w B v l) (hb : Below w.heap.size w w') : Buf w' B v l := h.kept (grown_of_below hb none) (by cases hv : v.ownBlock <;> simp)
theorem Buf.alloc {w : World} {B : Nat} {v : Value} {l : List UInt8} (h : Buf w B v l) (o : Obj) : Buf (w.alloc o) B v l := World.ownsRow.alloc h o

/-- Every block that holds no bytes stands as it stood. -/
def Oth (w w' : World) : Prop := ∀ (k : Nat) (o : Obj), w.heap[k]? = some o → (∀ c fz, o ≠ .cells c 5 fz) → w'.heap[k]? = some o
theorem Oth.refl (w : World) : Oth w w := fun _ _ h _ => h
theorem Oth.trans {a b c : World} (h : Oth a b) (k : Oth b c) : Oth a c := fun i o hi ho => k i o (h i o hi ho) ho
theorem Oth.alloc {a w : World} (h : Oth a w) (o : Obj) : Oth a (w.alloc o) := fun i p hi hp => by
  have := h i p hi hp
  rw [Below.heap_alloc w o i (Array.getElem?_eq_some_iff.1 this).1]
  exact this
theorem Oth.iterAt {a w : World} (h : Oth a w) {k : Nat} (hk : a.heap.size ≤ k) (s : ByteArray) (pos : Nat) : Oth a (w.iterAt k s pos) := fun i p hi hp => by
  have hlt := (Array.getElem?_eq_some_iff.1 hi).1
  rw [Lib.iterAt_other w k i s pos (by omega)]
  exact h i p hi hp
theorem Oth.buf {a w w' : World} {B : Nat} {v : Value} {l : List UInt8} (h : Oth a w) (hb : Buf w B v l) (hg : w.grownBy w' v.ownBlock) : Oth a w' := fun i p hi hp => by
  have h1 := h i p hi hp
  rw [hg.block i (Array.getElem?_eq_some_iff.1 h1).1 ?_]
  · exact h1
  · intro e
    rcases hb.2 with ⟨rfl, _⟩ | ⟨g, cap, cur, rfl, _, hh, _⟩
    · simp [Value.ownBlock] at e
    · have : i = g := by simpa [Value.ownBlock] using e
      subst this
      rw [hh] at h1
      injection h1 with h1
      exact hp cur (0, 0) h1.symm
theorem Oth.below {a w w' : World} (h : Oth a w) (hb : Below w.heap.size w w') : Oth a w' := fun i p hi hp => by
  have h1 := h i p hi hp
  exact (hb.block i (Array.getElem?_eq_some_iff.1 h1).1).trans h1

/-- 's = append(s, c)'. -/
theorem wpList_append_byte {ops : Array Oper} {rest : List Oper} {o : Oper} {a : Act} {Q : Exit → Act → World → Prop} (hgd : o.guard = none) (s x : Operand)
    (ho : o.op = .call { callee := .builtin .append, args := #[s, x], argTypes := #[42, 42] }) (B : Nat) (v : Value) (l : List UInt8) (hs : a.eval s = v) (w0 : World) (n : Int) (c : UInt8) (hc : n = co c) (hown : Buf w0 B v l)
    (hx : a.eval x = .slice (some ⟨w0.heap.size, 0, none⟩) 1 1) (hn : l.length ≤ 100000000) (hB : B ≤ w0.heap.size)
    (h : ∀ v' w', Buf w' B v' (l ++ [c]) → w0.grownBy w' v.ownBlock → wpList Tryd.prog ops Q rest (a.put o.dst v') w') : wpList Tryd.prog ops Q (o :: rest) a (w0.alloc (.cells #[.int .u8 n] 5)) := by
  subst hc
  refine wpList_append_one hgd s x _ ho B 5 _ 1 1 Tryd.underlying42 info_u8 rfl (by decide) v l.length (bCells l) hs w0 [.int .u8 (co c)] rfl ?_ hown hx (by omega) (by omega) hB ?_
  · intro u hu
    rw [List.mem_singleton] at hu
    subst hu
    rfl
  · intro v' w' h1 h2
    exact h v' w' (by unfold Buf; rw [bCells_snoc, List.length_append]; exact h1) h2

theorem foldl_push : ∀ (ns : List UInt8) (r : ByteArray), ns.foldl (fun r c => r.push c) r = ⟨r.data ++ ns.toArray⟩
  | [], r => by simp
  | n :: ns, r => by
    simp only [List.foldl_cons]
    rw [foldl_push ns]
    simp [ByteArray.push]

/-- The letters of whom. -/
def whoP (n : Int) (k : Nat) : List UInt8 := ([117, 103, 111].take k).filter fun c => decide (bits .and .i64 n (whoR (co c)) ≠ 0)
def whoL (n : Int) : List UInt8 := if n = 7 then [97] else whoP n 3
def AppPost (B : Nat) (w : World) (l : List UInt8) (e : Ending) (w' : World) : Prop := ∃ v', e = .returned v' ∧ Buf w' B v' l ∧ Below B w w' ∧ Oth w w'
theorem whoP_succ (n : Int) (k : Nat) (c : UInt8) (h : [117, 103, 111][k]? = some c) : whoP n (k + 1) = whoP n k ++ if bits .and .i64 n (whoR (co c)) ≠ 0 then [c] else [] := by
  unfold whoP
  rw [take_snoc' h, List.filter_append]
  congr 1
  by_cases hb : bits .and .i64 n (whoR (co c)) = 0 <;> simp [hb]
theorem whoP_len (n : Int) (k : Nat) : (whoP n k).length ≤ 3 := by
  unfold whoP
  refine Nat.le_trans (List.length_filter_le _ _) ?_
  rw [List.length_take]
  exact Nat.min_le_right _ _
theorem own_ne_iter {w : World} {B k p : Nat} {v : Value} {l : List UInt8} {s : ByteArray} (h : Buf w B v l) (hk : w.heap[k]? = some (.stringIter s p)) : v.ownBlock ≠ some k := by
  rcases h.2 with ⟨rfl, _⟩ | ⟨g, cap, cur, rfl, _, hh, _⟩
  · simp [Value.ownBlock]
  · intro e
    have : g = k := by simpa [Value.ownBlock] using e
    subst this
    rw [hk] at hh
    cases hh
set_option maxHeartbeats 2000000 in
theorem appendWho_any (v : Value) (l : List UInt8) (who : Int) (B : Nat) (w : World) (h : Buf w B v l) (hB : B ≤ w.heap.size) (hl : l.length ≤ 90000000) : Calls Tryd.prog 40 #[v, .int .i64 who] w (AppPost B w (l ++ whoL who)) := by
  have H := Lib.hid h
  clear h
  by_cases h7 : who = 7
  · have h7' : (who == 7) = true := by simpa using h7
    have HE := Lib.hid (show whoL who = [97] by rw [whoL, if_pos h7])
    clear h7
    go_enter Tryd.func40, Tryd.ntmps40
    go_wp2_with (at_builtin; refine wpList_append_byte rfl (.tmp 9) (.tmp 10) rfl B v l rfl w 97 97 rfl H.out rfl (by omega) hB ?_; intro v' w' ho hg)
    go_ret
    exact ⟨v', rfl, by rw [HE.out]; exact ho, (Below.refl _ _).grown hg hB (fun k hk => (World.ownsRow.lt H.out k hk).1), (Oth.refl _).buf H.out hg⟩
  · have h7' : (who == 7) = false := by simpa using h7
    have HE := Lib.hid (show whoL who = whoP who 3 by rw [whoL, if_neg h7])
    clear h7
    go_enter Tryd.func40, Tryd.ntmps40
    go_wp2
    go_loopg [0] 3 (fun g s0 wr => ∃ k : Nat, k ≤ 3 ∧ g = 3 - k ∧ Buf wr B s0 (l ++ whoP who k) ∧ Below B w wr ∧ wr.heap[w.heap.size]? = some (.stringIter ⟨#[117, 103, 111]⟩ k) ∧ Oth w wr)
    case atStart => exact ⟨0, by omega, rfl, by rw [show whoP who 0 = [] from rfl, List.append_nil]; exact H.out.alloc _, (Below.refl _ _).alloc hB _, World.iter_heap _ _ _, (Oth.refl _).alloc _⟩
    case round =>
      obtain ⟨k, hk, rfl, hR, hb, hit, hoth⟩ := hrel
      have HOT := Lib.hid hoth
      clear hoth
      have hne := own_ne_iter hR hit
      obtain ⟨v, rfl⟩ : ∃ v, v = u0 := ⟨_, rfl⟩
      have HR := Lib.hid hR
      have HB := Lib.hid hb
      have HN := Lib.hid hne
      clear hR hb hne
      by_cases hlt : k < 3
      · obtain ⟨c, hc⟩ : ∃ c, (⟨#[117, 103, 111]⟩ : ByteArray)[k]'hlt = c := ⟨_, rfl⟩
        have hck : [117, 103, 111][k]? = some c := by rw [← hc]; exact List.getElem?_eq_getElem (l := [117, 103, 111]) hlt
        have hca : c.toNat < 128 := by
          obtain rfl | rfl | rfl : k = 0 ∨ k = 1 ∨ k = 2 := by omega
          all_goals (rw [← hc]; exact of_decide_eq_true rfl)
        have hnx := fun ty => Lib.run_next_ascii_at (P := Tryd.prog) wr w.heap.size ⟨#[117, 103, 111]⟩ k ty hit hlt (by rw [hc]; exact hca)
        obtain ⟨W1, hW1⟩ : ∃ W1, wr.iterAt w.heap.size ⟨#[117, 103, 111]⟩ (k + 1) = W1 := ⟨_, rfl⟩
        rw [hW1, hc] at hnx
        have gW := grown_iterAt wr w.heap.size ⟨#[117, 103, 111]⟩ (k + 1)
        have iW := Lib.iterAt_heap wr w.heap.size ⟨#[117, 103, 111]⟩ k (k + 1) hit
        have oW := HOT.out.iterAt (k := w.heap.size) (Nat.le_refl _) ⟨#[117, 103, 111]⟩ (k + 1)
        rw [hW1] at gW iW oW
        have HOT1 := Lib.hid oW
        clear oW
        have HR1 := Lib.hid (HR.out.kept gW (.inr HN.out))
        have HB1 := Lib.hid (HB.out.grown gW (Nat.le_trans hB HB.out.size) (by intro k hk; injection hk with hk; omega))
        have HIW := Lib.hid iW
        have hs := whoP_succ who k c hck
        have HCA := Lib.hid hca
        have c0 : (0 : Int) ≤ (c.toNat : Int) := Int.natCast_nonneg _
        have c1 : (c.toNat : Int) ≤ 127 := by omega
        clear hW1 gW iW hit hc hck hca
        obtain ⟨b, hbb⟩ : ∃ b, whoR (co c) = b := ⟨_, rfl⟩
        rw [hbb] at hs
        have HBB := Lib.hid hbb
        clear hbb
        by_cases hz : bits .and .i64 who b = 0
        · have hz' : (bits .and .i64 who b != 0) = false := by simpa using hz
          rw [if_neg (by simpa using hz), List.append_nil] at hs
          have HS := Lib.hid hs
          clear hz hs
          go_wp2_with (go_at_call 54; refine (whoBits_at _ b _ HBB.out).mono ?_; rintro e w' ⟨rfl, rfl⟩)
          go_roundg (3 - (k + 1))
          case measure => omega
          case rel => exact ⟨k + 1, by omega, rfl, by rw [HS.out]; exact HR1.out, HB1.out, HIW.out, HOT1.out⟩
        · have hz' : (bits .and .i64 who b != 0) = true := by simpa using hz
          rw [if_pos hz] at hs
          have HS := Lib.hid hs
          clear hz hs
          have hwl := whoP_len who k
          go_wp2_with (first | (go_at_call 54; refine (whoBits_at _ b _ HBB.out).mono ?_; rintro e w' ⟨rfl, rfl⟩) | (at_builtin; refine wpList_append_byte rfl (.tmp 21) (.tmp 24) rfl B v (l ++ whoP who k) rfl W1 _ c rfl HR1.out rfl (by rw [List.length_append]; omega) (Nat.le_trans hB HB1.out.size) ?_; intro v' w' ho hg))
          go_roundg (3 - (k + 1))
          case measure => omega
          case rel =>
            exact ⟨k + 1, by omega, rfl, by rw [HS.out, ← List.append_assoc]; exact ho, HB1.out.grown hg (Nat.le_trans hB HB1.out.size) (fun k hk => (World.ownsRow.lt HR1.out k hk).1), (hg.block _ (Array.getElem?_eq_some_iff.1 HIW.out).1 (own_ne_iter HR1.out HIW.out).symm).trans HIW.out, HOT1.out.buf HR1.out hg⟩
      · have hnx := fun ty => Lib.run_next_end_at (P := Tryd.prog) wr w.heap.size ⟨#[117, 103, 111]⟩ k ty hit (show ¬ k < 3 from hlt)
        have HK := Lib.hid (show k = 3 by omega)
        clear hit
        go_wp2
        go_ret
        exact ⟨v, rfl, by rw [HE.out, ← HK.out]; exact HR.out, HB.out, HOT.out⟩

theorem slice_next (w : World) (o : Obj) : Value.slice (some ⟨w.heap.size + 1, 0, none⟩) 1 1 = .slice (some ⟨(w.alloc o).heap.size, 0, none⟩) 1 1 := by simp
def perP (n : Int) (k : Nat) : List UInt8 := ([114, 119, 120, 88, 115, 116].take k).filter fun c => decide (bits .and .i64 n (perR (co c)) ≠ 0)
theorem perP_succ (n : Int) (k : Nat) (c : UInt8) (h : [114, 119, 120, 88, 115, 116][k]? = some c) : perP n (k + 1) = perP n k ++ if bits .and .i64 n (perR (co c)) ≠ 0 then [c] else [] := by
  unfold perP
  rw [take_snoc' h, List.filter_append]
  congr 1
  by_cases hb : bits .and .i64 n (perR (co c)) = 0 <;> simp [hb]
theorem perP_len (n : Int) (k : Nat) : (perP n k).length ≤ 6 := by
  unfold perP
  refine Nat.le_trans (List.length_filter_le _ _) ?_
  rw [List.length_take]
  exact Nat.min_le_right _ _
def ugoC (k : Int) : UInt8 := if k = 1 then 117 else if k = 2 then 103 else 111
/-- An act's letters. -/
def actL (a : CA) : List UInt8 := a.op :: if a.copy ≠ 0 then [ugoC a.copy] else perP a.perms 6
theorem own_ne_blk {w : World} {B g : Nat} {v : Value} {l : List UInt8} {cs : Array Value} (h : Buf w B v l) (hk : Blk w g 60 cs) : v.ownBlock ≠ some g := by
  rcases h.2 with ⟨rfl, _⟩ | ⟨g', cap, cur, rfl, _, hh, _⟩
  · simp [Value.ownBlock]
  · intro e
    have : g' = g := by simpa [Value.ownBlock] using e
    subst this
    unfold Blk at hk
    rw [hk] at hh
    injection hh with hh
    injection hh with _ ht
    cases ht
set_option maxHeartbeats 2000000 in
theorem appendAct_copy (v : Value) (l : List UInt8) (op : UInt8) (perms copy : Int) (B : Nat) (w : World) (h : Buf w B v l) (hB : B ≤ w.heap.size) (hl : l.length ≤ 90000000) (h1 : 1 ≤ copy) (h3 : copy ≤ 3) : Calls Tryd.prog 41 #[v, aV ⟨op, perms, copy⟩] w (AppPost B w (l ++ actL ⟨op, perms, copy⟩)) := by
  have H := Lib.hid h
  clear h
  have hc : (copy != 0) = true := by rw [bne_iff_ne]; omega
  have HE := Lib.hid (show actL ⟨op, perms, copy⟩ = [op, ugoC copy] by rw [actL]; simp only; rw [if_pos (by omega)])
  unfold aV
  simp only
  have HBX := Lib.hid ((H.out.alloc (.cells #[.int .u8 (co op), .int .i64 perms, .int .i64 copy] 60)))
  obtain rfl | rfl | rfl : copy = 1 ∨ copy = 2 ∨ copy = 3 := by omega
  all_goals
    go_enter Tryd.func41, Tryd.ntmps41
    go_wp2_with (first
      | (at_builtin; refine wpList_append_byte rfl (.tmp 7) (.tmp 10) rfl B v l rfl (w.alloc (.cells #[.int .u8 (co op), .int .i64 perms, .int .i64 _] 60)) _ op rfl HBX.out (slice_next w _) (by omega) (by simp; omega) ?_; intro v1 w1 ho hg; have hbk := (Blk.new w 60 _).kept hg (own_ne_blk HBX.out (Blk.new w 60 _)).symm; have hk2 := hbk.cell 2; simp at hk2; have HO := Lib.hid ho; have HB1 := Lib.hid (((Below.refl B w).alloc hB _).grown hg (by simp; omega) (fun k hk => (World.ownsRow.lt HBX.out k hk).1)); have HOT := Lib.hid (((Oth.refl w).alloc _).buf HBX.out hg); clear ho hg hbk)
      | (at_builtin; refine wpList_append_byte rfl (.tmp 15) (.tmp 20) rfl B v1 (l ++ [op]) rfl w1 _ 117 rfl HO.out rfl (by rw [List.length_append]; simp; omega) (Nat.le_trans hB HB1.out.size) ?_; intro v2 w2 ho2 hg2)
      | (at_builtin; refine wpList_append_byte rfl (.tmp 15) (.tmp 20) rfl B v1 (l ++ [op]) rfl w1 _ 103 rfl HO.out rfl (by rw [List.length_append]; simp; omega) (Nat.le_trans hB HB1.out.size) ?_; intro v2 w2 ho2 hg2)
      | (at_builtin; refine wpList_append_byte rfl (.tmp 15) (.tmp 20) rfl B v1 (l ++ [op]) rfl w1 _ 111 rfl HO.out rfl (by rw [List.length_append]; simp; omega) (Nat.le_trans hB HB1.out.size) ?_; intro v2 w2 ho2 hg2))
    go_ret
    exact ⟨v2, rfl, by rw [HE.out]; simpa [ugoC] using ho2, HB1.out.grown hg2 (Nat.le_trans hB HB1.out.size) (fun k hk => (World.ownsRow.lt HO.out k hk).1), HOT.out.buf HO.out hg2⟩

set_option maxHeartbeats 4000000 in
theorem appendAct_perms (v : Value) (l : List UInt8) (op : UInt8) (perms : Int) (B : Nat) (w : World) (h : Buf w B v l) (hB : B ≤ w.heap.size) (hl : l.length ≤ 90000000) : Calls Tryd.prog 41 #[v, aV ⟨op, perms, 0⟩] w (AppPost B w (l ++ actL ⟨op, perms, 0⟩)) := by
  have H := Lib.hid h
  clear h
  have HE := Lib.hid (show actL ⟨op, perms, 0⟩ = op :: perP perms 6 by rw [actL]; simp)
  unfold aV
  simp only
  have HBX := Lib.hid ((H.out.alloc (.cells #[.int .u8 (co op), .int .i64 perms, .int .i64 0] 60)))
  go_enter Tryd.func41, Tryd.ntmps41
  go_wp2_with (at_builtin; refine wpList_append_byte rfl (.tmp 7) (.tmp 10) rfl B v l rfl (w.alloc (.cells #[.int .u8 (co op), .int .i64 perms, .int .i64 _] 60)) _ op rfl HBX.out (slice_next w _) (by omega) (by simp; omega) ?_; intro v1 w1 ho hg; have hbk := (Blk.new w 60 _).kept hg (own_ne_blk HBX.out (Blk.new w 60 _)).symm; have hk2 := hbk.cell 2; simp at hk2; have HO := Lib.hid ho; have HBK := Lib.hid hbk; have HB1 := Lib.hid (((Below.refl B w).alloc hB _).grown hg (by simp; omega) (fun k hk => (World.ownsRow.lt HBX.out k hk).1)); have HOT := Lib.hid (((Oth.refl w).alloc _).buf HBX.out hg); clear ho hg hbk)
  go_loopg [0] 6 (fun g s0 wr => ∃ k : Nat, k ≤ 6 ∧ g = 6 - k ∧ Buf wr B s0 (l ++ op :: perP perms k) ∧ Below B w wr ∧ Blk wr w.heap.size 60 #[.int .u8 (co op), .int .i64 perms, .int .i64 0] ∧ wr.heap[w1.heap.size]? = some (.stringIter ⟨#[114, 119, 120, 88, 115, 116]⟩ k) ∧ Oth w wr)
  case atStart => exact ⟨0, by omega, rfl, by rw [show perP perms 0 = [] from rfl]; exact HO.out.alloc _, HB1.out.alloc (Nat.le_trans hB HB1.out.size) _, HBK.out.alloc _, World.iter_heap _ _ _, HOT.out.alloc _⟩
  case round =>
    obtain ⟨k, hk, rfl, hR, hb, hbk, hit, hoth⟩ := hrel
    have HOT2 := Lib.hid hoth
    clear hoth
    have hne := own_ne_iter hR hit
    obtain ⟨v, rfl⟩ : ∃ v, v = u0 := ⟨_, rfl⟩
    have hgi : some w.heap.size ≠ some w1.heap.size := by
      intro e
      injection e with e
      have h2 := HBK.out.lt
      omega
    have HR := Lib.hid hR
    have HB := Lib.hid hb
    have HN := Lib.hid hne
    clear hR hb hne
    by_cases hlt : k < 6
    · obtain ⟨c, hc⟩ : ∃ c, (⟨#[114, 119, 120, 88, 115, 116]⟩ : ByteArray)[k]'hlt = c := ⟨_, rfl⟩
      have hck : [114, 119, 120, 88, 115, 116][k]? = some c := by rw [← hc]; exact List.getElem?_eq_getElem (l := [114, 119, 120, 88, 115, 116]) hlt
      have hca : c.toNat < 128 := by
        obtain rfl | rfl | rfl | rfl | rfl | rfl : k = 0 ∨ k = 1 ∨ k = 2 ∨ k = 3 ∨ k = 4 ∨ k = 5 := by omega
        all_goals (rw [← hc]; exact of_decide_eq_true rfl)
      have hnx := fun ty => Lib.run_next_ascii_at (P := Tryd.prog) wr w1.heap.size ⟨#[114, 119, 120, 88, 115, 116]⟩ k ty hit hlt (by rw [hc]; exact hca)
      obtain ⟨W1, hW1⟩ : ∃ W1, wr.iterAt w1.heap.size ⟨#[114, 119, 120, 88, 115, 116]⟩ (k + 1) = W1 := ⟨_, rfl⟩
      rw [hW1, hc] at hnx
      have gW := grown_iterAt wr w1.heap.size ⟨#[114, 119, 120, 88, 115, 116]⟩ (k + 1)
      have iW := Lib.iterAt_heap wr w1.heap.size ⟨#[114, 119, 120, 88, 115, 116]⟩ k (k + 1) hit
      have oW := HOT2.out.iterAt (k := w1.heap.size) (by have := HBK.out.lt; omega) ⟨#[114, 119, 120, 88, 115, 116]⟩ (k + 1)
      rw [hW1] at gW iW oW
      have HOT3 := Lib.hid oW
      clear oW
      have HR1 := Lib.hid (HR.out.kept gW (.inr HN.out))
      have hBw1 : B ≤ w1.heap.size := Nat.le_trans hB HB1.out.size
      have HB2 := Lib.hid (HB.out.grown gW (Nat.le_trans hB HB.out.size) (by intro k hk; injection hk with hk; omega))
      have hbk2 := hbk.kept gW hgi
      have k1 := hbk2.cell 1
      simp at k1
      have HBK2 := Lib.hid hbk2
      have HIW := Lib.hid iW
      have hs := perP_succ perms k c hck
      have c0 : (0 : Int) ≤ (c.toNat : Int) := Int.natCast_nonneg _
      have c1 : (c.toNat : Int) ≤ 127 := by omega
      clear hW1 gW iW hit hc hck hca hbk hbk2
      obtain ⟨b, hbb⟩ : ∃ b, perR (co c) = b := ⟨_, rfl⟩
      rw [hbb] at hs
      have HBB := Lib.hid hbb
      clear hbb
      by_cases hz : bits .and .i64 perms b = 0
      · have hz' : (bits .and .i64 perms b != 0) = false := by simpa using hz
        rw [if_neg (by simpa using hz), List.append_nil] at hs
        have HS := Lib.hid hs
        clear hz hs
        go_wp2
        go_quiet ((go_at_call 59; exact quiet_l (permBit_at _ b _ HBB.out)))
        go_wp2
        go_roundg (6 - (k + 1))
        case measure => omega
        case rel => exact ⟨k + 1, by omega, rfl, by rw [HS.out]; exact HR1.out, below_drewN HB2.out _, HBK2.out, HIW.out, HOT3.out⟩
      · have hz' : (bits .and .i64 perms b != 0) = true := by simpa using hz
        rw [if_pos hz] at hs
        have HS := Lib.hid hs
        clear hz hs
        have hwl := perP_len perms k
        go_wp2
        go_quiet ((go_at_call 59; exact quiet_l (permBit_at _ b _ HBB.out)))
        go_wp2_with (at_builtin; refine wpList_append_byte rfl (.tmp 32) (.tmp 35) rfl B v (l ++ op :: perP perms k) rfl (W1.drewN _) _ c rfl HR1.out rfl (by rw [List.length_append, List.length_cons]; omega) (Nat.le_trans hB HB2.out.size) ?_; intro v' w' ho hg)
        go_roundg (6 - (k + 1))
        case measure => omega
        case rel =>
          refine ⟨k + 1, by omega, rfl, ?_, ?_, ?_, ?_, Oth.buf (w := W1.drewN _) HOT3.out HR1.out hg⟩
          · rw [HS.out]; simpa using ho
          · exact (below_drewN HB2.out _).grown hg (Nat.le_trans hB HB2.out.size) (fun k hk => (World.ownsRow.lt HR1.out k hk).1)
          · exact Blk.kept (w := W1.drewN _) HBK2.out hg (own_ne_blk HR1.out HBK2.out).symm
          · exact (hg.block _ (Array.getElem?_eq_some_iff.1 HIW.out).1 (own_ne_iter HR1.out HIW.out).symm).trans HIW.out
    · have hnx := fun ty => Lib.run_next_end_at (P := Tryd.prog) wr w1.heap.size ⟨#[114, 119, 120, 88, 115, 116]⟩ k ty hit (show ¬ k < 6 from hlt)
      have HK := Lib.hid (show k = 6 by omega)
      clear hit
      go_wp2
      go_ret
      exact ⟨v, rfl, by rw [HE.out, ← HK.out]; exact HR.out, HB.out, HOT2.out⟩
theorem appendAct_any (v : Value) (l : List UInt8) (a : CA) (B : Nat) (w : World) (h : Buf w B v l) (hB : B ≤ w.heap.size) (hl : l.length ≤ 90000000) (h0 : 0 ≤ a.copy) (h3 : a.copy ≤ 3) : Calls Tryd.prog 41 #[v, aV a] w (AppPost B w (l ++ actL a)) := by
  obtain ⟨op, perms, copy⟩ := a
  by_cases hc : copy = 0
  · subst hc
    exact appendAct_perms v l op perms B w h hB hl
  · simp only at h0 h3
    exact appendAct_copy v l op perms copy B w h hB hl (by omega) h3
theorem conv_buf {w : World} {B : Nat} {v : Value} {l : List UInt8} (h : Buf w B v l) : (convert 42 9 v).run Tryd.prog w = .ok (.string ⟨l.toArray⟩) w := by
  have hm : ∀ (ns : List UInt8), (ns.map co).foldl (fun r n => r.push (UInt8.ofNat n.toNat)) ByteArray.empty = ⟨ns.toArray⟩ := by
    intro ns
    rw [List.foldl_map]
    have e : (fun (r : ByteArray) (c : UInt8) => r.push (UInt8.ofNat (co c).toNat)) = fun r c => r.push c := by
      funext r c
      simp [co]
    rw [e, foldl_push]
    have he0 : ByteArray.empty.data = #[] := rfl
    rw [he0]
    simp
  have hbc : bCells l = (l.map co).map (Value.int .u8) := by simp [bCells]
  rcases h.2 with ⟨rfl, h0⟩ | ⟨g, cap, cur, rfl, -⟩
  · have : l = [] := List.eq_nil_of_length_eq_zero h0
    subst this
    rw [run_convert_bytes_string w 42 9 5 none 0 0 Tryd.underlying42 Tryd.underlying5 Tryd.underlying9]
    rfl
  · rw [run_convert_bytes_string w 42 9 5 _ _ _ Tryd.underlying42 Tryd.underlying5 Tryd.underlying9]
    have hc := World.ownsRow.cells h (g := g) rfl
    rw [hbc] at hc
    have hl := run_loadCells_list (P := Tryd.prog) w ⟨g, 0, none⟩ ((l.map co).map (Value.int .u8)) (fun j u hj => hc j u hj)
    simp only [List.length_map] at hl
    rw [run_bytesToString w _ l.length cap _ hl, hm]
end Go.Proofs.YtbjajipeiigodaaDoor
