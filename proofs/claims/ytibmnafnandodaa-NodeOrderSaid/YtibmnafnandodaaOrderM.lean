/-
  What NodeOrder works on: two directories in blocks of their own, whose entries are put in one by one. No condition.
-/
import Derived.Test.YtibmnafnandodaaFindsW
namespace Go.Proofs.Ytibmnafnandodaa
open Go Go.RowKit

/-- A directory with entries, and nothing else. -/
def dirN (l : List En) : Nd := ⟨2, 0, 0, 0, [], l, []⟩
abbrev dirC (vd ve : Value) : Array Value := #[.int .i64 2, .int .i64 0, .int .i64 0, .int .i64 0, vd, ve, .string ⟨#[]⟩]
/-- The two of them. -/
structure OS (w0 X : World) (a b : Nat) (vda vea vdb veb : Value) (la lb : List En) : Prop where
  below : Below w0.heap.size w0 X
  basea : w0.heap.size ≤ a
  baseb : w0.heap.size ≤ b
  ne : a ≠ b
  blka : Blk X a 25 (dirC vda vea)
  blkb : Blk X b 25 (dirC vdb veb)
  da : BytesX X 0 vda []
  db : BytesX X 0 vdb []
  ea : EntsT X vea la
  eb : EntsT X veb lb
section
variable {w0 X X' : World} {a b : Nat} {vda vea vdb veb : Value} {la lb : List En}
theorem OS.later (h : OS w0 X a b vda vea vdb veb la lb) (hb : Below X.heap.size X X') : OS w0 X' a b vda vea vdb veb la lb :=
  ⟨bt hb h.below, h.basea, h.baseb, h.ne, h.blka.below hb, h.blkb.below hb, h.da.below hb, h.db.below hb, h.ea.below hb, h.eb.below hb⟩
theorem OS.nba (h : OS w0 X a b vda vea vdb veb la lb) : NB X a (dirN la) vda vea := ⟨h.blka, h.da.bytes, h.ea.1⟩
theorem OS.nbb (h : OS w0 X a b vda vea vdb veb la lb) : NB X b (dirN lb) vdb veb := ⟨h.blkb, h.db.bytes, h.eb.1⟩
theorem OS.seta (h : OS w0 X a b vda vea vdb veb la lb) {vd ve : Value} {l : List En} (hd : BytesX X 0 vd []) (he : EntsT X ve l) : OS w0 (put7 X a (.int .i64 2) (.int .i64 0) (.int .i64 0) (.int .i64 0) vd ve (.string ⟨#[]⟩)) a b vd ve vdb veb l lb := by
  have hG := grown7 X a (.int .i64 2) (.int .i64 0) (.int .i64 0) (.int .i64 0) vd ve (.string ⟨#[]⟩)
  exact ⟨below_grown h.below hG h.basea, h.basea, h.baseb, h.ne, h.blka.put7 _ _ _ _ _ _ _, h.blkb.kept hG (fun e => h.ne (by injection e with e; exact e.symm)), hd.kept h.blka (by decide) hG, h.db.kept h.blka (by decide) hG, he.kept h.blka (by decide) hG, h.eb.kept h.blka (by decide) hG⟩
theorem OS.setb (h : OS w0 X a b vda vea vdb veb la lb) {vd ve : Value} {l : List En} (hd : BytesX X 0 vd []) (he : EntsT X ve l) : OS w0 (put7 X b (.int .i64 2) (.int .i64 0) (.int .i64 0) (.int .i64 0) vd ve (.string ⟨#[]⟩)) a b vda vea vd ve la l := by
  have hG := grown7 X b (.int .i64 2) (.int .i64 0) (.int .i64 0) (.int .i64 0) vd ve (.string ⟨#[]⟩)
  exact ⟨below_grown h.below hG h.baseb, h.basea, h.baseb, h.ne, h.blka.kept hG (fun e => h.ne (by injection e with e)), h.blkb.put7 _ _ _ _ _ _ _, h.da.kept h.blkb (by decide) hG, hd.kept h.blkb (by decide) hG, h.ea.kept h.blkb (by decide) hG, he.kept h.blkb (by decide) hG⟩
theorem OS.other (h : OS w0 X a b vda vea vdb veb la lb) {g : Nat} {x0 x1 x2 x3 x4 x5 x6 : Value} (hx : Blk X g 25 #[x0, x1, x2, x3, x4, x5, x6]) (h1 : g ≠ a) (h2 : g ≠ b) (h0 : w0.heap.size ≤ g) (u0 u1 u2 u3 u4 u5 u6 : Value) : OS w0 (put7 X g u0 u1 u2 u3 u4 u5 u6) a b vda vea vdb veb la lb := by
  have hG := grown7 X g u0 u1 u2 u3 u4 u5 u6
  exact ⟨below_grown h.below hG h0, h.basea, h.baseb, h.ne, h.blka.kept hG (fun e => h1 (by injection e with e; exact e.symm)), h.blkb.kept hG (fun e => h2 (by injection e with e; exact e.symm)), h.da.kept hx (by decide) hG, h.db.kept hx (by decide) hG, h.ea.kept hx (by decide) hG, h.eb.kept hx (by decide) hG⟩
/-- What With answers of a directory. -/
theorem put_at {g : Nat} (h : NB X g (dirN la) vda vea) (hn : la.length ≤ 8) {name : Nm} (hs : name.length ≤ 40) {id E : Int} (hE : withE (dirN la) name id = E) : Calls Try.prog 10 #[.agg (dirC vda vea), .string (bA name), .int .i64 id] X fun e w' => ∃ (M : Nd) (A : Option Addr) (c : Nat) (A' : Option Addr) (c' : Nat), e = .returned (.tuple #[.agg (ndC M (.slice A M.data.length c) (.slice A' M.ents.length c')), .int .i64 E]) ∧ M = withM (dirN la) name id ∧ BytesX w' 0 (.slice A M.data.length c) M.data ∧ EntsT w' (.slice A' M.ents.length c') M.ents ∧ Below X.heap.size X w' := by
  have H := with_anyT (dirN la) vda vea name id X h.data h.ents (show (0 : Nat) ≤ 1000 by decide) (by show la.length ≤ 1000; omega) (by omega)
  rw [hE] at H
  refine H.mono ?_
  rintro e w' ⟨v, rfl, ⟨vd', ve', rfl, hd, he⟩, hb⟩
  obtain ⟨A, c, rfl⟩ := bytesX_form hd
  obtain ⟨A', c', rfl⟩ := ents_form he.1 rfl
  exact ⟨_, A, c, A', c', rfl, rfl, hd, he, hb⟩
/-- .. where the entry is put in. -/
theorem put_good {g : Nat} (h : NB X g (dirN la) vda vea) (hn : la.length ≤ 8) {name : Nm} (hs : name.length ≤ 40) {id : Int} (hE : withE (dirN la) name id = 0) : Calls Try.prog 10 #[.agg (dirC vda vea), .string (bA name), .int .i64 id] X fun e w' => ∃ (A : Option Addr) (c : Nat) (A' : Option Addr) (c' : Nat), e = .returned (.tuple #[.agg (dirC (.slice A 0 c) (.slice A' (la.length + 1) c')), .int .i64 0]) ∧ BytesX w' 0 (.slice A 0 c) [] ∧ EntsT w' (.slice A' (la.length + 1) c') (ins (name, id) la) ∧ Below X.heap.size X w' := by
  refine (put_at h hn hs hE).mono ?_
  rintro e w' ⟨M, A, c, A', c', rfl, hM, hd, he, hb⟩
  have hM2 : M = dirN (ins (name, id) la) := by rw [hM, withM, if_pos hE]; rfl
  subst hM2
  have hl : (dirN (ins (name, id) la)).ents.length = la.length + 1 := len_ins _ _
  rw [hl] at he ⊢
  exact ⟨A, c, A', c', rfl, hd, he, hb⟩
end
/-- Entries that may be. -/
def okE (l : List En) : Prop := ∀ e ∈ l, nok e.1 = true ∧ 1 ≤ e.2
theorem okE_ins {l : List En} {name : Nm} {id : Int} (h : okE l) (h1 : nok name = true) (h2 : 1 ≤ id) : okE (ins (name, id) l) := by
  intro e he
  rcases (mem_ins _ _ _).1 he with rfl | he
  · exact ⟨h1, h2⟩
  · exact h e he
theorem few_dir {l : List En} (h : okE l) (hn : l.length ≤ 8) : Few (dirN l) := by
  refine ⟨show (0 : Nat) ≤ 1000 by decide, by show l.length ≤ 1000; omega, fun e he => ?_, show (0 : Nat) ≤ 1000 by decide⟩
  have := (h e he).1
  unfold nok at this
  rw [Bool.and_eq_true] at this
  have h2 : e.1.length ≤ 12 := by simpa using this.2
  omega
theorem right_dirN {l : List En} (h : okE l) (hr : rise (nmE l)) (hn : l.length ≤ 8) : rightP (dirN l) :=
  ⟨⟨show (0 : Int) ≤ 0 ∧ (0 : Int) ≤ 4095 by decide, show (0 : Int) ≤ 0 ∧ (0 : Int) ≤ 65535 by decide, show (0 : Int) ≤ 0 ∧ (0 : Int) ≤ 65535 by decide⟩, .inr (.inl ⟨rfl, rfl, rfl, h, hr, hn⟩)⟩
/-- What is put in, and what is not. -/
theorem put_zero {l : List En} {name : Nm} {id : Int} (hE : withE (dirN l) name id = 0) : nok name = true ∧ 1 ≤ id ∧ nmE (ins (name, id) l) = addN (nmE l) name ∧ l.length < 8 := by
  obtain ⟨-, h1, h2, h3, h4⟩ := withE_zero.1 hE
  refine ⟨h2, h1, ?_, h4⟩
  rw [nmE_ins, addN, if_pos ⟨h2, h3, by rw [len_nmE]; exact h4⟩]
theorem put_else {l : List En} {name : Nm} {id : Int} (hid : 1 ≤ id) (hE : ¬ withE (dirN l) name id = 0) : nmE l = addN (nmE l) name := by
  rw [addN, if_neg]
  rintro ⟨h1, h2, h3⟩
  exact hE (withE_zero.2 ⟨rfl, hid, h1, h2, by rw [len_nmE] at h3; exact h3⟩)
theorem put_full {l : List En} {name : Nm} {id : Int} (hid : 1 ≤ id) (h28 : ¬ withE (dirN l) name id = 28) : ¬ fullN (nmE l) name := by
  rintro ⟨h1, h2, h3⟩
  rw [len_nmE] at h3
  apply h28
  have hb : badN name = false ∧ name.length ≤ 12 := by
    unfold nok at h1
    rw [Bool.and_eq_true] at h1
    exact ⟨by simpa using h1.1, by simpa using h1.2⟩
  unfold withE
  rw [if_neg (show ¬ ((dirN l).kind ≠ 2) from fun h => h rfl), if_neg (by rintro (h | h); omega; rw [hb.1] at h; cases h), if_neg (by omega), if_neg (show ¬ name ∈ nmE (dirN l).ents from h2), if_pos (show 8 ≤ (dirN l).ents.length from h3)]
end Go.Proofs.Ytibmnafnandodaa
