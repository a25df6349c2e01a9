/-
  The calls of package table. The conditions are said at each.
-/
import Derived.Test.YtnkjaocmfhjnoaaGreatE0
import Derived.Test.YtnkjaocmfhjnoaaGreatE1
import Derived.Deep.RegionHeld3
import Derived.Deep.RegionWith
namespace Go.Proofs.YtnkjaocmfhjnoaaGreat
open Go Go.RowKit
set_option maxRecDepth 100000

def BytesT (w : World) (v : Value) (l : List UInt8) : Prop := BytesR w v l ∧ ∀ (ad : Addr) (n c : Nat), v = .slice (some ad) n c → ∃ cs, Blk w ad.block 5 cs
theorem BytesT.below {w w' : World} {v : Value} {l : List UInt8} (h : BytesT w v l) (hb : Below w.heap.size w w') : BytesT w' v l :=
  ⟨h.1.below hb, fun ad n c hv => by obtain ⟨cs, hc⟩ := h.2 ad n c hv; exact ⟨cs, hc.below hb⟩⟩
theorem BytesT.nil (w : World) : BytesT w (.slice none 0 0) [] := ⟨BytesR.nil w, fun ad n c h => by injection h with h; cases h⟩
theorem BytesR.other {w w' : World} {g : Nat} {v : Value} {l : List UInt8} (h : BytesR w v l) (hg : w.grownBy w' (some g)) (hne : ∀ (ad : Addr) (n c : Nat), v = .slice (some ad) n c → ad.block ≠ g) : BytesR w' v l := by
  obtain ⟨A, c, rfl, hc⟩ := h
  refine ⟨A, c, rfl, fun k e hk => ?_⟩
  obtain ⟨ad, rfl, h0⟩ := hc k e hk
  have e1 : (ad.add k).block = ad.block := by unfold Addr.add; split <;> rfl
  refine ⟨ad, rfl, ?_⟩
  rw [← h0]
  exact World.cell?_of_block (hg.block _ (World.block_lt_of_cell? _ _ h0) (by rw [e1]; intro q; injection q with q; exact hne ad _ _ rfl q))
theorem EntsR.other {w w' : World} {g : Nat} {v : Value} {l : List En} (h : EntsR w v l) (hg : w.grownBy w' (some g)) (hne : ∀ (ad : Addr) (n c : Nat), v = .slice (some ad) n c → ad.block ≠ g) : EntsR w' v l := by
  obtain ⟨A, c, rfl, hc⟩ := h
  refine ⟨A, c, rfl, fun k e hk => ?_⟩
  obtain ⟨ad, rfl, h0, h1⟩ := hc k e hk
  have e1 : (ad.add (k * 2)).block = ad.block := by unfold Addr.add; split <;> rfl
  have key : ∀ (p : Addr) (u : Value), p.block = ad.block → w.cell? p = some u → w'.cell? p = some u := by
    intro p u hp hu
    rw [← hu]
    exact World.cell?_of_block (hg.block p.block (World.block_lt_of_cell? _ _ hu) (by rw [hp]; intro q; injection q with q; exact hne ad _ _ rfl q))
  exact ⟨ad, rfl, key _ _ e1 h0, key _ _ e1 h1⟩
theorem blk_ne {w : World} {g h : Nat} {t s : TypeId} {cs ds : Array Value} (hg : Blk w g t cs) (hh : Blk w h s ds) (hne : t ≠ s) : g ≠ h := by
  rintro rfl
  unfold Blk at hg hh
  rw [hg] at hh
  injection hh with hh
  injection hh with _ hh
  exact hne hh
theorem BytesT.other {w w' : World} {g : Nat} {v : Value} {l : List UInt8} (h : BytesT w v l) (hg : w.grownBy w' (some g)) (hne : ∀ (ad : Addr) (n c : Nat), v = .slice (some ad) n c → ad.block ≠ g) : BytesT w' v l :=
  ⟨h.1.other hg hne, fun ad n c hv => by obtain ⟨cs, hc⟩ := h.2 ad n c hv; exact ⟨cs, hc.kept hg (fun e => hne ad n c hv (by injection e))⟩⟩
theorem EntsT.other {w w' : World} {g : Nat} {v : Value} {l : List En} (h : EntsT w v l) (hg : w.grownBy w' (some g)) (hne : ∀ (ad : Addr) (n c : Nat), v = .slice (some ad) n c → ad.block ≠ g) : EntsT w' v l :=
  ⟨h.1.other hg hne, fun ad n c hv => by obtain ⟨cs, hc⟩ := h.2 ad n c hv; exact ⟨cs, hc.kept hg (fun e => hne ad n c hv (by injection e))⟩⟩
def LP (P : Nat → Prop) (v : Value) : Prop := ∀ (ad : Addr) (n c : Nat), v = .slice (some ad) n c → P ad.block
theorem LP.nil (P : Nat → Prop) : LP P (.slice none 0 0) := fun ad n c h => by injection h with h; cases h
theorem LP.mono {P Q : Nat → Prop} {v : Value} (h : LP P v) (hq : ∀ b, P b → Q b) : LP Q v := fun ad n c hv => hq _ (h ad n c hv)
structure At7 (w : World) (g o : Nat) (n : Nd) (vd ve : Value) : Prop where
  c0 : w.cell? ⟨g, o, none⟩ = some (.int .i64 n.kind)
  c1 : w.cell? ⟨g, o + 1, none⟩ = some (.int .i64 n.mode)
  c2 : w.cell? ⟨g, o + 2, none⟩ = some (.int .i64 n.uid)
  c3 : w.cell? ⟨g, o + 3, none⟩ = some (.int .i64 n.gid)
  c4 : w.cell? ⟨g, o + 4, none⟩ = some vd
  c5 : w.cell? ⟨g, o + 5, none⟩ = some ve
  c6 : w.cell? ⟨g, o + 6, none⟩ = some (.string (bA n.target))
theorem At7.other {w w' : World} {g o : Nat} {n : Nd} {vd ve : Value} (h : At7 w g o n vd ve) (hc : ∀ j, j < 7 → w'.cell? ⟨g, o + j, none⟩ = w.cell? ⟨g, o + j, none⟩) : At7 w' g o n vd ve :=
  ⟨(hc 0 (by decide)).trans h.c0, (hc 1 (by decide)).trans h.c1, (hc 2 (by decide)).trans h.c2, (hc 3 (by decide)).trans h.c3, (hc 4 (by decide)).trans h.c4, (hc 5 (by decide)).trans h.c5, (hc 6 (by decide)).trans h.c6⟩
structure TabR (w : World) (g : Nat) (t : List Nd) (P : Nat → Prop) : Prop where
  blk : ∃ cs, Blk w g 81 cs ∧ cs.size = 169
  room : w.cell? ⟨g, 0, none⟩ = some (.int .i64 (t.length : Int))
  lo : 1 ≤ t.length
  hi : t.length ≤ 24
  ok : okT t
  node : ∀ (k : Nat) (n : Nd), t[k]? = some n → ∃ vd ve, At7 w g (1 + k * 7) n vd ve ∧ BytesT w vd n.data ∧ EntsT w ve n.ents ∧ LP P vd ∧ LP P ve
theorem TabR.lt {w : World} {g : Nat} {t : List Nd} {P : Nat → Prop} (h : TabR w g t P) : g < w.heap.size := by obtain ⟨cs, hb, _⟩ := h.blk; exact hb.lt
theorem TabR.frozen {w : World} {g : Nat} {t : List Nd} {P : Nat → Prop} (h : TabR w g t P) (i : Nat) : w.frozen? ⟨g, i, none⟩ = false := by obtain ⟨cs, hb, _⟩ := h.blk; exact hb.frozen i
theorem TabR.below {w w' : World} {g : Nat} {t : List Nd} {P : Nat → Prop} (h : TabR w g t P) (hb : Below w.heap.size w w') : TabR w' g t P := by
  obtain ⟨cs, hc, hs⟩ := h.blk
  refine ⟨⟨cs, hc.below hb, hs⟩, bc hb h.room, h.lo, h.hi, h.ok, fun k n hk => ?_⟩
  obtain ⟨vd, ve, h1, h2, h3, h4⟩ := h.node k n hk
  exact ⟨vd, ve, ⟨bc hb h1.c0, bc hb h1.c1, bc hb h1.c2, bc hb h1.c3, bc hb h1.c4, bc hb h1.c5, bc hb h1.c6⟩, h2.below hb, h3.below hb, h4⟩
theorem TabR.other {w w' : World} {g m : Nat} {t : List Nd} {P : Nat → Prop} (h : TabR w g t P) (hg : w.grownBy w' (some m)) (hne : g ≠ m) (hP : ∀ b, P b → b < w.heap.size → (∃ cs, Blk w b 5 cs) ∨ (∃ cs, Blk w b 126 cs) → b ≠ m) : TabR w' g t P := by
  obtain ⟨cs, hc, hs⟩ := h.blk
  have key : ∀ (i : Nat) (u : Value), w.cell? ⟨g, i, none⟩ = some u → w'.cell? ⟨g, i, none⟩ = some u := by
    intro i u hu
    rw [← hu]
    exact World.cell?_of_block (hg.block g hc.lt (by intro q; injection q with q; exact hne q))
  refine ⟨⟨cs, hc.kept hg (by intro q; injection q with q; exact hne q), hs⟩, key _ _ h.room, h.lo, h.hi, h.ok, fun k n hk => ?_⟩
  obtain ⟨vd, ve, h1, h2, h3, h4, h5⟩ := h.node k n hk
  refine ⟨vd, ve, ⟨key _ _ h1.c0, key _ _ h1.c1, key _ _ h1.c2, key _ _ h1.c3, key _ _ h1.c4, key _ _ h1.c5, key _ _ h1.c6⟩, h2.other hg (fun ad n c hv => ?_), h3.other hg (fun ad n c hv => ?_), h4, h5⟩
  · obtain ⟨cs', hb⟩ := h2.2 ad n c hv
    exact hP _ (h4 ad n c hv) hb.lt (.inl ⟨cs', hb⟩)
  · obtain ⟨cs', hb⟩ := h3.2 ad n c hv
    exact hP _ (h5 ad n c hv) hb.lt (.inr ⟨cs', hb⟩)
theorem TabR.kind {w w' : World} {g m : Nat} {t : List Nd} {P : Nat → Prop} {s : TypeId} {cs : Array Value} (h : TabR w g t P) (hg : w.grownBy w' (some m)) (hne : g ≠ m) (hm : Blk w m s cs) (h1 : s ≠ 5) (h2 : s ≠ 126) : TabR w' g t P :=
  h.other hg hne (fun b _ _ hb => by
    rcases hb with ⟨ds, hb⟩ | ⟨ds, hb⟩
    · exact blk_ne hb hm (fun e => h1 e.symm)
    · exact blk_ne hb hm (fun e => h2 e.symm))
def TabP (w : World) (v : Value) (t : List Nd) : Prop := (v = .pointer none ∧ t = []) ∨ ∃ g P, v = .pointer (some ⟨g, 0, none⟩) ∧ TabR w g t P
theorem TabR.ptr {w : World} {g : Nat} {t : List Nd} {P : Nat → Prop} (h : TabR w g t P) : TabP w (.pointer (some ⟨g, 0, none⟩)) t := .inr ⟨g, P, rfl, h⟩
theorem TabP.none (w : World) : TabP w (.pointer none) [] := .inl ⟨rfl, rfl⟩
theorem TabP.below {w w' : World} {v : Value} {t : List Nd} (h : TabP w v t) (hb : Below w.heap.size w w') : TabP w' v t := by
  rcases h with h | ⟨g, P, hv, h⟩
  · exact .inl h
  · exact .inr ⟨g, P, hv, h.below hb⟩
theorem TabP.ok {w : World} {v : Value} {t : List Nd} (h : TabP w v t) : okT t ∧ t.length ≤ 24 := by
  rcases h with ⟨-, rfl⟩ | ⟨g, P, hv, h⟩
  · exact ⟨fun n hn => (by cases hn), Nat.zero_le _⟩
  · exact ⟨h.ok, h.hi⟩
theorem right_few {n : Nd} (h : rightP n) : Few n := by
  rcases h.2 with ⟨_, h2, h3, h4⟩ | ⟨_, h2, h3, h4⟩ | ⟨_, h2, h3, _, h4⟩
  · refine ⟨by omega, (by rw [h2]; simp), (fun e he => by rw [h2] at he; cases he), (by rw [h3]; simp)⟩
  · refine ⟨(by rw [h2]; simp), (by have := h4.2.2; omega), (fun e he => ?_), (by rw [h3]; simp)⟩
    have h5 := (h4.1 e he).1
    unfold nok at h5
    rw [Bool.and_eq_true] at h5
    have := of_decide_eq_true h5.2
    omega
  · refine ⟨(by rw [h2]; simp), (by rw [h3]; simp), (fun e he => by rw [h3] at he; cases he), ?_⟩
    unfold fok at h4
    rw [Bool.and_eq_true] at h4
    have := of_decide_eq_true h4.1
    omega
theorem zero_few : Few Nd.zero := ⟨by decide, by decide, (fun e he => by cases he), by decide⟩
theorem ok_few {t : List Nd} (h : okT t) (i : Int) : Few (tget t i) := by
  rcases ok_tget h i with q | q
  · rw [q]; exact zero_few
  · exact right_few q
set_option maxRecDepth 100000 in
theorem room_any (v : Value) (t : List Nd) (w : World) (h : TabP w v t) :
    Calls Tryz.prog 41 #[v] w fun e w' => e = .returned (.int .i64 (t.length : Int)) ∧ w = w' := by
  rcases h with ⟨rfl, rfl⟩ | ⟨g, P, rfl, h⟩
  · go_enter Tryz.func41, Tryz.ntmps41
    go_wp2
    go_ret
    exact ⟨rfl, rfl⟩
  · have h0 := h.room
    clear h
    go_enter Tryz.func41, Tryz.ntmps41
    go_wp2
    go_ret
    exact ⟨rfl, rfl⟩
end Go.Proofs.YtnkjaocmfhjnoaaGreat
namespace Go.Proofs.YtnkjaocmfhjnoaaGreat
open Go Go.RowKit
set_option maxRecDepth 100000

attribute [local go_sem] cell_off4 cell_blk4
theorem bytesT_form {w : World} {v : Value} {l : List UInt8} (h : BytesT w v l) : ∃ A c, v = .slice A l.length c := bytes_form h.1 rfl
theorem entsT_form {w : World} {v : Value} {l : List En} (h : EntsT w v l) : ∃ A c, v = .slice A l.length c := ents_form h.1 rfl
set_option maxRecDepth 100000 in
set_option maxHeartbeats 4000000 in
theorem at_low (v : Value) (t : List Nd) (i : Int) (w : World) (h : TabP w v t) (hi : ¬ (1 ≤ i ∧ i ≤ t.length)) :
    Calls Tryz.prog 48 #[v, .int .i64 i] w fun e w' => e = .returned (.agg ndZ) ∧ Below w.heap.size w w' := by
  have HR := Lib.hid (fun W (hb : Below w.heap.size w W) => room_any v t W (h.below hb))
  have HB := Lib.hid (ba w (.cells ndZ 65))
  clear h
  by_cases h1 : i < 1
  · clear hi
    go_enter Tryz.func48, Tryz.ntmps48
    go_wp2
    exact bodyPost_ret (v := .agg ndZ) (by simp [results, Tryz.results48, go_sem]) rfl ⟨rfl, HB.out⟩
  · have h2 : (t.length : Int) < i := by omega
    clear hi
    go_enter Tryz.func48, Tryz.ntmps48
    go_wp2_with fail
    refine (HR.out _ (ba _ _)).mono ?_
    rintro e w' ⟨rfl, rfl⟩
    go_wp2
    exact bodyPost_ret (v := .agg ndZ) (by simp [results, Tryz.results48, go_sem]) rfl ⟨rfl, HB.out⟩
set_option maxRecDepth 100000 in
set_option maxHeartbeats 4000000 in
theorem at_some (g : Nat) (t : List Nd) (P : Nat → Prop) (k : Nat) (n : Nd) (w : World) (h : TabR w g t P) (hk : t[k]? = some n) (vd ve : Value) (ha : At7 w g (1 + k * 7) n vd ve) (hd : BytesT w vd n.data) (he : EntsT w ve n.ents) :
    Calls Tryz.prog 48 #[.pointer (some ⟨g, 0, none⟩), .int .i64 ((k : Int) + 1)] w fun e w' => e = .returned (nodeV n vd ve) ∧ Below w.heap.size w w' := by
  have HR := Lib.hid (fun W (hb : Below w.heap.size w W) => room_any (.pointer (some ⟨g, 0, none⟩)) t W ((h.below hb).ptr))
  have hlt : k < t.length := (List.getElem?_eq_some_iff.1 hk).1
  have hhi := h.hi
  have hg := h.lt
  have q1 : ¬ ((k : Int) + 1 < 1) := by omega
  have q2 : ¬ ((t.length : Int) < (k : Int) + 1) := by omega
  obtain ⟨c0, c1, c2, c3, c4, c5, c6⟩ := ha
  obtain ⟨A1, k1, rfl⟩ := bytesT_form hd
  obtain ⟨A2, k2, rfl⟩ := entsT_form he
  have HB := Lib.hid (ba w (.cells (ndC n (.slice A1 n.data.length k1) (.slice A2 n.ents.length k2)) 65))
  clear h hk hd he
  unfold nodeV
  go_enter Tryz.func48, Tryz.ntmps48
  go_wp2_with fail
  refine (HR.out _ (ba _ _)).mono ?_
  rintro e w' ⟨rfl, rfl⟩
  go_wp2
  exact bodyPost_ret (v := .agg (ndC n (.slice A1 n.data.length k1) (.slice A2 n.ents.length k2))) (by simp [results, Tryz.results48, go_sem]) rfl ⟨rfl, HB.out⟩
theorem at_any (v : Value) (t : List Nd) (i : Int) (w : World) (h : TabP w v t) :
    Calls Tryz.prog 48 #[v, .int .i64 i] w fun e w' => ∃ vd ve, e = .returned (nodeV (tget t i) vd ve) ∧ BytesT w' vd (tget t i).data ∧ EntsT w' ve (tget t i).ents ∧ Below w.heap.size w w' := by
  by_cases hi : 1 ≤ i ∧ i ≤ t.length
  · rcases h with ⟨-, rfl⟩ | ⟨g, P, rfl, h⟩
    · exact absurd hi (by simp; omega)
    · obtain ⟨k, hk⟩ : ∃ k : Nat, i = (k : Int) + 1 := ⟨(i - 1).toNat, by omega⟩
      subst hk
      have hlt : k < t.length := by omega
      rw [tget_at hlt]
      obtain ⟨vd, ve, ha, hd, he, -, -⟩ := h.node k _ (List.getElem?_eq_getElem hlt)
      refine (at_some g t P k _ w h (List.getElem?_eq_getElem hlt) vd ve ha hd he).mono ?_
      rintro e w' ⟨rfl, hb⟩
      exact ⟨vd, ve, rfl, hd.below hb, he.below hb, hb⟩
  · rw [tget_out hi]
    refine (at_low v t i w h hi).mono ?_
    rintro e w' ⟨rfl, hb⟩
    exact ⟨_, _, rfl, BytesT.nil _, EntsT.nil _, hb⟩
theorem kind_of (x : Int) (a1 a2 a3 a4 a5 a6 : Value) (w : World) : (Instr.field 65 (.agg #[.int .i64 x, a1, a2, a3, a4, a5, a6]) 0).run Tryz.prog w = .ok (.int .i64 x) w := by kernel_rfl
attribute [local go_sem] kind_of
set_option maxRecDepth 100000 in
set_option maxHeartbeats 4000000 in
theorem thas_any (v : Value) (t : List Nd) (i : Int) (w : World) (h : TabP w v t) :
    Calls Tryz.prog 49 #[v, .int .i64 i] w fun e w' => e = .returned (.bool (tis t i)) ∧ Below w.heap.size w w' := by
  have HA := Lib.hid (at_any v t i w h)
  have HX := Lib.hid (show ((tget t i).kind != 0) = tis t i by unfold tis; rw [Bool.eq_iff_iff]; simp)
  clear h
  generalize tis t i = X at HX ⊢
  generalize tget t i = n at HA HX
  go_enter Tryz.func49, Tryz.ntmps49
  go_wp2_with fail
  refine HA.out.mono ?_
  rintro e w' ⟨vd, ve, rfl, -, -, hb⟩
  have HB := Lib.hid hb
  clear hb
  unfold nodeV
  go_wp2
  go_ret
  exact ⟨ret_bool HX.out, HB.out⟩
end Go.Proofs.YtnkjaocmfhjnoaaGreat
namespace Go.Proofs.YtnkjaocmfhjnoaaGreat
open Go Go.RowKit
set_option maxRecDepth 100000

theorem BytesT.of_own {w : World} {B : Nat} {v : Value} {l : List UInt8} (h : w.ownsRow B 5 1 v l.length (bCells l)) : BytesT w v l ∧ LP (fun b => B ≤ b) v := by
  rcases h.2 with ⟨rfl, hn⟩ | ⟨g, cap, cur, rfl, hB, hh, _⟩
  · have : l = [] := List.eq_nil_of_length_eq_zero hn
    subst this
    exact ⟨BytesT.nil w, LP.nil _⟩
  · refine ⟨⟨⟨some ⟨g, 0, none⟩, cap, rfl, fun k a hk => ⟨_, rfl, ?_⟩⟩, fun ad n c hv => ?_⟩, fun ad n c hv => ?_⟩
    · rw [add_lit]
      exact row_at h _ _ (bCells_at l k a hk)
    · injection hv with hA
      injection hA with hA
      subst hA
      exact ⟨cur, hh⟩
    · injection hv with hA
      injection hA with hA
      subst hA
      exact hB
theorem LP.of_own {w : World} {B : Nat} {e : TypeId} {size n : Nat} {v : Value} {xs : List Value} (h : w.ownsRow B e size v n xs) : LP (fun b => B ≤ b) v := by
  rcases h.2 with ⟨rfl, hn⟩ | ⟨g, cap, cur, rfl, hB, hh, _⟩
  · exact LP.nil _
  · intro ad n c hv
    injection hv with hA
    injection hA with hA
    subst hA
    exact hB
theorem wpList_append_void {P : Program} {w : World} {ops : Array Oper} {rest : List Oper} {o : Oper} {a : Act} {Q : Exit → Act → World → Prop} (hgd : o.guard = none) (x : Operand) (t e : TypeId)
    (ho : o.op = .call { callee := .builtin .append, args := #[.const (.slice none 0 0), x], argTypes := #[t, t] }) (i : TypeInfo) (ht : P.underlying t = some (.slice e)) (hi : P.info? e = some i) (c : Nat) (hx : a.eval x = .slice none 0 c)
    (h : wpList P ops Q rest (a.put o.dst (.slice none 0 0)) w) : wpList P ops Q (o :: rest) a w := by
  refine wpList_plain hgd fun K hK => ?_
  have hrun : (Builtin.append_ #[t, t] o.type #[.slice none 0 0, .slice none 0 c]).run P w = .ok (.slice none 0 0) w := by
    simp [Builtin.append_, run_underlying ht, sizeOf, typeInfo, hi, Builtin.lenOf, Builtin.firstCells]
  have hs : a.eval (.const (.slice none 0 0)) = .slice none 0 0 := rfl
  unfold Oper.wp
  simp [execOp, ho, resolve, invoke, builtin, hs, hx, hrun, Result.andThen]
  exact hK _ _ h
theorem wpList_copy_bytes {ops : Array Oper} {rest : List Oper} {o : Oper} {a : Act} {Q : Exit → Act → World → Prop} {w0 : World} (hgd : o.guard = none) (x : Operand)
    (ho : o.op = .call { callee := .builtin .append, args := #[.const (.slice none 0 0), x], argTypes := #[46, 46] })
    (vx : Value) (m : List UInt8) (hx : a.eval x = vx) (hm : BytesR w0 vx m) (hn : m.length ≤ 1000000)
    (h : ∀ v' w', BytesT w' v' m → LP (fun b => w0.heap.size ≤ b) v' → Below w0.heap.size w0 w' → wpList Tryz.prog ops Q rest (a.put o.dst v') w') : wpList Tryz.prog ops Q (o :: rest) a w0 := by
  obtain ⟨i, hi0, hz0, hz1, hz2⟩ := info_parts info_u8
  obtain ⟨A, c, rfl⟩ := bytes_form hm rfl
  cases A with
  | none =>
    have hm0 : m = [] := by
      cases m with
      | nil => rfl
      | cons y m' =>
        obtain ⟨ad, e, _⟩ := bytes_get hm (show (y :: m')[0]? = some y from rfl)
        cases e
    subst hm0
    exact wpList_append_void hgd x _ 5 ho i Tryz.underlying46 hi0 c hx (h _ w0 (BytesT.nil _) (LP.nil _) (Below.refl _ _))
  | some ad =>
    refine wpList_append_own _ hgd _ x _ ho w0.heap.size 5 i _ 1 1 Tryz.underlying46 hi0 hz0 hz1 hz2 rfl (by decide) (.slice none 0 0) 0 [] rfl (World.ownsRow_nil _ _ _ _) ad m.length c (bCells m) hx (by simp [bCells]) (bytes_src hm) (bCells_one m) (by unfold maxLen; omega) (by omega) (Nat.le_refl _) ?_
    intro v' w' ho' hg _
    rw [Nat.zero_add, List.nil_append] at ho'
    obtain ⟨h1, h2⟩ := BytesT.of_own ho'
    exact h v' w' h1 h2 ((Below.refl _ _).grown hg (Nat.le_refl _) (fun q hq => by cases hq))
theorem wpList_copy_ents {ops : Array Oper} {rest : List Oper} {o : Oper} {a : Act} {Q : Exit → Act → World → Prop} {w0 : World} (hgd : o.guard = none) (x : Operand)
    (ho : o.op = .call { callee := .builtin .append, args := #[.const (.slice none 0 0), x], argTypes := #[63, 63] })
    (vx : Value) (m : List En) (hx : a.eval x = vx) (hm : EntsR w0 vx m) (hn : m.length ≤ 1000000)
    (h : ∀ v' w', EntsT w' v' m → LP (fun b => w0.heap.size ≤ b) v' → Below w0.heap.size w0 w' → wpList Tryz.prog ops Q rest (a.put o.dst v') w') : wpList Tryz.prog ops Q (o :: rest) a w0 := by
  obtain ⟨i, hi0, hz0, hz1, hz2⟩ := info_parts info_ent
  obtain ⟨A, c, rfl⟩ := ents_form hm rfl
  cases A with
  | none =>
    have hm0 : m = [] := by
      cases m with
      | nil => rfl
      | cons y m' =>
        obtain ⟨ad, e, _⟩ := ents_get hm (show (y :: m')[0]? = some y from rfl)
        cases e
    subst hm0
    exact wpList_append_void hgd x _ 126 ho i Tryz.underlying63 hi0 c hx (h _ w0 (EntsT.nil _) (LP.nil _) (Below.refl _ _))
  | some ad =>
    refine wpList_append_own _ hgd _ x _ ho w0.heap.size 126 i _ 2 24 Tryz.underlying63 hi0 hz0 hz1 hz2 rfl (by decide) (.slice none 0 0) 0 [] rfl (World.ownsRow_nil _ _ _ _) ad m.length c (eCells m) hx (eCells_len m) (ents_src hm) (eCells_one m) (by unfold maxLen; omega) (by omega) (Nat.le_refl _) ?_
    intro v' w' ho' hg _
    rw [Nat.zero_add, List.nil_append] at ho'
    exact h v' w' (EntsT.of_own ho') (LP.of_own ho') ((Below.refl _ _).grown hg (Nat.le_refl _) (fun q hq => by cases hq))
theorem copied_end {w w1 w3 w4 w5 w6 : World} {n : Nd} {va vb : Value} {cs ds : Array Value} (hd : BytesT w4 va n.data) (he : EntsT w4 vb n.ents) (hk : Blk w4 w.heap.size 65 cs) (hr : Blk w5 (w.heap.size + 1) 65 ds) (hg5 : w4.grownBy w5 (some w.heap.size)) (hg6 : w5.grownBy w6 (some (w.heap.size + 1)))
    (h2 : LP (fun b => w1.heap.size ≤ b) va) (h4 : LP (fun b => w3.heap.size ≤ b) vb) (h1 : w.heap.size ≤ w1.heap.size) (h3 : w.heap.size ≤ w3.heap.size) (hb : Below w.heap.size w w4) :
    ∃ vd' ve', Ending.returned (nodeV n va vb) = .returned (nodeV n vd' ve') ∧ BytesT w6 vd' n.data ∧ EntsT w6 ve' n.ents ∧ LP (fun b => w.heap.size ≤ b) vd' ∧ LP (fun b => w.heap.size ≤ b) ve' ∧ Below w.heap.size w w6 := by
  have hd5 := hd.other hg5 (fun ad n c hv => by obtain ⟨cs, h⟩ := hd.2 ad n c hv; exact blk_ne h hk (by decide))
  have he5 := he.other hg5 (fun ad n c hv => by obtain ⟨cs, h⟩ := he.2 ad n c hv; exact blk_ne h hk (by decide))
  have hd6 := hd5.other hg6 (fun ad n c hv => by obtain ⟨cs, h⟩ := hd5.2 ad n c hv; exact blk_ne h hr (by decide))
  have he6 := he5.other hg6 (fun ad n c hv => by obtain ⟨cs, h⟩ := he5.2 ad n c hv; exact blk_ne h hr (by decide))
  exact ⟨va, vb, rfl, hd6, he6, h2.mono (fun b hb => Nat.le_trans h1 hb), h4.mono (fun b hb => Nat.le_trans h3 hb), below_grown (below_grown hb hg5 (Nat.le_refl _)) hg6 (Nat.le_succ _)⟩
attribute [local go_sem] cell_off4 cell_blk4
set_option maxRecDepth 100000 in
set_option maxHeartbeats 4000000 in
theorem copied_any (n : Nd) (vd ve : Value) (w : World) (hd : BytesR w vd n.data) (he : EntsR w ve n.ents) (hf : Few n) :
    Calls Tryz.prog 26 #[nodeV n vd ve] w fun e w' => ∃ vd' ve', e = .returned (nodeV n vd' ve') ∧ BytesT w' vd' n.data ∧ EntsT w' ve' n.ents ∧ LP (fun b => w.heap.size ≤ b) vd' ∧ LP (fun b => w.heap.size ≤ b) ve' ∧ Below w.heap.size w w' := by
  have hnd := hf.data
  have hne := hf.ents
  obtain ⟨W1, hW1⟩ : ∃ W1, W1 = (w.alloc (.cells (ndC n vd ve) 65)).alloc (.cells ndZ 65) := ⟨_, rfl⟩
  have hb1 : Below w.heap.size w W1 := by rw [hW1]; exact al (ba _ _) _
  have hz1 : W1.heap.size = w.heap.size + 2 := by rw [hW1]; simp
  have hkb : Blk W1 w.heap.size 65 (ndC n vd ve) := by rw [hW1]; exact (Blk.new _ _ _).alloc _
  have hkr : Blk W1 (w.heap.size + 1) 65 ndZ := by rw [hW1]; have := Blk.new (w.alloc (.cells (ndC n vd ve) 65)) 65 ndZ; simpa using this
  have HD := Lib.hid (hd.below hb1)
  have HE := Lib.hid he
  have HB1 := Lib.hid hb1
  have HKB := Lib.hid hkb
  have HKR := Lib.hid hkr
  have HZ1 := Lib.hid hz1
  obtain ⟨A1, c1, rfl⟩ := bytes_form hd rfl
  obtain ⟨A2, c2, rfl⟩ := ents_form he rfl
  clear hd he hb1 hkb hkr hz1 hf
  subst hW1
  unfold nodeV
  go_enter Tryz.func26, Tryz.ntmps26
  go_wp2_with (first | (at_builtin; refine wpList_copy_bytes rfl (.tmp 4) rfl (.slice A1 n.data.length c1) n.data rfl HD.out (by omega) ?_; intro v2 w2 hT2 hL2 hb2; obtain ⟨A3, c3, hv3⟩ := bytesT_form hT2; subst hv3; have HT2 := Lib.hid hT2; have HL2 := Lib.hid hL2; have HB2 := Lib.hid hb2; have hk2 := HKB.out.below hb2; have HK2 := Lib.hid hk2; obtain ⟨p0, p1, p2, p3, p4, p5, p6⟩ := hk2.c7; obtain ⟨f0, f1, f2, f3, f4, f5, f6⟩ := hk2.f7; clear hT2 hL2 hb2 hk2) | (at_builtin; (have HG3 := Lib.hid (grown_setCell w2 ⟨w.heap.size, 4, none⟩ (.slice A3 n.data.length c3))); (have HK3 := Lib.hid (HK2.out.set7_4 (.slice A3 n.data.length c3))); (have HB3 := Lib.hid (below_grown (bt HB2.out HB1.out) HG3.out (Nat.le_refl _))); (have HX3 := Lib.hid (HT2.out.other HG3.out (fun ad n c hv => by obtain ⟨cs, hb⟩ := HT2.out.2 ad n c hv; exact blk_ne hb HK2.out (by decide)))); (have HR3 := Lib.hid ((HKR.out.below HB2.out).kept HG3.out (by simp))); refine wpList_copy_ents rfl (.tmp 8) rfl (.slice A2 n.ents.length c2) n.ents rfl (HE.out.below HB3.out) (by omega) ?_; intro v4 w4 hT4 hL4 hb4; obtain ⟨A4, c4, hv4⟩ := entsT_form hT4; subst hv4; have HT4 := Lib.hid hT4; have HL4 := Lib.hid hL4; have HY4 := Lib.hid (HX3.out.below hb4); have HB4 := Lib.hid (bt hb4 HB3.out); have hk4 := HK3.out.below hb4; have HK4 := Lib.hid hk4; have hr4 := HR3.out.below hb4; have HR4 := Lib.hid hr4; have HLE := Lib.hid HB3.out.size; have HG5 := Lib.hid (grown_setCell w4 ⟨w.heap.size, 5, none⟩ (.slice A4 n.ents.length c4)); have hr5 := hr4.kept HG5.out (by simp); have HR5 := Lib.hid hr5; clear p0 p1 p2 p3 p4 p5 p6 f0 f1 f2 f3 f4 f5 f6; obtain ⟨p0, p1, p2, p3, p4, p5, p6⟩ := hk4.c7; obtain ⟨f0, f1, f2, f3, f4, f5, f6⟩ := hk4.f7; have t5 : ∀ u, (w4.setCell ⟨w.heap.size, 5, none⟩ u).cell? ⟨w.heap.size, 5, none⟩ = some u := fun u => (hk4.set7_5 u).cell 5; obtain ⟨r0, r1, r2, r3, r4, r5, r6⟩ := hr5.c7; obtain ⟨q0, q1, q2, q3, q4, q5, q6⟩ := hr5.f7; obtain ⟨s0, s1, s2, s3, s4, s5, s6⟩ := hr5.s7; clear hT4 hL4 hb4 hk4 hr4 hr5))
  have HG6 := Lib.hid (grown7 (w4.setCell ⟨w.heap.size, 5, none⟩ (.slice A4 n.ents.length c4)) (w.heap.size + 1) (.int .i64 n.kind) (.int .i64 n.mode) (.int .i64 n.uid) (.int .i64 n.gid) (.slice A3 n.data.length c3) (.slice A4 n.ents.length c4) (.string (bA n.target)))
  exact bodyPost_ret (v := nodeV n (.slice A3 n.data.length c3) (.slice A4 n.ents.length c4)) (by simp [results, Tryz.results26, go_sem, nodeV, s0, s1, s2, s3, s4, s5, s6]) rfl (copied_end HY4.out HT4.out HK4.out HR5.out HG5.out HG6.out HL2.out HL4.out HB1.out.size HLE.out HB4.out)
end Go.Proofs.YtnkjaocmfhjnoaaGreat
namespace Go.Proofs.YtnkjaocmfhjnoaaGreat
open Go Go.RowKit
set_option maxRecDepth 100000

attribute [local go_sem] cell_off4 cell_blk4
theorem get_end {w w3 w4 : World} {n : Nd} {va vb : Value} {b : Bool} {cs : Array Value} {s : Nat} (hd : BytesT w3 va n.data) (he : EntsT w3 vb n.ents) (hk : Blk w3 w.heap.size 65 cs) (hg : w3.grownBy w4 (some w.heap.size))
    (h2 : LP (fun b => s ≤ b) va) (h4 : LP (fun b => s ≤ b) vb) (h1 : w.heap.size ≤ s) (hb : Below w.heap.size w w3) :
    ∃ vd ve, Ending.returned (.tuple #[nodeV n va vb, .bool b]) = .returned (.tuple #[nodeV n vd ve, .bool b]) ∧ BytesT w4 vd n.data ∧ EntsT w4 ve n.ents ∧ LP (fun b => w.heap.size ≤ b) vd ∧ LP (fun b => w.heap.size ≤ b) ve ∧ Below w.heap.size w w4 := by
  have hd5 := hd.other hg (fun ad n c hv => by obtain ⟨cs, h⟩ := hd.2 ad n c hv; exact blk_ne h hk (by decide))
  have he5 := he.other hg (fun ad n c hv => by obtain ⟨cs, h⟩ := he.2 ad n c hv; exact blk_ne h hk (by decide))
  exact ⟨va, vb, rfl, hd5, he5, h2.mono (fun b hb => Nat.le_trans h1 hb), h4.mono (fun b hb => Nat.le_trans h1 hb), below_grown hb hg (Nat.le_refl _)⟩
set_option maxRecDepth 100000 in
set_option maxHeartbeats 4000000 in
theorem get_any (v : Value) (t : List Nd) (i : Int) (w : World) (h : TabP w v t) :
    Calls Tryz.prog 21 #[v, .int .i64 i] w fun e w' => ∃ vd ve, e = .returned (.tuple #[nodeV (tget t i) vd ve, .bool (tis t i)]) ∧ BytesT w' vd (tget t i).data ∧ EntsT w' ve (tget t i).ents ∧ LP (fun b => w.heap.size ≤ b) vd ∧ LP (fun b => w.heap.size ≤ b) ve ∧ Below w.heap.size w w' := by
  have HA := Lib.hid (fun W (hb : Below w.heap.size w W) => at_any v t i W (h.below hb))
  have HH := Lib.hid (fun W (hb : Below w.heap.size w W) => thas_any v t i W (h.below hb))
  have HF := Lib.hid (ok_few h.ok.1 i)
  have HBN := Lib.hid (Blk.new w 65 ndZ)
  have HB0 := Lib.hid (ba w (.cells ndZ 65))
  clear h
  generalize tis t i = X at HH ⊢
  generalize tget t i = n at HA HF ⊢
  go_enter Tryz.func21, Tryz.ntmps21
  go_wp2_with fail
  refine (HA.out _ HB0.out).mono ?_
  rintro e w1 ⟨vd1, ve1, rfl, hd1, he1, hb1⟩
  have HD1 := Lib.hid hd1
  have HE1 := Lib.hid he1
  have HB1 := Lib.hid (bt hb1 HB0.out)
  have HK1 := Lib.hid (HBN.out.below hb1)
  clear hd1 he1 hb1
  go_wp2_with fail
  refine (copied_any n vd1 ve1 w1 HD1.out.1 HE1.out.1 HF.out).mono ?_
  rintro e w2 ⟨vd2, ve2, rfl, hd2, he2, hl2, hm2, hb2⟩
  have HD2 := Lib.hid hd2
  have HE2 := Lib.hid he2
  have HL2 := Lib.hid hl2
  have HM2 := Lib.hid hm2
  have HB2 := Lib.hid (bt hb2 HB1.out)
  have HK2 := Lib.hid (HK1.out.below hb2)
  have HS1 := Lib.hid HB1.out.size
  clear hd2 he2 hl2 hm2 hb2
  go_wp2_with fail
  refine (HH.out w2 HB2.out).mono ?_
  rintro e w3 ⟨rfl, hb3⟩
  have HB3 := Lib.hid (bt hb3 HB2.out)
  have HD3 := Lib.hid (HD2.out.below hb3)
  have HE3 := Lib.hid (HE2.out.below hb3)
  have hk3 := HK2.out.below hb3
  have HK3 := Lib.hid hk3
  obtain ⟨p0, p1, p2, p3, p4, p5, p6⟩ := hk3.c7
  obtain ⟨q0, q1, q2, q3, q4, q5, q6⟩ := hk3.f7
  obtain ⟨s0, s1, s2, s3, s4, s5, s6⟩ := hk3.s7
  clear hb3 hk3
  obtain ⟨A1, c1, hv1⟩ := bytesT_form HD3.out
  obtain ⟨A2, c2, hv2⟩ := entsT_form HE3.out
  subst hv1 hv2
  unfold nodeV
  go_wp2
  have HG := Lib.hid (grown7 w3 w.heap.size (.int .i64 n.kind) (.int .i64 n.mode) (.int .i64 n.uid) (.int .i64 n.gid) (.slice A1 n.data.length c1) (.slice A2 n.ents.length c2) (.string (bA n.target)))
  exact bodyPost_ret (v := .tuple #[nodeV n (.slice A1 n.data.length c1) (.slice A2 n.ents.length c2), .bool X]) (by simp [results, Tryz.results21, go_sem, nodeV, s0, s1, s2, s3, s4, s5, s6]) rfl (get_end HD3.out HE3.out HK3.out HG.out HL2.out HM2.out HS1.out HB3.out)
theorem cnt_snoc {l : List En} {k : Nat} {e : En} {i : Int} (he : l[k]? = some e) : cntE (l.take (k + 1)) i = cntE (l.take k) i + if e.2 = i then 1 else 0 := by
  unfold cntE
  rw [take_snoc' he, List.countP_append, List.countP_cons, List.countP_nil, Nat.zero_add]
  simp
theorem cnt_le (l : List En) (i : Int) : cntE l i ≤ l.length := List.countP_le_length
set_option maxRecDepth 100000 in
set_option maxHeartbeats 4000000 in
theorem entriesOf_any (n : Nd) (vd ve : Value) (i : Int) (w : World) (hd : BytesR w vd n.data) (he : EntsR w ve n.ents) (hf : Few n) :
    Calls Tryz.prog 185 #[nodeV n vd ve, .int .i64 i] w fun e w' => e = .returned (.int .i64 (cntE n.ents i : Int)) ∧ Below w.heap.size w w' := by
  have hfe := hf.ents
  have HB1 := Lib.hid (ba w (.cells (ndC n vd ve) 65))
  obtain ⟨A1, c1, rfl⟩ := bytes_form hd rfl
  obtain ⟨A2, c2, rfl⟩ := ents_form he rfl
  have HE := Lib.hid (box_ents (vd := .slice A1 n.data.length c1) he)
  clear hd he hf
  unfold nodeV
  go_enter Tryz.func185, Tryz.ntmps185
  go_wp2
  go_loopg [5, 11] n.ents.length (fun gh s5 s11 wr => ∃ k : Nat, s5 = .int .i64 (cntE (n.ents.take k) i : Int) ∧ s11 = .int .i64 k ∧ k ≤ n.ents.length ∧ gh = n.ents.length - k ∧ Below (w.alloc (.cells (ndC n (.slice A1 n.data.length c1) (.slice A2 n.ents.length c2)) 65)).heap.size (w.alloc (.cells (ndC n (.slice A1 n.data.length c1) (.slice A2 n.ents.length c2)) 65)) wr)
  case atStart => exact ⟨0, rfl, rfl, Nat.zero_le _, rfl, Below.refl _ _⟩
  case round =>
    obtain ⟨k, rfl, rfl, hk, rfl, hbr⟩ := hrel
    have HB := Lib.hid hbr
    clear hbr
    by_cases hlt : k < n.ents.length
    · obtain ⟨e, hke⟩ : ∃ e, n.ents[k]? = some e := ⟨_, List.getElem?_eq_getElem hlt⟩
      obtain ⟨ad, hA, d0, d1⟩ := ents_get (HE.out.below HB.out) hke
      subst hA
      have hcl := cnt_le (n.ents.take k) i
      rw [List.length_take] at hcl
      have hcl2 : cntE (n.ents.take k) i ≤ 1000 := by omega
      have HS := Lib.hid (cnt_snoc (i := i) hke)
      have hadl : (ad.add (k * 2)).block < wr.heap.size := World.block_lt_of_cell? _ _ d0
      have HBA := Lib.hid (bt (ba wr (.cells #[.string (bA e.1), .int .i64 e.2] 126)) HB.out)
      clear hke hcl
      generalize cntE (n.ents.take k) i = C at HS hcl2 ⊢
      by_cases q : e.2 = i
      · have q1 : (e.2 == i) = true := by simpa using q
        have HX := Lib.hid (show (C : Int) + 1 = (cntE (n.ents.take (k + 1)) i : Int) by rw [HS.out, if_pos q]; first | done | rfl)
        clear q
        go_wp2
        go_roundg (n.ents.length - (k + 1))
        case measure => omega
        case rel => exact ⟨k + 1, by rw [← HX.out], by go_num, by omega, rfl, HBA.out⟩
      · have q1 : (e.2 == i) = false := by simpa using q
        have HX := Lib.hid (show (C : Int) = (cntE (n.ents.take (k + 1)) i : Int) by rw [HS.out, if_neg q, Nat.add_zero])
        clear q
        go_wp2
        go_roundg (n.ents.length - (k + 1))
        case measure => omega
        case rel => exact ⟨k + 1, by rw [← HX.out], by go_num, by omega, rfl, HBA.out⟩
    · have hlt' : ¬ (k : Int) < (n.ents.length : Int) := by omega
      have HX := Lib.hid (show (cntE (n.ents.take k) i : Int) = (cntE n.ents i : Int) by rw [List.take_of_length_le (by omega)])
      generalize (cntE (n.ents.take k) i : Int) = C at HX ⊢
      go_wp2
      go_ret
      exact ⟨ret_int HX.out, bt HB.out HB1.out⟩
end Go.Proofs.YtnkjaocmfhjnoaaGreat
namespace Go.Proofs.YtnkjaocmfhjnoaaGreat
open Go Go.RowKit
set_option maxRecDepth 100000

def putA (w : World) (g o : Nat) (u0 u1 u2 u3 u4 u5 u6 : Value) : World :=
  ((((((w.setCell ⟨g, o, none⟩ u0).setCell ⟨g, o + 1, none⟩ u1).setCell ⟨g, o + 2, none⟩ u2).setCell ⟨g, o + 3, none⟩ u3).setCell ⟨g, o + 4, none⟩ u4).setCell ⟨g, o + 5, none⟩ u5).setCell ⟨g, o + 6, none⟩ u6
theorem grownA (w : World) (g o : Nat) (u0 u1 u2 u3 u4 u5 u6 : Value) : w.grownBy (putA w g o u0 u1 u2 u3 u4 u5 u6) (some g) := by
  have h := fun (W : World) (i : Nat) (u : Value) => grown_setCell W ⟨g, i, none⟩ u
  exact grown_trans (grown_trans (grown_trans (grown_trans (grown_trans (grown_trans (h _ _ _) (h _ _ _)) (h _ _ _)) (h _ _ _)) (h _ _ _)) (h _ _ _)) (h _ _ _)
section
variable {w : World} {g o : Nat} {t : TypeId} {cs : Array Value} {u0 u1 u2 u3 u4 u5 u6 : Value}
theorem Blk.putA (h : Blk w g t cs) : Blk (putA w g o u0 u1 u2 u3 u4 u5 u6) g t (((((((cs.setIfInBounds o u0).setIfInBounds (o + 1) u1).setIfInBounds (o + 2) u2).setIfInBounds (o + 3) u3).setIfInBounds (o + 4) u4).setIfInBounds (o + 5) u5).setIfInBounds (o + 6) u6) :=
  (((((((h.set_ o u0).set_ (o + 1) u1).set_ (o + 2) u2).set_ (o + 3) u3).set_ (o + 4) u4).set_ (o + 5) u5).set_ (o + 6) u6)
theorem putA_out (h : Blk w g t cs) (i : Nat) (hi : i < o ∨ o + 7 ≤ i) : (putA w g o u0 u1 u2 u3 u4 u5 u6).cell? ⟨g, i, none⟩ = w.cell? ⟨g, i, none⟩ := by
  rw [h.putA.cell i, h.cell i]
  rw [Array.getElem?_setIfInBounds_ne (by omega), Array.getElem?_setIfInBounds_ne (by omega), Array.getElem?_setIfInBounds_ne (by omega), Array.getElem?_setIfInBounds_ne (by omega), Array.getElem?_setIfInBounds_ne (by omega), Array.getElem?_setIfInBounds_ne (by omega), Array.getElem?_setIfInBounds_ne (by omega)]
theorem set_self {cs : Array Value} {i : Nat} {u : Value} (h : i < cs.size) : (cs.setIfInBounds i u)[i]? = some u := by
  rw [Array.getElem?_setIfInBounds_self, if_pos h]
theorem putA_in (h : Blk w g t cs) (hs : o + 7 ≤ cs.size) :
    (putA w g o u0 u1 u2 u3 u4 u5 u6).cell? ⟨g, o, none⟩ = some u0 ∧ (putA w g o u0 u1 u2 u3 u4 u5 u6).cell? ⟨g, o + 1, none⟩ = some u1 ∧ (putA w g o u0 u1 u2 u3 u4 u5 u6).cell? ⟨g, o + 2, none⟩ = some u2 ∧ (putA w g o u0 u1 u2 u3 u4 u5 u6).cell? ⟨g, o + 3, none⟩ = some u3 ∧ (putA w g o u0 u1 u2 u3 u4 u5 u6).cell? ⟨g, o + 4, none⟩ = some u4 ∧ (putA w g o u0 u1 u2 u3 u4 u5 u6).cell? ⟨g, o + 5, none⟩ = some u5 ∧ (putA w g o u0 u1 u2 u3 u4 u5 u6).cell? ⟨g, o + 6, none⟩ = some u6 := by
  refine ⟨?_, ?_, ?_, ?_, ?_, ?_, ?_⟩
  · rw [h.putA.cell]
    rw [Array.getElem?_setIfInBounds_ne (by omega), Array.getElem?_setIfInBounds_ne (by omega), Array.getElem?_setIfInBounds_ne (by omega), Array.getElem?_setIfInBounds_ne (by omega), Array.getElem?_setIfInBounds_ne (by omega), Array.getElem?_setIfInBounds_ne (by omega)]
    exact set_self (by omega)
  · rw [h.putA.cell]
    rw [Array.getElem?_setIfInBounds_ne (by omega), Array.getElem?_setIfInBounds_ne (by omega), Array.getElem?_setIfInBounds_ne (by omega), Array.getElem?_setIfInBounds_ne (by omega), Array.getElem?_setIfInBounds_ne (by omega)]
    exact set_self (by simp only [Array.size_setIfInBounds]; omega)
  · rw [h.putA.cell]
    rw [Array.getElem?_setIfInBounds_ne (by omega), Array.getElem?_setIfInBounds_ne (by omega), Array.getElem?_setIfInBounds_ne (by omega), Array.getElem?_setIfInBounds_ne (by omega)]
    exact set_self (by simp only [Array.size_setIfInBounds]; omega)
  · rw [h.putA.cell]
    rw [Array.getElem?_setIfInBounds_ne (by omega), Array.getElem?_setIfInBounds_ne (by omega), Array.getElem?_setIfInBounds_ne (by omega)]
    exact set_self (by simp only [Array.size_setIfInBounds]; omega)
  · rw [h.putA.cell]
    rw [Array.getElem?_setIfInBounds_ne (by omega), Array.getElem?_setIfInBounds_ne (by omega)]
    exact set_self (by simp only [Array.size_setIfInBounds]; omega)
  · rw [h.putA.cell]
    rw [Array.getElem?_setIfInBounds_ne (by omega)]
    exact set_self (by simp only [Array.size_setIfInBounds]; omega)
  · rw [h.putA.cell]
    exact set_self (by simp only [Array.size_setIfInBounds]; omega)
theorem putA_there (h : Blk w g t cs) (hs : o + 7 ≤ cs.size) :
    (∃ x, w.cell? ⟨g, o, none⟩ = some x) ∧ (∃ x, w.cell? ⟨g, o + 1, none⟩ = some x) ∧ (∃ x, w.cell? ⟨g, o + 2, none⟩ = some x) ∧ (∃ x, w.cell? ⟨g, o + 3, none⟩ = some x) ∧ (∃ x, w.cell? ⟨g, o + 4, none⟩ = some x) ∧ (∃ x, w.cell? ⟨g, o + 5, none⟩ = some x) ∧ (∃ x, w.cell? ⟨g, o + 6, none⟩ = some x) := by
  have key : ∀ j, j < 7 → ∃ x, w.cell? ⟨g, o + j, none⟩ = some x := fun j hj => ⟨_, by rw [h.cell, Array.getElem?_eq_getElem (show o + j < cs.size by omega)]⟩
  exact ⟨key 0 (by decide), key 1 (by decide), key 2 (by decide), key 3 (by decide), key 4 (by decide), key 5 (by decide), key 6 (by decide)⟩
end
theorem TabR.put {w : World} {g : Nat} {t : List Nd} {P : Nat → Prop} {k : Nat} {n : Nd} {vd ve : Value} (h : TabR w g t P) (hk : k < t.length) (hn : n = Nd.zero ∨ rightP n) (hd : BytesT w vd n.data) (he : EntsT w ve n.ents) (hpd : LP P vd) (hpe : LP P ve) :
    TabR (putA w g (1 + k * 7) (.int .i64 n.kind) (.int .i64 n.mode) (.int .i64 n.uid) (.int .i64 n.gid) vd ve (.string (bA n.target))) g (t.set k n) P := by
  obtain ⟨cs, hb, hs⟩ := h.blk
  have hhi := h.hi
  have hg := grownA w g (1 + k * 7) (.int .i64 n.kind) (.int .i64 n.mode) (.int .i64 n.uid) (.int .i64 n.gid) vd ve (.string (bA n.target))
  have hoD : ∀ {v : Value} {l : List UInt8}, BytesT w v l → BytesT (putA w g (1 + k * 7) (.int .i64 n.kind) (.int .i64 n.mode) (.int .i64 n.uid) (.int .i64 n.gid) vd ve (.string (bA n.target))) v l :=
    fun hx => hx.other hg (fun ad n c hv => by obtain ⟨ds, h2⟩ := hx.2 ad n c hv; exact blk_ne h2 hb (by decide))
  have hoE : ∀ {v : Value} {l : List En}, EntsT w v l → EntsT (putA w g (1 + k * 7) (.int .i64 n.kind) (.int .i64 n.mode) (.int .i64 n.uid) (.int .i64 n.gid) vd ve (.string (bA n.target))) v l :=
    fun hx => hx.other hg (fun ad n c hv => by obtain ⟨ds, h2⟩ := hx.2 ad n c hv; exact blk_ne h2 hb (by decide))
  refine ⟨⟨_, hb.putA, by simp only [Array.size_setIfInBounds]; exact hs⟩, ?_, by rw [List.length_set]; exact h.lo, by rw [List.length_set]; exact h.hi, ok_set h.ok k hn, fun j m hj => ?_⟩
  · rw [putA_out hb 0 (by omega), List.length_set]; exact h.room
  · by_cases q : k = j
    · subst q
      rw [List.getElem?_set_self hk] at hj
      injection hj with hj
      subst hj
      obtain ⟨a0, a1, a2, a3, a4, a5, a6⟩ := putA_in (u0 := .int .i64 n.kind) (u1 := .int .i64 n.mode) (u2 := .int .i64 n.uid) (u3 := .int .i64 n.gid) (u4 := vd) (u5 := ve) (u6 := .string (bA n.target)) (o := 1 + k * 7) hb (by omega)
      exact ⟨vd, ve, ⟨a0, a1, a2, a3, a4, a5, a6⟩, hoD hd, hoE he, hpd, hpe⟩
    · rw [List.getElem?_set_ne q] at hj
      obtain ⟨vd', ve', ha, hd', he', hp1, hp2⟩ := h.node j m hj
      exact ⟨vd', ve', ha.other (fun i hi => putA_out hb _ (by omega)), hoD hd', hoE he', hp1, hp2⟩
end Go.Proofs.YtnkjaocmfhjnoaaGreat
namespace Go.Proofs.YtnkjaocmfhjnoaaGreat
open Go Go.RowKit
set_option maxRecDepth 100000

attribute [local go_sem] cell_off4 cell_blk4
theorem setT_at (t : List Nd) (k : Nat) (n : Nd) : setT t ((k : Int) + 1) n = t.set k n := by
  unfold setT
  rw [show ((k : Int) + 1 - 1).toNat = k by omega]
set_option maxRecDepth 100000 in
set_option maxHeartbeats 4000000 in
theorem put_none (v : Value) (t : List Nd) (i : Int) (n : Nd) (vd ve : Value) (w : World) (h : TabP w v t) (hi : tis t i = false) (hd : BytesR w vd n.data) (he : EntsR w ve n.ents) :
    Calls Tryz.prog 22 #[v, .int .i64 i, nodeV n vd ve] w fun e w' => e = .returned (.int .i64 2) ∧ Below w.heap.size w w' := by
  have HH := Lib.hid (fun W (hb : Below w.heap.size w W) => thas_any v t i W (h.below hb))
  rw [hi] at HH
  have HB1 := Lib.hid (ba w (.cells (ndC n vd ve) 65))
  obtain ⟨A1, c1, rfl⟩ := bytes_form hd rfl
  obtain ⟨A2, c2, rfl⟩ := ents_form he rfl
  clear h hi hd he
  unfold nodeV
  go_enter Tryz.func22, Tryz.ntmps22
  go_wp2_with fail
  refine (HH.out _ HB1.out).mono ?_
  rintro e w2 ⟨rfl, hb2⟩
  have HB2 := Lib.hid (bt hb2 HB1.out)
  clear hb2
  go_wp2
  go_ret
  exact ⟨rfl, HB2.out⟩
set_option maxRecDepth 100000 in
set_option maxHeartbeats 4000000 in
theorem put_wrong (v : Value) (t : List Nd) (i : Int) (n : Nd) (vd ve : Value) (w : World) (h : TabP w v t) (hi : tis t i = true) (hd : BytesR w vd n.data) (he : EntsR w ve n.ents) (hf : Few n) (hn : toB (rightP n) = false) :
    Calls Tryz.prog 22 #[v, .int .i64 i, nodeV n vd ve] w fun e w' => e = .returned (.int .i64 22) ∧ Below w.heap.size w w' := by
  have HH := Lib.hid (fun W (hb : Below w.heap.size w W) => thas_any v t i W (h.below hb))
  rw [hi] at HH
  have HR := Lib.hid (fun W (hb : Below w.heap.size w W) => right_any n vd ve W (hd.below hb) (he.below hb) hf)
  rw [hn] at HR
  have HB1 := Lib.hid (ba w (.cells (ndC n vd ve) 65))
  have HK1 := Lib.hid (Blk.new w 65 (ndC n vd ve))
  obtain ⟨A1, c1, rfl⟩ := bytes_form hd rfl
  obtain ⟨A2, c2, rfl⟩ := ents_form he rfl
  clear h hi hd he hf hn
  unfold nodeV
  go_enter Tryz.func22, Tryz.ntmps22
  go_wp2_with fail
  refine (HH.out _ HB1.out).mono ?_
  rintro e w2 ⟨rfl, hb2⟩
  have HB2 := Lib.hid (bt hb2 HB1.out)
  obtain ⟨p0, p1, p2, p3, p4, p5, p6⟩ := (HK1.out.below hb2).c7
  clear hb2
  go_wp2_with fail
  refine (HR.out _ HB2.out).mono ?_
  rintro e w3 ⟨rfl, hb3⟩
  have HB3 := Lib.hid (bt hb3 HB2.out)
  clear hb3 p0 p1 p2 p3 p4 p5 p6
  go_wp2
  go_ret
  exact ⟨rfl, HB3.out⟩
theorem grown_below {w w' : World} (h : Below w.heap.size w w') (r : Option Nat) : w.grownBy w' r := ⟨h.os, h.tape, h.output, h.size, fun i hi _ => h.block i hi⟩
theorem put_end {w w5 : World} {g k : Nat} {t : List Nd} {P : Nat → Prop} {n : Nd} {vd ve : Value} {i : Int} (h : TabR w5 g t P) (hk : k < t.length) (hi : i = (k : Int) + 1) (hn : rightP n) (hd : BytesT w5 vd n.data) (he : EntsT w5 ve n.ents) (hpd : LP P vd) (hpe : LP P ve) (hg : w.grownBy w5 (some g)) :
    TabR (putA w5 g (1 + k * 7) (.int .i64 n.kind) (.int .i64 n.mode) (.int .i64 n.uid) (.int .i64 n.gid) vd ve (.string (bA n.target))) g (setT t i n) P ∧ w.grownBy (putA w5 g (1 + k * 7) (.int .i64 n.kind) (.int .i64 n.mode) (.int .i64 n.uid) (.int .i64 n.gid) vd ve (.string (bA n.target))) (some g) := by
  subst hi
  rw [setT_at]
  exact ⟨h.put hk (.inr hn) hd he hpd hpe, grown_trans hg (grownA _ _ _ _ _ _ _ _ _ _)⟩
set_option maxRecDepth 100000 in
set_option maxHeartbeats 8000000 in
theorem put_yes (g : Nat) (t : List Nd) (P : Nat → Prop) (k : Nat) (n : Nd) (vd ve : Value) (w : World) (h : TabR w g t P) (hk : k < t.length) (hi : tis t ((k : Int) + 1) = true) (hd : BytesR w vd n.data) (he : EntsR w ve n.ents) (hf : Few n) (hn : rightP n) (hP : ∀ b, w.heap.size ≤ b → P b) :
    Calls Tryz.prog 22 #[.pointer (some ⟨g, 0, none⟩), .int .i64 ((k : Int) + 1), nodeV n vd ve] w fun e w' => e = .returned (.int .i64 0) ∧ TabR w' g (setT t ((k : Int) + 1) n) P ∧ w.grownBy w' (some g) := by
  have HH := Lib.hid (fun W (hb : Below w.heap.size w W) => thas_any (.pointer (some ⟨g, 0, none⟩)) t ((k : Int) + 1) W ((h.below hb).ptr))
  rw [hi] at HH
  have HR := Lib.hid (fun W (hb : Below w.heap.size w W) => right_any n vd ve W (hd.below hb) (he.below hb) hf)
  rw [toB_true hn] at HR
  have HB1 := Lib.hid (ba w (.cells (ndC n vd ve) 65))
  have HK1 := Lib.hid (Blk.new w 65 (ndC n vd ve))
  have hhi := h.hi
  have HT := Lib.hid h
  obtain ⟨A1, c1, rfl⟩ := bytes_form hd rfl
  obtain ⟨A2, c2, rfl⟩ := ents_form he rfl
  have HD := Lib.hid hd
  have HE := Lib.hid he
  have HF := Lib.hid hf
  have HN := Lib.hid hn
  have HPP := Lib.hid hP
  clear h hi hd he hf hn hP
  unfold nodeV
  go_enter Tryz.func22, Tryz.ntmps22
  go_wp2_with fail
  refine (HH.out _ HB1.out).mono ?_
  rintro e w2 ⟨rfl, hb2⟩
  have HB2 := Lib.hid (bt hb2 HB1.out)
  have hk2 := HK1.out.below hb2
  have HK2 := Lib.hid hk2
  obtain ⟨p0, p1, p2, p3, p4, p5, p6⟩ := hk2.c7
  clear hb2 hk2
  go_wp2_with fail
  refine (HR.out _ HB2.out).mono ?_
  rintro e w3 ⟨rfl, hb3⟩
  have HB3 := Lib.hid (bt hb3 HB2.out)
  have hk3 := HK2.out.below hb3
  clear hb3 p0 p1 p2 p3 p4 p5 p6
  obtain ⟨p0, p1, p2, p3, p4, p5, p6⟩ := hk3.c7
  clear hk3
  have HC := Lib.hid (fun W (hb : Below w.heap.size w W) => copied_any n _ _ W (HD.out.below hb) (HE.out.below hb) HF.out)
  have HBD := Lib.hid (show Below w.heap.size w w3.drew from bdN HB3.out 1)
  go_wp2_with fail
  have j1 : IntKind.i64.wrap ((k : Int) + 1 - 1) = (k : Int) := by rw [IntKind.wrap_i64]; omega
  have j2 : IntKind.i64.wrap (k : Int) = (k : Int) := by rw [IntKind.wrap_i64]; omega
  have j3 : (k : Int) < 24 := by omega
  have j4 : k < 24 := by omega
  go_region_with (go_at_call 26; refine (HC.out _ HBD.out).mono ?_; rintro e w5 ⟨vd5, ve5, rfl, hd5, he5, hl5, hm5, hb5⟩; have ht5 := (HT.out.below HBD.out).below hb5; obtain ⟨cs5, hk5, hs5⟩ := ht5.blk; obtain ⟨⟨x0, q0⟩, ⟨x1, q1⟩, ⟨x2, q2⟩, ⟨x3, q3⟩, ⟨x4, q4⟩, ⟨x5, q5⟩, ⟨x6, q6⟩⟩ := putA_there (o := 1 + k * 7) hk5 (by omega); obtain ⟨A5, k5, hv5⟩ := bytesT_form hd5; obtain ⟨A6, k6, hv6⟩ := entsT_form he5; subst hv5 hv6; unfold nodeV; have f5 := fun i => ht5.frozen i; have HT5 := Lib.hid ht5; have HD5 := Lib.hid hd5; have HE5 := Lib.hid he5; have HL5 := Lib.hid hl5; have HM5 := Lib.hid hm5; have HB5 := Lib.hid (bt hb5 HBD.out); clear hb5 ht5 hd5 he5 hl5 hm5 hk5 hs5)
  have hS := put_end HT5.out hk rfl HN.out HD5.out HE5.out (HL5.out.mono (fun b hb => HPP.out b (Nat.le_trans HBD.out.size hb))) (HM5.out.mono (fun b hb => HPP.out b (Nat.le_trans HBD.out.size hb))) (grown_below HB5.out (some g))
  unfold putA at hS
  have HS := Lib.hid hS
  clear hS q0 q1 q2 q3 q4 q5 q6 f5
  go_wp2
  go_ret
  exact ⟨rfl, HS.out.1, HS.out.2⟩
theorem put_any (g : Nat) (t : List Nd) (P : Nat → Prop) (i : Int) (n : Nd) (vd ve : Value) (w : World) (h : TabR w g t P) (hd : BytesR w vd n.data) (he : EntsR w ve n.ents) (hf : Few n) (hP : ∀ b, w.heap.size ≤ b → P b) :
    Calls Tryz.prog 22 #[.pointer (some ⟨g, 0, none⟩), .int .i64 i, nodeV n vd ve] w fun e w' => e = .returned (.int .i64 (putE t i (toB (rightP n)))) ∧ TabR w' g (actT t 0 i n (toB (rightP n))) P ∧ w.grownBy w' (some g) := by
  cases hi : tis t i with
  | false =>
    refine (put_none _ t i n vd ve w h.ptr hi hd he).mono ?_
    rintro e w' ⟨rfl, hb⟩
    refine ⟨by rw [putE, if_pos hi], ?_, grown_below hb _⟩
    rw [actT, if_pos rfl, if_neg (by rw [hi]; rintro ⟨q, -⟩; cases q)]
    exact h.below hb
  | true =>
    by_cases hn : rightP n
    · have hin := tis_in hi
      obtain ⟨k, hk⟩ : ∃ k : Nat, i = (k : Int) + 1 := ⟨(i - 1).toNat, by omega⟩
      subst hk
      refine (put_yes g t P k n vd ve w h (by omega) hi hd he hf hn hP).mono ?_
      rintro e w' ⟨rfl, ht, hg⟩
      refine ⟨by rw [putE, if_neg (by rw [hi]; exact Bool.noConfusion), toB_true hn]; rfl, ?_, hg⟩
      rw [actT, if_pos rfl, if_pos ⟨hi, toB_true hn⟩]
      exact ht
    · refine (put_wrong _ t i n vd ve w h.ptr hi hd he hf (toB_false hn)).mono ?_
      rintro e w' ⟨rfl, hb⟩
      refine ⟨by rw [putE, if_neg (by rw [hi]; exact Bool.noConfusion), toB_false hn]; rfl, ?_, grown_below hb _⟩
      rw [actT, if_pos rfl, if_neg (by rw [toB_false hn]; rintro ⟨-, q⟩; cases q)]
      exact h.below hb
end Go.Proofs.YtnkjaocmfhjnoaaGreat
namespace Go.Proofs.YtnkjaocmfhjnoaaGreat
open Go Go.RowKit
set_option maxRecDepth 100000

attribute [local go_sem] cell_off4 cell_blk4
set_option maxRecDepth 100000 in
set_option maxHeartbeats 4000000 in
theorem drop_none (v : Value) (t : List Nd) (i : Int) (w : World) (h : TabP w v t) (hi : tis t i = false) :
    Calls Tryz.prog 27 #[v, .int .i64 i] w fun e w' => e = .returned (.bool false) ∧ Below w.heap.size w w' := by
  have HH := Lib.hid (fun W (hb : Below w.heap.size w W) => thas_any v t i W (h.below hb))
  rw [hi] at HH
  clear h hi
  go_enter Tryz.func27, Tryz.ntmps27
  go_wp2_with fail
  refine (HH.out _ (Below.refl _ _)).mono ?_
  rintro e w2 ⟨rfl, hb2⟩
  have HB2 := Lib.hid hb2
  clear hb2
  go_wp2
  go_ret
  exact ⟨rfl, HB2.out⟩
theorem drop_end {w w5 : World} {g k : Nat} {t : List Nd} {P : Nat → Prop} (h : TabR w5 g t P) (hk : k < t.length) (hg : w.grownBy w5 (some g)) :
    TabR (putA w5 g (1 + k * 7) (.int .i64 0) (.int .i64 0) (.int .i64 0) (.int .i64 0) (.slice none 0 0) (.slice none 0 0) (.string ⟨#[]⟩)) g (setT t ((k : Int) + 1) Nd.zero) P ∧ w.grownBy (putA w5 g (1 + k * 7) (.int .i64 0) (.int .i64 0) (.int .i64 0) (.int .i64 0) (.slice none 0 0) (.slice none 0 0) (.string ⟨#[]⟩)) (some g) := by
  rw [setT_at]
  have h1 := h.put (n := Nd.zero) (vd := .slice none 0 0) (ve := .slice none 0 0) hk (.inl rfl) (BytesT.nil _) (EntsT.nil _) (LP.nil _) (LP.nil _)
  rw [show Nd.zero.kind = 0 from rfl, show Nd.zero.mode = 0 from rfl, show Nd.zero.uid = 0 from rfl, show Nd.zero.gid = 0 from rfl, show bA Nd.zero.target = (⟨#[]⟩ : ByteArray) from rfl] at h1
  have h2 := grownA w5 g (1 + k * 7) (.int .i64 0) (.int .i64 0) (.int .i64 0) (.int .i64 0) (.slice none 0 0) (.slice none 0 0) (.string ⟨#[]⟩)
  exact ⟨h1, grown_trans hg h2⟩
set_option maxRecDepth 100000 in
set_option maxHeartbeats 8000000 in
theorem drop_yes (g : Nat) (t : List Nd) (P : Nat → Prop) (k : Nat) (w : World) (h : TabR w g t P) (hk : k < t.length) (hi : tis t ((k : Int) + 1) = true) :
    Calls Tryz.prog 27 #[.pointer (some ⟨g, 0, none⟩), .int .i64 ((k : Int) + 1)] w fun e w' => e = .returned (.bool true) ∧ TabR w' g (setT t ((k : Int) + 1) Nd.zero) P ∧ w.grownBy w' (some g) := by
  have HH := Lib.hid (fun W (hb : Below w.heap.size w W) => thas_any (.pointer (some ⟨g, 0, none⟩)) t ((k : Int) + 1) W ((h.below hb).ptr))
  rw [hi] at HH
  have hhi := h.hi
  have HT := Lib.hid h
  clear h hi
  go_enter Tryz.func27, Tryz.ntmps27
  go_wp2_with fail
  refine (HH.out _ (Below.refl _ _)).mono ?_
  rintro e w2 ⟨rfl, hb2⟩
  have ht2 := HT.out.below hb2
  obtain ⟨cs5, hk5, hs5⟩ := ht2.blk
  obtain ⟨⟨x0, q0⟩, ⟨x1, q1⟩, ⟨x2, q2⟩, ⟨x3, q3⟩, ⟨x4, q4⟩, ⟨x5, q5⟩, ⟨x6, q6⟩⟩ := putA_there (o := 1 + k * 7) hk5 (by omega)
  have f5 := fun i => ht2.frozen i
  have hS := drop_end (w := w) ht2 hk (grown_below hb2 (some g))
  unfold putA at hS
  have HS := Lib.hid hS
  have j3 : (k : Int) < 24 := by omega
  have j4 : k < 24 := by omega
  clear ht2 hb2 hk5 hs5 hS
  go_wp2
  go_ret
  exact ⟨rfl, HS.out.1, HS.out.2⟩
theorem drop_any (g : Nat) (t : List Nd) (P : Nat → Prop) (i : Int) (w : World) (h : TabR w g t P) (d : Int) (h0 : d ≠ 0) (h1 : d ≠ 1) (n : Nd) (r : Bool) :
    Calls Tryz.prog 27 #[.pointer (some ⟨g, 0, none⟩), .int .i64 i] w fun e w' => e = .returned (.bool (tis t i)) ∧ TabR w' g (actT t d i n r) P ∧ w.grownBy w' (some g) := by
  cases hi : tis t i with
  | false =>
    refine (drop_none _ t i w h.ptr hi).mono ?_
    rintro e w' ⟨rfl, hb⟩
    refine ⟨rfl, ?_, grown_below hb _⟩
    rw [actT, if_neg h0, if_neg h1, if_neg (by rw [hi]; exact Bool.noConfusion)]
    exact h.below hb
  | true =>
    have hin := tis_in hi
    obtain ⟨k, hk⟩ : ∃ k : Nat, i = (k : Int) + 1 := ⟨(i - 1).toNat, by omega⟩
    subst hk
    refine (drop_yes g t P k w h (by omega) hi).mono ?_
    rintro e w' ⟨rfl, ht, hg⟩
    refine ⟨rfl, ?_, hg⟩
    rw [actT, if_neg h0, if_neg h1, if_pos hi]
    exact ht
end Go.Proofs.YtnkjaocmfhjnoaaGreat
namespace Go.Proofs.YtnkjaocmfhjnoaaGreat
open Go Go.RowKit
set_option maxRecDepth 100000

attribute [local go_sem] cell_off4 cell_blk4
set_option maxRecDepth 100000 in
set_option maxHeartbeats 4000000 in
theorem add_wrong (v : Value) (n : Nd) (vd ve : Value) (w : World) (hd : BytesR w vd n.data) (he : EntsR w ve n.ents) (hf : Few n) (hn : toB (rightP n) = false) :
    Calls Tryz.prog 24 #[v, nodeV n vd ve] w fun e w' => e = .returned (.tuple #[.int .i64 0, .int .i64 22]) ∧ Below w.heap.size w w' := by
  have HR := Lib.hid (fun W (hb : Below w.heap.size w W) => right_any n vd ve W (hd.below hb) (he.below hb) hf)
  rw [hn] at HR
  have HB1 := Lib.hid (ba w (.cells (ndC n vd ve) 65))
  obtain ⟨A1, c1, rfl⟩ := bytes_form hd rfl
  obtain ⟨A2, c2, rfl⟩ := ents_form he rfl
  clear hd he hf hn
  unfold nodeV
  go_enter Tryz.func24, Tryz.ntmps24
  go_wp2_with fail
  refine (HR.out _ HB1.out).mono ?_
  rintro e w3 ⟨rfl, hb3⟩
  have HB3 := Lib.hid (bt hb3 HB1.out)
  clear hb3
  go_wp2
  go_ret2
  exact ⟨rfl, HB3.out⟩
theorem free_ge : ∀ (t : List Nd) (d k : Nat), (∀ j, j < k → j < t.length → tis t ((j : Int) + 1) = true) → k ≤ t.length → (k = t.length → freeT t d = 0) ∧ (∀ h : k < t.length, (t[k]).kind = 0 → freeT t d = d + k + 1)
  | [], d, k, _, hk => ⟨fun _ => rfl, fun h => absurd h (Nat.not_lt_zero _)⟩
  | n :: t, d, 0, _, hk => ⟨fun h => (by cases h), fun h h2 => (by
    have h3 : n.kind = 0 := h2
    rw [freeT, if_pos h3])⟩
  | n :: t, d, k + 1, hj, hk => by
    have h0 : ¬ n.kind = 0 := by
      have := hj 0 (by omega) (by simp)
      rw [tis] at this
      have := of_decide_eq_true this
      rw [tget_at (by simp : 0 < (n :: t).length)] at this
      exact this
    have ih := free_ge t (d + 1) k (fun j h1 h2 => by
      have h3 := hj (j + 1) (by omega) (by rw [List.length_cons]; omega)
      rw [tis, tget_at (by rw [List.length_cons]; omega)] at h3
      rw [tis, tget_at h2]
      exact h3) (by rw [List.length_cons] at hk; omega)
    rw [freeT, if_neg h0]
    refine ⟨fun h => ih.1 (by rw [List.length_cons] at h; omega), fun h h2 => ?_⟩
    rw [ih.2 (by rw [List.length_cons] at h; omega) h2]
    omega
def AddPost (w : World) (g : Nat) (t : List Nd) (P : Nat → Prop) (n : Nd) (F : Nat) (e : Ending) (w' : World) : Prop :=
  e = .returned (.tuple #[.int .i64 (F : Int), .int .i64 (if F = 0 then 28 else 0)]) ∧ TabR w' g (if F = 0 then t else setT t (F : Int) n) P ∧ w.grownBy w' (some g)
theorem AddPost.yes {w w' : World} {g : Nat} {t : List Nd} {P : Nat → Prop} {n : Nd} {F k : Nat} (hF : F = k + 1) (h : TabR w' g (setT t ((k : Int) + 1) n) P ∧ w.grownBy w' (some g)) : AddPost w g t P n F (.returned (.tuple #[.int .i64 ((k : Int) + 1), .int .i64 0])) w' := by
  subst hF
  refine ⟨by rw [if_neg (Nat.succ_ne_zero k)]; rfl, ?_, h.2⟩
  rw [if_neg (Nat.succ_ne_zero k)]
  exact h.1
theorem AddPost.no {w w' : World} {g : Nat} {t : List Nd} {P : Nat → Prop} {n : Nd} {F : Nat} (hF : F = 0) (h : TabR w' g t P) (hg : w.grownBy w' (some g)) : AddPost w g t P n F (.returned (.tuple #[.int .i64 0, .int .i64 28])) w' := by
  subst hF
  exact ⟨rfl, h, hg⟩
set_option maxRecDepth 100000 in
set_option maxHeartbeats 8000000 in
theorem add_right (g : Nat) (t : List Nd) (P : Nat → Prop) (n : Nd) (vd ve : Value) (w : World) (h : TabR w g t P) (hd : BytesR w vd n.data) (he : EntsR w ve n.ents) (hf : Few n) (hn : rightP n) (hP : ∀ b, w.heap.size ≤ b → P b) :
    Calls Tryz.prog 24 #[.pointer (some ⟨g, 0, none⟩), nodeV n vd ve] w (AddPost w g t P n (freeT t 0)) := by
  have HR := Lib.hid (fun W (hb : Below w.heap.size w W) => right_any n vd ve W (hd.below hb) (he.below hb) hf)
  rw [toB_true hn] at HR
  have HRM := Lib.hid (fun W (hb : Below w.heap.size w W) => room_any (.pointer (some ⟨g, 0, none⟩)) t W ((h.below hb).ptr))
  have HH := Lib.hid (fun W i (hb : Below w.heap.size w W) => thas_any (.pointer (some ⟨g, 0, none⟩)) t i W ((h.below hb).ptr))
  have HB1 := Lib.hid (ba w (.cells (ndC n vd ve) 65))
  have HK1 := Lib.hid (Blk.new w 65 (ndC n vd ve))
  have hhi := h.hi
  have HT := Lib.hid h
  obtain ⟨A1, c1, rfl⟩ := bytes_form hd rfl
  obtain ⟨A2, c2, rfl⟩ := ents_form he rfl
  have HD := Lib.hid hd
  have HE := Lib.hid he
  have HF := Lib.hid hf
  have HN := Lib.hid hn
  have HPP := Lib.hid hP
  have HFR := Lib.hid (fun k => free_ge t 0 k)
  have HC := Lib.hid (fun W (hb : Below w.heap.size w W) => copied_any n _ _ W (HD.out.below hb) (HE.out.below hb) HF.out)
  clear h hd he hf hn hP
  generalize freeT t 0 = F at HFR ⊢
  unfold nodeV
  go_enter Tryz.func24, Tryz.ntmps24
  go_wp2_with fail
  refine (HR.out _ HB1.out).mono ?_
  rintro e w2 ⟨rfl, hb2⟩
  have HB2 := Lib.hid (bt hb2 HB1.out)
  have HK2 := Lib.hid (HK1.out.below hb2)
  clear hb2
  go_wp2_with fail
  refine (HRM.out _ HB2.out).mono ?_
  rintro e w3 ⟨rfl, rfl⟩
  go_wp2
  go_loopg [12] t.length (fun gh s12 wr => ∃ k : Nat, s12 = .int .i64 k ∧ k ≤ t.length ∧ gh = t.length - k ∧ (∀ j, j < k → j < t.length → tis t ((j : Int) + 1) = true) ∧ Below w2.heap.size w2 wr)
  case atStart => exact ⟨0, rfl, Nat.zero_le _, rfl, fun j h => absurd h (Nat.not_lt_zero _), Below.refl _ _⟩
  case round =>
    obtain ⟨k, rfl, hk, rfl, hall, hbr⟩ := hrel
    have HALL := Lib.hid hall
    have HBR := Lib.hid hbr
    have HBW := Lib.hid (bt hbr HB2.out)
    have hkr := HK2.out.below hbr
    have HKR := Lib.hid hkr
    clear hall hbr hkr
    by_cases hlt : k < t.length
    · have hlt' : (k : Int) < (t.length : Int) := by omega
      have j0 : IntKind.i64.wrap ((k : Int) + 1) = (k : Int) + 1 := by rw [IntKind.wrap_i64]; omega
      cases hi : tis t ((k : Int) + 1) with
      | true =>
        have HI := Lib.hid hi
        have HHK := HH.out wr ((k : Int) + 1) HBW.out
        rw [hi] at HHK
        have HHK2 := Lib.hid HHK
        clear hi HHK
        go_wp2_with fail
        refine HHK2.out.mono ?_
        rintro e w4 ⟨rfl, hb4⟩
        have HB4 := Lib.hid (bt hb4 HBR.out)
        clear hb4
        go_wp2
        go_roundg (t.length - (k + 1))
        case measure => omega
        case rel => exact ⟨k + 1, by go_num, by omega, rfl, (fun j h1 h2 => by
          by_cases q : j < k
          · exact HALL.out j q h2
          · rw [show j = k by omega]; exact HI.out), HB4.out⟩
      | false =>
        have HX := Lib.hid (show F = k + 1 by
          have h1 := (HFR.out k HALL.out hk).2 hlt (by
            have := of_decide_eq_false hi
            rw [tget_at hlt] at this
            omega)
          omega)
        have HHK := HH.out wr ((k : Int) + 1) HBW.out
        rw [hi] at HHK
        have HHK2 := Lib.hid HHK
        clear hi HHK
        go_wp2_with fail
        refine HHK2.out.mono ?_
        rintro e w4 ⟨rfl, hb4⟩
        have HB4 := Lib.hid (bt hb4 HBW.out)
        have hk4 := HKR.out.below hb4
        obtain ⟨p0, p1, p2, p3, p4, p5, p6⟩ := hk4.c7
        clear hb4 hk4
        have HBD := Lib.hid (show Below w.heap.size w w4.drew from bdN HB4.out 1)
        have j3 : (k : Int) < 24 := by omega
        have j4 : k < 24 := by omega
        clear j0
        go_wp2_with fail
        go_region_with (go_at_call 26; refine (HC.out _ HBD.out).mono ?_; rintro e w5 ⟨vd5, ve5, rfl, hd5, he5, hl5, hm5, hb5⟩; have ht5 := (HT.out.below HBD.out).below hb5; obtain ⟨cs5, hk5, hs5⟩ := ht5.blk; obtain ⟨⟨x0, q0⟩, ⟨x1, q1⟩, ⟨x2, q2⟩, ⟨x3, q3⟩, ⟨x4, q4⟩, ⟨x5, q5⟩, ⟨x6, q6⟩⟩ := putA_there (o := 1 + k * 7) hk5 (by omega); obtain ⟨A5, k5, hv5⟩ := bytesT_form hd5; obtain ⟨A6, k6, hv6⟩ := entsT_form he5; subst hv5 hv6; unfold nodeV; have f5 := fun i => ht5.frozen i; have HT5 := Lib.hid ht5; have HD5 := Lib.hid hd5; have HE5 := Lib.hid he5; have HL5 := Lib.hid hl5; have HM5 := Lib.hid hm5; have HB5 := Lib.hid (bt hb5 HBD.out); clear hb5 ht5 hd5 he5 hl5 hm5 hk5 hs5)
        have hS := put_end HT5.out hlt rfl HN.out HD5.out HE5.out (HL5.out.mono (fun b hb => HPP.out b (Nat.le_trans HBD.out.size hb))) (HM5.out.mono (fun b hb => HPP.out b (Nat.le_trans HBD.out.size hb))) (grown_below HB5.out (some g))
        unfold putA at hS
        have HS := Lib.hid hS
        clear hS q0 q1 q2 q3 q4 q5 q6 f5
        go_wp2
        go_ret2
        exact AddPost.yes HX.out HS.out
    · have hlt' : ¬ (k : Int) < (t.length : Int) := by omega
      have HX := Lib.hid (show F = 0 from (HFR.out k HALL.out hk).1 (by omega))
      go_wp2
      go_ret2
      exact AddPost.no HX.out (HT.out.below HBW.out) (grown_below HBW.out (some g))
def addI (t : List Nd) (r : Bool) : Int := if r = true then (freeT t 0 : Int) else 0
theorem add_any (g : Nat) (t : List Nd) (P : Nat → Prop) (n : Nd) (vd ve : Value) (w : World) (h : TabR w g t P) (hd : BytesR w vd n.data) (he : EntsR w ve n.ents) (hf : Few n) (hP : ∀ b, w.heap.size ≤ b → P b) (i : Int) :
    Calls Tryz.prog 24 #[.pointer (some ⟨g, 0, none⟩), nodeV n vd ve] w fun e w' => e = .returned (.tuple #[.int .i64 (addI t (toB (rightP n))), .int .i64 (addE t (toB (rightP n)))]) ∧ TabR w' g (actT t 1 i n (toB (rightP n))) P ∧ w.grownBy w' (some g) := by
  by_cases hn : rightP n
  · refine (add_right g t P n vd ve w h hd he hf hn hP).mono ?_
    rintro e w' ⟨rfl, ht, hg⟩
    refine ⟨by rw [addI, addE, toB_true hn]; rfl, ?_, hg⟩
    rw [actT, if_neg (by decide), if_pos rfl, toB_true hn]
    by_cases q : freeT t 0 = 0
    · rw [if_pos q] at ht
      rw [if_neg (fun h => h.2 q)]
      exact ht
    · rw [if_neg q] at ht
      rw [if_pos ⟨rfl, q⟩]
      exact ht
  · refine (add_wrong _ n vd ve w hd he hf (toB_false hn)).mono ?_
    rintro e w' ⟨rfl, hb⟩
    refine ⟨by rw [addI, addE, toB_false hn]; rfl, ?_, grown_below hb _⟩
    rw [actT, if_neg (by decide), if_pos rfl, if_neg (by rw [toB_false hn]; rintro ⟨q, -⟩; cases q)]
    exact h.below hb
end Go.Proofs.YtnkjaocmfhjnoaaGreat
namespace Go.Proofs.YtnkjaocmfhjnoaaGreat
open Go Go.RowKit
set_option maxRecDepth 100000

theorem zero_size : Tryz.zeroCells81.size = 169 := by kernel_rfl
set_option maxRecDepth 100000 in
theorem zero_node : ∀ (k : Nat), k < 24 → Tryz.zeroCells81[1 + k * 7]? = some (.int .i64 0) ∧ Tryz.zeroCells81[1 + k * 7 + 1]? = some (.int .i64 0) ∧ Tryz.zeroCells81[1 + k * 7 + 2]? = some (.int .i64 0) ∧ Tryz.zeroCells81[1 + k * 7 + 3]? = some (.int .i64 0) ∧ Tryz.zeroCells81[1 + k * 7 + 4]? = some (.slice none 0 0) ∧ Tryz.zeroCells81[1 + k * 7 + 5]? = some (.slice none 0 0) ∧ Tryz.zeroCells81[1 + k * 7 + 6]? = some (.string ⟨#[]⟩)
  | 0, _ => by refine ⟨?_, ?_, ?_, ?_, ?_, ?_, ?_⟩ <;> kernel_rfl
  | 1, _ => by refine ⟨?_, ?_, ?_, ?_, ?_, ?_, ?_⟩ <;> kernel_rfl
  | 2, _ => by refine ⟨?_, ?_, ?_, ?_, ?_, ?_, ?_⟩ <;> kernel_rfl
  | 3, _ => by refine ⟨?_, ?_, ?_, ?_, ?_, ?_, ?_⟩ <;> kernel_rfl
  | 4, _ => by refine ⟨?_, ?_, ?_, ?_, ?_, ?_, ?_⟩ <;> kernel_rfl
  | 5, _ => by refine ⟨?_, ?_, ?_, ?_, ?_, ?_, ?_⟩ <;> kernel_rfl
  | 6, _ => by refine ⟨?_, ?_, ?_, ?_, ?_, ?_, ?_⟩ <;> kernel_rfl
  | 7, _ => by refine ⟨?_, ?_, ?_, ?_, ?_, ?_, ?_⟩ <;> kernel_rfl
  | 8, _ => by refine ⟨?_, ?_, ?_, ?_, ?_, ?_, ?_⟩ <;> kernel_rfl
  | 9, _ => by refine ⟨?_, ?_, ?_, ?_, ?_, ?_, ?_⟩ <;> kernel_rfl
  | 10, _ => by refine ⟨?_, ?_, ?_, ?_, ?_, ?_, ?_⟩ <;> kernel_rfl
  | 11, _ => by refine ⟨?_, ?_, ?_, ?_, ?_, ?_, ?_⟩ <;> kernel_rfl
  | 12, _ => by refine ⟨?_, ?_, ?_, ?_, ?_, ?_, ?_⟩ <;> kernel_rfl
  | 13, _ => by refine ⟨?_, ?_, ?_, ?_, ?_, ?_, ?_⟩ <;> kernel_rfl
  | 14, _ => by refine ⟨?_, ?_, ?_, ?_, ?_, ?_, ?_⟩ <;> kernel_rfl
  | 15, _ => by refine ⟨?_, ?_, ?_, ?_, ?_, ?_, ?_⟩ <;> kernel_rfl
  | 16, _ => by refine ⟨?_, ?_, ?_, ?_, ?_, ?_, ?_⟩ <;> kernel_rfl
  | 17, _ => by refine ⟨?_, ?_, ?_, ?_, ?_, ?_, ?_⟩ <;> kernel_rfl
  | 18, _ => by refine ⟨?_, ?_, ?_, ?_, ?_, ?_, ?_⟩ <;> kernel_rfl
  | 19, _ => by refine ⟨?_, ?_, ?_, ?_, ?_, ?_, ?_⟩ <;> kernel_rfl
  | 20, _ => by refine ⟨?_, ?_, ?_, ?_, ?_, ?_, ?_⟩ <;> kernel_rfl
  | 21, _ => by refine ⟨?_, ?_, ?_, ?_, ?_, ?_, ?_⟩ <;> kernel_rfl
  | 22, _ => by refine ⟨?_, ?_, ?_, ?_, ?_, ?_, ?_⟩ <;> kernel_rfl
  | 23, _ => by refine ⟨?_, ?_, ?_, ?_, ?_, ?_, ?_⟩ <;> kernel_rfl
  | k + 24, h => absurd h (by omega)
def newL (r : Int) : Nat := if r < 1 then 1 else if 24 < r then 24 else r.toNat
theorem newL_bd (r : Int) : 1 ≤ newL r ∧ newL r ≤ 24 := by
  unfold newL
  repeat' split
  all_goals omega
theorem tab_new (w : World) (l : Nat) (h1 : 1 ≤ l) (h2 : l ≤ 24) (P : Nat → Prop) : TabR (w.alloc (.cells (Tryz.zeroCells81.setIfInBounds 0 (.int .i64 (l : Int))) 81)) w.heap.size (List.replicate l Nd.zero) P := by
  have hb := Blk.new w 81 (Tryz.zeroCells81.setIfInBounds 0 (.int .i64 (l : Int)))
  have hz := zero_size
  refine ⟨⟨_, hb, by rw [Array.size_setIfInBounds]; exact hz⟩, ?_, by rw [List.length_replicate]; exact h1, by rw [List.length_replicate]; exact h2, ok_new l, fun k n hk => ?_⟩
  · rw [hb.cell 0, List.length_replicate]
    exact set_self (by omega)
  · obtain ⟨hlt, he⟩ := List.getElem?_eq_some_iff.1 hk
    rw [List.length_replicate] at hlt
    rw [List.getElem_replicate] at he
    subst he
    obtain ⟨a0, a1, a2, a3, a4, a5, a6⟩ := zero_node k (by omega)
    have key : ∀ (i : Nat) (u : Value), 0 < i → Tryz.zeroCells81[i]? = some u → (w.alloc (.cells (Tryz.zeroCells81.setIfInBounds 0 (.int .i64 (l : Int))) 81)).cell? ⟨w.heap.size, i, none⟩ = some u := by
      intro i u hi hu
      rw [hb.cell i, Array.getElem?_setIfInBounds_ne (by omega)]
      exact hu
    exact ⟨.slice none 0 0, .slice none 0 0, ⟨key _ _ (by omega) a0, key _ _ (by omega) a1, key _ _ (by omega) a2, key _ _ (by omega) a3, key _ _ (by omega) a4, key _ _ (by omega) a5, key _ _ (by omega) a6⟩, BytesT.nil _, EntsT.nil _, LP.nil _, LP.nil _⟩
def NewPost (w : World) (r : Int) (e : Ending) (w' : World) : Prop :=
  e = .returned (.pointer (some ⟨w.heap.size, 0, none⟩)) ∧ (∀ P, TabR w' w.heap.size (List.replicate (newL r) Nd.zero) P) ∧ Below w.heap.size w w' ∧ w'.heap.size = w.heap.size + 1
theorem NewPost.mk' (w : World) (r x : Int) (hx : x = (newL r : Int)) : NewPost w r (.returned (.pointer (some ⟨w.heap.size, 0, none⟩))) (w.alloc (.cells (Tryz.zeroCells81.setIfInBounds 0 (.int .i64 x)) 81)) := by
  subst hx
  have := newL_bd r
  exact ⟨rfl, fun P => tab_new w _ this.1 this.2 P, ba _ _, by simp⟩
set_option maxRecDepth 100000 in
set_option maxHeartbeats 4000000 in
theorem new_any (r : Int) (w : World) : Calls Tryz.prog 44 #[.int .i64 r] w (NewPost w r) := by
  by_cases h1 : r < 1
  · have HX := Lib.hid (show (1 : Int) = (newL r : Int) by unfold newL; rw [if_pos h1]; rfl)
    go_enter Tryz.func44, Tryz.ntmps44
    go_wp2
    go_ret
    exact NewPost.mk' w r _ HX.out
  · by_cases h2 : 24 < r
    · have HX := Lib.hid (show (24 : Int) = (newL r : Int) by unfold newL; rw [if_neg h1, if_pos h2]; rfl)
      go_enter Tryz.func44, Tryz.ntmps44
      go_wp2
      go_ret
      exact NewPost.mk' w r _ HX.out
    · have HX := Lib.hid (show r = (newL r : Int) by unfold newL; rw [if_neg h1, if_neg h2]; omega)
      have h3 : 1 ≤ r := by omega
      have h4 : r ≤ 24 := by omega
      go_enter Tryz.func44, Tryz.ntmps44
      go_wp2
      go_ret
      exact NewPost.mk' w r _ HX.out
end Go.Proofs.YtnkjaocmfhjnoaaGreat
namespace Go.Proofs.YtnkjaocmfhjnoaaGreat
open Go Go.RowKit
set_option maxRecDepth 100000

structure Ac where
  d : UInt8
  i : Int
  n : Nd
structure At9 (w : World) (b o : Nat) (n : Nd) (vd ve : Value) : Prop where
  c0 : w.cell? ⟨b, o + 2, none⟩ = some (.int .i64 n.kind)
  c1 : w.cell? ⟨b, o + 3, none⟩ = some (.int .i64 n.mode)
  c2 : w.cell? ⟨b, o + 4, none⟩ = some (.int .i64 n.uid)
  c3 : w.cell? ⟨b, o + 5, none⟩ = some (.int .i64 n.gid)
  c4 : w.cell? ⟨b, o + 6, none⟩ = some vd
  c5 : w.cell? ⟨b, o + 7, none⟩ = some ve
  c6 : w.cell? ⟨b, o + 8, none⟩ = some (.string (bA n.target))
def ActsR (w : World) (v : Value) (l : List Ac) : Prop := ∃ A c, v = .slice A l.length c ∧ ∀ (k : Nat) (a : Ac), l[k]? = some a → ∃ (ad : Addr) (vd ve : Value), A = some ad ∧
  w.cell? (ad.add (k * 9)) = some (.int .u8 (co a.d)) ∧ w.cell? ⟨(ad.add (k * 9)).block, (ad.add (k * 9)).off + 1, none⟩ = some (.int .i64 a.i) ∧ At9 w (ad.add (k * 9)).block (ad.add (k * 9)).off a.n vd ve ∧ BytesR w vd a.n.data ∧ EntsR w ve a.n.ents ∧ a.n.ents.length ≤ maxLen
theorem ActsR.below {w w' : World} {v : Value} {l : List Ac} (h : ActsR w v l) (hb : Below w.heap.size w w') : ActsR w' v l := by
  obtain ⟨A, c, hv, hc⟩ := h
  refine ⟨A, c, hv, fun k a hk => ?_⟩
  obtain ⟨ad, vd, ve, hA, h0, h1, h2, h3, h4, h5⟩ := hc k a hk
  exact ⟨ad, vd, ve, hA, bc hb h0, bc hb h1, ⟨bc hb h2.c0, bc hb h2.c1, bc hb h2.c2, bc hb h2.c3, bc hb h2.c4, bc hb h2.c5, bc hb h2.c6⟩, h3.below hb, h4.below hb, h5⟩
theorem acts_form {w : World} {v : Value} {l : List Ac} (h : ActsR w v l) : ∃ A c, v = .slice A l.length c := by
  obtain ⟨A, c, rfl, -⟩ := h
  exact ⟨A, c, rfl⟩
theorem acts_get {w : World} {A : Option Addr} {n c : Nat} {l : List Ac} (h : ActsR w (.slice A n c) l) {k : Nat} {a : Ac} (hk : l[k]? = some a) : ∃ (ad : Addr) (vd ve : Value), A = some ad ∧
    w.cell? (ad.add (k * 9)) = some (.int .u8 (co a.d)) ∧ w.cell? ⟨(ad.add (k * 9)).block, (ad.add (k * 9)).off + 1, none⟩ = some (.int .i64 a.i) ∧ At9 w (ad.add (k * 9)).block (ad.add (k * 9)).off a.n vd ve ∧ BytesR w vd a.n.data ∧ EntsR w ve a.n.ents ∧ a.n.ents.length ≤ maxLen := by
  obtain ⟨A', c', hv, hc⟩ := h
  injection hv with hA
  subst hA
  exact hc k a hk
end Go.Proofs.YtnkjaocmfhjnoaaGreat
namespace Go.Proofs.YtnkjaocmfhjnoaaGreat
open Go Go.RowKit
set_option maxRecDepth 100000

noncomputable def acT (t : List Nd) (a : Ac) : List Nd := actT t (co a.d) a.i a.n (toB (rightP a.n))
noncomputable def playT (t : List Nd) (l : List Ac) : List Nd := l.foldl acT t
theorem playT_snoc {t : List Nd} {l : List Ac} {k : Nat} {a : Ac} (h : l[k]? = some a) : playT t (l.take (k + 1)) = acT (playT t (l.take k)) a := by
  unfold playT
  rw [take_snoc' h, List.foldl_append]
  rfl
theorem grown_bl {w0 w w' : World} {g : Nat} (hb : Below w0.heap.size w0 w) (hg : w.grownBy w' (some g)) (h : w0.heap.size ≤ g) : Below w0.heap.size w0 w' := below_grown hb hg h
end Go.Proofs.YtnkjaocmfhjnoaaGreat
namespace Go.Proofs.YtnkjaocmfhjnoaaGreat
open Go Go.RowKit
set_option maxRecDepth 100000

attribute [local go_sem] cell_off4 cell_blk4
theorem used_snoc {t : List Nd} {k : Nat} {n : Nd} (h : t[k]? = some n) : usedT (t.take (k + 1)) = usedT (t.take k) + if tis t ((k : Int) + 1) = true then 1 else 0 := by
  obtain ⟨hlt, hx⟩ := List.getElem?_eq_some_iff.1 h
  unfold usedT
  rw [take_snoc' h, List.countP_append, List.countP_cons, List.countP_nil, Nat.zero_add, tis, tget_at hlt, hx]
theorem used_take_le (t : List Nd) (k : Nat) : usedT (t.take k) ≤ k := Nat.le_trans List.countP_le_length (List.length_take_le _ _)
set_option maxRecDepth 100000 in
set_option maxHeartbeats 4000000 in
theorem used_any (v : Value) (t : List Nd) (w : World) (h : TabP w v t) :
    Calls Tryz.prog 20 #[v] w fun e w' => e = .returned (.int .i64 (usedT t : Int)) ∧ Below w.heap.size w w' := by
  have HRM := Lib.hid (fun W (hb : Below w.heap.size w W) => room_any v t W (h.below hb))
  have HH := Lib.hid (fun W i (hb : Below w.heap.size w W) => thas_any v t i W (h.below hb))
  have hhi := h.ok.2
  clear h
  go_enter Tryz.func20, Tryz.ntmps20
  go_wp2_with fail
  refine (HRM.out _ (Below.refl _ _)).mono ?_
  rintro e w3 ⟨rfl, rfl⟩
  go_wp2
  go_loopg [3, 7] t.length (fun gh s3 s7 wr => ∃ k : Nat, s3 = .int .i64 (usedT (t.take k) : Int) ∧ s7 = .int .i64 k ∧ k ≤ t.length ∧ gh = t.length - k ∧ Below w.heap.size w wr)
  case atStart => exact ⟨0, rfl, rfl, Nat.zero_le _, rfl, Below.refl _ _⟩
  case round =>
    obtain ⟨k, rfl, rfl, hk, rfl, hbr⟩ := hrel
    have HBR := Lib.hid hbr
    clear hbr
    by_cases hlt : k < t.length
    · have hlt' : (k : Int) < (t.length : Int) := by omega
      have j0 : IntKind.i64.wrap ((k : Int) + 1) = (k : Int) + 1 := by rw [IntKind.wrap_i64]; omega
      have HS := Lib.hid (used_snoc (List.getElem?_eq_getElem hlt))
      have hC := used_take_le t k
      generalize usedT (t.take k) = C at HS hC ⊢
      have HHK := HH.out wr ((k : Int) + 1) HBR.out
      generalize tis t ((k : Int) + 1) = X at HHK HS
      have HHK2 := Lib.hid HHK
      clear HHK
      cases X with
      | true =>
        have HX := Lib.hid (show (usedT (t.take (k + 1)) : Int) = (C : Int) + 1 by rw [HS.out, if_pos rfl]; rfl)
        go_wp2_with fail
        refine HHK2.out.mono ?_
        rintro e w4 ⟨rfl, hb4⟩
        have HB4 := Lib.hid (bt hb4 HBR.out)
        clear hb4
        go_wp2
        go_roundg (t.length - (k + 1))
        case measure => omega
        case rel => exact ⟨k + 1, by rw [HX.out], by go_num, by omega, rfl, HB4.out⟩
      | false =>
        have HX := Lib.hid (show (usedT (t.take (k + 1)) : Int) = (C : Int) by rw [HS.out, if_neg Bool.false_ne_true, Nat.add_zero])
        go_wp2_with fail
        refine HHK2.out.mono ?_
        rintro e w4 ⟨rfl, hb4⟩
        have HB4 := Lib.hid (bt hb4 HBR.out)
        clear hb4
        go_wp2
        go_roundg (t.length - (k + 1))
        case measure => omega
        case rel => exact ⟨k + 1, by rw [HX.out], by go_num, by omega, rfl, HB4.out⟩
    · have hlt' : ¬ (k : Int) < (t.length : Int) := by omega
      have HX := Lib.hid (show (usedT (t.take k) : Int) = (usedT t : Int) by rw [List.take_of_length_le (by omega)])
      generalize (usedT (t.take k) : Int) = C at HX ⊢
      go_wp2
      go_ret
      exact ⟨ret_int HX.out, HBR.out⟩
theorem link_snoc {t : List Nd} {k : Nat} {n : Nd} {i : Int} (h : t[k]? = some n) : linkT (t.take (k + 1)) i = linkT (t.take k) i + cntE n.ents i := by
  unfold linkT
  rw [take_snoc' h, List.map_append, List.sum_append, List.map_cons, List.map_nil, List.sum_cons, List.sum_nil, Nat.add_zero]
theorem ok_ents_le {t : List Nd} (h : okT t) {n : Nd} (hn : n ∈ t) : n.ents.length ≤ 8 := by
  rcases h n hn with q | q
  · rw [q]; exact Nat.zero_le _
  · rcases q.2 with q | q | q
    · rw [q.2.1]; exact Nat.zero_le _
    · exact q.2.2.2.2.2
    · rw [q.2.2.1]; exact Nat.zero_le _
theorem link_bd {t : List Nd} (h : okT t) (i : Int) : ∀ (k : Nat), linkT (t.take k) i ≤ 8 * k
  | 0 => by simp [linkT]
  | k + 1 => by
    have ih := link_bd h i k
    by_cases hlt : k < t.length
    · have hk := List.getElem?_eq_getElem hlt
      rw [link_snoc hk]
      have h1 := ok_ents_le h (List.getElem_mem hlt)
      have h2 := cnt_le (t[k]).ents i
      omega
    · rw [List.take_of_length_le (by omega)] at ih ⊢
      omega
theorem mem_few {t : List Nd} (h : okT t) {n : Nd} (hn : n ∈ t) : Few n := by
  rcases h n hn with q | q
  · rw [q]; exact zero_few
  · exact right_few q
set_option maxRecDepth 100000 in
set_option maxHeartbeats 4000000 in
theorem links_nil (i : Int) (w : World) :
    Calls Tryz.prog 156 #[.pointer none, .int .i64 i] w fun e w' => e = .returned (.int .i64 0) ∧ Below w.heap.size w w' := by
  have HRM := Lib.hid (fun W => room_any (.pointer none) [] W (TabP.none W))
  have HB := Lib.hid (Below.refl w.heap.size w)
  go_enter Tryz.func156, Tryz.ntmps156
  go_wp2_with fail
  refine (HRM.out _).mono ?_
  rintro e w3 ⟨rfl, rfl⟩
  go_wp2
  go_loopg [5, 9] 1 (fun gh s5 s9 wr => s5 = .int .i64 0 ∧ s9 = .int .i64 0 ∧ gh = 1 ∧ w = wr)
  case atStart => exact ⟨rfl, rfl, rfl, rfl⟩
  case round =>
    obtain ⟨rfl, rfl, rfl, rfl⟩ := hrel
    go_wp2
    go_ret
    exact ⟨rfl, HB.out⟩
set_option maxRecDepth 100000 in
set_option maxHeartbeats 4000000 in
theorem links_some (g : Nat) (t : List Nd) (P : Nat → Prop) (i : Int) (w : World) (h : TabR w g t P) :
    Calls Tryz.prog 156 #[.pointer (some ⟨g, 0, none⟩), .int .i64 i] w fun e w' => e = .returned (.int .i64 (linkT t i : Int)) ∧ Below w.heap.size w w' := by
  have HRM := Lib.hid (fun W (hb : Below w.heap.size w W) => room_any _ t W (h.below hb).ptr)
  have HT := Lib.hid h
  have hhi := h.hi
  clear h
  go_enter Tryz.func156, Tryz.ntmps156
  go_wp2_with fail
  refine (HRM.out _ (Below.refl _ _)).mono ?_
  rintro e w3 ⟨rfl, rfl⟩
  go_wp2
  go_loopg [5, 9] t.length (fun gh s5 s9 wr => ∃ k : Nat, s5 = .int .i64 (linkT (t.take k) i : Int) ∧ s9 = .int .i64 k ∧ k ≤ t.length ∧ gh = t.length - k ∧ Below w.heap.size w wr)
  case atStart => exact ⟨0, rfl, rfl, Nat.zero_le _, rfl, Below.refl _ _⟩
  case round =>
    obtain ⟨k, rfl, rfl, hk, rfl, hbr⟩ := hrel
    have HBR := Lib.hid hbr
    clear hbr
    by_cases hlt : k < t.length
    · have hlt' : (k : Int) < (t.length : Int) := by omega
      have hlt24 : (k : Int) < 24 := by omega
      have hlt25 : k < 24 := by omega
      obtain ⟨n, hn⟩ : ∃ n, t[k]? = some n := ⟨_, List.getElem?_eq_getElem hlt⟩
      have hTr := HT.out.below HBR.out
      obtain ⟨vd, ve, ⟨c0, c1, c2, c3, c4, c5, c6⟩, hd, he, -, -⟩ := hTr.node k n hn
      have HF := Lib.hid (mem_few HT.out.ok (List.mem_of_getElem? hn))
      have HS := Lib.hid (link_snoc (i := i) hn)
      have hC := link_bd HT.out.ok i k
      have hE := Nat.le_trans (cnt_le n.ents i) (ok_ents_le HT.out.ok (List.mem_of_getElem? hn))
      have HEO := Lib.hid (entriesOf_any n vd ve i wr hd.1 he.1 HF.out)
      obtain ⟨A1, k1, rfl⟩ := bytesT_form hd
      obtain ⟨A2, k2, rfl⟩ := entsT_form he
      generalize linkT (t.take k) i = C at HS hC ⊢
      generalize cntE n.ents i = D at HS hE HEO
      have HX := Lib.hid (show (linkT (t.take (k + 1)) i : Int) = (C : Int) + (D : Int) by rw [HS.out]; rfl)
      unfold nodeV at HEO
      clear hn hTr hd he
      go_wp2_with fail
      refine HEO.out.mono ?_
      rintro e w4 ⟨rfl, hb4⟩
      have HB4 := Lib.hid (bt hb4 HBR.out)
      clear hb4 c0 c1 c2 c3 c4 c5 c6
      go_wp2
      go_roundg (t.length - (k + 1))
      case measure => omega
      case rel => exact ⟨k + 1, by rw [HX.out], by go_num, by omega, rfl, HB4.out⟩
    · have hlt' : ¬ (k : Int) < (t.length : Int) := by omega
      have HX := Lib.hid (show (linkT (t.take k) i : Int) = (linkT t i : Int) by rw [List.take_of_length_le (by omega)])
      generalize (linkT (t.take k) i : Int) = C at HX ⊢
      go_wp2
      go_ret
      exact ⟨ret_int HX.out, HBR.out⟩
theorem links_any (v : Value) (t : List Nd) (i : Int) (w : World) (h : TabP w v t) :
    Calls Tryz.prog 156 #[v, .int .i64 i] w fun e w' => e = .returned (.int .i64 (linkT t i : Int)) ∧ Below w.heap.size w w' := by
  rcases h with ⟨rfl, rfl⟩ | ⟨g, P, rfl, h⟩
  · exact links_nil i w
  · exact links_some g t P i w h
theorem par_ge {i : Int} : ∀ (t : List Nd) (d k : Nat), (∀ j, j < k → ∀ n, t[j]? = some n → cntE n.ents i = 0) → k ≤ t.length → (k = t.length → parT t d i = 0) ∧ (∀ n, t[k]? = some n → cntE n.ents i ≠ 0 → parT t d i = d + k + 1)
  | [], d, k, _, hk => ⟨fun _ => rfl, fun n h => by cases h⟩
  | m :: t, d, 0, _, hk => ⟨fun h => (by cases h), fun n h h2 => (by
    injection h with h
    subst h
    rw [parT, if_neg h2])⟩
  | m :: t, d, k + 1, hj, hk => by
    have h0 : cntE m.ents i = 0 := hj 0 (by omega) m rfl
    have ih := par_ge (i := i) t (d + 1) k (fun j h1 n h2 => hj (j + 1) (by omega) n h2) (by rw [List.length_cons] at hk; omega)
    rw [parT, if_pos h0]
    refine ⟨fun h => ih.1 (by rw [List.length_cons] at h; omega), fun n h h2 => ?_⟩
    rw [ih.2 n h h2]
    omega
set_option maxRecDepth 100000 in
set_option maxHeartbeats 4000000 in
theorem parent_nil (i : Int) (w : World) :
    Calls Tryz.prog 201 #[.pointer none, .int .i64 i] w fun e w' => e = .returned (.int .i64 0) ∧ Below w.heap.size w w' := by
  have HRM := Lib.hid (fun W => room_any (.pointer none) [] W (TabP.none W))
  have HB := Lib.hid (Below.refl w.heap.size w)
  go_enter Tryz.func201, Tryz.ntmps201
  go_wp2_with fail
  refine (HRM.out _).mono ?_
  rintro e w3 ⟨rfl, rfl⟩
  go_wp2
  go_loopg [8] 1 (fun gh s9 wr => s9 = .int .i64 0 ∧ gh = 1 ∧ w = wr)
  case atStart => exact ⟨rfl, rfl, rfl⟩
  case round =>
    obtain ⟨rfl, rfl, rfl⟩ := hrel
    go_wp2
    go_ret
    exact ⟨rfl, HB.out⟩
set_option maxRecDepth 100000 in
set_option maxHeartbeats 4000000 in
theorem parent_some (g : Nat) (t : List Nd) (P : Nat → Prop) (i : Int) (w : World) (h : TabR w g t P) :
    Calls Tryz.prog 201 #[.pointer (some ⟨g, 0, none⟩), .int .i64 i] w fun e w' => e = .returned (.int .i64 (parT t 0 i : Int)) ∧ Below w.heap.size w w' := by
  have HRM := Lib.hid (fun W (hb : Below w.heap.size w W) => room_any _ t W (h.below hb).ptr)
  have HT := Lib.hid h
  have hhi := h.hi
  have HFR := Lib.hid (fun k => par_ge (i := i) t 0 k)
  generalize parT t 0 i = F at HFR ⊢
  clear h
  go_enter Tryz.func201, Tryz.ntmps201
  go_wp2_with fail
  refine (HRM.out _ (Below.refl _ _)).mono ?_
  rintro e w3 ⟨rfl, rfl⟩
  go_wp2
  go_loopg [8] t.length (fun gh s8 wr => ∃ k : Nat, s8 = .int .i64 k ∧ k ≤ t.length ∧ gh = t.length - k ∧ (∀ j, j < k → ∀ n, t[j]? = some n → cntE n.ents i = 0) ∧ Below w.heap.size w wr)
  case atStart => exact ⟨0, rfl, Nat.zero_le _, rfl, fun j h => absurd h (Nat.not_lt_zero _), Below.refl _ _⟩
  case round =>
    obtain ⟨k, rfl, hk, rfl, hall, hbr⟩ := hrel
    have HALL := Lib.hid hall
    have HBR := Lib.hid hbr
    clear hbr hall
    by_cases hlt : k < t.length
    · have hlt' : (k : Int) < (t.length : Int) := by omega
      have hlt24 : (k : Int) < 24 := by omega
      have hlt25 : k < 24 := by omega
      obtain ⟨n, hn⟩ : ∃ n, t[k]? = some n := ⟨_, List.getElem?_eq_getElem hlt⟩
      have hTr := HT.out.below HBR.out
      obtain ⟨vd, ve, ⟨c0, c1, c2, c3, c4, c5, c6⟩, hd, he, -, -⟩ := hTr.node k n hn
      have HF := Lib.hid (mem_few HT.out.ok (List.mem_of_getElem? hn))
      have HEO := Lib.hid (entriesOf_any n vd ve i wr hd.1 he.1 HF.out)
      obtain ⟨A1, k1, rfl⟩ := bytesT_form hd
      obtain ⟨A2, k2, rfl⟩ := entsT_form he
      have HN := Lib.hid hn
      unfold nodeV at HEO
      clear hn hTr hd he
      by_cases q : cntE n.ents i = 0
      · have HQ := Lib.hid q
        rw [q] at HEO
        clear q
        go_wp2_with fail
        refine HEO.out.mono ?_
        rintro e w4 ⟨rfl, hb4⟩
        have HB4 := Lib.hid (bt hb4 HBR.out)
        clear hb4 c0 c1 c2 c3 c4 c5 c6
        go_wp2
        go_roundg (t.length - (k + 1))
        case measure => omega
        case rel => exact ⟨k + 1, by go_num, by omega, rfl, (fun j h1 m h2 => by
          by_cases q : j < k
          · exact HALL.out j q m h2
          · have e1 : j = k := by omega
            subst e1
            rw [HN.out] at h2
            injection h2 with h2
            rw [← h2]
            exact HQ.out), HB4.out⟩
      · have HX := Lib.hid (show (k : Int) + 1 = (F : Int) by have := (HFR.out k HALL.out hk).2 n HN.out q; omega)
        have hq : (0 : Int) < (cntE n.ents i : Int) := by omega
        clear q
        generalize cntE n.ents i = D at HEO hq
        go_wp2_with fail
        refine HEO.out.mono ?_
        rintro e w4 ⟨rfl, hb4⟩
        have HB4 := Lib.hid (bt hb4 HBR.out)
        clear hb4 c0 c1 c2 c3 c4 c5 c6
        go_wp2
        go_ret
        exact ⟨ret_int HX.out, HB4.out⟩
    · have hlt' : ¬ (k : Int) < (t.length : Int) := by omega
      have HX := Lib.hid (show (0 : Int) = (F : Int) by have := (HFR.out k HALL.out hk).1 (by omega); omega)
      go_wp2
      go_ret
      exact ⟨ret_int HX.out, HBR.out⟩
theorem parent_any (v : Value) (t : List Nd) (i : Int) (w : World) (h : TabP w v t) :
    Calls Tryz.prog 201 #[v, .int .i64 i] w fun e w' => e = .returned (.int .i64 (parT t 0 i : Int)) ∧ Below w.heap.size w w' := by
  rcases h with ⟨rfl, rfl⟩ | ⟨g, P, rfl, h⟩
  · exact parent_nil i w
  · exact parent_some g t P i w h
end Go.Proofs.YtnkjaocmfhjnoaaGreat
namespace Go.Proofs.YtnkjaocmfhjnoaaGreat
open Go Go.RowKit
set_option maxRecDepth 100000

attribute [local go_sem] cell_off4 cell_blk4
end Go.Proofs.YtnkjaocmfhjnoaaGreat
namespace Go.Proofs.YtnkjaocmfhjnoaaGreat
open Go Go.RowKit
set_option maxRecDepth 100000

attribute [local go_sem] cell_off4 cell_blk4
def sam24 (t u : List Nd) : Prop := ∀ k : Nat, k < 24 → tget t ((k : Int) + 1) = tget u ((k : Int) + 1)
set_option maxRecDepth 100000 in
set_option maxHeartbeats 4000000 in
theorem tsame_any (v v' : Value) (t u : List Nd) (w : World) (h : TabP w v t) (h' : TabP w v' u) :
    Calls Tryz.prog 19 #[v, v'] w fun e w' => e = .returned (.bool (toB (sam24 t u))) ∧ Below w.heap.size w w' := by
  have HA := Lib.hid (fun W i (hb : Below w.heap.size w W) => at_any v t i W (h.below hb))
  have HA' := Lib.hid (fun W i (hb : Below w.heap.size w W) => at_any v' u i W (h'.below hb))
  have HF := Lib.hid (fun i => ok_few h.ok.1 i)
  have HF' := Lib.hid (fun i => ok_few h'.ok.1 i)
  have HY := Lib.hid (show (∀ k : Nat, k < 24 → tget t ((k : Int) + 1) = tget u ((k : Int) + 1)) → toB (sam24 t u) = true from fun h => toB_true h)
  have HN := Lib.hid (show ∀ k : Nat, k < 24 → toB (tget t ((k : Int) + 1) = tget u ((k : Int) + 1)) = false → toB (sam24 t u) = false from fun k hk hq => toB_false (fun hs => by rw [toB_true (hs k hk)] at hq; cases hq))
  generalize toB (sam24 t u) = X at HY HN ⊢
  clear h h'
  go_enter Tryz.func19, Tryz.ntmps19
  go_wp2
  go_loopg [6] 24 (fun gh s6 wr => ∃ k : Nat, s6 = .int .i64 k ∧ k ≤ 24 ∧ gh = 24 - k ∧ (∀ j : Nat, j < k → tget t ((j : Int) + 1) = tget u ((j : Int) + 1)) ∧ Below w.heap.size w wr)
  case atStart => exact ⟨0, rfl, Nat.zero_le _, rfl, fun j h => absurd h (Nat.not_lt_zero _), Below.refl _ _⟩
  case round =>
    obtain ⟨k, rfl, hk, rfl, hall, hbr⟩ := hrel
    have HALL := Lib.hid hall
    have HBR := Lib.hid hbr
    clear hbr hall
    by_cases hlt : k < 24
    · have hlt' : (k : Int) < 24 := by omega
      have j0 : IntKind.i64.wrap ((k : Int) + 1) = (k : Int) + 1 := by rw [IntKind.wrap_i64]; omega
      have HAk := Lib.hid (HA.out wr ((k : Int) + 1) HBR.out)
      have HAk' := Lib.hid (fun W (hb : Below w.heap.size w W) => HA'.out W ((k : Int) + 1) hb)
      have HFk := Lib.hid (HF.out ((k : Int) + 1))
      have HFk' := Lib.hid (HF'.out ((k : Int) + 1))
      have HNk := Lib.hid (HN.out k hlt)
      obtain ⟨a, hta⟩ : ∃ a, tget t ((k : Int) + 1) = a := ⟨_, rfl⟩
      obtain ⟨b, htb⟩ : ∃ b, tget u ((k : Int) + 1) = b := ⟨_, rfl⟩
      rw [hta] at HAk HFk HNk
      rw [htb] at HAk' HFk' HNk
      have HTA := Lib.hid hta
      have HTB := Lib.hid htb
      clear hta htb
      go_wp2_with fail
      refine HAk.out.mono ?_
      rintro e w4 ⟨vd, ve, rfl, hd4, he4, hb4⟩
      have HB4 := Lib.hid (bt hb4 HBR.out)
      have HD4 := Lib.hid hd4
      have HE4 := Lib.hid he4
      clear hb4 hd4 he4
      go_wp2_with fail
      refine (HAk'.out w4 HB4.out).mono ?_
      rintro e w5 ⟨vd', ve', rfl, hd5, he5, hb5⟩
      have HB5 := Lib.hid (bt hb5 HB4.out)
      have HD5 := Lib.hid hd5
      have HE5 := Lib.hid he5
      have HD45 := Lib.hid (HD4.out.below hb5)
      have HE45 := Lib.hid (HE4.out.below hb5)
      clear hb5 hd5 he5
      have HC := Lib.hid (same_any a b vd ve vd' ve' w5 HD45.out.1 HE45.out.1 HD5.out.1 HE5.out.1 HFk.out HFk'.out)
      by_cases q : a = b
      · rw [toB_true q] at HC
        have HQ := Lib.hid q
        clear q
        go_wp2_with fail
        refine HC.out.mono ?_
        rintro e w6 ⟨rfl, hb6⟩
        have HB6 := Lib.hid (bt hb6 HB5.out)
        clear hb6
        go_wp2
        go_roundg (24 - (k + 1))
        case measure => omega
        case rel => exact ⟨k + 1, by go_num, by omega, rfl, (fun j h1 => by
          by_cases q : j < k
          · exact HALL.out j q
          · have e1 : j = k := by omega
            subst e1
            rw [HTA.out, HTB.out]
            exact HQ.out), HB6.out⟩
      · rw [toB_false q] at HC
        have HX := Lib.hid (HNk.out (toB_false q))
        clear q
        go_wp2_with fail
        refine HC.out.mono ?_
        rintro e w6 ⟨rfl, hb6⟩
        have HB6 := Lib.hid (bt hb6 HB5.out)
        clear hb6
        go_wp2
        go_ret
        exact ⟨ret_bool HX.out.symm, HB6.out⟩
    · have hlt' : ¬ (k : Int) < 24 := by omega
      have HX := Lib.hid (HY.out (fun j hj => HALL.out j (by omega)))
      go_wp2
      go_ret
      exact ⟨ret_bool HX.out.symm, HBR.out⟩
end Go.Proofs.YtnkjaocmfhjnoaaGreat
namespace Go.Proofs.YtnkjaocmfhjnoaaGreat
open Go Go.RowKit
set_option maxRecDepth 100000

attribute [local go_sem] cell_off4 cell_blk4
def upT (t : List Nd) (k : Nat) : List Nd := t.take k ++ List.replicate (t.length - k) Nd.zero
theorem len_upT {t : List Nd} {k : Nat} (h : k ≤ t.length) : (upT t k).length = t.length := by
  unfold upT
  rw [List.length_append, List.length_take, List.length_replicate]
  omega
theorem upT_zero (t : List Nd) : upT t 0 = List.replicate t.length Nd.zero := by unfold upT; simp
theorem upT_all (t : List Nd) : upT t t.length = t := by unfold upT; simp
theorem upT_set {t : List Nd} {k : Nat} {n : Nd} (h : t[k]? = some n) : (upT t k).set k n = upT t (k + 1) := by
  have hlt : k < t.length := (List.getElem?_eq_some_iff.1 h).1
  unfold upT
  rw [List.set_append_right _ _ (by rw [List.length_take]; omega), take_snoc' h, List.length_take, show k - min k t.length = 0 by omega, show t.length - k = (t.length - (k + 1)) + 1 by omega, List.replicate_succ, List.set_cons_zero, List.append_assoc]
  rfl
theorem mem_fewC {t : List Nd} (h : okT t) {n : Nd} (hn : n ∈ t) : Few n := by
  rcases h n hn with q | q
  · rw [q]; exact zero_few
  · exact right_few q
theorem clone_end {w w5 : World} {k : Nat} {t : List Nd} {Q : Nat → Prop} {n : Nd} {vd ve : Value} (h : TabR w5 w.heap.size (upT t k) Q) (hn : t[k]? = some n) (ho : okT t) (hd : BytesT w5 vd n.data) (he : EntsT w5 ve n.ents) (hpd : LP Q vd) (hpe : LP Q ve) (hb : Below w.heap.size w w5) :
    TabR (putA w5 w.heap.size (1 + k * 7) (.int .i64 n.kind) (.int .i64 n.mode) (.int .i64 n.uid) (.int .i64 n.gid) vd ve (.string (bA n.target))) w.heap.size (upT t (k + 1)) Q ∧ Below w.heap.size w (putA w5 w.heap.size (1 + k * 7) (.int .i64 n.kind) (.int .i64 n.mode) (.int .i64 n.uid) (.int .i64 n.gid) vd ve (.string (bA n.target))) := by
  have hlt : k < t.length := (List.getElem?_eq_some_iff.1 hn).1
  have h1 := h.put (k := k) (n := n) (vd := vd) (ve := ve) (by rw [len_upT (by omega)]; exact hlt) (ho n (List.mem_of_getElem? hn)) hd he hpd hpe
  rw [upT_set hn] at h1
  exact ⟨h1, below_grown hb (grownA _ _ _ _ _ _ _ _ _ _) (Nat.le_refl _)⟩
set_option maxRecDepth 100000 in
set_option maxHeartbeats 8000000 in
theorem clone_any (g : Nat) (t : List Nd) (P Q : Nat → Prop) (w : World) (h : TabR w g t P) (hQ : ∀ b, w.heap.size ≤ b → Q b) :
    Calls Tryz.prog 10 #[.pointer (some ⟨g, 0, none⟩)] w fun e w' => e = .returned (.pointer (some ⟨w.heap.size, 0, none⟩)) ∧ TabR w' w.heap.size t Q ∧ Below w.heap.size w w' := by
  have h0 := h.room
  have hlo := h.lo
  have hhi := h.hi
  have hgl := h.lt
  have HT := Lib.hid h
  have HQ := Lib.hid hQ
  have HN := Lib.hid (tab_new w t.length hlo hhi Q)
  have HB1 := Lib.hid (ba w (.cells (Tryz.zeroCells81.setIfInBounds 0 (.int .i64 (t.length : Int))) 81))
  have hr1 := bc HB1.out h0
  clear h hQ
  go_enter Tryz.func10, Tryz.ntmps10
  go_wp2
  go_loopg [17] t.length (fun gh s17 wr => ∃ k : Nat, s17 = .int .i64 k ∧ k ≤ t.length ∧ gh = t.length - k ∧ TabR wr w.heap.size (upT t k) Q ∧ Below w.heap.size w wr)
  case atStart => exact ⟨0, rfl, Nat.zero_le _, rfl, by rw [upT_zero]; exact HN.out, HB1.out⟩
  case round =>
    obtain ⟨k, rfl, hk, rfl, ht, hbr⟩ := hrel
    have HTC := Lib.hid ht
    have HBR := Lib.hid hbr
    clear hbr ht
    by_cases hlt : k < t.length
    · have hlt' : (k : Int) < (t.length : Int) := by omega
      have hlt24 : (k : Int) < 24 := by omega
      have hlt25 : k < 24 := by omega
      obtain ⟨n, hn⟩ : ∃ n, t[k]? = some n := ⟨_, List.getElem?_eq_getElem hlt⟩
      have hTr := HT.out.below HBR.out
      obtain ⟨vd, ve, ⟨c0, c1, c2, c3, c4, c5, c6⟩, hd, he, -, -⟩ := hTr.node k n hn
      have HF := Lib.hid (mem_fewC HT.out.ok (List.mem_of_getElem? hn))
      obtain ⟨A1, k1, rfl⟩ := bytesT_form hd
      obtain ⟨A2, k2, rfl⟩ := entsT_form he
      have HBD := Lib.hid (show Below w.heap.size w wr.drew from bdN HBR.out 1)
      have HC := Lib.hid (copied_any n _ _ wr.drew (hd.1.below (Below.refl _ _).drew) (he.1.below (Below.refl _ _).drew) HF.out)
      have HNK := Lib.hid hn
      unfold nodeV at HC
      clear hn hTr hd he
      go_wp2
      go_region_with (go_at_call 26; refine HC.out.mono ?_; rintro e w5 ⟨vd5, ve5, rfl, hd5, he5, hl5, hm5, hb5⟩; have ht5 := (HTC.out.below (Below.refl _ _).drew).below hb5; obtain ⟨cs5, hk5, hs5⟩ := ht5.blk; obtain ⟨⟨x0, q0⟩, ⟨x1, q1⟩, ⟨x2, q2⟩, ⟨x3, q3⟩, ⟨x4, q4⟩, ⟨x5, q5⟩, ⟨x6, q6⟩⟩ := putA_there (o := 1 + k * 7) hk5 (by omega); obtain ⟨A5, k5, hv5⟩ := bytesT_form hd5; obtain ⟨A6, k6, hv6⟩ := entsT_form he5; subst hv5 hv6; have f5 := fun i => ht5.frozen i; have HT5 := Lib.hid ht5; have HD5 := Lib.hid hd5; have HE5 := Lib.hid he5; have HL5 := Lib.hid hl5; have HM5 := Lib.hid hm5; have HB5 := Lib.hid (bt hb5 HBD.out); clear hb5 ht5 hd5 he5 hl5 hm5 hk5 hs5)
      all_goals (
        have hS := clone_end HT5.out HNK.out HT.out.ok HD5.out HE5.out (HL5.out.mono (fun b hb => HQ.out b (Nat.le_trans HBD.out.size hb))) (HM5.out.mono (fun b hb => HQ.out b (Nat.le_trans HBD.out.size hb))) HB5.out
        unfold putA at hS
        have HS := Lib.hid hS
        clear hS q0 q1 q2 q3 q4 q5 q6 f5 c0 c1 c2 c3 c4 c5 c6
        go_wp2
        go_roundg (t.length - (k + 1))
        case measure => omega
        case rel => exact ⟨k + 1, by go_num, by omega, rfl, HS.out.1, HS.out.2⟩)
    · have hlt' : ¬ (k : Int) < (t.length : Int) := by omega
      have HTE := Lib.hid (show TabR wr w.heap.size t Q by have := HTC.out; rw [show k = t.length by omega, upT_all] at this; exact this)
      go_wp2
      go_ret
      exact ⟨rfl, HTE.out, HBR.out⟩
end Go.Proofs.YtnkjaocmfhjnoaaGreat
namespace Go.Proofs.YtnkjaocmfhjnoaaGreat
open Go Go.RowKit
set_option maxRecDepth 100000

attribute [local go_sem] kind_of
end Go.Proofs.YtnkjaocmfhjnoaaGreat
