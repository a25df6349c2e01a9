/-
  A slice of nodes, as an argument has it; what is told of a table depends on its nodes alone. No condition.
-/
import Derived.Test.YtnecnnajngfooaaRtn
import Derived.Test.YtnecnnajngfooaaRtb
namespace Go.Proofs.Ytnecnnajngfooaa
open Go Go.RowKit
set_option maxRecDepth 100000

structure AtN (w : World) (b o : Nat) (n : Nd) (vd ve : Value) : Prop where
  c1 : w.cell? ⟨b, o + 1, none⟩ = some (.int .i64 n.mode)
  c2 : w.cell? ⟨b, o + 2, none⟩ = some (.int .i64 n.uid)
  c3 : w.cell? ⟨b, o + 3, none⟩ = some (.int .i64 n.gid)
  c4 : w.cell? ⟨b, o + 4, none⟩ = some vd
  c5 : w.cell? ⟨b, o + 5, none⟩ = some ve
  c6 : w.cell? ⟨b, o + 6, none⟩ = some (.string (bA n.target))
theorem AtN.below {w w' : World} {b o : Nat} {n : Nd} {vd ve : Value} (h : AtN w b o n vd ve) (hb : Below w.heap.size w w') : AtN w' b o n vd ve :=
  ⟨bc hb h.c1, bc hb h.c2, bc hb h.c3, bc hb h.c4, bc hb h.c5, bc hb h.c6⟩
/-- A slice that reads as nodes. -/
def NodesR (w : World) (v : Value) (l : List Nd) : Prop := ∃ A c, v = .slice A l.length c ∧ ∀ (k : Nat) (n : Nd), l[k]? = some n → ∃ (ad : Addr) (vd ve : Value), A = some ad ∧
  w.cell? (ad.add (k * 7)) = some (.int .i64 n.kind) ∧ AtN w (ad.add (k * 7)).block (ad.add (k * 7)).off n vd ve ∧ BytesR w vd n.data ∧ EntsR w ve n.ents ∧ ∀ e ∈ n.ents, e.1.length ≤ maxLen
theorem NodesR.below {w w' : World} {v : Value} {l : List Nd} (h : NodesR w v l) (hb : Below w.heap.size w w') : NodesR w' v l := by
  obtain ⟨A, c, hv, hc⟩ := h
  refine ⟨A, c, hv, fun k r hk => ?_⟩
  obtain ⟨ad, vd, ve, hA, h0, h1, h2, h3, h4⟩ := hc k r hk
  exact ⟨ad, vd, ve, hA, bc hb h0, h1.below hb, h2.below hb, h3.below hb, h4⟩
theorem nodes_form {w : World} {v : Value} {l : List Nd} (h : NodesR w v l) : ∃ A c, v = .slice A l.length c := by
  obtain ⟨A, c, rfl, -⟩ := h
  exact ⟨A, c, rfl⟩
theorem nodes_get {w : World} {A : Option Addr} {n c : Nat} {l : List Nd} (h : NodesR w (.slice A n c) l) {k : Nat} {r : Nd} (hk : l[k]? = some r) : ∃ (ad : Addr) (vd ve : Value), A = some ad ∧
    w.cell? (ad.add (k * 7)) = some (.int .i64 r.kind) ∧ AtN w (ad.add (k * 7)).block (ad.add (k * 7)).off r vd ve ∧ BytesR w vd r.data ∧ EntsR w ve r.ents ∧ ∀ e ∈ r.ents, e.1.length ≤ maxLen := by
  obtain ⟨A', c', hv, hc⟩ := h
  injection hv with hA
  subst hA
  exact hc k r hk
theorem tlE_congr {t u : List Nd} (h : tget t = tget u) (p : Int) (s : Tl) (i : Int) (nm : Nm) : tlE t p s i nm = tlE u p s i nm := by unfold tlE; rw [h]
theorem tlD_congr {t u : List Nd} (h : tget t = tget u) (k : Nat) (s : Tl) (l : List En) : tlD t k s l = tlD u k s l := by
  unfold tlD
  congr 1
  funext s e
  exact tlE_congr h _ _ _ _
theorem tlS_congr {t u : List Nd} (h : tget t = tget u) : ∀ k, tlS t k = tlS u k
  | 0 => tlE_congr h _ _ _ _
  | k + 1 => by
    rw [tlS, tlS, tlS_congr h k]
    split
    · rw [tlD_congr h, h]
    · rfl
theorem tget_same {t u : List Nd} (h : ∀ k, t.getD k Nd.zero = u.getD k Nd.zero) : tget t = tget u := by
  funext i
  by_cases q : 1 ≤ i
  · have e : i = (((i - 1).toNat : Nat) : Int) + 1 := by omega
    rw [e, tget_nat, tget_nat, h]
  · rw [tget_out (by omega), tget_out (by omega)]
theorem tellL_same {t u : List Nd} (h : ∀ k, t.getD k Nd.zero = u.getD k Nd.zero) : tellL t = tellL u := by
  unfold tellL tlT
  rw [all_same h [], tlS_congr (tget_same h) 24]
theorem tellL_len {t : List Nd} (ho : okT t) : (tellL t).length ≤ 193 := by
  unfold tellL
  split
  · exact tlS_len ho 24
  · exact Nat.zero_le _
end Go.Proofs.Ytnecnnajngfooaa
