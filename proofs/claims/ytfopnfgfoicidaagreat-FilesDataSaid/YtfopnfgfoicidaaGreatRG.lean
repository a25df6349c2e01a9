/-
  The reference's Get, with where what it answers lies. The condition: the number is one of the table's.
-/
import Derived.Test.YtfopnfgfoicidaaGreatLR
namespace Go.Proofs.YtfopnfgfoicidaaGreat
open Go Go.RowKit
set_option maxRecDepth 100000

attribute [local go_sem] cell_off4 cell_blk4
theorem rgetp_end {P : Nat → Prop} {w : World} {n : Nd} {vn vk : Value} (o p : Obj) (h1 : StrsR w vn (nmA (nmE n.ents))) (h2 : IntsR w vk (idE n.ents)) (h3 : LP (fun b => P b ∧ b < w.heap.size) vn) (h4 : LP (fun b => P b ∧ b < w.heap.size) vk) :
    ∃ vn' vk', Ending.returned (.agg (rfC n vn vk)) = .returned (.agg (rfC n vn' vk')) ∧ StrsR ((w.alloc o).alloc p) vn' (nmA (nmE n.ents)) ∧ IntsR ((w.alloc o).alloc p) vk' (idE n.ents) ∧ LP (fun b => P b ∧ b < w.heap.size) vn' ∧ LP (fun b => P b ∧ b < w.heap.size) vk' ∧ Below w.heap.size w ((w.alloc o).alloc p) :=
  ⟨_, _, rfl, h1.below (al (ba _ _) _), h2.below (al (ba _ _) _), h3, h4, al (ba _ _) _⟩
set_option maxHeartbeats 4000000 in
theorem rgetp_any {P : Nat → Prop} (v : Value) (t : List Nd) (i : Int) (w : World) (h : NsR P w v t) (h1 : 1 ≤ i ∧ i ≤ t.length) (hl : t.length ≤ 24) :
    Calls Tryz.prog 30 #[.agg #[v], .int .i64 i] w fun e w' => ∃ vn vk, e = .returned (.agg (rfC (tget t i) vn vk)) ∧ StrsR w' vn (nmA (nmE (tget t i).ents)) ∧ IntsR w' vk (idE (tget t i).ents) ∧ LP (fun b => P b ∧ b < w.heap.size) vn ∧ LP (fun b => P b ∧ b < w.heap.size) vk ∧ Below w.heap.size w w' := by
  obtain ⟨g, c, rfl⟩ := ns_form h
  have d1 : ¬ i < 1 := by omega
  have d2 : ¬ (t.length : Int) < i := by omega
  obtain ⟨k, hk⟩ : ∃ k : Nat, i = (k : Int) + 1 := ⟨(i - 1).toNat, by omega⟩
  subst hk
  have hlt : k < t.length := by omega
  rw [tget_at hlt]
  obtain ⟨vn, vk, ⟨c0, c1, c2, c3, c4, c5, c6, c7⟩, ⟨hs, hi⟩, hp, hq⟩ := ns_full h (List.getElem?_eq_getElem hlt)
  have hg := World.block_lt_of_cell? _ _ c0
  generalize t[k] = n at c0 c1 c2 c3 c4 c5 c6 c7 hs hi hp hq ⊢
  have HE := Lib.hid (fun o p => rgetp_end (n := n) (vn := vn) (vk := vk) o p hs hi hp hq)
  obtain ⟨A1, k1, rfl⟩ := strs_form hs (nm_len _)
  obtain ⟨A2, k2, rfl⟩ := ints_form hi (idE_len _)
  clear h hs hi h1 hp hq
  go_enter Tryz.func30, Tryz.ntmps30
  go_wp2
  exact bodyPost_ret (v := .agg (rfC n (.slice A1 n.ents.length k1) (.slice A2 n.ents.length k2))) (by simp [results, Tryz.results30, go_sem]) rfl (HE.out _ _)
end Go.Proofs.YtfopnfgfoicidaaGreat
