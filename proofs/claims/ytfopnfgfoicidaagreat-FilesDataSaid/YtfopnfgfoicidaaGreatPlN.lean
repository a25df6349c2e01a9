/-
  What is told of a node that was made: its path leads to it, and its mode has nothing of the umask; plain mathematics. The conditions are said at each.
-/
import Derived.Test.YtfopnfgfoicidaaGreatPlM
namespace Go.Proofs.YtfopnfgfoicidaaGreat
open Go Go.RowKit
set_option maxRecDepth 100000

section
variable {t t' : List Nd} {D I : Int} {N : Nm} {m : Nd}
theorem Pla.same (h : Pla t t' D I N m) {j : Int} (hj : j ≠ I) : (tget t' j).kind = (tget t j).kind ∧ (tget t' j).mode = (tget t j).mode ∧ (tget t' j).uid = (tget t j).uid ∧ (tget t' j).gid = (tget t j).gid ∧ (tget t' j).data = (tget t j).data ∧ (tget t' j).target = (tget t j).target := by
  rw [h.get j]
  by_cases q : j = D
  · rw [if_pos q, q]
    exact ⟨rfl, rfl, rfl, rfl, rfl, rfl⟩
  · rw [if_neg q, if_neg hj]
    exact ⟨rfl, rfl, rfl, rfl, rfl, rfl⟩
theorem Pla.new (h : Pla t t' D I N m) : tget t' I = m := by rw [h.get I, if_neg (fun q => h.ne q.symm), if_pos rfl]
theorem Pla.tis (h : Pla t t' D I N m) {j : Int} (hj : j ≠ I) : Go.Proofs.YtfopnfgfoicidaaGreat.tis t' j = Go.Proofs.YtfopnfgfoicidaaGreat.tis t j := by
  unfold Go.Proofs.YtfopnfgfoicidaaGreat.tis
  rw [(h.same hj).1]
theorem Pla.can (h : Pla t t' D I N m) {j : Int} (hj : j ≠ I) (c : Wh) (x : Int) : canT t' c j x = canT t c j x := by
  obtain ⟨h1, h2, h3, h4, -⟩ := h.same hj
  unfold canT canN
  rw [h.tis hj, h2, h3, h4]
theorem Pla.sr (h : Pla t t' D I N m) {j : Int} (hj : j ≠ I) (c : Wh) : srE t' c j = srE t c j := by
  unfold srE
  rw [(h.same hj).1, h.can hj]
theorem Pla.up (h : Pla t t' D I N m) {j : Int} (hj : j ≠ I) : upI t' j = upI t j := by
  unfold upI
  rw [h.par j hj]
theorem fnd_ins_ne {n x : Nm} {i : Int} (hne : n ≠ x) : ∀ l : List En, fnd (ins (x, i) l) n = fnd l n
  | [] => by
    show fnd [(x, i)] n = 0
    unfold fnd
    rw [if_neg (fun q => hne q.symm)]
    rfl
  | e :: l => by
    rw [ins]
    split
    · rw [fnd, if_neg (fun q => hne q.symm)]
    · rw [fnd, fnd, fnd_ins_ne hne l]
theorem Pla.fnd (h : Pla t t' D I N m) {j : Int} (hj : j ≠ I) (n : Nm) : Go.Proofs.YtfopnfgfoicidaaGreat.fnd (tget t' j).ents n = if j = D ∧ n = N then I else Go.Proofs.YtfopnfgfoicidaaGreat.fnd (tget t j).ents n := by
  rw [h.get j]
  by_cases q : j = D
  · rw [if_pos q, q]
    by_cases r : n = N
    · rw [if_pos ⟨rfl, r⟩, r]
      exact fnd_ins h.nam
    · rw [if_neg (fun z => r z.2)]
      exact fnd_ins_ne r _
  · rw [if_neg q, if_neg hj, if_neg (fun z => q z.1)]
theorem fnd_tis (ht : Trx t) {j : Int} {n : Nm} (h : Go.Proofs.YtfopnfgfoicidaaGreat.fnd (tget t j).ents n ≠ 0) : Go.Proofs.YtfopnfgfoicidaaGreat.tis t (Go.Proofs.YtfopnfgfoicidaaGreat.fnd (tget t j).ents n) = true := by
  have hin : n ∈ nmE (tget t j).ents := Classical.byContradiction (fun q => h (fnd_none q))
  obtain ⟨e, he, -, h2⟩ := fnd_some hin
  rw [h2]
  exact (ht.num e.2).2 (ht.here j e he)
/-- What a path without follow leads to, once the node is made. -/
theorem Pla.wlk (h : Pla t t' D I N m) (ht : Trx t) {c : Wh} : ∀ k l i, Go.Proofs.YtfopnfgfoicidaaGreat.tis t i = true → Go.Proofs.YtfopnfgfoicidaaGreat.wlk t c false k l i = (⟨D, N, 0⟩, 0) → Go.Proofs.YtfopnfgfoicidaaGreat.wlk t' c false k l i = (⟨D, N, I⟩, 0) := by
  refine wlk_ind (fun k i hi hw => ?_) (fun k n r i ih ih2 hi hw => ?_)
  · rw [wlk_nil] at hw
    injection hw with hw _
    injection hw with _ _ hw
    rw [hw, zero_tis] at hi
    cases hi
  have hiI : i ≠ I := fun q => by
    rw [q, h.free] at hi
    cases hi
  have h1 : Go.Proofs.YtfopnfgfoicidaaGreat.tis t 1 = true := kind_tis ht.one
  rcases wlk_step t c false k n r i with ⟨a, e⟩ | ⟨a, b, e⟩ | ⟨a, b, e⟩ | ⟨a, b, d, e⟩ | ⟨a, b, d, ⟨x, y, e⟩ | ⟨x, y, ⟨z, e⟩ | ⟨j, hj, e⟩⟩ | ⟨x, y, e⟩ | ⟨x, y, z, e⟩⟩ <;> rw [e] at hw <;> have a' := (h.sr hiI c)
  · injection hw with _ q
    exact absurd q a
  · rw [a] at a'
    rw [wlk_dot a' b]
    exact ih _ hi hw
  · rw [a] at a'
    rw [wlk_up a' b, h.up hiI]
    exact ih _ (kind_tis (up_kind ht (sr_zero.1 a).1)) hw
  · injection hw with _ q
    exact absurd q (by decide)
  · injection hw with _ q
    exact absurd q (by decide)
  · injection hw with _ q
    exact absurd q (by decide)
  · subst hj
    rw [a] at a'
    have hf0 : Go.Proofs.YtfopnfgfoicidaaGreat.fnd (tget t i).ents n ≠ 0 := fun q => by
      have := y.1
      rw [q, zero_kind] at this
      exact absurd this (by decide)
    have hfe : Go.Proofs.YtfopnfgfoicidaaGreat.fnd (tget t' i).ents n = Go.Proofs.YtfopnfgfoicidaaGreat.fnd (tget t i).ents n := by
      rw [h.fnd hiI, if_neg]
      rintro ⟨q1, q2⟩
      rw [q1, q2, fnd_none h.nam] at hf0
      exact hf0 rfl
    have hx := fnd_tis ht hf0
    have hxI : Go.Proofs.YtfopnfgfoicidaaGreat.fnd (tget t i).ents n ≠ I := fun q => by
      rw [q, h.free] at hx
      cases hx
    obtain ⟨s1, -, -, -, -, s6⟩ := h.same hxI
    rw [wlk_link a' b.1 b.2 d (by rw [hfe]; exact x) (by rw [hfe, s1]; exact y), hfe, s6]
    refine ih2 j _ _ (Nat.lt_succ_self _) ?_ hw
    split
    · exact h1
    · exact hi
  · rw [a] at a'
    injection hw with hw _
    injection hw with q1 q2 q3
    subst y
    have hfe : Go.Proofs.YtfopnfgfoicidaaGreat.fnd (tget t' i).ents n = I := by rw [h.fnd hiI, if_pos ⟨q1, q2⟩]
    rw [wlk_last a' b.1 b.2 d (fun q => q.2.elim (fun z => by cases z) (fun z => z rfl)) rfl, hfe, q1, q2]
  · rw [a] at a'
    have hfe : Go.Proofs.YtfopnfgfoicidaaGreat.fnd (tget t' i).ents n = Go.Proofs.YtfopnfgfoicidaaGreat.fnd (tget t i).ents n := by
      rw [h.fnd hiI, if_neg]
      rintro ⟨q1, q2⟩
      rw [q1, q2, fnd_none h.nam] at y
      exact y rfl
    have hx := fnd_tis ht y
    have hxI : Go.Proofs.YtfopnfgfoicidaaGreat.fnd (tget t i).ents n ≠ I := fun q => by
      rw [q, h.free] at hx
      cases hx
    obtain ⟨s1, -⟩ := h.same hxI
    rw [wlk_on a' b.1 b.2 d (by rw [hfe]; exact y) (by rw [hfe, s1]; exact x) z, hfe]
    exact ih _ hx hw
theorem Pla.fit (h : Pla t t' D I N m) (ht : Trx t) (p : Nm) : fitE t' p = fitE t p := by
  have h1 : (1 : Int) ≠ I := fun q => by
    have := h.free
    rw [← q, kind_tis ht.one] at this
    cases this
  unfold fitE
  rw [h.tis h1]
theorem Pla.res (h : Pla t t' D I N m) (ht : Trx t) {c : Wh} {p : Nm} (hr : resM t c p false = (⟨D, N, 0⟩, 0)) : resM t' c p false = (⟨D, N, I⟩, 0) := by
  unfold resM at hr ⊢
  rw [h.fit ht]
  split at hr
  · rename_i q
    injection hr with _ z
    exact absurd z q
  · rename_i q
    rw [if_neg q]
    exact h.wlk ht 8 _ 1 (kind_tis ht.one) hr
theorem Pla.is (h : Pla t t' D I N m) : Go.Proofs.YtfopnfgfoicidaaGreat.tis t' I = true := by
  unfold Go.Proofs.YtfopnfgfoicidaaGreat.tis
  rw [h.new]
  exact decide_eq_true (right_kind h.made.1)
theorem Pla.sta (h : Pla t t' D I N m) (ht : Trx t) {c : Wh} {p : Nm} (hr : resM t c p false = (⟨D, N, 0⟩, 0)) : staM t' c p false = (⟨I, m.kind, m.mode, m.uid, m.gid, 1, sizM m⟩, 0) := by
  unfold staM
  rw [staF_good (by rw [h.res ht hr]) (by rw [h.res ht hr]; exact h.is), h.res ht hr, sta_is h.is, h.new, h.link]
  rfl
/-- What PlantOwn asks for of each node that was there. -/
theorem Pla.keep (h : Pla t t' D I N m) {j : Int} (hj : j ≠ I) : (tget t' j).ents.length = (tget t j).ents.length + (if j = D then 1 else 0) ∧ { tget t' j with ents := (tget t j).ents } = tget t j ∧ (j ≠ D → tget t' j = tget t j) := by
  rw [h.get j]
  by_cases q : j = D
  · rw [if_pos q, if_pos q, q]
    refine ⟨len_ins _ _, rfl, fun z => absurd rfl z⟩
  · rw [if_neg q, if_neg hj, if_neg q]
    exact ⟨rfl, rfl, fun _ => rfl⟩
end
/-- The mode that a directory is made with. -/
def mkM (mode umask : Int) : Int := mskM mode umask + if ((mode % 4096).toNat).testBit 9 = true then 512 else 0
theorem mk_bd (mode umask : Int) : 0 ≤ mkM mode umask ∧ mkM mode umask ≤ 1023 := by
  have := msk_bd mode umask
  unfold mkM
  split <;> omega
theorem mk_low (mode umask : Int) : mkM mode umask % 512 = mskM mode umask := by
  have := msk_bd mode umask
  unfold mkM
  split <;> omega
/-- Nothing of the umask is left among the nine bits. -/
theorem msk_none {M mode umask : Int} (h0 : 0 ≤ M) (h1 : M ≤ 4095) (hu0 : 0 ≤ umask) (hu1 : umask ≤ 65535) (h : M % 512 = mskM mode umask) : bits .and .i64 (bits .and .i64 M umask) 511 = 0 := by
  rw [and_mask _ 9 511 (by decide) (by decide)]
  have e1 : bits .and .i64 M umask = ((M.toNat &&& umask.toNat : Nat) : Int) := by
    show IntKind.i64.wrap ((BitVec.ofInt 64 M &&& BitVec.ofInt 64 umask).toNat : Nat) = _
    rw [BitVec.toNat_and, BitVec.toNat_ofInt, BitVec.toNat_ofInt, show (M % ((2 ^ 64 : Nat) : Int)).toNat = M.toNat from by omega, show (umask % ((2 ^ 64 : Nat) : Int)).toNat = umask.toNat from by omega, IntKind.wrap_i64]
    have := Nat.and_le_left (n := M.toNat) (m := umask.toNat)
    omega
  rw [e1]
  have key : (M.toNat &&& umask.toNat) % 2 ^ 9 = 0 := by
    apply Nat.eq_of_testBit_eq
    intro i
    rw [Nat.testBit_mod_two_pow, Nat.testBit_and, Nat.zero_testBit]
    by_cases hi : i < 9
    · have hm : M.toNat % 2 ^ 9 = ofB (mskF mode umask) 9 := by
        have : M % 512 = ((ofB (mskF mode umask) 9 : Nat) : Int) := h
        omega
      have hb : M.toNat.testBit i = mskF mode umask i := by
        have e := congrArg (fun x => x.testBit i) hm
        simp only [Nat.testBit_mod_two_pow, ofB_bit, hi, decide_true, Bool.true_and] at e
        exact e
      have hub : umask.toNat.testBit i = ((umask % 4096).toNat).testBit i := by
        have e : (umask % 4096).toNat = umask.toNat % 2 ^ 12 := by omega
        rw [e, Nat.testBit_mod_two_pow]
        simp [show i < 12 by omega]
      rw [hb, hub]
      unfold mskF
      cases ((mode % 4096).toNat).testBit i <;> cases ((umask % 4096).toNat).testBit i <;> simp
    · simp [hi]
  omega
end Go.Proofs.YtfopnfgfoicidaaGreat
