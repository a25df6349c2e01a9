/-
  Package files' answers, as plain mathematics: modes behind a write, and files that are made. The conditions are said at each.
-/
import Derived.Test.YtfopnfgfoicidaaGreatFiN
import Derived.Test.YtfopnfgfoicidaaGreatPlK
import Derived.Test.YtfopnfgfoicidaaGreatPlN
namespace Go.Proofs.YtfopnfgfoicidaaGreat
open Go Go.RowKit
set_option maxRecDepth 100000

theorem writ_at : ∀ a b : Fin 64, bits .and .i64 (writM 1 1 ((a.val * 64 + b.val : Nat) : Int)) 2048 = 0 ∧ (bits .and .i64 (writM 1 1 ((a.val * 64 + b.val : Nat) : Int)) 1024 = 0 ∨ bits .and .i64 (writM 1 1 ((a.val * 64 + b.val : Nat) : Int)) 8 = 0) ∧
    bits .andNot .i64 (writM 1 1 ((a.val * 64 + b.val : Nat) : Int)) 3072 = bits .andNot .i64 ((a.val * 64 + b.val : Nat) : Int) 3072 := by decide +kernel
theorem writ_one {u m : Int} (h : u ≠ 0) : writM u 1 m = writM 1 1 m := by
  have e : (u == 0) = ((1 : Int) == 0) := by rw [beq_false_of_ne h]; rfl
  unfold writM
  rw [e]
theorem writ_bits {u m : Int} (hu : u ≠ 0) (h0 : 0 ≤ m) (h1 : m ≤ 4095) : bits .and .i64 (writM u 1 m) 2048 = 0 ∧ (bits .and .i64 (writM u 1 m) 1024 = 0 ∨ bits .and .i64 (writM u 1 m) 8 = 0) ∧ bits .andNot .i64 (writM u 1 m) 3072 = bits .andNot .i64 m 3072 := by
  have h := writ_at ⟨m.toNat / 64, by omega⟩ ⟨m.toNat % 64, by omega⟩
  have e : (((m.toNat / 64) * 64 + m.toNat % 64 : Nat) : Int) = m := by omega
  simp only [e] at h
  rw [writ_one hu]
  exact h
/-- A file behind writes. -/
structure Wrt (u : Int) (ch : Bool) (a n : Nd) : Prop where
  clean : ch = true → u ≠ 0 → bits .and .i64 n.mode 2048 = 0 ∧ (bits .and .i64 n.mode 1024 = 0 ∨ bits .and .i64 n.mode 8 = 0)
  low : bits .andNot .i64 n.mode 3072 = bits .andNot .i64 a.mode 3072
  own : n.uid = a.uid ∧ n.gid = a.gid
  root : u = 0 → n.mode = a.mode
  still : ch = false → n.mode = a.mode
theorem wrt_none (u : Int) (a : Nd) : Wrt u false a a := ⟨fun q => absurd q (by decide), rfl, ⟨rfl, rfl⟩, fun _ => rfl, fun _ => rfl⟩
theorem wrt_step {c : Wh} {ch : Bool} {a n : Nd} (h : Wrt c.u ch a n) (hr : rightP n) (hk : n.kind = 1) (b : List UInt8) : Wrt c.u true a (wrN c n b) := by
  have hm := hr.1.1
  by_cases hu : c.u = 0
  · have e : (wrN c n b).mode = n.mode := by show writM c.u n.kind n.mode = n.mode; exact writ_all (.inl hu) hm.1 (by omega)
    exact ⟨fun _ q => absurd hu q, by rw [e]; exact h.low, h.own, fun q => by rw [e]; exact h.root q, fun q => absurd q (by decide)⟩
  · have e : (wrN c n b).mode = writM c.u 1 n.mode := by show writM c.u n.kind n.mode = _; rw [hk]
    obtain ⟨g1, g2, g3⟩ := writ_bits hu hm.1 hm.2
    exact ⟨fun _ _ => by rw [e]; exact ⟨g1, g2⟩, by rw [e, g3]; exact h.low, h.own, fun q => absurd q hu, fun q => absurd q (by decide)⟩
/-- Behind Open and a write. -/
structure Cln (T T1 T2 : List Nd) (u I : Int) (trunc ch : Bool) : Prop where
  same : trunc = false → T1 = T
  file : Wrt u ch (tget T I) (tget T2 I)
  other : ∀ k, k ≠ I → tget T2 k = tget T k
  len : T2.length = T.length
theorem clean_all {T : List Nd} (ho : okT T) (c : Wh) (p : Nm) (trunc : Bool) (b : List UInt8) (he : foE T c 0 p (if trunc = true then 18 else 2) 0 = 0) :
    Cln T (foT T c 0 p (if trunc = true then 18 else 2) 0) (fwT (foT T c 0 p (if trunc = true then 18 else 2) 0) c (foI T c 0 p (if trunc = true then 18 else 2) 0) 0 b) c.u (foI T c 0 p (if trunc = true then 18 else 2) 0) trunc (trunc || (decide (fwE (foT T c 0 p (if trunc = true then 18 else 2) 0) (foI T c 0 p (if trunc = true then 18 else 2) 0) 0 b = 0) && decide (b ≠ []))) := by
  obtain ⟨fl, hfl⟩ : ∃ fl : Int, (if trunc = true then 18 else 2) = fl := ⟨_, rfl⟩
  rw [hfl] at he ⊢
  have h2 : flB fl 2 = false := by cases trunc <;> (rw [← hfl]; decide +kernel)
  have h4 : flB fl 4 = trunc := by cases trunc <;> (rw [← hfl]; decide +kernel)
  obtain ⟨hr, z2, ⟨-, q, -⟩ | ⟨z3, z4⟩⟩ := fo_zero he
  · rw [h2] at q
    exact absurd q (by decide)
  have hI : foI T c 0 p fl 0 = (resM T c p (flF fl)).1.node := by unfold foI; rw [if_neg (fun q => q he), if_neg z3]
  have hT : foT T c 0 p fl 0 = if trunc = true then setT T (resM T c p (flF fl)).1.node (wrN c (tget T (resM T c p (flF fl)).1.node) []) else T := by unfold foT; rw [if_neg (fun q => q he), if_neg z3, h4]
  rw [hI, hT]
  obtain ⟨hk, hi⟩ := fx_file ho z4 hr
  have hR := fo_right ho c z4 hr
  generalize (resM T c p (flF fl)).1.node = i at hk hi hR z4 ⊢
  have hra := tis_right ho hi
  have hin := tis_in hi
  have key : ∀ (T1 : List Nd) (ch : Bool), okT T1 → (tget T1 i).kind = 1 → Wrt c.u ch (tget T i) (tget T1 i) → (∀ k, k ≠ i → tget T1 k = tget T k) → T1.length = T.length →
      Wrt c.u (ch || (decide (fwE T1 i 0 b = 0) && decide (b ≠ []))) (tget T i) (tget (fwT T1 c i 0 b) i) ∧ (∀ k, k ≠ i → tget (fwT T1 c i 0 b) k = tget T k) ∧ (fwT T1 c i 0 b).length = T.length := fun T1 ch o1 k1 w1 g1 l1 => by
    by_cases q : fwE T1 i 0 b = 0 ∧ b ≠ []
    · have e : (ch || (decide (fwE T1 i 0 b = 0) && decide (b ≠ []))) = true := by rw [decide_eq_true q.1, decide_eq_true q.2]; simp
      rw [e]
      refine ⟨?_, fun k hk => ?_, ?_⟩
      · rw [fw_get q.1 q.2, if_pos rfl]
        exact wrt_step w1 (tis_right o1 (kind_is k1)) k1 _
      · rw [fw_get q.1 q.2, if_neg hk]
        exact g1 k hk
      · unfold fwT
        rw [if_pos q, len_setT]
        exact l1
    · have e : (ch || (decide (fwE T1 i 0 b = 0) && decide (b ≠ []))) = ch := by
        have : (decide (fwE T1 i 0 b = 0) && decide (b ≠ [])) = false := by
          by_cases q1 : fwE T1 i 0 b = 0
          · rw [decide_eq_false (show ¬ b ≠ [] from fun z => q ⟨q1, z⟩)]; simp
          · rw [decide_eq_false q1]; rfl
        rw [this, Bool.or_false]
      have et : fwT T1 c i 0 b = T1 := by unfold fwT; rw [if_neg q]
      rw [e, et]
      exact ⟨w1, g1, l1⟩
  cases trunc with
  | false =>
    rw [if_neg (by decide)]
    obtain ⟨k1, k2, k3⟩ := key T false ho hk (wrt_none c.u _) (fun _ _ => rfl) rfl
    exact ⟨fun _ => rfl, k1, k2, k3⟩
  | true =>
    rw [if_pos rfl]
    have hg : ∀ k, tget (setT T i (wrN c (tget T i) [])) k = if k = i then wrN c (tget T i) [] else tget T k := fun k => tget_set hin
    obtain ⟨k1, k2, k3⟩ := key (setT T i (wrN c (tget T i) [])) true (ok_setT ho _ (.inr hR)) (by rw [hg, if_pos rfl]; exact hk) (by rw [hg, if_pos rfl]; exact wrt_step (wrt_none c.u _) hra hk []) (fun k hk => by rw [hg, if_neg hk]) (len_setT ..)
    exact ⟨fun q => absurd q (by decide), k1, k2, k3⟩
/-- A file that is made with exclusion. -/
structure Mks (T T1 : List Nd) (c : Wh) (p : Nm) (um md E I : Int) (G : Sta × Int) : Prop where
  here : G.2 = 0 → E = 17 ∧ T1 = T
  err : E ≠ 0 → T1 = T ∧ I = 0
  made : G.2 ≠ 0 → E = 0 → G.2 = 2 ∧ (∃ gid, staM T1 c p false = (⟨I, 1, mskM md um, c.u, gid, 1, 0⟩, 0)) ∧ (∀ um' md', foE T1 c um' p 14 md' = 17 ∧ foT T1 c um' p 14 md' = T1) ∧ Trx T1
theorem makes_all {T : List Nd} (h : Trx T) (c : Wh) (p : Nm) (um md : Int) : Mks T (foT T c um p 14 md) c p um md (foE T c um p 14 md) (foI T c um p 14 md) (staM T c p false) := by
  have hr : flR 14 = true := by decide +kernel
  have hf : flF 14 = false := by decide +kernel
  have h3 : flB 14 3 = true := by decide +kernel
  have seen : ∀ {t : List Nd} {um' md' : Int}, (resM t c p false).2 = 0 → (resM t c p false).1.node ≠ 0 → foE t c um' p 14 md' = 17 := fun z1 z2 => by
    unfold foE
    rw [hr, if_neg (by decide), hf, if_neg (fun q => q z1), if_neg z2]
    unfold fxE
    rw [if_pos h3]
  refine ⟨fun q => ?_, fun q => fo_err q, fun q hz => ?_⟩
  · obtain ⟨s1, s2, -⟩ := staF_zero q
    have hn : (resM T c p false).1.node ≠ 0 := fun z => by rw [z] at s2; exact absurd s2 (by rw [show tis T 0 = false from by unfold tis; rw [tget_out (by omega)]; rfl]; decide)
    have e := seen (um' := um) (md' := md) s1 hn
    exact ⟨e, (fo_err (by rw [e]; decide)).1⟩
  · obtain ⟨-, z2, z3⟩ := fo_zero hz
    rw [hf] at z2 z3
    rcases z3 with ⟨z3, -, z4⟩ | ⟨-, z4⟩
    · have hT : foT T c um p 14 md = crT T c um p md false := by unfold foT; rw [if_neg (fun q => q hz), hf, if_pos z3]
      have hI : foI T c um p 14 md = (freeT T 0 : Int) := by
        unfold foI crI plI
        rw [if_neg (fun q => q hz), hf, if_pos z3]
        exact if_pos z4
      rw [hT, hI]
      have hG : (staM T c p false).2 = 2 := by
        unfold staM staF
        rw [if_neg (fun q => q z2), z3, if_neg (by rw [show tis T 0 = false from by unfold tis; rw [tget_out (by omega)]; rfl]; decide)]
      obtain ⟨-, -, -, hP⟩ := pl_pla h (k := 1) (m := mskM md um) (tg := []) (by decide) z4
      have hcr : plT T c (resM T c p false) 1 (mskM md um) [] = crT T c um p md false := rfl
      rw [hcr] at hP
      have hR : resM T c p false = (⟨(resM T c p false).1.dir, (resM T c p false).1.name, 0⟩, 0) := by
        generalize resM T c p false = R at z2 z3 ⊢
        obtain ⟨⟨d, n, i⟩, e⟩ := R
        have h1 : e = 0 := z2
        have h2 : i = 0 := z3
        rw [h1, h2]
      have hS := hP.sta h (c := c) (p := p) hR
      have hm : (plR T c (resM T c p false).1 1 (mskM md um) []).nd.mode = mskM md um := if_neg (fun q => absurd q.2 (by decide))
      rw [hm] at hS
      have hres := hP.res h (c := c) (p := p) hR
      have hIn : (freeT T 0 : Int) ≠ 0 := fun q => by have h1 := hP.is; rw [q] at h1; exact absurd h1 (by rw [show tis (crT T c um p md false) 0 = false from by unfold tis; rw [tget_out (by omega)]; rfl]; decide)
      have e17 : ∀ um' md', foE (crT T c um p md false) c um' p 14 md' = 17 := fun um' md' => seen (by rw [hres]) (by rw [hres]; exact hIn)
      exact ⟨hG, ⟨(plR T c (resM T c p false).1 1 (mskM md um) []).nd.gid, hS.trans (by rfl)⟩, fun um' md' => ⟨e17 um' md', (fo_err (by rw [e17 um' md']; decide)).1⟩, cr_trx h c um p md false⟩
    · unfold fxE at z4
      rw [if_pos h3] at z4
      exact absurd z4 (by decide)
end Go.Proofs.YtfopnfgfoicidaaGreat
