/-
  What PlantOwn asks for, all in one; plain mathematics. The conditions are said at each.
-/
import Derived.Test.YtgcllgfkifpkeaaGreatPlC
import Derived.Test.YtgcllgfkifpkeaaGreatCC
namespace Go.Proofs.YtgcllgfkifpkeaaGreat
open Go Go.RowKit
set_option maxRecDepth 100000

structure OwnG (t : List Nd) (c : Wh) (umask : Int) (p : Nm) (T1 : List Nd) (S : Sta) (D : Int) : Prop where
  sta : staM T1 c p false = (S, 0)
  uid : S.uid = c.u
  links : S.links = 1
  suid : bits .and .i64 S.mode 2048 = 0
  mask : S.kind ≠ 3 → bits .and .i64 (bits .and .i64 S.mode umask) 511 = 0
  used : usedT T1 = usedT t + 1
  trx : Trx T1
  par : (parT T1 0 S.node : Int) = D
  free : tis t S.node = false
  len : T1.length = t.length
  keep : ∀ j, j ≠ S.node → (tget T1 j).ents.length = (tget t j).ents.length + (if j = D then 1 else 0) ∧ { tget T1 j with ents := (tget t j).ents } = tget t j ∧ (j ≠ D → tget T1 j = tget t j)
structure OwnF (t : List Nd) (c : Wh) (umask : Int) (p : Nm) (E : Int) (T1 : List Nd) : Prop where
  err : E ≠ 0 → T1 = t
  good : E = 0 → ∃ S D, OwnG t c umask p T1 S D
theorem own_all {t : List Nd} (ht : Trx t) {c : Wh} {umask : Int} {p : Nm} {mode k m : Int} {tg : Nm} (hk : 1 ≤ k ∧ k ≤ 3) (hm0 : 0 ≤ m ∧ m ≤ 1023) (hm : k ≠ 3 → m % 512 = mskM mode umask) (hu : 0 ≤ umask ∧ umask ≤ 65535) :
    OwnF t c umask p (plE t c (resM t c p false) k m tg) (plT t c (resM t c p false) k m tg) := by
  refine ⟨fun q => (pl_err q).1, fun q => ?_⟩
  obtain ⟨z1, z2, -⟩ := pl_zero.1 q
  have h := (pl_pla ht (c := c) (p := p) (f := false) (k := k) (m := m) (tg := tg) (by omega) q).2.2.2
  generalize plT t c (resM t c p false) k m tg = T1 at h
  obtain ⟨R, hR⟩ : ∃ R, resM t c p false = R := ⟨_, rfl⟩
  rw [hR] at h z1 z2
  obtain ⟨⟨D, N, F⟩, e⟩ := R
  have z1' : e = 0 := z1
  have z2' : F = 0 := z2
  subst z1' z2'
  have hs := h.sta ht hR
  have hM : 0 ≤ (if sgB (tget t D) = true ∧ k = 2 then m + 1024 else m) ∧ (if sgB (tget t D) = true ∧ k = 2 then m + 1024 else m) ≤ 2047 ∧ (k ≠ 3 → (if sgB (tget t D) = true ∧ k = 2 then m + 1024 else m) % 512 = mskM mode umask) := by
    split
    · exact ⟨by omega, by omega, fun r => by rw [← hm r]; omega⟩
    · exact ⟨by omega, by omega, hm⟩
  have hmd : (plR t c ⟨D, N, 0⟩ k m tg).nd.mode = (if sgB (tget t D) = true ∧ k = 2 then m + 1024 else m) := rfl
  refine ⟨_, D, hs, rfl, rfl, ?_, fun r => ?_, h.used, h.trx, h.own, h.free, h.len, fun j hj => h.keep hj⟩
  · show bits .and .i64 (plR t c ⟨D, N, 0⟩ k m tg).nd.mode 2048 = 0
    rw [hmd, and2048]
    omega
  · show bits .and .i64 (bits .and .i64 (plR t c ⟨D, N, 0⟩ k m tg).nd.mode umask) 511 = 0
    rw [hmd]
    exact msk_none hM.1 (by omega) hu.1 hu.2 (hM.2.2 r)
theorem own_mk {t : List Nd} (ht : Trx t) (c : Wh) {umask : Int} (p : Nm) (mode : Int) (hu : 0 ≤ umask ∧ umask ≤ 65535) : OwnF t c umask p (mkE t c umask p mode) (mkT t c umask p mode) :=
  own_all (mode := mode) ht ⟨by decide, by decide⟩ (mk_bd mode umask) (fun _ => mk_low mode umask) hu
theorem own_cr {t : List Nd} (ht : Trx t) (c : Wh) {umask : Int} (p : Nm) (mode : Int) (hu : 0 ≤ umask ∧ umask ≤ 65535) : OwnF t c umask p (crE t c umask p mode false) (crT t c umask p mode false) := by
  have hm := msk_bd mode umask
  exact own_all (mode := mode) ht ⟨by decide, by decide⟩ ⟨hm.1, by omega⟩ (fun _ => by omega) hu
theorem own_sy {t : List Nd} (ht : Trx t) (c : Wh) {umask : Int} (p : Nm) (hu : 0 ≤ umask ∧ umask ≤ 65535) : OwnF t c umask p (syE t c [113] p) (syT t c [113] p) := by
  obtain ⟨e1, e2⟩ := sy_plain (t := t) (c := c) (tg := [113]) (p := p) (by decide +kernel)
  rw [e1, e2]
  exact own_all (mode := 0) ht ⟨by decide, by decide⟩ ⟨by decide, by decide⟩ (fun q => absurd rfl q) hu
end Go.Proofs.YtgcllgfkifpkeaaGreat
