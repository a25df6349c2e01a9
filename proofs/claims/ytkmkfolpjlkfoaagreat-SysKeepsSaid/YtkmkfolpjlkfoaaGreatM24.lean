/-
  The document's examples of stage 16, as plain mathematics. No condition. The document's example of stage 17, as plain mathematics. No condition. A file that is opened and read to its end, as plain mathematics; a node that is read, where its bytes lie. The conditions are said at each. The document's example of stage 17: awake. The condition: what is said of package sys. Arguments of the statements of stages 10 and on, read and shut again. No condition. Bytes as an argument of the statements of stage 16: read with the room that they have. No condition. Arguments of the statements of stage 17, read and shut again: calls, each by who makes it; who ask, with their bulk. No condition.
-/
import Derived.Test.YtkmkfolpjlkfoaaGreatM4
import Derived.Test.YtkmkfolpjlkfoaaGreatM6
import Derived.Test.YtkmkfolpjlkfoaaGreatM10
import Derived.Test.YtkmkfolpjlkfoaaGreatM11
import Derived.Test.YtkmkfolpjlkfoaaGreatM12
import Derived.Test.YtkmkfolpjlkfoaaGreatM13
import Derived.Test.YtkmkfolpjlkfoaaGreatM20
import Derived.Lib.SlBytesConst
import Derived.ProofKit
import Derived.OpenShut
import Derived.Deep.DeepHandedRow
import Derived.Carry
import Derived.Lib.LaidTab
import Derived.Deep.Slices
import Derived.Deep.Strs
namespace Go.Proofs.YtkmkfolpjlkfoaaGreat
open Go Go.RowKit
set_option maxRecDepth 100000

def fz0 : Rw := ⟨2, 493, 0, 0, 0, [], [], [], 0⟩
def fz1 : Rw := ⟨2, 488, 1, 1, 1, [100], [], [], 0⟩
def fz2 : Rw := ⟨1, 420, 1, 1, 2, [102], [104, 105], [], 0⟩
def fz3 : Rw := ⟨3, 511, 0, 0, 1, [115], [], [100, 47, 102], 0⟩
def fzD (k m u g : Int) (d : List UInt8) (e : List En) (tg : Nm) : Nd := ⟨k, m, u, g, d, e, tg⟩
def fzA0 : List Nd := [fzD 2 493 0 0 [] [] [], Nd.zero, Nd.zero, Nd.zero, Nd.zero, Nd.zero, Nd.zero, Nd.zero, Nd.zero]
def fzA1 : List Nd := [fzD 2 493 0 0 [] [([100], 2)] [], fzD 2 488 1 1 [] [] [], Nd.zero, Nd.zero, Nd.zero, Nd.zero, Nd.zero, Nd.zero, Nd.zero]
def fzA2 : List Nd := [fzD 2 493 0 0 [] [([100], 2)] [], fzD 2 488 1 1 [] [([102], 3)] [], fzD 1 420 1 1 [104, 105] [] [], Nd.zero, Nd.zero, Nd.zero, Nd.zero, Nd.zero, Nd.zero]
def fzT (d : List UInt8) : List Nd := [fzD 2 493 0 0 [] [([100], 2), ([115], 4)] [], fzD 2 488 1 1 [] [([102], 3)] [], fzD 1 420 1 1 d [] [], fzD 3 511 0 0 [] [] [100, 47, 102], Nd.zero, Nd.zero, Nd.zero, Nd.zero, Nd.zero]
theorem fz_dir {m u g : Int} (h1 : 0 ≤ m ∧ m ≤ 4095) (h2 : 0 ≤ u ∧ u ≤ 65535) (h3 : 0 ≤ g ∧ g ≤ 65535) : rightP (fzD 2 m u g [] [] []) := ⟨⟨h1, h2, h3⟩, .inr (.inl ⟨rfl, rfl, rfl, ents_nil⟩)⟩
theorem fz_all : bldA 9 [fz0, fz1, fz2, fz3] = .good (fzT [104, 105]) := by
  have r0 : rightP fz0.nd := fz_dir (by decide) (by decide) (by decide)
  have r1 : rightP fz1.nd := fz_dir (by decide) (by decide) (by decide)
  have r2 : rightP fz2.nd := ⟨⟨by decide, by decide, by decide⟩, .inl ⟨rfl, rfl, rfl, by decide⟩⟩
  have r3 : rightP fz3.nd := ⟨⟨by decide, by decide, by decide⟩, .inr (.inr ⟨rfl, rfl, rfl, rfl, by decide +kernel⟩)⟩
  have h0 : rtE (newN 9) fz0 = 0 := rt_zero.2 ⟨rfl, rfl, rfl, r0, by rw [new_free]; decide⟩
  have e0 : rtT (newN 9) fz0 = fzA0 := rfl
  rw [bldA, if_pos h0, e0, bld]
  have k1 : enE fzA0 fz1 = 0 := en_zero.2 (.inr ⟨by decide, r1, by decide⟩)
  have i1 : enI fzA0 fz1 = 2 := by unfold enI; rw [if_pos k1]; rfl
  have w1 : withE (tget fzA0 1) [100] 2 = 0 := by decide
  have h1 : blE fzA0 fz1 = 0 := bl_zero.2 ⟨rfl, k1, by rw [i1]; exact w1⟩
  have e1 : blT fzA0 fz1 = fzA1 := by
    unfold blT enT
    rw [if_pos k1, i1]
    rfl
  rw [if_pos h1, e1, bld]
  have k2 : enE fzA1 fz2 = 0 := en_zero.2 (.inr ⟨by decide, r2, by decide⟩)
  have i2 : enI fzA1 fz2 = 3 := by unfold enI; rw [if_pos k2]; rfl
  have w2 : withE (tget fzA1 2) [102] 3 = 0 := by decide
  have h2 : blE fzA1 fz2 = 0 := bl_zero.2 ⟨rfl, k2, by rw [i2]; exact w2⟩
  have e2 : blT fzA1 fz2 = fzA2 := by
    unfold blT enT
    rw [if_pos k2, i2]
    rfl
  rw [if_pos h2, e2, bld]
  have k3 : enE fzA2 fz3 = 0 := en_zero.2 (.inr ⟨by decide, r3, by decide⟩)
  have i3 : enI fzA2 fz3 = 4 := by unfold enI; rw [if_pos k3]; rfl
  have w3 : withE (tget fzA2 1) [115] 4 = 0 := by decide
  have h3 : blE fzA2 fz3 = 0 := bl_zero.2 ⟨rfl, k3, by rw [i3]; exact w3⟩
  have e3 : blT fzA2 fz3 = fzT [104, 105] := by
    unfold blT enT
    rw [if_pos k3, i3]
    rfl
  rw [if_pos h3, e3, bld]
theorem fz_trx : Trx (fzT [104, 105]) := (tre_all fz_all).1
def whF : Wh := ⟨1, 1, []⟩
theorem fz_r2 : resM (fzT [104, 105]) whF [115] true = (⟨2, [102], 3⟩, 0) := by
  have h1 : fitE (fzT [104, 105]) [115] = 0 := by decide +kernel
  have h2 : splitP [115] = [[115]] := by decide +kernel
  have f1 : fnd (tget (fzT [104, 105]) 1).ents [115] = 4 := by decide +kernel
  have t4 : (tget (fzT [104, 105]) 4).target = [100, 47, 102] := rfl
  have k4 : (tget (fzT [104, 105]) 4).kind = 3 := rfl
  have h3 : splitP [100, 47, 102] = [[100], [102]] := by decide +kernel
  have f2 : fnd (tget (fzT [104, 105]) 1).ents [100] = 2 := by decide +kernel
  have f3 : fnd (tget (fzT [104, 105]) 2).ents [102] = 3 := by decide +kernel
  have s1 : srE (fzT [104, 105]) whF 1 = 0 := by decide +kernel
  have s2 : srE (fzT [104, 105]) whF 2 = 0 := by decide +kernel
  have a0 : ¬ absP [100, 47, 102] = true := by decide +kernel
  unfold resM
  rw [if_neg (fun q => q h1), h2,
    wlk_link s1 (by decide) (by decide) (by decide) (by rw [f1]; exact fun q => absurd q.1 (by decide)) (by rw [f1]; exact ⟨k4, .inl rfl⟩), f1, t4, if_neg a0, h3]
  show wlk (fzT [104, 105]) whF true 7 [[100], [102]] 1 = _
  rw [wlk_on s1 (by decide) (by decide) (by decide) (by rw [f2]; decide) (by rw [f2]; exact fun q => absurd q.1 (by decide +kernel)) (by decide), f2,
    wlk_last s2 (by decide) (by decide) (by decide) (by rw [f3]; exact fun q => absurd q.1 (by decide +kernel)) rfl, f3]
end Go.Proofs.YtkmkfolpjlkfoaaGreat
namespace Go.Proofs.YtkmkfolpjlkfoaaGreat
open Go Go.RowKit
set_option maxRecDepth 100000

def sxT : List Nd := fzT [104, 105]
def sxU : List Nd := [fzD 2 493 0 0 [] [([100], 2), ([115], 4)] [], fzD 2 488 1 1 [] [] [], fzD 1 420 1 1 [104, 105] [] [], fzD 3 511 0 0 [] [] [100, 47, 102], Nd.zero, Nd.zero, Nd.zero, Nd.zero, Nd.zero]
def sxV : List Nd := [fzD 2 493 0 0 [] [([100], 2), ([115], 4)] [], fzD 2 488 1 1 [] [] [], Nd.zero, fzD 3 511 0 0 [] [] [100, 47, 102], Nd.zero, Nd.zero, Nd.zero, Nd.zero, Nd.zero]
def sxP (f : Fdm) : Prm := ⟨whF, 18, [f, Fdm.zero, Fdm.zero]⟩
def sxQ : Prm := ⟨wh0, 18, [Fdm.zero, Fdm.zero, Fdm.zero]⟩
def sxS (t : List Nd) (f : Fdm) : Sym := ⟨t, [sxP f, sxQ]⟩
def sxO : Cal := ⟨13, [115], [], 1, 0, []⟩
def sxK : Cal := ⟨10, [100, 47, 102], [], 0, 0, []⟩
def sxR : Cal := ⟨14, [], [], 0, 9, []⟩
def sxC : Cal := ⟨16, [], [], 0, 0, []⟩
theorem sx_new : newS sxT 18 [whF, wh0] = sxS sxT Fdm.zero := rfl
theorem sx_o0 : foE sxT whF 18 [115] 1 0 = 0 := by
  unfold foE
  rw [show flR 1 = true from by decide +kernel, if_neg (by decide), show flF 1 = true from by decide +kernel]
  unfold sxT
  rw [fz_r2, if_neg (fun q => q rfl), if_neg (by decide)]
  decide +kernel
theorem sx_o1 : foT sxT whF 18 [115] 1 0 = sxT := by
  unfold foT
  rw [if_neg (fun q => q sx_o0), show flF 1 = true from by decide +kernel]
  unfold sxT
  rw [fz_r2, if_neg (by decide), if_neg (by decide +kernel)]
theorem sx_o2 : foI sxT whF 18 [115] 1 0 = 3 := by
  unfold foI
  rw [if_neg (fun q => q sx_o0), show flF 1 = true from by decide +kernel]
  unfold sxT
  rw [fz_r2, if_neg (by decide)]
theorem sx_open : doS (sxS sxT Fdm.zero) 0 sxO = (sxS sxT ⟨3, 0, true, false⟩, Rsm.k 0) := by
  show opnK (sxS sxT Fdm.zero) 0 (sxP Fdm.zero) sxO = _
  unfold opnK
  rw [if_neg (by decide +kernel)]
  show (if foE sxT whF 18 [115] 1 0 ≠ 0 then _ else _) = _
  rw [if_neg (fun q => q sx_o0)]
  show ((⟨foT sxT whF 18 [115] 1 0, [(sxP Fdm.zero).setF (frePl (sxP Fdm.zero)) ⟨foI sxT whF 18 [115] 1 0, 0, flB 1 0, flB 1 1⟩, sxQ]⟩ : Sym), Rsm.k (frePl (sxP Fdm.zero))) = _
  rw [sx_o1, sx_o2]
  rfl
theorem sx_r1 : resM sxT wh0 [100, 47, 102] false = (⟨2, [102], 3⟩, 0) := by
  unfold sxT
  have h1 : fitE (fzT [104, 105]) [100, 47, 102] = 0 := by decide +kernel
  have h2 : splitP [100, 47, 102] = [[100], [102]] := by decide +kernel
  have f2 : fnd (tget (fzT [104, 105]) 1).ents [100] = 2 := by decide +kernel
  have f3 : fnd (tget (fzT [104, 105]) 2).ents [102] = 3 := by decide +kernel
  have s1 : srE (fzT [104, 105]) wh0 1 = 0 := by decide +kernel
  have s2 : srE (fzT [104, 105]) wh0 2 = 0 := by decide +kernel
  unfold resM
  rw [if_neg (fun q => q h1), h2,
    wlk_on s1 (by decide) (by decide) (by decide) (by rw [f2]; decide) (by rw [f2]; exact fun q => absurd q.1 (by decide +kernel)) (by decide), f2,
    wlk_last s2 (by decide) (by decide) (by decide) (by rw [f3]; exact fun q => absurd q.1 (by decide +kernel)) rfl, f3]
theorem sx_u0 : ulE sxT wh0 (⟨2, [102], 3⟩, 0) = 0 := by decide +kernel
theorem sx_u1 : ulT sxT wh0 (⟨2, [102], 3⟩, 0) [3] = sxU := by
  unfold ulT
  rw [if_pos sx_u0]
  rfl
theorem sx_unlink : doS (sxS sxT ⟨3, 0, true, false⟩) 1 sxK = (sxS sxU ⟨3, 0, true, false⟩, Rsm.e 0) := by
  show ((⟨ulT sxT wh0 (resM sxT wh0 [100, 47, 102] false) [3], [sxP ⟨3, 0, true, false⟩, sxQ]⟩ : Sym), Rsm.e (ulE sxT wh0 (resM sxT wh0 [100, 47, 102] false))) = _
  rw [sx_r1, sx_u0, sx_u1]
  rfl
theorem sx_read : doS (sxS sxU ⟨3, 0, true, false⟩) 0 sxR = (sxS sxU ⟨3, 2, true, false⟩, ⟨0, 0, Sta.zero, [], [], [104, 105]⟩) := by
  show reaK (sxS sxU ⟨3, 0, true, false⟩) 0 (sxP ⟨3, 0, true, false⟩) sxR = _
  rfl
theorem sx_close : doS (sxS sxU ⟨3, 2, true, false⟩) 0 sxC = (sxS sxV Fdm.zero, Rsm.e 0) := by
  show cloK (sxS sxU ⟨3, 2, true, false⟩) 0 (sxP ⟨3, 2, true, false⟩) sxC = _
  rfl
theorem sx_used0 : usedT sxT = 4 := by decide +kernel
theorem sx_used1 : usedT sxU = 4 := by decide +kernel
theorem sx_used2 : usedT sxV = 3 := by decide +kernel
theorem sx_um : umS (sxS sxV Fdm.zero) 1 = 18 := rfl
theorem sx_opn (t : List Nd) : opnS (sxS t Fdm.zero) = [] := rfl
theorem sx_i0 : Inv (sxS sxT Fdm.zero) := by
  rw [← sx_new]
  exact inv_new fz_trx 18 (fun c hc => by
    simp only [List.mem_cons, List.not_mem_nil, or_false] at hc
    rcases hc with rfl | rfl <;> decide)
theorem sx_i1 : Inv (sxS sxT ⟨3, 0, true, false⟩) := by
  have h := inv_do sx_i0 0 sxO
  rw [sx_open] at h
  exact h
theorem sx_i2 : Inv (sxS sxU ⟨3, 0, true, false⟩) := by
  have h := inv_do sx_i1 1 sxK
  rw [sx_unlink] at h
  exact h
theorem sx_i3 : Inv (sxS sxU ⟨3, 2, true, false⟩) := by
  have h := inv_do sx_i2 0 sxR
  rw [sx_read] at h
  exact h
theorem sx_few {t : List Nd} {f : Fdm} (h : Inv (sxS t f)) : (opnS (sxS t f)).length ≤ 1000 := inv_opn_few h (n := 2) (Nat.le_refl _) (by decide)
end Go.Proofs.YtkmkfolpjlkfoaaGreat
namespace Go.Proofs.YtkmkfolpjlkfoaaGreat
open Go Go.RowKit
set_option maxRecDepth 100000

def opC (P : Nm) : Cal := ⟨13, P, [], 1, 0, []⟩
theorem kep_open {T : List Nd} (h : Trx T) (P : Nm) : (doS (newS T 18 [wh0, wh0]) 0 (opC P)).2.n = 0 ∧ ((doS (newS T 18 [wh0, wh0]) 0 (opC P)).2.err = 0 →
    (fdS (doS (newS T 18 [wh0, wh0]) 0 (opC P)).1 0 0).off = 0 ∧ Kep (doS (newS T 18 [wh0, wh0]) 0 (opC P)).1 (fdS (doS (newS T 18 [wh0, wh0]) 0 (opC P)).1 0 0).node (tget (doS (newS T 18 [wh0, wh0]) 0 (opC P)).1.t (fdS (doS (newS T 18 [wh0, wh0]) 0 (opC P)).1 0 0).node).data 0 0) := by
  have hI : Inv (newS T 18 [wh0, wh0]) := inv_new h 18 (fun c hc => by
    have : c = wh0 := by simpa using hc
    rw [this]
    decide)
  have hd := inv_do hI 0 (opC P)
  have e : doS (newS T 18 [wh0, wh0]) 0 (opC P) = opnK (newS T 18 [wh0, wh0]) 0 (whoS 18 wh0) (opC P) := by
    show (if (1 : Int) ≤ 13 ∧ (13 : Int) ≤ 18 then opnK (newS T 18 [wh0, wh0]) 0 (whoS 18 wh0) (opC P) else (newS T 18 [wh0, wh0], Rsm.e 22)) = _
    rw [if_pos (by decide)]
  rw [e] at hd ⊢
  have hf : frePl (whoS 18 wh0) = 0 := by decide
  unfold opnK at hd ⊢
  rw [hf] at hd ⊢
  rw [if_neg (show ¬ (whoS 18 wh0).f.length ≤ 0 by decide)] at hd ⊢
  by_cases q : foE (newS T 18 [wh0, wh0]).t (whoS 18 wh0).c (whoS 18 wh0).um (opC P).path (opC P).a (opC P).b ≠ 0
  · rw [if_pos q]
    exact ⟨rfl, fun z => absurd z q⟩
  · rw [if_neg q] at hd ⊢
    have q0 : foE T wh0 18 P 1 0 = 0 := Classical.byContradiction q
    refine ⟨rfl, fun _ => ?_⟩
    have hfd : fdS (⟨foT T wh0 18 P 1 0, (newS T 18 [wh0, wh0]).p.set 0 ((whoS 18 wh0).setF 0 ⟨foI T wh0 18 P 1 0, 0, flB 1 0, flB 1 1⟩)⟩ : Sym) 0 0 = ⟨foI T wh0 18 P 1 0, 0, true, false⟩ := rfl
    have hk1 := (fo_kpo (tro_tre (tre_trx h) (fun _ => False)) wh0 18 P 1 0).2.2.2 q0
    have hne : foI T wh0 18 P 1 0 ≠ 0 := fun z => by
      rw [z, zero_kind] at hk1
      exact absurd hk1 (by decide)
    show (fdS (⟨foT T wh0 18 P 1 0, (newS T 18 [wh0, wh0]).p.set 0 ((whoS 18 wh0).setF 0 ⟨foI T wh0 18 P 1 0, 0, flB 1 0, flB 1 1⟩)⟩ : Sym) 0 0).off = 0 ∧ _
    rw [hfd]
    exact ⟨rfl, hd, ⟨(whoS 18 wh0).setF 0 ⟨foI T wh0 18 P 1 0, 0, flB 1 0, flB 1 1⟩, rfl, hfd⟩, hne, rfl, Nat.zero_le _, .inl (Nat.zero_le _), rfl⟩
theorem Kep.fd {S : Sym} {I : Int} {D : List UInt8} {k off : Nat} (h : Kep S I D k off) : fdS S 0 0 = ⟨I, (off : Int), true, false⟩ := by
  obtain ⟨p, h1, h2⟩ := h.p0
  unfold fdS prI
  rw [if_pos (by decide)]
  show (match S.p[0]? with | none => Fdm.zero | some p => p.fd 0) = _
  rw [h1]
  exact h2
theorem Kep.few {S : Sym} {I : Int} {D : List UInt8} {k off : Nat} (h : Kep S I D k off) : D.length ≤ 48 := by
  have h2 := (file_parts (tis_right h.inv.tro.ok (h.inv.here _ h.opn)) (h.inv.fil _ h.opn)).2.2.2
  rw [h.data] at h2
  exact h2
theorem Kep.opn6 {S : Sym} {I : Int} {D : List UInt8} {k off : Nat} (h : Kep S I D k off) : (opnS S).length ≤ 1000 := inv_opn_few h.inv (n := 2) (by rw [h.two]; exact Nat.le_refl _) (by decide)
theorem get_formsD {v : Value} {t : List Nd} {W : World} (h : TabP W v t) (i : Int) (n : Nd) (q : Bool) (hn : tget t i = n) (hq : tis t i = q) : Calls Tryz.prog 26 #[v, .int .i64 i] W fun e w' => ∃ A1 c1 A2 c2, e = .returned (.tuple #[.agg #[.int .i64 n.kind, .int .i64 n.mode, .int .i64 n.uid, .int .i64 n.gid, .slice A1 n.data.length c1, .slice A2 n.ents.length c2, .string (bA n.target)], .bool q]) ∧ (BytesT w' (.slice A1 n.data.length c1) n.data ∧ ∀ ad, A1 = some ad → W.heap.size ≤ ad.block) ∧ Below W.heap.size W w' := by
  refine (get_anyC v t i W h).mono ?_
  rintro e w' ⟨vd, ve, rfl, hd, he, hl, -, hb⟩
  rw [hn] at hd he ⊢
  rw [hq]
  obtain ⟨A1, c1, rfl⟩ := bytesT_form hd
  obtain ⟨A2, c2, rfl⟩ := entsT_form he
  exact ⟨_, _, _, _, rfl, ⟨hd, fun ad q => by subst q; exact (hl ad _ _ rfl).1⟩, hb⟩
theorem Fix.bytes {l : List Nat} {w w' : World} (h : Fix l w w') {A : Option Addr} {n c : Nat} {x : List UInt8} (hi : BytesR w (.slice A n c) x) (hA : ∀ ad, A = some ad → ¬ ad.block ∈ l) : BytesR w' (.slice A n c) x :=
  Fix.carry (X := fun w => BytesR w (.slice A n c) x) (fun _ _ hx hb => hx.below hb) h (fun g hg _ _ hx hgr => hx.other hgr (fun ad _ _ hv => by injection hv with hv; exact fun q => hA ad hv (by rw [q]; exact hg))) hi
structure Kpx (W : World) (zr zn : Nat) (A1 : Option Addr) (c1 : Nat) (D : List UInt8) : Prop where
  rn : ∃ cs, Blk W zr 56 cs ∧ W.cell? ⟨zr, 1, none⟩ = some (.int .i64 0)
  nd : ∃ cs, Blk W zn 82 cs ∧ W.cell? ⟨zn, 4, none⟩ = some (.slice A1 D.length c1)
  by_ : BytesT W (.slice A1 D.length c1) D
theorem Kpx.below {W W' : World} {zr zn : Nat} {A1 : Option Addr} {c1 : Nat} {D : List UInt8} (h : Kpx W zr zn A1 c1 D) (hb : Below W.heap.size W W') : Kpx W' zr zn A1 c1 D := by
  obtain ⟨⟨cs, h1, h2⟩, ⟨ds, h3, h4⟩, h5⟩ := h
  exact ⟨⟨cs, h1.below hb, bc hb h2⟩, ⟨ds, h3.below hb, bc hb h4⟩, h5.below hb⟩
theorem cell_off_blk {w w' : World} {row : Option Nat} (hg : w.grownBy w' row) {a : Addr} {v : Value} (h : w.cell? a = some v) (hne : some a.block ≠ row) : w'.cell? a = some v := hg.cell h hne
theorem Kpx.past {W W' : World} {zr zn g : Nat} {A1 : Option Addr} {c1 : Nat} {D : List UInt8} (h : Kpx W zr zn A1 c1 D) (hg : W.grownBy W' (some g)) (hr : zr ≠ g) (hn : zn ≠ g) (hA : ∀ ad, A1 = some ad → ad.block ≠ g) : Kpx W' zr zn A1 c1 D := by
  obtain ⟨⟨cs, h1, h2⟩, ⟨ds, h3, h4⟩, h5⟩ := h
  exact ⟨⟨cs, h1.kept hg (some_ne hr), cell_off_blk hg h2 (some_ne hr)⟩, ⟨ds, h3.kept hg (some_ne hn), cell_off_blk hg h4 (some_ne hn)⟩, h5.other hg (fun ad n c hv => by injection hv with hv; exact hA ad hv)⟩
theorem Kpx.fix {l : List Nat} {W W' : World} {zr zn : Nat} {A1 : Option Addr} {c1 : Nat} {D : List UInt8} (h : Kpx W zr zn A1 c1 D) (hf : Fix l W W') (hr : ¬ zr ∈ l) (hn : ¬ zn ∈ l) (hA : ∀ ad, A1 = some ad → ¬ ad.block ∈ l) : Kpx W' zr zn A1 c1 D :=
  Fix.carry (X := fun W => Kpx W zr zn A1 c1 D) (fun _ _ hx hb => hx.below hb) hf (fun g hg _ _ hx hgr => hx.past hgr (fun q => hr (by rw [q]; exact hg)) (fun q => hn (by rw [q]; exact hg)) (fun ad hv q => hA ad hv (by rw [q]; exact hg))) h
end Go.Proofs.YtkmkfolpjlkfoaaGreat
namespace Go.Proofs.YtkmkfolpjlkfoaaGreat
open Go Go.RowKit
set_option maxRecDepth 100000

attribute [local go_sem] cell_off4 cell_blk4
theorem raws_row17 {w : World} {g : Nat} {t : TypeId} (ps : List (Rw × Value)) (n c : Nat) (hn : ps.length = n) (h : Blk w g t (rCells ps).toArray) (hd : ∀ q ∈ ps, BytesR w q.2 q.1.data) : RawsR w (.slice (some ⟨g, 0, none⟩) n c) (ps.map Prod.fst) := by
  subst hn
  refine ⟨some ⟨g, 0, none⟩, c, by rw [List.length_map], fun k r hk => ?_⟩
  rw [List.getElem?_map] at hk
  obtain ⟨q, hq, rfl⟩ := Option.map_eq_some_iff.1 hk
  have key : ∀ j u, j < 9 → (rwC q.1 q.2).toList[j]? = some u → w.cell? ⟨g, k * 9 + j, none⟩ = some u := fun j u hj hu => by
    rw [h.cell, List.getElem?_toArray, rCells_at ps k j q hq hj]; exact hu
  have e0 : (⟨g, 0, none⟩ : Addr).add (k * 9) = ⟨g, k * 9, none⟩ := add_lit _ _
  refine ⟨⟨g, 0, none⟩, q.2, rfl, ?_, ?_, hd q (List.mem_of_getElem? hq)⟩
  · rw [e0]; exact key 0 _ (by decide) rfl
  · rw [e0]
    exact ⟨key 1 _ (by decide) rfl, key 2 _ (by decide) rfl, key 3 _ (by decide) rfl, key 4 _ (by decide) rfl, key 5 _ (by decide) rfl, key 6 _ (by decide) rfl, key 7 _ (by decide) rfl, key 8 _ (by decide) rfl⟩
theorem bytes_lit17 (w : World) (a b : UInt8) : BytesR (w.alloc (.cells #[.int .u8 (co a), .int .u8 (co b)] 5 (2, 3))) (.slice (some ⟨w.heap.size, 0, none⟩) 2 2) [a, b] := by
  refine ⟨_, 2, rfl, fun k e hk => ⟨_, rfl, ?_⟩⟩
  rw [add_lit]
  match k, hk with
  | 0, hk => have e : a = e := by simpa using hk
             rw [← e]; exact (cell_of_row _ _ 0 _ _ (2, 3) (heap_alloc_new w _)).trans rfl
  | 1, hk => have e : b = e := by simpa using hk
             rw [← e]; exact (cell_of_row _ _ 1 _ _ (2, 3) (heap_alloc_new w _)).trans rfl
  | k + 2, hk => simp at hk
theorem cds_ex {W : World} {z : Nat} (h : Blk W z 35 #[.int .i64 1, .int .i64 1, .slice none 0 0, .int .i64 0, .int .i64 0, .slice none 0 0]) : CdsR W (.slice (some ⟨z, 0, none⟩) 2 2) [whF, wh0] := by
  have e : ∀ j, (⟨z, 0, none⟩ : Addr).add j = ⟨z, j, none⟩ := fun j => by unfold Addr.add; by_cases hk : j = 0 <;> simp [hk]
  have c0 := h.cell 0
  have c1 := h.cell 1
  have c2 := h.cell 2
  have c3 := h.cell 3
  have c4 := h.cell 4
  have c5 := h.cell 5
  simp at c0 c1 c2 c3 c4 c5
  refine ⟨some ⟨z, 0, none⟩, 2, rfl, fun k r hk => ?_⟩
  match k, hk with
  | 0, hk =>
    have hr : r = whF := by simpa using hk.symm
    subst hr
    exact ⟨_, none, 0, 0, rfl, by rw [e]; exact c0, by rw [e]; exact c1, by rw [e]; exact c2, IntsR.nil W⟩
  | 1, hk =>
    have hr : r = wh0 := by simpa using hk.symm
    subst hr
    exact ⟨_, none, 0, 0, rfl, by rw [e]; exact c3, by rw [e]; exact c4, by rw [e]; exact c5, IntsR.nil W⟩
theorem Fix.cell {l : List Nat} {w w' : World} (h : Fix l w w') {a : Addr} {v : Value} (hc : w.cell? a = some v) (ha : ¬ a.block ∈ l) : w'.cell? a = some v :=
  Fix.carry (X := fun w => w.cell? a = some v) (fun _ _ hx hb => bc hb hx) h (fun m hm _ _ hx hgr => cell_off_blk hgr hx (some_ne (fun q => ha (by rw [q]; exact hm)))) hc
theorem dos_ex {R : World → Value → Sym → List Nat → Prop} (H : SysC R) {v : Value} {S S' : Sym} {r : Rsm} {l : List Nat} {pid : Int} {c : Cal} {w : World} (he : doS S pid c = (S', r)) (hr : R w v S l) (hi : Inv S) (hn : (opnS S).length ≤ 1000) (hd : c.data = []) (hs : shortC c) :
    Calls Tryz.prog 15 #[v, .int .i64 pid, .agg (calC c (.slice none 0 0))] w (DoA R w v S' r l) := by
  have h := H.dos v S l pid c (.slice none 0 0) w hr hi hn (by rw [hd]; exact BytesR.nil w) hs
  rw [he] at h
  exact h
def sxRow (g : Nat) : List (Rw × Value) := [(fz0, .slice none 0 0), (fz1, .slice none 0 0), (fz2, .slice (some ⟨g, 0, none⟩) 2 2), (fz3, .slice none 0 0)]
set_option maxHeartbeats 16000000 in
theorem awk17_any {R : World → Value → Sym → List Nat → Prop} (H : SysC R) (w : World) :
    Calls Tryz.prog 8 #[] w fun e w' => e = .returned (.bool true) ∧ Below w.heap.size w w' := by
  have HPD := Lib.hid H
  have hcv := Lib.run_convert_bytes_const (P := Tryz.prog) w 46 5 #[.int .u8 104, .int .u8 105] 2 2 Tryz.underlying46 Tryz.underlying5
  have hb1 := ba w (.cells #[.int .u8 104, .int .u8 105] 5 (2, 3))
  have hk1 : BytesR (w.alloc (.cells #[.int .u8 104, .int .u8 105] 5 (2, 3))) (.slice (some ⟨w.heap.size, 0, none⟩) 2 2) [104, 105] := bytes_lit17 w 104 105
  have e1 : (w.alloc (.cells #[.int .u8 104, .int .u8 105] 5 (2, 3))).heap.size = w.heap.size + 1 := by simp
  obtain ⟨W1, hW1⟩ : ∃ W1, w.alloc (.cells #[.int .u8 104, .int .u8 105] 5 (2, 3)) = W1 := ⟨_, rfl⟩
  have hcv2 : (convert 46 46 (.slice (some ⟨w.heap.size, 0, none⟩) 2 2)).run Tryz.prog (w.alloc (.cells #[.int .u8 104, .int .u8 105] 5)) = .ok (.slice (some ⟨w.heap.size, 0, none⟩) 2 2) W1 := by rw [← hW1]; exact hcv
  rw [hW1] at hb1 hk1 e1
  clear hcv
  have hb2 := al hb1 (.cells (rCells (sxRow w.heap.size)).toArray 91)
  have hr2 : RawsR (W1.alloc (.cells (rCells (sxRow w.heap.size)).toArray 91)) (.slice (some ⟨W1.heap.size, 0, none⟩) 4 4) [fz0, fz1, fz2, fz3] := raws_row17 (sxRow w.heap.size) 4 4 rfl (Blk.new W1 91 _) (fun q hq => by
    unfold sxRow at hq
    simp only [List.mem_cons, List.not_mem_nil, or_false] at hq
    rcases hq with rfl | rfl | rfl | rfl
    · exact BytesR.nil _
    · exact BytesR.nil _
    · exact hk1.below (ba W1 _)
    · exact BytesR.nil _)
  have HC1 := Lib.hid (build_any 9 _ [fz0, fz1, fz2, fz3] _ hr2 ⟨fun r hr => by
    simp only [List.mem_cons, List.not_mem_nil, or_false] at hr
    rcases hr with rfl | rfl | rfl | rfl <;> exact ⟨by decide, by decide, by decide⟩, by decide⟩)
  rw [fz_all, show fzT [104, 105] = sxT from rfl, e1] at HC1
  have HB2 := Lib.hid hb2
  clear hb1 hk1 hb2 hr2 H
  go_enter Tryz.func8, Tryz.ntmps8
  go_wp2_with fail
  clear hW1 hcv2
  refine HC1.out.mono ?_
  rintro e w2 ⟨⟨g, rfl, ht, hg⟩, hb⟩
  have HB3 := Lib.hid (bt (al hb (.cells #[.int .i64 1, .int .i64 1, .slice none 0 0, .int .i64 0, .int .i64 0, .slice none 0 0] 35)) HB2.out)
  have HT3 := Lib.hid (ht.below (ba w2 (.cells #[.int .i64 1, .int .i64 1, .slice none 0 0, .int .i64 0, .int .i64 0, .slice none 0 0] 35)))
  have HC3 := Lib.hid (cds_ex (Blk.new w2 35 #[.int .i64 1, .int .i64 1, .slice none 0 0, .int .i64 0, .int .i64 0, .slice none 0 0]))
  have HNW := Lib.hid (HPD.out.new g sxT _ 18 _ [whF, wh0] _ HT3.out HC3.out (fun c hc => by
    simp only [List.mem_cons, List.not_mem_nil, or_false] at hc
    rcases hc with rfl | rfl <;> decide) (by decide))
  obtain ⟨W3, hW3⟩ : ∃ W, w2.alloc (.cells #[.int .i64 1, .int .i64 1, .slice none 0 0, .int .i64 0, .int .i64 0, .slice none 0 0] 35) = W := ⟨_, rfl⟩
  rw [hW3] at HB3 HT3 HC3 HNW
  clear ht hb HC1 HB2 hg e1
  go_wp2_with fail
  clear hW3
  refine HNW.out.mono ?_
  rintro e w4 ⟨v, l, rfl, hr4, hl4, hb4⟩
  have HR4 := Lib.hid (show R w4 v (sxS sxT Fdm.zero) l from hr4)
  have HL := Lib.hid hl4
  have HX4 := Lib.hid hb4
  clear hr4 hl4 hb4 HNW HC3
  obtain ⟨r5, hr5⟩ : ∃ r, (Rsm.k 0) = r := ⟨_, rfl⟩
  have hdo := dos_ex HPD.out sx_open HR4.out sx_i0 (sx_few sx_i0) rfl ⟨by decide, by decide, by decide⟩
  rw [hr5] at hdo
  have HDO := Lib.hid (show Calls Tryz.prog 15 #[v, .int .i64 0, .agg #[.int .i64 13, .string ⟨#[115]⟩, .string ⟨#[]⟩, .int .i64 1, .int .i64 0, .slice none 0 0]] w4 (DoA R w4 v (sxS sxT ⟨3, 0, true, false⟩) r5 l) from hdo)
  have HE5 := Lib.hid hr5
  clear hdo hr5
  go_wp2_with fail
  refine HDO.out.mono ?_
  rintro e w5 ⟨A51, n51, c51, A52, n52, c52, rfl, hs, hr, hf⟩
  have hax := ba w5 (.cells #[.int .i64 r5.err, .int .i64 r5.n, .int .i64 r5.stat.node, .int .i64 r5.stat.kind, .int .i64 r5.stat.mode, .int .i64 r5.stat.uid, .int .i64 r5.stat.gid, .int .i64 r5.stat.links, .int .i64 r5.stat.size, .string (bA r5.text), .slice A51 n51 c51, .slice A52 n52 c52] 56)
  have hkx := Blk.new w5 56 #[.int .i64 r5.err, .int .i64 r5.n, .int .i64 r5.stat.node, .int .i64 r5.stat.kind, .int .i64 r5.stat.mode, .int .i64 r5.stat.uid, .int .i64 r5.stat.gid, .int .i64 r5.stat.links, .int .i64 r5.stat.size, .string (bA r5.text), .slice A51 n51 c51, .slice A52 n52 c52]
  have HR5 := Lib.hid (HPD.out.below _ _ _ _ _ hr hax)
  have HX5 := Lib.hid (bt hax (hf.below HX4.out HL.out))
  have HZ5 := Lib.hid (show ¬ w5.heap.size ∈ l from fun z => by have h1 := HPD.out.lt _ _ _ _ hr _ z; omega)
  obtain ⟨W5, hW5⟩ : ∃ W, w5.alloc (.cells #[.int .i64 r5.err, .int .i64 r5.n, .int .i64 r5.stat.node, .int .i64 r5.stat.kind, .int .i64 r5.stat.mode, .int .i64 r5.stat.uid, .int .i64 r5.stat.gid, .int .i64 r5.stat.links, .int .i64 r5.stat.size, .string (bA r5.text), .slice A51 n51 c51, .slice A52 n52 c52] 56) = W := ⟨_, rfl⟩
  rw [hW5] at HR5 HX5 hkx
  obtain ⟨z5, hz5⟩ : ∃ z, w5.heap.size = z := ⟨_, rfl⟩
  rw [hz5] at HZ5 hkx
  have c5_0 := hkx.cell 0
  simp at c5_0
  rw [show r5.err = 0 from by rw [← HE5.out]; rfl] at c5_0
  have G5_5_0 := Lib.hid c5_0
  clear c5_0
  have c5_1 := hkx.cell 1
  simp at c5_1
  rw [show r5.n = 0 from by rw [← HE5.out]; rfl] at c5_1
  have G5_5_1 := Lib.hid c5_1
  clear c5_1
  clear hs hr hf hax hkx HDO HR4 HX4
  obtain ⟨r6, hr6⟩ : ∃ r, (Rsm.e 0) = r := ⟨_, rfl⟩
  have hdo := dos_ex HPD.out sx_unlink HR5.out sx_i1 (sx_few sx_i1) rfl ⟨by decide, by decide, by decide⟩
  rw [hr6] at hdo
  have HDO := Lib.hid (show Calls Tryz.prog 15 #[v, .int .i64 1, .agg #[.int .i64 10, .string ⟨#[100, 47, 102]⟩, .string ⟨#[]⟩, .int .i64 0, .int .i64 0, .slice none 0 0]] W5 (DoA R W5 v (sxS sxU ⟨3, 0, true, false⟩) r6 l) from hdo)
  have HE6 := Lib.hid hr6
  clear hdo hr6
  go_wp2_with fail
  refine HDO.out.mono ?_
  rintro e w6 ⟨A61, n61, c61, A62, n62, c62, rfl, hs, hr, hf⟩
  have hax := ba w6 (.cells #[.int .i64 r6.err, .int .i64 r6.n, .int .i64 r6.stat.node, .int .i64 r6.stat.kind, .int .i64 r6.stat.mode, .int .i64 r6.stat.uid, .int .i64 r6.stat.gid, .int .i64 r6.stat.links, .int .i64 r6.stat.size, .string (bA r6.text), .slice A61 n61 c61, .slice A62 n62 c62] 56)
  have hkx := Blk.new w6 56 #[.int .i64 r6.err, .int .i64 r6.n, .int .i64 r6.stat.node, .int .i64 r6.stat.kind, .int .i64 r6.stat.mode, .int .i64 r6.stat.uid, .int .i64 r6.stat.gid, .int .i64 r6.stat.links, .int .i64 r6.stat.size, .string (bA r6.text), .slice A61 n61 c61, .slice A62 n62 c62]
  have HR6 := Lib.hid (HPD.out.below _ _ _ _ _ hr hax)
  have HX6 := Lib.hid (bt hax (hf.below HX5.out HL.out))
  have HZ6 := Lib.hid (show ¬ w6.heap.size ∈ l from fun z => by have h1 := HPD.out.lt _ _ _ _ hr _ z; omega)
  have G6_5_0 := Lib.hid (bc hax (hf.cell G5_5_0.out HZ5.out))
  have G6_5_1 := Lib.hid (bc hax (hf.cell G5_5_1.out HZ5.out))
  obtain ⟨W6, hW6⟩ : ∃ W, w6.alloc (.cells #[.int .i64 r6.err, .int .i64 r6.n, .int .i64 r6.stat.node, .int .i64 r6.stat.kind, .int .i64 r6.stat.mode, .int .i64 r6.stat.uid, .int .i64 r6.stat.gid, .int .i64 r6.stat.links, .int .i64 r6.stat.size, .string (bA r6.text), .slice A61 n61 c61, .slice A62 n62 c62] 56) = W := ⟨_, rfl⟩
  rw [hW6] at HR6 HX6 G6_5_0 G6_5_1 hkx
  obtain ⟨z6, hz6⟩ : ∃ z, w6.heap.size = z := ⟨_, rfl⟩
  rw [hz6] at HZ6 hkx
  have c6_0 := hkx.cell 0
  simp at c6_0
  rw [show r6.err = 0 from by rw [← HE6.out]; rfl] at c6_0
  have G6_6_0 := Lib.hid c6_0
  clear c6_0
  clear hs hr hf hax hkx HDO HR5 HX5 G5_5_0 G5_5_1
  obtain ⟨r7, hr7⟩ : ∃ r, (⟨0, 0, Sta.zero, [], [], [104, 105]⟩ : Rsm) = r := ⟨_, rfl⟩
  have hdo := dos_ex HPD.out sx_read HR6.out sx_i2 (sx_few sx_i2) rfl ⟨by decide, by decide, by decide⟩
  rw [hr7] at hdo
  have HDO := Lib.hid (show Calls Tryz.prog 15 #[v, .int .i64 0, .agg #[.int .i64 14, .string ⟨#[]⟩, .string ⟨#[]⟩, .int .i64 0, .int .i64 9, .slice none 0 0]] W6 (DoA R W6 v (sxS sxU ⟨3, 2, true, false⟩) r7 l) from hdo)
  have HE7 := Lib.hid hr7
  clear hdo hr7
  go_wp2_with fail
  refine HDO.out.mono ?_
  rintro e w7 ⟨A71, n71, c71, A72, n72, c72, rfl, hs, hr, hf⟩
  have hax := ba w7 (.cells #[.int .i64 r7.err, .int .i64 r7.n, .int .i64 r7.stat.node, .int .i64 r7.stat.kind, .int .i64 r7.stat.mode, .int .i64 r7.stat.uid, .int .i64 r7.stat.gid, .int .i64 r7.stat.links, .int .i64 r7.stat.size, .string (bA r7.text), .slice A71 n71 c71, .slice A72 n72 c72] 56)
  have hkx := Blk.new w7 56 #[.int .i64 r7.err, .int .i64 r7.n, .int .i64 r7.stat.node, .int .i64 r7.stat.kind, .int .i64 r7.stat.mode, .int .i64 r7.stat.uid, .int .i64 r7.stat.gid, .int .i64 r7.stat.links, .int .i64 r7.stat.size, .string (bA r7.text), .slice A71 n71 c71, .slice A72 n72 c72]
  have HR7 := Lib.hid (HPD.out.below _ _ _ _ _ hr hax)
  have HX7 := Lib.hid (bt hax (hf.below HX6.out HL.out))
  have HZ7 := Lib.hid (show ¬ w7.heap.size ∈ l from fun z => by have h1 := HPD.out.lt _ _ _ _ hr _ z; omega)
  have G7_5_0 := Lib.hid (bc hax (hf.cell G6_5_0.out HZ5.out))
  have G7_5_1 := Lib.hid (bc hax (hf.cell G6_5_1.out HZ5.out))
  have G7_6_0 := Lib.hid (bc hax (hf.cell G6_6_0.out HZ6.out))
  have hd7 : BytesR w7 (.slice A72 n72 c72) [104, 105] := by have h := hs.2.1.1; rw [show r7.data = [104, 105] from by rw [← HE7.out]] at h; exact h
  have hn7 := bytes_len hd7
  have HD7 := Lib.hid (hd7.below hax)
  have HDA := Lib.hid (show ∀ ad, A72 = some ad → ¬ ad.block ∈ l from fun ad q z => by obtain ⟨ds, hd⟩ := hs.2.1.2 ad n72 c72 (by rw [q]); exact HPD.out.u8 _ _ _ _ hr _ z ds hd)
  obtain ⟨W7, hW7⟩ : ∃ W, w7.alloc (.cells #[.int .i64 r7.err, .int .i64 r7.n, .int .i64 r7.stat.node, .int .i64 r7.stat.kind, .int .i64 r7.stat.mode, .int .i64 r7.stat.uid, .int .i64 r7.stat.gid, .int .i64 r7.stat.links, .int .i64 r7.stat.size, .string (bA r7.text), .slice A71 n71 c71, .slice A72 n72 c72] 56) = W := ⟨_, rfl⟩
  rw [hW7] at HR7 HX7 G7_5_0 G7_5_1 G7_6_0 HD7 hkx
  obtain ⟨z7, hz7⟩ : ∃ z, w7.heap.size = z := ⟨_, rfl⟩
  rw [hz7] at HZ7 hkx
  have c7_11 := hkx.cell 11
  simp at c7_11
  have G7_7_11 := Lib.hid c7_11
  clear c7_11
  clear hs hr hf hax hkx HDO HR6 HX6 G6_5_0 G6_5_1 G6_6_0 hd7
  have HTB := Lib.hid (HPD.out.tab v _ l W7 HR7.out)
  go_wp2_with fail
  clear hW7 hz7
  refine HTB.out.mono ?_
  rintro e w8 ⟨g8, rfl, -, ht8, hb8⟩
  have HT8 := Lib.hid ht8
  have HU8 := Lib.hid (used_any _ sxU w8 ht8.ptr)
  rw [sx_used1] at HU8
  have HX8 := Lib.hid (bt hb8 HX7.out)
  have HR8 := Lib.hid (HPD.out.below _ _ _ _ _ HR7.out hb8)
  have HD8 := Lib.hid (HD7.out.below hb8)
  have G8_5_0 := Lib.hid (bc hb8 G7_5_0.out)
  have G8_5_1 := Lib.hid (bc hb8 G7_5_1.out)
  have G8_6_0 := Lib.hid (bc hb8 G7_6_0.out)
  have G8_7_11 := Lib.hid (bc hb8 G7_7_11.out)
  clear ht8 hb8 HTB HX7 HR7 HD7 G7_5_0 G7_5_1 G7_6_0 G7_7_11
  go_wp2_with fail
  refine HU8.out.mono ?_
  rintro e w9 ⟨rfl, hb9⟩
  have HX9 := Lib.hid (bt hb9 HX8.out)
  have HR9 := Lib.hid (HPD.out.below _ _ _ _ _ HR8.out hb9)
  have HD9 := Lib.hid (HD8.out.below hb9)
  have G9_5_0 := Lib.hid (bc hb9 G8_5_0.out)
  have G9_5_1 := Lib.hid (bc hb9 G8_5_1.out)
  have G9_6_0 := Lib.hid (bc hb9 G8_6_0.out)
  have G9_7_11 := Lib.hid (bc hb9 G8_7_11.out)
  clear hb9 HU8 HT8 HX8 HR8 HD8 G8_5_0 G8_5_1 G8_6_0 G8_7_11
  obtain ⟨r10, hr10⟩ : ∃ r, (Rsm.e 0) = r := ⟨_, rfl⟩
  have hdo := dos_ex HPD.out sx_close HR9.out sx_i3 (sx_few sx_i3) rfl ⟨by decide, by decide, by decide⟩
  rw [hr10] at hdo
  have HDO := Lib.hid (show Calls Tryz.prog 15 #[v, .int .i64 0, .agg #[.int .i64 16, .string ⟨#[]⟩, .string ⟨#[]⟩, .int .i64 0, .int .i64 0, .slice none 0 0]] w9 (DoA R w9 v (sxS sxV Fdm.zero) r10 l) from hdo)
  have HE10 := Lib.hid hr10
  clear hdo hr10
  go_wp2_with fail
  refine HDO.out.mono ?_
  rintro e w10 ⟨A101, n101, c101, A102, n102, c102, rfl, hs, hr, hf⟩
  have hax := ba w10 (.cells #[.int .i64 r10.err, .int .i64 r10.n, .int .i64 r10.stat.node, .int .i64 r10.stat.kind, .int .i64 r10.stat.mode, .int .i64 r10.stat.uid, .int .i64 r10.stat.gid, .int .i64 r10.stat.links, .int .i64 r10.stat.size, .string (bA r10.text), .slice A101 n101 c101, .slice A102 n102 c102] 56)
  have hkx := Blk.new w10 56 #[.int .i64 r10.err, .int .i64 r10.n, .int .i64 r10.stat.node, .int .i64 r10.stat.kind, .int .i64 r10.stat.mode, .int .i64 r10.stat.uid, .int .i64 r10.stat.gid, .int .i64 r10.stat.links, .int .i64 r10.stat.size, .string (bA r10.text), .slice A101 n101 c101, .slice A102 n102 c102]
  have HR10 := Lib.hid (HPD.out.below _ _ _ _ _ hr hax)
  have HX10 := Lib.hid (bt hax (hf.below HX9.out HL.out))
  have HZ10 := Lib.hid (show ¬ w10.heap.size ∈ l from fun z => by have h1 := HPD.out.lt _ _ _ _ hr _ z; omega)
  have G10_5_0 := Lib.hid (bc hax (hf.cell G9_5_0.out HZ5.out))
  have G10_5_1 := Lib.hid (bc hax (hf.cell G9_5_1.out HZ5.out))
  have G10_6_0 := Lib.hid (bc hax (hf.cell G9_6_0.out HZ6.out))
  have G10_7_11 := Lib.hid (bc hax (hf.cell G9_7_11.out HZ7.out))
  have HD10 := Lib.hid ((hf.bytes HD9.out HDA.out).below hax)
  obtain ⟨W10, hW10⟩ : ∃ W, w10.alloc (.cells #[.int .i64 r10.err, .int .i64 r10.n, .int .i64 r10.stat.node, .int .i64 r10.stat.kind, .int .i64 r10.stat.mode, .int .i64 r10.stat.uid, .int .i64 r10.stat.gid, .int .i64 r10.stat.links, .int .i64 r10.stat.size, .string (bA r10.text), .slice A101 n101 c101, .slice A102 n102 c102] 56) = W := ⟨_, rfl⟩
  rw [hW10] at HR10 HX10 G10_5_0 G10_5_1 G10_6_0 G10_7_11 HD10 hkx
  obtain ⟨z10, hz10⟩ : ∃ z, w10.heap.size = z := ⟨_, rfl⟩
  rw [hz10] at HZ10 hkx
  have c10_0 := hkx.cell 0
  simp at c10_0
  rw [show r10.err = 0 from by rw [← HE10.out]; rfl] at c10_0
  have G10_10_0 := Lib.hid c10_0
  clear c10_0
  clear hs hr hf hax hkx HDO HR9 HX9 G9_5_0 G9_5_1 G9_6_0 G9_7_11 HD9
  subst hn7
  have hcv : (convert 46 9 (.slice A72 2 c72)).run Tryz.prog W10 = .ok (.string (bA [104, 105])) W10 := bytes_back HD10.out
  have x5_0 := G10_5_0.out
  have x5_1 := G10_5_1.out
  have x6_0 := G10_6_0.out
  have x7_11 := G10_7_11.out
  have x10_0 := G10_10_0.out
  have y1 : ((bA [104, 105]).toList == [104, 105]) = true := by rw [bA_list]; rfl
  have HTB := Lib.hid (HPD.out.tab v _ l W10 HR10.out)
  go_wp2_with fail
  clear hW10 hz10
  refine HTB.out.mono ?_
  rintro e w11 ⟨g11, rfl, -, ht11, hb11⟩
  have HU := Lib.hid (used_any _ sxV w11 ht11.ptr)
  rw [sx_used2] at HU
  have HX11 := Lib.hid (bt hb11 HX10.out)
  have HR11 := Lib.hid (HPD.out.below _ _ _ _ _ HR10.out hb11)
  clear ht11 hb11 HTB HX10 HR10 hcv y1 x5_0 G10_5_0 x5_1 G10_5_1 x6_0 G10_6_0 x7_11 G10_7_11 x10_0 G10_10_0
  go_wp2_with fail
  refine HU.out.mono ?_
  rintro e w12 ⟨rfl, hb12⟩
  have HX12 := Lib.hid (bt hb12 HX11.out)
  have HR12 := Lib.hid (HPD.out.below _ _ _ _ _ HR11.out hb12)
  have HM := Lib.hid (HPD.out.mask v _ l 1 w12 HR12.out)
  rw [sx_um] at HM
  clear hb12 HU HX11 HR11
  go_wp2_with fail
  refine HM.out.mono ?_
  rintro e w13 ⟨rfl, hb13⟩
  have HX13 := Lib.hid (bt hb13 HX12.out)
  have HR13 := Lib.hid (HPD.out.below _ _ _ _ _ HR12.out hb13)
  have HO := Lib.hid (HPD.out.opn v _ l w13 HR13.out (by rw [sx_opn]; decide))
  rw [sx_opn] at HO
  clear hb13 HM HX12 HR12
  go_wp2_with fail
  refine HO.out.mono ?_
  rintro e w14 ⟨AO, nO, cO, rfl, hi, -, hb14⟩
  have hnO := ints_len hi
  subst hnO
  have HX14 := Lib.hid (bt hb14 HX13.out)
  have HU := Lib.hid (used_any _ sxT w14 (HT3.out.below HX14.out).ptr)
  rw [sx_used0] at HU
  clear hi hb14 HO HX13 HR13
  go_wp2_with fail
  refine HU.out.mono ?_
  rintro e w15 ⟨rfl, hb15⟩
  have HX15 := Lib.hid (bt (bt hb15 HX14.out) HB3.out)
  clear hb15
  go_wp2
  go_ret
  exact ⟨ret_bool (by first | rfl | simp), HX15.out⟩
end Go.Proofs.YtkmkfolpjlkfoaaGreat
namespace Go.Proofs.YtkmkfolpjlkfoaaGreat
open Go Go.ChangeShapes Go.WideShapes Go.ChangeAt Go.RowKit Go.Deep
set_option maxRecDepth 100000

theorem cells_raw : Tryz.prog.cellsOf 91 = 9 := by kernel_rfl
theorem cells_str' : Tryz.prog.cellsOf 9 = 1 := by kernel_rfl
section
variable {H : Type} {enc : TypeId × Value → H} {P : Program} {w : World} {base : Nat} {spare : Nat → Bool} {held : Bool}
theorem trod_struct9 {t : TypeId} {f0 f1 f2 f3 f4 f5 f6 f7 f8 : Field} {fuel : Nat} {cs : List Value} {x : DataW H × List MemPlace} (ht : P.underlying t = some (.struct #[f0, f1, f2, f3, f4, f5, f6, f7, f8])) (h : DataW.trod enc P w base spare held fuel t cs = some x) :
    ∃ y0 y1 y2 y3 y4 y5 y6 y7 y8 n, DataW.trod enc P w base spare held n f0.type ((cs.drop f0.offset).take (P.cellsOf f0.type)) = some y0 ∧
      DataW.trod enc P w base spare held n f1.type ((cs.drop f1.offset).take (P.cellsOf f1.type)) = some y1 ∧
      DataW.trod enc P w base spare held n f2.type ((cs.drop f2.offset).take (P.cellsOf f2.type)) = some y2 ∧
      DataW.trod enc P w base spare held n f3.type ((cs.drop f3.offset).take (P.cellsOf f3.type)) = some y3 ∧
      DataW.trod enc P w base spare held n f4.type ((cs.drop f4.offset).take (P.cellsOf f4.type)) = some y4 ∧
      DataW.trod enc P w base spare held n f5.type ((cs.drop f5.offset).take (P.cellsOf f5.type)) = some y5 ∧
      DataW.trod enc P w base spare held n f6.type ((cs.drop f6.offset).take (P.cellsOf f6.type)) = some y6 ∧
      DataW.trod enc P w base spare held n f7.type ((cs.drop f7.offset).take (P.cellsOf f7.type)) = some y7 ∧
      DataW.trod enc P w base spare held n f8.type ((cs.drop f8.offset).take (P.cellsOf f8.type)) = some y8 := by
  obtain ⟨xs, n, _, rfl, hl, hlen, hf⟩ := DataW.trod_struct ht h
  match xs, hlen with
  | [y0, y1, y2, y3, y4, y5, y6, y7, y8], _ => exact ⟨y0, y1, y2, y3, y4, y5, y6, y7, y8, n, by simpa using hf 0 f0 rfl, by simpa using hf 1 f1 rfl, by simpa using hf 2 f2 rfl, by simpa using hf 3 f3 rfl, by simpa using hf 4 f4 rfl, by simpa using hf 5 f5 rfl, by simpa using hf 6 f6 rfl, by simpa using hf 7 f7 rfl, by simpa using hf 8 f8 rfl⟩
end
section
variable {H : Type} {enc : TypeId × Value → H} {w : World} {base : Nat} {spare : Nat → Bool} {held : Bool}
theorem read_raws {r : Reach} {b0 : Nat} {v : Value} {d : DataW H} {p : List MemPlace} (hval : Value.okWide Tryz.prog w r b0 22 v) (h : DataW.Trod enc Tryz.prog w base spare held 22 v d p) : ∃ l : List Rw, RawsR w v l ∧ l.length ≤ maxLen ∧ ∀ (A : Option Addr) (n c : Nat), v = .slice A n c → n ≤ c := by
  obtain ⟨A, L, C, rfl⟩ := okWide_slice Tryz.underlying22 hval
  obtain ⟨fuel, h⟩ := h
  rcases open_slice Tryz.underlying22 h with ⟨hv, _⟩ | ⟨a, len, cap, m, n, D, Pl, hcs, _, hl, hm, hmm, _, hi⟩
  · have hv' : Value.slice A L C = .slice none 0 0 := by simpa [Value.cells] using hv
    exact ⟨[], ⟨none, 0, by simpa using hv', fun k s h => by simp at h⟩, by simp, fun A' n' c' h' => by rw [hv'] at h'; injection h' with _ h1 h2; omega⟩
  · have hv : Value.slice A L C = .slice (some a) len cap := by simpa [Value.cells] using hcs
    have hlm : len ≤ m := by rw [hmm]; split <;> omega
    have key : ∀ i, i < len → ∃ e : Rw, ∃ vd : Value, w.cell? (a.add (i * 9)) = some (.int .i64 e.kind) ∧ AtW w (a.add (i * 9)).block (a.add (i * 9)).off e vd ∧ BytesR w vd e.data := by
      intro i hil
      obtain ⟨cs', hc, ht⟩ := hi i (by omega)
      rw [cells_raw] at hc
      obtain ⟨_, hcl, hat⟩ := World.cells?_some hc
      match cs', hcl with
      | [c0, c1, c2, c3, c4, c5, c6, c7, c8], _ =>
        obtain ⟨z0, z1, z2, z3, z4, z5, z6, z7, z8, m', g0, g1, g2, g3, g4, g5, g6, g7, g8⟩ := trod_struct9 Tryz.underlying91 ht
        simp only [cells_int, cells_bs, cells_str'] at g0 g1 g2 g3 g4 g5 g6 g7 g8
        obtain ⟨a0, f0, _, _⟩ := DataW.trod_int Tryz.underlying3 g0
        obtain ⟨a1, f1, _, _⟩ := DataW.trod_int Tryz.underlying3 g1
        obtain ⟨a2, f2, _, _⟩ := DataW.trod_int Tryz.underlying3 g2
        obtain ⟨a3, f3, _, _⟩ := DataW.trod_int Tryz.underlying3 g3
        obtain ⟨a4, f4, _, _⟩ := DataW.trod_int Tryz.underlying3 g4
        obtain ⟨s5, f5, _⟩ := DataW.trod_string Tryz.underlying9 g5
        obtain ⟨s7, f7, _⟩ := DataW.trod_string Tryz.underlying9 g7
        obtain ⟨a8, f8, _, _⟩ := DataW.trod_int Tryz.underlying3 g8
        simp at f0 f1 f2 f3 f4 f5 f7 f8
        subst f0 f1 f2 f3 f4 f5 f7 f8
        obtain ⟨ds, hD⟩ := read_bytes' (v := c6) (by simpa using g6)
        have k0 := hat 0 (by decide)
        have k1 := hat 1 (by decide)
        have k2 := hat 2 (by decide)
        have k3 := hat 3 (by decide)
        have k4 := hat 4 (by decide)
        have k5 := hat 5 (by decide)
        have k6 := hat 6 (by decide)
        have k7 := hat 7 (by decide)
        have k8 := hat 8 (by decide)
        rw [add_none] at k0
        rw [add_pos _ 1 (by decide)] at k1
        rw [add_pos _ 2 (by decide)] at k2
        rw [add_pos _ 3 (by decide)] at k3
        rw [add_pos _ 4 (by decide)] at k4
        rw [add_pos _ 5 (by decide)] at k5
        rw [add_pos _ 6 (by decide)] at k6
        rw [add_pos _ 7 (by decide)] at k7
        rw [add_pos _ 8 (by decide)] at k8
        exact ⟨⟨a0, a1, a2, a3, a4, tl s5, ds, tl s7, a8⟩, c6, k0, ⟨k1, k2, k3, k4, by rw [k5]; simp [bA_tl], k6, by rw [k7]; simp [bA_tl], k8⟩, hD⟩
    refine ⟨List.ofFn fun i : Fin len => Classical.choose (key i.val i.isLt), ⟨some a, cap, by rw [List.length_ofFn]; exact hv, fun k ca hk => ?_⟩, by rw [List.length_ofFn]; omega, fun A' n' c' h' => by rw [hv] at h'; injection h' with _ h1 h2; omega⟩
    rw [List.getElem?_ofFn] at hk
    split at hk
    · rename_i hlt
      injection hk with hk
      subst hk
      obtain ⟨vd, hx⟩ := Classical.choose_spec (key k hlt)
      exact ⟨a, vd, rfl, hx⟩
    · cases hk
end
theorem raws_readable : Tryz.prog.readableRec 22 = true := by kernel_rfl
section
variable {H : Type} {enc : TypeId × Value → H} {W W' : World} {v : Value} {d : DataW H} {p : List MemPlace}
theorem shut_raws (h : DataW.Trod enc Tryz.prog W 0 (fun _ => true) true 22 v d p) (hb : Below W.heap.size W W') : DataW.Trod enc Tryz.prog W' 0 (fun b => decide (b < W.heap.size)) true 22 v d p := by
  refine Below.trod laid_out raws_readable (of_decide_eq_true (by kernel_rfl)) h hb ?_
  obtain ⟨n, hn⟩ := h
  exact DataW.trod_lt n _ _ _ hn
end
end Go.Proofs.YtkmkfolpjlkfoaaGreat
namespace Go.Proofs.YtkmkfolpjlkfoaaGreat
open Go Go.ChangeShapes Go.WideShapes Go.ChangeAt Go.RowKit Go.Deep
set_option maxRecDepth 100000

section
variable {H : Type} {enc : TypeId × Value → H} {P : Program}
end
theorem cells_ints : Tryz.prog.cellsOf 31 = 1 := by kernel_rfl
theorem cells_cred : Tryz.prog.cellsOf 35 = 3 := by kernel_rfl
section
variable {H : Type} {enc : TypeId × Value → H} {w : World} {base : Nat} {spare : Nat → Bool} {held : Bool}
end
end Go.Proofs.YtkmkfolpjlkfoaaGreat
namespace Go.Proofs.YtkmkfolpjlkfoaaGreat
open Go Go.ChangeShapes Go.WideShapes Go.ChangeAt Go.RowKit Go.Deep
set_option maxRecDepth 100000

theorem u8_wf {n : Int} (h : (Lit.int .u8 n).wf = true) : 0 ≤ n ∧ n ≤ 255 := by simpa [Lit.wf, IntKind.min, IntKind.max, IntKind.signed, IntKind.bits] using h
section
variable {H : Type} {enc : TypeId × Value → H} {w : World} {base : Nat} {spare : Nat → Bool} {held : Bool}
theorem read_bytesC {r : Reach} {b0 : Nat} {v : Value} {d : DataW H} {p : List MemPlace} (hval : Value.okWide Tryz.prog w r b0 46 v) (h : DataW.Trod enc Tryz.prog w base spare held 46 v d p) : ∃ (l : List UInt8) (A : Option Addr) (k : Nat), v = .slice A l.length k ∧ l.length ≤ k ∧ BytesR w (.slice A l.length k) l := by
  obtain ⟨A, L, C, rfl⟩ := okWide_slice Tryz.underlying46 hval
  obtain ⟨fuel, h⟩ := h
  rcases open_slice1 Tryz.underlying46 cells_u8 h with ⟨hv, _⟩ | ⟨a, len, cap, m, n, V, D, Pl, hcs, _, hl, hm, hmm, _, hi⟩
  · have hv' : Value.slice A L C = .slice none 0 0 := by simpa [Value.cells] using hv
    exact ⟨[], none, 0, by simpa using hv', Nat.le_refl _, BytesR.nil w⟩
  · have hv : Value.slice A L C = .slice (some a) len cap := by simpa [Value.cells] using hcs
    have hlm : len ≤ m := by rw [hmm]; split <;> omega
    have key : ∀ i, i < len → ∃ b : UInt8, w.cell? (a.add i) = some (.int .u8 (co b)) := by
      intro i hil
      obtain ⟨hc, ht⟩ := hi i (by omega)
      obtain ⟨n0, e0, _, w0⟩ := DataW.trod_int Tryz.underlying5 ht
      simp at e0
      obtain ⟨b, rfl⟩ := byte_of w0
      exact ⟨b, by rw [hc, e0]⟩
    refine ⟨List.ofFn fun i : Fin len => Classical.choose (key i.val i.isLt), some a, cap, by rw [List.length_ofFn]; exact hv, by rw [List.length_ofFn]; exact hl, ⟨some a, cap, rfl, fun k ca hk => ?_⟩⟩
    rw [List.getElem?_ofFn] at hk
    split at hk
    · rename_i hlt
      injection hk with hk
      subst hk
      exact ⟨a, rfl, Classical.choose_spec (key k hlt)⟩
    · cases hk
end
end Go.Proofs.YtkmkfolpjlkfoaaGreat
namespace Go.Proofs.YtkmkfolpjlkfoaaGreat
open Go Go.ChangeShapes Go.WideShapes Go.ChangeAt Go.RowKit Go.Deep
set_option maxRecDepth 100000

theorem cells_act17 : Tryz.prog.cellsOf 50 = 7 := by kernel_rfl
theorem cells_call17 : Tryz.prog.cellsOf 48 = 6 := by kernel_rfl
/-! How much is read. -/
section
variable {H : Type}
theorem bulk_pos (d : DataW H) : 0 < Rows.uptoBulk d := by
  cases d with
  | lit l => cases l <;> simp [Rows.uptoBulk]
  | _ => simp [Rows.uptoBulk]
theorem bulk_of_mem {d : DataW H} : ∀ {l : List (DataW H)}, d ∈ l → Rows.uptoBulk d ≤ Rows.uptoBulkAll l
  | [], h => by cases h
  | x :: r, h => by
    have e : Rows.uptoBulkAll (x :: r) = Rows.uptoBulk x + Rows.uptoBulkAll r := by simp [Rows.uptoBulkAll]
    rcases List.mem_cons.1 h with rfl | h
    · omega
    · have := bulk_of_mem h
      omega
theorem bulk_len : ∀ (l : List (DataW H)), l.length ≤ Rows.uptoBulkAll l
  | [] => Nat.zero_le _
  | x :: r => by
    have e : Rows.uptoBulkAll (x :: r) = Rows.uptoBulk x + Rows.uptoBulkAll r := by simp [Rows.uptoBulkAll]
    have h1 := bulk_len r
    have h2 := bulk_pos x
    rw [List.length_cons]
    omega
theorem bulk_slice (l s : List (DataW H)) : Rows.uptoBulkAll l ≤ Rows.uptoBulk (.slice l s) := by simp [Rows.uptoBulk]; omega
theorem bulk_agg (l : List (DataW H)) : Rows.uptoBulkAll l ≤ Rows.uptoBulk (.agg l) := by simp [Rows.uptoBulk]
theorem bulk_small {l : List (DataW H)} (h : Rows.uptoSmall H l = true) : Rows.uptoBulkAll l ≤ 1048576 := of_decide_eq_true h
end
section
variable {H : Type} {enc : TypeId × Value → H} {P : Program} {w : World} {base : Nat} {spare : Nat → Bool} {held : Bool}
theorem trod_struct2 {t : TypeId} {f0 f1 : Field} {fuel : Nat} {cs : List Value} {x : DataW H × List MemPlace} (ht : P.underlying t = some (.struct #[f0, f1])) (h : DataW.trod enc P w base spare held fuel t cs = some x) :
    ∃ y0 y1 n, DataW.trod enc P w base spare held n f0.type ((cs.drop f0.offset).take (P.cellsOf f0.type)) = some y0 ∧
      DataW.trod enc P w base spare held n f1.type ((cs.drop f1.offset).take (P.cellsOf f1.type)) = some y1 := by
  obtain ⟨xs, n, _, rfl, hl, hlen, hf⟩ := DataW.trod_struct ht h
  match xs, hlen with
  | [y0, y1], _ => exact ⟨y0, y1, n, by simpa using hf 0 f0 rfl, by simpa using hf 1 f1 rfl⟩
theorem trod_struct6 {t : TypeId} {f0 f1 f2 f3 f4 f5 : Field} {fuel : Nat} {cs : List Value} {x : DataW H × List MemPlace} (ht : P.underlying t = some (.struct #[f0, f1, f2, f3, f4, f5])) (h : DataW.trod enc P w base spare held fuel t cs = some x) :
    ∃ y0 y1 y2 y3 y4 y5 n, DataW.trod enc P w base spare held n f0.type ((cs.drop f0.offset).take (P.cellsOf f0.type)) = some y0 ∧
      DataW.trod enc P w base spare held n f1.type ((cs.drop f1.offset).take (P.cellsOf f1.type)) = some y1 ∧
      DataW.trod enc P w base spare held n f2.type ((cs.drop f2.offset).take (P.cellsOf f2.type)) = some y2 ∧
      DataW.trod enc P w base spare held n f3.type ((cs.drop f3.offset).take (P.cellsOf f3.type)) = some y3 ∧
      DataW.trod enc P w base spare held n f4.type ((cs.drop f4.offset).take (P.cellsOf f4.type)) = some y4 ∧
      DataW.trod enc P w base spare held n f5.type ((cs.drop f5.offset).take (P.cellsOf f5.type)) = some y5 := by
  obtain ⟨xs, n, _, rfl, hl, hlen, hf⟩ := DataW.trod_struct ht h
  match xs, hlen with
  | [y0, y1, y2, y3, y4, y5], _ => exact ⟨y0, y1, y2, y3, y4, y5, n, by simpa using hf 0 f0 rfl, by simpa using hf 1 f1 rfl, by simpa using hf 2 f2 rfl, by simpa using hf 3 f3 rfl, by simpa using hf 4 f4 rfl, by simpa using hf 5 f5 rfl⟩
end
section
variable {H : Type} {enc : TypeId × Value → H} {w : World} {base : Nat} {spare : Nat → Bool} {held : Bool}
theorem read_calls {r : Reach} {b0 : Nat} {v : Value} {d : DataW H} {p : List MemPlace} (hval : Value.okWide Tryz.prog w r b0 24 v) (h : DataW.Trod enc Tryz.prog w base spare held 24 v d p) : ∃ l : List (Int × Cal), AcsR w v l ∧ l.length ≤ maxLen := by
  obtain ⟨A, L, C, rfl⟩ := okWide_slice Tryz.underlying24 hval
  obtain ⟨fuel, h⟩ := h
  rcases open_slice Tryz.underlying24 h with ⟨hv, _⟩ | ⟨a, len, cap, m, n, D, Pl, hcs, _, hl, hm, hmm, _, hi⟩
  · have hv' : Value.slice A L C = .slice none 0 0 := by simpa [Value.cells] using hv
    exact ⟨[], ⟨none, 0, by simpa using hv', fun k s h => by simp at h⟩, by simp⟩
  · have hv : Value.slice A L C = .slice (some a) len cap := by simpa [Value.cells] using hcs
    have hlm : len ≤ m := by rw [hmm]; split <;> omega
    have key : ∀ i, i < len → ∃ e : Int × Cal, ∃ vd : Value, w.cell? (a.add (i * 7)) = some (.int .i64 e.1) ∧ AtC w (a.add (i * 7)).block (a.add (i * 7)).off e.2 vd ∧ BytesR w vd e.2.data := by
      intro i hil
      obtain ⟨cs', hc, ht⟩ := hi i (by omega)
      rw [cells_act17] at hc
      obtain ⟨_, hcl, hat⟩ := World.cells?_some hc
      match cs', hcl with
      | [c0, c1, c2, c3, c4, c5, c6], _ =>
        obtain ⟨z0, z1, m', g0, gc⟩ := trod_struct2 Tryz.underlying50 ht
        simp only [cells_int, cells_call17] at g0 gc
        obtain ⟨y1, y2, y3, y4, y5, y6, m2, g1, g2, g3, g4, g5, g6⟩ := trod_struct6 Tryz.underlying48 gc
        simp only [cells_int, cells_bs, cells_str'] at g1 g2 g3 g4 g5 g6
        obtain ⟨a0, f0, _, _⟩ := DataW.trod_int Tryz.underlying3 g0
        obtain ⟨a1, f1, _, _⟩ := DataW.trod_int Tryz.underlying3 g1
        obtain ⟨s2, f2, _⟩ := DataW.trod_string Tryz.underlying9 g2
        obtain ⟨s3, f3, _⟩ := DataW.trod_string Tryz.underlying9 g3
        obtain ⟨a4, f4, _, _⟩ := DataW.trod_int Tryz.underlying3 g4
        obtain ⟨a5, f5, _, _⟩ := DataW.trod_int Tryz.underlying3 g5
        simp at f0 f1 f2 f3 f4 f5
        subst f0 f1 f2 f3 f4 f5
        obtain ⟨ds, hD⟩ := read_bytes' (v := c6) (by simpa using g6)
        have k0 := hat 0 (by decide)
        have k1 := hat 1 (by decide)
        have k2 := hat 2 (by decide)
        have k3 := hat 3 (by decide)
        have k4 := hat 4 (by decide)
        have k5 := hat 5 (by decide)
        have k6 := hat 6 (by decide)
        rw [add_none] at k0
        rw [add_pos _ 1 (by decide)] at k1
        rw [add_pos _ 2 (by decide)] at k2
        rw [add_pos _ 3 (by decide)] at k3
        rw [add_pos _ 4 (by decide)] at k4
        rw [add_pos _ 5 (by decide)] at k5
        rw [add_pos _ 6 (by decide)] at k6
        exact ⟨(a0, ⟨a1, tl s2, tl s3, a4, a5, ds⟩), c6, k0, ⟨k1, by rw [k2]; simp [bA_tl], by rw [k3]; simp [bA_tl], k4, k5, k6⟩, hD⟩
    refine ⟨List.ofFn fun i : Fin len => Classical.choose (key i.val i.isLt), ⟨some a, cap, by rw [List.length_ofFn]; exact hv, fun k ca hk => ?_⟩, by rw [List.length_ofFn]; omega⟩
    rw [List.getElem?_ofFn] at hk
    split at hk
    · rename_i hlt
      injection hk with hk
      subst hk
      obtain ⟨vd, hx⟩ := Classical.choose_spec (key k hlt)
      exact ⟨a, vd, rfl, hx⟩
    · cases hk
theorem read_ints2 {fuel : Nat} {v : Value} {x : DataW H × List MemPlace} (h : DataW.trod enc Tryz.prog w base spare held fuel 31 [v] = some x) : ∃ (A : Option Addr) (n c : Nat) (gs : List Int), v = .slice A n c ∧ IntsR w (.slice A n c) gs ∧ gs.length ≤ Rows.uptoBulk x.1 := by
  rcases open_slice1 Tryz.underlying31 cells_int h with ⟨hv, _⟩ | ⟨a, len, cap, m, n, V, D, Pl, hcs, _, hl, hm, hmm, rfl, hi⟩
  · exact ⟨none, 0, 0, [], by simpa using hv, ⟨none, 0, rfl, fun k g hk => by simp at hk⟩, Nat.zero_le _⟩
  · have hlm : len ≤ m := by rw [hmm]; split <;> omega
    have key : ∀ i, i < len → ∃ g : Int, w.cell? (a.add i) = some (.int .i64 g) := by
      intro i hil
      obtain ⟨hc, ht⟩ := hi i (by omega)
      obtain ⟨n0, e0, _, _⟩ := DataW.trod_int Tryz.underlying3 ht
      simp at e0
      exact ⟨n0, by rw [hc, e0]⟩
    refine ⟨some a, len, cap, List.ofFn fun i : Fin len => Classical.choose (key i.val i.isLt), by simpa using hcs, ⟨some a, cap, by rw [List.length_ofFn], fun k g hk => ?_⟩, ?_⟩
    · rw [List.getElem?_ofFn] at hk
      split at hk
      · rename_i hlt
        injection hk with hk
        subst hk
        exact ⟨a, rfl, Classical.choose_spec (key k hlt)⟩
      · cases hk
    · rw [List.length_ofFn]
      have h1 := bulk_len ((List.range len).map D)
      rw [List.length_map, List.length_range] at h1
      exact Nat.le_trans h1 (bulk_slice _ _)
theorem read_creds {r : Reach} {b0 : Nat} {v : Value} {d : DataW H} {p : List MemPlace} (hval : Value.okWide Tryz.prog w r b0 23 v) (h : DataW.Trod enc Tryz.prog w base spare held 23 v d p) : ∃ l : List Wh, CdsR w v l ∧ l.length ≤ Rows.uptoBulk d ∧ ∀ c ∈ l, c.gs.length ≤ Rows.uptoBulk d := by
  obtain ⟨A, L, C, rfl⟩ := okWide_slice Tryz.underlying23 hval
  obtain ⟨fuel, h⟩ := h
  rcases open_slice Tryz.underlying23 h with ⟨hv, _⟩ | ⟨a, len, cap, m, n, D, Pl, hcs, _, hl, hm, hmm, hx, hi⟩
  · have hv' : Value.slice A L C = .slice none 0 0 := by simpa [Value.cells] using hv
    exact ⟨[], ⟨none, 0, by simpa using hv', fun k s h => by simp at h⟩, Nat.zero_le _, fun c hc => by cases hc⟩
  · have hv : Value.slice A L C = .slice (some a) len cap := by simpa [Value.cells] using hcs
    have hlm : len ≤ m := by rw [hmm]; split <;> omega
    have hd : d = .slice ((List.range len).map D) ((List.range (m - len)).map fun j => D (len + j)) := congrArg Prod.fst hx
    have hbd : ∀ i, i < len → Rows.uptoBulk (D i) ≤ Rows.uptoBulk d := fun i hil => by
      rw [hd]
      exact Nat.le_trans (bulk_of_mem (List.mem_map.2 ⟨i, List.mem_range.2 hil, rfl⟩)) (bulk_slice _ _)
    have hld : len ≤ Rows.uptoBulk d := by
      have h1 := bulk_len ((List.range len).map D)
      rw [List.length_map, List.length_range] at h1
      rw [hd]
      exact Nat.le_trans h1 (bulk_slice _ _)
    have key : ∀ i, i < len → ∃ e : Wh, e.gs.length ≤ Rows.uptoBulk d ∧ ∃ (B : Option Addr) (n m : Nat), w.cell? (a.add (i * 3)) = some (.int .i64 e.u) ∧ w.cell? ⟨(a.add (i * 3)).block, (a.add (i * 3)).off + 1, none⟩ = some (.int .i64 e.g) ∧ w.cell? ⟨(a.add (i * 3)).block, (a.add (i * 3)).off + 2, none⟩ = some (.slice B n m) ∧ IntsR w (.slice B n m) e.gs := by
      intro i hil
      obtain ⟨cs', hc, ht⟩ := hi i (by omega)
      rw [cells_cred] at hc
      obtain ⟨_, hcl, hat⟩ := World.cells?_some hc
      match cs', hcl with
      | [c0, c1, c2], _ =>
        obtain ⟨y0, y1, y2, m', hy, _, g0, g1, g2⟩ := trod_struct3 Tryz.underlying35 ht
        simp only [cells_int, cells_ints] at g0 g1 g2
        obtain ⟨a0, f0, _, _⟩ := DataW.trod_int Tryz.underlying3 g0
        obtain ⟨a1, f1, _, _⟩ := DataW.trod_int Tryz.underlying3 g1
        simp at f0 f1
        subst f0 f1
        obtain ⟨B, n2, c', gs, hB, hI, hgl⟩ := read_ints2 (v := c2) (by simpa using g2)
        have hD : D i = .agg [y0.1, y1.1, y2.1] := congrArg Prod.fst hy
        have h2 : Rows.uptoBulk y2.1 ≤ Rows.uptoBulk (D i) := by
          rw [hD]
          exact Nat.le_trans (bulk_of_mem (by simp)) (bulk_agg _)
        have k0 := hat 0 (by decide)
        have k1 := hat 1 (by decide)
        have k2 := hat 2 (by decide)
        rw [add_none] at k0
        rw [add_pos _ 1 (by decide)] at k1
        rw [add_pos _ 2 (by decide)] at k2
        exact ⟨⟨a0, a1, gs⟩, Nat.le_trans hgl (Nat.le_trans h2 (hbd i hil)), B, n2, c', k0, k1, by rw [k2]; exact congrArg some hB, hI⟩
    refine ⟨List.ofFn fun i : Fin len => Classical.choose (key i.val i.isLt), ⟨some a, cap, by rw [List.length_ofFn]; exact hv, fun k ca hk => ?_⟩, by rw [List.length_ofFn]; exact hld, fun c hc => ?_⟩
    · rw [List.getElem?_ofFn] at hk
      split at hk
      · rename_i hlt
        injection hk with hk
        subst hk
        obtain ⟨-, B, n2, m2, hx⟩ := Classical.choose_spec (key k hlt)
        exact ⟨a, B, n2, m2, rfl, hx⟩
      · cases hk
    · obtain ⟨i, rfl⟩ := (List.mem_ofFn ..).1 hc
      exact (Classical.choose_spec (key i.val i.isLt)).1
end
theorem calls_readable : Tryz.prog.readableRec 24 = true := by kernel_rfl
theorem creds_readable : Tryz.prog.readableRec 23 = true := by kernel_rfl
section
variable {H : Type} {enc : TypeId × Value → H} {W W' : World} {v : Value} {d : DataW H} {p : List MemPlace}
theorem shut_calls (h : DataW.Trod enc Tryz.prog W 0 (fun _ => true) true 24 v d p) (hb : Below W.heap.size W W') : DataW.Trod enc Tryz.prog W' 0 (fun b => decide (b < W.heap.size)) true 24 v d p := by
  refine Below.trod laid_out calls_readable (of_decide_eq_true (by kernel_rfl)) h hb ?_
  obtain ⟨n, hn⟩ := h
  exact DataW.trod_lt n _ _ _ hn
theorem shut_creds (h : DataW.Trod enc Tryz.prog W 0 (fun _ => true) true 23 v d p) (hb : Below W.heap.size W W') : DataW.Trod enc Tryz.prog W' 0 (fun b => decide (b < W.heap.size)) true 23 v d p := by
  refine Below.trod laid_out creds_readable (of_decide_eq_true (by kernel_rfl)) h hb ?_
  obtain ⟨n, hn⟩ := h
  exact DataW.trod_lt n _ _ _ hn
end
end Go.Proofs.YtkmkfolpjlkfoaaGreat
