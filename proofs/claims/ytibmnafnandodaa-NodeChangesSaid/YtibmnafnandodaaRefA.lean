/-
  The reference's Less, Place, and Same of nodes that are the same. The conditions: no text is longer than a thousand, and no list.
-/
import Derived.Test.YtibmnafnandodaaFault
namespace Go.Proofs.Ytibmnafnandodaa
open Go Go.RowKit

theorem bAat {a : Nm} {k : Nat} (h : k < (bA a).size) : a[k]? = some (bA a)[k] := by
  have := tl_at h
  rw [tl_bA] at this
  exact this
theorem ref_bdN {W w : World} (h : Below W.heap.size W w) (n : Nat) : Below W.heap.size W (w.drewN n) := ⟨h.os, h.tape, h.output, h.size, h.block⟩
theorem ref_take_snoc {α : Type} {a b : List α} {k : Nat} {x : α} (h : a.take k = b.take k) (ha : a[k]? = some x) (hb : b[k]? = some x) : a.take (k + 1) = b.take (k + 1) := by rw [take_snoc' ha, take_snoc' hb, h]
set_option maxRecDepth 100000 in
set_option maxHeartbeats 4000000 in
theorem ref_less (a b : Nm) (w : World) (ha : a.length ≤ 1000) (hb : b.length ≤ 1000) :
    Calls Try.prog 27 #[.string (bA a), .string (bA b)] w fun e w' => e = .returned (.bool (lss a b)) ∧ Below w.heap.size w w' := by
  have hsa := size_bA a
  have hsb := size_bA b
  have HD := Lib.hid (fun (k : Nat) (x y : UInt8) (ht : a.take k = b.take k) (hx : a[k]? = some x) (hy : b[k]? = some y) (hne : ¬ x = y) => lss_at ht hx hy hne)
  have HL := Lib.hid (fun (k : Nat) (ht : a.take k = b.take k) (h1 : k ≤ a.length) (h2 : k ≤ b.length) (he : k = a.length ∨ k = b.length) => lss_len ht h1 h2 he)
  generalize lss a b = X at HD HL ⊢
  have HSA := Lib.hid hsa
  have HSB := Lib.hid hsb
  obtain ⟨sa, hsa2⟩ : ∃ s, bA a = s := ⟨_, rfl⟩
  obtain ⟨sb, hsb2⟩ : ∃ s, bA b = s := ⟨_, rfl⟩
  have HAA := Lib.hid (fun (k : Nat) (h : k < sa.size) => show a[k]? = some sa[k] by subst hsa2; exact bAat h)
  have HBB := Lib.hid (fun (k : Nat) (h : k < sb.size) => show b[k]? = some sb[k] by subst hsb2; exact bAat h)
  rw [hsa2] at hsa ⊢
  rw [hsb2] at hsb ⊢
  have hza : sa.size ≤ 1000 := by omega
  have hzb : sb.size ≤ 1000 := by omega
  have HZA := Lib.hid hsa
  have HZB := Lib.hid hsb
  clear hsa hsb hsa2 hsb2 HSA HSB ha hb
  go_enter Try.func27, Try.ntmps27
  go_wp2
  go_loopg [5] sa.size (fun g s5 wr => ∃ k : Nat, s5 = .int .i64 k ∧ k ≤ sa.size ∧ k ≤ sb.size ∧ g = sa.size - k ∧ a.take k = b.take k ∧ Below w.heap.size w wr)
  case atStart => exact ⟨0, rfl, Nat.zero_le _, Nat.zero_le _, rfl, rfl, Below.refl _ _⟩
  case round =>
    obtain ⟨k, rfl, h1, h2, rfl, htk, hbr⟩ := hrel
    have HT := Lib.hid htk
    have HB := Lib.hid hbr
    clear htk hbr
    by_cases ka : k < sa.size
    · have ka' : (k : Int) < (sa.size : Int) := by omega
      by_cases kb : k < sb.size
      · have kb' : (k : Int) < (sb.size : Int) := by omega
        obtain ⟨x, hx⟩ : ∃ x, sa[k] = x := ⟨_, rfl⟩
        obtain ⟨y, hy⟩ : ∃ y, sb[k] = y := ⟨_, rfl⟩
        have HXA := Lib.hid (show a[k]? = some x by rw [HAA.out k ka, hx])
        have HYB := Lib.hid (show b[k]? = some y by rw [HBB.out k kb, hy])
        by_cases hxy : x = y
        · subst hxy
          have q1 : ((x.toNat : Int) != (x.toNat : Int)) = false := by simp
          go_wp2
          go_quiet (fail)
          go_wp2
          go_roundg (sa.size - (k + 1))
          case measure => omega
          case rel => exact ⟨k + 1, by go_num, by omega, by omega, rfl, ref_take_snoc HT.out HXA.out HYB.out, ref_bdN HB.out _⟩
        · have q1 : ((x.toNat : Int) != (y.toNat : Int)) = true := by simp only [bne_iff_ne, ne_eq]; intro e; exact hxy (co_inj e)
          have HF := Lib.hid (show decide (x.toNat < y.toNat) = X from (HD.out k x y HT.out HXA.out HYB.out hxy).symm)
          clear hxy
          go_wp2
          go_quiet (fail)
          go_wp2
          go_quiet (fail)
          go_wp2
          go_ret
          exact ⟨ret_bool HF.out, ref_bdN (ref_bdN HB.out _) _⟩
      · have kb' : ¬ (k : Int) < (sb.size : Int) := by omega
        have HF := Lib.hid (show decide (sa.size < sb.size) = X by
          rw [HL.out k HT.out (by have := HZA.out; omega) (by have := HZB.out; omega) (.inr (by have := HZB.out; omega))]
          congr 1
          apply propext
          have := HZA.out
          have := HZB.out
          constructor <;> intro h <;> omega)
        go_wp2
        go_ret
        exact ⟨ret_bool HF.out, HB.out⟩
    · have ka' : ¬ (k : Int) < (sa.size : Int) := by omega
      have HF := Lib.hid (show decide (sa.size < sb.size) = X by
        rw [HL.out k HT.out (by have := HZA.out; omega) (by have := HZB.out; omega) (.inl (by have := HZA.out; omega))]
        congr 1
        apply propext
        have := HZA.out
        have := HZB.out
        constructor <;> intro h <;> omega)
      go_wp2
      go_ret
      exact ⟨ret_bool HF.out, HB.out⟩
/-- The reference's node in a block of its own. -/
abbrev rfC (n : Nd) (vn vk : Value) : Array Value := #[.int .i64 n.kind, .int .i64 n.mode, .int .i64 n.uid, .int .i64 n.gid, .string (bA n.data), vn, vk, .string (bA n.target)]
abbrev rfZ : Array Value := #[.int .i64 0, .int .i64 0, .int .i64 0, .int .i64 0, .string ⟨#[]⟩, .slice none 0 0, .slice none 0 0, .string ⟨#[]⟩]
theorem nm_len (l : List En) : (nmA (nmE l)).length = l.length := by rw [nmA_len, len_nmE]
set_option maxRecDepth 100000 in
set_option maxHeartbeats 4000000 in
theorem ref_place (n : Nd) (vn vk : Value) (name : Nm) (w : World) (hN : StrsR w vn (nmA (nmE n.ents))) (hK : IntsR w vk (idE n.ents)) (hn : n.ents.length ≤ 1000) :
    Calls Try.prog 26 #[.agg (rfC n vn vk), .string (bA name)] w fun e w' => e = .returned (.int .i64 (plcI (isN name) n.ents)) ∧ Below w.heap.size w w' := by
  have HB1 := Lib.hid (ba w (.cells (rfC n vn vk) 31))
  have HNN := Lib.hid (hN.below (ba w (.cells (rfC n vn vk) 31)))
  obtain ⟨A1, c1, rfl⟩ := strs_form hN (nm_len _)
  obtain ⟨A2, c2, rfl⟩ := ints_form hK (idE_len _)
  have hFl : n.ents.findIdx (isN name) ≤ n.ents.length := List.findIdx_le_length
  have HLT := Lib.hid (fun (k : Nat) (e : En) (hk : n.ents[k]? = some e) (h : k < n.ents.findIdx (isN name)) => show isN name e = false by
    have h2 := List.not_of_lt_findIdx h
    obtain ⟨h3, h4⟩ := List.getElem?_eq_some_iff.1 hk
    rw [h4] at h2
    simpa using h2)
  have HEQ := Lib.hid (fun (k : Nat) (e : En) (hk : n.ents[k]? = some e) (h : k = n.ents.findIdx (isN name)) => show isN name e = true by
    subst h
    obtain ⟨h3, h4⟩ := List.getElem?_eq_some_iff.1 hk
    have h2 := List.findIdx_getElem (w := h3)
    rw [h4] at h2
    exact h2)
  have HX := Lib.hid (show plcI (isN name) n.ents = if n.ents.findIdx (isN name) < n.ents.length then (n.ents.findIdx (isN name) : Int) else -1 from rfl)
  generalize plcI (isN name) n.ents = X at HX ⊢
  generalize n.ents.findIdx (isN name) = F at hFl HLT HEQ HX
  clear hN hK
  go_enter Try.func26, Try.ntmps26
  go_wp2
  go_loopg [5] n.ents.length (fun g s5 wr => ∃ k : Nat, s5 = .int .i64 k ∧ k ≤ F ∧ g = n.ents.length - k ∧ w.alloc (.cells (rfC n (.slice A1 n.ents.length c1) (.slice A2 n.ents.length c2)) 31) = wr)
  case atStart => exact ⟨0, rfl, Nat.zero_le _, rfl, rfl⟩
  case round =>
    obtain ⟨k, rfl, hk, rfl, rfl⟩ := hrel
    by_cases hlt : k < n.ents.length
    · have hlt' : (k : Int) < (n.ents.length : Int) := by omega
      obtain ⟨e, he⟩ : ∃ e, n.ents[k]? = some e := ⟨_, List.getElem?_eq_getElem hlt⟩
      obtain ⟨ad, rfl, c0⟩ := strs_get HNN.out (nmA_at (nmE_at he))
      have HE := Lib.hid he
      clear he
      by_cases hkF : k = F
      · have hp : ((bA e.1).toList == (bA name).toList) = true := by rw [bA_list, bA_list]; exact HEQ.out k e HE.out hkF
        have HX2 := Lib.hid (show X = (k : Int) by rw [HX.out, if_pos (by omega), hkF])
        clear hkF
        go_wp2
        go_ret
        exact ⟨ret_int HX2.out.symm, HB1.out⟩
      · have hp : ((bA e.1).toList == (bA name).toList) = false := by rw [bA_list, bA_list]; exact HLT.out k e HE.out (by omega)
        have hkF2 : k + 1 ≤ F := by omega
        clear hkF
        go_wp2
        go_roundg (n.ents.length - (k + 1))
        case measure => omega
        case rel => exact ⟨k + 1, by go_num, by omega, rfl, rfl⟩
    · have hlt' : ¬ (k : Int) < (n.ents.length : Int) := by omega
      have HX2 := Lib.hid (show X = -1 by rw [HX.out, if_neg (by omega)])
      go_wp2
      go_ret
      exact ⟨ret_int HX2.out.symm, HB1.out⟩
set_option maxRecDepth 100000 in
set_option maxHeartbeats 4000000 in
/-- Two that are the same. -/
theorem ref_same (n : Nd) (vn vk vn' vk' : Value) (w : World) (hN : StrsR w vn (nmA (nmE n.ents))) (hK : IntsR w vk (idE n.ents)) (hN' : StrsR w vn' (nmA (nmE n.ents))) (hK' : IntsR w vk' (idE n.ents)) (hn : n.ents.length ≤ 1000) :
    Calls Try.prog 14 #[.agg (rfC n vn vk), .agg (rfC n vn' vk')] w fun e w' => e = .returned (.bool true) ∧ Below w.heap.size w w' := by
  obtain ⟨W1, hW1⟩ : ∃ W1, W1 = (w.alloc (.cells (rfC n vn vk) 31)).alloc (.cells (rfC n vn' vk') 31) := ⟨_, rfl⟩
  have hb1 : Below w.heap.size w W1 := by rw [hW1]; exact al (ba _ _) _
  have hka : Blk W1 w.heap.size 31 (rfC n vn vk) := by rw [hW1]; exact (Blk.new _ _ _).alloc _
  have hkb : Blk W1 (w.heap.size + 1) 31 (rfC n vn' vk') := by rw [hW1]; have := Blk.new (w.alloc (.cells (rfC n vn vk) 31)) 31 (rfC n vn' vk'); simpa using this
  have H1 := Lib.hid (hN.below hb1)
  have H2 := Lib.hid (hK.below hb1)
  have H3 := Lib.hid (hN'.below hb1)
  have H4 := Lib.hid (hK'.below hb1)
  have HB1 := Lib.hid hb1
  obtain ⟨A1, c1, rfl⟩ := strs_form hN (nm_len _)
  obtain ⟨A2, c2, rfl⟩ := ints_form hK (idE_len _)
  obtain ⟨A3, c3, rfl⟩ := strs_form hN' (nm_len _)
  obtain ⟨A4, c4, rfl⟩ := ints_form hK' (idE_len _)
  obtain ⟨p0, p1, p2, p3, p4, p5, p6, p7⟩ := hka.c8
  obtain ⟨r0, r1, r2, r3, r4, r5, r6, r7⟩ := hkb.c8
  have HW1 := Lib.hid hW1
  clear hN hK hN' hK' hb1 hka hkb hW1
  have q0 : (n.kind != n.kind) = false := by simp
  have q1 : (n.mode != n.mode) = false := by simp
  have q2 : (n.uid != n.uid) = false := by simp
  have q3 : (n.gid != n.gid) = false := by simp
  have q4 : ((bA n.data).toList != (bA n.data).toList) = false := by simp
  have q5 : ((bA n.target).toList != (bA n.target).toList) = false := by simp
  have q6 : ((n.ents.length : Int) != (n.ents.length : Int)) = false := by simp
  go_enter Try.func14, Try.ntmps14
  go_wp2
  go_loopg [5] n.ents.length (fun g s5 wr => ∃ (k nq : Nat), s5 = .int .i64 k ∧ k ≤ n.ents.length ∧ g = n.ents.length - k ∧ wr = W1.drewN nq)
  case atStart => exact ⟨0, 0, rfl, Nat.zero_le _, rfl, by rw [HW1.out]; rfl⟩
  case round =>
    obtain ⟨k, nq, rfl, hk, rfl, rfl⟩ := hrel
    by_cases hlt : k < n.ents.length
    · have hlt' : (k : Int) < (n.ents.length : Int) := by omega
      obtain ⟨e, he⟩ : ∃ e, n.ents[k]? = some e := ⟨_, List.getElem?_eq_getElem hlt⟩
      obtain ⟨a1, rfl, d1⟩ := strs_get H1.out (nmA_at (nmE_at he))
      obtain ⟨a2, rfl, d2⟩ := ints_get H2.out (idE_at he)
      obtain ⟨a3, rfl, d3⟩ := strs_get H3.out (nmA_at (nmE_at he))
      obtain ⟨a4, rfl, d4⟩ := ints_get H4.out (idE_at he)
      have m1 : ((bA e.1).toList != (bA e.1).toList) = false := by simp
      have m2 : (e.2 != e.2) = false := by simp
      clear he
      go_wp2
      go_quiet (fail)
      go_wp2
      go_roundg (n.ents.length - (k + 1))
      case measure => omega
      case rel => exact ⟨k + 1, _, by go_num, by omega, rfl, rfl⟩
    · have hlt' : ¬ (k : Int) < (n.ents.length : Int) := by omega
      go_wp2
      go_ret
      exact ⟨rfl, ref_bdN HB1.out _⟩
end Go.Proofs.Ytibmnafnandodaa
