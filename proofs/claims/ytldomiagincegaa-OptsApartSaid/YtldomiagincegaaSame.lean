/-
  What same answers of options and operands that are the model's: true. The conditions: there are a million options, and operands, at most.
-/
import Derived.Test.YtldomiagincegaaAsk
import Derived.Deep.QuietTactic
import Derived.BigQuiet
namespace Go.Proofs.Ytldomiagincegaa
open Go Go.RowKit

set_option maxRecDepth 100000 in
set_option maxHeartbeats 8000000 in
theorem same_true (vF vR vF' vR' : Value) (ok : Bool) (fl : List Fl) (l : List ByteArray) (w : World) (hF : FlagsR w vF fl) (hR : StrsR w vR l) (hF' : FlagsR w vF' fl) (hR' : StrsR w vR' l) (hn : fl.length ≤ 1000000) (hm : l.length ≤ 1000000) :
    Calls Try.prog 12 #[.agg #[vF, vR], .agg #[vF', vR', .bool ok]] w fun e w' => e = .returned (.bool true) ∧ Below w.heap.size w w' := by
  obtain ⟨A, c, rfl, hc⟩ := hF
  obtain ⟨A', c', rfl, hc'⟩ := hF'
  obtain ⟨B, d, rfl, -, hd⟩ := hR
  obtain ⟨B', d', rfl, -, hd'⟩ := hR'
  obtain ⟨W, hW⟩ : ∃ W, W = (w.alloc (.cells #[.slice A fl.length c, .slice B l.length d] 27)).alloc (.cells #[.slice A' fl.length c', .slice B' l.length d', .bool ok] 33) := ⟨_, rfl⟩
  have hb : Below w.heap.size w W := by rw [hW]; exact ((Below.refl _ _).alloc (Nat.le_refl _) _).alloc (by simp) _
  have hB0 : Blk W w.heap.size 27 #[.slice A fl.length c, .slice B l.length d] := by rw [hW]; exact (Blk.new _ _ _).alloc _
  have hB1 : Blk W (w.heap.size + 1) 33 #[.slice A' fl.length c', .slice B' l.length d', .bool ok] := by
    rw [hW]
    have := Blk.new (w.alloc (.cells #[.slice A fl.length c, .slice B l.length d] 27)) 33 #[.slice A' fl.length c', .slice B' l.length d', .bool ok]
    simpa using this
  have HC := Lib.hid hc
  have HC' := Lib.hid hc'
  have HD := Lib.hid hd
  have HD' := Lib.hid hd'
  have HB := Lib.hid hb
  have HW := Lib.hid hW
  have HB0 := Lib.hid hB0
  have HB1 := Lib.hid hB1
  have n1 : ((fl.length : Int) != (fl.length : Int)) = false := by simp
  have n2 : ((l.length : Int) != (l.length : Int)) = false := by simp
  clear hW hb hB0 hB1 hc hc' hd hd'
  go_enter Try.func12, Try.ntmps12
  go_wp2
  go_loopg [5] fl.length (fun gh s5 wr => ∃ k : Nat, s5 = .int .i64 k ∧ k ≤ fl.length ∧ gh = fl.length - k ∧ ∃ n, wr = W.drewN n)
  case atStart => exact ⟨0, rfl, Nat.zero_le _, rfl, 0, HW.out.symm⟩
  case round =>
    obtain ⟨k, rfl, hk, rfl, n0, rfl⟩ := hrel
    have a0 := HB0.out.cell 0
    have a1 := HB1.out.cell 0
    simp at a0 a1
    by_cases hlt : k < fl.length
    · obtain ⟨f, hf⟩ : ∃ f, fl[k]? = some f := ⟨_, List.getElem?_eq_getElem hlt⟩
      obtain ⟨ad, rfl, c0, c1⟩ := HC.out k f hf
      obtain ⟨ad', rfl, c0', c1'⟩ := HC'.out k f hf
      have e0 := bc HB.out c0
      have e1 := bc HB.out c1
      have e0' := bc HB.out c0'
      have e1' := bc HB.out c1'
      have m1 : (co f.1 != co f.1) = false := by simp
      have m2 : (f.2.toList != f.2.toList) = false := by simp
      clear c0 c1 c0' c1' hf
      go_wp2
      go_quiet (fail)
      go_wp2
      go_roundg (fl.length - (k + 1))
      case measure => omega
      case rel => exact ⟨k + 1, by go_num, by omega, rfl, _, rfl⟩
    · go_wp2
      go_loopg [6] l.length (fun gh s6 wr => ∃ m : Nat, s6 = .int .i64 m ∧ m ≤ l.length ∧ gh = l.length - m ∧ ∃ n, wr = W.drewN n)
      case atStart => exact ⟨0, rfl, Nat.zero_le _, rfl, _, rfl⟩
      case round =>
        obtain ⟨m, rfl, hk, rfl, n1, rfl⟩ := hrel
        have p0 := HB0.out.cell 1
        have p1 := HB1.out.cell 1
        simp at p0 p1
        by_cases hlt : m < l.length
        · obtain ⟨s, hs⟩ : ∃ s, l[m]? = some s := ⟨_, List.getElem?_eq_getElem hlt⟩
          obtain ⟨ad, rfl, c0⟩ := HD.out m s hs
          obtain ⟨ad', rfl, c0'⟩ := HD'.out m s hs
          have e0 := bc HB.out c0
          have e0' := bc HB.out c0'
          have m2 : (s.toList != s.toList) = false := by simp
          clear c0 c0' hs
          go_wp2
          go_quiet (fail)
          go_wp2
          go_roundg (l.length - (m + 1))
          case measure => omega
          case rel => exact ⟨m + 1, by go_num, by omega, rfl, _, rfl⟩
        · go_wp2
          go_ret
          exact ⟨rfl, ⟨HB.out.os, HB.out.tape, HB.out.output, HB.out.size, HB.out.block⟩⟩
end Go.Proofs.Ytldomiagincegaa
