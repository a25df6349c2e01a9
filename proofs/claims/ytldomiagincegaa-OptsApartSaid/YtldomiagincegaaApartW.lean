/-
  The walk of the law OptsApart: of any picks and words it answers true.
-/
import Derived.Test.YtldomiagincegaaApp2
import Derived.Test.YtldomiagincegaaValM
import Derived.Deep.RegionHeld3
import Derived.Deep.DeepCutAuto
import Derived.Deep.QuietTactic
import Derived.BigQuiet
namespace Go.Proofs.Ytldomiagincegaa
open Go Go.RowKit

theorem below_drewN {B : Nat} {a w : World} (h : Below B a w) (n : Nat) : Below B a (w.drewN n) := ⟨h.os, h.tape, h.output, h.size, h.block⟩
/-- The letter that a byte picks. -/
def w4 (b : UInt8) : UInt8 := [82, 72, 76, 80].getD (b.toNat % 4) 0
theorem w4_four (b : UInt8) : four (w4 b) = true := by
  have h : b.toNat % 4 < 4 := Nat.mod_lt _ (by decide)
  unfold w4
  obtain e | e | e | e : b.toNat % 4 = 0 ∨ b.toNat % 4 = 1 ∨ b.toNat % 4 = 2 ∨ b.toNat % 4 = 3 := by omega
  all_goals (rw [e]; decide)
theorem all_four (l : List UInt8) : (l.map w4).all four = true := by
  rw [List.all_eq_true]
  intro c hc
  rw [List.mem_map] at hc
  obtain ⟨b, _, rfl⟩ := hc
  exact w4_four b
theorem ext4 : ∀ j : Fin 4, ((⟨#[82, 72, 76, 80]⟩ : ByteArray).extract j.val (j.val + 1)).data.toList = [[82, 72, 76, 80].getD j.val 0] := by decide +kernel
theorem idx4 : ∀ j : Fin 4, (⟨#[82, 72, 76, 80]⟩ : ByteArray)[j.val]'j.isLt = [82, 72, 76, 80].getD j.val 0 := by decide +kernel
theorem sl_run (s : ByteArray) (n : Nat) (h : n + 1 ≤ s.size) (w : World) : (Instr.slice 9 (.string s) (some (.int .i64 (n : Int))) (some (.int .i64 ((n : Int) + 1))) none).run Try.prog w = .ok (.string (s.extract n (n + 1))) w := by
  have e := run_slice_string w 9 s .i64 .i64 (n : Int) ((n : Int) + 1) Try.underlying9 (by omega) (by omega) (by omega)
  rwa [show ((n : Int)).toNat = n by omega, show ((n : Int) + 1).toNat = n + 1 by omega] at e
theorem sl4 (b : UInt8) : ∃ (j : Nat) (t : ByteArray), co b % 4 = (j : Int) ∧ j < 4 ∧ t.data.toList = [w4 b] ∧ ∀ w : World, (Instr.slice 9 (.string ⟨#[82, 72, 76, 80]⟩) (some (.int .i64 (j : Int))) (some (.int .i64 ((j : Int) + 1))) none).run Try.prog w = .ok (.string t) w := by
  have h : b.toNat % 4 < 4 := Nat.mod_lt _ (by decide)
  exact ⟨b.toNat % 4, _, by unfold co; omega, h, ext4 ⟨b.toNat % 4, h⟩, fun w => sl_run ⟨#[82, 72, 76, 80]⟩ _ (by show _ ≤ 4; omega) w⟩
theorem empty_or {rs : List ByteArray} {w : World} {v : Value} (h : StrsR w v rs) (hb : begins rs = false) : ∃ (ad : Addr) (c : Nat) (x : ByteArray) (r : List ByteArray), rs = x :: r ∧ v = .slice (some ad) (r.length + 1) c ∧ w.cell? ad = some (.string x) ∧ isOpt x = true := by
  cases rs with
  | nil => cases hb
  | cons x r =>
    obtain ⟨ad, c, c', A', hv, h0, -, -⟩ := tail_run h
    exact ⟨ad, c, x, r, rfl, hv, h0, by simpa [begins] using hb⟩
set_option maxRecDepth 100000 in
set_option maxHeartbeats 2000000 in
theorem apartLaw_out (vP vB : Value) (ps : List UInt8) (rs : List ByteArray) (w : World) (hP : BytesR w vP ps) (hnp : ps.length ≤ maxLen) (hB : StrsR w vB rs) (hn2 : rs.length ≤ maxLen) (hz2 : ∀ s ∈ rs, s.size ≤ maxLen)
    (h : fewB rs = false ∨ 30 < ps.length ∨ ps.length = 0 ∨ begins rs = false) :
    Calls Try.prog 6 #[vP, vB] w fun e w' => e = .returned (.bool true) ∧ Below w.heap.size w w' := by
  have hnp' : ps.length ≤ 9223372036854775807 := by unfold maxLen at hnp; omega
  have HA := Lib.hid (awake_any w)
  have HG := Lib.hid (fun w1 hb => few_any vB rs w1 (hB.below hb) hn2 hz2)
  have HSB := Lib.hid hB
  obtain ⟨A, c, rfl, -⟩ := hP
  clear hnp hn2 hz2
  cases hg : fewB rs with
  | false =>
    rw [hg] at HG
    obtain ⟨A', c', rfl, -, -⟩ := hB
    clear hg h
    go_enter Try.func6, Try.ntmps6
    go_wp2_with fail
    refine HA.out.mono ?_
    rintro e w1 ⟨rfl, hb⟩
    have HB1 := Lib.hid hb
    clear hb
    go_wp2_with fail
    refine (HG.out _ HB1.out).mono ?_
    rintro e w2 ⟨rfl, rfl⟩
    go_wp2
    go_ret
    exact ⟨rfl, HB1.out⟩
  | true =>
    rw [hg] at HG h
    replace h : 30 < ps.length ∨ ps.length = 0 ∨ begins rs = false := by rcases h with h | h; cases h; exact h
    have hrl := (few_bd hg).1
    clear hg
    by_cases h1 : 30 < ps.length
    · obtain ⟨A', c', rfl, -, -⟩ := hB
      clear h
      go_enter Try.func6, Try.ntmps6
      go_wp2_with fail
      refine HA.out.mono ?_
      rintro e w1 ⟨rfl, hb⟩
      have HB1 := Lib.hid hb
      clear hb
      go_wp2_with fail
      refine (HG.out _ HB1.out).mono ?_
      rintro e w2 ⟨rfl, rfl⟩
      go_wp2
      go_ret
      exact ⟨rfl, HB1.out⟩
    have d1 : decide ((30 : Int) < (ps.length : Int)) = false := by simp; omega
    by_cases h2 : ps.length = 0
    · have d2 : ((ps.length : Int) == 0) = true := by rw [h2]; rfl
      obtain ⟨A', c', rfl, -, -⟩ := hB
      clear h h2
      go_enter Try.func6, Try.ntmps6
      go_wp2_with fail
      refine HA.out.mono ?_
      rintro e w1 ⟨rfl, hb⟩
      have HB1 := Lib.hid hb
      clear hb
      go_wp2_with fail
      refine (HG.out _ HB1.out).mono ?_
      rintro e w2 ⟨rfl, rfl⟩
      go_wp2
      go_ret
      exact ⟨rfl, HB1.out⟩
    have d2 : ((ps.length : Int) == 0) = false := by rw [beq_eq_false_iff_ne]; omega
    have h3 : begins rs = false := by rcases h with h | h | h; omega; omega; exact h
    obtain ⟨ad, cc, x, r, rfl, rfl, k0, ho⟩ := empty_or hB h3
    have hx : 1 < x.size := by
      rw [isOpt] at ho
      simp at ho
      exact ho.1
    have hx0 : 0 < x.size := by omega
    obtain ⟨bx, hbx⟩ : ∃ bx, x[0] = bx := ⟨_, rfl⟩
    have q1 : ((bx.toNat : Int) == 45) = true := by
      have h45 : bx = 45 := by
        rw [isOpt, head_at x hx0, hbx] at ho
        simp at ho
        exact ho.2
      rw [h45]
      rfl
    have K0 := Lib.hid k0
    simp only [List.length_cons] at hrl
    clear h h3 ho k0 h1 h2 hB
    go_enter Try.func6, Try.ntmps6
    go_wp2_with fail
    refine HA.out.mono ?_
    rintro e w1 ⟨rfl, hb⟩
    have HB1 := Lib.hid hb
    have k1 := bc hb K0.out
    clear hb
    go_wp2_with fail
    refine (HG.out _ HB1.out).mono ?_
    rintro e w2 ⟨rfl, rfl⟩
    go_wp2
    go_ret
    exact ⟨rfl, HB1.out⟩
/-- Behind an append to a row that lies behind another one. -/
theorem apart3 {w1 wr w3 : World} {v1 vl : Value} {s : ByteArray} {l rs : List ByteArray} {n : Nat} (hb : Below w1.heap.size w1 wr) (hl : wr.ownsRow w1.heap.size 9 1 vl l.length (sCells l)) (hn : ([s] ++ rs).length = n)
    (ho : w3.ownsRow w1.heap.size 9 1 v1 ([s] ++ rs).length (sCells ([s] ++ rs))) (hg : (wr.alloc (.cells #[.string s] 9)).grownBy w3 (some wr.heap.size)) (hat : v1.ownBlock = some wr.heap.size ∨ v1.ownBlock = some (wr.alloc (.cells #[.string s] 9)).heap.size) :
    ∃ A c, v1 = .slice A n c ∧ w3.ownsRow w1.heap.size 9 1 (.slice A n c) ([s] ++ rs).length (sCells ([s] ++ rs)) ∧ (Value.slice A n c).ownBlock ≠ vl.ownBlock ∧ w3.ownsRow w1.heap.size 9 1 vl l.length (sCells l) ∧ Below w1.heap.size w1 w3 := by
  subst hn
  obtain ⟨A, c, rfl⟩ := own_slice ho
  have hlt : ∀ q, vl.ownBlock = some q → q < wr.heap.size := fun q hq => (hl.lt q hq).2
  refine ⟨A, c, rfl, ho, fun e => ?_, (hl.alloc _).kept hg (.inr fun e => ?_), (hb.alloc hb.size _).grown hg (by simp; have := hb.size; omega) (fun q hq => by injection hq with hq; have := hb.size; omega)⟩
  · rcases hat with h | h
    · rw [h] at e
      have := hlt _ e.symm
      omega
    · rw [h] at e
      have := hlt _ e.symm
      simp at this
      omega
  · have := hlt _ e
    omega
/-- Behind an append to the other one. -/
theorem apart4 {w1 w3 w4 : World} {v1 vl v2 : Value} {l1 l rs : List ByteArray} {n : Nat} (hb : Below w1.heap.size w1 w3) (hO1 : w3.ownsRow w1.heap.size 9 1 v1 l1.length (sCells l1)) (hne : v1.ownBlock ≠ vl.ownBlock) (hl : w3.ownsRow w1.heap.size 9 1 vl l.length (sCells l)) (hn : (l ++ rs).length = n)
    (ho : w4.ownsRow w1.heap.size 9 1 v2 (l ++ rs).length (sCells (l ++ rs))) (hg : w3.grownBy w4 vl.ownBlock) :
    ∃ A c, v2 = .slice A n c ∧ StrsR w4 (.slice A n c) (l ++ rs) ∧ StrsR w4 v1 l1 ∧ Below w1.heap.size w1 w4 := by
  subst hn
  obtain ⟨A, c, rfl⟩ := own_slice ho
  exact ⟨A, c, rfl, StrsR.of_own ho, StrsR.of_own (hO1.kept hg (.inr hne)), hb.grown hg hb.size (fun q hq => (hl.lt q hq).1)⟩
theorem tot_words : ∀ (l : List UInt8) (ws : List ByteArray), ws.map (·.data.toList) = l.map (fun c => [45, c]) → tot ws = 2 * l.length
  | [], [], _ => rfl
  | [], _ :: _, e => by cases e
  | _ :: _, [], e => by cases e
  | c :: l, x :: ws, e => by
    rw [List.map_cons, List.map_cons] at e
    injection e with e1 e2
    have hz : x.size = 2 := len_of e1
    rw [tot_cons, tot_words l ws e2, hz, List.length_cons]
    omega
theorem tot_app (a b : List ByteArray) : tot (a ++ b) = tot a + tot b := by simp [tot]
theorem no_m (l : List UInt8) : lastF (plain (l.map w4)) [109] = none := by
  apply lastF_none
  rw [noneF, List.all_eq_true]
  intro f hf
  rw [plain, List.map_map, List.mem_map] at hf
  obtain ⟨b, _, rfl⟩ := hf
  have h := w4_four b
  show (![109].contains (w4 b)) = true
  generalize w4 b = c at h
  unfold four at h
  simp only [Bool.or_eq_true, beq_iff_eq] at h
  rcases h with ((h | h) | h) | h <;> subst h <;> rfl
theorem plain_len (l : List UInt8) : (plain (l.map w4)).length = l.length := by simp [plain]
/-- In the loop that makes the words. -/
structure TS (w1 wr : World) (ps : List UInt8) (k : Nat) (word : ByteArray) (vl : Value) (ws : List ByteArray) : Prop where
  below : Below w1.heap.size w1 wr
  text : word.data.toList = 45 :: (ps.take k).map w4
  words : ws.map (·.data.toList) = ((ps.take k).map w4).map (fun c => [45, c])
  own : wr.ownsRow w1.heap.size 9 1 vl ws.length (sCells ws)
theorem TS.len {w1 wr : World} {ps : List UInt8} {k : Nat} {word : ByteArray} {vl : Value} {ws : List ByteArray} (h : TS w1 wr ps k word vl ws) (hk : k ≤ ps.length) : ws.length = k ∧ word.size = k + 1 := by
  have h1 := congrArg List.length h.words
  simp only [List.length_map, List.length_take] at h1
  have h2 := len_of h.text
  simp only [List.length_cons, List.length_map, List.length_take] at h2
  omega
theorem parse_w {word : ByteArray} {ps : List UInt8} {rs : List ByteArray} {v : Value} {w : World} (hX : word.data.toList = 45 :: ps.map w4) (hp0 : ¬ ps.length = 0) (hp1 : ps.length ≤ 30) (hl : rs.length ≤ 30) (ht : tot rs ≤ 60 * rs.length) (hb : begins rs = true) (hS : StrsR w v ([word] ++ rs)) :
    Calls Try.prog 10 #[.string ⟨#[82, 72, 76, 80, 109, 58]⟩, v] w (OP w (some (plain (ps.map w4), rs))) := by
  have hz : word.size = ps.length + 1 := by rw [len_of hX, List.length_cons, List.length_map]
  have h := parse_any ⟨#[82, 72, 76, 80, 109, 58]⟩ v _ w (by decide) hS (by simp; omega) (by rw [List.singleton_append, tot_cons, hz]; omega)
  have hne : ¬ ps.map w4 = [] := fun e => hp0 (by have := congrArg List.length e; simpa using this)
  rwa [show prs ⟨#[82, 72, 76, 80, 109, 58]⟩ ([word] ++ rs) = some (plain (ps.map w4), rs) from prs_word hX hne (all_four ps) hb] at h
theorem parse_ws {ws : List ByteArray} {ps : List UInt8} {rs : List ByteArray} {v : Value} {w : World} (hX : ws.map (·.data.toList) = (ps.map w4).map (fun c => [45, c])) (hp1 : ps.length ≤ 30) (hl : rs.length ≤ 30) (ht : tot rs ≤ 60 * rs.length) (hb : begins rs = true) (hS : StrsR w v (ws ++ rs)) :
    Calls Try.prog 10 #[.string ⟨#[82, 72, 76, 80, 109, 58]⟩, v] w (OP w (some (plain (ps.map w4), rs))) := by
  have hz := tot_words _ _ hX
  have hl2 : ws.length = ps.length := by have := congrArg List.length hX; simpa using this
  rw [List.length_map] at hz
  have h := parse_any ⟨#[82, 72, 76, 80, 109, 58]⟩ v _ w (by decide) hS (by rw [List.length_append]; omega) (by rw [tot_app, hz]; omega)
  rwa [show prs ⟨#[82, 72, 76, 80, 109, 58]⟩ (ws ++ rs) = some (plain (ps.map w4), rs) from prs_words hb _ _ hX (all_four ps)] at h
theorem plain_at {ps : List UInt8} {k : Nat} {p : UInt8} (h : ps[k]? = some p) : (plain (ps.map w4))[k]? = some (w4 p, ⟨#[]⟩) := by simp [plain, h]
theorem idx_all (w : World) : ∀ j : Fin 4, (Instr.index 9 (.string ⟨#[82, 72, 76, 80]⟩) (.int .u8 (j.val : Int))).run Try.prog w = .ok (.int .u8 (co ([82, 72, 76, 80].getD j.val 0))) w
  | ⟨0, _⟩ => by kernel_rfl
  | ⟨1, _⟩ => by kernel_rfl
  | ⟨2, _⟩ => by kernel_rfl
  | ⟨3, _⟩ => by kernel_rfl
theorem idx_run (p : UInt8) (j : Nat) (hj : co p % 4 = (j : Int)) (w : World) : (Instr.index 9 (.string ⟨#[82, 72, 76, 80]⟩) (.int .u8 (j : Int))).run Try.prog w = .ok (.int .u8 (co (w4 p))) w := by
  have h : p.toNat % 4 < 4 := Nat.mod_lt _ (by decide)
  have hj2 : j = p.toNat % 4 := by unfold co at hj; omega
  subst hj2
  exact idx_all w ⟨p.toNat % 4, h⟩
attribute [local go_sem] eq_flag
set_option maxRecDepth 100000 in
set_option maxHeartbeats 8000000 in
theorem apartLaw_in (vP vB : Value) (ps : List UInt8) (rs : List ByteArray) (w : World) (hP : BytesR w vP ps) (hB : StrsR w vB rs) (hn2 : rs.length ≤ maxLen) (hz2 : ∀ s ∈ rs, s.size ≤ maxLen)
    (hg : fewB rs = true) (hp1 : ps.length ≤ 30) (hp0 : ¬ ps.length = 0) (hbg : begins rs = true) :
    Calls Try.prog 6 #[vP, vB] w fun e w' => e = .returned (.bool true) ∧ Below w.heap.size w w' := by
  have hgb := few_bd hg
  have HA := Lib.hid (awake_any w)
  have HG := Lib.hid (fun w1 hb => few_any vB rs w1 (hB.below hb) hn2 hz2)
  rw [hg] at HG
  have HSB := Lib.hid hB
  have HPP := Lib.hid hP
  have hrl : rs.length ≤ 30 := hgb.1
  have HTR := Lib.hid hgb.2
  have HBG := Lib.hid hbg
  obtain ⟨A, c, rfl, hcp⟩ := hP
  have HCP := Lib.hid hcp
  have d1 : decide ((30 : Int) < (ps.length : Int)) = false := by simp; omega
  have d2 : ((ps.length : Int) == 0) = false := by rw [beq_eq_false_iff_ne]; omega
  have HP0 := Lib.hid hp0
  clear hn2 hz2 hgb hg hp0 hcp
  obtain ⟨A', c', hvB, -, hcB⟩ := id HSB.out
  subst hvB
  have HCB := Lib.hid hcB
  clear hcB hB hbg
  go_enter Try.func6, Try.ntmps6
  go_wp2_with fail
  refine HA.out.mono ?_
  rintro e w1 ⟨rfl, hb1⟩
  have HB1 := Lib.hid hb1
  clear hb1 HA
  go_wp2_with fail
  refine (HG.out _ HB1.out).mono ?_
  rintro e w2 ⟨rfl, rfl⟩
  clear HG
  go_upto_region 5 with fail
  go_cut [52] (fun s52 wr => s52 = .bool false ∧ w1 = wr)
  case first =>
    cases rs with
    | nil =>
      go_wp2_with fail
      go_meet
      exact ⟨rfl, rfl⟩
    | cons x r =>
      have ho : isOpt x = false := by have := HBG.out; simpa [begins] using this
      obtain ⟨ad, rfl, e0⟩ := HCB.out 0 x rfl
      rw [add_none] at e0
      have k0 := bc HB1.out e0
      simp only [List.length_cons] at hrl
      clear e0
      by_cases hx : 1 < x.size
      · have hx0 : 0 < x.size := by omega
        obtain ⟨bx, hbx⟩ : ∃ bx, x[0] = bx := ⟨_, rfl⟩
        have q1 : ((bx.toNat : Int) == 45) = false := by
          have h45 : ¬ bx = 45 := by
            intro e
            rw [isOpt, head_at x hx0, hbx, e] at ho
            simp [hx] at ho
          exact co_ne (a := bx) (b := 45) h45
        clear ho
        go_wp2_with fail
        go_meet
        exact ⟨rfl, rfl⟩
      · have hd : decide ((1 : Int) < (x.size : Int)) = false := by simp; omega
        clear ho hx
        go_wp2_with fail
        go_meet
        exact ⟨rfl, rfl⟩
  case rest =>
    obtain ⟨rfl, rfl⟩ := hcut
    go_wp2
    go_loopg [7, 8, 9] ps.length (fun gh s7 s8 s9 wr => ∃ (k : Nat) (word : ByteArray) (ws : List ByteArray), s9 = .int .i64 k ∧ s7 = .string word ∧ k ≤ ps.length ∧ gh = ps.length - k ∧ TS w1 wr ps k word s8 ws)
    case atStart => exact ⟨0, ⟨#[45]⟩, [], rfl, rfl, Nat.zero_le _, rfl, Below.refl _ _, rfl, rfl, World.ownsRow_nil _ _ _ _⟩
    case round =>
      obtain ⟨k, word, ws, rfl, rfl, hk, rfl, hS⟩ := hrel
      obtain ⟨vl, rfl⟩ : ∃ vl, vl = u8 := ⟨_, rfl⟩
      have hln := hS.len hk
      have HS := Lib.hid hS
      have HB := Lib.hid (bt hS.below HB1.out)
      have hB0 := hS.below.size
      clear hS
      by_cases hlt : k < ps.length
      · obtain ⟨p, hp⟩ : ∃ p, ps[k]? = some p := ⟨_, List.getElem?_eq_getElem hlt⟩
        obtain ⟨ad, rfl, c0⟩ := HCP.out k p hp
        have e0 := bc HB.out c0
        obtain ⟨j, tx, hj, hj4, htx, hrun⟩ := sl4 p
        have HTX := Lib.hid htx
        have HPK := Lib.hid hp
        have hj4' : (j : Int) < 4 := by omega
        have ztx : tx.size = 1 := len_of htx
        have zw : word.size ≤ 40 := by omega
        have ztx' : tx.size ≤ 1 := by omega
        have hcp0 : 0 ≤ co p := (co_bd p).1
        have hcp1 : co p ≤ 255 := (co_bd p).2
        have hjt : (co p).tmod 4 = (j : Int) := by rw [Int.tmod_eq_emod_of_nonneg hcp0]; exact hj
        obtain ⟨Y, hY⟩ : ∃ Y, ((⟨#[45]⟩ : ByteArray) ++ tx) = Y := ⟨_, rfl⟩
        have HY := Lib.hid (show Y.data.toList = [45, w4 p] by rw [← hY, ByteArray.data_append, Array.toList_append, htx]; rfl)
        clear c0 hp htx ztx
        go_wp2_with (at_builtin; refine wpList_append_one rfl (.tmp 71) (.tmp 77) _ rfl w1.heap.size 9 _ 1 16 Try.underlying22 info_str rfl (by decide) vl ws.length (sCells ws) rfl wr [.string Y] rfl (str_one _) HS.out.own rfl (by omega) (by omega) hB0 ?_; intro v5 w5 ho hg; have HO5 := Lib.hid ho; have HG5 := Lib.hid hg; clear ho hg)
        go_roundg (ps.length - (k + 1))
        case measure => omega
        case rel =>
          refine ⟨k + 1, word ++ tx, ws ++ [Y], by go_num, rfl, by omega, rfl, HS.out.below.grown HG5.out hB0 (fun q hq => (HS.out.own.lt q hq).1), ?_, ?_, ?_⟩
          · rw [take_snoc' HPK.out, List.map_append, ByteArray.data_append, Array.toList_append, HS.out.text, HTX.out]
            rfl
          · rw [take_snoc' HPK.out, List.map_append, List.map_append, List.map_append, HS.out.words]
            congr 1
            rw [List.map_singleton, List.map_singleton, List.map_singleton, HY.out]
          · rw [← sCells_snoc, List.length_append]
            exact HO5.out
      · have hke : k = ps.length := by omega
        have htext : word.data.toList = 45 :: ps.map w4 := by have := HS.out.text; rwa [hke, List.take_length] at this
        have hwords : ws.map (·.data.toList) = (ps.map w4).map (fun c => [45, c]) := by have := HS.out.words; rwa [hke, List.take_length] at this
        have HTEXT := Lib.hid htext
        have HWORDS := Lib.hid hwords
        obtain ⟨Al, cl, hvl⟩ := own_slice HS.out.own
        subst hvl
        have hwl : ws.length ≤ 30 := by omega
        have HO1 := Lib.hid (own_lit (B := w1.heap.size) (l := [word]) (n := 1) (Blk.new wr 9 #[.string word]) rfl rfl HS.out.below.size (by decide))
        have hbc := HS.out.below.alloc hB0 (.cells #[.string word] 9)
        have HBC := Lib.hid hbc
        have HSc := Lib.hid (HSB.out.below (bt hbc HB1.out))
        have HN1 := Lib.hid (show ([word] ++ rs : List ByteArray).length = 1 + rs.length by simp; omega)
        have HN2 := Lib.hid (show (ws ++ rs : List ByteArray).length = ws.length + rs.length by simp)
        clear hke htext hwords hbc hln
        go_wp2_with (first
          | (at_builtin; refine wpList_append_strs2 rfl (.tmp 81) (.tmp 82) rfl w1.heap.size (.slice (some ⟨wr.heap.size, 0, none⟩) 1 1) [word] rfl HO1.out (.slice A' rs.length c') rs rfl HSc.out (by simp; omega) HBC.out.size ?_; intro v3 w3 ho hg hat; obtain ⟨A3, c3, hv3, ho3, hne3, ho2, hb3⟩ := apart3 HS.out.below HS.out.own HN1.out ho hg hat; subst hv3; have HO3 := Lib.hid ho3; have HNE3 := Lib.hid hne3; have HO23 := Lib.hid ho2; have HB3 := Lib.hid hb3; have HS3 := Lib.hid (HSB.out.below (bt hb3 HB1.out)); clear ho hg hat ho3 hne3 ho2 hb3)
          | (at_builtin; refine wpList_append_strs2 rfl (.tmp 84) (.tmp 85) rfl w1.heap.size (.slice Al ws.length cl) ws rfl HO23.out (.slice A' rs.length c') rs rfl HS3.out (by omega) HB3.out.size ?_; intro v4 w4' ho hg hat; obtain ⟨A4, c4, hv4, hs4, hs3, hb4⟩ := apart4 HB3.out HO3.out HNE3.out HO23.out HN2.out ho hg; subst hv4; have HS4 := Lib.hid hs4; have HS3b := Lib.hid hs3; have HB4 := Lib.hid hb4; clear ho hg hat hs4 hs3 hb4)
          | fail)
        refine (parse_w HTEXT.out HP0.out hp1 hrl HTR.out HBG.out HS3b.out).mono ?_
        intro e w5 hop
        obtain ⟨A5, c5, A6, c6, rfl, hF5, hS5, hb5⟩ := op_some (n := ps.length) (m := rs.length) (plain_len ps) rfl hop
        have HB5 := Lib.hid (bt hb5 (bt HB4.out HB1.out))
        have HO5 := Lib.hid (show OptsR w5 (.agg #[.slice A5 ps.length c5, .slice A6 rs.length c6]) (plain (ps.map w4)) rs from ⟨_, _, rfl, hF5, hS5⟩)
        have HF5 := Lib.hid hF5
        have HS5 := Lib.hid (HS4.out.below hb5)
        clear hop hF5 hS5 hb5 HS3b HS4 HS3 HO1 HO3 HO23 HN1 HN2 HSc HBC HNE3
        go_wp2_with fail
        refine (parse_ws HWORDS.out hp1 hrl HTR.out HBG.out (HS5.out.below (al (Below.refl _ _) _))).mono ?_
        intro e w6 hop
        obtain ⟨A7, c7, A8, c8, rfl, hF6, hS6, hb6⟩ := op_some (n := ps.length) (m := rs.length) (plain_len ps) rfl hop
        have HB6 := Lib.hid (bt hb6 (al HB5.out _))
        have HB65 := Lib.hid (bt hb6 (al (Below.refl _ _) _))
        have HO6 := Lib.hid (show OptsR w6 (.agg #[.slice A7 ps.length c7, .slice A8 rs.length c8]) (plain (ps.map w4)) rs from ⟨_, _, rfl, hF6, hS6⟩)
        have HF6 := Lib.hid hF6
        have HK6 := Lib.hid ((Blk.new w5 27 #[_, _]).below hb6)
        have k0 := HK6.out.cell 0
        have k1 := HK6.out.cell 1
        have hk6 := HK6.out.lt
        simp at k0 k1
        have n1 : ((ps.length : Int) != (ps.length : Int)) = false := by simp
        have n2 : ((rs.length : Int) != (rs.length : Int)) = false := by simp
        clear hop hF6 hS6 hb6 HS5
        go_wp2
        obtain ⟨W7, hW7⟩ : ∃ W7, w6.alloc (.cells #[.slice A7 ps.length c7, .slice A8 rs.length c8] 27) = W7 := ⟨_, rfl⟩
        rw [hW7]
        have hb7 : Below w6.heap.size w6 W7 := by rw [← hW7]; exact al (Below.refl _ _) _
        have hy7 : Blk W7 w6.heap.size 27 #[.slice A7 ps.length c7, .slice A8 rs.length c8] := by rw [← hW7]; exact Blk.new _ _ _
        have HB7 := Lib.hid (bt hb7 HB6.out)
        have HB75 := Lib.hid (bt hb7 HB65.out)
        have HB76 := Lib.hid hb7
        have HY7 := Lib.hid hy7
        have HK7 := Lib.hid (HK6.out.below hb7)
        clear hW7 hb7 hy7 k0 k1
        go_loopg [16] ps.length (fun gh s16 wr => ∃ m : Nat, s16 = .int .i64 m ∧ m ≤ ps.length ∧ gh = ps.length - m ∧ ∃ n, wr = W7.drewN n)
        case atStart => exact ⟨0, rfl, Nat.zero_le _, rfl, 0, rfl⟩
        case round =>
          obtain ⟨m, rfl, hmr, rfl, nn, rfl⟩ := hrel
          have k0 := HK7.out.cell 0
          have k1 := HK7.out.cell 1
          have y0 := HY7.out.cell 0
          have y1 := HY7.out.cell 1
          simp at k0 k1 y0 y1
          by_cases hlm : m < ps.length
          · obtain ⟨p, hp⟩ : ∃ p, ps[m]? = some p := ⟨_, List.getElem?_eq_getElem hlm⟩
            obtain ⟨ad, rfl, c0⟩ := HCP.out m p hp
            have e0 := bc HB7.out c0
            obtain ⟨A9, c9, hv9, hc9⟩ := HF5.out
            injection hv9 with hA9 hN9 hC9
            clear hN9
            subst hA9
            subst hC9
            obtain ⟨ad5, rfl, f0, f1⟩ := hc9 m _ (plain_at hp)
            obtain ⟨A10, c10, hv10, hc10⟩ := HF6.out
            injection hv10 with hA10 hN10 hC10
            clear hN10
            subst hA10
            subst hC10
            obtain ⟨ad7, rfl, g0, g1⟩ := hc10 m _ (plain_at hp)
            have f0' := bc HB75.out f0
            have f1' := bc HB75.out f1
            have g0' := bc HB76.out g0
            have g1' := bc HB76.out g1
            obtain ⟨j, tx, hj, hj4, -, -⟩ := sl4 p
            have hcp0 : 0 ≤ co p := (co_bd p).1
            have hcp1 : co p ≤ 255 := (co_bd p).2
            have hjt : (co p).tmod 4 = (j : Int) := by rw [Int.tmod_eq_emod_of_nonneg hcp0]; exact hj
            have hix := idx_run p j hj
            have hj4' : (j : Int) < 4 := by omega
            generalize co (w4 p) = L at f0' g0' hix
            have q1 : (L == L) = true := by simp
            have q2 : (L != L) = false := by simp
            clear c0 hp f0 f1 g0 g1 hc9 hc10
            go_wp2
            go_quiet (fail)
            go_wp2
            go_roundg (ps.length - (m + 1))
            case measure => omega
            case rel => exact ⟨m + 1, by go_num, by omega, rfl, _, rfl⟩
          · have gX5 := below_drewN HB75.out nn
            have gX6 := below_drewN HB76.out nn
            have gXw := below_drewN HB7.out nn
            have gs0 : (W7.drewN nn).cell? ⟨w5.heap.size, 0, none⟩ = some (.slice A5 ps.length c5) := k0
            have gs1 : (W7.drewN nn).cell? ⟨w5.heap.size, 1, none⟩ = some (.slice A6 rs.length c6) := k1
            have gs2 : (W7.drewN nn).cell? ⟨w6.heap.size, 0, none⟩ = some (.slice A7 ps.length c7) := y0
            have gs3 : (W7.drewN nn).cell? ⟨w6.heap.size, 1, none⟩ = some (.slice A8 rs.length c8) := y1
            generalize W7.drewN nn = X at gX5 gX6 gXw gs0 gs1 gs2 gs3 ⊢
            have hX5 := gX5.drew
            have hX6 := gX6.drew
            have hXw := gXw.drew
            have hs0 : X.drew.cell? ⟨w5.heap.size, 0, none⟩ = some (.slice A5 ps.length c5) := gs0
            have hs1 : X.drew.cell? ⟨w5.heap.size, 1, none⟩ = some (.slice A6 rs.length c6) := gs1
            have hs2 : X.drew.cell? ⟨w6.heap.size, 0, none⟩ = some (.slice A7 ps.length c7) := gs2
            have hs3 : X.drew.cell? ⟨w6.heap.size, 1, none⟩ = some (.slice A8 rs.length c8) := gs3
            clear gX5 gX6 gXw gs0 gs1 gs2 gs3
            have HLX := Lib.hid (fun W (hW : Below w5.heap.size w5 W) => last_any _ (plain (ps.map w4)) rs ⟨#[72, 76, 80]⟩ W (HO5.out.below hW) (by rw [plain_len]; omega) (by decide))
            have HLY := Lib.hid (fun W (hW : Below w6.heap.size w6 W) => last_any _ (plain (ps.map w4)) rs ⟨#[72, 76, 80]⟩ W (HO6.out.below hW) (by rw [plain_len]; omega) (by decide))
            have HHX := Lib.hid (fun W (hW : Below w5.heap.size w5 W) => has_any _ (plain (ps.map w4)) rs 109 W (HO5.out.below hW) (by rw [plain_len]; omega))
            rw [no_m, show co 109 = 109 from rfl] at HHX
            generalize co (lv (lastF (plain (ps.map w4)) (⟨#[72, 76, 80]⟩ : ByteArray).data.toList)).1 = N at HLX HLY
            have m3 : (N == N) = true := by simp
            clear k0 k1 y0 y1
            go_wp2_with fail
            go_region_held3 (fun w' => w'.cell? ⟨w5.heap.size, 0, none⟩ = some (.slice A5 ps.length c5) ∧ w'.cell? ⟨w5.heap.size, 1, none⟩ = some (.slice A6 rs.length c6) ∧ w'.cell? ⟨w6.heap.size, 0, none⟩ = some (.slice A7 ps.length c7) ∧ w'.cell? ⟨w6.heap.size, 1, none⟩ = some (.slice A8 rs.length c8) ∧ Below w.heap.size w w') (first | exact ⟨hs0, hs1, hs2, hs3, hXw⟩ | exact ⟨bc hb8 hs0, bc hb8 hs1, bc hb8 hs2, bc hb8 hs3, bt hb8 hXw⟩ | exact ⟨bc hb9 (bc hb8 hs0), bc hb9 (bc hb8 hs1), bc hb9 (bc hb8 hs2), bc hb9 (bc hb8 hs3), bt hb9 (bt hb8 hXw)⟩ | exact ⟨bc hb10 (bc hb9 (bc hb8 hs0)), bc hb10 (bc hb9 (bc hb8 hs1)), bc hb10 (bc hb9 (bc hb8 hs2)), bc hb10 (bc hb9 (bc hb8 hs3)), bt hb10 (bt hb9 (bt hb8 hXw))⟩)
              (first | (go_at_call 16; (with_reducible refine (HLX.out _ hX5).mono ?_); rintro e w8 ⟨rfl, hb8⟩) | (go_at_call 16; (with_reducible refine (HLY.out _ (bt hb8 hX6)).mono ?_); rintro e w9 ⟨rfl, hb9⟩) | (go_at_call 15; (with_reducible refine (HHX.out _ (bt hb9 (bt hb8 hX5))).mono ?_); rintro e w10 ⟨rfl, hb10⟩))
            all_goals
              go_wp2
              go_ret
              exact ⟨rfl, bt hb10 (bt hb9 (bt hb8 hXw))⟩
theorem apartWalk (vP vB : Value) (ps : List UInt8) (rs : List ByteArray) (w : World) (hP : BytesR w vP ps) (hnp : ps.length ≤ maxLen) (hB : StrsR w vB rs) (hn2 : rs.length ≤ maxLen) (hz2 : ∀ s ∈ rs, s.size ≤ maxLen) :
    Calls Try.prog 6 #[vP, vB] w fun e w' => e = .returned (.bool true) ∧ Below w.heap.size w w' := by
  by_cases h : fewB rs = false ∨ 30 < ps.length ∨ ps.length = 0 ∨ begins rs = false
  · exact apartLaw_out vP vB ps rs w hP hnp hB hn2 hz2 h
  · have hf : fewB rs = true := by
      cases e : fewB rs with
      | true => rfl
      | false => exact absurd (.inl e) h
    have hg : begins rs = true := by
      cases e : begins rs with
      | true => rfl
      | false => exact absurd (.inr (.inr (.inr e))) h
    exact apartLaw_in vP vB ps rs w hP hB hn2 hz2 hf (by omega) (by omega) hg
end Go.Proofs.Ytldomiagincegaa
