/-
  Tell, of any table. No condition.
-/
import Derived.Test.YtnecnnajngfooaaTelP
import Derived.Test.YtnecnnajngfooaaMW
import Derived.Deep.DeepCutAuto
namespace Go.Proofs.Ytnecnnajngfooaa
open Go Go.RowKit
set_option maxRecDepth 100000

attribute [local go_sem] cell_off4 cell_blk4
/-- What is told of a table: nothing, unless it is a tree. -/
noncomputable def tellL (t : List Nd) : List Rw := if toB (allT t []) = true then tlT t else []
/-- At a directory that is told. -/
structure TD (w W : World) (jt jr jg : Nat) (v vt vr ve : Value) (s : Tl) (n : Nd) (d : Nat) (vd : Value) : Prop where
  ts : TS w W jt jr jg v vt vr s
  box : Blk W d 39 (ndC n vd ve)
  en : EntsT W ve n.ents
theorem TS.node {w W W' : World} {jt jr jg d : Nat} {v vt vr : Value} {s : Tl} {cs : Array Value} (h : TS w W jt jr jg v vt vr s) (hk : Blk W d 39 cs) (hg : W.grownBy W' (some d)) (hd : w.heap.size ≤ d) : TS w W' jt jr jg v vt vr s := by
  obtain ⟨ps, e1, h3, h4⟩ := h.or_
  exact ⟨below_grown h.below hg hd, h.kt.kept hg (by intro e; injection e with e; exact blk_ne h.kt hk (by decide) e), h.kr.kept hg (by intro e; injection e with e; exact blk_ne h.kr hk (by decide) e), h.kg.kept hg (by intro e; injection e with e; exact blk_ne h.kg hk (by decide) e), h.ot.kept hg (.inr (own_blk_ne h.ot hk (by decide))), RawsX.kept ⟨ps, e1, h3, h4⟩ hg (.inr (own_blk_ne h3 hk (by decide))) (fun b cs hb e => by injection e with e; exact blk_ne hb hk (by decide) e), h.ht, h.hr⟩
theorem TD.fresh {w W w7 : World} {jt jr jg : Nat} {v vt vr : Value} {s : Tl} {n : Nd} {A5 A6 : Option Addr} {k5 k6 : Nat} (h : TS w W jt jr jg v vt vr s) (hb : Below W.drew.heap.size W.drew w7) (he : EntsT w7 (.slice A6 n.ents.length k6) n.ents) :
    TD w (w7.alloc (.cells (ndC n (.slice A5 n.data.length k5) (.slice A6 n.ents.length k6)) 39)) jt jr jg v vt vr (.slice A6 n.ents.length k6) s n w7.heap.size (.slice A5 n.data.length k5) :=
  ⟨((h.later (Below.refl _ _).drew).later hb).later (ba _ _), Blk.new _ _ _, he.below (ba _ _)⟩
theorem TD.ahead {w W w7 : World} {jt jr jg : Nat} {v vt vr : Value} {s : Tl} {n : Nd} {A5 A6 : Option Addr} {k5 k6 : Nat} (h : TS w W jt jr jg v vt vr s) (hb : Below (W.alloc (.cells ndZ 39)).drew.heap.size (W.alloc (.cells ndZ 39)).drew w7) (he : EntsT w7 (.slice A6 n.ents.length k6) n.ents) :
    TD w (put7 w7 W.heap.size (.int .i64 n.kind) (.int .i64 n.mode) (.int .i64 n.uid) (.int .i64 n.gid) (.slice A5 n.data.length k5) (.slice A6 n.ents.length k6) (.string (bA n.target))) jt jr jg v vt vr (.slice A6 n.ents.length k6) s n W.heap.size (.slice A5 n.data.length k5) := by
  have hk : Blk w7 W.heap.size 39 ndZ := Blk.below (w := (W.alloc (.cells ndZ 39)).drew) (Blk.new W 39 _) hb
  have h7 : TS w w7 jt jr jg v vt vr s := h.later (bt hb (ba W (.cells ndZ 39)).drew)
  have hg := grown7 w7 W.heap.size (.int .i64 n.kind) (.int .i64 n.mode) (.int .i64 n.uid) (.int .i64 n.gid) (.slice A5 n.data.length k5) (.slice A6 n.ents.length k6) (.string (bA n.target))
  exact ⟨h7.node hk hg h.below.size, hk.put7 _ _ _ _ _ _ _, he.row hg (fun b cs hb2 e => by injection e with e; exact blk_ne hb2 hk (by decide) e)⟩
theorem run_store_func (P : Program) (w : World) (a : Addr) (m : Mode) (fn : Fn) (xs cs : Array Value) : (store a (.func fn xs cs) m).run P w = stored P w a (.func fn xs cs) m := run_store P w a _ m rfl
attribute [local go_sem] run_store_func
theorem nil_text : (bA [] : ByteArray) = ⟨#[]⟩ := rfl
set_option maxHeartbeats 16000000 in
theorem tell_any (v : Value) (t : List Nd) (w : World) (h : TabP w v t) :
    Calls Try.prog 46 #[v] w fun e w' => (∃ u, e = .returned u ∧ RawsR w' u (tellL t)) ∧ Below w.heap.size w w' := by
  have HR := Lib.hid (tright_any v (.slice none 0 0) t [] w h (IntsR.nil w) (by decide))
  have hmf : ∀ (fn : Fn) (first cap : Array Value) (w : World), (Instr.makeFunc fn first cap).run Try.prog w = .ok (.func fn first cap) w := fun _ _ _ _ => rfl
  have HT := Lib.hid h
  by_cases q : allT t []
  · rw [toB_true q] at HR
    have HX := Lib.hid (show tellL t = tlT t by unfold tellL; rw [toB_true q, if_pos rfl])
    rw [HX.out]
    have HOK := Lib.hid (okS_all h.ok.1 h.ok.2 q)
    have HLN := Lib.hid (fun k => (show (tlS t k).1.length ≤ 24 from Nat.le_trans (okS_len (okS_all h.ok.1 h.ok.2 q k)) h.ok.2))
    have HLR := Lib.hid (tlS_len h.ok.1)
    have HAE := Lib.hid (all_ents h.ok.1 h.ok.2 q)
    have HEL := Lib.hid (ents_le h.ok.1)
    have HTC := Lib.hid (fun (jt jr jg : Nat) (vt vr : Value) (s : Tl) (i p : Int) (nm : Nm) (W : World) (hs : TS w W jt jr jg v vt vr s) (h1 : s.1.length ≤ 1000) (h2 : s.2.length ≤ 1000) => tellC_any w t jt jr jg v vt vr s i p nm W hs h h1 h2)
    have HG := Lib.hid (fun X i (hX : Below w.heap.size w X) => get_any v t i X (h.below hX))
    have HS0 := Lib.hid (show tlS t 0 = tlE t 0 ([], []) 1 [] from rfl)
    clear h q HX
    go_enter Try.func46, Try.ntmps46
    go_wp2_with fail
    refine HR.out.mono ?_
    rintro e w1 ⟨rfl, hb1⟩
    have HB1 := Lib.hid hb1
    clear hb1 HR
    go_wp2_with fail
    have hts : TS w (((w1.alloc (.cells #[.func (.func 22) #[v] #[]] 54)).alloc (.cells #[.slice none 0 0] 71)).alloc (.cells #[.slice none 0 0] 32)) (w1.heap.size + 1 + 1) (w1.heap.size + 1) w1.heap.size v (.slice none 0 0) (.slice none 0 0) ([], []) := by
      have hb := HB1.out
      have hz := hb.size
      refine ⟨al (al (al hb _) _) _, ?_, ?_, ?_, World.ownsRow_nil _ _ _ _, RawsX.nil _ _, by omega, by omega⟩
      · have := Blk.new ((w1.alloc (.cells #[.func (.func 22) #[v] #[]] 54)).alloc (.cells #[.slice none 0 0] 71)) 32 #[.slice none 0 0]
        simpa using this
      · have := (Blk.new (w1.alloc (.cells #[.func (.func 22) #[v] #[]] 54)) 71 #[.slice none 0 0]).alloc (.cells #[.slice none 0 0] 32)
        simpa using this
      · exact ((Blk.new w1 54 #[.func (.func 22) #[v] #[]]).alloc _).alloc _
    obtain ⟨jg, hjg⟩ : ∃ j, w1.heap.size = j := ⟨_, rfl⟩
    obtain ⟨W4, hW4⟩ : ∃ W4, ((w1.alloc (.cells #[.func (.func 22) #[v] #[]] 54)).alloc (.cells #[.slice none 0 0] 71)).alloc (.cells #[.slice none 0 0] 32) = W4 := ⟨_, rfl⟩
    rw [hW4, hjg] at hts
    rw [hW4, hjg]
    obtain ⟨jr, hjr⟩ : ∃ j, jg + 1 = j := ⟨_, rfl⟩
    rw [hjr] at hts ⊢
    obtain ⟨jt, hjt⟩ : ∃ j, jr + 1 = j := ⟨_, rfl⟩
    rw [hjt] at hts ⊢
    clear hW4 hjg hjr hjt HB1
    refine (HTC.out jt jr jg _ _ ([], []) 1 0 [] W4 hts (by decide) (by decide)).mono ?_
    rintro e w5 ⟨rfl, ⟨vt5, vr5, hts5⟩, -⟩
    rw [← HS0.out] at hts5
    have HTS5 := Lib.hid hts5
    clear hts hts5 HS0
    go_wp2
    go_loopg [7] 24 (fun gh s7 wr => ∃ (k : Nat) (vt vr : Value), s7 = .int .i64 k ∧ k ≤ 24 ∧ gh = 24 - k ∧ TS w wr jt jr jg v vt vr (tlS t k))
    case atStart => exact ⟨0, vt5, vr5, rfl, Nat.zero_le _, rfl, HTS5.out⟩
    case round =>
      clear HTS5
      obtain ⟨k, vt, vr, rfl, hk, rfl, hts⟩ := hrel
      have h24 := HLN.out k
      have hlr := HLR.out k
      have HGO := Lib.hid (fun i (h : (tlS t k).1[k]? = some i) => tlS_go h)
      have HSTOP := Lib.hid (show (tlS t k).1.length ≤ k → tlS t 24 = tlS t k from fun h => by
        have := tlS_stay h (24 - k)
        rwa [show k + (24 - k) = 24 by omega] at this)
      have HLP := Lib.hid (fun (i : Int) (h : (tlS t k).1[k]? = some i) (j : Nat) => show (tlD t k (tlS t k) ((tget t i).ents.take j)).1.length ≤ 24 from
        Nat.le_trans (okS_len (okS_D (HOK.out k) (fun e he => HAE.out i e (List.mem_of_mem_take he)))) HT.out.ok.2)
      generalize tlS t k = s at hts h24 hlr HGO HSTOP HLP
      have HTS := Lib.hid hts
      obtain ⟨A1, c1, A2, c2, rfl, rfl⟩ := ts_form hts
      clear hts
      by_cases hlt : k < s.1.length
      · have hlt' : (k : Int) < (s.1.length : Int) := by omega
        obtain ⟨i, hki⟩ : ∃ i, s.1[k]? = some i := ⟨_, List.getElem?_eq_getElem hlt⟩
        have HGI := Lib.hid (HGO.out i hki)
        have HLI := Lib.hid (HLP.out i hki)
        have hel := HEL.out i
        have HKI := Lib.hid hki
        obtain ⟨ad0, hA0, d0⟩ := ints_get HTS.out.toldR hki
        subst hA0
        have p1 : wr.cell? ⟨jt, 0, none⟩ = some (.slice (some ad0) s.1.length c1) := HTS.out.kt.cell 0
        have p2 : wr.cell? ⟨jg, 0, none⟩ = some (.func (.func 22) #[v] #[]) := HTS.out.kg.cell 0
        have z1 := HTS.out.kt.lt
        have z2 := HTS.out.kg.lt
        have z3 : (ad0.add k).block < wr.heap.size := World.block_lt_of_cell? _ _ d0
        have d1 := bc (Below.refl wr.heap.size wr).drew d0
        have q1 := bc (Below.refl wr.heap.size wr).drew p1
        have q2 := bc (Below.refl wr.heap.size wr).drew p2
        have HGA := Lib.hid (HG.out wr.drew i (bt (Below.refl _ _).drew HTS.out.below))
        have HGB := Lib.hid (HG.out (wr.alloc (.cells ndZ 39)).drew i (bt (ba wr (.cells ndZ 39)).drew HTS.out.below))
        obtain ⟨n, hn⟩ : ∃ n, tget t i = n := ⟨_, rfl⟩
        rw [hn] at HGA HGB HGI HLI hel
        clear hki HGO HSTOP HLP hn
        go_upto_region 11 with fail
        go_cut [8] (fun s8 wx => ∃ (d : Nat) (A5 A6 : Option Addr) (k5 k6 : Nat), s8 = .pointer (some ⟨d, 0, none⟩) ∧ TD w wx jt jr jg v (.slice (some ad0) s.1.length c1) (.slice A2 s.2.length c2) (.slice A6 n.ents.length k6) s n d (.slice A5 n.data.length k5))
        case first =>
          go_region_with (first
            | (go_at_call 22; (with_reducible refine HGA.out.mono ?_); rintro e w7 ⟨vd, ve, rfl, hd7, he7, -, -, hb7⟩; obtain ⟨A5, k5, hv5⟩ := bytesT_form hd7; obtain ⟨A6, k6, hv6⟩ := entsT_form he7; subst hv5 hv6; have HTD := Lib.hid (TD.fresh (A5 := A5) (k5 := k5) HTS.out hb7 he7); clear hd7 he7 hb7; unfold nodeV)
            | (go_at_call 22; (with_reducible refine HGB.out.mono ?_); rintro e w7 ⟨vd, ve, rfl, hd7, he7, -, -, hb7⟩; obtain ⟨A5, k5, hv5⟩ := bytesT_form hd7; obtain ⟨A6, k6, hv6⟩ := entsT_form he7; subst hv5 hv6; have HTD := Lib.hid (TD.ahead (A5 := A5) (k5 := k5) HTS.out hb7 he7); have hk7 : Blk w7 wr.heap.size 39 ndZ := Blk.below (w := (wr.alloc (.cells ndZ 39)).drew) (Blk.new wr 39 _) hb7; obtain ⟨y0, y1, y2, y3, y4, y5, y6⟩ := hk7.c7; obtain ⟨f0, f1, f2, f3, f4, f5, f6⟩ := hk7.f7; clear hd7 he7 hb7 hk7; unfold nodeV))
          all_goals (
            go_wp2
            go_meet
            exact ⟨_, A5, A6, k5, k6, rfl, HTD.out⟩)
        case rest =>
          obtain ⟨d, A5, A6, k5, k6, rfl, htd⟩ := hcut
          have HTD := Lib.hid htd
          have hp5 : wc.cell? ⟨d, 5, none⟩ = some (.slice A6 n.ents.length k6) := htd.box.cell 5
          clear htd p1 p2 d0 d1 q1 q2 z1 z2 z3 HGA HGB
          go_wp2
          go_loopg [38] n.ents.length (fun gh s38 wr => ∃ (j : Nat) (vt vr : Value), s38 = .int .i64 j ∧ j ≤ n.ents.length ∧ gh = n.ents.length - j ∧ TS w wr jt jr jg v vt vr (tlD t k s (n.ents.take j)) ∧ EntsT wr (.slice A6 n.ents.length k6) n.ents)
          case atStart => exact ⟨0, _, _, rfl, Nat.zero_le _, rfl, HTD.out.ts, HTD.out.en⟩
          case round =>
            clear HTD hp5
            obtain ⟨j, vt, vr, rfl, hj, rfl, hts, hen⟩ := hrel
            have HTS2 := Lib.hid hts
            have HEN := Lib.hid hen
            clear hts
            by_cases hjl : j < n.ents.length
            · have hjl' : (j : Int) < (n.ents.length : Int) := by omega
              obtain ⟨e, he⟩ : ∃ e, n.ents[j]? = some e := ⟨_, List.getElem?_eq_getElem hjl⟩
              obtain ⟨ad, hA, c0, c1'⟩ := ents_get hen.1 he
              subst hA
              have hl1 := HLI.out j
              have hl2 : (tlD t k s (n.ents.take j)).2.length ≤ 1000 := by
                rw [(tlD_len ..).1, List.length_take]
                omega
              have HSN := Lib.hid (tlD_snoc (t := t) (k := k) (s := s) he)
              generalize tlD t k s (n.ents.take j) = S2 at HTS2 hl1 hl2 HSN
              have hts3 := HTS2.out.later (ba wr (.cells #[.string (bA e.1), .int .i64 e.2] 106))
              have hen3 := hen.below (ba wr (.cells #[.string (bA e.1), .int .i64 e.2] 106))
              have hkw : IntKind.i64.wrap ((k : Int) + 1) = (k : Int) + 1 := by rw [IntKind.wrap_i64] <;> omega
              have HCC := Lib.hid (HTC.out jt jr jg vt vr S2 e.2 ((k : Int) + 1) e.1 _ hts3 (by omega) hl2)
              have HEN3 := Lib.hid hen3
              obtain ⟨W9, hW9⟩ : ∃ W9, wr.alloc (.cells #[.string (bA e.1), .int .i64 e.2] 106) = W9 := ⟨_, rfl⟩
              rw [hW9] at HCC HEN3
              have hk9 : Blk W9 wr.heap.size 106 #[.string (bA e.1), .int .i64 e.2] := by rw [← hW9]; exact Blk.new _ _ _
              have g0 : W9.cell? ⟨wr.heap.size, 0, none⟩ = some (.string (bA e.1)) := hk9.cell 0
              have g1 : W9.cell? ⟨wr.heap.size, 1, none⟩ = some (.int .i64 e.2) := hk9.cell 1
              clear he hen hts3 hen3 hk9
              go_wp2_with fail
              clear hW9
              refine HCC.out.mono ?_
              rintro e1 w9 ⟨rfl, ⟨vt9, vr9, hts9⟩, hen9⟩
              rw [← HSN.out] at hts9
              have HTS9 := Lib.hid hts9
              have HEN9 := Lib.hid (hen9 _ _ HEN3.out)
              clear hts9 hen9 c0 c1' g0 g1
              go_wp2
              go_roundg (n.ents.length - (j + 1))
              case measure => omega
              case rel => exact ⟨j + 1, vt9, vr9, by go_num, by omega, rfl, HTS9.out, HEN9.out⟩
            · have hjl' : ¬ (j : Int) < (n.ents.length : Int) := by omega
              have hje : n.ents.take j = n.ents := List.take_of_length_le (by omega)
              rw [hje, ← HGI.out] at HTS2
              clear hje hen
              go_wp2
              go_roundg (24 - (k + 1))
              case measure => omega
              case rel => exact ⟨k + 1, vt, vr, by go_num, by omega, rfl, HTS2.out⟩
      · have hlt' : ¬ (k : Int) < (s.1.length : Int) := by omega
        have HE := Lib.hid (show tlT t = s.2 by unfold tlT; rw [HSTOP.out (by omega)])
        have p1 : wr.cell? ⟨jt, 0, none⟩ = some (.slice A1 s.1.length c1) := HTS.out.kt.cell 0
        have p2 : wr.cell? ⟨jr, 0, none⟩ = some (.slice A2 s.2.length c2) := HTS.out.kr.cell 0
        clear HGO HSTOP HLP
        go_wp2
        go_ret
        exact ⟨⟨_, rfl, by rw [HE.out]; exact HTS.out.or_.raws⟩, HTS.out.below⟩
  · rw [toB_false q] at HR
    have HX := Lib.hid (show tellL t = [] by unfold tellL; rw [toB_false q, if_neg (by decide)])
    rw [HX.out]
    clear h q HX HT
    go_enter Try.func46, Try.ntmps46
    go_wp2_with fail
    refine HR.out.mono ?_
    rintro e w1 ⟨rfl, hb1⟩
    have HB1 := Lib.hid hb1
    clear hb1 HR
    go_wp2
    go_ret
    exact ⟨⟨_, rfl, RawsR.nil _⟩, HB1.out⟩
end Go.Proofs.Ytnecnnajngfooaa
