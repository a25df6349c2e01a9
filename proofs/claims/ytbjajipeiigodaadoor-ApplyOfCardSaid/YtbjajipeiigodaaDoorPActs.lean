/-
  What clause.parseActs answers of any text of a million bytes at most.
-/
import Derived.Test.YtbjajipeiigodaaDoorMem
import Derived.Deep.LoopGhost
namespace Go.Proofs.YtbjajipeiigodaaDoor
open Go Go.RowKit

def PA (B : Nat) (o : Option (List CA)) (w' : World) (v : Value) : Prop := match o with
  | none => v = .slice none 0 0
  | some al => w'.ownsRow B 60 3 v al.length (aCells al)
def PAPost (s : ByteArray) (w : World) (e : Ending) (w' : World) : Prop := ∃ v, e = .returned v ∧ PA w.heap.size (acts s.data.toList) w' v ∧ Below w.heap.size w w'
theorem PA_none (s : ByteArray) (w w' : World) (h : acts s.data.toList = none) (hb : Below w.heap.size w w') : PAPost s w (.returned (.slice none 0 0)) w' := ⟨_, rfl, by rw [h]; rfl, hb⟩

theorem PA_some (s : ByteArray) (w wr w' : World) (done : List CA) (a : CA) (v v' : Value) (h : acts s.data.toList = some (done ++ [a])) (hb : Below w.heap.size w wr) (ho : wr.ownsRow w.heap.size 60 3 v done.length (aCells done))
    (ho' : w'.ownsRow w.heap.size 60 3 v' (done.length + 1) (aCells done ++ [.int .u8 (co a.op), .int .i64 a.perms, .int .i64 a.copy])) (hg : wr.grownBy w' v.ownBlock) : PAPost s w (.returned v') w' :=
  ⟨_, rfl, by rw [h, PA, aCells_snoc, List.length_append]; exact ho', hb.grown hg hb.size (fun k hk => (ho.lt k hk).1)⟩
/-- Ahead of a round. -/
def OutR (s : ByteArray) (w : World) (rest : ByteArray) (done : List CA) (v : Value) (wr : World) : Prop :=
  Below w.heap.size w wr ∧ wr.ownsRow w.heap.size 60 3 v done.length (aCells done) ∧ done.length + rest.size ≤ s.size ∧ acts s.data.toList = (acts rest.data.toList).map (done ++ ·)
theorem wl_op {a a' : CA} {r : Int} (h : wl a r = some a') : a'.op = a.op := by
  unfold wl at h
  split at h
  · cases h
  · split at h
    · injection h with h; rw [← h]
    · split at h
      · injection h with h; rw [← h]
      · cases h
theorem wl_high (a : CA) (r : Int) (h : 128 ≤ r) : wl a r = none := by
  unfold wl
  rw [perR_high r h, copR_high r h]
  split
  · rfl
  · simp
/-- In the middle of an act. -/
def InR (w : World) (rest : ByteArray) (done : List CA) (v : Value) (t : ByteArray) (g : Nat) (j : Nat) (cur : CA) (wr : World) : Prop :=
  Below w.heap.size w wr ∧ wr.ownsRow w.heap.size 60 3 v done.length (aCells done) ∧ Blk wr g 60 #[.int .u8 (co cur.op), .int .i64 cur.perms, .int .i64 cur.copy] ∧ wr.heap[g + 1]? = some (.stringIter t j) ∧
    sgR (co cur.op) = true ∧ acts rest.data.toList = actsF cur (t.data.toList.drop j)
attribute [local go_sem] cell_set_off cell_set_blk
set_option maxHeartbeats 2000000 in
theorem parseActs_any (s : ByteArray) (w : World) (hs : s.size ≤ 1000000) : Calls Tryd.prog 36 #[.string s] w (PAPost s w) := by
  have HS := Lib.hid hs
  go_enter Tryd.func36, Tryd.ntmps36
  go_wp2
  go_step3
  go_wp2
  go_step3
  go_wp2
  go_loopg [0, 3] s.size (fun g s0 s3 wr => ∃ (rest : ByteArray) (done : List CA), s0 = .string rest ∧ g = rest.size ∧ OutR s w rest done s3 wr)
  case atStart => exact ⟨s, [], rfl, rfl, Below.refl _ _, World.ownsRow_nil _ _ _ _, by simp, by cases acts s.data.toList <;> simp⟩
  case round =>
    obtain ⟨rest, done, rfl, rfl, hR⟩ := hrel
    obtain ⟨v, rfl⟩ : ∃ v, v = u3 := ⟨_, rfl⟩
    have HR := Lib.hid hR
    clear hR
    by_cases he : rest.toList = []
    · have he1 : (rest.toList == []) = true := by rw [he]; rfl
      have hn : acts s.data.toList = none := by
        rw [ByteArray.toList_eq] at he
        rw [HR.out.2.2.2, he]; rfl
      have HF := Lib.hid (PA_none s w wr hn HR.out.1)
      clear he hn
      go_wp2
      go_ret
      exact HF.out
    · have he1 : rest.toList.isEmpty = false := by simpa using he
      have hz : 0 < rest.size := by
        rcases Nat.eq_zero_or_pos rest.size with h | h
        · exact absurd (by rw [ByteArray.toList_eq]; exact List.eq_nil_of_length_eq_zero (by simpa using h)) he
        · exact h
      have hd0 := drop_at rest 0 hz
      rw [List.drop_zero] at hd0
      obtain ⟨c0, hc0⟩ : ∃ c0, rest[0] = c0 := ⟨_, rfl⟩
      rw [hc0] at hd0
      have HD0 := Lib.hid hd0
      clear hd0
      cases hsg : sgR (co c0) with
      | false =>
        have HN := Lib.hid (newAct_any c0)
        rw [hsg] at HN
        have HSG := Lib.hid hsg
        have hn : acts s.data.toList = none := by rw [HR.out.2.2.2, HD0.out, acts, hsg]; rfl
        have HNN := Lib.hid hn
        clear hsg hn
        go_wp2_with fail
        refine (HN.out _).mono ?_
        rintro e w1 ⟨rfl, hb⟩
        have HB := Lib.hid hb
        clear hb
        simp only [Bool.false_eq_true, if_false, aO]
        have HF := Lib.hid (PA_none s w (w1.alloc (.cells #[.int .u8 0, .int .i64 0, .int .i64 0] 60)) HNN.out ((HR.out.1.trans (HB.out.mono HR.out.1.size)).alloc (Nat.le_trans HR.out.1.size HB.out.size) _))
        go_wp2
        rw [Exit.noGoto_ret]
        go_ret
        exact HF.out
      | true =>
        have HN := Lib.hid (newAct_any c0)
        rw [hsg] at HN
        have HSG := Lib.hid hsg
        have hq : ((co c0) == 0) = false := by
          rw [beq_eq_false_iff_ne]
          intro h
          rw [h] at hsg
          revert hsg; decide
        have HAF := Lib.hid (show acts rest.data.toList = actsF ⟨c0, 0, 0⟩ (rest.data.toList.drop 1) by
          rw [HD0.out, acts, hsg, List.drop_one]; rfl)
        clear hsg
        go_wp2_with fail
        refine (HN.out _).mono ?_
        rintro e w1 ⟨rfl, hb⟩
        have HB := Lib.hid hb
        clear hb
        simp only [if_true, aO, aV]
        go_wp2
        obtain ⟨t, ht⟩ : ∃ t, rest.extract 1 rest.size = t := ⟨_, rfl⟩
        have HT1 := Lib.hid (show t.data.toList = rest.data.toList.drop 1 by rw [← ht]; exact Lib.extract_to_end rest 1)
        have ht2 : t.size + 1 ≤ rest.size := by rw [← ht, ByteArray.size_extract]; omega
        have HT2 := Lib.hid (show t.size + 1 = rest.size by rw [← ht, ByteArray.size_extract]; omega)
        rw [ht]
        clear ht
        have hlt1 : w.heap.size ≤ w1.heap.size := Nat.le_trans HR.out.1.size HB.out.size
        go_loopg [0, 3] t.size (fun gh s0 s3 wr2 => ∃ (j : Nat) (cur : CA), s0 = .string rest ∧ v = s3 ∧ j ≤ t.size ∧ gh = t.size - j ∧ InR w rest done v t w1.heap.size j cur wr2)
        case atStart =>
          refine ⟨0, ⟨c0, 0, 0⟩, rfl, rfl, Nat.zero_le _, rfl, ?_, ?_, ?_, ?_, HSG.out, ?_⟩
          · exact (((HR.out.1.trans (HB.out.mono HR.out.1.size)).alloc hlt1 _)).alloc (by simp; omega) _
          · exact (((HR.out.2.1.kept (grown_of_below HB.out none) (by cases hv : v.ownBlock <;> simp)).alloc _)).alloc _
          · exact (Blk.new _ _ _).alloc _
          · have hih := World.iter_heap (w1.alloc (.cells #[.int .u8 (co c0), .int .i64 0, .int .i64 0] 60)) t 0
            simpa using hih
          · rw [HAF.out, HT1.out]; rfl
        case round =>
          obtain ⟨j, cur, rfl, rfl, hj, rfl, hI⟩ := hrel
          have hvg : v.ownBlock ≠ some w1.heap.size := fun e => by
            have := (HR.out.2.1.lt _ e).2
            have := HB.out.size
            omega
          have hvi : v.ownBlock ≠ some (w1.heap.size + 1) := fun e => by
            have := (HR.out.2.1.lt _ e).2
            have := HB.out.size
            omega
          have HVG := Lib.hid hvg
          have HVI := Lib.hid hvi
          clear hvg hvi
          obtain ⟨op, perms, copy⟩ := cur
          obtain ⟨i1, i2, i3, i4, i5, i6⟩ := hI
          simp only at i3 i5
          have hq : ((co op) == 0) = false := by
            rw [beq_eq_false_iff_ne]
            intro h
            rw [h] at i5
            revert i5; decide
          have hgl : w1.heap.size < wr.heap.size := i3.lt
          have hil : w1.heap.size + 1 < wr.heap.size := (Array.getElem?_eq_some_iff.1 i4).1
          by_cases hlt : j < t.size
          · obtain ⟨c, hc⟩ : ∃ c, t[j] = c := ⟨_, rfl⟩
            have hdj := drop_at t j hlt
            rw [hc] at hdj
            obtain ⟨W1, hW1⟩ : ∃ W1, wr.iterAt (w1.heap.size + 1) t (j + (Utf8.decode t j).2) = W1 := ⟨_, rfl⟩
            have hnx := fun ty => Lib.run_next_any_at (P := Tryd.prog) wr (w1.heap.size + 1) t j ty i4 hlt
            rw [hW1] at hnx
            have gW := grown_iterAt wr (w1.heap.size + 1) t (j + (Utf8.decode t j).2)
            have iW := Lib.iterAt_heap wr (w1.heap.size + 1) t j (j + (Utf8.decode t j).2) i4
            rw [hW1] at gW iW
            clear hW1
            have J3 := i3.kept gW (by simp)
            have J2 := i2.kept gW (.inr HVI.out)
            have J1 := i1.grown gW i1.size (by intro k hk; injection hk with hk; omega)
            have hW1s : w1.heap.size + 1 < W1.heap.size := (Array.getElem?_eq_some_iff.1 iW).1
            have hc0' := J3.cell 0
            have hc1' := J3.cell 1
            have hc2' := J3.cell 2
            simp at hc0' hc1' hc2'
            have HJ1 := Lib.hid J1
            have HJ2 := Lib.hid J2
            have HJ3 := Lib.hid J3
            have HIW := Lib.hid iW
            have HI6 := Lib.hid i6
            have HI5 := Lib.hid i5
            have HDJ := Lib.hid hdj
            have HRC := Lib.hid (rune_cases t j hlt)
            rw [hc] at HRC
            have HWL := Lib.hid (rune_wl ⟨op, perms, copy⟩ t j hlt)
            rw [hc] at HWL
            have hsg2 := rune_sg t j hlt
            rw [hc] at hsg2
            clear J1 J2 J3 iW gW i1 i2 i3 i4 i5 i6 hdj hc
            obtain ⟨r, hr⟩ : ∃ r : Int, ((Utf8.decode t j).1 : Int) = r := ⟨_, rfl⟩
            have hr0 : 0 ≤ r := by rw [← hr]; exact Int.natCast_nonneg _
            rw [hr] at HWL hsg2 hnx
            have HR' := Lib.hid hr
            clear hr
            have hb1 : (1 : Int) + (j : Int) ≤ (rest.size : Int) := by omega
            have hb2 : (j : Int) ≤ 1000000 := by have := HR.out.2.2.1; have := HS.out; omega
            cases hsg : sgR (co c) with
            | true =>
              have HSG2 := Lib.hid (hsg2.trans hsg)
              have HSGC := Lib.hid hsg
              clear hsg hsg2
              go_wp2_with fail
              refine (isSign_at _ true _ HSG2.out).mono ?_
              rintro e w' ⟨rfl, rfl⟩
              go_wp2_with (at_builtin; refine wpList_append_one rfl (.tmp 24) (.tmp 26) _ rfl w.heap.size 60 _ 3 24 Tryd.underlying32 info_act rfl (by decide) v done.length (aCells done) rfl W1 [.int .u8 (co op), .int .i64 perms, .int .i64 copy] rfl (act_one ⟨op, perms, copy⟩) HJ2.out rfl (by have := HR.out.2.2.1; have := HS.out; omega) (by have := HR.out.2.2.1; have := HS.out; omega) HJ1.out.size ?_; intro v' w' ho hg)
              have hdr : (rest.extract (1 + j) rest.size).data.toList = t.data.toList.drop j := by
                rw [Lib.extract_to_end rest (1 + j), HT1.out, List.drop_drop]
              go_roundg (rest.size - (1 + j))
              case measure => omega
              case rel =>
                refine ⟨rest.extract (1 + j) rest.size, done ++ [⟨op, perms, copy⟩], rfl, by rw [ByteArray.size_extract]; omega, ?_, ?_, ?_, ?_⟩
                · exact HJ1.out.grown hg HJ1.out.size (fun k hk => (HJ2.out.lt k hk).1)
                · rw [aCells_snoc, List.length_append]; exact ho
                · rw [List.length_append, ByteArray.size_extract]
                  have := HR.out.2.2.1
                  simp
                  omega
                · rw [HR.out.2.2.2, HI6.out, hdr, HDJ.out, acts, actsF, if_pos HSGC.out, if_pos HSGC.out, Option.map_map]
                  congr 1
                  funext x
                  simp
            | false =>
              have HSG2 := Lib.hid (hsg2.trans hsg)
              have HSGC := Lib.hid hsg
              clear hsg hsg2
              cases hw : wl ⟨op, perms, copy⟩ (co c) with
              | none =>
                have HWA := Lib.hid (withLetter_any ⟨op, perms, copy⟩ r)
                rw [HWL.out, hw] at HWA
                unfold aV aO at HWA
                simp only at HWA
                have HNN := Lib.hid (show acts s.data.toList = none by rw [HR.out.2.2.2, HI6.out, HDJ.out, actsF, if_neg (by rw [HSGC.out]; decide), hw]; rfl)
                clear hw
                go_wp2_with fail
                refine (isSign_at _ false _ HSG2.out).mono ?_
                rintro e w' ⟨rfl, rfl⟩
                go_wp2_with fail
                refine (HWA.out _ hr0).mono ?_
                rintro e w2 ⟨rfl, hb⟩
                have g2 := grown_of_below hb none
                have K3 := HJ3.out.kept g2 (by simp)
                have HK1 := Lib.hid (HJ1.out.trans (hb.mono HJ1.out.size))
                have k0 := K3.cell 0
                have k1 := K3.cell 1
                have k2 := K3.cell 2
                have f0 := K3.frozen 0
                have f1 := K3.frozen 1
                have f2 := K3.frozen 2
                simp at k0 k1 k2
                clear g2 hb K3
                go_wp2
                rw [Exit.noGoto_ret]
                go_ret
                exact PA_none s w _ HNN.out (((HK1.out.setCell hlt1 _).setCell hlt1 _).setCell hlt1 _)
              | some a' =>
                obtain ⟨op', perms', copy'⟩ := a'
                obtain rfl : op' = op := wl_op hw
                have HWA := Lib.hid (withLetter_any ⟨op', perms, copy⟩ r)
                rw [HWL.out, hw] at HWA
                unfold aV aO at HWA
                simp only [aV] at HWA
                have HD1 := Lib.hid (show (Utf8.decode t j).2 = 1 by
                  rcases HRC.out with ⟨_, e⟩ | ⟨_, h⟩
                  · rw [e]
                  · rw [wl_high _ _ h] at hw; cases hw)
                have HAA := Lib.hid (show acts rest.data.toList = actsF ⟨op', perms', copy'⟩ (t.data.toList.drop (j + 1)) by rw [HI6.out, HDJ.out, actsF, if_neg (by rw [HSGC.out]; decide), hw])
                clear hw
                go_wp2_with fail
                refine (isSign_at _ false _ HSG2.out).mono ?_
                rintro e w' ⟨rfl, rfl⟩
                go_wp2_with fail
                refine (HWA.out _ hr0).mono ?_
                rintro e w2 ⟨rfl, hb⟩
                have g2 := grown_of_below hb none
                have K3 := HJ3.out.kept g2 (by simp)
                have HK1 := Lib.hid (HJ1.out.trans (hb.mono HJ1.out.size))
                have HK2 := Lib.hid (HJ2.out.kept g2 (by cases hv : v.ownBlock <;> simp))
                have HK4 := Lib.hid ((g2.block _ hW1s (by simp)).trans HIW.out)
                have HK3 := Lib.hid K3
                have k0 := K3.cell 0
                have k1 := K3.cell 1
                have k2 := K3.cell 2
                have f0 := K3.frozen 0
                have f1 := K3.frozen 1
                have f2 := K3.frozen 2
                simp at k0 k1 k2
                clear g2 hb K3
                go_wp2
                have G3 := grown_trans (grown_trans (grown_setCell w2 ⟨w1.heap.size, 0, none⟩ (.int .u8 (co op'))) (grown_setCell _ ⟨w1.heap.size, 1, none⟩ (.int .i64 perms'))) (grown_setCell _ ⟨w1.heap.size, 2, none⟩ (.int .i64 copy'))
                go_roundg (t.size - (j + 1))
                case measure => omega
                case rel =>
                  refine ⟨j + 1, ⟨op', perms', copy'⟩, rfl, rfl, by omega, rfl, ?_, ?_, ?_, ?_, HI5.out, HAA.out⟩
                  · exact ((HK1.out.setCell hlt1 _).setCell hlt1 _).setCell hlt1 _
                  · exact HK2.out.kept G3 (.inr HVG.out)
                  · exact ((HK3.out.set_ 0 (.int .u8 (co op'))).set_ 1 (.int .i64 perms')).set_ 2 (.int .i64 copy')
                  · rw [G3.block _ (Array.getElem?_eq_some_iff.1 HK4.out).1 (by simp), HK4.out, HD1.out]
          · have hnx := fun ty => Lib.run_next_end_at (P := Tryd.prog) wr (w1.heap.size + 1) t j ty i4 hlt
            have hc0' := i3.cell 0
            have hc1' := i3.cell 1
            have hc2' := i3.cell 2
            simp at hc0' hc1' hc2'
            have HA := Lib.hid (show acts s.data.toList = some (done ++ [⟨op, perms, copy⟩]) by rw [HR.out.2.2.2, i6, drop_end t j hlt]; rfl)
            have I1 := Lib.hid i1
            have I2 := Lib.hid i2
            clear i1 i2 i3 i4 i5 i6
            go_wp2_with (at_builtin; refine wpList_append_one rfl (.tmp 38) (.tmp 40) _ rfl w.heap.size 60 _ 3 24 Tryd.underlying32 info_act rfl (by decide) v done.length (aCells done) rfl wr [.int .u8 (co op), .int .i64 perms, .int .i64 copy] rfl (act_one ⟨op, perms, copy⟩) I2.out rfl (by have := HR.out.2.2.1; have := HS.out; omega) (by have := HR.out.2.2.1; have := HS.out; omega) I1.out.size ?_; intro v' w' ho hg)
            rw [Exit.noGoto_ret]
            go_ret
            exact PA_some s w wr w' done ⟨op, perms, copy⟩ v v' HA.out I1.out I2.out ho hg
end Go.Proofs.YtbjajipeiigodaaDoor
