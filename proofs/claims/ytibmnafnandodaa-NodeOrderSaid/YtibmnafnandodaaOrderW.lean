/-
  NodeOrder, walked: for every list of names and every turn the call returns true, and what was there is as it was. No condition.
-/
import Derived.Test.YtibmnafnandodaaOrderM
namespace Go.Proofs.Ytibmnafnandodaa
open Go Go.RowKit

def smallN (l : List Nm) : Prop := ∀ x ∈ l, x.length ≤ 40
theorem small_snoc {l : List Nm} {x : Nm} (h : smallN l) (hx : x.length ≤ 40) : smallN (l ++ [x]) := by
  intro y hy
  rcases List.mem_append.1 hy with hy | hy
  · exact h y hy
  · rw [List.mem_singleton] at hy
    rw [hy]
    exact hx
theorem nm_lenO (l : List En) : (nmA (nmE l)).length = l.length := by rw [nmA_len, len_nmE]
set_option maxRecDepth 100000 in
theorem order_out (v : Value) (ns : List Nm) (t : Nat) (w : World) (hR : StrsR w v (nmA ns)) (h : 12 < ns.length ∨ ns.length = 0) : Calls Try.prog 5 #[v, .int .u8 (t : Int)] w fun e w' => e = .returned (.bool true) ∧ Below w.heap.size w w' := by
  obtain ⟨A, c, rfl⟩ := strs_form hR (nmA_len ns)
  clear hR
  rcases h with h | h
  · have q : (12 : Int) < (ns.length : Int) := by omega
    clear h
    go_enter Try.func5, Try.ntmps5
    go_wp2_with fail
    refine (awake_any _).mono ?_
    rintro e w2 ⟨rfl, hb2⟩
    have HB2 := Lib.hid hb2
    clear hb2
    go_wp2
    go_ret
    exact ⟨rfl, HB2.out⟩
  · have q : ¬ (12 : Int) < (ns.length : Int) := by omega
    have q0 : ((ns.length : Int) == 0) = true := by rw [h]; rfl
    clear h
    go_enter Try.func5, Try.ntmps5
    go_wp2_with fail
    refine (awake_any _).mono ?_
    rintro e w2 ⟨rfl, hb2⟩
    have HB2 := Lib.hid hb2
    clear hb2
    go_wp2
    go_ret
    exact ⟨rfl, HB2.out⟩
set_option maxRecDepth 100000 in
set_option maxHeartbeats 6000000 in
theorem order_in (v : Value) (ns : List Nm) (t : Nat) (w : World) (hR : StrsR w v (nmA ns)) (hn : ns.length ≤ 12) (h0 : 0 < ns.length) (ht : t ≤ 255) : Calls Try.prog 5 #[v, .int .u8 (t : Int)] w fun e w' => e = .returned (.bool true) ∧ Below w.heap.size w w' := by
  obtain ⟨A, c, rfl⟩ := strs_form hR (nmA_len ns)
  have HR := Lib.hid hR
  have q : ¬ (12 : Int) < (ns.length : Int) := by omega
  have q0 : ((ns.length : Int) == 0) = false := by rw [beq_eq_false_iff_ne]; omega
  clear hR
  go_enter Try.func5, Try.ntmps5
  go_wp2_with fail
  refine (awake_any _).mono ?_
  rintro e w2 ⟨rfl, hb2⟩
  have HB2 := Lib.hid hb2
  clear hb2

  have HS1 := Lib.hid (show OS w2 ((w2.alloc (.cells (dirC (.slice none 0 0) (.slice none 0 0)) 25)).alloc (.cells (dirC (.slice none 0 0) (.slice none 0 0)) 25)) w2.heap.size (w2.heap.size + 1) (.slice none 0 0) (.slice none 0 0) (.slice none 0 0) (.slice none 0 0) [] [] from
    ⟨al (ba _ _) _, Nat.le_refl _, Nat.le_succ _, by omega, (Blk.new _ _ _).alloc _, by have := Blk.new (w2.alloc (.cells (dirC (.slice none 0 0) (.slice none 0 0)) 25)) 25 (dirC (.slice none 0 0) (.slice none 0 0)); simpa using this, .inl ⟨rfl, rfl⟩, .inl ⟨rfl, rfl⟩, EntsT.nil _, EntsT.nil _⟩)
  go_wp2
  go_loopg [8, 9] ns.length (fun g s8 s9 wr => ∃ (k : Nat) (la : List En) (Aa : Option Addr) (ca : Nat) (Ae : Option Addr) (ce : Nat), s9 = .int .i64 k ∧ s8 = .int .i64 (la.length : Int) ∧ k ≤ ns.length ∧ g = ns.length - k ∧ OS w2 wr w2.heap.size (w2.heap.size + 1) (.slice Aa 0 ca) (.slice Ae la.length ce) (.slice none 0 0) (.slice none 0 0) la [] ∧ okE la ∧ PutP (ns.take k) (nmE la) ∧ AllP (ns.take k) (nmE la) ∧ smallN (ns.take k))
  case atStart => exact ⟨0, [], none, 0, none, 0, rfl, rfl, Nat.zero_le _, rfl, HS1.out, (fun e he => by cases he), PutP.nil, (fun x hx => by simp at hx), (fun x hx => by simp at hx)⟩
  case round =>
    obtain ⟨k, la, Aa, ca, Ae, ce, rfl, rfl, hk, rfl, hS, hok, hput, hall, hsm⟩ := hrel
    have HS := Lib.hid hS
    have HOK := Lib.hid hok
    have HPUT := Lib.hid hput
    have HALL := Lib.hid hall
    have HSM := Lib.hid hsm
    have hl8 : la.length ≤ 8 := by have := hput.small; rw [len_nmE] at this; exact this
    clear hS hok hput hall HS1 hsm
    by_cases hlt : k < ns.length
    · obtain ⟨x, hx⟩ : ∃ x, ns[k]? = some x := ⟨_, List.getElem?_eq_getElem hlt⟩
      obtain ⟨ad, hA, c7⟩ := strs_get ((HR.out.below HB2.out).below HS.out.below) (nmA_at hx)
      subst hA
      have HX := Lib.hid hx
      have hsx := size_bA x
      clear hx
      have hlt' : (k : Int) < (ns.length : Int) := by omega
      have hwk : IntKind.i64.wrap ((k : Int) + 1) = (k : Int) + 1 := by rw [IntKind.wrap_i64]; omega
      by_cases h40 : x.length ≤ 40
      · have q40 : ¬ (40 : Int) < ((bA x).size : Int) := by rw [hsx]; omega
        obtain ⟨E, hE⟩ : ∃ E, withE (dirN la) x ((k : Int) + 1) = E := ⟨_, rfl⟩
        have HE := Lib.hid hE
        clear hE hsx
        obtain ⟨d0, d1, d2, d3, d4, d5, d6⟩ := HS.out.blka.c7
        have e0 : wr.drew.cell? ⟨w2.heap.size, 0, none⟩ = some (.int .i64 2) := d0
        have e1 : wr.drew.cell? ⟨w2.heap.size, 1, none⟩ = some (.int .i64 0) := d1
        have e2 : wr.drew.cell? ⟨w2.heap.size, 2, none⟩ = some (.int .i64 0) := d2
        have e3 : wr.drew.cell? ⟨w2.heap.size, 3, none⟩ = some (.int .i64 0) := d3
        have e4 : wr.drew.cell? ⟨w2.heap.size, 4, none⟩ = some (.slice Aa 0 ca) := d4
        have e5 : wr.drew.cell? ⟨w2.heap.size, 5, none⟩ = some (.slice Ae la.length ce) := d5
        have e6 : wr.drew.cell? ⟨w2.heap.size, 6, none⟩ = some (.string ⟨#[]⟩) := d6
        have e7 : wr.drew.cell? (ad.add k) = some (.string (bA x)) := c7
        have hlA : w2.heap.size < wr.heap.size := HS.out.blka.lt
        have hlB : w2.heap.size + 1 < wr.heap.size := HS.out.blkb.lt
        have hlS : (ad.add k).block < wr.heap.size := World.block_lt_of_cell? _ _ c7
        have hSd := HS.out.later (Below.refl _ _).drew
        have hSa := (HS.out.later (ba wr (.cells ndZ 25))).later (Below.refl _ _).drew
        by_cases hE0 : E = 0
        · subst hE0
          have HW := Lib.hid (fun X (h : OS w2 X w2.heap.size (w2.heap.size + 1) (.slice Aa 0 ca) (.slice Ae la.length ce) (.slice none 0 0) (.slice none 0 0) la []) => put_good h.nba hl8 h40 HE.out)
          have HZ := Lib.hid (put_zero HE.out)
          go_wp2_with fail
          go_region_with (first
            | (go_at_call 10; (with_reducible refine (HW.out wr.drew hSd).mono ?_); rintro e w5 ⟨A5, c5, A6, c6, rfl, hd5, he5, hb5⟩; have HS5 := Lib.hid (hSd.later hb5); have HD5 := Lib.hid hd5; have HE5 := Lib.hid he5; clear hd5 he5 hb5)
            | (go_at_call 10; (with_reducible refine (HW.out (wr.alloc (.cells ndZ 25)).drew hSa).mono ?_); rintro e w5 ⟨A5, c5, A6, c6, rfl, hd5, he5, hb5⟩; have HS5 := Lib.hid (hSa.later hb5); have HZ5 := Lib.hid (Blk.below (w := (wr.alloc (.cells ndZ 25)).drew) (Blk.new wr 25 ndZ) hb5); have HD5 := Lib.hid hd5; have HE5 := Lib.hid he5; obtain ⟨y0, y1, y2, y3, y4, y5, y6⟩ := HZ5.out.c7; obtain ⟨g0, g1, g2, g3, g4, g5, g6⟩ := HZ5.out.f7; obtain ⟨l0, l1, l2, l3, l4, l5, l6⟩ := HZ5.out.s7; clear hd5 he5 hb5))
          all_goals (first
            | (with_reducible change Exit.then _ _ _ _ (w5.alloc (.cells (dirC (.slice A5 0 c5) (.slice A6 (la.length + 1) c6)) 25))
               have hS6 := HS5.out.later (ba w5 (.cells (dirC (.slice A5 0 c5) (.slice A6 (la.length + 1) c6)) 25))
               have hD6 := HD5.out.below (ba w5 (.cells (dirC (.slice A5 0 c5) (.slice A6 (la.length + 1) c6)) 25))
               have hE6 := HE5.out.below (ba w5 (.cells (dirC (.slice A5 0 c5) (.slice A6 (la.length + 1) c6)) 25))
               have hx6 := Blk.new w5 25 (dirC (.slice A5 0 c5) (.slice A6 (la.length + 1) c6))
               have hne6 : w5.heap.size ≠ w2.heap.size := fun h => by have := HS5.out.blka.lt; omega
               obtain ⟨W6, hW6⟩ : ∃ W6, W6 = w5.alloc (.cells (dirC (.slice A5 0 c5) (.slice A6 (la.length + 1) c6)) 25) := ⟨_, rfl⟩
               rw [← hW6] at hS6 hD6 hE6 hx6 ⊢
               clear hW6
               have HS6 := Lib.hid hS6
               have HD6 := Lib.hid hD6
               have HE6 := Lib.hid hE6
               obtain ⟨x0, x1, x2, x3, x4, x5, x6⟩ := hx6.c7
               obtain ⟨r0, r1, r2, r3, r4, r5, r6⟩ := hS6.blka.c7
               obtain ⟨f0, f1, f2, f3, f4, f5, f6⟩ := hS6.blka.f7
               obtain ⟨s0, s1, s2, s3, s4, s5, s6⟩ := hS6.blka.s7
               clear d0 d1 d2 d3 d4 d5 d6 e0 e1 e2 e3 e4 e5 e6 e7 c7 hS6 hD6 hE6 hx6 HS5 HD5 HE5 HW HS hSd hSa
               go_wp2
               go_roundg (ns.length - (k + 1))
               case measure => omega
               case rel =>
                 obtain ⟨z1, z2, z3, z4⟩ := HZ.out
                 have htk : ns.take (k + 1) = ns.take k ++ [x] := take_snoc' HX.out
                 have hp := HPUT.out.add x
                 have ha := HALL.out.add (n := x) (put_full (l := la) (id := (k : Int) + 1) (by omega) (by rw [HE.out]; decide))
                 rw [← z3] at hp ha
                 exact ⟨k + 1, ins (x, (k : Int) + 1) la, A5, c5, A6, c6, by go_num, by rw [len_ins]; go_num, by omega, rfl, by rw [len_ins]; exact HS6.out.seta HD6.out HE6.out, okE_ins HOK.out z1 z2, by rw [htk]; exact hp, by rw [htk]; exact ha, by rw [htk]; exact small_snoc HSM.out h40⟩)
            | (with_reducible change Exit.then _ _ _ _ (((((((w5.setCell ⟨wr.heap.size, 0, none⟩ (.int .i64 2)).setCell ⟨wr.heap.size, 1, none⟩ (.int .i64 0)).setCell ⟨wr.heap.size, 2, none⟩ (.int .i64 0)).setCell ⟨wr.heap.size, 3, none⟩ (.int .i64 0)).setCell ⟨wr.heap.size, 4, none⟩ (.slice A5 0 c5)).setCell ⟨wr.heap.size, 5, none⟩ (.slice A6 (la.length + 1) c6)).setCell ⟨wr.heap.size, 6, none⟩ (.string ⟨#[]⟩))
               have hne6 : wr.heap.size ≠ w2.heap.size := by omega
               have hS6 := HS5.out.other HZ5.out (by omega) (by omega) (by omega) (.int .i64 2) (.int .i64 0) (.int .i64 0) (.int .i64 0) (.slice A5 0 c5) (.slice A6 (la.length + 1) c6) (.string ⟨#[]⟩)
               have hD6 := HD5.out.kept HZ5.out (by decide) (grown7 w5 wr.heap.size (.int .i64 2) (.int .i64 0) (.int .i64 0) (.int .i64 0) (.slice A5 0 c5) (.slice A6 (la.length + 1) c6) (.string ⟨#[]⟩))
               have hE6 := HE5.out.kept HZ5.out (by decide) (grown7 w5 wr.heap.size (.int .i64 2) (.int .i64 0) (.int .i64 0) (.int .i64 0) (.slice A5 0 c5) (.slice A6 (la.length + 1) c6) (.string ⟨#[]⟩))
               have hx6 := HZ5.out.put7 (.int .i64 2) (.int .i64 0) (.int .i64 0) (.int .i64 0) (.slice A5 0 c5) (.slice A6 (la.length + 1) c6) (.string ⟨#[]⟩)
               obtain ⟨W6, hW6⟩ : ∃ W6, W6 = (put7 w5 wr.heap.size (.int .i64 2) (.int .i64 0) (.int .i64 0) (.int .i64 0) (.slice A5 0 c5) (.slice A6 (la.length + 1) c6) (.string ⟨#[]⟩)) := ⟨_, rfl⟩
               have hW7 : (((((((w5.setCell ⟨wr.heap.size, 0, none⟩ (.int .i64 2)).setCell ⟨wr.heap.size, 1, none⟩ (.int .i64 0)).setCell ⟨wr.heap.size, 2, none⟩ (.int .i64 0)).setCell ⟨wr.heap.size, 3, none⟩ (.int .i64 0)).setCell ⟨wr.heap.size, 4, none⟩ (.slice A5 0 c5)).setCell ⟨wr.heap.size, 5, none⟩ (.slice A6 (la.length + 1) c6)).setCell ⟨wr.heap.size, 6, none⟩ (.string ⟨#[]⟩)) = W6 := hW6.symm
               rw [← hW6] at hS6 hD6 hE6 hx6
               rw [hW7]
               clear hW6 hW7 y0 y1 y2 y3 y4 y5 y6 g0 g1 g2 g3 g4 g5 g6 l0 l1 l2 l3 l4 l5 l6 HZ5
               have HS6 := Lib.hid hS6
               have HD6 := Lib.hid hD6
               have HE6 := Lib.hid hE6
               obtain ⟨x0, x1, x2, x3, x4, x5, x6⟩ := hx6.c7
               obtain ⟨r0, r1, r2, r3, r4, r5, r6⟩ := hS6.blka.c7
               obtain ⟨f0, f1, f2, f3, f4, f5, f6⟩ := hS6.blka.f7
               obtain ⟨s0, s1, s2, s3, s4, s5, s6⟩ := hS6.blka.s7
               clear d0 d1 d2 d3 d4 d5 d6 e0 e1 e2 e3 e4 e5 e6 e7 c7 hS6 hD6 hE6 hx6 HS5 HD5 HE5 HW HS hSd hSa
               go_wp2
               go_roundg (ns.length - (k + 1))
               case measure => omega
               case rel =>
                 obtain ⟨z1, z2, z3, z4⟩ := HZ.out
                 have htk : ns.take (k + 1) = ns.take k ++ [x] := take_snoc' HX.out
                 have hp := HPUT.out.add x
                 have ha := HALL.out.add (n := x) (put_full (l := la) (id := (k : Int) + 1) (by omega) (by rw [HE.out]; decide))
                 rw [← z3] at hp ha
                 exact ⟨k + 1, ins (x, (k : Int) + 1) la, A5, c5, A6, c6, by go_num, by rw [len_ins]; go_num, by omega, rfl, by rw [len_ins]; exact HS6.out.seta HD6.out HE6.out, okE_ins HOK.out z1 z2, by rw [htk]; exact hp, by rw [htk]; exact ha, by rw [htk]; exact small_snoc HSM.out h40⟩))
        · have qE : (E == 0) = false := by simpa using hE0
          have HW := Lib.hid (fun X (h : OS w2 X w2.heap.size (w2.heap.size + 1) (.slice Aa 0 ca) (.slice Ae la.length ce) (.slice none 0 0) (.slice none 0 0) la []) => put_at h.nba hl8 h40 HE.out)
          have HE0 := Lib.hid (show ¬ withE (dirN la) x ((k : Int) + 1) = 0 by rw [HE.out]; exact hE0)
          clear hE0
          by_cases h28 : E = 28
          · subst h28
            go_wp2_with fail
            go_region_with (first
              | (go_at_call 10; (with_reducible refine (HW.out wr.drew hSd).mono ?_); rintro e w5 ⟨M, A5, c5, A6, c6, rfl, -, -, -, hb5⟩; have HS5 := Lib.hid (hSd.later hb5); clear hb5)
              | (go_at_call 10; (with_reducible refine (HW.out (wr.alloc (.cells ndZ 25)).drew hSa).mono ?_); rintro e w5 ⟨M, A5, c5, A6, c6, rfl, -, -, -, hb5⟩; have HS5 := Lib.hid (hSa.later hb5); have HZ5 := Lib.hid (Blk.below (w := (wr.alloc (.cells ndZ 25)).drew) (Blk.new wr 25 ndZ) hb5); obtain ⟨y0, y1, y2, y3, y4, y5, y6⟩ := HZ5.out.c7; obtain ⟨g0, g1, g2, g3, g4, g5, g6⟩ := HZ5.out.f7; obtain ⟨l0, l1, l2, l3, l4, l5, l6⟩ := HZ5.out.s7; clear hb5))
            all_goals (first
              | (with_reducible change Exit.then _ _ _ _ (w5.alloc (.cells (ndC M (.slice A5 M.data.length c5) (.slice A6 M.ents.length c6)) 25))
                 have HS6 := Lib.hid (HS5.out.later (ba w5 (.cells (ndC M (.slice A5 M.data.length c5) (.slice A6 M.ents.length c6)) 25)))
                 clear d0 d1 d2 d3 d4 d5 d6 e0 e1 e2 e3 e4 e5 e6 e7 c7 HW HS HS5 hSd hSa
                 go_wp2
                 go_ret
                 exact ⟨rfl, bt HS6.out.below HB2.out⟩)
              | (with_reducible change Exit.then _ _ _ _ (((((((w5.setCell ⟨wr.heap.size, 0, none⟩ (.int .i64 M.kind)).setCell ⟨wr.heap.size, 1, none⟩ (.int .i64 M.mode)).setCell ⟨wr.heap.size, 2, none⟩ (.int .i64 M.uid)).setCell ⟨wr.heap.size, 3, none⟩ (.int .i64 M.gid)).setCell ⟨wr.heap.size, 4, none⟩ (.slice A5 M.data.length c5)).setCell ⟨wr.heap.size, 5, none⟩ (.slice A6 M.ents.length c6)).setCell ⟨wr.heap.size, 6, none⟩ (.string (bA M.target)))
                 have HS6 := Lib.hid (HS5.out.other HZ5.out (by omega) (by omega) (by omega) (.int .i64 M.kind) (.int .i64 M.mode) (.int .i64 M.uid) (.int .i64 M.gid) (.slice A5 M.data.length c5) (.slice A6 M.ents.length c6) (.string (bA M.target)))
                 obtain ⟨W6, hW6⟩ : ∃ W6, W6 = put7 w5 wr.heap.size (.int .i64 M.kind) (.int .i64 M.mode) (.int .i64 M.uid) (.int .i64 M.gid) (.slice A5 M.data.length c5) (.slice A6 M.ents.length c6) (.string (bA M.target)) := ⟨_, rfl⟩
                 have hW7 : (((((((w5.setCell ⟨wr.heap.size, 0, none⟩ (.int .i64 M.kind)).setCell ⟨wr.heap.size, 1, none⟩ (.int .i64 M.mode)).setCell ⟨wr.heap.size, 2, none⟩ (.int .i64 M.uid)).setCell ⟨wr.heap.size, 3, none⟩ (.int .i64 M.gid)).setCell ⟨wr.heap.size, 4, none⟩ (.slice A5 M.data.length c5)).setCell ⟨wr.heap.size, 5, none⟩ (.slice A6 M.ents.length c6)).setCell ⟨wr.heap.size, 6, none⟩ (.string (bA M.target))) = W6 := hW6.symm
                 rw [← hW6] at HS6
                 rw [hW7]
                 clear hW6 hW7
                 clear d0 d1 d2 d3 d4 d5 d6 e0 e1 e2 e3 e4 e5 e6 e7 c7 HW HS HS5 hSd hSa y0 y1 y2 y3 y4 y5 y6 g0 g1 g2 g3 g4 g5 g6 l0 l1 l2 l3 l4 l5 l6 HZ5
                 go_wp2
                 go_ret
                 exact ⟨rfl, bt HS6.out.below HB2.out⟩))
          · have q28 : (E == 28) = false := by simpa using h28
            have H28 := Lib.hid (show ¬ withE (dirN la) x ((k : Int) + 1) = 28 by rw [HE.out]; exact h28)
            clear h28
            go_wp2_with fail
            go_region_with (first
              | (go_at_call 10; (with_reducible refine (HW.out wr.drew hSd).mono ?_); rintro e w5 ⟨M, A5, c5, A6, c6, rfl, -, -, -, hb5⟩; have HS5 := Lib.hid (hSd.later hb5); clear hb5)
              | (go_at_call 10; (with_reducible refine (HW.out (wr.alloc (.cells ndZ 25)).drew hSa).mono ?_); rintro e w5 ⟨M, A5, c5, A6, c6, rfl, -, -, -, hb5⟩; have HS5 := Lib.hid (hSa.later hb5); have HZ5 := Lib.hid (Blk.below (w := (wr.alloc (.cells ndZ 25)).drew) (Blk.new wr 25 ndZ) hb5); obtain ⟨y0, y1, y2, y3, y4, y5, y6⟩ := HZ5.out.c7; obtain ⟨g0, g1, g2, g3, g4, g5, g6⟩ := HZ5.out.f7; obtain ⟨l0, l1, l2, l3, l4, l5, l6⟩ := HZ5.out.s7; clear hb5))
            all_goals (first
              | (with_reducible change Exit.then _ _ _ _ (w5.alloc (.cells (ndC M (.slice A5 M.data.length c5) (.slice A6 M.ents.length c6)) 25))
                 have HS6 := Lib.hid (HS5.out.later (ba w5 (.cells (ndC M (.slice A5 M.data.length c5) (.slice A6 M.ents.length c6)) 25)))
                 clear d0 d1 d2 d3 d4 d5 d6 e0 e1 e2 e3 e4 e5 e6 e7 c7 HW HS HS5 hSd hSa
                 go_wp2
                 go_roundg (ns.length - (k + 1))
                 case measure => omega
                 case rel =>
                   have htk : ns.take (k + 1) = ns.take k ++ [x] := take_snoc' HX.out
                   have hp := HPUT.out.add x
                   have ha := HALL.out.add (n := x) (put_full (l := la) (id := (k : Int) + 1) (by omega) H28.out)
                   rw [← put_else (by omega) HE0.out] at hp ha
                   exact ⟨k + 1, la, Aa, ca, Ae, ce, by go_num, rfl, by omega, rfl, HS6.out, HOK.out, by rw [htk]; exact hp, by rw [htk]; exact ha, by rw [htk]; exact small_snoc HSM.out h40⟩)
              | (with_reducible change Exit.then _ _ _ _ (((((((w5.setCell ⟨wr.heap.size, 0, none⟩ (.int .i64 M.kind)).setCell ⟨wr.heap.size, 1, none⟩ (.int .i64 M.mode)).setCell ⟨wr.heap.size, 2, none⟩ (.int .i64 M.uid)).setCell ⟨wr.heap.size, 3, none⟩ (.int .i64 M.gid)).setCell ⟨wr.heap.size, 4, none⟩ (.slice A5 M.data.length c5)).setCell ⟨wr.heap.size, 5, none⟩ (.slice A6 M.ents.length c6)).setCell ⟨wr.heap.size, 6, none⟩ (.string (bA M.target)))
                 have HS6 := Lib.hid (HS5.out.other HZ5.out (by omega) (by omega) (by omega) (.int .i64 M.kind) (.int .i64 M.mode) (.int .i64 M.uid) (.int .i64 M.gid) (.slice A5 M.data.length c5) (.slice A6 M.ents.length c6) (.string (bA M.target)))
                 obtain ⟨W6, hW6⟩ : ∃ W6, W6 = put7 w5 wr.heap.size (.int .i64 M.kind) (.int .i64 M.mode) (.int .i64 M.uid) (.int .i64 M.gid) (.slice A5 M.data.length c5) (.slice A6 M.ents.length c6) (.string (bA M.target)) := ⟨_, rfl⟩
                 have hW7 : (((((((w5.setCell ⟨wr.heap.size, 0, none⟩ (.int .i64 M.kind)).setCell ⟨wr.heap.size, 1, none⟩ (.int .i64 M.mode)).setCell ⟨wr.heap.size, 2, none⟩ (.int .i64 M.uid)).setCell ⟨wr.heap.size, 3, none⟩ (.int .i64 M.gid)).setCell ⟨wr.heap.size, 4, none⟩ (.slice A5 M.data.length c5)).setCell ⟨wr.heap.size, 5, none⟩ (.slice A6 M.ents.length c6)).setCell ⟨wr.heap.size, 6, none⟩ (.string (bA M.target))) = W6 := hW6.symm
                 rw [← hW6] at HS6
                 rw [hW7]
                 clear hW6 hW7
                 clear d0 d1 d2 d3 d4 d5 d6 e0 e1 e2 e3 e4 e5 e6 e7 c7 HW HS HS5 hSd hSa y0 y1 y2 y3 y4 y5 y6 g0 g1 g2 g3 g4 g5 g6 l0 l1 l2 l3 l4 l5 l6 HZ5
                 go_wp2
                 go_roundg (ns.length - (k + 1))
                 case measure => omega
                 case rel =>
                   have htk : ns.take (k + 1) = ns.take k ++ [x] := take_snoc' HX.out
                   have hp := HPUT.out.add x
                   have ha := HALL.out.add (n := x) (put_full (l := la) (id := (k : Int) + 1) (by omega) H28.out)
                   rw [← put_else (by omega) HE0.out] at hp ha
                   exact ⟨k + 1, la, Aa, ca, Ae, ce, by go_num, rfl, by omega, rfl, HS6.out, HOK.out, by rw [htk]; exact hp, by rw [htk]; exact ha, by rw [htk]; exact small_snoc HSM.out h40⟩))
      · have q40 : (40 : Int) < ((bA x).size : Int) := by rw [hsx]; omega
        clear hsx h40
        go_wp2
        go_ret
        exact ⟨rfl, bt HS.out.below HB2.out⟩
    · have hlt' : ¬ (k : Int) < (ns.length : Int) := by omega
      have hkn : ns.take k = ns := List.take_of_length_le (by omega)
      rw [hkn] at HPUT HALL HSM
      clear hkn hlt hk
      go_wp2
      go_loopg [12] ns.length (fun g s12 wr => ∃ (k : Nat) (lb : List En) (Ab : Option Addr) (cb : Nat) (Af : Option Addr) (cf : Nat), s12 = .int .i64 k ∧ k ≤ ns.length ∧ g = ns.length - k ∧ OS w2 wr w2.heap.size (w2.heap.size + 1) (.slice Aa 0 ca) (.slice Ae la.length ce) (.slice Ab 0 cb) (.slice Af lb.length cf) la lb ∧ okE lb ∧ PutP (turnd ns t k) (nmE lb) ∧ AllP (turnd ns t k) (nmE lb))
      case atStart => exact ⟨0, [], none, 0, none, 0, rfl, Nat.zero_le _, rfl, HS.out, (fun e he => by cases he), PutP.nil, (fun x hx => by simp [turnd] at hx)⟩
      case round =>
        clear HS
        obtain ⟨k, lb, Ab, cb, Af, cf, rfl, hk, rfl, hS, hok, hput, hall⟩ := hrel
        have HS := Lib.hid hS
        have HOKB := Lib.hid hok
        have HPUT2 := Lib.hid hput
        have HALL2 := Lib.hid hall
        have hl8a := hl8
        have hl8 : lb.length ≤ 8 := by have := hput.small; rw [len_nmE] at this; exact this
        clear hS hok hput hall
        by_cases hlt : k < ns.length
        · have hlt' : (k : Int) < (ns.length : Int) := by omega
          obtain ⟨j, hj⟩ : ∃ j, j = (k + t) % ns.length := ⟨_, rfl⟩
          have hjl : j < ns.length := by rw [hj]; exact Nat.mod_lt _ h0
          obtain ⟨x, hx⟩ : ∃ x, ns[j]? = some x := ⟨_, List.getElem?_eq_getElem hjl⟩
          obtain ⟨ad, hA, c7⟩ := strs_get ((HR.out.below HB2.out).below HS.out.below) (nmA_at hx)
          subst hA
          have h40 : x.length ≤ 40 := HSM.out x (List.mem_of_getElem? hx)
          have HTN := Lib.hid (show turnd ns t (k + 1) = turnd ns t k ++ [x] by rw [turnd_snoc, ← hj, List.getD_eq_getElem?_getD, hx]; rfl)
          have HROOM := Lib.hid (room HPUT.out HALL.out HPUT2.out (fun y hy => mem_turnd t hy h0) (List.mem_of_getElem? hx))
          have m1 : Int.tmod ((k : Int) + (t : Int)) (ns.length : Int) = (j : Int) := by rw [hj, ← Int.natCast_add]; exact Int.ofNat_tmod _ _
          have m2 : ((k : Int) + (t : Int)) % (ns.length : Int) = (j : Int) := by rw [hj, Int.natCast_emod, Int.natCast_add]
          have m3 : IntKind.i64.wrap ((k : Int) + (t : Int)) = (k : Int) + (t : Int) := by rw [IntKind.wrap_i64]; omega
          have m4 : IntKind.i64.wrap ((j : Int) + 1) = (j : Int) + 1 := by rw [IntKind.wrap_i64]; omega
          have m5 : (j : Int) < (ns.length : Int) := by omega
          have m6 : IntKind.i64.wrap (j : Int) = (j : Int) := by rw [IntKind.wrap_i64]; omega
          have m7 : ¬ (ns.length : Int) = 0 := by omega
          have m8 : IntKind.i64.wrap (t : Int) = (t : Int) := by rw [IntKind.wrap_i64]; omega
          clear hj hx
          obtain ⟨E, hE⟩ : ∃ E, withE (dirN lb) x ((j : Int) + 1) = E := ⟨_, rfl⟩
          have HE := Lib.hid hE
          clear hE
          obtain ⟨d0, d1, d2, d3, d4, d5, d6⟩ := HS.out.blkb.c7
          have e0 : wr.drew.cell? ⟨w2.heap.size + 1, 0, none⟩ = some (.int .i64 2) := d0
          have e1 : wr.drew.cell? ⟨w2.heap.size + 1, 1, none⟩ = some (.int .i64 0) := d1
          have e2 : wr.drew.cell? ⟨w2.heap.size + 1, 2, none⟩ = some (.int .i64 0) := d2
          have e3 : wr.drew.cell? ⟨w2.heap.size + 1, 3, none⟩ = some (.int .i64 0) := d3
          have e4 : wr.drew.cell? ⟨w2.heap.size + 1, 4, none⟩ = some (.slice Ab 0 cb) := d4
          have e5 : wr.drew.cell? ⟨w2.heap.size + 1, 5, none⟩ = some (.slice Af lb.length cf) := d5
          have e6 : wr.drew.cell? ⟨w2.heap.size + 1, 6, none⟩ = some (.string ⟨#[]⟩) := d6
          have e7 : wr.drew.cell? (ad.add j) = some (.string (bA x)) := c7
          have hlA : w2.heap.size < wr.heap.size := HS.out.blka.lt
          have hlB : w2.heap.size + 1 < wr.heap.size := HS.out.blkb.lt
          have hlS : (ad.add j).block < wr.heap.size := World.block_lt_of_cell? _ _ c7
          have hSd := HS.out.later (Below.refl _ _).drew
          have hSa := (HS.out.later (ba wr (.cells ndZ 25))).later (Below.refl _ _).drew
          by_cases hE0 : E = 0
          · subst hE0
            have HW := Lib.hid (fun X (h : OS w2 X w2.heap.size (w2.heap.size + 1) (.slice Aa 0 ca) (.slice Ae la.length ce) (.slice Ab 0 cb) (.slice Af lb.length cf) la lb) => put_good h.nbb hl8 h40 HE.out)
            have HZ := Lib.hid (put_zero HE.out)
            go_wp2_with fail
            go_region_with (first
              | (go_at_call 10; (with_reducible refine (HW.out wr.drew hSd).mono ?_); rintro e w5 ⟨A5, c5, A6, c6, rfl, hd5, he5, hb5⟩; have HS5 := Lib.hid (hSd.later hb5); have HD5 := Lib.hid hd5; have HE5 := Lib.hid he5; clear hd5 he5 hb5)
              | (go_at_call 10; (with_reducible refine (HW.out (wr.alloc (.cells ndZ 25)).drew hSa).mono ?_); rintro e w5 ⟨A5, c5, A6, c6, rfl, hd5, he5, hb5⟩; have HS5 := Lib.hid (hSa.later hb5); have HZ5 := Lib.hid (Blk.below (w := (wr.alloc (.cells ndZ 25)).drew) (Blk.new wr 25 ndZ) hb5); have HD5 := Lib.hid hd5; have HE5 := Lib.hid he5; obtain ⟨y0, y1, y2, y3, y4, y5, y6⟩ := HZ5.out.c7; obtain ⟨g0, g1, g2, g3, g4, g5, g6⟩ := HZ5.out.f7; obtain ⟨l0, l1, l2, l3, l4, l5, l6⟩ := HZ5.out.s7; clear hd5 he5 hb5))
            all_goals (first
              | (with_reducible change Exit.then _ _ _ _ (w5.alloc (.cells (dirC (.slice A5 0 c5) (.slice A6 (lb.length + 1) c6)) 25))
                 have hS6 := HS5.out.later (ba w5 (.cells (dirC (.slice A5 0 c5) (.slice A6 (lb.length + 1) c6)) 25))
                 have hD6 := HD5.out.below (ba w5 (.cells (dirC (.slice A5 0 c5) (.slice A6 (lb.length + 1) c6)) 25))
                 have hE6 := HE5.out.below (ba w5 (.cells (dirC (.slice A5 0 c5) (.slice A6 (lb.length + 1) c6)) 25))
                 have hx6 := Blk.new w5 25 (dirC (.slice A5 0 c5) (.slice A6 (lb.length + 1) c6))
                 have hne6 : w5.heap.size ≠ w2.heap.size + 1 := fun h => by have := HS5.out.blkb.lt; omega
                 obtain ⟨W6, hW6⟩ : ∃ W6, W6 = w5.alloc (.cells (dirC (.slice A5 0 c5) (.slice A6 (lb.length + 1) c6)) 25) := ⟨_, rfl⟩
                 rw [← hW6] at hS6 hD6 hE6 hx6 ⊢
                 clear hW6
                 have HS6 := Lib.hid hS6
                 have HD6 := Lib.hid hD6
                 have HE6 := Lib.hid hE6
                 obtain ⟨x0, x1, x2, x3, x4, x5, x6⟩ := hx6.c7
                 obtain ⟨r0, r1, r2, r3, r4, r5, r6⟩ := hS6.blkb.c7
                 obtain ⟨f0, f1, f2, f3, f4, f5, f6⟩ := hS6.blkb.f7
                 obtain ⟨s0, s1, s2, s3, s4, s5, s6⟩ := hS6.blkb.s7
                 clear d0 d1 d2 d3 d4 d5 d6 e0 e1 e2 e3 e4 e5 e6 e7 c7 hS6 hD6 hE6 hx6 HS5 HD5 HE5 HW HS hSd hSa
                 go_wp2
                 go_roundg (ns.length - (k + 1))
                 case measure => omega
                 case rel =>
                   obtain ⟨z1, z2, z3, z4⟩ := HZ.out
                   have hp := HPUT2.out.add x
                   have ha := HALL2.out.add (n := x) HROOM.out
                   rw [← z3] at hp ha
                   exact ⟨k + 1, ins (x, (j : Int) + 1) lb, A5, c5, A6, c6, by go_num, by omega, rfl, by rw [len_ins]; exact HS6.out.setb HD6.out HE6.out, okE_ins HOKB.out z1 z2, by rw [HTN.out]; exact hp, by rw [HTN.out]; exact ha⟩)
              | (with_reducible change Exit.then _ _ _ _ (((((((w5.setCell ⟨wr.heap.size, 0, none⟩ (.int .i64 2)).setCell ⟨wr.heap.size, 1, none⟩ (.int .i64 0)).setCell ⟨wr.heap.size, 2, none⟩ (.int .i64 0)).setCell ⟨wr.heap.size, 3, none⟩ (.int .i64 0)).setCell ⟨wr.heap.size, 4, none⟩ (.slice A5 0 c5)).setCell ⟨wr.heap.size, 5, none⟩ (.slice A6 (lb.length + 1) c6)).setCell ⟨wr.heap.size, 6, none⟩ (.string ⟨#[]⟩))
                 have hne6 : wr.heap.size ≠ w2.heap.size + 1 := by omega
                 have hS6 := HS5.out.other HZ5.out (by omega) (by omega) (by omega) (.int .i64 2) (.int .i64 0) (.int .i64 0) (.int .i64 0) (.slice A5 0 c5) (.slice A6 (lb.length + 1) c6) (.string ⟨#[]⟩)
                 have hD6 := HD5.out.kept HZ5.out (by decide) (grown7 w5 wr.heap.size (.int .i64 2) (.int .i64 0) (.int .i64 0) (.int .i64 0) (.slice A5 0 c5) (.slice A6 (lb.length + 1) c6) (.string ⟨#[]⟩))
                 have hE6 := HE5.out.kept HZ5.out (by decide) (grown7 w5 wr.heap.size (.int .i64 2) (.int .i64 0) (.int .i64 0) (.int .i64 0) (.slice A5 0 c5) (.slice A6 (lb.length + 1) c6) (.string ⟨#[]⟩))
                 have hx6 := HZ5.out.put7 (.int .i64 2) (.int .i64 0) (.int .i64 0) (.int .i64 0) (.slice A5 0 c5) (.slice A6 (lb.length + 1) c6) (.string ⟨#[]⟩)
                 obtain ⟨W6, hW6⟩ : ∃ W6, W6 = (put7 w5 wr.heap.size (.int .i64 2) (.int .i64 0) (.int .i64 0) (.int .i64 0) (.slice A5 0 c5) (.slice A6 (lb.length + 1) c6) (.string ⟨#[]⟩)) := ⟨_, rfl⟩
                 have hW7 : (((((((w5.setCell ⟨wr.heap.size, 0, none⟩ (.int .i64 2)).setCell ⟨wr.heap.size, 1, none⟩ (.int .i64 0)).setCell ⟨wr.heap.size, 2, none⟩ (.int .i64 0)).setCell ⟨wr.heap.size, 3, none⟩ (.int .i64 0)).setCell ⟨wr.heap.size, 4, none⟩ (.slice A5 0 c5)).setCell ⟨wr.heap.size, 5, none⟩ (.slice A6 (lb.length + 1) c6)).setCell ⟨wr.heap.size, 6, none⟩ (.string ⟨#[]⟩)) = W6 := hW6.symm
                 rw [← hW6] at hS6 hD6 hE6 hx6
                 rw [hW7]
                 clear hW6 hW7 y0 y1 y2 y3 y4 y5 y6 g0 g1 g2 g3 g4 g5 g6 l0 l1 l2 l3 l4 l5 l6 HZ5
                 have HS6 := Lib.hid hS6
                 have HD6 := Lib.hid hD6
                 have HE6 := Lib.hid hE6
                 obtain ⟨x0, x1, x2, x3, x4, x5, x6⟩ := hx6.c7
                 obtain ⟨r0, r1, r2, r3, r4, r5, r6⟩ := hS6.blkb.c7
                 obtain ⟨f0, f1, f2, f3, f4, f5, f6⟩ := hS6.blkb.f7
                 obtain ⟨s0, s1, s2, s3, s4, s5, s6⟩ := hS6.blkb.s7
                 clear d0 d1 d2 d3 d4 d5 d6 e0 e1 e2 e3 e4 e5 e6 e7 c7 hS6 hD6 hE6 hx6 HS5 HD5 HE5 HW HS hSd hSa
                 go_wp2
                 go_roundg (ns.length - (k + 1))
                 case measure => omega
                 case rel =>
                   obtain ⟨z1, z2, z3, z4⟩ := HZ.out
                   have hp := HPUT2.out.add x
                   have ha := HALL2.out.add (n := x) HROOM.out
                   rw [← z3] at hp ha
                   exact ⟨k + 1, ins (x, (j : Int) + 1) lb, A5, c5, A6, c6, by go_num, by omega, rfl, by rw [len_ins]; exact HS6.out.setb HD6.out HE6.out, okE_ins HOKB.out z1 z2, by rw [HTN.out]; exact hp, by rw [HTN.out]; exact ha⟩))
          · have qE : (E == 0) = false := by simpa using hE0
            have HW := Lib.hid (fun X (h : OS w2 X w2.heap.size (w2.heap.size + 1) (.slice Aa 0 ca) (.slice Ae la.length ce) (.slice Ab 0 cb) (.slice Af lb.length cf) la lb) => put_at h.nbb hl8 h40 HE.out)
            have HE0 := Lib.hid (show ¬ withE (dirN lb) x ((j : Int) + 1) = 0 by rw [HE.out]; exact hE0)
            clear hE0
            go_wp2_with fail
            go_region_with (first
              | (go_at_call 10; (with_reducible refine (HW.out wr.drew hSd).mono ?_); rintro e w5 ⟨M, A5, c5, A6, c6, rfl, -, -, -, hb5⟩; have HS5 := Lib.hid (hSd.later hb5); clear hb5)
              | (go_at_call 10; (with_reducible refine (HW.out (wr.alloc (.cells ndZ 25)).drew hSa).mono ?_); rintro e w5 ⟨M, A5, c5, A6, c6, rfl, -, -, -, hb5⟩; have HS5 := Lib.hid (hSa.later hb5); have HZ5 := Lib.hid (Blk.below (w := (wr.alloc (.cells ndZ 25)).drew) (Blk.new wr 25 ndZ) hb5); obtain ⟨y0, y1, y2, y3, y4, y5, y6⟩ := HZ5.out.c7; obtain ⟨g0, g1, g2, g3, g4, g5, g6⟩ := HZ5.out.f7; obtain ⟨l0, l1, l2, l3, l4, l5, l6⟩ := HZ5.out.s7; clear hb5))
            all_goals (first
              | (with_reducible change Exit.then _ _ _ _ (w5.alloc (.cells (ndC M (.slice A5 M.data.length c5) (.slice A6 M.ents.length c6)) 25))
                 have HS6 := Lib.hid (HS5.out.later (ba w5 (.cells (ndC M (.slice A5 M.data.length c5) (.slice A6 M.ents.length c6)) 25)))
                 clear d0 d1 d2 d3 d4 d5 d6 e0 e1 e2 e3 e4 e5 e6 e7 c7 HW HS HS5 hSd hSa
                 go_wp2
                 go_roundg (ns.length - (k + 1))
                 case measure => omega
                 case rel =>
                   have hp := HPUT2.out.add x
                   have ha := HALL2.out.add (n := x) HROOM.out
                   rw [← put_else (by omega) HE0.out] at hp ha
                   exact ⟨k + 1, lb, Ab, cb, Af, cf, by go_num, by omega, rfl, HS6.out, HOKB.out, by rw [HTN.out]; exact hp, by rw [HTN.out]; exact ha⟩)
              | (with_reducible change Exit.then _ _ _ _ (((((((w5.setCell ⟨wr.heap.size, 0, none⟩ (.int .i64 M.kind)).setCell ⟨wr.heap.size, 1, none⟩ (.int .i64 M.mode)).setCell ⟨wr.heap.size, 2, none⟩ (.int .i64 M.uid)).setCell ⟨wr.heap.size, 3, none⟩ (.int .i64 M.gid)).setCell ⟨wr.heap.size, 4, none⟩ (.slice A5 M.data.length c5)).setCell ⟨wr.heap.size, 5, none⟩ (.slice A6 M.ents.length c6)).setCell ⟨wr.heap.size, 6, none⟩ (.string (bA M.target)))
                 have HS6 := Lib.hid (HS5.out.other HZ5.out (by omega) (by omega) (by omega) (.int .i64 M.kind) (.int .i64 M.mode) (.int .i64 M.uid) (.int .i64 M.gid) (.slice A5 M.data.length c5) (.slice A6 M.ents.length c6) (.string (bA M.target)))
                 obtain ⟨W6, hW6⟩ : ∃ W6, W6 = put7 w5 wr.heap.size (.int .i64 M.kind) (.int .i64 M.mode) (.int .i64 M.uid) (.int .i64 M.gid) (.slice A5 M.data.length c5) (.slice A6 M.ents.length c6) (.string (bA M.target)) := ⟨_, rfl⟩
                 have hW7 : (((((((w5.setCell ⟨wr.heap.size, 0, none⟩ (.int .i64 M.kind)).setCell ⟨wr.heap.size, 1, none⟩ (.int .i64 M.mode)).setCell ⟨wr.heap.size, 2, none⟩ (.int .i64 M.uid)).setCell ⟨wr.heap.size, 3, none⟩ (.int .i64 M.gid)).setCell ⟨wr.heap.size, 4, none⟩ (.slice A5 M.data.length c5)).setCell ⟨wr.heap.size, 5, none⟩ (.slice A6 M.ents.length c6)).setCell ⟨wr.heap.size, 6, none⟩ (.string (bA M.target))) = W6 := hW6.symm
                 rw [← hW6] at HS6
                 rw [hW7]
                 clear hW6 hW7
                 clear d0 d1 d2 d3 d4 d5 d6 e0 e1 e2 e3 e4 e5 e6 e7 c7 HW HS HS5 hSd hSa y0 y1 y2 y3 y4 y5 y6 g0 g1 g2 g3 g4 g5 g6 l0 l1 l2 l3 l4 l5 l6 HZ5
                 go_wp2
                 go_roundg (ns.length - (k + 1))
                 case measure => omega
                 case rel =>
                   have hp := HPUT2.out.add x
                   have ha := HALL2.out.add (n := x) HROOM.out
                   rw [← put_else (by omega) HE0.out] at hp ha
                   exact ⟨k + 1, lb, Ab, cb, Af, cf, by go_num, by omega, rfl, HS6.out, HOKB.out, by rw [HTN.out]; exact hp, by rw [HTN.out]; exact ha⟩))
        · have hlt' : ¬ (k : Int) < (ns.length : Int) := by omega
          have hke : k = ns.length := by omega
          have hsm := put_same HPUT.out HALL.out HPUT2.out HALL2.out (by intro y; rw [hke]; exact turnd_all t h0 y)
          have HSAME := Lib.hid hsm
          have hlen : lb.length = la.length := by rw [← len_nmE lb, ← hsm, len_nmE]
          have HLEN := Lib.hid hlen
          have hri := HPUT.out.up
          clear hke hsm hlen
          have HNA := Lib.hid (show ∀ X, OS w2 X w2.heap.size (w2.heap.size + 1) (.slice Aa 0 ca) (.slice Ae la.length ce) (.slice Ab 0 cb) (.slice Af lb.length cf) la lb → Calls Try.prog 19 #[.agg (dirC (.slice Aa 0 ca) (.slice Ae la.length ce))] X fun e w' => ∃ A c, e = .returned (.slice A la.length c) ∧ StrsR w' (.slice A la.length c) (nmA (nmE la)) ∧ Below X.heap.size X w' from fun X h => names_at h.nba hri (by show la.length ≤ 12; omega))
          have HNB := Lib.hid (show ∀ X, OS w2 X w2.heap.size (w2.heap.size + 1) (.slice Aa 0 ca) (.slice Ae la.length ce) (.slice Ab 0 cb) (.slice Af lb.length cf) la lb → Calls Try.prog 19 #[.agg (dirC (.slice Ab 0 cb) (.slice Af lb.length cf))] X fun e w' => ∃ A c, e = .returned (.slice A lb.length c) ∧ StrsR w' (.slice A lb.length c) (nmA (nmE lb)) ∧ Below X.heap.size X w' from fun X h => names_at h.nbb (by show rise (nmE lb); rw [← HSAME.out]; exact hri) (by show lb.length ≤ 12; omega))
          have HSZ := Lib.hid (show ∀ X, OS w2 X w2.heap.size (w2.heap.size + 1) (.slice Aa 0 ca) (.slice Ae la.length ce) (.slice Ab 0 cb) (.slice Af lb.length cf) la lb → Calls Try.prog 18 #[.agg (dirC (.slice Aa 0 ca) (.slice Ae la.length ce))] X fun e w' => e = .returned (.int .i64 (la.length : Int)) ∧ Below X.heap.size X w' from fun X h => size_at h.nba (few_dir HOK.out hl8a) rfl)
          have HRI := Lib.hid (show ∀ X, OS w2 X w2.heap.size (w2.heap.size + 1) (.slice Aa 0 ca) (.slice Ae la.length ce) (.slice Ab 0 cb) (.slice Af lb.length cf) la lb → Calls Try.prog 15 #[.agg (dirC (.slice Aa 0 ca) (.slice Ae la.length ce))] X fun e w' => e = .returned (.bool true) ∧ Below X.heap.size X w' from fun X h => right_at h.nba (few_dir HOK.out hl8a) (toB_true (right_dirN HOK.out hri hl8a)))
          have HADJ := Lib.hid (adj_rise hri)
          clear hri
          obtain ⟨d0, d1, d2, d3, d4, d5, d6⟩ := HS.out.blka.c7
          go_wp2_with fail
          refine (HNA.out wr HS.out).mono ?_
          rintro e w5 ⟨A5, c5, rfl, hs5, hb5⟩
          have HS5 := Lib.hid (HS.out.later hb5)
          have HL5 := Lib.hid hs5
          clear d0 d1 d2 d3 d4 d5 d6 hs5 hb5 HS
          go_wp2
          go_loopg [17] (la.length - 1) (fun g s17 wq => ∃ k : Nat, s17 = .int .i64 k ∧ 1 ≤ k ∧ g = la.length - k ∧ Below w5.heap.size w5 wq)
          case atStart => exact ⟨1, rfl, Nat.le_refl _, rfl, Below.refl _ _⟩
          case round =>
            obtain ⟨k, rfl, hk, rfl, hbq⟩ := hrel
            have HBQ := Lib.hid hbq
            clear hbq
            by_cases hlt : k < la.length
            · have hlt' : (k : Int) < (la.length : Int) := by omega
              obtain ⟨j, hj⟩ : ∃ j, j = k - 1 := ⟨_, rfl⟩
              obtain ⟨x, hx⟩ : ∃ x, (nmE la)[k]? = some x := ⟨_, List.getElem?_eq_getElem (by rw [len_nmE]; exact hlt)⟩
              obtain ⟨y, hy⟩ : ∃ y, (nmE la)[j]? = some y := ⟨_, List.getElem?_eq_getElem (by rw [len_nmE]; omega)⟩
              obtain ⟨ad, hA, c0⟩ := strs_get (HL5.out.below HBQ.out) (nmA_at hx)
              subst hA
              obtain ⟨ad', hA', c1⟩ := strs_get (HL5.out.below HBQ.out) (nmA_at hy)
              injection hA' with hA'
              subst hA'
              have hl := HADJ.out j y x hy (by rw [show j + 1 = k by omega]; exact hx)
              have hlt2 : Op.bytesLess (bA y).toList (bA x).toList = true := by rw [bA_list, bA_list]; exact hl
              have kj1 : (k : Int) - 1 = (j : Int) := by omega
              have kj2 : IntKind.i64.wrap ((k : Int) - 1) = (j : Int) := by rw [IntKind.wrap_i64]; omega
              have kj5 : IntKind.i64.wrap (j : Int) = (j : Int) := by rw [IntKind.wrap_i64]; omega
              have kj3 : (j : Int) < (la.length : Int) := by omega
              have kj4 : j < la.length := by omega
              clear hj hx hy hl
              go_wp2
              go_quiet (fail)
              go_wp2
              go_roundg (la.length - (k + 1))
              case measure => omega
              case rel => exact ⟨k + 1, by go_num, by omega, rfl, bdN HBQ.out _⟩
            · have hlt' : ¬ (k : Int) < (la.length : Int) := by omega
              have HSQ := Lib.hid (HS5.out.later HBQ.out)
              have HLQ := Lib.hid (HL5.out.below HBQ.out)
              have z0 : ((la.length : Int) == (la.length : Int)) = true := by simp
              obtain ⟨d0, d1, d2, d3, d4, d5, d6⟩ := HSQ.out.blka.c7
              go_wp2_with fail
              refine (HSZ.out _ HSQ.out).mono ?_
              rintro e w6 ⟨rfl, hb6⟩
              have HS6 := Lib.hid (HSQ.out.later hb6)
              have HL6 := Lib.hid (HLQ.out.below hb6)
              clear hb6 d0 d1 d2 d3 d4 d5 d6 HSQ HLQ HS5 HL5
              obtain ⟨r0, r1, r2, r3, r4, r5, r6⟩ := HS6.out.blkb.c7
              go_wp2_with fail
              refine (HNB.out _ HS6.out).mono ?_
              rintro e w7 ⟨A7, c7, rfl, hs7, hb7⟩
              have HS7 := Lib.hid (HS6.out.later hb7)
              have HL7 := Lib.hid (HL6.out.below hb7)
              have HM7 := Lib.hid (show StrsR w7 (.slice A7 lb.length c7) (nmA (nmE la)) by rw [HSAME.out]; exact hs7)
              clear hs7 hb7 r0 r1 r2 r3 r4 r5 r6 HS6 HL6
              go_wp2_with fail
              refine (same_true _ _ (nmA (nmE la)) _ HL7.out HM7.out (by rw [nm_lenO]; omega)).mono ?_
              rintro e w8 ⟨rfl, hb8⟩
              have HS8 := Lib.hid (HS7.out.later hb8)
              clear hb8 HS7 HL7 HM7
              obtain ⟨d0, d1, d2, d3, d4, d5, d6⟩ := HS8.out.blka.c7
              go_wp2_with fail
              refine (HRI.out _ HS8.out).mono ?_
              rintro e w9 ⟨rfl, hb9⟩
              have HS9 := Lib.hid (HS8.out.later hb9)
              clear hb9 d0 d1 d2 d3 d4 d5 d6
              go_wp2
              go_ret
              exact ⟨rfl, bt HS9.out.below HB2.out⟩


end Go.Proofs.Ytibmnafnandodaa

