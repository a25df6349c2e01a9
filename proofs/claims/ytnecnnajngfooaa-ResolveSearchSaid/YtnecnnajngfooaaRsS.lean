/-
  The walk of ResolveSearch: it answers true of whatever is told, of any who ask, of any path. The condition: what is told is no longer than a machine can hold.
-/
import Derived.Test.YtnecnnajngfooaaRsK
import Derived.Test.YtnecnnajngfooaaRsN
import Derived.Deep.RegionHeld3
namespace Go.Proofs.Ytnecnnajngfooaa
open Go Go.RowKit
set_option maxRecDepth 100000

attribute [local go_sem] cell_off4 cell_blk4
theorem isB_trx {m : Int} {l : List Rw} {c : Wh} {T : List Nd} (h : isB m l c T) : Trx T := (tre_all h.2).1
theorem isB_crr {m : Int} {l : List Rw} {c : Wh} {T : List Nd} {A0 : Option Addr} {n0 k0 : Nat} {W : World} (h : isB m l c T) (hi : IntsR W (.slice A0 n0 k0) c.gs) : CrR W c A0 n0 k0 := ⟨hi, by have := h.1.2; omega⟩
theorem eq_bA {p : Nm} : (bA p).toList = p := bA_list p
set_option maxHeartbeats 8000000 in
theorem search_any (x0 : Int) (v1 : Value) (l : List Rw) (c : Wh) (A0 : Option Addr) (n0 k0 : Nat) (s : ByteArray) (f : Bool) (w : World) (h1 : RawsR w v1 l) (hl1 : l.length ≤ maxLen) (h2 : IntsR w (.slice A0 n0 k0) c.gs) :
    Calls Try.prog 7 #[.int .i64 x0, v1, .agg #[.int .i64 c.u, .int .i64 c.g, .slice A0 n0 k0], .string s, .bool f] w fun e w' => e = .returned (.bool true) ∧ Below w.heap.size w w' := by
  have hb0 := ba w (.cells #[.int .i64 c.u, .int .i64 c.g, .slice A0 n0 k0] 87)
  have hk0 := Blk.new w 87 #[.int .i64 c.u, .int .i64 c.g, .slice A0 n0 k0]
  obtain ⟨W1, hW1⟩ : ∃ W1, w.alloc (.cells #[.int .i64 c.u, .int .i64 c.g, .slice A0 n0 k0] 87) = W1 := ⟨_, rfl⟩
  rw [hW1] at hb0 hk0
  have HA := Lib.hid (awake11_any W1)
  have HR := Lib.hid (h1.below hb0)
  have HI := Lib.hid (h2.below hb0)
  have HL := Lib.hid hl1
  have HB0 := Lib.hid hb0
  have HK0 := Lib.hid hk0
  clear h1 h2 hl1 hb0 hk0
  go_enter Try.func7, Try.ntmps7
  go_wp2_with fail
  clear hW1
  refine HA.out.mono ?_
  rintro e w2 ⟨rfl, hb2⟩
  have hk2 := HK0.out.below hb2
  have HB2 := Lib.hid (bt hb2 HB0.out)
  have HK2 := Lib.hid hk2
  have HI2 := Lib.hid (HI.out.below hb2)
  have HBL := Lib.hid (built_any x0 v1 l c A0 n0 k0 w2 (HR.out.below hb2) HL.out HI2.out)
  obtain ⟨k0', k1, k2⟩ := hk2.c3
  clear hb2 hk2 HA HK0 HI HR HB0
  go_wp2_with fail
  refine HBL.out.mono ?_
  rintro e w3 ⟨hans, hb3⟩
  have HB3 := Lib.hid (bt hb3 HB2.out)
  have hk3 := HK2.out.below hb3
  have HI3 := Lib.hid (HI2.out.below hb3)
  clear k0' k1 k2 hb3 HBL
  rcases hans with ⟨rfl, -⟩ | ⟨g, T, rfl, hB, hT⟩
  · clear hk3
    go_wp2
    go_ret
    exact ⟨rfl, HB3.out⟩
  have HT3 := Lib.hid hT.ptr
  have HTR := Lib.hid (isB_trx hB)
  have HCR3 := Lib.hid (isB_crr hB HI3.out)
  have HK3 := Lib.hid hk3
  obtain ⟨k0', k1, k2⟩ := hk3.c3
  clear hT hB hk3 HK2 HI2 HB2
  by_cases h100 : 100 < s.size
  · have y100 : (s.size : Int) > 100 := by omega
    clear h100
    go_wp2
    go_ret
    exact ⟨rfl, HB3.out⟩
  have y100 : ¬ (s.size : Int) > 100 := by omega
  clear h100
  obtain ⟨X, hX⟩ : ∃ X, resM T c (tl s) f = X := ⟨_, rfl⟩
  obtain ⟨F, E⟩ := X
  have HX := Lib.hid (show Calls Try.prog 50 #[.pointer (some ⟨g, 0, none⟩), .agg #[.int .i64 c.u, .int .i64 c.g, .slice A0 n0 k0], .string s, .bool f] w3 fun e w' => e = .returned (.tuple #[.agg #[.int .i64 F.dir, .string (bA F.name), .int .i64 F.node], .int .i64 E]) ∧ Below w3.heap.size w3 w' from by have h1 := resolve_any _ T c A0 n0 k0 (tl s) f w3 HT3.out HCR3.out (F, E) hX; rw [bA_tl] at h1; exact h1)
  have HEQ := Lib.hid hX
  clear hX
  go_wp2_with fail
  refine HX.out.mono ?_
  rintro e w4 ⟨rfl, hb4⟩
  have hbx := al hb4 (.cells #[.int .i64 F.dir, .string (bA F.name), .int .i64 F.node] 91)
  have HB4 := Lib.hid (bt hbx HB3.out)
  have HT4 := Lib.hid (HT3.out.below hbx)
  have HCR4 := Lib.hid (HCR3.out.ints.below hbx)
  have hk4 := HK3.out.below hbx
  have hf4 := Blk.new w4 91 #[.int .i64 F.dir, .string (bA F.name), .int .i64 F.node]
  obtain ⟨y, hy⟩ : ∃ y, w4.heap.size = y := ⟨_, rfl⟩
  obtain ⟨W4, hW4⟩ : ∃ W4, w4.alloc (.cells #[.int .i64 F.dir, .string (bA F.name), .int .i64 F.node] 91) = W4 := ⟨_, rfl⟩
  rw [hW4] at HB4 HT4 HCR4 hk4 hf4
  rw [hy] at hf4
  have HK4 := Lib.hid hk4
  have HF4 := Lib.hid hf4
  clear k0' k1 k2 hb4 hbx HX HK3 HI3 HB3
  obtain ⟨k0', k1, k2⟩ := hk4.c3
  obtain ⟨b0, b1, b2⟩ := hf4.c3
  clear hk4 hf4
  by_cases qE : E = 0
  · have qE1 : (E != 0) = false := by simpa using qE
    have HS := Lib.hid (show Srd T c f F from by have h := res_srd HTR.out c (tl s) f (by rw [HEQ.out]; exact qE); rw [HEQ.out] at h; exact h)
    have HG := Lib.hid (get_any _ T F.dir W4 HT4.out)
    have HD2 := Lib.hid HS.out.kind
    have his : tis T F.dir = true := kind_tis HS.out.kind
    rw [his] at HG
    obtain ⟨n1, hn1⟩ : ∃ n1, tget T F.dir = n1 := ⟨_, rfl⟩
    rw [hn1] at HG HD2
    have HN1 := Lib.hid hn1
    unfold nodeV at HG
    clear qE his hn1 HEQ
    go_wp2_with fail
    refine HG.out.mono ?_
    rintro e w5 ⟨vd, ve, rfl, hd5, he5, -, -, hb5⟩
    obtain ⟨A5, k5, rfl⟩ := bytesT_form hd5
    obtain ⟨A6, k6, rfl⟩ := entsT_form he5
    have hbx := al hb5 (.cells (ndC n1 (.slice A5 n1.data.length k5) (.slice A6 n1.ents.length k6)) 39)
    have hbw := ba w5 (.cells (ndC n1 (.slice A5 n1.data.length k5) (.slice A6 n1.ents.length k6)) 39)
    have HB6 := Lib.hid (bt hbx HB4.out)
    have HT6 := Lib.hid (HT4.out.below hbx)
    have HCR6 := Lib.hid (HCR4.out.below hbx)
    have HCRR := Lib.hid (HCR3.out.few)
    have hk6 := HK4.out.below hbx
    have hf6 := HF4.out.below hbx
    have hn6 := Blk.new w5 39 (ndC n1 (.slice A5 n1.data.length k5) (.slice A6 n1.ents.length k6))
    have HD6 := Lib.hid (hd5.1.below hbw)
    have HE6 := Lib.hid (he5.1.below hbw)
    obtain ⟨z, hz⟩ : ∃ z, w5.heap.size = z := ⟨_, rfl⟩
    obtain ⟨W6, hW6⟩ : ∃ W6, w5.alloc (.cells (ndC n1 (.slice A5 n1.data.length k5) (.slice A6 n1.ents.length k6)) 39) = W6 := ⟨_, rfl⟩
    rw [hW6] at HB6 HT6 HCR6 hk6 hf6 hn6 HD6 HE6
    rw [hz] at hn6
    have HK6 := Lib.hid hk6
    have HF6 := Lib.hid hf6
    clear k0' k1 k2 b0 b1 b2 hd5 he5 hb5 hbx hbw HG HK4 HF4 HB4 HT4 HCR4
    by_cases qn : F.name = []
    · have e1 : ((bA F.name).toList == ([] : List UInt8)) = true := (len0_iff _).2 qn
      have e2 : (F.dir != F.node) = false := by simpa using HS.out.self qn
      have HQN := Lib.hid qn
      obtain ⟨b0, b1, b2⟩ := hf6.c3
      have HP := Lib.hid (parent_any _ T F.dir W6 HT6.out)
      clear qn hk6 hf6 hn6
      go_wp2_with fail
      refine HP.out.mono ?_
      rintro e w9 ⟨rfl, hb9⟩
      have HT9 := Lib.hid (HT6.out.below hb9)
      have HCR9 := Lib.hid (HCR6.out.below hb9)
      have HK9 := Lib.hid (HK6.out.below hb9)
      have HF9 := Lib.hid (HF6.out.below hb9)
      have HB9 := Lib.hid (bt hb9 HB6.out)
      clear hb9 b0 b1 b2
      go_wp2
      go_loopg [18, 19] 24 (fun gh s18 s19 wr => ∃ k : Nat, s19 = .int .i64 k ∧ s18 = .int .i64 (itr (parF T) (k + 1) F.dir) ∧ k ≤ 24 ∧ gh = 24 - k ∧ Below w9.heap.size w9 wr)
      case atStart => exact ⟨0, rfl, rfl, Nat.zero_le _, rfl, Below.refl _ _⟩
      case round =>
        obtain ⟨k, rfl, rfl, hk, rfl, hbr⟩ := hrel
        have HBR := Lib.hid hbr
        have HTr := Lib.hid (HT9.out.below hbr)
        have hkr := HK9.out.below hbr
        have hfr := HF9.out.below hbr
        have HFr := Lib.hid hfr
        obtain ⟨I, hI⟩ : ∃ I, itr (parF T) (k + 1) F.dir = I := ⟨_, rfl⟩
        have HII := Lib.hid hI
        rw [hI]
        obtain ⟨k0', k1, k2⟩ := hkr.c3
        obtain ⟨b0, b1, b2⟩ := hfr.c3
        have HG := Lib.hid (get_any _ T F.node wr HTr.out)
        obtain ⟨n2, hn2⟩ : ∃ n2, tget T F.node = n2 := ⟨_, rfl⟩
        rw [hn2] at HG
        have HN2 := Lib.hid hn2
        unfold nodeV at HG
        clear hbr hkr hfr hI hn2
        by_cases hlt : k < 24
        · have hlt' : (k : Int) < 24 := by omega
          by_cases qI : I = 0
          · have eI : (I != 0) = false := by simpa using qI
            have eI2 : (I == 0) = true := by simpa using qI
            clear qI
            go_wp2_with fail
            refine HG.out.mono ?_
            rintro e w12 ⟨vd, ve, rfl, hd12, he12, -, -, hb12⟩
            obtain ⟨A7, k7, rfl⟩ := bytesT_form hd12
            obtain ⟨A8, k8, rfl⟩ := entsT_form he12
            have hbx := al hb12 (.cells (ndC n2 (.slice A7 n2.data.length k7) (.slice A8 n2.ents.length k8)) 39)
            have HB12 := Lib.hid (bt hbx (bt HBR.out HB9.out))
            have hf12 := HFr.out.below hbx
            clear k0' k1 k2 b0 b1 b2 hd12 he12 hb12 hbx
            obtain ⟨b0, b1, b2⟩ := hf12.c3
            clear hf12
            cases f with
            | false =>
              go_wp2
              go_ret
              exact ⟨rfl, HB12.out⟩
            | true =>
              by_cases q3 : n2.kind = 3
              · have e3 : (n2.kind != 3) = false := by simpa using q3
                clear q3
                go_wp2
                go_ret
                exact ⟨rfl, HB12.out⟩
              · have e3 : (n2.kind != 3) = true := by simpa using q3
                clear q3
                go_wp2
                go_ret
                exact ⟨rfl, HB12.out⟩
          · have eI : (I != 0) = true := by simpa using qI
            have HC2 := Lib.hid (rescan_any _ T c A0 n0 k0 I 1 wr HTr.out ⟨HCR9.out.below HBR.out, HCRR.out⟩)
            rw [show canT T c I 1 = true from by rw [← HII.out]; exact HS.out.chain (k + 1) (by omega) (by rw [HII.out]; exact qI)] at HC2
            clear qI HG
            go_wp2_with fail
            refine HC2.out.mono ?_
            rintro e w10 ⟨rfl, hb10⟩
            have HP2 := Lib.hid (parent_any _ T I w10 (HTr.out.below hb10))
            have HB10 := Lib.hid (bt hb10 HBR.out)
            clear hb10 k0' k1 k2 b0 b1 b2
            go_wp2_with fail
            refine HP2.out.mono ?_
            rintro e w11 ⟨rfl, hb11⟩
            have HB11 := Lib.hid (bt hb11 HB10.out)
            clear hb11
            go_wp2
            go_roundg (24 - (k + 1))
            case measure => omega
            case rel => exact ⟨k + 1, by go_num, by rw [itr_succ (parF T) (k + 1) F.dir, HII.out]; rfl, by omega, rfl, HB11.out⟩
        · have hlt' : ¬ (k : Int) < 24 := by omega
          have eI2 : (I == 0) = true := by
            have h := itr_25 HTR.out HS.out.kind
            have hk24 : k = 24 := by omega
            have h2 := HII.out
            rw [hk24, h] at h2
            rw [← h2]; rfl
          go_wp2_with fail
          refine HG.out.mono ?_
          rintro e w12 ⟨vd, ve, rfl, hd12, he12, -, -, hb12⟩
          obtain ⟨A7, k7, rfl⟩ := bytesT_form hd12
          obtain ⟨A8, k8, rfl⟩ := entsT_form he12
          have hbx := al hb12 (.cells (ndC n2 (.slice A7 n2.data.length k7) (.slice A8 n2.ents.length k8)) 39)
          have HB12 := Lib.hid (bt hbx (bt HBR.out HB9.out))
          have hf12 := HFr.out.below hbx
          clear k0' k1 k2 b0 b1 b2 hd12 he12 hb12 hbx
          obtain ⟨b0, b1, b2⟩ := hf12.c3
          clear hf12
          cases f with
          | false =>
            go_wp2
            go_ret
            exact ⟨rfl, HB12.out⟩
          | true =>
            by_cases q3 : n2.kind = 3
            · have e3 : (n2.kind != 3) = false := by simpa using q3
              clear q3
              go_wp2
              go_ret
              exact ⟨rfl, HB12.out⟩
            · have e3 : (n2.kind != 3) = true := by simpa using q3
              clear q3
              go_wp2
              go_ret
              exact ⟨rfl, HB12.out⟩
    · have e1 : ((bA F.name).toList == ([] : List UInt8)) = false := ne_nil_of _ qn
      have HQN := Lib.hid qn
      obtain ⟨hc1, hc2⟩ := HS.out.found qn
      have HC1 := Lib.hid (fun W (hb : Below W6.heap.size W6 W) => rescan_any _ T c A0 n0 k0 F.dir 1 W (HT6.out.below hb) ⟨HCR6.out.below hb, HCRR.out⟩)
      rw [hc1] at HC1
      have HFEW := Lib.hid (show n1.ents.length ≤ 1000 from by rw [← HN1.out]; have := (ok_few HT6.out.ok.1 F.dir).ents; omega)
      have HFD := Lib.hid (fun W (hb : Below W6.heap.size W6 W) => find_any n1 _ _ F.name W (HD6.out.below hb) (HE6.out.below hb) HFEW.out)
      rw [HN1.out] at hc2
      rw [hc2] at HFD
      unfold nodeV at HFD
      have eK : (n1.kind != 2) = false := by simpa using HD2.out
      have eF : (F.node != F.node) = false := by simp
      obtain ⟨n0', n1', n2', n3', n4', n5', n6'⟩ := hn6.c7
      obtain ⟨k0', k1, k2⟩ := hk6.c3
      obtain ⟨b0, b1, b2⟩ := hf6.c3
      go_upto_region 16 with fail
      have hs0 : W6.drew.cell? ⟨z, 0, none⟩ = some (.int .i64 n1.kind) := n0'
      have hs1 : W6.drew.cell? ⟨z, 1, none⟩ = some (.int .i64 n1.mode) := n1'
      have hs2 : W6.drew.cell? ⟨z, 2, none⟩ = some (.int .i64 n1.uid) := n2'
      have hs3 : W6.drew.cell? ⟨z, 3, none⟩ = some (.int .i64 n1.gid) := n3'
      have hs4 : W6.drew.cell? ⟨z, 4, none⟩ = some (.slice A5 n1.data.length k5) := n4'
      have hs5 : W6.drew.cell? ⟨z, 5, none⟩ = some (.slice A6 n1.ents.length k6) := n5'
      have hs6 : W6.drew.cell? ⟨z, 6, none⟩ = some (.string (bA n1.target)) := n6'
      have hs7 : W6.drew.cell? ⟨w.heap.size, 0, none⟩ = some (.int .i64 c.u) := k0'
      have hs8 : W6.drew.cell? ⟨w.heap.size, 1, none⟩ = some (.int .i64 c.g) := k1
      have hs9 : W6.drew.cell? ⟨w.heap.size, 2, none⟩ = some (.slice A0 n0 k0) := k2
      have hs10 : W6.drew.cell? ⟨y, 0, none⟩ = some (.int .i64 F.dir) := b0
      have hs11 : W6.drew.cell? ⟨y, 1, none⟩ = some (.string (bA F.name)) := b1
      have hs12 : W6.drew.cell? ⟨y, 2, none⟩ = some (.int .i64 F.node) := b2
      have hs13 : Below W6.heap.size W6 W6.drew := (Below.refl _ _).drew
      clear qn hc1 hc2 n0' n1' n2' n3' n4' n5' n6' k0' k1 k2 b0 b1 b2 hk6 hf6 hn6
      go_region_held3 (fun w' => w'.cell? ⟨z, 0, none⟩ = some (.int .i64 n1.kind) ∧ w'.cell? ⟨z, 1, none⟩ = some (.int .i64 n1.mode) ∧ w'.cell? ⟨z, 2, none⟩ = some (.int .i64 n1.uid) ∧ w'.cell? ⟨z, 3, none⟩ = some (.int .i64 n1.gid) ∧ w'.cell? ⟨z, 4, none⟩ = some (.slice A5 n1.data.length k5) ∧ w'.cell? ⟨z, 5, none⟩ = some (.slice A6 n1.ents.length k6) ∧ w'.cell? ⟨z, 6, none⟩ = some (.string (bA n1.target)) ∧ w'.cell? ⟨w.heap.size, 0, none⟩ = some (.int .i64 c.u) ∧ w'.cell? ⟨w.heap.size, 1, none⟩ = some (.int .i64 c.g) ∧ w'.cell? ⟨w.heap.size, 2, none⟩ = some (.slice A0 n0 k0) ∧ w'.cell? ⟨y, 0, none⟩ = some (.int .i64 F.dir) ∧ w'.cell? ⟨y, 1, none⟩ = some (.string (bA F.name)) ∧ w'.cell? ⟨y, 2, none⟩ = some (.int .i64 F.node) ∧ Below W6.heap.size W6 w')
        (first | exact ⟨hs0, hs1, hs2, hs3, hs4, hs5, hs6, hs7, hs8, hs9, hs10, hs11, hs12, hs13⟩ | exact ⟨bc h1 (hs0), bc h1 (hs1), bc h1 (hs2), bc h1 (hs3), bc h1 (hs4), bc h1 (hs5), bc h1 (hs6), bc h1 (hs7), bc h1 (hs8), bc h1 (hs9), bc h1 (hs10), bc h1 (hs11), bc h1 (hs12), bt h1 (hs13)⟩ | exact ⟨bc h2 (bc h1 (hs0)), bc h2 (bc h1 (hs1)), bc h2 (bc h1 (hs2)), bc h2 (bc h1 (hs3)), bc h2 (bc h1 (hs4)), bc h2 (bc h1 (hs5)), bc h2 (bc h1 (hs6)), bc h2 (bc h1 (hs7)), bc h2 (bc h1 (hs8)), bc h2 (bc h1 (hs9)), bc h2 (bc h1 (hs10)), bc h2 (bc h1 (hs11)), bc h2 (bc h1 (hs12)), bt h2 (bt h1 (hs13))⟩)
        (first | (go_at_call 51; (with_reducible refine (HC1.out _ hs13).mono ?_); rintro e1 w7 ⟨rfl, h1⟩) | (go_at_call 52; (with_reducible refine (HFD.out _ (bt h1 hs13)).mono ?_); rintro e2 w8 ⟨rfl, h2⟩))
      have hb7 := bt h2 (bt h1 hs13)
      have HT7 := Lib.hid (HT6.out.below hb7)
      have HCR7 := Lib.hid (HCR6.out.below hb7)
      have HK7 := Lib.hid (HK6.out.below hb7)
      have hf7 := HF6.out.below hb7
      have HF7 := Lib.hid hf7
      have HB7 := Lib.hid (bt hb7 HB6.out)
      obtain ⟨b0, b1, b2⟩ := hf7.c3
      have HP := Lib.hid (parent_any _ T F.dir w8 HT7.out)
      clear hb7 hf7 h1 h2 hs0 hs1 hs2 hs3 hs4 hs5 hs6 hs7 hs8 hs9 hs10 hs11 hs12 hs13
      go_wp2_with fail
      refine HP.out.mono ?_
      rintro e w9 ⟨rfl, hb9⟩
      have HT9 := Lib.hid (HT7.out.below hb9)
      have HCR9 := Lib.hid (HCR7.out.below hb9)
      have HK9 := Lib.hid (HK7.out.below hb9)
      have HF9 := Lib.hid (HF7.out.below hb9)
      have HB9 := Lib.hid (bt hb9 HB7.out)
      clear hb9 b0 b1 b2
      go_wp2
      go_loopg [18, 19] 24 (fun gh s18 s19 wr => ∃ k : Nat, s19 = .int .i64 k ∧ s18 = .int .i64 (itr (parF T) (k + 1) F.dir) ∧ k ≤ 24 ∧ gh = 24 - k ∧ Below w9.heap.size w9 wr)
      case atStart => exact ⟨0, rfl, rfl, Nat.zero_le _, rfl, Below.refl _ _⟩
      case round =>
        obtain ⟨k, rfl, rfl, hk, rfl, hbr⟩ := hrel
        have HBR := Lib.hid hbr
        have HTr := Lib.hid (HT9.out.below hbr)
        have hkr := HK9.out.below hbr
        have hfr := HF9.out.below hbr
        have HFr := Lib.hid hfr
        obtain ⟨I, hI⟩ : ∃ I, itr (parF T) (k + 1) F.dir = I := ⟨_, rfl⟩
        have HII := Lib.hid hI
        rw [hI]
        obtain ⟨k0', k1, k2⟩ := hkr.c3
        obtain ⟨b0, b1, b2⟩ := hfr.c3
        have HG := Lib.hid (get_any _ T F.node wr HTr.out)
        obtain ⟨n2, hn2⟩ : ∃ n2, tget T F.node = n2 := ⟨_, rfl⟩
        rw [hn2] at HG
        have HN2 := Lib.hid hn2
        unfold nodeV at HG
        clear hbr hkr hfr hI hn2
        by_cases hlt : k < 24
        · have hlt' : (k : Int) < 24 := by omega
          by_cases qI : I = 0
          · have eI : (I != 0) = false := by simpa using qI
            have eI2 : (I == 0) = true := by simpa using qI
            clear qI
            go_wp2_with fail
            refine HG.out.mono ?_
            rintro e w12 ⟨vd, ve, rfl, hd12, he12, -, -, hb12⟩
            obtain ⟨A7, k7, rfl⟩ := bytesT_form hd12
            obtain ⟨A8, k8, rfl⟩ := entsT_form he12
            have hbx := al hb12 (.cells (ndC n2 (.slice A7 n2.data.length k7) (.slice A8 n2.ents.length k8)) 39)
            have HB12 := Lib.hid (bt hbx (bt HBR.out HB9.out))
            have hf12 := HFr.out.below hbx
            clear k0' k1 k2 b0 b1 b2 hd12 he12 hb12 hbx
            obtain ⟨b0, b1, b2⟩ := hf12.c3
            clear hf12
            cases f with
            | false =>
              go_wp2
              go_ret
              exact ⟨rfl, HB12.out⟩
            | true =>
              have e3 : (n2.kind != 3) = true := by
                rw [bne_iff_ne]
                intro q
                exact HQN.out (HS.out.link rfl (by rw [HN2.out]; exact q))
              go_wp2
              go_ret
              exact ⟨rfl, HB12.out⟩
          · have eI : (I != 0) = true := by simpa using qI
            have HC2 := Lib.hid (rescan_any _ T c A0 n0 k0 I 1 wr HTr.out ⟨HCR9.out.below HBR.out, HCRR.out⟩)
            rw [show canT T c I 1 = true from by rw [← HII.out]; exact HS.out.chain (k + 1) (by omega) (by rw [HII.out]; exact qI)] at HC2
            clear qI HG
            go_wp2_with fail
            refine HC2.out.mono ?_
            rintro e w10 ⟨rfl, hb10⟩
            have HP2 := Lib.hid (parent_any _ T I w10 (HTr.out.below hb10))
            have HB10 := Lib.hid (bt hb10 HBR.out)
            clear hb10 k0' k1 k2 b0 b1 b2
            go_wp2_with fail
            refine HP2.out.mono ?_
            rintro e w11 ⟨rfl, hb11⟩
            have HB11 := Lib.hid (bt hb11 HB10.out)
            clear hb11
            go_wp2
            go_roundg (24 - (k + 1))
            case measure => omega
            case rel => exact ⟨k + 1, by go_num, by rw [itr_succ (parF T) (k + 1) F.dir, HII.out]; rfl, by omega, rfl, HB11.out⟩
        · have hlt' : ¬ (k : Int) < 24 := by omega
          have eI2 : (I == 0) = true := by
            have h := itr_25 HTR.out HS.out.kind
            have hk24 : k = 24 := by omega
            have h2 := HII.out
            rw [hk24, h] at h2
            rw [← h2]; rfl
          go_wp2_with fail
          refine HG.out.mono ?_
          rintro e w12 ⟨vd, ve, rfl, hd12, he12, -, -, hb12⟩
          obtain ⟨A7, k7, rfl⟩ := bytesT_form hd12
          obtain ⟨A8, k8, rfl⟩ := entsT_form he12
          have hbx := al hb12 (.cells (ndC n2 (.slice A7 n2.data.length k7) (.slice A8 n2.ents.length k8)) 39)
          have HB12 := Lib.hid (bt hbx (bt HBR.out HB9.out))
          have hf12 := HFr.out.below hbx
          clear k0' k1 k2 b0 b1 b2 hd12 he12 hb12 hbx
          obtain ⟨b0, b1, b2⟩ := hf12.c3
          clear hf12
          cases f with
          | false =>
            go_wp2
            go_ret
            exact ⟨rfl, HB12.out⟩
          | true =>
            have e3 : (n2.kind != 3) = true := by
              rw [bne_iff_ne]
              intro q
              exact HQN.out (HS.out.link rfl (by rw [HN2.out]; exact q))
            go_wp2
            go_ret
            exact ⟨rfl, HB12.out⟩
  · have qE1 : (E != 0) = true := by simpa using qE
    have hz0 : F = Fo.zero := by have h := res_err T c (tl s) f (by rw [HEQ.out]; exact qE); rw [HEQ.out] at h; exact h
    subst hz0
    have z0 : W4.cell? ⟨y, 0, none⟩ = some (.int .i64 0) := b0
    have z1 : W4.cell? ⟨y, 1, none⟩ = some (.string ⟨#[]⟩) := b1
    have z2 : W4.cell? ⟨y, 2, none⟩ = some (.int .i64 0) := b2
    clear qE b0 b1 b2
    go_wp2
    go_ret
    exact ⟨rfl, HB4.out⟩
end Go.Proofs.Ytnecnnajngfooaa
