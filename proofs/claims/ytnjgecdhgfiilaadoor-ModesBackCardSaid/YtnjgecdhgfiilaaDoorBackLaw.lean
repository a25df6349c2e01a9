/-
  ModesBack, proved: for every kind and mode the call returns true and the arguments read as they did; the package's table of signs starts as the program's text lays it (the card ties it).
-/
import Derived.Test.YtnjgecdhgfiilaaDoorRow
import Derived.Test.YtnjgecdhgfiilaaDoorMath
namespace Go.Proofs.YtnjgecdhgfiilaaDoor
open Go Go.ChangeShapes Go.WideShapes Go.ChangeAt Go.RowKit

theorem back_u8 {n : Int} (h : (Lit.int .u8 n).wf = true) : 0 ≤ n ∧ n ≤ 255 := by simpa [Lit.wf, IntKind.min, IntKind.max, IntKind.signed, IntKind.bits] using h
theorem back_u16 {n : Int} (h : (Lit.int .u16 n).wf = true) : 0 ≤ n ∧ n ≤ 65535 := by simpa [Lit.wf, IntKind.min, IntKind.max, IntKind.signed, IntKind.bits] using h

theorem read_back (k m : Int) (w : World) (hS : SignsAt w) (k0 : 0 ≤ k) (k1 : k ≤ 3) (m0 : 0 ≤ m) (m1 : m ≤ 4095) : Calls Tryd.prog 12 #[.string (sh k m)] w fun e w' => e = .returned (.tuple #[.int .i64 k, .int .i64 m, .bool true]) ∧ Below w.heap.size w w' := by
  have h := read_yes _ _ _ _ _ _ _ _ _ _ k w hS (rdk_back k k0 k1) k0 (by rw [rdm_back m m0 m1]; exact sh_bytes k m)
  rw [rdm_back m m0 m1, ← sh_bytes k m] at h
  exact h
theorem sh_size (k m : Int) : (sh k m).size = 10 := by rw [sh_bytes]; rfl
theorem oct_size (m : Int) : (str (oct m)).size = 4 := by simp [str, oct, ByteArray.size]

set_option maxRecDepth 10000 in
theorem ro4 : ∀ a b c d : Fin 8, (roN ⟨#[UInt8.ofNat (48 + (a.val : Int)).toNat, UInt8.ofNat (48 + (b.val : Int)).toNat, UInt8.ofNat (48 + (c.val : Int)).toNat, UInt8.ofNat (48 + (d.val : Int)).toNat]⟩ = (a.val : Int) * 512 + (b.val : Int) * 64 + (c.val : Int) * 8 + (d.val : Int) ∧ roE ⟨#[UInt8.ofNat (48 + (a.val : Int)).toNat, UInt8.ofNat (48 + (b.val : Int)).toNat, UInt8.ofNat (48 + (c.val : Int)).toNat, UInt8.ofNat (48 + (d.val : Int)).toNat]⟩ = 0)
    ∧ roN ⟨#[48, 48, UInt8.ofNat (48 + (a.val : Int)).toNat, UInt8.ofNat (48 + (b.val : Int)).toNat, UInt8.ofNat (48 + (c.val : Int)).toNat, UInt8.ofNat (48 + (d.val : Int)).toNat]⟩ = (a.val : Int) * 512 + (b.val : Int) * 64 + (c.val : Int) * 8 + (d.val : Int) ∧ roE ⟨#[48, 48, UInt8.ofNat (48 + (a.val : Int)).toNat, UInt8.ofNat (48 + (b.val : Int)).toNat, UInt8.ofNat (48 + (c.val : Int)).toNat, UInt8.ofNat (48 + (d.val : Int)).toNat]⟩ = 0 := by decide +kernel
theorem ro_back (m : Int) (m0 : 0 ≤ m) (m1 : m ≤ 4095) : (roN (str (oct m)) = m ∧ roE (str (oct m)) = 0) ∧ roN (⟨#[48, 48]⟩ ++ str (oct m)) = m ∧ roE (⟨#[48, 48]⟩ ++ str (oct m)) = 0 := by
  have h := ro4 ⟨(m / 512 % 8).toNat, by omega⟩ ⟨(m / 64 % 8).toNat, by omega⟩ ⟨(m / 8 % 8).toNat, by omega⟩ ⟨(m % 8).toNat, by omega⟩
  have e1 : ((m / 512 % 8).toNat : Int) = m / 512 % 8 := by omega
  have e2 : ((m / 64 % 8).toNat : Int) = m / 64 % 8 := by omega
  have e3 : ((m / 8 % 8).toNat : Int) = m / 8 % 8 := by omega
  have e4 : ((m % 8).toNat : Int) = m % 8 := by omega
  simp only [e1, e2, e3, e4] at h
  have s1 : str (oct m) = ⟨#[UInt8.ofNat (48 + m / 512 % 8).toNat, UInt8.ofNat (48 + m / 64 % 8).toNat, UInt8.ofNat (48 + m / 8 % 8).toNat, UInt8.ofNat (48 + m % 8).toNat]⟩ := by simp [str, oct]
  have s2 : (⟨#[48, 48]⟩ : ByteArray) ++ str (oct m) = ⟨#[48, 48, UInt8.ofNat (48 + m / 512 % 8).toNat, UInt8.ofNat (48 + m / 64 % 8).toNat, UInt8.ofNat (48 + m / 8 % 8).toNat, UInt8.ofNat (48 + m % 8).toNat]⟩ := by
    rw [s1]; apply ByteArray.ext; simp [ByteArray.data_append]
  rw [s2, s1]
  refine ⟨⟨h.1.1.trans (by omega), h.1.2⟩, h.2.1.trans (by omega), h.2.2⟩

set_option maxHeartbeats 4000000 in
theorem backLaw (kind mode : Int) (w : World) (k0 : 0 ≤ kind) (k1 : kind ≤ 255) (m0 : 0 ≤ mode) (m1 : mode ≤ 65535) (hS : SignsAt w) : Calls Tryd.prog 7 #[.int .u8 kind, .int .u16 mode] w fun e w' => e = .returned (.bool true) ∧ Below w.heap.size w w' := by
  have HS := Lib.hid hS
  clear hS
  have n0 : 0 ≤ mode % 4096 := by omega
  have n1 : mode % 4096 ≤ 4095 := by omega
  have l0 : 0 ≤ kind % 4 := by omega
  have l1 : kind % 4 ≤ 3 := by omega
  obtain ⟨m, hm⟩ : ∃ m, mode % 4096 = m := ⟨_, rfl⟩
  obtain ⟨k, hk⟩ : ∃ k, kind % 4 = k := ⟨_, rfl⟩
  rw [hm] at n0 n1
  rw [hk] at l0 l1
  have hsz := sh_size k m
  have hoz := oct_size m
  have CS := Lib.hid (fun w h => show_any k m w h)
  have CR := Lib.hid (fun w h => read_back k m w h l0 l1 n0 n1)
  have CO := Lib.hid (fun w => octal_any m w)
  have C1 := Lib.hid (fun w => readOctal_any (str (oct m)) w (by rw [hoz]; decide))
  have C2 := Lib.hid (fun w => readOctal_any (⟨#[48, 48]⟩ ++ str (oct m)) w (by rw [ByteArray.size_append, hoz]; decide))
  have hr := ro_back m n0 n1
  rw [hr.1.1, hr.1.2] at C1
  rw [hr.2.1, hr.2.2] at C2
  clear hr
  obtain ⟨S, hSS⟩ : ∃ S, sh k m = S := ⟨_, rfl⟩
  obtain ⟨O, hOO⟩ : ∃ O, str (oct m) = O := ⟨_, rfl⟩
  rw [hSS] at CS CR hsz
  rw [hOO] at CO C1 C2 hoz
  clear hSS hOO
  go_enter Tryd.func7, Tryd.ntmps7
  go_wp2_with fail
  refine (awake_any _ HS.out).mono ?_
  rintro e w1 ⟨rfl, hb⟩
  have B1 := Lib.hid hb
  have S1 := Lib.hid (HS.out.below B1.out HS.out.1)
  clear hb
  go_wp2_with fail
  refine (CS.out _ S1.out).mono ?_
  rintro e w2 ⟨rfl, hb⟩
  have B2 := Lib.hid (B1.out.trans (hb.mono B1.out.size))
  have S2 := Lib.hid (HS.out.below B2.out HS.out.1)
  clear hb
  go_wp2_with fail
  refine (CR.out _ S2.out).mono ?_
  rintro e w3 ⟨rfl, hb⟩
  have B3 := Lib.hid (B2.out.trans (hb.mono B2.out.size))
  clear hb
  go_wp2_with fail
  refine (CO.out _).mono ?_
  rintro e w4 ⟨rfl, hb⟩
  have B4 := Lib.hid (B3.out.trans (hb.mono B3.out.size))
  clear hb
  go_wp2_with fail
  refine (C1.out _).mono ?_
  rintro e w5 ⟨rfl, hb⟩
  have B5 := Lib.hid (B4.out.trans (hb.mono B4.out.size))
  clear hb
  go_wp2_with fail
  refine (C2.out _).mono ?_
  rintro e w6 ⟨rfl, hb⟩
  have B6 := Lib.hid (B5.out.trans (hb.mono B5.out.size))
  have S6 := Lib.hid (HS.out.below B6.out HS.out.1)
  clear hb
  go_wp2_with fail
  refine (CS.out _ S6.out).mono ?_
  rintro e w7 ⟨rfl, hb⟩
  have B7 := Lib.hid (B6.out.trans (hb.mono B6.out.size))
  clear hb
  go_wp2
  go_ret
  exact ⟨rfl, B7.out⟩

theorem backContract (H : Type) (enc : TypeId × Value → H) (W : World) (base : Nat) (args : Array Value) (ds gs : List (DataW H)) (before : List MemPlace)
    (hval : ∀ (j : Nat) t v, Tryd.f7.params[j]? = some t → args[j]? = some v → Value.okWide Tryd.prog W .any base t v)
    (hW : DataW.Whole enc Tryd.prog Tryd.f7.params.toList Rows.modesBackSpec.vars false W args.toList ds gs before) (hL : laidMetH Tryd.prog Rows.modesBackRow.laid W) :
    Calls Tryd.prog 7 args W fun e W' => ∃ v, e = .returned v ∧ Rows.modesBackSpec.post enc Tryd.prog Tryd.f7 false true false false W args v W' := by
  have hW' := hW
  obtain ⟨p, q, hA0, hV, rfl, hfz, hnd⟩ := hW
  have hA : DataW.TrodAll enc Tryd.prog W 0 (fun _ => true) true Tryd.f7.params.toList args.toList ds p := hA0
  rw [Tryd.params7] at hA hval
  obtain ⟨v0, vs0, d0, ds0, p0, q0, hargs, rfl, rfl, t0, r0⟩ := trodAll_cons hA
  obtain ⟨v1, vs1, d1, ds1, p1, q1, rfl, rfl, rfl, t1, r1⟩ := trodAll_cons r0
  obtain ⟨rfl, rfl, rfl⟩ := trodAll_nil r1
  obtain rfl : args = #[v0, v1] := by cases args; simp_all
  obtain ⟨rfl, rfl⟩ := trodVars_none hV
  obtain ⟨x0, rfl, rfl, rfl, h0⟩ := open_int Tryd.underlying5 (hval 0 5 v0 rfl rfl) t0
  obtain ⟨x1, rfl, rfl, rfl, h1⟩ := open_int Tryd.underlying37 (hval 1 37 v1 rfl rfl) t1
  clear hA0
  simp only [List.append_nil] at hW'
  refine (backLaw x0 x1 W (back_u8 h0).1 (back_u8 h0).2 (back_u16 h1).1 (back_u16 h1).2 (signs_of hL)).mono fun e W' ⟨he, hb⟩ => ?_
  subst he
  exact ⟨_, rfl, law_post hW' (trodAll_cons_mk (shut_bool Tryd.underlying4 _) trodAll_mk0) (trodAll_cons_mk (shut_int Tryd.underlying5 h0) (trodAll_cons_mk (shut_int Tryd.underlying37 h1) trodAll_mk0)) rfl hb⟩

theorem backMet (os : Os) : laidMet Tryd.prog Rows.modesBackRow.laid ((laidWorld os).forCall (fun _ _ => 0) ⟨#[], #[.int .u8 0, .int .u16 0], []⟩).memory :=
  laidMet_of_run' 8 (by kernel_rfl) (by kernel_rfl)
theorem backReads (os : Os) {H : Type} (enc : TypeId × Value → H) : ∃ places, DataW.whole enc Tryd.prog ((laidWorld os).forCall (fun _ _ => 0) ⟨#[], #[.int .u8 0, .int .u16 0], []⟩).memory Tryd.f7.params.toList Rows.modesBackSpec.vars false #[Value.int .u8 0, .int .u16 0].toList 8 = some ([.lit (.int .u8 0), .lit (.int .u16 0)], [], places) :=
  ⟨[], by kernel_rfl⟩

set_option maxRecDepth 100000 in
theorem backLifted (os : Os) (started : os.Started) (H : Type) (enc : TypeId × Value → H) (F : Stop.Interp) :
    ReturnsInHanded {} Tryd.checked os 7 .any ((OpenSpec.ofChange Rows.modesBackSpec).preRow enc Tryd.prog Tryd.f7 Rows.modesBackRow.domain false Rows.modesBackRow.laid) (((OpenSpec.ofChange Rows.modesBackSpec).at F).post enc Tryd.prog Tryd.f7 false true false false) := by
  obtain ⟨places, hx⟩ := backReads os enc
  refine returnsInHanded_of_row (C := Tryd.checked) (s := OpenSpec.ofChange Rows.modesBackSpec) ownKnobs started (by kernel_rfl) Tryd.func7
    (witness_row_at (enc := enc) (C := Tryd.checked) false (laidWorld os) #[.int .u8 0, .int .u16 0] rfl (by kernel_rfl) (by kernel_rfl) (by kernel_rfl)
      (OpenSpec.preRow_of_cond 8 hx (by kernel_rfl) (fun k hk => by cases hk) (by kernel_rfl) (backMet os))) ?_
  intro W base args ds gs before hval hW _ _ _ hL _ _
  exact backContract H enc W base args ds gs before hval hW hL

theorem backSaid : Rows.ModesBackSaid :=
  OpenClaim.holds_of_cond 7 Tryd.f7 rfl rfl rfl rfl rfl rfl rfl ⟨rfl, rfl, rfl, rfl, rfl⟩ rfl rfl rfl rfl rfl (by kernel_rfl) Tryd.func7 (by kernel_rfl)
    (of_decide_eq_true (by kernel_rfl)) (by unfold Func.isWrapper; first | (rw [if_pos (by decide +kernel)]; kernel_rfl) | (rw [if_neg (by decide +kernel)]; exact ⟨rfl, rfl⟩))
    (fun os started H enc _ F => by rw [OpenClaim.pre_eq_preRow]; exact backLifted os started H enc F)

/-- No parameter wants a stand-in; the program's own looks are off. -/
theorem backPlain (f : FuncId) (fn : Func) (hf : Tryd.pinned.checked.prog.funcNamed Rows.modesBackRow.func = some f) (hfn : Tryd.pinned.checked.prog.funcs[f]? = some fn) :
    false = Tryd.pinned.checked.prog.looks [] ∧ ∀ (j : Nat) t, fn.params[j]? = some t → Tryd.pinned.checked.prog.wantsStandIn t = false := by
  obtain rfl : f = 7 := Option.some.inj ((show Tryd.prog.funcNamed Rows.modesBackRow.func = some 7 by kernel_rfl).symm.trans hf) |>.symm
  obtain rfl : fn = Tryd.f7 := (Option.some.inj (Tryd.func7.symm.trans hfn)).symm
  refine ⟨by kernel_rfl, fun j t ht => ?_⟩
  rw [Tryd.params7] at ht
  have hm : t ∈ [5, 37] := by simpa using Array.mem_of_getElem? ht
  have hall : ([5, 37].all fun u => !Tryd.prog.wantsStandIn u) = true := by kernel_rfl
  exact (show Tryd.prog.wantsStandIn t = false by simpa using List.all_eq_true.1 hall t hm)

theorem modesBack_card : Rows.ModesBackCardSaid :=
  Claim7.holds_tied_plain_at .later [] _ _ _ _ backSaid (fun _ h => by cases h) (by kernel_rfl) (fun _ h => by cases h) modesBack_row_tie rfl ⟨rfl, rfl⟩ (by kernel_rfl) rfl backPlain (by kernel_rfl)
#print axioms modesBack_card
end Go.Proofs.YtnjgecdhgfiilaaDoor
