/-
  What unfit of package resolve answers. No condition.
-/
import Derived.Test.YtilepnepcamnaaaGreatRsM
namespace Go.Proofs.YtilepnepcamnaaaGreat
open Go Go.RowKit
set_option maxRecDepth 100000

theorem unfit_any (v : Value) (t : List Nd) (p : Nm) (w : World) (h : TabP w v t) :
    Calls Tryz.prog 71 #[v, .string (bA p)] w fun e w' => e = .returned (.int .i64 (fitE t p)) ∧ Below w.heap.size w w' := by
  have HG := Lib.hid (get_any v t 1 w h)
  have HI := Lib.hid (fun W => show Calls Tryz.prog 64 #[.string (bA p), .int .u8 0] W fun e w' => e = .returned (.int .i64 (Lib.indexByte (bA p).data.toList 0)) ∧ W = w' from index_any (bA p) 0 W)
  have hx := index_has 0 (bA p).data.toList
  have HX := Lib.hid (show decide (Lib.indexByte (bA p).data.toList 0 ≥ 0) = p.contains 0 from hx)
  have hs := size_bA p
  have HE := Lib.hid (show fitE t p = if p = [] then 2 else if 64 < p.length then 36 else if p.contains 0 = true then 22 else if tis t 1 = false then 2 else 0 from rfl)
  generalize Lib.indexByte (bA p).data.toList 0 = X at HI HX
  generalize fitE t p = E at HE ⊢
  generalize tis t 1 = q at HG HE
  generalize tget t 1 = n at HG
  unfold nodeV at HG
  clear h hx
  by_cases hp : p = []
  · have e1 : ((bA p).toList == ([] : List UInt8)) = true := (len0_iff p).2 hp
    have HZ := Lib.hid (show E = 2 by rw [HE.out, if_pos hp])
    clear HE hp
    go_enter Tryz.func71, Tryz.ntmps71
    go_wp2_with fail
    refine HG.out.mono ?_
    rintro e w2 ⟨vd, ve, rfl, hd, he, -, -, hb2⟩
    obtain ⟨A5, k5, rfl⟩ := bytesT_form hd
    obtain ⟨A6, k6, rfl⟩ := entsT_form he
    have HB := Lib.hid (al hb2 (.cells (ndC n (.slice A5 n.data.length k5) (.slice A6 n.ents.length k6)) 70))
    clear hd he hb2
    go_wp2
    go_ret
    exact ⟨ret_int HZ.out.symm, HB.out⟩
  have e1 : ((bA p).toList == ([] : List UInt8)) = false := ne_nil_of p hp
  by_cases h64 : 64 < p.length
  · have e2 : ((bA p).size : Int) > 64 := by rw [hs]; omega
    have HZ := Lib.hid (show E = 36 by rw [HE.out, if_neg hp, if_pos h64])
    clear HE hp h64
    go_enter Tryz.func71, Tryz.ntmps71
    go_wp2_with fail
    refine HG.out.mono ?_
    rintro e w2 ⟨vd, ve, rfl, hd, he, -, -, hb2⟩
    obtain ⟨A5, k5, rfl⟩ := bytesT_form hd
    obtain ⟨A6, k6, rfl⟩ := entsT_form he
    have HB := Lib.hid (al hb2 (.cells (ndC n (.slice A5 n.data.length k5) (.slice A6 n.ents.length k6)) 70))
    clear hd he hb2
    go_wp2
    go_ret
    exact ⟨ret_int HZ.out.symm, HB.out⟩
  have e2 : ¬ ((bA p).size : Int) > 64 := by rw [hs]; omega
  by_cases hc : p.contains 0 = true
  · have e3 : X ≥ 0 := of_decide_eq_true (HX.out.trans hc)
    have HZ := Lib.hid (show E = 22 by rw [HE.out, if_neg hp, if_neg h64, if_pos hc])
    clear HE hp h64 hc
    go_enter Tryz.func71, Tryz.ntmps71
    go_wp2_with fail
    refine HG.out.mono ?_
    rintro e w2 ⟨vd, ve, rfl, hd, he, -, -, hb2⟩
    obtain ⟨A5, k5, rfl⟩ := bytesT_form hd
    obtain ⟨A6, k6, rfl⟩ := entsT_form he
    have HB := Lib.hid (al hb2 (.cells (ndC n (.slice A5 n.data.length k5) (.slice A6 n.ents.length k6)) 70))
    clear hd he hb2
    go_wp2_with fail
    refine (HI.out _).mono ?_
    rintro e w3 ⟨rfl, rfl⟩
    go_wp2
    go_ret
    exact ⟨ret_int HZ.out.symm, HB.out⟩
  have e3 : ¬ X ≥ 0 := of_decide_eq_false (HX.out.trans (by simpa using hc))
  cases q with
  | false =>
    have HZ := Lib.hid (show E = 2 by rw [HE.out, if_neg hp, if_neg h64, if_neg hc, if_pos rfl])
    clear HE hp h64 hc
    go_enter Tryz.func71, Tryz.ntmps71
    go_wp2_with fail
    refine HG.out.mono ?_
    rintro e w2 ⟨vd, ve, rfl, hd, he, -, -, hb2⟩
    obtain ⟨A5, k5, rfl⟩ := bytesT_form hd
    obtain ⟨A6, k6, rfl⟩ := entsT_form he
    have HB := Lib.hid (al hb2 (.cells (ndC n (.slice A5 n.data.length k5) (.slice A6 n.ents.length k6)) 70))
    clear hd he hb2
    go_wp2_with fail
    refine (HI.out _).mono ?_
    rintro e w3 ⟨rfl, rfl⟩
    go_wp2
    go_ret
    exact ⟨ret_int HZ.out.symm, HB.out⟩
  | true =>
    have HZ := Lib.hid (show E = 0 by rw [HE.out, if_neg hp, if_neg h64, if_neg hc, if_neg (by decide)])
    clear HE hp h64 hc
    go_enter Tryz.func71, Tryz.ntmps71
    go_wp2_with fail
    refine HG.out.mono ?_
    rintro e w2 ⟨vd, ve, rfl, hd, he, -, -, hb2⟩
    obtain ⟨A5, k5, rfl⟩ := bytesT_form hd
    obtain ⟨A6, k6, rfl⟩ := entsT_form he
    have HB := Lib.hid (al hb2 (.cells (ndC n (.slice A5 n.data.length k5) (.slice A6 n.ents.length k6)) 70))
    clear hd he hb2
    go_wp2_with fail
    refine (HI.out _).mono ?_
    rintro e w3 ⟨rfl, rfl⟩
    go_wp2
    go_ret
    exact ⟨ret_int HZ.out.symm, HB.out⟩
end Go.Proofs.YtilepnepcamnaaaGreat
