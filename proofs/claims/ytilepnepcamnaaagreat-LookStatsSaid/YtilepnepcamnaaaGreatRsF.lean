/-
  What node.Find answers. The condition: no more entries than a thousand.
-/
import Derived.Test.YtilepnepcamnaaaGreatWB
namespace Go.Proofs.YtilepnepcamnaaaGreat
open Go Go.RowKit
set_option maxRecDepth 100000

attribute [local go_sem] cell_off4 cell_blk4
theorem find_any (n : Nd) (vd ve : Value) (name : Nm) (w : World) (hd : BytesR w vd n.data) (he : EntsR w ve n.ents) (hn : n.ents.length ≤ 1000) :
    Calls Tryz.prog 98 #[nodeV n vd ve, .string (bA name)] w fun e w' => e = .returned (.int .i64 (fnd n.ents name)) ∧ Below w.heap.size w w' := by
  have hb1 := ba w (.cells (ndC n vd ve) 70)
  have HP := Lib.hid (placeOf_any ve n.ents name _ (box_ents (vd := vd) he) (by omega))
  have hk1 := Blk.new w 70 (ndC n vd ve)
  have HB1 := Lib.hid hb1
  have HK1 := Lib.hid hk1
  have HE := Lib.hid (box_ents (vd := vd) he)
  obtain ⟨A1, c1, rfl⟩ := bytes_form hd rfl
  obtain ⟨A2, c2, rfl⟩ := ents_form he rfl
  clear hd he hb1 hk1
  unfold nodeV
  unfold plcI at HP
  by_cases hf : n.ents.findIdx (isN name) < n.ents.length
  · rw [if_pos hf] at HP
    obtain ⟨e, hke⟩ : ∃ e, n.ents[n.ents.findIdx (isN name)]? = some e := ⟨_, List.getElem?_eq_getElem hf⟩
    have HF := Lib.hid (plc_fnd n.ents name e hke)
    have HKE := Lib.hid hke
    clear hke
    generalize n.ents.findIdx (isN name) = k at HP HKE hf
    have hk2 : (k : Int) < (n.ents.length : Int) := by omega
    go_enter Tryz.func98, Tryz.ntmps98
    go_wp2_with fail
    refine HP.out.mono ?_
    rintro e2 w2 ⟨rfl, hb2⟩
    have hk3 := HK1.out.below hb2
    obtain ⟨p0, p1, p2, p3, p4, p5, p6⟩ := hk3.c7
    obtain ⟨ad, rfl, c0, c3⟩ := ents_get (HE.out.below hb2) HKE.out
    have HB2 := Lib.hid (bt hb2 HB1.out)
    clear hb2 hk3
    go_wp2
    go_ret
    exact ⟨ret_int HF.out.symm, HB2.out⟩
  · rw [if_neg hf] at HP
    have HF := Lib.hid (show fnd n.ents name = 0 from fnd_none (fun h => hf ((plc_mem name n.ents).2 h)))
    clear hf
    go_enter Tryz.func98, Tryz.ntmps98
    go_wp2_with fail
    refine HP.out.mono ?_
    rintro e2 w2 ⟨rfl, hb2⟩
    have HB2 := Lib.hid (bt hb2 HB1.out)
    clear hb2
    go_wp2
    go_ret
    exact ⟨ret_int HF.out.symm, HB2.out⟩
end Go.Proofs.YtilepnepcamnaaaGreat
