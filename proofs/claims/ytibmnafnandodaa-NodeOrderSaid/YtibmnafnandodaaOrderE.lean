/-
  NodeOrder, walked, of texts as they come in. No condition.
-/
import Derived.Test.YtibmnafnandodaaOrderW
import Derived.Test.YtibmnafnandodaaRow2
namespace Go.Proofs.Ytibmnafnandodaa
open Go Go.RowKit

theorem nmA_tl (L : List ByteArray) : nmA (L.map tl) = L := by
  rw [nmA, List.map_map]
  exact (List.map_congr_left (fun s _ => bA_tl s)).trans (List.map_id L)
theorem order_walk (v : Value) (L : List ByteArray) (x : Int) (w : World) (hR : StrsR w v L) (hx : (Lit.int .u8 x).wf = true) :
    Calls Try.prog 5 #[v, .int .u8 x] w fun e w' => e = .returned (.bool true) ∧ Below w.heap.size w w' := by
  have hb : 0 ≤ x ∧ x ≤ 255 := by simpa [Lit.wf, IntKind.min, IntKind.max, IntKind.signed, IntKind.bits] using hx
  obtain ⟨t, rfl⟩ : ∃ t : Nat, x = (t : Int) := ⟨x.toNat, by omega⟩
  have hR2 : StrsR w v (nmA (L.map tl)) := by rw [nmA_tl]; exact hR
  by_cases h : 12 < (L.map tl).length ∨ (L.map tl).length = 0
  · exact order_out v (L.map tl) t w hR2 h
  · exact order_in v (L.map tl) t w hR2 (by omega) (by omega) (by omega)
end Go.Proofs.Ytibmnafnandodaa
