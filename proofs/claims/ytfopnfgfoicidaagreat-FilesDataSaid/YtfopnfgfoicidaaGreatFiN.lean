/-
  Package files' answers, as plain mathematics: what is written is read, in one part or two. The conditions are said at each.
-/
import Derived.Test.YtfopnfgfoicidaaGreatFiM
namespace Go.Proofs.YtfopnfgfoicidaaGreat
open Go Go.RowKit
set_option maxRecDepth 100000

/-- What stands ahead of what is laid. -/
theorem ovr_head (d : List UInt8) (off : Nat) : ((d ++ List.replicate (off - d.length) 0).take off).length = off := by
  rw [List.length_take, List.length_append, List.length_replicate]
  omega
theorem ovr_got (d : List UInt8) (off : Nat) (b : List UInt8) : ((ovr d off b).drop off).take b.length = b := by
  have h := ovr_head d off
  show List.take b.length (List.drop off ((d ++ List.replicate (off - d.length) 0).take off ++ (b ++ d.drop (off + b.length)))) = b
  generalize (d ++ List.replicate (off - d.length) 0).take off = X at h ⊢
  rw [← h, List.drop_left, List.take_left]
theorem ovr_at (d : List UInt8) (off : Nat) (b : List UInt8) {j : Nat} (hj : ¬ (off ≤ j ∧ j < off + b.length)) (hl : j < (ovr d off b).length) : (ovr d off b)[j]? = if j < d.length then d[j]? else some 0 := by
  rw [ovr_len] at hl
  have hh := ovr_head d off
  unfold ovr
  by_cases h1 : j < off
  · rw [List.getElem?_append_left (by omega), List.getElem?_take_of_lt h1]
    by_cases h2 : j < d.length
    · rw [if_pos h2, List.getElem?_append_left h2]
    · rw [if_neg h2, List.getElem?_append_right (by omega), List.getElem?_replicate, if_pos (by omega)]
  · have h2 : off + b.length ≤ j := by omega
    have h3 : j < d.length := by omega
    rw [List.getElem?_append_right (by omega), hh, List.getElem?_append_right (by omega), List.getElem?_drop, if_pos h3]
    congr 1
    omega
theorem ovr_two (d : List UInt8) (off : Nat) (b1 b2 : List UInt8) : ovr (ovr d off b1) (off + b1.length) b2 = ovr d off (b1 ++ b2) := by
  have hl := ovr_len d off b1
  have hh := ovr_head d off
  have e1 : off + b1.length - (ovr d off b1).length = 0 := by omega
  have e2 : (ovr d off b1).take (off + b1.length) = (d ++ List.replicate (off - d.length) 0).take off ++ b1 := by
    unfold ovr
    rw [← List.append_assoc, List.take_append_of_le_length (by rw [List.length_append, hh]; exact Nat.le_refl _), List.take_of_length_le (by rw [List.length_append, hh]; exact Nat.le_refl _)]
  have e3 : (ovr d off b1).drop (off + b1.length + b2.length) = d.drop (off + (b1.length + b2.length)) := by
    unfold ovr
    rw [← List.append_assoc, List.drop_append, List.drop_eq_nil_of_le (by rw [List.length_append, hh]; omega), List.nil_append, List.drop_drop, List.length_append, hh]
    congr 1
    omega
  show ((ovr d off b1) ++ List.replicate (off + b1.length - (ovr d off b1).length) 0).take (off + b1.length) ++ (b2 ++ (ovr d off b1).drop (off + b1.length + b2.length)) = (d ++ List.replicate (off - d.length) 0).take off ++ ((b1 ++ b2) ++ d.drop (off + (b1 ++ b2).length))
  rw [e1, e3, List.replicate_zero, List.append_nil, e2, List.length_append]
  simp [List.append_assoc]
theorem root_wr {n : Nd} (h : rightP n) {c : Wh} (hc : c.u = 0) (b : List UInt8) : wrN c n b = ⟨n.kind, n.mode, n.uid, n.gid, b, n.ents, n.target⟩ := by
  unfold wrN
  rw [writ_all (.inl hc) h.1.1.1 (by have := h.1.1.2; omega)]
theorem fw_get {t : List Nd} {c : Wh} {i off : Int} {b : List UInt8} (h : fwE t i off b = 0) (hb : b ≠ []) (j : Int) : tget (fwT t c i off b) j = if j = i then wrN c (tget t i) (ovr (tget t i).data off.toNat b) else tget t j := by
  unfold fwT
  rw [if_pos ⟨h, hb⟩]
  exact tget_set (tis_in (kind_is (fw_zero h).1))
theorem fw_kind {t : List Nd} {c : Wh} {i off : Int} {b : List UInt8} (h : (tget t i).kind = 1) : (tget (fwT t c i off b) i).kind = 1 := by
  by_cases q : fwE t i off b = 0 ∧ b ≠ []
  · rw [fw_get q.1 q.2, if_pos rfl]
    exact h
  · unfold fwT
    rw [if_neg q]
    exact h
theorem set_twice (t : List Nd) (i : Int) (x y : Nd) : setT (setT t i x) i y = setT t i y := by unfold setT; exact List.set_set ..
/-- What is written, and read. -/
structure Bck (T T1 : List Nd) (i : Int) (off : Nat) (b : List UInt8) : Prop where
  now : faE T1 i 0 100 = 0 ∧ faB T1 i 0 100 = ovr (faB T i 0 100) off b
  got : faE T1 i off (b.length : Int) = 0 ∧ faB T1 i off (b.length : Int) = b
theorem fa_all {t : List Nd} (ho : okT t) {i : Int} (hk : (tget t i).kind = 1) : faE t i 0 100 = 0 ∧ faB t i 0 100 = (tget t i).data := by
  have e : faE t i 0 100 = 0 := by unfold faE; rw [if_neg (fun q => q hk), if_neg (by omega)]
  refine ⟨e, ?_⟩
  unfold faB
  rw [if_pos e]
  have h := (file_parts (tis_right ho (kind_is hk)) hk).2.2.2
  show List.take 100 (List.drop 0 (tget t i).data) = _
  rw [List.drop_zero, List.take_of_length_le (by omega)]
theorem back_read {t : List Nd} (ho : okT t) (c : Wh) {i : Int} {off : Nat} {b : List UInt8} (hf : fwE t i off b = 0) (hb : b ≠ []) : Bck t (fwT t c i off b) i off b := by
  have hk := (fw_zero hf).1
  have hk1 := fw_kind (c := c) (off := off) (b := b) hk
  have ho1 := fw_ok ho c i off b
  have hd : (tget (fwT t c i off b) i).data = ovr (tget t i).data off b := by rw [fw_get hf hb, if_pos rfl]; rfl
  refine ⟨?_, ?_⟩
  · have h := fa_all ho1 hk1
    rw [hd] at h
    rw [(fa_all ho hk).2]
    exact h
  · have e : faE (fwT t c i off b) i off (b.length : Int) = 0 := by unfold faE; rw [if_neg (fun q => q hk1), if_neg (by omega)]
    refine ⟨e, ?_⟩
    unfold faB
    rw [if_pos e, hd]
    exact ovr_got _ _ _
/-- Written in two parts. -/
theorem back_two {t : List Nd} (ho : okT t) {c : Wh} (hc : c.u = 0) {i : Int} {off : Nat} {b : List UInt8} (hf : fwE t i off b = 0) (n : Nat) (hn : n ≤ b.length) :
    fwE t i off (b.take n) = 0 ∧ fwE (fwT t c i off (b.take n)) i ((off : Int) + n) (b.drop n) = 0 ∧ fwT (fwT t c i off (b.take n)) c i ((off : Int) + n) (b.drop n) = fwT t c i off b := by
  obtain ⟨hk, h0, h1⟩ := fw_zero hf
  have hr := tis_right ho (kind_is hk)
  have hln : (b.take n).length = n := List.length_take_of_le hn
  have hld : (b.drop n).length = b.length - n := List.length_drop ..
  have w : ∀ {T : List Nd} {x : Int} {y : List UInt8}, (tget T i).kind = 1 → 0 ≤ x → (y ≠ [] → x + (y.length : Int) ≤ 48) → fwE T i x y = 0 := fun hk hx hy => by
    unfold fwE
    rw [if_neg (fun q => q hk), if_neg (by omega)]
    split
    · rfl
    · rename_i q
      rw [if_neg (by have := hy q; omega)]
  have hbz : b = [] ∨ off + b.length ≤ 48 := by
    by_cases q : b = []
    · exact .inl q
    · exact .inr (by have := h1 q; omega)
  have g1 : fwE t i off (b.take n) = 0 := w hk h0 (fun q => by
    rcases hbz with z | z
    · rw [z, List.take_nil] at q; exact absurd rfl q
    · rw [hln]; omega)
  have hk2 := fw_kind (c := c) (off := (off : Int)) (b := b.take n) hk
  have g2 : fwE (fwT t c i off (b.take n)) i ((off : Int) + n) (b.drop n) = 0 := w hk2 (by omega) (fun q => by
    rcases hbz with z | z
    · rw [z, List.drop_nil] at q; exact absurd rfl q
    · rw [hld]; omega)
  refine ⟨g1, g2, ?_⟩
  by_cases e1 : b.take n = []
  · have hn0 : n = 0 ∨ b = [] := by
      rcases List.take_eq_nil_iff.1 e1 with q | q
      · exact .inl q
      · exact .inr q
    have ht : fwT t c i off (b.take n) = t := by unfold fwT; rw [if_neg (fun q => q.2 e1)]
    rw [ht]
    rcases hn0 with q | q
    · subst q
      rw [List.drop_zero, show ((off : Int) + ((0 : Nat) : Int)) = (off : Int) from by omega]
    · rw [q, List.drop_nil]
      unfold fwT
      rw [if_neg (fun z => z.2 rfl), if_neg (fun z => z.2 rfl)]
  · by_cases e2 : b.drop n = []
    · have hnb : b.length ≤ n := List.drop_eq_nil_iff.1 e2
      have hb : b.take n = b := List.take_of_length_le hnb
      rw [e2, hb]
      show (if _ ∧ ([] : List UInt8) ≠ [] then _ else fwT t c i off b) = _
      rw [if_neg (fun q => q.2 rfl)]
    · have hb : b ≠ [] := fun q => e1 (by rw [q, List.take_nil])
      have hd : tget (fwT t c i off (b.take n)) i = wrN c (tget t i) (ovr (tget t i).data off (b.take n)) := by rw [fw_get g1 e1, if_pos rfl]; rfl
      have hr1 : rightP (wrN c (tget t i) (ovr (tget t i).data off (b.take n))) := fw_right ho c g1 e1
      show (if fwE (fwT t c i off (b.take n)) i ((off : Int) + n) (b.drop n) = 0 ∧ b.drop n ≠ [] then setT (fwT t c i off (b.take n)) i (wrN c (tget (fwT t c i off (b.take n)) i) (ovr (tget (fwT t c i off (b.take n)) i).data ((off : Int) + n).toNat (b.drop n))) else _) = _
      rw [if_pos ⟨g2, e2⟩, hd, root_wr hr1 hc]
      unfold fwT
      rw [if_pos ⟨g1, e1⟩, if_pos ⟨hf, hb⟩, set_twice]
      have e3 : ((off : Int) + n).toNat = off + (b.take n).length := by rw [hln]; omega
      have e4 : ((off : Int)).toNat = off := by omega
      rw [e3, e4]
      have e5 : (wrN c (tget t i) (ovr (tget t i).data off (b.take n))).data = ovr (tget t i).data off (b.take n) := rfl
      rw [e5, ovr_two, List.take_append_drop]
      rw [root_wr hr hc, root_wr hr hc]
/-- With an error, or of no file, nothing is written. -/
theorem back_not {t : List Nd} {c : Wh} {i off n : Int} {b : List UInt8} (h : faE t i 0 n ≠ 0 ∧ 0 ≤ n ∨ fwE t i off b ≠ 0) : fwT t c i off b = t := by
  have hf : fwE t i off b ≠ 0 := by
    rcases h with ⟨h, hn⟩ | h
    · intro q
      apply h
      unfold faE
      rw [if_neg (fun z => z (fw_zero q).1), if_neg (by omega)]
    · exact h
  unfold fwT
  rw [if_neg (fun q => hf q.1)]
end Go.Proofs.YtfopnfgfoicidaaGreat
