/-
  What PlantNeeds and PlantRoom ask for, as plain mathematics. The conditions are said at each.
-/
import Derived.Test.YtfopnfgfoicidaaGreatPlN
namespace Go.Proofs.YtfopnfgfoicidaaGreat
open Go Go.RowKit
set_option maxRecDepth 100000

/-- May the node be, that is made? Just if who asks may be, and the directory's group. -/
def plG (t : List Nd) (c : Wh) (F : Fo) : Int := if sgB (tget t F.dir) = true then (tget t F.dir).gid else c.g
def idsP (t : List Nd) (c : Wh) (F : Fo) : Prop := (0 ≤ c.u ∧ c.u ≤ 65535) ∧ (0 ≤ plG t c F ∧ plG t c F ≤ 65535)
theorem ents_nil : entsP [] := ⟨fun e h => (by cases h), List.Pairwise.nil, by decide⟩
theorem pR_dir {t : List Nd} {c : Wh} {F : Fo} {m : Int} (h0 : 0 ≤ m) (h1 : m ≤ 1023) : rightP (plR t c F 2 m []).nd ↔ idsP t c F := by
  have hm : 0 ≤ (if sgB (tget t F.dir) = true ∧ (2 : Int) = 2 then m + 1024 else m) ∧ (if sgB (tget t F.dir) = true ∧ (2 : Int) = 2 then m + 1024 else m) ≤ 4095 := by
    split <;> omega
  exact ⟨fun h => ⟨h.1.2.1, h.1.2.2⟩, fun h => ⟨⟨hm, h.1, h.2⟩, .inr (.inl ⟨rfl, rfl, rfl, ents_nil⟩)⟩⟩
theorem pR_file {t : List Nd} {c : Wh} {F : Fo} {m : Int} (h0 : 0 ≤ m) (h1 : m ≤ 4095) : rightP (plR t c F 1 m []).nd ↔ idsP t c F := by
  have e : (if sgB (tget t F.dir) = true ∧ (1 : Int) = 2 then m + 1024 else m) = m := if_neg (fun q => absurd q.2 (by decide))
  have hm : 0 ≤ (if sgB (tget t F.dir) = true ∧ (1 : Int) = 2 then m + 1024 else m) ∧ (if sgB (tget t F.dir) = true ∧ (1 : Int) = 2 then m + 1024 else m) ≤ 4095 := by
    rw [e]; exact ⟨h0, h1⟩
  exact ⟨fun h => ⟨h.1.2.1, h.1.2.2⟩, fun h => ⟨⟨hm, h.1, h.2⟩, .inl ⟨rfl, rfl, rfl, by show 0 ≤ 48; decide⟩⟩⟩
theorem pR_link {t : List Nd} {c : Wh} {F : Fo} {tg : Nm} (hf : fok tg = true) : rightP (plR t c F 3 511 tg).nd ↔ idsP t c F := by
  have e : (if sgB (tget t F.dir) = true ∧ (3 : Int) = 2 then (511 : Int) + 1024 else 511) = 511 := if_neg (fun q => absurd q.2 (by decide))
  have hm : 0 ≤ (if sgB (tget t F.dir) = true ∧ (3 : Int) = 2 then (511 : Int) + 1024 else 511) ∧ (if sgB (tget t F.dir) = true ∧ (3 : Int) = 2 then (511 : Int) + 1024 else 511) ≤ 4095 := by
    rw [e]; decide
  exact ⟨fun h => ⟨h.1.2.1, h.1.2.2⟩, fun h => ⟨⟨hm, h.1, h.2⟩, .inr (.inr ⟨rfl, rfl, rfl, e, hf⟩)⟩⟩
theorem pl_alike {t : List Nd} {c : Wh} {R : Fo × Int} {k k' m m' : Int} {tg tg' : Nm} (h : rightP (plR t c R.1 k m tg).nd ↔ rightP (plR t c R.1 k' m' tg').nd) : plE t c R k m tg = plE t c R k' m' tg' := by
  unfold plE
  rw [show toB (rightP (plR t c R.1 k m tg).nd) = toB (rightP (plR t c R.1 k' m' tg').nd) from by rw [propext h]]
/-- All three tell the same error. -/
theorem needs_eq (t : List Nd) (c : Wh) (R : Fo × Int) (mode umask : Int) {tg : Nm} (hf : fok tg = true) : plE t c R 2 (mkM mode umask) [] = plE t c R 3 511 tg ∧ plE t c R 1 (mskM mode umask) [] = plE t c R 3 511 tg := by
  have h1 := mk_bd mode umask
  have h2 := msk_bd mode umask
  exact ⟨pl_alike ((pR_dir h1.1 h1.2).trans (pR_link hf).symm), pl_alike ((pR_file h2.1 (by omega)).trans (pR_link hf).symm)⟩
theorem and18_at : ∀ a b : Fin 64, bits .and .i64 (((a.val * 64 + b.val : Nat) : Int)) 18 = ((a.val * 64 + b.val : Nat) : Int) / 16 % 2 * 16 + ((a.val * 64 + b.val : Nat) : Int) / 2 % 2 * 2 := by decide +kernel
theorem and18 (m : Int) (h0 : 0 ≤ m) (h1 : m < 4096) : bits .and .i64 m 18 = m / 16 % 2 * 16 + m / 2 % 2 * 2 := by
  have h := and18_at ⟨(m / 64).toNat, by omega⟩ ⟨(m % 64).toNat, by omega⟩
  simp only [show (((m / 64).toNat * 64 + (m % 64).toNat : Nat) : Int) = m by omega] at h
  exact h
/-- Who isn't root and isn't the owner needs the group's or the others' bit. -/
theorem needs_who {t : List Nd} (ho : okT t) {c : Wh} {i : Int} (h : canT t c i 3 = true) (h1 : c.u ≠ 0) (h2 : c.u ≠ (tget t i).uid) : bits .and .i64 (tget t i).mode 18 ≠ 0 := by
  unfold canT canN at h
  simp only [Bool.and_eq_true, Bool.or_eq_true, beq_iff_eq] at h
  obtain ⟨hi, h⟩ := h
  have hm := (tis_right ho hi).1.1
  have h : lets 3 (cls (tget t i).mode (clsOf c.u c.g c.gs (tget t i).uid (tget t i).gid)) = true := h.elim (fun q => absurd q h1) id
  rw [and18 _ hm.1 (by omega)]
  generalize (tget t i).mode = M at h hm ⊢
  have key : ∀ k : Int, (k = 1 ∨ k = 2) → lets 3 (cls M k) = true → M / 16 % 2 * 16 + M / 2 % 2 * 2 ≠ 0 := fun k hk hl => by
    have hb : 0 ≤ cls M k ∧ cls M k ≤ 7 := by
      unfold cls
      rcases hk with rfl | rfl
      · rw [if_neg (by decide), if_pos rfl]; omega
      · rw [if_neg (by decide), if_neg (by decide), if_pos rfl]; omega
    rw [lets_eq _ _ hb.1 hb.2] at hl
    unfold letsN at hl
    simp only [Bool.and_eq_true, Bool.or_eq_true, beq_iff_eq] at hl
    have h3 : cls M k / 2 % 2 = 1 := hl.1.2.elim (fun q => absurd q (by decide)) id
    unfold cls at h3
    rcases hk with rfl | rfl
    · rw [if_neg (by decide), if_pos rfl] at h3; omega
    · rw [if_neg (by decide), if_neg (by decide), if_pos rfl] at h3; omega
  unfold clsOf at h
  rw [if_neg (fun q => h2 q.symm)] at h
  split at h
  · exact key 1 (.inl rfl) h
  · exact key 2 (.inr rfl) h
/-- A path, a slash and a name: as a name below the path. -/
theorem join_slash {t : List Nd} {c : Wh} {d n : Nm} (hn : nok n = true) (hd : d ≠ []) (hl : d.length ≤ 40) : resM t c (d ++ 47 :: n) false = resM t c (joinP d n) false := by
  have hN := nok_nok hn
  by_cases he : d.getLast? = some 47
  · have e1 : joinP d n = d ++ n := by unfold joinP; rw [if_pos (.inr he)]
    have hlen := hN.len
    have f1 : fitE t (d ++ 47 :: n) = fitE t (d ++ n) := by
      have c1 : (d ++ 47 :: n).contains 0 = (d ++ n).contains 0 := by
        rw [Bool.eq_iff_iff]
        simp
      unfold fitE
      have a1 : ¬ d ++ 47 :: n = [] := by simp
      have a2 : ¬ d ++ n = [] := fun q => hd (List.append_eq_nil_iff.1 q).1
      have b1 : ¬ 64 < (d ++ 47 :: n).length := by rw [List.length_append, List.length_cons]; omega
      have b2 : ¬ 64 < (d ++ n).length := by rw [List.length_append]; omega
      rw [c1, if_neg a1, if_neg a2, if_neg b1, if_neg b2]
    have s1 : splitP (d ++ 47 :: n) = splitP (joinP d n) := by
      rw [split_name hN]
      unfold splitP
      rw [if_neg, nms_slash, nms_plain hN.sl hN.ne]
      rintro ⟨-, q⟩
      rw [show d ++ 47 :: n = (d ++ [47]) ++ n by simp, last_app _ hN.ne] at q
      exact nok_last hN q
    unfold resM
    rw [s1, f1, e1]
  · rw [show joinP d n = d ++ 47 :: n from by unfold joinP; rw [if_neg (fun q => q.elim hd he)]]
/-- Where something might be made, there is a directory. -/
theorem needs_dir {t : List Nd} (ht : Trx t) {c : Wh} {d n : Nm} (hn : nok n = true) (hd : d ≠ []) (hl : d.length ≤ 40) (hz : (resM t c (d ++ 47 :: n) false).2 = 0) :
    (staM t c d true).2 = 0 ∧ (staM t c d true).1.node = (resM t c (d ++ 47 :: n) false).1.dir ∧ (staM t c d true).1.kind = 2 := by
  rw [join_slash hn hd hl] at hz ⊢
  have hN := nok_nok hn
  have key : ∀ F : Fo × Int, F.2 = 0 → resM t c d true = F → (tget t F.1.node).kind = 2 → F.1.node = (resM t c (joinP d n) false).1.dir → (staM t c d true).2 = 0 ∧ (staM t c d true).1.node = (resM t c (joinP d n) false).1.dir ∧ (staM t c d true).1.kind = 2 := fun F h1 h2 h3 h4 => by
    unfold staM
    rw [h2, staF_good h1 (kind_tis h3)]
    exact ⟨rfl, by rw [← h4]; exact sta_node (kind_tis h3), by rw [← h3]; exact sta_kind (kind_tis h3)⟩
  by_cases he : d.getLast? = some 47
  · have hf : fitE t (joinP d n) = 0 := by
      rcases Int.decEq (fitE t (joinP d n)) 0 with q | q
      · unfold resM at hz
        rw [if_pos q] at hz
        exact absurd hz q
      · exact q
    obtain ⟨f1, f2, f3, f4⟩ := fit_why.1 hf
    rw [join_nul] at f3
    have hf2 : fitE t d = 0 := fit_why.2 ⟨hd, by omega, (Bool.or_eq_false_iff.1 f3).1, f4⟩
    have hr : resM t c d true = wlk t c true 8 (splitP d) 1 := by unfold resM; rw [if_neg (fun q => q hf2)]
    have hj : resM t c (joinP d n) false = wlk t c false 8 (nms d ++ [n]) 1 := by unfold resM; rw [if_neg (fun q => q hf), split_name hN]
    have last : ∀ k' j, j ≠ 0 → (wlk t c false k' [n] j).2 = 0 → srE t c j = 0 ∧ (wlk t c false k' [n] j).1.dir = j := fun k' j hj0 h1 => by
      by_cases hs : srE t c j = 0
      · refine ⟨hs, ?_⟩
        rw [wlk_last hs hN.dot hN.dots hN.len (fun q => q.2.elim (fun q => by cases q) (fun q => q rfl)) rfl]
      · rw [wlk_sr hs] at h1
        exact absurd h1 hs
    by_cases h0 : nms d = []
    · have e1 : splitP d = [] := by unfold splitP; rw [h0]; rfl
      rw [e1, wlk_nil] at hr
      rw [h0, List.nil_append] at hj
      rw [hj] at hz
      obtain ⟨l1, l2⟩ := last 8 1 (by decide) hz
      exact key _ rfl hr (sr_zero.1 l1).1 (by rw [hj, l2])
    · have e1 : splitP d = nms d ++ [[46]] := by unfold splitP; rw [if_pos ⟨h0, he⟩]
      rw [e1] at hr
      rcases wlk_pre t c 8 (nms d) 1 (by decide) with ⟨e, hne, hh⟩ | ⟨k', j, hk', hj0, hh⟩
      · rw [hj, hh false [n] (by simp)] at hz
        exact absurd hz hne
      · rw [hh false [n] (by simp)] at hj
        rw [hj] at hz
        obtain ⟨l1, l2⟩ := last k' j hj0 hz
        rw [hh true [[46]] (by simp), wlk_dot l1 rfl, wlk_nil] at hr
        exact key _ rfl hr (sr_zero.1 l1).1 (by rw [hj, l2])
  · have e := res_parts ht.one c hd he hl hn
    rw [e] at hz
    have h1 : (resM t c d true).2 = 0 := by
      unfold thn at hz
      split at hz
      · rename_i q
        exact absurd hz q
      · rename_i q
        exact Classical.byContradiction q
    have h2 : srE t c (resM t c d true).1.node = 0 ∧ (thn t c n (resM t c d true)).1.dir = (resM t c d true).1.node := by
      unfold thn at hz ⊢
      rw [if_neg (fun q => q h1)] at hz ⊢
      split at hz
      · exact absurd hz (by decide)
      · rename_i q0
        rw [if_neg q0]
        split at hz
        · rename_i q
          exact absurd hz q
        · rename_i q
          rw [if_neg q]
          exact ⟨Classical.byContradiction q, rfl⟩
    exact key _ h1 rfl (sr_zero.1 h2.1).1 (by rw [e, h2.2])
/-- In the root, by root. -/
theorem room_res {t : List Nd} (ht : Trx t) {n : Nm} (hn : nok n = true) : resM t wh0 n false = (⟨1, n, fnd (tget t 1).ents n⟩, 0) := by
  have hN := nok_nok hn
  have h1 : tis t 1 = true := kind_tis ht.one
  have hf : fitE t n = 0 := fit_why.2 ⟨hN.ne, by have := hN.len; omega, hN.nul, h1⟩
  have hs : srE t wh0 1 = 0 := sr_zero.2 ⟨ht.one, by unfold canT canN; rw [h1]; rfl⟩
  unfold resM
  rw [if_neg (fun q => q hf), split_nok hN, wlk_last hs hN.dot hN.dots hN.len (fun q => q.2.elim (fun q => by cases q) (fun q => q rfl)) rfl]
theorem room_err {t : List Nd} (ht : Trx t) {n : Nm} (hn : nok n = true) : plE t wh0 (resM t wh0 n false) 2 (mkM 511 0) [] = if fnd (tget t 1).ents n ≠ 0 then 17 else if (tget t 1).ents.length = 8 ∨ usedT t = t.length then 28 else 0 := by
  have h1 : tis t 1 = true := kind_tis ht.one
  have hr := tis_right ht.ok h1
  have hc : canT t wh0 1 3 = true := by unfold canT canN; rw [h1]; rfl
  have h8 : (tget t 1).ents.length ≤ 8 := by
    rcases hr.2 with q | q | q
    · rw [q.2.1]; decide
    · exact q.2.2.2.2.2
    · rw [q.2.2.1]; decide
  rw [room_res ht hn]
  unfold plE
  rw [if_neg (fun q => q rfl)]
  split
  · rfl
  · rename_i q0
    simp only
    rw [hc, if_neg (by decide)]
    by_cases h : (tget t 1).ents.length = 8 ∨ usedT t = t.length
    · rw [if_pos h, if_pos (h.elim (fun q => .inl (by omega)) .inr)]
    · rw [if_neg h, if_neg (fun q => h (q.elim (fun q => .inl (by omega)) .inr))]
      have hb := mk_bd 511 0
      have hR := hr.1.2.2
      have : rightP (plR t wh0 ⟨1, n, fnd (tget t 1).ents n⟩ 2 (mkM 511 0) []).nd := (pR_dir hb.1 hb.2).2 ⟨by decide, by
        unfold plG
        split
        · exact hR
        · decide⟩
      rw [toB_true this, if_neg (by decide)]
end Go.Proofs.YtfopnfgfoicidaaGreat
