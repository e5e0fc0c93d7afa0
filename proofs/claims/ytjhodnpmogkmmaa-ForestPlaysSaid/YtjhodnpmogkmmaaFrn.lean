/-
  Stage 10: contract of the document's New. No condition.
-/
import Derived.Test.YtjhodnpmogkmmaaFrq
namespace Go.Proofs.Ytjhodnpmogkmmaa
open Go.ChangeShapes Go.WideShapes Go.ChangeAt Go.RowKit
set_option linter.unusedVariables false
set_option linter.unusedSimpArgs false
namespace Fo
open Sp (Off Ext)
/-- on the way: so many nodes that nobody is above -/
structure QN (w : World) (B p : Nat) (vv uv : Value) (vs : List Int) (k : Nat) : Prop where
  blk : QBlk w p vv uv
  low : B ≤ p
  vals : Ne.OwnL w B vv vs
  ups : Ne.OwnI w B uv (List.replicate k (-1))
section
variable {w w2 : World} {B p : Nat} {vv uv : Value} {F G : Nat → Prop} {f : Ft} {vs : List Int}
theorem QN.kept {k : Nat} (h : QN w B p vv uv vs k) (hb : Below w.heap.size w w2) : QN w2 B p vv uv vs k :=
  ⟨qblk_same h.blk (hb.block p (qblk_lt h.blk)), h.low, Rw.own_below h.vals hb, Rw.own_below h.ups hb⟩
theorem QN.done (h : QN w B p vv uv vs vs.length) (hn : Sp.newE vs = 0) : QM w B p vv uv (newS vs) :=
  ⟨h.blk, h.low, h.vals, by
    have e : ovL (newS vs).v.length (newS vs).up = List.replicate vs.length (-1) := by
      refine List.ext_getElem (by simp [ovL, newS]) fun i h1 h2 => ?_
      simp [ovL, newS, oz]
    rw [e]; exact h.ups, good_new hn⟩
/-- one more -/
theorem QN.more {k : Nat} {v6 : Value} (h : QN w B p vv uv vs k) (hg : w.grownBy w2 uv.ownBlock) (ho : Ne.OwnI w2 B v6 (List.replicate k (-1) ++ [-1])) (hat : v6.ownBlock = uv.ownBlock ∨ v6.ownBlock = some w.heap.size) :
    QBlk w2 p vv uv ∧ QN (w2.setCell ⟨p, 1, none⟩ v6) B p vv v6 vs (k + 1) := by
  have hp := qblk_lt h.blk
  have hup := qblk_own h.blk (by decide) h.ups
  have hb2 : QBlk w2 p vv uv := qblk_same h.blk (hg.block p hp fun e => hup e.symm)
  have hb3 : QBlk (w2.setCell ⟨p, 1, none⟩ v6) p vv v6 := by
    unfold QBlk at *
    simp [World.setCell, Array.getElem?_modify, hb2]
  refine ⟨hb2, hb3, h.low, ?_, ?_⟩
  · refine Rw.own_set (Rw.own_grown h.vals hg fun g hg2 e => Ne.own_types (by decide) h.vals h.ups g hg2 e.symm) (p := ⟨p, 1, none⟩) ?_ _
    exact qblk_own h.blk (by decide) h.vals
  · rw [show List.replicate (k + 1) (-1 : Int) = List.replicate k (-1) ++ [-1] by rw [List.replicate_succ']]
    refine Rw.own_set ho (p := ⟨p, 1, none⟩) ?_ _
    rcases hat with e | e
    · rw [e]; exact hup
    · rw [e]; intro c; simp at c; omega
set_option maxRecDepth 100000 in
set_option maxHeartbeats 4000000 in
theorem qnew_any (ao : Option Addr) (cap : Nat) (vs : List Int) (w : World) (hr : Ne.IRow w ao vs) (hn : ao = none → cap = 0) :
    Calls Try.prog 12 #[.slice ao vs.length cap] w fun e w' => Below w.heap.size w w' ∧ ∃ pv, e = .returned (.tuple #[pv, .int .i64 (Sp.newE vs)]) ∧ (Sp.newE vs ≠ 0 → pv = .pointer none) ∧
      (Sp.newE vs = 0 → ∃ p, pv = .pointer (some ⟨p, 0, none⟩) ∧ QP w' w.heap.size (fun g => w.heap.size ≤ g ∧ g < w'.heap.size) p (newS vs)) := by
  have HN := Lib.hid (Sp.rnew_any ao cap vs w hr hn)
  have HRN := Lib.hid hr
  have hns : Sp.newE vs = 0 → vs.length ≤ 3000 := fun h => by
    unfold Sp.newE at h
    split at h
    · cases h
    · omega
  by_cases hz : Sp.newE vs = 0
  case neg =>
    generalize Sp.newE vs = Z at *
    have hz2 : ((Z != 0) = true) := by simpa using hz
    have HZ := Lib.hid hz
    generalize vs.length = n at *
    clear hr hns hn hz HRN
    go_enter Try.func12, Try.ntmps12
    go_wp2_with fail
    refine HN.out.mono ?_
    rintro e w1 ⟨hb, pv, rfl, hp, _⟩
    obtain rfl := hp HZ.out
    have HB := Lib.hid hb
    clear hb hp
    go_wp2
    go_ret2
    exact ⟨HB.out, _, rfl, fun _ => rfl, fun h => absurd h HZ.out⟩
  have hn3 := hns hz
  have HDONE := Lib.hid (show ∀ (w' : World) (p : Nat) (uv vv : Value), QN w' w.heap.size p vv uv vs vs.length → QP w' w.heap.size (fun g => w.heap.size ≤ g ∧ g < w'.heap.size) p (newS vs) from fun w' p uv vv h => ⟨vv, uv, h.done hz, fun g hg => (h.done hz).in g hg, fun g hg => hg⟩)
  rw [hz] at HN ⊢
  obtain ⟨n, hnn⟩ : ∃ n, n = vs.length := ⟨_, rfl⟩
  rw [← hnn] at HN HDONE hn3 ⊢
  have HNN := Lib.hid hnn
  have HL := Lib.hid (show ([] : List Int).length + vs.length ≤ 1099511627776 by simp; omega)
  generalize newS vs = NF at *
  clear hr hns hnn hz
  go_enter Try.func12, Try.ntmps12
  go_wp2_with fail
  refine HN.out.mono ?_
  rintro e w1 ⟨hb, pv, rfl, _, _⟩
  have HB1 := Lib.hid hb
  have HR1 := Lib.hid ((HRN.out.kept hb).kept ((Below.refl _ _).alloc (Nat.le_refl _) (.cells #[] 2)))
  have HBE := Lib.hid (hb.alloc hb.size (.cells #[] 2))
  have HOE := Lib.hid (Ne.own_empty (α := Int) (k := 1) (enc := Ne.encI) (e := 2) w1 w.heap.size hb.size)
  clear hb HN
  go_wp2_with (at_builtin; refine Rw.app Ne.elemL Ne.encI_len Ne.encI_one rfl (.tmp 16) (.tmp 17) rfl w.heap.size _ ([] : List Int) rfl HOE.out ao cap vs (by rw [← HNN.out]; rfl) hn HR1.out HL.out HBE.out.size ?_; intro v2 w2 hown2 hgr2; rw [List.nil_append] at hown2; have HO2 := Lib.hid hown2; have HB2 := Lib.hid (HBE.out.grown hgr2 HBE.out.size (Rw.own_block HOE.out)); obtain ⟨o2, c2, hv2, _⟩ := Rw.own_row Ne.encI_len hown2; rw [← HNN.out] at hv2; subst hv2; clear hown2 hgr2)
  have HM3 := Lib.hid (show QN (w2.alloc (.cells #[.slice o2 n c2, .slice none 0 0] 64)) w.heap.size w2.heap.size (.slice o2 n c2) (.slice none 0 0) vs 0 from ⟨by show (w2.heap.push _)[w2.heap.size]? = _; simp, HB2.out.size, Rw.own_alloc HO2.out _, Rw.own_nil _ _⟩)
  have HB3 := Lib.hid (HB2.out.alloc HB2.out.size (.cells #[.slice o2 n c2, .slice none 0 0] 64))
  obtain ⟨p, hp⟩ : ∃ p, p = w2.heap.size := ⟨_, rfl⟩
  have HPL := Lib.hid (show w.heap.size ≤ p by rw [hp]; exact HB2.out.size)
  rw [← hp] at HM3 ⊢
  clear hp
  generalize (w2.alloc (.cells #[.slice o2 n c2, .slice none 0 0] 64)) = W3 at *
  clear HO2 HB2 HR1 HL HBE HOE
  go_loopg [7] n (fun gg si wr => ∃ (k : Nat) (uv : Value), si = .int .i64 k ∧ k + gg = n ∧ Hid (QN wr w.heap.size p (.slice o2 n c2) uv vs k) ∧ Hid (Below w.heap.size w wr))
  case atStart => exact ⟨0, _, rfl, by omega, HM3, HB3⟩
  case round =>
    obtain ⟨k, uv, rfl, hkg, HMW, HBW⟩ := hrel
    by_cases hk : k < n
    · have hki : (k : Int) < (n : Int) := by omega
      have hk0 : (0 : Int) ≤ (k : Int) := by omega
      obtain ⟨n0, n1⟩ := qblk_cells HMW.out.blk
      obtain ⟨o5, c5, hv5, _⟩ := Rw.own_row Ne.encI_len HMW.out.ups
      rw [List.length_replicate] at hv5
      subst hv5
      have HBA := Lib.hid (HBW.out.alloc HBW.out.size (.cells #[.int .i64 (-1)] 3))
      have HMA := Lib.hid (HMW.out.kept ((Below.refl wr.heap.size wr).alloc (Nat.le_refl _) (.cells #[.int .i64 (-1)] 3)))
      have HKR := Lib.hid (Ne.irow_one wr (-1))
      have HLN := Lib.hid (show (List.replicate k (-1 : Int)).length + ([-1] : List Int).length ≤ 1099511627776 by simp; omega)
      go_wp2_with (at_builtin; refine Rw.appAt Ne.elemI Ne.encI_len Ne.encI_one rfl (.tmp 31) (.tmp 32) rfl w.heap.size _ (List.replicate k (-1)) rfl HMA.out.ups ⟨wr.heap.size, 0, none⟩ 1 [-1] rfl HKR.out HLN.out HBA.out.size ?_; intro v6 w6 hown6 hgr6 hat6; obtain ⟨hfb, hm6⟩ := HMA.out.more hgr6 hown6 hat6; have HM6 := Lib.hid hm6; have HB6 := Lib.hid (HBA.out.grown hgr6 HBA.out.size (Rw.own_block HMA.out.ups)); have hfz := qblk_frozen hfb 1; have n16 := (qblk_cells hfb).2; obtain ⟨o6, c6, hv6, _⟩ := Rw.own_row Ne.encI_len hown6; rw [List.length_append, List.length_replicate, List.length_singleton] at hv6; subst hv6; clear hown6 hgr6 hat6 hm6)
      go_roundg (n - (k + 1))
      case measure => omega
      case rel => exact ⟨k + 1, _, by go_num, by omega, HM6, Lib.hid (HB6.out.setCell (p := ⟨p, 1, none⟩) HPL.out _)⟩
    · obtain rfl : k = n := by omega
      have HFIN := Lib.hid (HDONE.out wr p uv _ HMW.out)
      go_wp2
      go_ret2
      exact ⟨HBW.out, _, rfl, fun h => absurd rfl h, fun _ => ⟨p, rfl, HFIN.out⟩⟩
end
end Fo
end Go.Proofs.Ytjhodnpmogkmmaa
