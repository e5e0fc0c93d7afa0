/-
  Mfm, Last
-/
import Derived.Test.YtiaddfmgkcebnaaBunA6
import Derived.Test.YtiaddfmgkcebnaaBunA39
import Derived.Test.YtiaddfmgkcebnaaBunA13
import Derived.Test.YtiaddfmgkcebnaaBunA40
import Derived.Deep.LoopGhost
import Derived.RegionTactic
import Derived.BigRegion
namespace Go.Proofs.Ytiaddfmgkcebnaa
set_option linter.unusedVariables false
set_option linter.unusedSimpArgs false
namespace Ne
theorem excC_plusM (c d : Arc → Int) (l : List Arc) (f : List Int) : excC (fun a => c a + d a) l f = excC c l f + excC d l f := by
  unfold excC
  rw [← sumTo_add]
  exact sumTo_congr fun i _ => Int.add_mul _ _ _
theorem excC_zero (l : List Arc) (f : List Int) : excC (fun _ => 0) l f = 0 := sumTo_zero fun i _ => Int.zero_mul _
def cutA (P : Int → Bool) (a : Arc) : Int := (if P a.to = true then 1 else 0) - (if P a.fr = true then 1 else 0)
def cutK (P : Int → Bool) (k : Nat) (a : Arc) : Int := (if P a.to = true ∧ 0 ≤ a.to ∧ a.to < (k : Int) then 1 else 0) - (if P a.fr = true ∧ 0 ≤ a.fr ∧ a.fr < (k : Int) then 1 else 0)
def nodP (l : List Arc) (f : List Int) (P : Int → Bool) (k : Nat) : Int := sumTo (fun v => if P (v : Int) = true then exc l f (v : Int) else 0) k
theorem nodP_eq (l : List Arc) (f : List Int) (P : Int → Bool) : ∀ k, nodP l f P k = excC (cutK P k) l f
  | 0 => by
    have e : cutK P 0 = fun _ => 0 := by
      funext a
      unfold cutK
      rw [if_neg (by omega), if_neg (by omega)]; rfl
    rw [e, excC_zero]; rfl
  | k + 1 => by
    have h : nodP l f P (k + 1) = nodP l f P k + if P (k : Int) = true then exc l f (k : Int) else 0 := rfl
    rw [h, nodP_eq l f P k]
    by_cases c : P (k : Int) = true
    · rw [if_pos c, exc_eq, ← excC_plusM]
      congr 1
      funext a
      unfold cutK dl
      have h1 : ∀ y : Int, ((if P y = true ∧ 0 ≤ y ∧ y < (k : Int) then (1 : Int) else 0) + if y = (k : Int) then 1 else 0) = if P y = true ∧ 0 ≤ y ∧ y < ((k + 1 : Nat) : Int) then 1 else 0 := fun y => by
        by_cases e : y = (k : Int)
        · subst e
          rw [if_neg (by omega), if_pos rfl, if_pos ⟨c, by omega, by omega⟩]; rfl
        · rw [if_neg e]
          by_cases e2 : P y = true ∧ 0 ≤ y ∧ y < (k : Int)
          · rw [if_pos e2, if_pos ⟨e2.1, e2.2.1, by omega⟩]; rfl
          · rw [if_neg e2, if_neg (fun h => e2 ⟨h.1, h.2.1, by have := h.2.2; omega⟩)]; rfl
      have := h1 a.to
      have := h1 a.fr
      omega
    · rw [if_neg c, Int.add_zero]
      congr 1
      funext a
      unfold cutK
      have h1 : ∀ y : Int, (if P y = true ∧ 0 ≤ y ∧ y < (k : Int) then (1 : Int) else 0) = if P y = true ∧ 0 ≤ y ∧ y < ((k + 1 : Nat) : Int) then 1 else 0 := fun y => by
        by_cases e2 : P y = true ∧ 0 ≤ y ∧ y < (k : Int)
        · rw [if_pos e2, if_pos ⟨e2.1, e2.2.1, by omega⟩]
        · rw [if_neg e2, if_neg (fun h => by
            by_cases e : y = (k : Int)
            · rw [e] at h; exact c h.1
            · exact e2 ⟨h.1, h.2.1, by have := h.2.2; omega⟩)]
      rw [h1, h1]
theorem flow_cut {n : Net} (hR : Right n) {f : List Int} (hF : Flow n f) {P : Int → Bool} (hs : P n.s = false) (ht : P n.t = true) : exc n.l f n.t = excC (cutA P) n.l f := by
  have h1 := nodP_eq n.l f P (n.n.toNat + 1)
  have ht0 := hR.t0
  have ht1 := hR.t1
  have h2 : nodP n.l f P (n.n.toNat + 1) = exc n.l f n.t := by
    have e := sumTo_one (g := fun _ => 0) (j := n.t.toNat) (exc n.l f n.t) (k := n.n.toNat + 1) (by omega)
    rw [sumTo_zero fun i _ => rfl, Int.zero_add] at e
    rw [← e]
    refine sumTo_congr fun v hv => ?_
    by_cases c : v = n.t.toNat
    · subst c
      rw [if_pos rfl, show ((n.t.toNat : Nat) : Int) = n.t by omega, if_pos ht]
    · rw [if_neg c]
      split
      · rename_i hp
        refine hF.calm _ (fun e => ?_) (fun e => c (by omega))
        rw [e, hs] at hp; cases hp
      · rfl
  rw [← h2, h1]
  refine sumTo_congr fun i hi => ?_
  congr 1
  have a1 := hR.fr0 i hi; have a2 := hR.fr1 i hi; have a3 := hR.to0 i hi; have a4 := hR.to1 i hi
  unfold cutK cutA
  by_cases c1 : P (arcAt n.l i).to = true <;> by_cases c2 : P (arcAt n.l i).fr = true
  · rw [if_pos c1, if_pos c2, if_pos ⟨c1, by omega, by omega⟩, if_pos ⟨c2, by omega, by omega⟩]
  · rw [if_pos c1, if_neg c2, if_pos ⟨c1, by omega, by omega⟩, if_neg (fun h => c2 h.1)]
  · rw [if_neg c1, if_pos c2, if_neg (fun h => c1 h.1), if_pos ⟨c2, by omega, by omega⟩]
  · rw [if_neg c1, if_neg c2, if_neg (fun h => c1 h.1), if_neg (fun h => c2 h.1)]
theorem most_one {n : Net} (hR : Right n) {g h L : List Int} (hg : Flow n g) (hh : Flow n h) (hL : IsLev n g 1 L) (hd : amt L n.t.toNat < 0) : exc n.l h n.t ≤ exc n.l g n.t := by
  have hs0 := hR.s0; have hs1 := hR.s1; have ht0 := hR.t0
  have hsl : 0 ≤ amt L n.s.toNat := (hL.low 0 n.s .base).1
  have hs : (fun v : Int => decide (amt L v.toNat < 0)) n.s = false := by simp; omega
  have ht : (fun v : Int => decide (amt L v.toNat < 0)) n.t = true := by simpa using hd
  rw [flow_cut hR hh (P := fun v : Int => decide (amt L v.toNat < 0)) hs ht, flow_cut hR hg (P := fun v : Int => decide (amt L v.toNat < 0)) hs ht]
  have hstep : ∀ r, r < 2 * n.l.length → 0 ≤ amt L (trF n.l r).toNat → 1 ≤ roomN n.l g r → 0 ≤ amt L (trT n.l r).toNat := fun r hr h1 h2 => by
    have hb := trF_bd hR hr
    rcases hL.val (trF n.l r).toNat (by omega) with e | ⟨k, _, hdst⟩
    · omega
    · rw [show (((trF n.l r).toNat : Nat) : Int) = trF n.l r by omega] at hdst
      exact (hL.low _ _ (.step hr h2 hdst)).1
  refine sumTo_le fun i hi => ?_
  obtain ⟨w1, w2⟩ := hg.wi i hi
  obtain ⟨w3, w4⟩ := hh.wi i hi
  unfold cutA
  by_cases c1 : amt L (arcAt n.l i).to.toNat < 0 <;> by_cases c2 : amt L (arcAt n.l i).fr.toNat < 0
  · simp [c1, c2]
  · have h1 := hstep (2 * i) (by omega)
    rw [trF_even, trT_even, room_even] at h1
    have : ¬ 1 ≤ (arcAt n.l i).cap - amt g i := fun e => by have := h1 (by omega) e; omega
    simp only [c1, c2, decide_true, decide_false, if_true, Bool.false_eq_true, if_false]
    omega
  · have h1 := hstep (2 * i + 1) (by omega)
    rw [trF_odd, trT_odd, room_odd] at h1
    have : ¬ 1 ≤ amt g i := fun e => by have := h1 (by omega) e; omega
    simp only [c1, c2, decide_true, decide_false, if_true, Bool.false_eq_true, if_false]
    omega
  · simp [c1, c2]
theorem most_same {n : Net} (hR : Right n) {g h L L2 : List Int} (hg : Flow n g) (hh : Flow n h) (hL : IsLev n g 1 L) (hd : amt L n.t.toNat < 0) (hL2 : IsLev n h 1 L2) (hd2 : amt L2 n.t.toNat < 0) : exc n.l g n.t = exc n.l h n.t := by
  have h1 := most_one hR hg hh hL hd
  have h2 := most_one hR hh hg hL2 hd2
  omega
end Ne
end Go.Proofs.Ytiaddfmgkcebnaa
namespace Go.Proofs.Ytiaddfmgkcebnaa
open Go.ChangeShapes Go.WideShapes Go.ChangeAt Go.RowKit
set_option linter.unusedVariables false
set_option linter.unusedSimpArgs false
namespace Ne
theorem last_step {n : Net} (hR : Right n) {fl L : List Int} (h0 : Flow n fl) (h3 : IsLev n fl 1 L) : ∃ W g, IsBlk n.l (leadL n.l fl 1 L (2 * n.l.length)) fl 1 n.s n.t W g ∧ W.length ≤ 1000000 ∧ Flow n g ∧ (W.length = 0 ↔ amt L n.t.toNat < 0) ∧ (amt L n.t.toNat < 0 → g = fl) ∧ amt L n.t.toNat < n.n ∧ amt L n.t.toNat ≠ 0 ∧ ∃ L2, IsLev n g 1 L2 ∧ (amt L2 n.t.toNat < 0 ∨ amt L n.t.toNat < amt L2 n.t.toNat) := by
  obtain ⟨W, g, hB⟩ := blk_of hR h0.okf (by omega) L (x := 1)
  obtain ⟨L2, hl2⟩ := lev_exists hR g 1
  have hlen := blk_len h0.okf (by omega) hB
  have hle := leadL_len n.l fl 1 L (2 * n.l.length)
  have hml := hR.len
  have ht0 := hR.t0; have ht1 := hR.t1
  have hsome := blk_some hR h3 hB
  refine ⟨W, g, hB, by omega, (blkW_flow hR (lds_of n.l fl 1 L) (by omega) h0 hB.1).1, ?_, fun h => (blk_nought hR h3 hB h).2, ?_, ?_, L2, hl2, ?_⟩
  · rw [List.length_eq_zero_iff]
    constructor
    · intro h
      rcases Int.lt_or_le (amt L n.t.toNat) 0 with c | c
      · exact c
      · exact absurd h (hsome.2 c)
    · intro h; exact (blk_nought hR h3 hB h).1
  · exact (lev_lt hR h3 (i := n.t.toNat) (by omega)).2
  · intro e
    have h1 := lev_only hR h3 (i := n.t.toNat) (by omega) e
    have := hR.ne
    have := hR.s0
    omega
  · by_cases c : 0 ≤ amt L2 n.t.toNat
    · right; exact (blk_far hR h0.okf (by omega) h3 hB hl2 c).2
    · left; omega
set_option maxRecDepth 100000 in
set_option maxHeartbeats 4000000 in
theorem last_any (n : Net) (ao : Option Addr) (cap : Nat) (fo : Option Addr) (fc : Nat) (f : List Int) (w : World) (ck : checkN n = 0) (hr : ARow w ao n.l) (hf : IRow w fo f) (hF : Flow n f) :
    Calls Try.prog 21 #[encN n ao cap, .slice fo n.l.length fc] w fun e w' => ∃ g L, e = .returned (.tuple #[.int .i64 (exc n.l g n.t), .bool true]) ∧ Flow n g ∧ IsLev n g 1 L ∧ amt L n.t.toNat < 0 ∧ Below w.heap.size w w' := by
  have hR := right_of ck
  have hN0 := hR.n0
  have hN1 := hR.n1
  obtain ⟨L1, hl1⟩ := lev_exists hR f 1
  have HB0 := Lib.hid ((Below.refl w.heap.size w).alloc (Nat.le_refl _) (.cells #[.int .i64 n.n, .int .i64 n.s, .int .i64 n.t, .slice ao n.l.length cap] 24))
  have HN0 := Lib.hid (netBox_new w n.n n.s n.t (.slice ao n.l.length cap))
  have HR0 := Lib.hid (hr.kept HB0.out)
  have HF0 := Lib.hid (hf.kept HB0.out)
  have HST := Lib.hid (fun fl L (h0 : Flow n fl) (h3 : IsLev n fl 1 L) => last_step hR h0 h3)
  have BLK := Lib.hid (fun fl fo fc w' L W g (h0 : Flow n fl) (h3 : IsLev n fl 1 L) (h4 : IsBlk n.l (leadL n.l fl 1 L (2 * n.l.length)) fl 1 n.s n.t W g) h1 h2 => tblock_flow (n := n) (f := fl) ao cap fo fc w' ck h1 h2 h0.okf (by omega) h3 h4)
  have VAL := Lib.hid (fun fl fo fc w' (h0 : Flow n fl) h1 h2 => val_flow (n := n) (f := fl) ao cap fo fc w' ck h1 h2 h0)
  have SMR := Lib.hid (fun (fl : List Int) x1 x2 y1 y2 w' h1 h2 (h3 : Flow n fl) => show Calls Try.prog 12 #[.slice x1 n.l.length y1, .slice x2 n.l.length y2] w' fun e w2 => e = .returned (.bool true) ∧ Below w'.heap.size w' w2 from by
    have hl := h3.len
    have hml := hR.len
    have := rsame_l x1 x2 y1 y2 fl fl w' h1 h2 (by omega) (by omega)
    rwa [hl, show decide (fl = fl) = true by simp] at this)
  have HT0 := Lib.hid (show amt L1 n.t.toNat < 0 ∨ ((0 : Nat) : Int) < amt L1 n.t.toNat from by
    obtain ⟨_, _, _, _, _, _, _, _, h, _⟩ := last_step hR hF hl1
    omega)
  have HFL := Lib.hid hF
  have HLV := Lib.hid hl1
  have HNB := Lib.hid (show 2 ≤ n.n ∧ n.n ≤ 500 from ⟨hN0, hN1⟩)
  obtain ⟨bn, hbn⟩ : ∃ bn, bn = w.heap.size := ⟨_, rfl⟩
  rw [← hbn] at HN0
  have HBN := Lib.hid hbn
  clear hr hf hF hR ck hl1
  obtain ⟨n0, n1, n2, n3⟩ := netBox_cells HN0.out
  go_enter Try.func21, Try.ntmps21
  go_wp2
  rw [← hbn]
  clear hbn hN0 hN1 n0 n1 n2 n3
  generalize (w.alloc (.cells #[.int .i64 n.n, .int .i64 n.s, .int .i64 n.t, .slice ao n.l.length cap] 24)) = w1 at *
  go_loopg [1, 6] n.n.toNat (fun gg s1 s6 wr => ∃ (fl : List Int) (fo : Option Addr) (fc k : Nat) (L : List Int), s1 = .slice fo n.l.length fc ∧ s6 = .int .i64 (k : Int) ∧ k + gg = n.n.toNat ∧ (k : Int) < n.n ∧ Hid (Flow n fl) ∧ Hid (IsLev n fl 1 L) ∧ Hid (amt L n.t.toNat < 0 ∨ (k : Int) < amt L n.t.toNat) ∧ Hid (IRow wr fo fl) ∧ Hid (Below w1.heap.size w1 wr))
  case atStart => exact ⟨f, fo, fc, 0, L1, rfl, rfl, by omega, by have := HNB.out; omega, HFL, HLV, HT0, HF0, Lib.hid (Below.refl _ _)⟩
  case round =>
    obtain ⟨fl, fo, fc, k, L, rfl, rfl, hg, hkN, HFW, HLW, HKW, HIW, HBW⟩ := hrel
    have HRW := Lib.hid (HR0.out.kept HBW.out)
    have HNW := Lib.hid (netBox_below HN0.out HBW.out (netBox_lt HN0.out))
    obtain ⟨n0, n1, n2, n3⟩ := netBox_cells HNW.out
    obtain ⟨W, g2, hB, hWl, hF2, hW0, hsame, hlt, hne, L2, hl2, hfar⟩ := HST.out fl L HFW.out HLW.out
    have BC := Lib.hid (BLK.out fl fo fc wr L W g2 HFW.out HLW.out hB HRW.out HIW.out)
    have hkw := HKW.out
    obtain ⟨wl, hwl⟩ : ∃ wl, W.length = wl := ⟨_, rfl⟩
    rw [hwl] at BC hW0 hWl
    obtain ⟨d, hd⟩ : ∃ d, d = amt L n.t.toNat := ⟨_, rfl⟩
    rw [← hd] at hW0 hsame hlt hne hfar hkw
    have HD := Lib.hid hd
    have hkn : (k : Int) ≤ n.n := by omega
    clear hd hwl hB
    go_wp2_with fail
    refine BC.out.mono ?_
    rintro e w5 ⟨o5, c5, st, rfl, hi5, _, hb⟩
    have HB5 := Lib.hid (HBW.out.trans (hb.mono HBW.out.size))
    have HI5 := Lib.hid hi5
    have HJ5 := Lib.hid (HIW.out.kept hb)
    have HR5 := Lib.hid (HR0.out.kept HB5.out)
    have HN5 := Lib.hid (netBox_below HN0.out HB5.out (netBox_lt HN0.out))
    clear hb n0 n1 n2 n3 hi5
    obtain ⟨n0, n1, n2, n3⟩ := netBox_cells HN5.out
    by_cases hdn : d < 0
    · have hw0 := hW0.2 hdn
      subst hw0
      have e := hsame hdn
      subst e
      have VC := Lib.hid (VAL.out g2 fo fc w5 HFW.out HR5.out HJ5.out)
      have HDN := Lib.hid (show amt L n.t.toNat < 0 by rw [← HD.out]; exact hdn)
      clear hW0 hsame hlt hne hfar hkw hdn hWl hl2
      go_wp2_with fail
      refine VC.out.mono ?_
      rintro e w6 ⟨rfl, hb⟩
      have HB6 := Lib.hid (HB5.out.trans (hb.mono HB5.out.size))
      have HI6 := Lib.hid (HI5.out.kept hb)
      have HJ6 := Lib.hid (HJ5.out.kept hb)
      have HN6 := Lib.hid (netBox_below HN0.out HB6.out (netBox_lt HN0.out))
      have SC := Lib.hid (SMR.out g2 fo o5 fc c5 w6.drew (HJ6.out.kept (below_drew (Below.refl _ _))) (HI6.out.kept (below_drew (Below.refl _ _))) HFW.out)
      clear hb n0 n1 n2 n3
      obtain ⟨n0, n1, n2, n3⟩ := netBox_cells HN6.out
      go_wp2
      go_region_with (go_at_call 12; refine SC.out.mono ?_; rintro e w7 ⟨rfl, hb⟩; have HB7 := Lib.hid ((below_drew HB6.out).trans (hb.mono HB6.out.size)); obtain ⟨q0, q1, q2, q3⟩ := netBox_cells (netBox_below HN0.out HB7.out (netBox_lt HN0.out)); clear hb)
      all_goals
        go_wp2
        go_ret2
        exact ⟨g2, L, rfl, HFW.out, HLW.out, HDN.out, HB0.out.trans (HB7.out.mono HB0.out.size)⟩
    · have hwn : ¬ wl = 0 := fun e => hdn (hW0.1 e)
      have hw0 : ((wl : Int) == 0) = false := by simp; omega
      have hw1 : IntKind.i64.wrap ((k : Int) + 1) = ((k + 1 : Nat) : Int) := by have := HNB.out; rw [IntKind.wrap_i64]; omega
      have HK2 := Lib.hid (show ((k + 1 : Nat) : Int) < n.n from by rcases hkw with h | h <;> omega)
      have HF2 := Lib.hid hF2
      have HL2 := Lib.hid hl2
      have HFA := Lib.hid (show amt L2 n.t.toNat < 0 ∨ ((k + 1 : Nat) : Int) < amt L2 n.t.toNat by rcases hfar with h | h <;> rcases hkw with h2 | h2 <;> omega)
      clear hW0 hsame hlt hne hfar hkw hdn hWl hF2 hl2 hwn
      go_wp2
      go_roundg (n.n.toNat - (k + 1))
      case measure => omega
      case rel => exact ⟨g2, o5, c5, k + 1, L2, rfl, rfl, by have := HK2.out; omega, HK2.out, HF2, HL2, HFA, HI5, HB5⟩
end Ne
end Go.Proofs.Ytiaddfmgkcebnaa
