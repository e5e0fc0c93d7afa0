/-
  Res6, Res7, Rfl6, Sr1, Sr4, Res3, Frsm, Rfp6, Wkr, Lst
-/
import Derived.Test.YtiaddfmgkcebnaaBunA11
import Derived.Test.YtiaddfmgkcebnaaBunA7
import Derived.Deep.LoopGhost
import Derived.Test.YtiaddfmgkcebnaaBunA12
import Derived.Deep.DeepCutAuto
import Derived.WalkMore
import Derived.RegionTactic
import Derived.BigRegion
import Derived.Deep.QuietTactic
import Derived.Deep.RegionWith
import Derived.Test.YtiaddfmgkcebnaaBunA6
import Derived.Test.YtiaddfmgkcebnaaBunA2
import Derived.BigQuiet
import Derived.LoopTactic
import Derived.Below
import Derived.Test.YtiaddfmgkcebnaaBunA9
namespace Go.Proofs.Ytiaddfmgkcebnaa
open Go.ChangeShapes Go.WideShapes Go.ChangeAt Go.RowKit
set_option linter.unusedVariables false
set_option linter.unusedSimpArgs false
namespace Ne
structure ReachAns (n : Net) (f : List Int) (x : Int) (w : World) (ao : Option Addr) (M : List Bool) : Prop where
  bad : reE n f x ≠ 0 → M = []
  good : reE n f x = 0 → IsReach n f x M ∧ ∃ b, ao = some ⟨b, 0, none⟩ ∧ BBox w b M
theorem reE_ok {n : Net} {f : List Int} {x : Int} (h : reE n f x = 0) : chkF n f = 0 ∧ 1 ≤ x := by
  unfold reE at h
  by_cases c : chkF n f = 0
  · rw [if_neg (by simpa using c)] at h
    by_cases d : x < 1
    · rw [if_pos d] at h; cases h
    · exact ⟨c, by omega⟩
  · rw [if_pos c] at h; exact absurd h c
theorem ret2w {v : Value} {a b : Int} (h : a = b) : Ending.returned (.tuple #[v, .int .i64 a]) = .returned (.tuple #[v, .int .i64 b]) := by rw [h]
end Ne
namespace Ne
set_option maxRecDepth 100000 in
set_option maxHeartbeats 4000000 in
theorem dreach_any (n : Net) (ao : Option Addr) (cap : Nat) (fo : Option Addr) (fc : Nat) (f : List Int) (x : Int) (w : World) (hr : ARow w ao n.l) (hf : IRow w fo f) (hl : n.l.length ≤ 1000000) (hok : ∀ a ∈ n.l, in64 a.cap) :
    Calls Try.prog 64 #[encN n ao cap, .slice fo f.length fc, .int .i64 x] w fun e w' => ∃ o c M, e = .returned (.tuple #[.slice o M.length c, .int .i64 (reE n f x)]) ∧ ReachAns n f x w' o M ∧ Below w.heap.size w w' := by
  have CK := Lib.hid (fun w' (h1 : ARow w' ao n.l) (h2 : IRow w' fo f) => fchk_any n ao cap fo fc f w' h1 h2 hl hok)
  by_cases c0 : chkF n f = 0
  case neg =>
    have HE := Lib.hid (show reE n f x = chkF n f by unfold reE; rw [if_pos c0])
    have HNZ := Lib.hid (show reE n f x ≠ 0 by rw [HE.out]; exact c0)
    have HAN := Lib.hid (show ∀ w', ReachAns n f x w' none [] from fun w' => ⟨fun _ => rfl, fun h => absurd h HNZ.out⟩)
    generalize hRE : reE n f x = RE at *
    generalize hRA : ReachAns n f x = RA at *
    clear hRE hRA
    generalize chkF n f = c at *
    generalize f.length = fl at *
    obtain ⟨nn, ns, nt, l⟩ := n
    simp only at hr CK ⊢
    have HB0 := Lib.hid ((Below.refl w.heap.size w).alloc (Nat.le_refl _) (.cells #[.int .i64 nn, .int .i64 ns, .int .i64 nt, .slice ao l.length cap] 24))
    have c1' : (c == 0) = false := by simpa using c0
    have c1n : (c != 0) = true := by simpa using c0
    have HR := Lib.hid (hr.kept HB0.out)
    have HF := Lib.hid (hf.kept HB0.out)
    clear hr hf c0
    go_enter Try.func64, Try.ntmps64
    go_wp2_with fail
    refine (CK.out _ HR.out HF.out).mono ?_
    rintro e w1 ⟨rfl, hb⟩
    have HB1 := Lib.hid (HB0.out.trans (hb.mono (by simp)))
    clear hb
    go_wp2
    go_ret2
    exact ⟨none, 0, [], ret2w HE.out.symm, HAN.out _, HB1.out⟩
  obtain ⟨-, hR, hfl, hwi⟩ := chkA_ok (chkF_ok c0).1
  have HLO := Lib.hid (show x < 1 → reE n f x = 3 from fun h => by unfold reE; rw [if_neg (by simpa using c0), if_pos h])
  have HOK := Lib.hid (show 1 ≤ x → reE n f x = 0 from fun h => by unfold reE; rw [if_neg (by simpa using c0), if_neg (by omega)])
  have HAB := Lib.hid (show ∀ w', reE n f x ≠ 0 → ReachAns n f x w' none [] from fun w' h => ⟨fun _ => rfl, fun h2 => absurd h2 h⟩)
  have HAG := Lib.hid (show ∀ w' b M, reE n f x = 0 → IsReach n f x M → BBox w' b M → ReachAns n f x w' (some ⟨b, 0, none⟩) M from fun w' b M h h1 h2 => ⟨fun h3 => absurd h h3, fun _ => ⟨h1, b, rfl, h2⟩⟩)
  have HLN := Lib.hid (show ∀ M, IsReach n f x M → M.length = n.n.toNat + 1 from fun M h => h.len)
  rw [c0] at CK
  rw [hfl] at CK ⊢
  have RE1 := Lib.hid (fun w' h1 h2 => reached_any n ao cap fo fc f x w' h1 h2 hR hfl hwi)
  generalize hIR : IsReach n f x = IR at *
  generalize hRE : reE n f x = RE at *
  generalize hRW : ReachAns n f x = RW at *
  clear hR hfl hwi c0 hIR hRE hRW
  obtain ⟨nn, ns, nt, l⟩ := n
  simp only at hr hl CK RE1 HLN ⊢
  have HB0 := Lib.hid ((Below.refl w.heap.size w).alloc (Nat.le_refl _) (.cells #[.int .i64 nn, .int .i64 ns, .int .i64 nt, .slice ao l.length cap] 24))
  have HN0 := Lib.hid (netBox_new w nn ns nt (.slice ao l.length cap))
  have HR := Lib.hid (hr.kept HB0.out)
  have HF := Lib.hid (hf.kept HB0.out)
  clear hr hf hok
  go_enter Try.func64, Try.ntmps64
  go_wp2_with fail
  refine (CK.out _ HR.out HF.out).mono ?_
  rintro e w1 ⟨rfl, hb⟩
  have HB1 := Lib.hid (HB0.out.trans (hb.mono (by simp)))
  have HN1 := Lib.hid (netBox_below HN0.out hb (by simp))
  have HR1 := Lib.hid (HR.out.kept hb)
  have HF1 := Lib.hid (HF.out.kept hb)
  obtain ⟨n0, n1, n2, n3⟩ := netBox_cells HN1.out
  clear hb HB0 HN0 HR HF CK
  by_cases hx : x < 1
  · have HE := Lib.hid (HLO.out hx)
    have HA := Lib.hid (fun w' => HAB.out w' (by rw [HE.out]; decide))
    have hx' : decide (x < 1) = true := by simpa using hx
    clear hx
    go_wp2
    go_ret2
    exact ⟨none, 0, [], ret2w HE.out.symm, HA.out _, HB1.out⟩
  have hx' : decide (x < 1) = false := by simpa using hx
  have HE := Lib.hid (HOK.out (by omega))
  clear hx HLO HOK
  go_wp2_with fail
  refine (RE1.out _ HR1.out HF1.out).mono ?_
  rintro e w2 ⟨b, M, rfl, hi, hm, hb⟩
  have HB2 := Lib.hid (HB1.out.trans (hb.mono HB1.out.size))
  have HI := Lib.hid hi
  have HM := Lib.hid hm
  have HL := Lib.hid (HLN.out M hi)
  clear hb hi hm n0 n1 n2 n3
  go_wp2
  go_ret2
  exact ⟨some ⟨b, 0, none⟩, nn.toNat + 1, M, by rw [HL.out, HE.out]; rfl, HAG.out _ b M HE.out HI.out HM.out, HB2.out⟩
end Ne
namespace Ne
theorem droom_s (n : Net) (ao : Option Addr) (cap : Nat) (fo : Option Addr) (fc : Nat) (f : List Int) (w : World) (hr : ARow w ao n.l) (hf : IRow w fo f) (hl : n.l.length ≤ 1000000) (hok : ∀ a ∈ n.l, in64 a.cap) :
    Calls Try.prog 22 #[encN n ao cap, .slice fo f.length fc] w fun e w' => ∃ o c, e = .returned (.tuple #[.slice o (roomV n f).length c, .int .i64 (chkF n f)]) ∧ IRow w' o (roomV n f) ∧ Below w.heap.size w w' :=
  (droom_any n ao cap fo fc f w hr hf hl hok).mono fun e w' ⟨v, h1, h2, h3⟩ => by
    obtain ⟨o, c, hx, _, hi⟩ := irow_ofL h2
    exact ⟨o, c, by rw [h1, hx], hi, h3⟩
theorem ends_at (n : Net) (ao : Option Addr) (cap : Nat) (r : Nat) (w : World) (hr : ARow w ao n.l) (hl : n.l.length ≤ 1000000) (h : r < 2 * n.l.length) :
    Calls Try.prog 44 #[encN n ao cap, .int .i64 (r : Int)] w fun e w' => e = .returned (.tuple #[.int .i64 (trF n.l r), .int .i64 (trT n.l r)]) ∧ Below w.heap.size w w' := by
  have := ends_any n ao cap (r : Int) w hr hl (by unfold in64; omega)
  rwa [enF_in h, enT_in h] at this
section
variable {n : Net} (ao : Option Addr) (cap : Nat) (fo : Option Addr) (fc : Nat) {f : List Int} (w : World) (ck : checkN n = 0) (hr : ARow w ao n.l) (hf : IRow w fo f) (hF : Flow n f)
include ck hr hf hF
end
end Ne
namespace Ne
theorem ends_nat (n : Net) (ao : Option Addr) (cap : Nat) (r : Nat) (w : World) (hR : Right n) (hr : ARow w ao n.l) (h : r < 2 * n.l.length) :
    Calls Try.prog 44 #[encN n ao cap, .int .i64 (r : Int)] w fun e w' => e = .returned (.tuple #[.int .i64 (((trF n.l r).toNat : Nat) : Int), .int .i64 (((trT n.l r).toNat : Nat) : Int)]) ∧ Below w.heap.size w w' := by
  have h1 := ends_at n ao cap r w hr (by have := hR.len; omega) h
  have hb := trF_bd hR h; have hb2 := trT_bd hR h
  rwa [show trF n.l r = (((trF n.l r).toNat : Nat) : Int) by omega, show trT n.l r = (((trT n.l r).toNat : Nat) : Int) by omega] at h1
section
variable {n : Net} {ao : Option Addr} {cap : Nat} {x : Int} {w0 w : World} {sb lb lo hi : Nat} {rv : Value} {RM : List Int} {VS : Nat → Value} {U : Nat → List Nat} {M : List Bool}
end
end Ne
end Go.Proofs.Ytiaddfmgkcebnaa
namespace Go.Proofs.Ytiaddfmgkcebnaa
open Go.ChangeShapes Go.WideShapes Go.ChangeAt Go.RowKit
set_option linter.unusedVariables false
set_option linter.unusedSimpArgs false
namespace Ne
section
variable {n : Net} {ao : Option Addr} {cap : Nat} {x : Int} {w0 w : World} {sb lb lo hi : Nat} {rv : Value} {RM : List Int} {VS : Nat → Value} {U : Nat → List Nat} {M : List Bool}
end
end Ne
end Go.Proofs.Ytiaddfmgkcebnaa
namespace Go.Proofs.Ytiaddfmgkcebnaa
open Go.ChangeShapes Go.WideShapes Go.ChangeAt Go.RowKit
set_option linter.unusedVariables false
set_option linter.unusedSimpArgs false
namespace Ne
section
variable {n : Net} {TL : List Nat} {gf : List Int} {x : Int} {RM : List Int} {L : List Int} (hR : Right n) (hL : Lds n.l L TL)
include hR hL
end
section
variable {n : Net} {ao : Option Addr} {cap : Nat} {x : Int} {w0 w : World} {sb lb lo hi : Nat} {rv : Value} {RM : List Int} {VS : Nat → Value} {U : Nat → List Nat} {TL : List Nat} {gf : List Int} {L : List Int}
end
end Ne
namespace Ne
def headL (l : List Arc) (TL : List Nat) (k v : Nat) : List Nat := (TL.take k).filter fun r => decide ((trF l r).toNat = v)
theorem headL_step {l : List Arc} {TL : List Nat} {k : Nat} (hk : k < TL.length) (v : Nat) : (if v = (trF l (TL.getD k 0)).toNat then headL l TL k (trF l (TL.getD k 0)).toNat ++ [TL.getD k 0] else headL l TL k v) = headL l TL (k + 1) v := by
  unfold headL
  rw [take_getD hk, List.filter_append]
  generalize TL.getD k 0 = r
  by_cases e : v = (trF l r).toNat
  · subst e
    rw [if_pos rfl]
    simp
  · rw [if_neg e]
    have e2 : ¬ (trF l r).toNat = v := fun h => e h.symm
    simp [e2]
theorem headL_len (l : List Arc) (TL : List Nat) (k v : Nat) : (headL l TL k v).length ≤ k := by
  unfold headL
  exact Nat.le_trans (List.length_filter_le _ _) (by rw [List.length_take]; omega)
section
variable {n : Net} (ao : Option Addr) (cap : Nat) (fo : Option Addr) (fc : Nat) {f : List Int} (x : Int) (w : World) {TL : List Nat} {L : List Int}
end
end Ne
namespace Ne
set_option maxHeartbeats 1000000 in
theorem clonel_any (l : List Int) (ao : Option Addr) (n cap : Nat) (w : World) (hn : n = l.length) (hr : IRow w ao l) (hl : l.length ≤ 1000000) (h0 : 0 < l.length) :
    Calls Try.prog 34 #[.slice ao n cap] w fun e w' => ∃ g c, e = .returned (.slice (some ⟨g, 0, none⟩) n c) ∧ OwnL w' w.heap.size (.slice (some ⟨g, 0, none⟩) n c) l ∧ Below w.heap.size w w' := by
  have q : ∀ (w : World) (a : Option Addr) (n c n' c' : Nat), (binOp .eql 25 (.slice a n c) (.slice none n' c')).run Try.prog w = .ok (.bool a.isNone) w := fun w a n c n' c' => Lib.run_eql_slice_nil w _ _ a n c n' c' Try.underlying25
  subst hn
  obtain ⟨b, off, rfl, _, _⟩ := irow_cell hr h0
  have HR := Lib.hid (hr.kept ((Below.refl _ _).alloc (Nat.le_refl _) (.cells #[] 2)))
  have HL := Lib.hid (show ([] : List Int).length + l.length ≤ 1099511627776 by simp; omega)
  have H0 := Lib.hid h0
  clear hr hl h0
  go_enter Try.func34, Try.ntmps34
  go_wp2_with (at_builtin; refine Rw.app elemL encI_len encI_one rfl (.tmp 5) (.tmp 6) rfl w.heap.size _ ([] : List Int) rfl (own_empty w _ (Nat.le_refl _)) (some ⟨b, off, none⟩) cap l rfl ?hnn HR.out HL.out ?hB ?_; (case hnn => (intro h; cases h)); (case hB => (simp)); intro v2 w2 hown2 hgr2; have HO2 := Lib.hid hown2; have HB2 := Lib.hid (((Below.refl w.heap.size w).alloc (Nat.le_refl _) (.cells #[] 2)).grown hgr2 (by simp) (Rw.own_block (own_empty (α := Int) (k := 1) (enc := encI) (e := 2) w w.heap.size (Nat.le_refl _)))); clear hown2 hgr2)
  go_ret
  have h := HO2.out
  rw [List.nil_append] at h
  obtain ⟨g, c, rfl, _, _⟩ := ownL_row' h H0.out
  exact ⟨g, c, rfl, h, HB2.out⟩
end Ne
end Go.Proofs.Ytiaddfmgkcebnaa
namespace Go.Proofs.Ytiaddfmgkcebnaa
open Go.ChangeShapes Go.WideShapes Go.ChangeAt Go.RowKit
set_option linter.unusedVariables false
namespace Ne

set_option maxHeartbeats 2000000 in
theorem rsame_l (a1 a2 : Option Addr) (c1 c2 : Nat) (l1 l2 : List Int) (w : World) (r1 : IRow w a1 l1) (r2 : IRow w a2 l2) (h1 : l1.length ≤ 1099511627776) (h2 : l2.length ≤ 1099511627776) :
    Calls Try.prog 12 #[.slice a1 l1.length c1, .slice a2 l2.length c2] w fun e w' => e = .returned (.bool (decide (l1 = l2))) ∧ Below w.heap.size w w' := by
  by_cases hl : l1.length = l2.length
  · have hne : ((l1.length : Int) == (l2.length : Int)) = true := by simp; omega
    have HL := Lib.hid hl
    rw [← hl] at hne ⊢
    clear hne hl
    have R1 := Lib.hid r1
    have R2 := Lib.hid r2
    clear r1 r2
    go_enter Try.func12, Try.ntmps12
    go_wp2
    go_loopw [5] (fun i wr => ∃ (k q : Nat), k ≤ l1.length ∧ i = .int .i64 k ∧ wr = w.drewN q ∧ l1.take k = l2.take k) (fun i _ => l1.length - (intOf i).toNat)
    case atStart => exact ⟨0, 0, Nat.zero_le _, rfl, rfl, by simp⟩
    case round =>
      obtain ⟨k, q, hk, rfl, rfl, he⟩ := hrel
      by_cases hlt : k < l1.length
      · obtain ⟨x, g1⟩ : ∃ x, l1[k]? = some x := ⟨_, List.getElem?_eq_getElem hlt⟩
        obtain ⟨y, g2⟩ : ∃ y, l2[k]? = some y := ⟨_, List.getElem?_eq_getElem (by have := HL.out; omega)⟩
        rcases R1.out with h | ⟨b1, o1, rfl, _, k1⟩
        · rw [h] at hlt; simp at hlt
        rcases R2.out with h | ⟨b2, o2, rfl, _, k2⟩
        · exfalso; have := HL.out; rw [h] at this; rw [this] at hlt; simp at hlt
        have hc1 := irow_at k1 g1
        have hc2 := irow_at k2 g2
        clear k1 k2
        by_cases hxy : x = y
        · have HN := Lib.hid (take_succ_eq he g1 g2 hxy)
          subst hxy
          clear he g1 g2
          go_wp2
          go_quiet (fail)
          go_wp2
          go_roundw
          case rel => exact ⟨k + 1, q + nq, by omega, by go_num, rfl, HN.out⟩
          case measure => simp [intOf]; omega
        · have HN := Lib.hid (ne_at g1 g2 hxy)
          have hxy' : (x == y) = false := by simpa using hxy
          clear he g1 g2 hxy
          go_wp2
          go_quiet (fail)
          go_wp2
          go_ret
          exact ⟨retB (decide_eq_false HN.out).symm, (below_drewN w q).trans ⟨rfl, rfl, rfl, Nat.le_refl _, fun _ _ => rfl⟩⟩
      · have ek : k = l1.length := by omega
        subst ek
        have t2 : l2.take l1.length = l2 := by rw [HL.out]; exact List.take_length
        rw [List.take_length, t2] at he
        have HN := Lib.hid he
        clear t2
        clear he hlt
        go_wp2
        go_ret
        exact ⟨retB (decide_eq_true HN.out).symm, below_drewN _ _⟩
  · have hne : ((l1.length : Int) == (l2.length : Int)) = false := by simp; omega
    have HN := Lib.hid (show l1 ≠ l2 from fun h => hl (by rw [h]))
    clear hl r1 r2
    go_enter Try.func12, Try.ntmps12
    go_wp2
    go_ret
    exact ⟨retB (decide_eq_false HN.out).symm, Below.refl _ _⟩

end Ne
end Go.Proofs.Ytiaddfmgkcebnaa
namespace Go.Proofs.Ytiaddfmgkcebnaa
open Go.ChangeShapes Go.WideShapes Go.ChangeAt Go.RowKit
set_option linter.unusedVariables false
set_option linter.unusedSimpArgs false
namespace Ne
section
variable {n : Net} (ao : Option Addr) (cap : Nat) (fo : Option Addr) (fc : Nat) {f : List Int} (w : World) (ck : checkN n = 0) (hr : ARow w ao n.l) (hf : IRow w fo f) (hF : Flow n f)
include ck hr hf hF
end
end Ne
namespace Ne
section
variable {e : TypeId} {w w2 : World} {B : Nat} {v : Value} {Ws : List (List Nat × Int)}
end
theorem first_walk {n : Net} {TL : List Nat} {L : List Int} (hL : Lds n.l L TL) {g : List Int} {x : Int} {R : List Nat} (h : FirstW n.l TL g x n.t n.s R) : isWalk n (encW R) = true := by
  unfold isWalk
  rw [wlk_at hL (firstW_wlk h)]
  simp
set_option maxHeartbeats 1000000 in
theorem cloneL_any (l : List Int) (ao : Option Addr) (n cap : Nat) (w : World) (hn : n = l.length) (hr : IRow w ao l) (hl : l.length ≤ 1000000) :
    Calls Try.prog 34 #[.slice ao n cap] w fun e w' => ∃ o c, e = .returned (.slice o n c) ∧ OwnL w' w.heap.size (.slice o n c) l ∧ Below w.heap.size w w' := by
  rcases l with _ | ⟨z, zs⟩
  · simp only [List.length_nil] at hn
    subst hn
    have q : ∀ (w : World) (a : Option Addr) (n c n' c' : Nat), (binOp .eql 25 (.slice a n c) (.slice none n' c')).run Try.prog w = .ok (.bool a.isNone) w := fun w a n c n' c' => Lib.run_eql_slice_nil w _ _ a n c n' c' Try.underlying25
    rcases ao with _ | ad
    · go_enter Try.func34, Try.ntmps34
      go_wp2
      go_ret
      exact ⟨none, 0, rfl, Rw.own_nil _ _, Below.refl _ _⟩
    · have HR := Lib.hid (hr.kept ((Below.refl _ _).alloc (Nat.le_refl _) (.cells #[] 2)))
      clear hr hl
      go_enter Try.func34, Try.ntmps34
      go_wp2_with (at_builtin; refine Rw.app elemL encI_len encI_one rfl (.tmp 5) (.tmp 6) rfl w.heap.size _ ([] : List Int) rfl (own_empty w _ (Nat.le_refl _)) (some ad) cap ([] : List Int) rfl ?hnn HR.out (by simp) ?hB ?_; (case hnn => (intro h; cases h)); (case hB => (simp)); intro v2 w2 hown2 hgr2; have HO2 := Lib.hid hown2; have HB2 := Lib.hid (((Below.refl w.heap.size w).alloc (Nat.le_refl _) (.cells #[] 2)).grown hgr2 (by simp) (Rw.own_block (own_empty (α := Int) (k := 1) (enc := encI) (e := 2) w w.heap.size (Nat.le_refl _)))); clear hown2 hgr2)
      go_ret
      have h := HO2.out
      rw [List.nil_append] at h
      obtain ⟨o, c, h1, _, _, _, h2, _⟩ := Rw.own_row encI_len h
      rw [h1] at h
      exact ⟨o, c, by rw [h1]; rfl, h, HB2.out⟩
  · exact (clonel_any (z :: zs) ao n cap w hn hr hl (by simp)).mono fun e w' ⟨g, c, h1, h2, h3⟩ => ⟨_, c, h1, h2, h3⟩
end Ne
namespace Ne
structure LvSt (w : World) (B g bl bw bm n1 : Nat) (L : List Int) (VW : Value) (W : List Nat) (VM : Value) (M : List Nat) : Prop where
  boxL : SBox w bl (.slice (some ⟨g, 0, none⟩) n1 n1)
  row : IBox w g L
  len : L.length = n1
  boxW : SBox w bw VW
  ow : OwnI w B VW (encW W)
  boxM : SBox w bm VM
  om : OwnI w B VM (encW M)
  sep : ∀ h, VW.ownBlock = some h → VM.ownBlock ≠ some h
  low : g < B ∧ bl < B ∧ bw < B ∧ bm < B
  ne : g ≠ bl ∧ g ≠ bw ∧ g ≠ bm ∧ bl ≠ bw ∧ bl ≠ bm ∧ bw ≠ bm
  sz : B ≤ w.heap.size
structure Fr (B g bl bw bm : Nat) (w w2 : World) : Prop where
  os : w2.os = w.os
  tape : w2.tape = w.tape
  output : w2.output = w.output
  size : w.heap.size ≤ w2.heap.size
  block : ∀ k, k < B → k ≠ g → k ≠ bl → k ≠ bw → k ≠ bm → w2.heap[k]? = w.heap[k]?
theorem Fr.refl (B g bl bw bm : Nat) (w : World) : Fr B g bl bw bm w w := ⟨rfl, rfl, rfl, Nat.le_refl _, fun _ _ _ _ _ _ => rfl⟩
theorem Fr.trans {B g bl bw bm : Nat} {a b c : World} (h : Fr B g bl bw bm a b) (k : Fr B g bl bw bm b c) : Fr B g bl bw bm a c :=
  ⟨k.os.trans h.os, k.tape.trans h.tape, k.output.trans h.output, Nat.le_trans h.size k.size, fun i h1 h2 h3 h4 h5 => (k.block i h1 h2 h3 h4 h5).trans (h.block i h1 h2 h3 h4 h5)⟩
theorem Fr.below {B g bl bw bm B0 : Nat} {w w2 : World} (h : Fr B g bl bw bm w w2) (h0 : B0 ≤ B) (h1 : B0 ≤ g) (h2 : B0 ≤ bl) (h3 : B0 ≤ bw) (h4 : B0 ≤ bm) : Below B0 w w2 :=
  ⟨h.os, h.tape, h.output, h.size, fun k hk => h.block k (by omega) (by omega) (by omega) (by omega) (by omega)⟩
theorem Fr.of_below {B g bl bw bm : Nat} {w w2 : World} (h : Below B w w2) : Fr B g bl bw bm w w2 :=
  ⟨h.os, h.tape, h.output, h.size, fun k hk _ _ _ _ => h.block k hk⟩
theorem Fr.set {B g bl bw bm : Nat} {w w2 : World} (h : Fr B g bl bw bm w w2) {p : Addr} (hp : p.block = g ∨ p.block = bl ∨ p.block = bw ∨ p.block = bm) (v : Value) : Fr B g bl bw bm w (w2.setCell p v) :=
  ⟨h.os, h.tape, h.output, by have := h.size; simpa [World.setCell] using this, fun k h1 h2 h3 h4 h5 => (Below.heap_setCell _ _ _ _ (by rcases hp with e | e | e | e <;> rw [e] <;> assumption)).trans (h.block k h1 h2 h3 h4 h5)⟩
theorem Fr.grown {B g bl bw bm : Nat} {w w2 w3 : World} {row : Option Nat} (h : Fr B g bl bw bm w w2) (hg : w2.grownBy w3 row) (hB : B ≤ w2.heap.size) (hr : ∀ k, row = some k → B ≤ k) : Fr B g bl bw bm w w3 :=
  ⟨hg.os.trans h.os, hg.tape.trans h.tape, hg.output.trans h.output, Nat.le_trans h.size hg.size, fun k h1 h2 h3 h4 h5 => (hg.block k (by omega) (fun e => by have := hr k e.symm; omega)).trans (h.block k h1 h2 h3 h4 h5)⟩
theorem Fr.alloc {B g bl bw bm : Nat} {w w2 : World} (h : Fr B g bl bw bm w w2) (hB : B ≤ w2.heap.size) (o : Obj) : Fr B g bl bw bm w (w2.alloc o) :=
  h.trans (.of_below ((Below.refl B w2).alloc hB o))
theorem IBox.growth {w w2 : World} {b : Nat} {l : List Int} {row : Option Nat} (h : IBox w b l) (hg : w.grownBy w2 row) (hne : some b ≠ row) : IBox w2 b l := h.same (hg.block b h.lt hne)
theorem SBox.growth {w w2 : World} {b : Nat} {v : Value} {row : Option Nat} (h : SBox w b v) (hg : w.grownBy w2 row) (hne : some b ≠ row) : SBox w2 b v := h.same (hg.block b h.lt hne)
theorem lvst_met {w w4 : World} {B g bl bw bm n1 : Nat} {L : List Int} {VW : Value} {W : List Nat} {VM : Value} {M : List Nat} (st : LvSt w B g bl bw bm n1 L VW W VM M) {v : Nat} (hv : v < n1) (k : Int) {x : Value}
    (hg : ((w.setCell ⟨g, v, none⟩ (.int .i64 k)).alloc (.cells #[.int .i64 (v : Int)] 3)).grownBy w4 VM.ownBlock) (ho : OwnI w4 B x (encW (M ++ [v])))
    (hx : x.ownBlock = VM.ownBlock ∨ x.ownBlock = some ((w.setCell ⟨g, v, none⟩ (.int .i64 k)).alloc (.cells #[.int .i64 (v : Int)] 3)).heap.size) :
    SBox w4 bm VM ∧ LvSt (w4.setCell ⟨bm, 0, none⟩ x) B g bl bw bm n1 (L.set v k) VW W x (M ++ [v]) ∧ Fr B g bl bw bm w (w4.setCell ⟨bm, 0, none⟩ x) := by
  obtain ⟨l1, l2, l3, l4⟩ := st.low
  obtain ⟨e1, e2, e3, e4, e5, e6⟩ := st.ne
  have hlm := Rw.own_lt st.om
  have hlw := Rw.own_lt st.ow
  have hsz := st.sz
  have hz : ((w.setCell ⟨g, v, none⟩ (.int .i64 k)).alloc (.cells #[.int .i64 (v : Int)] 3)).heap.size = w.heap.size + 1 := by simp [World.setCell]
  have nr : ∀ b, b < B → some b ≠ VM.ownBlock := fun b hb e => by have := (hlm b e.symm).1; omega
  have a1 : SBox w4 bl _ := ((st.boxL.far (p := ⟨g, v, none⟩) (Ne.symm e1) (.int .i64 k)).alloc (.cells #[.int .i64 (v : Int)] 3)).growth hg (nr bl l2)
  have a2 : IBox w4 g (L.set v k) := ((st.row.set (i := v) (by rw [st.len]; exact hv) k).alloc (.cells #[.int .i64 (v : Int)] 3)).growth hg (nr g l1)
  have a3 : SBox w4 bw VW := ((st.boxW.far (p := ⟨g, v, none⟩) (Ne.symm e2) (.int .i64 k)).alloc (.cells #[.int .i64 (v : Int)] 3)).growth hg (nr bw l3)
  have a4 : SBox w4 bm VM := ((st.boxM.far (p := ⟨g, v, none⟩) (Ne.symm e3) (.int .i64 k)).alloc (.cells #[.int .i64 (v : Int)] 3)).growth hg (nr bm l4)
  have b1 : OwnI (w.setCell ⟨g, v, none⟩ (.int .i64 k)) B VW (encW W) := Rw.own_set st.ow (p := ⟨g, v, none⟩) (fun e => by have := (hlw g e).1; omega) (.int .i64 k)
  have b2 : OwnI w4 B VW (encW W) := Rw.own_grown (Rw.own_alloc b1 (.cells #[.int .i64 (v : Int)] 3)) hg fun h hb e2 => st.sep h hb e2.symm
  have b3 : OwnI (w4.setCell ⟨bm, 0, none⟩ x) B VW (encW W) := Rw.own_set b2 (p := ⟨bm, 0, none⟩) (fun e => by have := (hlw bm e).1; omega) x
  have b4 : OwnI (w4.setCell ⟨bm, 0, none⟩ x) B x (encW (M ++ [v])) := Rw.own_set ho (p := ⟨bm, 0, none⟩) (fun e => by have := (Rw.own_lt ho bm e).1; omega) x
  refine ⟨a4, ⟨a1.far (Ne.symm (Ne.symm e5)) x, a2.far e3 x, by rw [List.length_set]; exact st.len, a3.far e6 x, b3, a4.set x, b4, fun h hb hb2 => ?_, st.low, st.ne, ?_⟩, ?_⟩
  · rcases hx with hx | hx
    · rw [hx] at hb2; exact st.sep h hb hb2
    · rw [hx, hz] at hb2
      have := (hlw h hb).2
      simp at hb2; omega
  · have := hg.size; rw [hz] at this; simp [World.setCell]; omega
  · refine Fr.set (p := ⟨bm, 0, none⟩) ?_ (.inr (.inr (.inr rfl))) x
    refine Fr.grown ?_ hg (by rw [hz]; omega) (fun h hb => (hlm h hb).1)
    exact ((Fr.refl B g bl bw bm w).set (p := ⟨g, v, none⟩) (.inl rfl) _).alloc (by have := st.sz; simpa [World.setCell] using this) _
set_option maxHeartbeats 2000000 in
theorem meet_any (w : World) {B g bl bw bm n1 : Nat} {L : List Int} {VW : Value} {W : List Nat} {VM : Value} {M : List Nat} (st : LvSt w B g bl bw bm n1 L VW W VM M) {v : Nat} (hv : v < n1) (k : Int) (h64 : in64 k) (hM : M.length ≤ 1000000) :
    Calls Try.prog 67 #[.int .i64 (v : Int), .int .i64 k, .pointer (some ⟨bl, 0, none⟩), .pointer (some ⟨bm, 0, none⟩)] w fun e w' => e = .returned (.tuple #[]) ∧ Fr B g bl bw bm w w' ∧
      (amt L v = -1 → ∃ VM', LvSt w' B g bl bw bm n1 (L.set v k) VW W VM' (M ++ [v])) ∧ (amt L v ≠ -1 → LvSt w' B g bl bw bm n1 L VW W VM M) := by
  have HST := Lib.hid st
  have c0 := st.boxL.cell
  have c1 := st.row.cell (i := v) (by rw [st.len]; exact hv)
  have hvi : (v : Int) < (n1 : Int) := by omega
  have hv0 : (0 : Int) ≤ (v : Int) := by omega
  by_cases c : amt L v = -1
  case neg =>
    have HC := Lib.hid c
    have c' : (amt L v == -1) = false := by simpa using c
    clear st c
    generalize hA : amt L v = a at *
    have HA := Lib.hid hA
    clear hA
    go_enter Try.func67, Try.ntmps67
    go_wp2
    go_end0
    exact ⟨rfl, Fr.refl _ _ _ _ _ _, fun h => absurd h HC.out, fun _ => HST.out⟩
  rw [c] at c1
  have HC := Lib.hid c
  have hf1 := st.row.frozen v
  obtain ⟨e1, e2, e3, e4, e5, e6⟩ := st.ne
  have cm := (st.boxM.far (p := ⟨g, v, none⟩) (Ne.symm e3) (.int .i64 k)).cell
  have cm2 := ((st.boxM.far (p := ⟨g, v, none⟩) (Ne.symm e3) (.int .i64 k)).alloc (.cells #[.int .i64 (v : Int)] 3)).cell
  have HL := Lib.hid (show M.length + ([(v : Int)] : List Int).length ≤ 1099511627776 by simp; omega)
  have HZ := Lib.hid (show (w.setCell ⟨g, v, none⟩ (.int .i64 k)).heap.size = w.heap.size by simp [World.setCell])
  have hlm := Rw.own_lt st.om
  have HO3 := Lib.hid (Rw.own_alloc (Rw.own_set st.om (p := ⟨g, v, none⟩) (fun e => by have := (hlm g e).1; have := st.low.1; omega) (.int .i64 k)) (.cells #[.int .i64 (v : Int)] 3))
  have HR3 := Lib.hid (irow_one' (w.setCell ⟨g, v, none⟩ (.int .i64 k)) (b := w.heap.size) HZ.out.symm (v : Int) 3)
  have HB3 := Lib.hid (show B ≤ ((w.setCell ⟨g, v, none⟩ (.int .i64 k)).alloc (.cells #[.int .i64 (v : Int)] 3)).heap.size by have := st.sz; simp [World.setCell]; omega)
  have HMET := Lib.hid (fun (w4 : World) (x : Value) h1 h2 h3 => lvst_met (w4 := w4) (x := x) st hv k h1 h2 h3)
  clear st c hlm e1 e2 e4 e5 e6
  obtain ⟨om, cmm, hvm, _, _, _, _, _, _⟩ := Rw.own_row encI_len HO3.out
  have HVM := Lib.hid hvm
  rw [encW_len] at hvm
  subst hvm
  go_enter Try.func67, Try.ntmps67
  go_wp2_with (at_builtin; refine Rw.appAt elemI encI_len encI_one rfl (.tmp 15) (.tmp 17) rfl B _ (encW M) rfl HO3.out ⟨w.heap.size, 0, none⟩ 1 [(v : Int)] rfl HR3.out (by rw [encW_len]; exact HL.out) HB3.out ?_; intro v4 w4 hown4 hgr4 hat4; rw [← encW_snoc] at hown4; obtain ⟨o4, c4v, hv4, _, _, _, _⟩ := Rw.own_row encI_len hown4; rw [encW_len, List.length_append, List.length_singleton] at hv4; subst hv4; have HEND := Lib.hid (HMET.out w4 _ hgr4 hown4 hat4); have c4 := HEND.out.1.cell; have f4 := HEND.out.1.frozen 0; clear hown4 hgr4 hat4)
  go_end0
  exact ⟨rfl, HEND.out.2.2, fun _ => ⟨_, HEND.out.2.1⟩, fun h => absurd HC.out h⟩
theorem own_void {w : World} {B g m c : Nat} {l : List Int} (h : OwnI w B (.slice (some ⟨g, 0, none⟩) m c) l) : OwnI w B (.slice (some ⟨g, 0, none⟩) 0 c) [] := by
  obtain ⟨h1, h2⟩ := h
  rcases h2 with ⟨hv, _⟩ | ⟨g', cap, cur, hv, hg, hh, hc, hm, hs, ht⟩
  · simp at hv
  · simp only [Value.slice.injEq, Option.some.injEq, Addr.mk.injEq, and_true, true_and] at hv
    obtain ⟨rfl, hml, rfl⟩ := hv
    exact ⟨by simp, .inr ⟨g, c, cur, rfl, hg, hh, by simp, hm, hs, by simp⟩⟩
theorem lvst_turn {w : World} {B g bl bw bm n1 : Nat} {L : List Int} {VW : Value} {W : List Nat} {VM : Value} {M : List Nat} (st : LvSt w B g bl bw bm n1 L VW W VM M) {x : Value} (ho : OwnI w B x []) (hx : x.ownBlock = VW.ownBlock) :
    LvSt ((w.setCell ⟨bw, 0, none⟩ VM).setCell ⟨bm, 0, none⟩ x) B g bl bw bm n1 L VM M x [] ∧ Fr B g bl bw bm w ((w.setCell ⟨bw, 0, none⟩ VM).setCell ⟨bm, 0, none⟩ x) := by
  obtain ⟨l1, l2, l3, l4⟩ := st.low
  obtain ⟨e1, e2, e3, e4, e5, e6⟩ := st.ne
  have hlm := Rw.own_lt st.om
  have hlx := Rw.own_lt ho
  refine ⟨⟨(st.boxL.far (p := ⟨bw, 0, none⟩) e4 VM).far (p := ⟨bm, 0, none⟩) e5 x, (st.row.far (p := ⟨bw, 0, none⟩) e2 VM).far (p := ⟨bm, 0, none⟩) e3 x, st.len, (st.boxW.set VM).far (p := ⟨bm, 0, none⟩) e6 x, ?_, (st.boxM.far (p := ⟨bw, 0, none⟩) (Ne.symm e6) VM).set x, ?_, fun h hb hb2 => ?_, st.low, st.ne, ?_⟩, ?_⟩
  · exact Rw.own_set (Rw.own_set st.om (p := ⟨bw, 0, none⟩) (fun e => by have := (hlm bw e).1; omega) VM) (p := ⟨bm, 0, none⟩) (fun e => by have := (hlm bm e).1; omega) x
  · exact Rw.own_set (Rw.own_set ho (p := ⟨bw, 0, none⟩) (fun e => by have := (hlx bw e).1; omega) VM) (p := ⟨bm, 0, none⟩) (fun e => by have := (hlx bm e).1; omega) x
  · rw [hx] at hb2; exact st.sep h hb2 hb
  · have := st.sz; simpa [World.setCell] using this
  · exact ((Fr.refl B g bl bw bm w).set (p := ⟨bw, 0, none⟩) (.inr (.inr (.inl rfl))) VM).set (p := ⟨bm, 0, none⟩) (.inr (.inr (.inr rfl))) x
theorem lvst_drew {w : World} {B g bl bw bm n1 : Nat} {L : List Int} {VW : Value} {W : List Nat} {VM : Value} {M : List Nat} (st : LvSt w B g bl bw bm n1 L VW W VM M) : LvSt w.drew B g bl bw bm n1 L VW W VM M :=
  ⟨st.boxL, st.row, st.len, st.boxW, st.ow, st.boxM, st.om, st.sep, st.low, st.ne, st.sz⟩
theorem fr_drew (B g bl bw bm : Nat) (w : World) : Fr B g bl bw bm w w.drew := ⟨rfl, rfl, rfl, Nat.le_refl _, fun _ _ _ _ _ _ => rfl⟩
set_option maxHeartbeats 2000000 in
theorem lturn_any (w : World) {B g bl bw bm n1 : Nat} {L : List Int} {VW : Value} {W : List Nat} {VM : Value} {M : List Nat} (st : LvSt w B g bl bw bm n1 L VW W VM M) :
    Calls Try.prog 68 #[.pointer (some ⟨bm, 0, none⟩), .pointer (some ⟨bw, 0, none⟩)] w fun e w' => e = .returned (.bool (decide (0 < M.length))) ∧ Fr B g bl bw bm w w' ∧ ∃ VM', LvSt w' B g bl bw bm n1 L VM M VM' [] := by
  have c0 := st.boxW.cell
  have c1 := st.boxM.cell
  have f0 := st.boxW.frozen 0
  have f1 := st.boxM.frozen 0
  have e6 := st.ne.2.2.2.2.2
  have HST := Lib.hid st
  obtain ⟨ow, cw, hvw, _, _, hnw, _, _, hw0⟩ := Rw.own_row encI_len st.ow
  obtain ⟨om, cm, hvm, _, _, hnm, _, _, _⟩ := Rw.own_row encI_len st.om
  rw [encW_len] at hvw hvm
  obtain ⟨mw, hmw⟩ : ∃ mw, mw = W.length := ⟨_, rfl⟩
  obtain ⟨mm, hmm⟩ : ∃ mm, mm = M.length := ⟨_, rfl⟩
  rw [← hmw] at hvw
  rw [← hmm] at hvm ⊢
  clear hmm hmw
  have hmm0 : (0 : Int) ≤ (mm : Int) := by omega
  subst hvw
  subst hvm
  rcases ow with _ | a
  · obtain rfl := hnw rfl
    have HEND := Lib.hid (lvst_turn (lvst_drew st) (x := .slice none 0 0) (Rw.own_nil _ _) rfl)
    clear st
    go_enter Try.func68, Try.ntmps68
    go_wp2
    go_region
    all_goals (try go_wp2)
    all_goals go_ret
    all_goals exact ⟨rfl, (fr_drew _ _ _ _ _ _).trans HEND.out.2, _, HEND.out.1⟩
  · obtain ⟨b, rfl⟩ := hw0 a rfl
    have HEND := Lib.hid (lvst_turn (lvst_drew st) (x := .slice (some ⟨b, 0, none⟩) 0 cw) (own_void (lvst_drew st).ow) rfl)
    clear st
    go_enter Try.func68, Try.ntmps68
    go_wp2
    go_region
    all_goals (try go_wp2)
    all_goals go_ret
    all_goals exact ⟨rfl, (fr_drew _ _ _ _ _ _).trans HEND.out.2, _, HEND.out.1⟩
end Ne
end Go.Proofs.Ytiaddfmgkcebnaa
