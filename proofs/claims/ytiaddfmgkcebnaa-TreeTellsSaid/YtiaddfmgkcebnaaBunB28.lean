/-
  Res6, Res7, Rfl6, Sr1, Tsr
-/
import Derived.Test.YtiaddfmgkcebnaaBunB26
import Derived.Test.YtiaddfmgkcebnaaBunB8
import Derived.Deep.LoopGhost
import Derived.Test.YtiaddfmgkcebnaaBunB27
import Derived.Deep.DeepCutAuto
import Derived.WalkMore
import Derived.RegionTactic
import Derived.BigRegion
import Derived.Deep.QuietTactic
import Derived.Deep.RegionWith
import Derived.Test.YtiaddfmgkcebnaaBunB24
import Derived.BigQuiet
namespace Go.Proofs.Ytiaddfmgkcebnaa
open Go.ChangeShapes Go.WideShapes Go.ChangeAt Go.RowKit
set_option linter.unusedVariables false
set_option linter.unusedSimpArgs false
namespace Ne
structure ReachAns (n : Net) (f : List Int) (x : Int) (w : World) (ao : Option Addr) (M : List Bool) : Prop where
  bad : reE n f x ≠ 0 → M = []
  good : reE n f x = 0 → IsReach n f x M ∧ ∃ b, ao = some ⟨b, 0, none⟩ ∧ BBox w b M
theorem reE_ok {n : Net} {f : List Int} {x : Int} (h : reE n f x = 0) : chkF n f = 0 ∧ 1 ≤ x := by
  unfold reE at h
  by_cases c : chkF n f = 0
  · rw [if_neg (by simpa using c)] at h
    by_cases d : x < 1
    · rw [if_pos d] at h; cases h
    · exact ⟨c, by omega⟩
  · rw [if_pos c] at h; exact absurd h c
structure Fix (n : Net) (f : List Int) (x : Int) (M : List Bool) : Prop where
  len : M.length = n.n.toNat + 1
  src : M.getD n.s.toNat false = true
  sound : ∀ i : Nat, M.getD i false = true → Rch n f x (i : Int)
theorem fix_start {n : Net} (hR : Right n) (f : List Int) (x : Int) : Fix n f x ((List.replicate (n.n.toNat + 1) false).set n.s.toNat true) :=
  let h := dfs_start hR f x
  ⟨h.len, h.src, h.sound⟩
theorem fix_step {n : Net} (hR : Right n) {f : List Int} {x : Int} {M : List Bool} (h : Fix n f x M) {r : Nat} (hr : r < 2 * n.l.length) (hx : x ≤ roomN n.l f r) (h1 : M.getD (trF n.l r).toNat false = true) (h2 : M.getD (trT n.l r).toNat false = false) :
    Fix n f x (M.set (trT n.l r).toNat true) ∧ unmet (M.set (trT n.l r).toNat true) + 1 = unmet M := by
  have hb := trT_bd hR hr
  have hb2 := trF_bd hR hr
  have ht : (trT n.l r).toNat < M.length := by rw [h.len]; omega
  have hg := fun j => getD_set M (trT n.l r).toNat j ht
  refine ⟨⟨by simp [h.len], by rw [hg]; split; (· rfl); (· exact h.src), fun j hj => ?_⟩, unmet_set ht h2⟩
  rw [hg] at hj
  by_cases e : j = (trT n.l r).toNat
  · have : (j : Int) = trT n.l r := by omega
    rw [this]
    refine .step hr hx ?_
    have := h.sound _ h1
    rwa [show (((trF n.l r).toNat : Nat) : Int) = trF n.l r by omega] at this
  · rw [if_neg e] at hj; exact h.sound j hj
theorem fix_end {n : Net} {f : List Int} {x : Int} {M : List Bool} (h : Fix n f x M) (hc : ∀ r, r < 2 * n.l.length → x ≤ roomN n.l f r → M.getD (trF n.l r).toNat false = true → M.getD (trT n.l r).toNat false = true) : IsReach n f x M := ⟨h.len, h.src, h.sound, hc⟩
theorem ret2w {v : Value} {a b : Int} (h : a = b) : Ending.returned (.tuple #[v, .int .i64 a]) = .returned (.tuple #[v, .int .i64 b]) := by rw [h]
theorem set_new (w : World) (c : Array Value) (t : TypeId) (i : Nat) (v : Value) : (w.alloc (.cells c t)).setCell ⟨w.heap.size, i, none⟩ v = w.alloc (.cells (c.setIfInBounds i v) t) := World.setCell_alloc_new c t i v
def BOn (b : Bool) : Nat := if b then 1 else 0
end Ne
namespace Ne
set_option maxRecDepth 100000 in
set_option maxHeartbeats 4000000 in
theorem dreach_any (n : Net) (ao : Option Addr) (cap : Nat) (fo : Option Addr) (fc : Nat) (f : List Int) (x : Int) (w : World) (hr : ARow w ao n.l) (hf : IRow w fo f) (hl : n.l.length ≤ 1000000) (hok : ∀ a ∈ n.l, in64 a.cap) :
    Calls Try.prog 64 #[encN n ao cap, .slice fo f.length fc, .int .i64 x] w fun e w' => ∃ o c M, e = .returned (.tuple #[.slice o M.length c, .int .i64 (reE n f x)]) ∧ ReachAns n f x w' o M ∧ Below w.heap.size w w' := by
  have CK := Lib.hid (fun w' (h1 : ARow w' ao n.l) (h2 : IRow w' fo f) => fchk_any n ao cap fo fc f w' h1 h2 hl hok)
  by_cases c0 : chkF n f = 0
  case neg =>
    have HE := Lib.hid (show reE n f x = chkF n f by unfold reE; rw [if_pos c0])
    have HNZ := Lib.hid (show reE n f x ≠ 0 by rw [HE.out]; exact c0)
    have HAN := Lib.hid (show ∀ w', ReachAns n f x w' none [] from fun w' => ⟨fun _ => rfl, fun h => absurd h HNZ.out⟩)
    generalize hRE : reE n f x = RE at *
    generalize hRA : ReachAns n f x = RA at *
    clear hRE hRA
    generalize chkF n f = c at *
    generalize f.length = fl at *
    obtain ⟨nn, ns, nt, l⟩ := n
    simp only at hr CK ⊢
    have HB0 := Lib.hid ((Below.refl w.heap.size w).alloc (Nat.le_refl _) (.cells #[.int .i64 nn, .int .i64 ns, .int .i64 nt, .slice ao l.length cap] 24))
    have c1' : (c == 0) = false := by simpa using c0
    have c1n : (c != 0) = true := by simpa using c0
    have HR := Lib.hid (hr.kept HB0.out)
    have HF := Lib.hid (hf.kept HB0.out)
    clear hr hf c0
    go_enter Try.func64, Try.ntmps64
    go_wp2_with fail
    refine (CK.out _ HR.out HF.out).mono ?_
    rintro e w1 ⟨rfl, hb⟩
    have HB1 := Lib.hid (HB0.out.trans (hb.mono (by simp)))
    clear hb
    go_wp2
    go_ret2
    exact ⟨none, 0, [], ret2w HE.out.symm, HAN.out _, HB1.out⟩
  obtain ⟨-, hR, hfl, hwi⟩ := chkA_ok (chkF_ok c0).1
  have HLO := Lib.hid (show x < 1 → reE n f x = 3 from fun h => by unfold reE; rw [if_neg (by simpa using c0), if_pos h])
  have HOK := Lib.hid (show 1 ≤ x → reE n f x = 0 from fun h => by unfold reE; rw [if_neg (by simpa using c0), if_neg (by omega)])
  have HAB := Lib.hid (show ∀ w', reE n f x ≠ 0 → ReachAns n f x w' none [] from fun w' h => ⟨fun _ => rfl, fun h2 => absurd h2 h⟩)
  have HAG := Lib.hid (show ∀ w' b M, reE n f x = 0 → IsReach n f x M → BBox w' b M → ReachAns n f x w' (some ⟨b, 0, none⟩) M from fun w' b M h h1 h2 => ⟨fun h3 => absurd h h3, fun _ => ⟨h1, b, rfl, h2⟩⟩)
  have HLN := Lib.hid (show ∀ M, IsReach n f x M → M.length = n.n.toNat + 1 from fun M h => h.len)
  rw [c0] at CK
  rw [hfl] at CK ⊢
  have RE1 := Lib.hid (fun w' h1 h2 => reached_any n ao cap fo fc f x w' h1 h2 hR hfl hwi)
  generalize hIR : IsReach n f x = IR at *
  generalize hRE : reE n f x = RE at *
  generalize hRW : ReachAns n f x = RW at *
  clear hR hfl hwi c0 hIR hRE hRW
  obtain ⟨nn, ns, nt, l⟩ := n
  simp only at hr hl CK RE1 HLN ⊢
  have HB0 := Lib.hid ((Below.refl w.heap.size w).alloc (Nat.le_refl _) (.cells #[.int .i64 nn, .int .i64 ns, .int .i64 nt, .slice ao l.length cap] 24))
  have HN0 := Lib.hid (netBox_new w nn ns nt (.slice ao l.length cap))
  have HR := Lib.hid (hr.kept HB0.out)
  have HF := Lib.hid (hf.kept HB0.out)
  clear hr hf hok
  go_enter Try.func64, Try.ntmps64
  go_wp2_with fail
  refine (CK.out _ HR.out HF.out).mono ?_
  rintro e w1 ⟨rfl, hb⟩
  have HB1 := Lib.hid (HB0.out.trans (hb.mono (by simp)))
  have HN1 := Lib.hid (netBox_below HN0.out hb (by simp))
  have HR1 := Lib.hid (HR.out.kept hb)
  have HF1 := Lib.hid (HF.out.kept hb)
  obtain ⟨n0, n1, n2, n3⟩ := netBox_cells HN1.out
  clear hb HB0 HN0 HR HF CK
  by_cases hx : x < 1
  · have HE := Lib.hid (HLO.out hx)
    have HA := Lib.hid (fun w' => HAB.out w' (by rw [HE.out]; decide))
    have hx' : decide (x < 1) = true := by simpa using hx
    clear hx
    go_wp2
    go_ret2
    exact ⟨none, 0, [], ret2w HE.out.symm, HA.out _, HB1.out⟩
  have hx' : decide (x < 1) = false := by simpa using hx
  have HE := Lib.hid (HOK.out (by omega))
  clear hx HLO HOK
  go_wp2_with fail
  refine (RE1.out _ HR1.out HF1.out).mono ?_
  rintro e w2 ⟨b, M, rfl, hi, hm, hb⟩
  have HB2 := Lib.hid (HB1.out.trans (hb.mono HB1.out.size))
  have HI := Lib.hid hi
  have HM := Lib.hid hm
  have HL := Lib.hid (HLN.out M hi)
  clear hb hi hm n0 n1 n2 n3
  go_wp2
  go_ret2
  exact ⟨some ⟨b, 0, none⟩, nn.toNat + 1, M, by rw [HL.out, HE.out]; rfl, HAG.out _ b M HE.out HI.out HM.out, HB2.out⟩
end Ne
namespace Ne
theorem droom_s (n : Net) (ao : Option Addr) (cap : Nat) (fo : Option Addr) (fc : Nat) (f : List Int) (w : World) (hr : ARow w ao n.l) (hf : IRow w fo f) (hl : n.l.length ≤ 1000000) (hok : ∀ a ∈ n.l, in64 a.cap) :
    Calls Try.prog 22 #[encN n ao cap, .slice fo f.length fc] w fun e w' => ∃ o c, e = .returned (.tuple #[.slice o (roomV n f).length c, .int .i64 (chkF n f)]) ∧ IRow w' o (roomV n f) ∧ Below w.heap.size w w' :=
  (droom_any n ao cap fo fc f w hr hf hl hok).mono fun e w' ⟨v, h1, h2, h3⟩ => by
    obtain ⟨o, c, hx, _, hi⟩ := irow_ofL h2
    exact ⟨o, c, by rw [h1, hx], hi, h3⟩
theorem ends_at (n : Net) (ao : Option Addr) (cap : Nat) (r : Nat) (w : World) (hr : ARow w ao n.l) (hl : n.l.length ≤ 1000000) (h : r < 2 * n.l.length) :
    Calls Try.prog 44 #[encN n ao cap, .int .i64 (r : Int)] w fun e w' => e = .returned (.tuple #[.int .i64 (trF n.l r), .int .i64 (trT n.l r)]) ∧ Below w.heap.size w w' := by
  have := ends_any n ao cap (r : Int) w hr hl (by unfold in64; omega)
  rwa [enF_in h, enT_in h] at this
section
variable {n : Net} (ao : Option Addr) (cap : Nat) (fo : Option Addr) (fc : Nat) {f : List Int} (w : World) (ck : checkN n = 0) (hr : ARow w ao n.l) (hf : IRow w fo f) (hF : Flow n f)
include ck hr hf hF
end
end Ne
namespace Ne
theorem ends_nat (n : Net) (ao : Option Addr) (cap : Nat) (r : Nat) (w : World) (hR : Right n) (hr : ARow w ao n.l) (h : r < 2 * n.l.length) :
    Calls Try.prog 44 #[encN n ao cap, .int .i64 (r : Int)] w fun e w' => e = .returned (.tuple #[.int .i64 (((trF n.l r).toNat : Nat) : Int), .int .i64 (((trT n.l r).toNat : Nat) : Int)]) ∧ Below w.heap.size w w' := by
  have h1 := ends_at n ao cap r w hr (by have := hR.len; omega) h
  have hb := trF_bd hR h; have hb2 := trT_bd hR h
  rwa [show trF n.l r = (((trF n.l r).toNat : Nat) : Int) by omega, show trT n.l r = (((trT n.l r).toNat : Nat) : Int) by omega] at h1
section
variable {n : Net} {ao : Option Addr} {cap : Nat} {x : Int} {w0 w : World} {sb lb lo hi : Nat} {rv : Value} {RM : List Int} {VS : Nat → Value} {U : Nat → List Nat} {M : List Bool}
end
end Ne
end Go.Proofs.Ytiaddfmgkcebnaa
namespace Go.Proofs.Ytiaddfmgkcebnaa
open Go.ChangeShapes Go.WideShapes Go.ChangeAt Go.RowKit
set_option linter.unusedVariables false
set_option linter.unusedSimpArgs false
namespace Ne
section
variable {n : Net} {ao : Option Addr} {cap : Nat} {x : Int} {w0 w : World} {sb lb lo hi : Nat} {rv : Value} {RM : List Int} {VS : Nat → Value} {U : Nat → List Nat} {M : List Bool}
end
end Ne
end Go.Proofs.Ytiaddfmgkcebnaa
namespace Go.Proofs.Ytiaddfmgkcebnaa
open Go.ChangeShapes Go.WideShapes Go.ChangeAt Go.RowKit
set_option linter.unusedVariables false
set_option linter.unusedSimpArgs false
namespace Ne
section
variable {n : Net} {TL : List Nat} {gf : List Int} {x : Int} {RM : List Int} {L : List Int} (hR : Right n) (hL : Lds n.l L TL)
include hR hL
end
def NxR (w' : World) (B : Nat) (e : Ending) : Option (List Nat) → Prop
  | none => e = .returned (.tuple #[.slice none 0 0, .bool false])
  | some R => ∃ wv, e = .returned (.tuple #[wv, .bool true]) ∧ OwnI w' B wv (encW R)
section
variable {n : Net} {ao : Option Addr} {cap : Nat} {x : Int} {w0 w : World} {sb lb lo hi : Nat} {rv : Value} {RM : List Int} {VS : Nat → Value} {U : Nat → List Nat} {TL : List Nat} {gf : List Int} {L : List Int}
end
end Ne
namespace Ne
open Sp (Off Ext)
open Fo (Ft FoO fc)
def HangI (n : Net) (ao : Option Addr) (cap : Nat) (x : Int) (w0 w1 : World) (sb lb ab pb cb p : Nat) (rv : Value) (lo hi B b1 : Nat) (VA : Nat → Value) (TL : List Nat) (w' : World) (RL : List Int) (S : List Bool) (v k c0 m H : Nat) (g : List Int) (f : Ft) (flo fhi : Nat) : Prop :=
  ∃ VS U c, TsM n ao cap x w0 w1 sb lb ab pb cb p rv lo hi B b1 VA TL w' RL VS U S c f flo fhi ∧ Tre n TL g x U f RL S ∧ (U v).length = k ∧ c0 ≤ c ∧ fhi + c + (fc m + 1) * psi n TL g x U f S (aheadN n TL) ≤ H
def HangR (n : Net) (ao : Option Addr) (cap : Nat) (x : Int) (w0 w1 : World) (sb lb ab pb cb p : Nat) (rv : Value) (lo hi B b1 : Nat) (VA : Nat → Value) (TL : List Nat) (w' : World) (RL : List Int) (S : List Bool) (v c0 m H : Nat) (g : List Int) (f : Ft) (flo fhi : Nat) (b : Bool) : Prop :=
  match b with
  | false => ∃ VS U c, TsM n ao cap x w0 w1 sb lb ab pb cb p rv lo hi B b1 VA TL w' RL VS U S c f flo fhi ∧ Tre n TL g x U f RL S ∧ U v = [] ∧ c0 ≤ c ∧ fhi + c + (fc m + 1) * psi n TL g x U f S (aheadN n TL) ≤ H
  | true => ∃ VS U c f2 flo2 fhi2, TsM n ao cap x w0 w1 sb lb ab pb cb p rv lo hi B b1 VA TL w' RL VS U S c f2 flo2 fhi2 ∧ Tre n TL g x U f2 RL S ∧ f2.v.length = m ∧ (∀ y u, f2.up y = some u → S.getD u false = false) ∧ c0 ≤ c ∧ fhi2 + c + (fc m + 1) * psi n TL g x U f2 S (aheadN n TL) + (fc m + 1) ≤ H
section
variable {n : Net} {ao : Option Addr} {cap : Nat} {x : Int} {w0 w1 : World} {sb lb ab pb cb p : Nat} {rv : Value} {lo hi B b1 : Nat} {VA : Nat → Value} {TL : List Nat}
variable {w w2 : World} {RL : List Int} {VS : Nat → Value} {U : Nat → List Nat} {S : List Bool} {c : Nat} {f f2 : Ft} {flo fhi flo2 fhi2 : Nat} {m H : Nat} {g : List Int} {L : List Int} {A : Nat → Nat}
theorem hang_round (hR : Right n) (hL : Lds n.l L TL) (hF : Okf n g) {v k c0 : Nat} (hv : v < n.n.toNat + 1) (hvt : v ≠ n.t.toNat) (hup : f.up v = none) (hK : ∀ y u, f.up y = some u → S.getD u false = false) (hm : f.v.length = m) (hH2 : H ≤ 4611686018427387904) (h : HangI n ao cap x w0 w1 sb lb ab pb cb p rv lo hi B b1 VA TL w RL S v k c0 m H g f flo fhi) :
    (k = 0 ∧ HangR n ao cap x w0 w1 sb lb ab pb cb p rv lo hi B b1 VA TL w RL S v c0 m H g f flo fhi false ∧ ∃ VS U c o rc, TsM n ao cap x w0 w1 sb lb ab pb cb p rv lo hi B b1 VA TL w RL VS U S c f flo fhi ∧ w.cell? ⟨lb, v, none⟩ = some (.slice o 0 rc)) ∨
    (∃ VS U c r b off rc t, TsM n ao cap x w0 w1 sb lb ab pb cb p rv lo hi B b1 VA TL w RL VS U S c f flo fhi ∧ w.cell? ⟨lb, v, none⟩ = some (.slice (some ⟨b, off, none⟩) k rc) ∧ 0 < k ∧ k ≤ rc ∧ rc ≤ maxLen ∧ r < 2 * n.l.length ∧ t = (trT n.l r).toNat ∧ t < n.n.toNat + 1 ∧ 0 ≤ amt RL r ∧ amt RL r ≤ 4611686018427387903 ∧ c ≤ 4611686018427387904 ∧ r < RL.length ∧ lo ≤ b ∧ b < hi ∧
      (∀ w' c', TsM n ao cap x w0 w1 sb lb ab pb cb p rv lo hi B b1 VA TL w' RL VS U S c' f flo fhi → w'.cell? ⟨lb, v, none⟩ = some (.slice (some ⟨b, off, none⟩) k rc) ∧ w'.frozen? ⟨lb, v, none⟩ = false ∧ w'.cell? ⟨b, off, none⟩ = some (.int .i64 (r : Int)) ∧ w'.cell? ⟨pb, t, none⟩ = some (.bool (S.getD t false))) ∧
      (x ≤ amt RL r → S.getD t false = false → ∀ w', TsM n ao cap x w0 w1 sb lb ab pb cb p rv lo hi B b1 VA TL w' RL VS U S (c + 1) f flo fhi → Calls Try.prog 73 #[.pointer (some ⟨p, 0, none⟩), .int .i64 (v : Int), .int .i64 (amt RL r - 4611686018427387904)] w' fun e w3 => ∃ z, e = .returned (.int .i64 z) ∧ (∃ f2 flo2 fhi2, TsM n ao cap x w0 w1 sb lb ab pb cb p rv lo hi B b1 VA TL w3 RL VS U S (c + 1) f2 flo2 fhi2) ∧
        Calls Try.prog 74 #[.pointer (some ⟨p, 0, none⟩), .int .i64 (v : Int), .int .i64 (t : Int)] w3 fun e w4 => ∃ z, e = .returned (.int .i64 z) ∧ HangR n ao cap x w0 w1 sb lb ab pb cb p rv lo hi B b1 VA TL w4 RL S v c0 m H g f flo fhi true) ∧
      (¬ (x ≤ amt RL r ∧ S.getD t false = false) → ∀ w', TsM n ao cap x w0 w1 sb lb ab pb cb p rv lo hi B b1 VA TL w' RL VS U S (c + 1) f flo fhi → ∀ a, (k = 1 ∨ a = some ⟨b, off + 1, none⟩) → HangI n ao cap x w0 w1 sb lb ab pb cb p rv lo hi B b1 VA TL (w'.setCell ⟨lb, v, none⟩ (.slice a (k - 1) (rc - 1))) RL S v (k - 1) c0 m H g f flo fhi)) := by
  obtain ⟨VS, U, c, M, T, hk, hc0, hc⟩ := h
  cases hU : U v with
  | nil =>
    left
    rw [hU] at hk
    obtain ⟨e1, o, rc, e2⟩ := M.nil hv hU
    exact ⟨hk.symm, ⟨VS, U, c, M, T, hU, hc0, hc⟩, VS, U, c, o, rc, M, by rw [e1, e2]⟩
  | cons r T' =>
    right
    rw [hU, List.length_cons] at hk
    obtain ⟨e1, e2, b, off, rc, e3, e4, e5, e6, e7, e8, e9⟩ := M.head hv hU
    obtain ⟨h1, h2⟩ := T.srch.sub v hv r (by rw [hU]; simp)
    have hr := hL.lt r h1
    have b2 := trT_bd hR hr
    have hrl : r < RL.length := by rw [T.rlen]; exact hr
    obtain ⟨g1, g2, g3, g4⟩ := tre_hang hR hL hF.wi T hv hvt hup hU
    obtain ⟨n1, n2⟩ := Tre.rnn hR hL hF.wi r h1
    rw [← g1] at n1 n2
    have hdrop := fun hx => tre_drop hR hL T hv hup hU hx
    have hpd := cost_le (C := fc m + 1) (psi_drop (A := aheadN n TL) T hv hup hU)
    have hcf : (trT n.l r) = (((trT n.l r).toNat : Nat) : Int) := by omega
    obtain ⟨t, ht⟩ : ∃ t, t = (trT n.l r).toNat := ⟨_, rfl⟩
    rw [← ht] at hcf g2 g4 hdrop
    rw [hcf] at g3 g4
    rw [e3] at e1 e9
    refine ⟨VS, U, c, r, b, off, rc, t, M, by rw [e1, hk], by omega, by omega, e5, hr, ht, g2, n1, n2, by omega, hrl, e6, e7, fun w' c' M' => ?_, fun hx hs w' M' => ?_, fun hx w' M' a ha => ?_⟩
    · obtain ⟨k1, k2, b', off', rc', k3, k4, k5, k6, k7, k8, _⟩ := M'.head hv hU
      rw [e3] at k3
      simp only [Value.slice.injEq, Option.some.injEq, Addr.mk.injEq, and_true, true_and] at k3
      obtain ⟨⟨rfl, rfl⟩, rfl⟩ := k3
      exact ⟨by rw [k1, e3, hk], k2, k8, (M'.marks T.slen g2).1⟩
    · have hph := cost_le (C := fc m + 1) (psi_hang (A := aheadN n TL) (TL := TL) (n := n) (g := g) (x := x) (S := S) hv hup hU (by rw [← g1]; exact hx) (by rw [← ht]; exact hs) g4)
      refine (M'.add hm (v : Int) (amt RL r - 4611686018427387904) (by omega)).mono ?_
      rintro e w3 ⟨rfl, flo3, M3⟩
      refine ⟨_, rfl, ⟨_, _, _, M3⟩, (M3.link (m := m) (by rw [addSF_len]; exact hm) (v : Int) (t : Int)).mono ?_⟩
      rintro e w4 ⟨rfl, flo4, M4⟩
      refine ⟨_, rfl, VS, U, c + 1, _, flo4, _, M4, g3, ?_, fun y u hy => ?_, by omega, by omega⟩
      · rw [g3.len, ← T.len, hm]
      · rw [g4] at hy
        split at hy
        · cases hy; exact hs
        · exact hK y u hy
    · have hT := hdrop hx
      have hrow : RowOf w' lo hi (.slice a (k - 1) (rc - 1)) T' := by
        have hh := M'.rows.each v hv
        rw [hU] at hh
        obtain ⟨A', c', q1, q2, q3, q4⟩ := hh
        rw [e3] at q1
        simp only [Value.slice.injEq] at q1
        obtain ⟨q5, q6, q7⟩ := q1
        rcases q4 with q4 | ⟨b', off', q8, q9, q10, q11⟩
        · cases q4
        · rw [← q5] at q8
          simp only [Option.some.injEq, Addr.mk.injEq, and_true] at q8
          obtain ⟨rfl, rfl⟩ := q8
          refine ⟨a, rc - 1, by congr 1; omega, by omega, by omega, ?_⟩
          rcases ha with ha | ha
          · left
            rw [ha] at hk
            exact List.eq_nil_of_length_eq_zero (by omega)
          · right
            refine ⟨b, off + 1, ha, q9, q10, fun i hil => ?_⟩
            rw [show off + 1 + i = off + (i + 1) by omega, q11 (i + 1) (by simp; omega)]
            simp [List.getD]
      refine ⟨_, _, c + 1, M'.put hv hrow, hT, ?_, by omega, by omega⟩
      simp only [if_true]
      omega
set_option maxRecDepth 100000 in
set_option maxHeartbeats 8000000 in
theorem hang_any (M : TsM n ao cap x w0 w1 sb lb ab pb cb p rv lo hi B b1 VA TL w RL VS U S c f flo fhi) (T : Tre n TL g x U f RL S) (hR : Right n) (hL : Lds n.l L TL) (hF : Okf n g) {v : Nat} (hv : v < n.n.toNat + 1) (hvt : v ≠ n.t.toNat) (hup : f.up v = none) (hK : ∀ y u, f.up y = some u → S.getD u false = false) (hm : f.v.length = m) (hH : fhi + c + (fc m + 1) * psi n TL g x U f S (aheadN n TL) ≤ H) (hH2 : H ≤ 4611686018427387904) :
    Calls Try.prog 48 #[.pointer (some ⟨sb, 0, none⟩), .int .i64 (v : Int)] w fun e w' => ∃ b, e = .returned (.bool b) ∧ HangR n ao cap x w0 w1 sb lb ab pb cb p rv lo hi B b1 VA TL w' RL S v c m H g f flo fhi b := by
  have HI0 := Lib.hid (show HangI n ao cap x w0 w1 sb lb ab pb cb p rv lo hi B b1 VA TL w RL S v (U v).length c m H g f flo fhi from ⟨VS, U, c, M, T, rfl, Nat.le_refl _, hH⟩)
  have HRD := Lib.hid (fun w' k (h : HangI n ao cap x w0 w1 sb lb ab pb cb p rv lo hi B b1 VA TL w' RL S v k c m H g f flo fhi) => hang_round hR hL hF hv hvt hup hK hm hH2 h)
  have HD := Lib.hid (fun w' VS U c f' flo fhi (h : TsM n ao cap x w0 w1 sb lb ab pb cb p rv lo hi B b1 VA TL w' RL VS U S c f' flo fhi) => h.tc)
  have HMORE := Lib.hid (fun w' VS U c (h : TsM n ao cap x w0 w1 sb lb ab pb cb p rv lo hi B b1 VA TL w' RL VS U S c f flo fhi) hc => more_any h hc)
  have HEN := Lib.hid (show ∀ w' r, ARow w' ao n.l → r < 2 * n.l.length → Calls Try.prog 44 #[.agg #[.int .i64 n.n, .int .i64 n.s, .int .i64 n.t, .slice ao n.l.length cap], .int .i64 (r : Int)] w' fun e w2 => ∃ q : Int, e = .returned (.tuple #[.int .i64 q, .int .i64 (((trT n.l r).toNat : Nat) : Int)]) ∧ Below w'.heap.size w' w2 from fun w' r h1 h2 => by
    refine (ends_nat n ao cap r w' hR h1 h2).mono ?_
    rintro e w2 ⟨rfl, hb⟩
    exact ⟨_, rfl, hb⟩)
  have hvi : (v : Int) < (n.n.toNat : Int) + 1 := by omega
  have hv0 : (0 : Int) ≤ (v : Int) := by omega
  clear M T hR hL hF hv hvt hup hK hm hH hH2
  generalize hKK : (U v).length = K at *
  clear hKK
  go_enter Try.func48, Try.ntmps48
  go_wp2
  go_loopg [5, 6, 7] K (fun k s5 s6 s7 wr => (∃ z, s5 = z) ∧ (∃ z, s6 = z) ∧ (∃ z, s7 = z) ∧ ∃ kk, kk = k ∧ Hid (HangI n ao cap x w0 w1 sb lb ab pb cb p rv lo hi B b1 VA TL wr RL S v kk c m H g f flo fhi))
  case atStart => exact ⟨⟨_, rfl⟩, ⟨_, rfl⟩, ⟨_, rfl⟩, _, rfl, HI0⟩
  case round =>
    obtain ⟨⟨z5, rfl⟩, ⟨z6, rfl⟩, ⟨z7, rfl⟩, k, rfl, HI⟩ := hrel
    rcases HRD.out _ _ HI.out with ⟨rfl, hE, VS1, U1, c1, o, rc, M1, u0⟩ | ⟨VS1, U1, c1, r, b, off, rc, t, M1, u0, hk0, hkr, hrm, hr, ht, htn, hn1, hn2, hc1, hrl, hb1, hb2, hcell, hhang, hdrop⟩
    · obtain ⟨k0, k1, k2, k3, k4, k5, k6, k7, k8, k9, k10⟩ := HD.out _ _ _ _ _ _ _ M1
      have HE := Lib.hid hE
      clear hE M1
      go_wp2
      go_ret
      exact ⟨false, rfl, HE.out⟩
    · obtain ⟨k0, k1, k2, k3, k4, k5, k6, k7, k8, k9, k10⟩ := HD.out _ _ _ _ _ _ _ M1
      have HMO := Lib.hid (HMORE.out _ _ _ _ M1 hc1)
      have HCELL := Lib.hid hcell
      have HHANG := Lib.hid hhang
      have HDROP := Lib.hid hdrop
      have HT := Lib.hid ht
      have hki : (0 : Int) < (k : Int) := by omega
      clear hcell hhang hdrop M1 hc1 ht
      go_wp2_with fail
      refine HMO.out.mono ?_
      rintro e w3 ⟨rfl, M3⟩
      clear k0 k1 k2 k3 k4 k5 k6 k7 k8 k9 k10 u0
      obtain ⟨k0, k1, k2, k3, k4, k5, k6, k7, k8, k9, k10⟩ := HD.out _ _ _ _ _ _ _ M3
      obtain ⟨u0, u1, u2, u3⟩ := HCELL.out _ _ M3
      have HM3 := Lib.hid M3
      have HE3 := Lib.hid (HEN.out _ r M3.row hr)
      rw [← HT.out] at HE3
      clear M3
      go_wp2_with fail
      refine HE3.out.mono ?_
      rintro e w4 ⟨q, rfl, hb⟩
      have M4 := HM3.out.grow hb
      clear k0 k1 k2 k3 k4 k5 k6 k7 k8 k9 k10 u0 u1 u2 u3 hb
      obtain ⟨k0, k1, k2, k3, k4, k5, k6, k7, k8, k9, k10⟩ := HD.out _ _ _ _ _ _ _ M4
      obtain ⟨u0, u1, u2, u3⟩ := HCELL.out _ _ M4
      obtain ⟨g0, rc0, hrv, hgl, r0, r1, _⟩ := M4.note hrl
      have HM4 := Lib.hid M4
      clear M4
      subst hrv
      have hri : (r : Int) < (RL.length : Int) := by omega
      have hr0 : (0 : Int) ≤ (r : Int) := by omega
      have hti : (t : Int) < (n.n.toNat : Int) + 1 := by omega
      have ht0 : (0 : Int) ≤ (t : Int) := by omega
      have hw1 : IntKind.i64.wrap (amt RL r - 4611686018427387904) = amt RL r - 4611686018427387904 := by rw [IntKind.wrap_i64]; omega
      generalize hst : S.getD t false = st at *
      generalize amt RL r = X at *
      obtain ⟨cnd, hcnd⟩ : ∃ cnd : Bool, cnd = (decide (x ≤ X) && !st) := ⟨_, rfl⟩
      have HCND := Lib.hid hcnd
      clear hcnd
      go_upto_region 5 with fail
      go_cut [61] (fun s wc => s = .bool cnd ∧ Hid (TsM n ao cap x w0 w1 sb lb ab pb cb p (.slice (some ⟨g0, 0, none⟩) RL.length rc0) lo hi B b1 VA TL wc RL VS1 U1 S (c1 + 1) f flo fhi) ∧ wc.cell? ⟨g0, r, none⟩ = some (.int .i64 X))
      case first =>
        by_cases cx : x ≤ X
        · have hle : decide (x ≤ X) = true := by simpa using cx
          rcases st with _ | _
          · obtain rfl : cnd = true := by rw [HCND.out, hle]; rfl
            go_quiet (fail)
            go_wp2
            go_meet
            case rel => exact ⟨rfl, Lib.hid (HM4.out.grow (below_dn (Below.refl _ _) _)), r0⟩
          · obtain rfl : cnd = false := by rw [HCND.out, hle]; rfl
            go_quiet (fail)
            go_wp2
            go_meet
            case rel => exact ⟨rfl, Lib.hid (HM4.out.grow (below_dn (Below.refl _ _) _)), r0⟩
        · have hle : decide (x ≤ X) = false := by simpa using cx
          obtain rfl : cnd = false := by rw [HCND.out, hle]; rfl
          go_quiet (fail)
          go_wp2
          go_meet
          case rel => exact ⟨rfl, Lib.hid (HM4.out.grow (below_dn (Below.refl _ _) _)), r0⟩
      case rest =>
        obtain ⟨rfl, HM5, r5⟩ := hcut
        clear k0 k1 k2 k3 k4 k5 k6 k7 k8 k9 k10 u0 u1 u2 u3 r0 r1 HM4
        obtain ⟨k0, k1, k2, k3, k4, k5, k6, k7, k8, k9, k10⟩ := HD.out _ _ _ _ _ _ _ HM5.out
        obtain ⟨u0, u1, u2, u3⟩ := HCELL.out _ _ HM5.out
        cases cnd
        · clear HHANG
          have HDR := Lib.hid (HDROP.out (fun h => by
            obtain ⟨h1, h2⟩ := h
            have h3 := HCND.out
            rw [h2] at h3
            simp [h1] at h3) _ (HM5.out.grow (below_drew (Below.refl _ _))))
          clear HDROP HM5
          have hk1 : 1 ≤ k := hk0
          have hk1i : (1 : Int) ≤ (k : Int) := by omega
          have hrc1 : k ≤ rc := hkr
          by_cases hr1 : rc = 1
          · have hkk : k = 1 := by omega
            subst hr1
            subst hkk
            have HD3 := Lib.hid (HDR.out (some ⟨b, off, none⟩) (.inl rfl))
            clear HDR hk1 hk1i hrc1 hk0 hkr hki
            go_wp2
            go_region
            go_wp2
            go_roundg 0
            case measure => omega
            case rel => exact ⟨⟨_, rfl⟩, ⟨_, rfl⟩, ⟨_, rfl⟩, _, rfl, Lib.hid HD3.out⟩
          · have HDR2 := Lib.hid (HDR.out (some ⟨b, off + 1, none⟩) (.inr rfl))
            clear HDR
            go_wp2
            go_region
            go_wp2
            go_roundg (k - 1)
            case measure => omega
            case rel => exact ⟨⟨_, rfl⟩, ⟨_, rfl⟩, ⟨_, rfl⟩, _, rfl, Lib.hid HDR2.out⟩
        · clear HDROP
          obtain ⟨cx, hs0⟩ : x ≤ X ∧ st = false := by
            have h3 := HCND.out
            rcases st with _ | _
            · simp at h3
              exact ⟨h3, rfl⟩
            · simp at h3
          have HHA := Lib.hid (HHANG.out cx hs0 _ (HM5.out.grow (below_drew (Below.refl _ _))))
          clear HHANG HM5
          go_wp2_with fail
          go_region_with (go_at_call 73; refine HHA.out.mono ?_; rintro e w6 ⟨z6, rfl, ⟨f6, fl6, fh6, M6⟩, hlk⟩; have HLK := Lib.hid hlk; clear k0 k1 k2 k3 k4 k5 k6 k7 k8 k9 k10; obtain ⟨k0, k1, k2, k3, k4, k5, k6, k7, k8, k9, k10⟩ := HD.out _ _ _ _ _ _ _ M6; clear hlk M6)
          all_goals
            go_wp2_with fail
            refine HLK.out.mono ?_
            rintro e w7 ⟨z7, rfl, hR7⟩
            have HR7 := Lib.hid hR7
            clear hR7 k0 k1 k2 k3 k4 k5 k6 k7 k8 k9 k10
            go_wp2
            go_ret
            exact ⟨true, rfl, HR7.out⟩
end
end Ne
end Go.Proofs.Ytiaddfmgkcebnaa
