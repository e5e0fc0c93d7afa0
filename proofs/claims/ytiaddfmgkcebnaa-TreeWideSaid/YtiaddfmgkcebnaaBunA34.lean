/-
  Tsq, Tsr
-/
import Derived.Test.YtiaddfmgkcebnaaBunA33
import Derived.Deep.LoopGhost
import Derived.Test.YtiaddfmgkcebnaaBunA13
import Derived.RegionTactic
import Derived.Deep.QuietTactic
import Derived.BigQuiet
import Derived.BigRegion
import Derived.Deep.DeepCutAuto
namespace Go.Proofs.Ytiaddfmgkcebnaa
open Go.ChangeShapes Go.WideShapes Go.ChangeAt Go.RowKit
set_option linter.unusedVariables false
set_option linter.unusedSimpArgs false
namespace Ne
open Sp (Off Ext)
open Fo (Ft FoO fc)
def aheadL (n : Net) (TL : List Nat) (v : Nat) : List Nat := (TL.filter fun r => decide ((trT n.l r).toNat = v)).map fun r => (trF n.l r).toNat
def aheadN (n : Net) (TL : List Nat) (v : Nat) : Nat := (TL.filter fun r => decide ((trT n.l r).toNat = v)).length
theorem aheadL_len (n : Net) (TL : List Nat) (v : Nat) : (aheadL n TL v).length = aheadN n TL v := by simp [aheadL, aheadN]
def LeaveI (n : Net) (ao : Option Addr) (cap : Nat) (x : Int) (w0 w1 : World) (sb lb ab pb cb p : Nat) (rv : Value) (lo hi B b1 : Nat) (VA : Nat → Value) (TL : List Nat) (w' : World) (VS : Nat → Value) (U : Nat → List Nat) (S2 : List Bool) (v : Nat) (Y : List Nat) (i c0 m H : Nat) (g : List Int) : Prop :=
  ∃ f2 RL2 flo2 fhi2, TsM n ao cap x w0 w1 sb lb ab pb cb p rv lo hi B b1 VA TL w' RL2 VS U S2 (c0 + i) f2 flo2 fhi2 ∧ Tre n TL g x U f2 RL2 S2 ∧ f2.v.length = m ∧ (∀ y u, f2.up y = some u → S2.getD u false = true → u = v ∧ y ∈ Y.drop i) ∧
    fhi2 + (c0 + i) + (fc m + 1) * psi n TL g x U f2 S2 (aheadN n TL) + (fc m + 1) * (Y.length - i) + (fc m + 1) ≤ H
def LeaveR (n : Net) (ao : Option Addr) (cap : Nat) (x : Int) (w0 w1 : World) (sb lb ab pb cb p : Nat) (rv : Value) (lo hi B b1 : Nat) (VA : Nat → Value) (TL : List Nat) (w' : World) (VS : Nat → Value) (U : Nat → List Nat) (S2 : List Bool) (c m H : Nat) (g : List Int) : Prop :=
  ∃ f2 RL2 flo2 fhi2 c2, TsM n ao cap x w0 w1 sb lb ab pb cb p rv lo hi B b1 VA TL w' RL2 VS U S2 c2 f2 flo2 fhi2 ∧ Tre n TL g x U f2 RL2 S2 ∧ f2.v.length = m ∧ (∀ y u, f2.up y = some u → S2.getD u false = false) ∧ c ≤ c2 ∧
    fhi2 + c2 + (fc m + 1) * psi n TL g x U f2 S2 (aheadN n TL) + (fc m + 1) ≤ H
section
variable {n : Net} {ao : Option Addr} {cap : Nat} {x : Int} {w0 w1 : World} {sb lb ab pb cb p : Nat} {rv : Value} {lo hi B b1 : Nat} {VA : Nat → Value} {TL : List Nat}
variable {w w2 : World} {RL : List Int} {VS : Nat → Value} {U : Nat → List Nat} {S : List Bool} {c : Nat} {f f2 : Ft} {flo fhi flo2 fhi2 : Nat} {m H : Nat} {g : List Int} {L : List Int} {A : Nat → Nat}
theorem TsM.aheadr (h : TsM n ao cap x w0 w1 sb lb ab pb cb p rv lo hi B b1 VA TL w RL VS U S c f flo fhi) {v : Nat} (hv : v < n.n.toNat + 1) : ∃ o rc, VA v = .slice o (aheadL n TL v).length rc ∧ (aheadL n TL v).length ≤ rc ∧ ∀ w' RL' VS' U' S' c' f' flo' fhi', TsM n ao cap x w0 w1 sb lb ab pb cb p rv lo hi B b1 VA TL w' RL' VS' U' S' c' f' flo' fhi' → w'.cell? ⟨ab, v, none⟩ = some (.slice o (aheadL n TL v).length rc) ∧ ∀ i, i < (aheadL n TL v).length → ∃ b off, o = some ⟨b, off, none⟩ ∧ w'.cell? ⟨b, off + i, none⟩ = some (.int .i64 (((aheadL n TL v).getD i 0 : Nat) : Int)) := by
  obtain ⟨o, rc, h1, h2, _, _⟩ := h.st.ahead.each v hv
  refine ⟨o, rc, h1, h2, fun w' RL' VS' U' S' c' f' flo' fhi' h' => ⟨?_, fun i hil => ?_⟩⟩
  · have := h'.aheads.cell hv
    rw [this, h1]; rfl
  · obtain ⟨b, off, rc2, e1, _, _, _, _, e2⟩ := rowOf_at (h'.aheads.each v hv) (i := i) hil
    rw [h1] at e1
    simp only [Value.slice.injEq] at e1
    exact ⟨b, off, e1.1, e2 i hil⟩
theorem leave_first (hR : Right n) (hL : Lds n.l L TL) (M : TsM n ao cap x w0 w1 sb lb ab pb cb p rv lo hi B b1 VA TL w RL VS U S c f flo fhi) (T : Tre n TL g x U f RL S) {v : Nat} (hv : v < n.n.toNat + 1) (hvt : v ≠ n.t.toNat) (hU : U v = []) (hs : S.getD v false = false) (hK : ∀ y u, f.up y = some u → S.getD u false = false) (hm : f.v.length = m) (hH : fhi + c + (fc m + 1) * psi n TL g x U f S (aheadN n TL) ≤ H) (hlt : v < S.length) :
    LeaveI n ao cap x w0 w1 sb lb ab pb cb p rv lo hi B b1 VA TL (w.setCell ⟨pb, v, none⟩ (.bool true)) VS U (S.set v true) v (aheadL n TL v) 0 c m H g := by
  have hpsi := cost_le (C := fc m + 1) (psi_spend (A := aheadN n TL) T hv hs)
  rw [Nat.mul_add] at hpsi
  refine ⟨f, RL, flo, fhi, M.spend hlt, tre_spend hR hL T hv hvt hU, hm, fun y u hy hu => ?_, by rw [aheadL_len, Nat.sub_zero]; omega⟩
  rw [getD_set _ _ _ hlt] at hu
  have hk := hK y u hy
  have hvu : u = v := by
    by_cases c : u = v
    · exact c
    · rw [if_neg c, hk] at hu; cases hu
  refine ⟨hvu, ?_⟩
  obtain ⟨r, T', e, r1, r2, r3, _⟩ := T.says hR hL hy
  rw [List.drop_zero]
  unfold aheadL
  exact List.mem_map.2 ⟨r, List.mem_filter.2 ⟨r1, by simp; omega⟩, by omega⟩
theorem leave_next (hR : Right n) (hL : Lds n.l L TL) {v i : Nat} {Y : List Nat} {w' : World} (T : Tre n TL g x U f2 RL S) (hil : i < Y.length) (hm : f2.v.length = m)
    (hK : ∀ y u, f2.up y = some u → S.getD u false = true → u = v ∧ y ∈ Y.drop i) (hne : f2.up (Y.getD i 0) ≠ some v)
    (hH : fhi2 + (c + i) + (fc m + 1) * psi n TL g x U f2 S (aheadN n TL) + (fc m + 1) * (Y.length - i) + (fc m + 1) ≤ H)
    (M : TsM n ao cap x w0 w1 sb lb ab pb cb p rv lo hi B b1 VA TL w' RL VS U S (c + i + 1) f2 flo2 (fhi2 + fc m)) : LeaveI n ao cap x w0 w1 sb lb ab pb cb p rv lo hi B b1 VA TL w' VS U S v Y (i + 1) c m H g := by
  have h1 : (fc m + 1) * (Y.length - i) = (fc m + 1) * (Y.length - (i + 1)) + (fc m + 1) := by
    rw [show Y.length - i = Y.length - (i + 1) + 1 by omega, Nat.mul_succ]
  refine ⟨f2, RL, flo2, _, M, T, hm, fun y u hy hu => ?_, by omega⟩
  obtain ⟨e1, e2⟩ := hK y u hy hu
  refine ⟨e1, ?_⟩
  subst e1
  rw [List.drop_eq_getElem_cons hil] at e2
  rcases List.mem_cons.1 e2 with c | c
  · exfalso
    refine hne ?_
    rw [List.getD_eq_getElem?_getD, List.getElem?_eq_getElem hil]
    show f2.up Y[i] = _
    rw [← c]; exact hy
  · exact c
theorem leave_part (hR : Right n) (hL : Lds n.l L TL) {v i : Nat} {Y : List Nat} {w' : World} {f3 : Ft} {RL3 : List Int} (T : Tre n TL g x U f2 RL S) (hil : i < Y.length) (hm : f2.v.length = m) (hsv : S.getD v false = true)
    (hK : ∀ y u, f2.up y = some u → S.getD u false = true → u = v ∧ y ∈ Y.drop i) (hu : f2.up (Y.getD i 0) = some v)
    (hH : fhi2 + (c + i) + (fc m + 1) * psi n TL g x U f2 S (aheadN n TL) + (fc m + 1) * (Y.length - i) + (fc m + 1) ≤ H)
    (ho : Off1 f2 f3 (Y.getD i 0)) (M : TsM n ao cap x w0 w1 sb lb ab pb cb p rv lo hi B b1 VA TL w' RL3 VS U S (c + i + 1) f3 flo2 (fhi2 + fc m + 3 * fc m)) (T3 : Tre n TL g x U f3 RL3 S) : LeaveI n ao cap x w0 w1 sb lb ab pb cb p rv lo hi B b1 VA TL w' VS U S v Y (i + 1) c m H g := by
  obtain ⟨r, T', hU, r1, r2, r3, _⟩ := T.says hR hL hu
  have hpsi := cost_le (C := fc m + 1) (psi_part (TL := TL) (A := aheadN n TL) (S := S) (x := x) (g := g) (n := n) (T.lt hu) hu hU (fun c => by
    rw [show (trT n.l r).toNat = v by omega, hsv] at c
    exact absurd c.2 (by simp)) ho)
  refine leave_next hR hL (f2 := f3) (fhi2 := fhi2 + 3 * fc m) T3 hil (by rw [ho.len]; exact hm) (fun y u hy hs => ?_) (fun c => ?_) (by omega) (by rwa [show fhi2 + 3 * fc m + fc m = fhi2 + fc m + 3 * fc m by omega])
  · rw [ho.up] at hy
    split at hy
    · cases hy
    · exact hK y u hy hs
  · rw [ho.up, if_pos rfl] at c; cases c
theorem leave_end {v : Nat} {Y : List Nat} {w' : World} (h : LeaveI n ao cap x w0 w1 sb lb ab pb cb p rv lo hi B b1 VA TL w' VS U S v Y Y.length c m H g) : LeaveR n ao cap x w0 w1 sb lb ab pb cb p rv lo hi B b1 VA TL w' VS U S c m H g := by
  obtain ⟨f2, RL2, flo2, fhi2, M, T, hm, hK, hc⟩ := h
  refine ⟨f2, RL2, flo2, fhi2, _, M, T, hm, fun y u hy => ?_, by omega, by omega⟩
  rcases e : S.getD u false with _ | _
  · rfl
  · have := (hK y u hy e).2
    rw [List.drop_length] at this
    simp at this
set_option maxRecDepth 100000 in
set_option maxHeartbeats 4000000 in
theorem leave_any (M : TsM n ao cap x w0 w1 sb lb ab pb cb p rv lo hi B b1 VA TL w RL VS U S c f flo fhi) (T : Tre n TL g x U f RL S) (hR : Right n) (hL : Lds n.l L TL) (hF : Okf n g) {v : Nat} (hv : v < n.n.toNat + 1) (hvt : v ≠ n.t.toNat) (hU : U v = []) (hs : S.getD v false = false) (hK : ∀ y u, f.up y = some u → S.getD u false = false) (hm : f.v.length = m) (hH : fhi + c + (fc m + 1) * psi n TL g x U f S (aheadN n TL) ≤ H) (hH2 : H ≤ 4611686018427387904) (hTL : TL.length ≤ 1000000) :
    Calls Try.prog 49 #[.pointer (some ⟨sb, 0, none⟩), .int .i64 (v : Int)] w fun e w' => e = .returned (.tuple #[]) ∧ LeaveR n ao cap x w0 w1 sb lb ab pb cb p rv lo hi B b1 VA TL w' VS U (S.set v true) c m H g := by
  have hlt : v < S.length := by rw [T.slen]; exact hv
  have HI0 := Lib.hid (leave_first hR hL M T hv hvt hU hs hK hm hH hlt)
  have hsv : (S.set v true).getD v false = true := by rw [getD_set _ _ _ hlt, if_pos rfl]
  obtain ⟨o, rc, hVA, hrc, hY⟩ := M.aheadr hv
  have HY := Lib.hid hY
  have HYE := Lib.hid (show ∀ i, i < (aheadL n TL v).length → (aheadL n TL v).getD i 0 < m from fun i hil => by
    have := getD_mem hil
    unfold aheadL at this
    obtain ⟨r, hr, e⟩ := List.mem_map.1 this
    have h1 := trF_bd hR (hL.lt r (List.mem_filter.1 hr).1)
    unfold aheadL
    rw [← hm, T.len, ← e]; omega)
  have HYL := Lib.hid (show (aheadL n TL v).length ≤ 1000000 by
    rw [aheadL_len]
    unfold aheadN
    exact Nat.le_trans (List.length_filter_le _ _) hTL)
  have HEND := Lib.hid (fun w' (h : LeaveI n ao cap x w0 w1 sb lb ab pb cb p rv lo hi B b1 VA TL w' VS U (S.set v true) v (aheadL n TL v) (aheadL n TL v).length c m H g) => leave_end h)
  have HROUND := Lib.hid (show ∀ w' i, i < (aheadL n TL v).length → LeaveI n ao cap x w0 w1 sb lb ab pb cb p rv lo hi B b1 VA TL w' VS U (S.set v true) v (aheadL n TL v) i c m H g → ∃ f2 RL2 flo2 fhi2, TsM n ao cap x w0 w1 sb lb ab pb cb p rv lo hi B b1 VA TL w' RL2 VS U (S.set v true) (c + i) f2 flo2 fhi2 ∧ c + i ≤ 4611686018427387904 ∧
      (∀ w3, TsM n ao cap x w0 w1 sb lb ab pb cb p rv lo hi B b1 VA TL w3 RL2 VS U (S.set v true) (c + i + 1) f2 flo2 fhi2 → Calls Try.prog 50 #[.pointer (some ⟨p, 0, none⟩), .int .i64 (((aheadL n TL v).getD i 0 : Nat) : Int)] w3 fun e w4 => ∃ z : Int, e = .returned (.int .i64 z) ∧
        ((z = (v : Int) ∧ ∃ flo3 fhi3, TsM n ao cap x w0 w1 sb lb ab pb cb p rv lo hi B b1 VA TL w4 RL2 VS U (S.set v true) (c + i + 1) f2 flo3 fhi3 ∧ Calls Try.prog 51 #[.pointer (some ⟨sb, 0, none⟩), .int .i64 (((aheadL n TL v).getD i 0 : Nat) : Int)] w4 fun e w5 => e = .returned (.tuple #[]) ∧ LeaveI n ao cap x w0 w1 sb lb ab pb cb p rv lo hi B b1 VA TL w5 VS U (S.set v true) v (aheadL n TL v) (i + 1) c m H g) ∨
        (z ≠ (v : Int) ∧ LeaveI n ao cap x w0 w1 sb lb ab pb cb p rv lo hi B b1 VA TL w4 VS U (S.set v true) v (aheadL n TL v) (i + 1) c m H g))) from fun w' i hil h => by
    have hyl := HYE.out i hil
    obtain ⟨f2, RL2, flo2, fhi2, M2, T2, hm2, hK2, hc2⟩ := h
    refine ⟨f2, RL2, flo2, fhi2, M2, by omega, fun w3 M3 => (M3.above hm2 _).mono ?_⟩
    rintro e w4 ⟨rfl, flo3, M4⟩
    refine ⟨_, rfl, ?_⟩
    rw [Fo.aboveZ_nat (by omega)]
    by_cases hu : f2.up ((aheadL n TL v).getD i 0) = some v
    · left
      rw [hu]
      refine ⟨rfl, _, _, M4, (part_any M4 T2 hR hL hF.wi hu hm2).mono ?_⟩
      rintro e w5 ⟨rfl, f3, RL3, flo5, ho, M5, T5⟩
      exact ⟨rfl, leave_part hR hL T2 hil hm2 hsv hK2 hu hc2 ho M5 T5⟩
    · right
      refine ⟨fun c => hu ?_, leave_next hR hL T2 hil hm2 hK2 hu hc2 M4⟩
      cases e : f2.up ((aheadL n TL v).getD i 0) with
      | none => rw [e] at c; simp only [Fo.oz] at c; omega
      | some z => rw [e] at c; simp only [Fo.oz] at c; exact congrArg some (by omega))
  have HD := Lib.hid (fun w' RL' f' c' flo fhi (h : TsM n ao cap x w0 w1 sb lb ab pb cb p rv lo hi B b1 VA TL w' RL' VS U (S.set v true) c' f' flo fhi) => h.tc)
  have HMORE := Lib.hid (fun w' RL' f' c' flo fhi (h : TsM n ao cap x w0 w1 sb lb ab pb cb p rv lo hi B b1 VA TL w' RL' VS U (S.set v true) c' f' flo fhi) hc => more_any h hc)
  have HINI := Lib.hid (show ∀ w' i, LeaveI n ao cap x w0 w1 sb lb ab pb cb p rv lo hi B b1 VA TL w' VS U (S.set v true) v (aheadL n TL v) i c m H g → ∃ f2 RL2 flo2 fhi2, TsM n ao cap x w0 w1 sb lb ab pb cb p rv lo hi B b1 VA TL w' RL2 VS U (S.set v true) (c + i) f2 flo2 fhi2 from fun w' i h => by
    obtain ⟨f2, RL2, flo2, fhi2, M2, _⟩ := h
    exact ⟨f2, RL2, flo2, fhi2, M2⟩)
  obtain ⟨k0, k1, k2, k3, k4, k5, k6, k7, k8, k9, k10⟩ := M.tc
  obtain ⟨s0, s1⟩ := M.marks T.slen hv
  have hvi : (v : Int) < (n.n.toNat : Int) + 1 := by omega
  have hv0 : (0 : Int) ≤ (v : Int) := by omega
  obtain ⟨w1n, w2n, w3n, w4n, w5n, w6n⟩ := M.st.ne
  have d1 : ¬ pb = sb := w6n
  have d2 : ¬ sb = pb := Ne.symm w6n
  have d3 : ¬ ab = pb := w4n
  have d4 : ¬ pb = ab := Ne.symm w4n
  have a0 := (hY _ _ _ _ _ _ _ _ _ M).1
  clear w1n w2n w3n w4n w5n w6n
  clear M T hR hL hF hv hvt hU hs hK hm hH hH2 hTL hlt hsv hVA hY
  generalize S.set v true = S2 at *
  generalize aheadL n TL v = Y at *
  generalize hYN : Y.length = YN at *
  have HYN := Lib.hid hYN
  clear hYN
  go_enter Try.func49, Try.ntmps49
  go_wp2
  clear k0 k1 k2 k3 k4 k5 k6 k7 k8 k9 k10 s0 s1 a0
  go_loopg [5, 20] YN (fun gg s5 s20 wr => (∃ z, s5 = z) ∧ ∃ i : Nat, s20 = .int .i64 (i : Int) ∧ i + gg = YN ∧ Hid (LeaveI n ao cap x w0 w1 sb lb ab pb cb p rv lo hi B b1 VA TL wr VS U S2 v Y i c m H g))
  case atStart => exact ⟨⟨_, rfl⟩, 0, rfl, by omega, HI0⟩
  case round =>
    obtain ⟨⟨z5, rfl⟩, i, rfl, hig, HLI⟩ := hrel
    by_cases hin : i < YN
    · obtain ⟨f2, RL2, flo2, fhi2, hM, hc, HAB⟩ := HROUND.out wr i hin HLI.out
      have HAB := Lib.hid HAB
      obtain ⟨b, off, rfl, e0⟩ := (HY.out _ _ _ _ _ _ _ _ _ hM).2 i hin
      obtain ⟨k0, k1, k2, k3, k4, k5, k6, k7, k8, k9, k10⟩ := HD.out _ _ _ _ _ _ hM
      have HMO := Lib.hid (HMORE.out _ _ _ _ _ _ hM hc)
      have hii : (i : Int) < (YN : Int) := by omega
      have hi0 : (0 : Int) ≤ (i : Int) := by omega
      have hw1 : IntKind.i64.wrap ((i : Int) + 1) = ((i + 1 : Nat) : Int) := by have := HYL.out; rw [IntKind.wrap_i64]; omega
      generalize Y.getD i 0 = y at *
      clear hM hc
      go_wp2_with fail
      refine HMO.out.mono ?_
      rintro e w3 ⟨rfl, h3⟩
      clear k0 k1 k2 k3 k4 k5 k6 k7 k8 k9 k10 e0
      obtain ⟨k0, k1, k2, k3, k4, k5, k6, k7, k8, k9, k10⟩ := HD.out _ _ _ _ _ _ h3
      have HA3 := Lib.hid (HAB.out _ h3)
      clear h3
      go_wp2_with fail
      refine HA3.out.mono ?_
      rintro e w4 ⟨z, rfl, hz⟩
      clear k0 k1 k2 k3 k4 k5 k6 k7 k8 k9 k10
      rcases hz with ⟨rfl, flo4, fhi4, h4, h5⟩ | ⟨hz, h4⟩
      · have H5 := Lib.hid h5
        have hvv : ((v : Int) == (v : Int)) = true := by simp
        clear h4 h5
        go_wp2_with fail
        refine H5.out.mono ?_
        rintro e w5 ⟨rfl, h6⟩
        have H6 := Lib.hid h6
        clear h6
        go_wp2
        go_roundg (YN - (i + 1))
        case measure => omega
        case rel => exact ⟨⟨_, rfl⟩, i + 1, rfl, by omega, H6⟩
      · have H4 := Lib.hid h4
        have hvv : (z == (v : Int)) = false := by simpa using hz
        clear h4
        go_wp2
        go_roundg (YN - (i + 1))
        case measure => omega
        case rel => exact ⟨⟨_, rfl⟩, i + 1, rfl, by omega, H4⟩
    · obtain rfl : i = YN := by omega
      have HE := Lib.hid (HEND.out _ HLI.out)
      go_wp2
      go_end0
      exact ⟨rfl, HE.out⟩
end
end Ne
namespace Ne
open Sp (Off Ext)
open Fo (Ft FoO fc)
def HangI (n : Net) (ao : Option Addr) (cap : Nat) (x : Int) (w0 w1 : World) (sb lb ab pb cb p : Nat) (rv : Value) (lo hi B b1 : Nat) (VA : Nat → Value) (TL : List Nat) (w' : World) (RL : List Int) (S : List Bool) (v k c0 m H : Nat) (g : List Int) (f : Ft) (flo fhi : Nat) : Prop :=
  ∃ VS U c, TsM n ao cap x w0 w1 sb lb ab pb cb p rv lo hi B b1 VA TL w' RL VS U S c f flo fhi ∧ Tre n TL g x U f RL S ∧ (U v).length = k ∧ c0 ≤ c ∧ fhi + c + (fc m + 1) * psi n TL g x U f S (aheadN n TL) ≤ H
def HangR (n : Net) (ao : Option Addr) (cap : Nat) (x : Int) (w0 w1 : World) (sb lb ab pb cb p : Nat) (rv : Value) (lo hi B b1 : Nat) (VA : Nat → Value) (TL : List Nat) (w' : World) (RL : List Int) (S : List Bool) (v c0 m H : Nat) (g : List Int) (f : Ft) (flo fhi : Nat) (b : Bool) : Prop :=
  match b with
  | false => ∃ VS U c, TsM n ao cap x w0 w1 sb lb ab pb cb p rv lo hi B b1 VA TL w' RL VS U S c f flo fhi ∧ Tre n TL g x U f RL S ∧ U v = [] ∧ c0 ≤ c ∧ fhi + c + (fc m + 1) * psi n TL g x U f S (aheadN n TL) ≤ H
  | true => ∃ VS U c f2 flo2 fhi2, TsM n ao cap x w0 w1 sb lb ab pb cb p rv lo hi B b1 VA TL w' RL VS U S c f2 flo2 fhi2 ∧ Tre n TL g x U f2 RL S ∧ f2.v.length = m ∧ (∀ y u, f2.up y = some u → S.getD u false = false) ∧ c0 ≤ c ∧ fhi2 + c + (fc m + 1) * psi n TL g x U f2 S (aheadN n TL) + (fc m + 1) ≤ H
section
variable {n : Net} {ao : Option Addr} {cap : Nat} {x : Int} {w0 w1 : World} {sb lb ab pb cb p : Nat} {rv : Value} {lo hi B b1 : Nat} {VA : Nat → Value} {TL : List Nat}
variable {w w2 : World} {RL : List Int} {VS : Nat → Value} {U : Nat → List Nat} {S : List Bool} {c : Nat} {f f2 : Ft} {flo fhi flo2 fhi2 : Nat} {m H : Nat} {g : List Int} {L : List Int} {A : Nat → Nat}
theorem hang_round (hR : Right n) (hL : Lds n.l L TL) (hF : Okf n g) {v k c0 : Nat} (hv : v < n.n.toNat + 1) (hvt : v ≠ n.t.toNat) (hup : f.up v = none) (hK : ∀ y u, f.up y = some u → S.getD u false = false) (hm : f.v.length = m) (hH2 : H ≤ 4611686018427387904) (h : HangI n ao cap x w0 w1 sb lb ab pb cb p rv lo hi B b1 VA TL w RL S v k c0 m H g f flo fhi) :
    (k = 0 ∧ HangR n ao cap x w0 w1 sb lb ab pb cb p rv lo hi B b1 VA TL w RL S v c0 m H g f flo fhi false ∧ ∃ VS U c o rc, TsM n ao cap x w0 w1 sb lb ab pb cb p rv lo hi B b1 VA TL w RL VS U S c f flo fhi ∧ w.cell? ⟨lb, v, none⟩ = some (.slice o 0 rc)) ∨
    (∃ VS U c r b off rc t, TsM n ao cap x w0 w1 sb lb ab pb cb p rv lo hi B b1 VA TL w RL VS U S c f flo fhi ∧ w.cell? ⟨lb, v, none⟩ = some (.slice (some ⟨b, off, none⟩) k rc) ∧ 0 < k ∧ k ≤ rc ∧ rc ≤ maxLen ∧ r < 2 * n.l.length ∧ t = (trT n.l r).toNat ∧ t < n.n.toNat + 1 ∧ 0 ≤ amt RL r ∧ amt RL r ≤ 4611686018427387903 ∧ c ≤ 4611686018427387904 ∧ r < RL.length ∧ lo ≤ b ∧ b < hi ∧
      (∀ w' c', TsM n ao cap x w0 w1 sb lb ab pb cb p rv lo hi B b1 VA TL w' RL VS U S c' f flo fhi → w'.cell? ⟨lb, v, none⟩ = some (.slice (some ⟨b, off, none⟩) k rc) ∧ w'.frozen? ⟨lb, v, none⟩ = false ∧ w'.cell? ⟨b, off, none⟩ = some (.int .i64 (r : Int)) ∧ w'.cell? ⟨pb, t, none⟩ = some (.bool (S.getD t false))) ∧
      (x ≤ amt RL r → S.getD t false = false → ∀ w', TsM n ao cap x w0 w1 sb lb ab pb cb p rv lo hi B b1 VA TL w' RL VS U S (c + 1) f flo fhi → Calls Try.prog 73 #[.pointer (some ⟨p, 0, none⟩), .int .i64 (v : Int), .int .i64 (amt RL r - 4611686018427387904)] w' fun e w3 => ∃ z, e = .returned (.int .i64 z) ∧ (∃ f2 flo2 fhi2, TsM n ao cap x w0 w1 sb lb ab pb cb p rv lo hi B b1 VA TL w3 RL VS U S (c + 1) f2 flo2 fhi2) ∧
        Calls Try.prog 74 #[.pointer (some ⟨p, 0, none⟩), .int .i64 (v : Int), .int .i64 (t : Int)] w3 fun e w4 => ∃ z, e = .returned (.int .i64 z) ∧ HangR n ao cap x w0 w1 sb lb ab pb cb p rv lo hi B b1 VA TL w4 RL S v c0 m H g f flo fhi true) ∧
      (¬ (x ≤ amt RL r ∧ S.getD t false = false) → ∀ w', TsM n ao cap x w0 w1 sb lb ab pb cb p rv lo hi B b1 VA TL w' RL VS U S (c + 1) f flo fhi → ∀ a, (k = 1 ∨ a = some ⟨b, off + 1, none⟩) → HangI n ao cap x w0 w1 sb lb ab pb cb p rv lo hi B b1 VA TL (w'.setCell ⟨lb, v, none⟩ (.slice a (k - 1) (rc - 1))) RL S v (k - 1) c0 m H g f flo fhi)) := by
  obtain ⟨VS, U, c, M, T, hk, hc0, hc⟩ := h
  cases hU : U v with
  | nil =>
    left
    rw [hU] at hk
    obtain ⟨e1, o, rc, e2⟩ := M.nil hv hU
    exact ⟨hk.symm, ⟨VS, U, c, M, T, hU, hc0, hc⟩, VS, U, c, o, rc, M, by rw [e1, e2]⟩
  | cons r T' =>
    right
    rw [hU, List.length_cons] at hk
    obtain ⟨e1, e2, b, off, rc, e3, e4, e5, e6, e7, e8, e9⟩ := M.head hv hU
    obtain ⟨h1, h2⟩ := T.srch.sub v hv r (by rw [hU]; simp)
    have hr := hL.lt r h1
    have b2 := trT_bd hR hr
    have hrl : r < RL.length := by rw [T.rlen]; exact hr
    obtain ⟨g1, g2, g3, g4⟩ := tre_hang hR hL hF.wi T hv hvt hup hU
    obtain ⟨n1, n2⟩ := Tre.rnn hR hL hF.wi r h1
    rw [← g1] at n1 n2
    have hdrop := fun hx => tre_drop hR hL T hv hup hU hx
    have hpd := cost_le (C := fc m + 1) (psi_drop (A := aheadN n TL) T hv hup hU)
    have hcf : (trT n.l r) = (((trT n.l r).toNat : Nat) : Int) := by omega
    obtain ⟨t, ht⟩ : ∃ t, t = (trT n.l r).toNat := ⟨_, rfl⟩
    rw [← ht] at hcf g2 g4 hdrop
    rw [hcf] at g3 g4
    rw [e3] at e1 e9
    refine ⟨VS, U, c, r, b, off, rc, t, M, by rw [e1, hk], by omega, by omega, e5, hr, ht, g2, n1, n2, by omega, hrl, e6, e7, fun w' c' M' => ?_, fun hx hs w' M' => ?_, fun hx w' M' a ha => ?_⟩
    · obtain ⟨k1, k2, b', off', rc', k3, k4, k5, k6, k7, k8, _⟩ := M'.head hv hU
      rw [e3] at k3
      simp only [Value.slice.injEq, Option.some.injEq, Addr.mk.injEq, and_true, true_and] at k3
      obtain ⟨⟨rfl, rfl⟩, rfl⟩ := k3
      exact ⟨by rw [k1, e3, hk], k2, k8, (M'.marks T.slen g2).1⟩
    · have hph := cost_le (C := fc m + 1) (psi_hang (A := aheadN n TL) (TL := TL) (n := n) (g := g) (x := x) (S := S) hv hup hU (by rw [← g1]; exact hx) (by rw [← ht]; exact hs) g4)
      refine (M'.add hm (v : Int) (amt RL r - 4611686018427387904) (by omega)).mono ?_
      rintro e w3 ⟨rfl, flo3, M3⟩
      refine ⟨_, rfl, ⟨_, _, _, M3⟩, (M3.link (m := m) (by rw [addSF_len]; exact hm) (v : Int) (t : Int)).mono ?_⟩
      rintro e w4 ⟨rfl, flo4, M4⟩
      refine ⟨_, rfl, VS, U, c + 1, _, flo4, _, M4, g3, ?_, fun y u hy => ?_, by omega, by omega⟩
      · rw [g3.len, ← T.len, hm]
      · rw [g4] at hy
        split at hy
        · cases hy; exact hs
        · exact hK y u hy
    · have hT := hdrop hx
      have hrow : RowOf w' lo hi (.slice a (k - 1) (rc - 1)) T' := by
        have hh := M'.rows.each v hv
        rw [hU] at hh
        obtain ⟨A', c', q1, q2, q3, q4⟩ := hh
        rw [e3] at q1
        simp only [Value.slice.injEq] at q1
        obtain ⟨q5, q6, q7⟩ := q1
        rcases q4 with q4 | ⟨b', off', q8, q9, q10, q11⟩
        · cases q4
        · rw [← q5] at q8
          simp only [Option.some.injEq, Addr.mk.injEq, and_true] at q8
          obtain ⟨rfl, rfl⟩ := q8
          refine ⟨a, rc - 1, by congr 1; omega, by omega, by omega, ?_⟩
          rcases ha with ha | ha
          · left
            rw [ha] at hk
            exact List.eq_nil_of_length_eq_zero (by omega)
          · right
            refine ⟨b, off + 1, ha, q9, q10, fun i hil => ?_⟩
            rw [show off + 1 + i = off + (i + 1) by omega, q11 (i + 1) (by simp; omega)]
            simp [List.getD]
      refine ⟨_, _, c + 1, M'.put hv hrow, hT, ?_, by omega, by omega⟩
      simp only [if_true]
      omega
set_option maxRecDepth 100000 in
set_option maxHeartbeats 8000000 in
theorem hang_any (M : TsM n ao cap x w0 w1 sb lb ab pb cb p rv lo hi B b1 VA TL w RL VS U S c f flo fhi) (T : Tre n TL g x U f RL S) (hR : Right n) (hL : Lds n.l L TL) (hF : Okf n g) {v : Nat} (hv : v < n.n.toNat + 1) (hvt : v ≠ n.t.toNat) (hup : f.up v = none) (hK : ∀ y u, f.up y = some u → S.getD u false = false) (hm : f.v.length = m) (hH : fhi + c + (fc m + 1) * psi n TL g x U f S (aheadN n TL) ≤ H) (hH2 : H ≤ 4611686018427387904) :
    Calls Try.prog 48 #[.pointer (some ⟨sb, 0, none⟩), .int .i64 (v : Int)] w fun e w' => ∃ b, e = .returned (.bool b) ∧ HangR n ao cap x w0 w1 sb lb ab pb cb p rv lo hi B b1 VA TL w' RL S v c m H g f flo fhi b := by
  have HI0 := Lib.hid (show HangI n ao cap x w0 w1 sb lb ab pb cb p rv lo hi B b1 VA TL w RL S v (U v).length c m H g f flo fhi from ⟨VS, U, c, M, T, rfl, Nat.le_refl _, hH⟩)
  have HRD := Lib.hid (fun w' k (h : HangI n ao cap x w0 w1 sb lb ab pb cb p rv lo hi B b1 VA TL w' RL S v k c m H g f flo fhi) => hang_round hR hL hF hv hvt hup hK hm hH2 h)
  have HD := Lib.hid (fun w' VS U c f' flo fhi (h : TsM n ao cap x w0 w1 sb lb ab pb cb p rv lo hi B b1 VA TL w' RL VS U S c f' flo fhi) => h.tc)
  have HMORE := Lib.hid (fun w' VS U c (h : TsM n ao cap x w0 w1 sb lb ab pb cb p rv lo hi B b1 VA TL w' RL VS U S c f flo fhi) hc => more_any h hc)
  have HEN := Lib.hid (show ∀ w' r, ARow w' ao n.l → r < 2 * n.l.length → Calls Try.prog 44 #[.agg #[.int .i64 n.n, .int .i64 n.s, .int .i64 n.t, .slice ao n.l.length cap], .int .i64 (r : Int)] w' fun e w2 => ∃ q : Int, e = .returned (.tuple #[.int .i64 q, .int .i64 (((trT n.l r).toNat : Nat) : Int)]) ∧ Below w'.heap.size w' w2 from fun w' r h1 h2 => by
    refine (ends_nat n ao cap r w' hR h1 h2).mono ?_
    rintro e w2 ⟨rfl, hb⟩
    exact ⟨_, rfl, hb⟩)
  have hvi : (v : Int) < (n.n.toNat : Int) + 1 := by omega
  have hv0 : (0 : Int) ≤ (v : Int) := by omega
  clear M T hR hL hF hv hvt hup hK hm hH hH2
  generalize hKK : (U v).length = K at *
  clear hKK
  go_enter Try.func48, Try.ntmps48
  go_wp2
  go_loopg [5, 6, 7] K (fun k s5 s6 s7 wr => (∃ z, s5 = z) ∧ (∃ z, s6 = z) ∧ (∃ z, s7 = z) ∧ ∃ kk, kk = k ∧ Hid (HangI n ao cap x w0 w1 sb lb ab pb cb p rv lo hi B b1 VA TL wr RL S v kk c m H g f flo fhi))
  case atStart => exact ⟨⟨_, rfl⟩, ⟨_, rfl⟩, ⟨_, rfl⟩, _, rfl, HI0⟩
  case round =>
    obtain ⟨⟨z5, rfl⟩, ⟨z6, rfl⟩, ⟨z7, rfl⟩, k, rfl, HI⟩ := hrel
    rcases HRD.out _ _ HI.out with ⟨rfl, hE, VS1, U1, c1, o, rc, M1, u0⟩ | ⟨VS1, U1, c1, r, b, off, rc, t, M1, u0, hk0, hkr, hrm, hr, ht, htn, hn1, hn2, hc1, hrl, hb1, hb2, hcell, hhang, hdrop⟩
    · obtain ⟨k0, k1, k2, k3, k4, k5, k6, k7, k8, k9, k10⟩ := HD.out _ _ _ _ _ _ _ M1
      have HE := Lib.hid hE
      clear hE M1
      go_wp2
      go_ret
      exact ⟨false, rfl, HE.out⟩
    · obtain ⟨k0, k1, k2, k3, k4, k5, k6, k7, k8, k9, k10⟩ := HD.out _ _ _ _ _ _ _ M1
      have HMO := Lib.hid (HMORE.out _ _ _ _ M1 hc1)
      have HCELL := Lib.hid hcell
      have HHANG := Lib.hid hhang
      have HDROP := Lib.hid hdrop
      have HT := Lib.hid ht
      have hki : (0 : Int) < (k : Int) := by omega
      clear hcell hhang hdrop M1 hc1 ht
      go_wp2_with fail
      refine HMO.out.mono ?_
      rintro e w3 ⟨rfl, M3⟩
      clear k0 k1 k2 k3 k4 k5 k6 k7 k8 k9 k10 u0
      obtain ⟨k0, k1, k2, k3, k4, k5, k6, k7, k8, k9, k10⟩ := HD.out _ _ _ _ _ _ _ M3
      obtain ⟨u0, u1, u2, u3⟩ := HCELL.out _ _ M3
      have HM3 := Lib.hid M3
      have HE3 := Lib.hid (HEN.out _ r M3.row hr)
      rw [← HT.out] at HE3
      clear M3
      go_wp2_with fail
      refine HE3.out.mono ?_
      rintro e w4 ⟨q, rfl, hb⟩
      have M4 := HM3.out.grow hb
      clear k0 k1 k2 k3 k4 k5 k6 k7 k8 k9 k10 u0 u1 u2 u3 hb
      obtain ⟨k0, k1, k2, k3, k4, k5, k6, k7, k8, k9, k10⟩ := HD.out _ _ _ _ _ _ _ M4
      obtain ⟨u0, u1, u2, u3⟩ := HCELL.out _ _ M4
      obtain ⟨g0, rc0, hrv, hgl, r0, r1, _⟩ := M4.note hrl
      have HM4 := Lib.hid M4
      clear M4
      subst hrv
      have hri : (r : Int) < (RL.length : Int) := by omega
      have hr0 : (0 : Int) ≤ (r : Int) := by omega
      have hti : (t : Int) < (n.n.toNat : Int) + 1 := by omega
      have ht0 : (0 : Int) ≤ (t : Int) := by omega
      have hw1 : IntKind.i64.wrap (amt RL r - 4611686018427387904) = amt RL r - 4611686018427387904 := by rw [IntKind.wrap_i64]; omega
      generalize hst : S.getD t false = st at *
      generalize amt RL r = X at *
      obtain ⟨cnd, hcnd⟩ : ∃ cnd : Bool, cnd = (decide (x ≤ X) && !st) := ⟨_, rfl⟩
      have HCND := Lib.hid hcnd
      clear hcnd
      go_upto_region 5 with fail
      go_cut [61] (fun s wc => s = .bool cnd ∧ Hid (TsM n ao cap x w0 w1 sb lb ab pb cb p (.slice (some ⟨g0, 0, none⟩) RL.length rc0) lo hi B b1 VA TL wc RL VS1 U1 S (c1 + 1) f flo fhi) ∧ wc.cell? ⟨g0, r, none⟩ = some (.int .i64 X))
      case first =>
        by_cases cx : x ≤ X
        · have hle : decide (x ≤ X) = true := by simpa using cx
          rcases st with _ | _
          · obtain rfl : cnd = true := by rw [HCND.out, hle]; rfl
            go_quiet (fail)
            go_wp2
            go_meet
            case rel => exact ⟨rfl, Lib.hid (HM4.out.grow (below_dn (Below.refl _ _) _)), r0⟩
          · obtain rfl : cnd = false := by rw [HCND.out, hle]; rfl
            go_quiet (fail)
            go_wp2
            go_meet
            case rel => exact ⟨rfl, Lib.hid (HM4.out.grow (below_dn (Below.refl _ _) _)), r0⟩
        · have hle : decide (x ≤ X) = false := by simpa using cx
          obtain rfl : cnd = false := by rw [HCND.out, hle]; rfl
          go_quiet (fail)
          go_wp2
          go_meet
          case rel => exact ⟨rfl, Lib.hid (HM4.out.grow (below_dn (Below.refl _ _) _)), r0⟩
      case rest =>
        obtain ⟨rfl, HM5, r5⟩ := hcut
        clear k0 k1 k2 k3 k4 k5 k6 k7 k8 k9 k10 u0 u1 u2 u3 r0 r1 HM4
        obtain ⟨k0, k1, k2, k3, k4, k5, k6, k7, k8, k9, k10⟩ := HD.out _ _ _ _ _ _ _ HM5.out
        obtain ⟨u0, u1, u2, u3⟩ := HCELL.out _ _ HM5.out
        cases cnd
        · clear HHANG
          have HDR := Lib.hid (HDROP.out (fun h => by
            obtain ⟨h1, h2⟩ := h
            have h3 := HCND.out
            rw [h2] at h3
            simp [h1] at h3) _ (HM5.out.grow (below_drew (Below.refl _ _))))
          clear HDROP HM5
          have hk1 : 1 ≤ k := hk0
          have hk1i : (1 : Int) ≤ (k : Int) := by omega
          have hrc1 : k ≤ rc := hkr
          by_cases hr1 : rc = 1
          · have hkk : k = 1 := by omega
            subst hr1
            subst hkk
            have HD3 := Lib.hid (HDR.out (some ⟨b, off, none⟩) (.inl rfl))
            clear HDR hk1 hk1i hrc1 hk0 hkr hki
            go_wp2
            go_region
            go_wp2
            go_roundg 0
            case measure => omega
            case rel => exact ⟨⟨_, rfl⟩, ⟨_, rfl⟩, ⟨_, rfl⟩, _, rfl, Lib.hid HD3.out⟩
          · have HDR2 := Lib.hid (HDR.out (some ⟨b, off + 1, none⟩) (.inr rfl))
            clear HDR
            go_wp2
            go_region
            go_wp2
            go_roundg (k - 1)
            case measure => omega
            case rel => exact ⟨⟨_, rfl⟩, ⟨_, rfl⟩, ⟨_, rfl⟩, _, rfl, Lib.hid HDR2.out⟩
        · clear HDROP
          obtain ⟨cx, hs0⟩ : x ≤ X ∧ st = false := by
            have h3 := HCND.out
            rcases st with _ | _
            · simp at h3
              exact ⟨h3, rfl⟩
            · simp at h3
          have HHA := Lib.hid (HHANG.out cx hs0 _ (HM5.out.grow (below_drew (Below.refl _ _))))
          clear HHANG HM5
          go_wp2_with fail
          go_region_with (go_at_call 73; refine HHA.out.mono ?_; rintro e w6 ⟨z6, rfl, ⟨f6, fl6, fh6, M6⟩, hlk⟩; have HLK := Lib.hid hlk; clear k0 k1 k2 k3 k4 k5 k6 k7 k8 k9 k10; obtain ⟨k0, k1, k2, k3, k4, k5, k6, k7, k8, k9, k10⟩ := HD.out _ _ _ _ _ _ _ M6; clear hlk M6)
          all_goals
            go_wp2_with fail
            refine HLK.out.mono ?_
            rintro e w7 ⟨z7, rfl, hR7⟩
            have HR7 := Lib.hid hR7
            clear hR7 k0 k1 k2 k3 k4 k5 k6 k7 k8 k9 k10
            go_wp2
            go_ret
            exact ⟨true, rfl, HR7.out⟩
end
end Ne
end Go.Proofs.Ytiaddfmgkcebnaa
