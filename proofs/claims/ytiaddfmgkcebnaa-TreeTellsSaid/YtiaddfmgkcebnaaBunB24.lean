/-
  Tsq, Chk, Famt
-/
import Derived.Test.YtiaddfmgkcebnaaBunB23
import Derived.Deep.LoopGhost
import Derived.Test.YtiaddfmgkcebnaaBunB3
import Derived.Test.YtiaddfmgkcebnaaBunB18
namespace Go.Proofs.Ytiaddfmgkcebnaa
open Go.ChangeShapes Go.WideShapes Go.ChangeAt Go.RowKit
set_option linter.unusedVariables false
set_option linter.unusedSimpArgs false
namespace Ne
open Sp (Off Ext)
open Fo (Ft FoO fc)
def aheadL (n : Net) (TL : List Nat) (v : Nat) : List Nat := (TL.filter fun r => decide ((trT n.l r).toNat = v)).map fun r => (trF n.l r).toNat
def aheadN (n : Net) (TL : List Nat) (v : Nat) : Nat := (TL.filter fun r => decide ((trT n.l r).toNat = v)).length
theorem aheadL_len (n : Net) (TL : List Nat) (v : Nat) : (aheadL n TL v).length = aheadN n TL v := by simp [aheadL, aheadN]
def LeaveI (n : Net) (ao : Option Addr) (cap : Nat) (x : Int) (w0 w1 : World) (sb lb ab pb cb p : Nat) (rv : Value) (lo hi B b1 : Nat) (VA : Nat → Value) (TL : List Nat) (w' : World) (VS : Nat → Value) (U : Nat → List Nat) (S2 : List Bool) (v : Nat) (Y : List Nat) (i c0 m H : Nat) (g : List Int) : Prop :=
  ∃ f2 RL2 flo2 fhi2, TsM n ao cap x w0 w1 sb lb ab pb cb p rv lo hi B b1 VA TL w' RL2 VS U S2 (c0 + i) f2 flo2 fhi2 ∧ Tre n TL g x U f2 RL2 S2 ∧ f2.v.length = m ∧ (∀ y u, f2.up y = some u → S2.getD u false = true → u = v ∧ y ∈ Y.drop i) ∧
    fhi2 + (c0 + i) + (fc m + 1) * psi n TL g x U f2 S2 (aheadN n TL) + (fc m + 1) * (Y.length - i) + (fc m + 1) ≤ H
def LeaveR (n : Net) (ao : Option Addr) (cap : Nat) (x : Int) (w0 w1 : World) (sb lb ab pb cb p : Nat) (rv : Value) (lo hi B b1 : Nat) (VA : Nat → Value) (TL : List Nat) (w' : World) (VS : Nat → Value) (U : Nat → List Nat) (S2 : List Bool) (c m H : Nat) (g : List Int) : Prop :=
  ∃ f2 RL2 flo2 fhi2 c2, TsM n ao cap x w0 w1 sb lb ab pb cb p rv lo hi B b1 VA TL w' RL2 VS U S2 c2 f2 flo2 fhi2 ∧ Tre n TL g x U f2 RL2 S2 ∧ f2.v.length = m ∧ (∀ y u, f2.up y = some u → S2.getD u false = false) ∧ c ≤ c2 ∧
    fhi2 + c2 + (fc m + 1) * psi n TL g x U f2 S2 (aheadN n TL) + (fc m + 1) ≤ H
section
variable {n : Net} {ao : Option Addr} {cap : Nat} {x : Int} {w0 w1 : World} {sb lb ab pb cb p : Nat} {rv : Value} {lo hi B b1 : Nat} {VA : Nat → Value} {TL : List Nat}
variable {w w2 : World} {RL : List Int} {VS : Nat → Value} {U : Nat → List Nat} {S : List Bool} {c : Nat} {f f2 : Ft} {flo fhi flo2 fhi2 : Nat} {m H : Nat} {g : List Int} {L : List Int} {A : Nat → Nat}
theorem TsM.aheadr (h : TsM n ao cap x w0 w1 sb lb ab pb cb p rv lo hi B b1 VA TL w RL VS U S c f flo fhi) {v : Nat} (hv : v < n.n.toNat + 1) : ∃ o rc, VA v = .slice o (aheadL n TL v).length rc ∧ (aheadL n TL v).length ≤ rc ∧ ∀ w' RL' VS' U' S' c' f' flo' fhi', TsM n ao cap x w0 w1 sb lb ab pb cb p rv lo hi B b1 VA TL w' RL' VS' U' S' c' f' flo' fhi' → w'.cell? ⟨ab, v, none⟩ = some (.slice o (aheadL n TL v).length rc) ∧ ∀ i, i < (aheadL n TL v).length → ∃ b off, o = some ⟨b, off, none⟩ ∧ w'.cell? ⟨b, off + i, none⟩ = some (.int .i64 (((aheadL n TL v).getD i 0 : Nat) : Int)) := by
  obtain ⟨o, rc, h1, h2, _, _⟩ := h.st.ahead.each v hv
  refine ⟨o, rc, h1, h2, fun w' RL' VS' U' S' c' f' flo' fhi' h' => ⟨?_, fun i hil => ?_⟩⟩
  · have := h'.aheads.cell hv
    rw [this, h1]; rfl
  · obtain ⟨b, off, rc2, e1, _, _, _, _, e2⟩ := rowOf_at (h'.aheads.each v hv) (i := i) hil
    rw [h1] at e1
    simp only [Value.slice.injEq] at e1
    exact ⟨b, off, e1.1, e2 i hil⟩
theorem leave_first (hR : Right n) (hL : Lds n.l L TL) (M : TsM n ao cap x w0 w1 sb lb ab pb cb p rv lo hi B b1 VA TL w RL VS U S c f flo fhi) (T : Tre n TL g x U f RL S) {v : Nat} (hv : v < n.n.toNat + 1) (hvt : v ≠ n.t.toNat) (hU : U v = []) (hs : S.getD v false = false) (hK : ∀ y u, f.up y = some u → S.getD u false = false) (hm : f.v.length = m) (hH : fhi + c + (fc m + 1) * psi n TL g x U f S (aheadN n TL) ≤ H) (hlt : v < S.length) :
    LeaveI n ao cap x w0 w1 sb lb ab pb cb p rv lo hi B b1 VA TL (w.setCell ⟨pb, v, none⟩ (.bool true)) VS U (S.set v true) v (aheadL n TL v) 0 c m H g := by
  have hpsi := cost_le (C := fc m + 1) (psi_spend (A := aheadN n TL) T hv hs)
  rw [Nat.mul_add] at hpsi
  refine ⟨f, RL, flo, fhi, M.spend hlt, tre_spend hR hL T hv hvt hU, hm, fun y u hy hu => ?_, by rw [aheadL_len, Nat.sub_zero]; omega⟩
  rw [getD_set _ _ _ hlt] at hu
  have hk := hK y u hy
  have hvu : u = v := by
    by_cases c : u = v
    · exact c
    · rw [if_neg c, hk] at hu; cases hu
  refine ⟨hvu, ?_⟩
  obtain ⟨r, T', e, r1, r2, r3, _⟩ := T.says hR hL hy
  rw [List.drop_zero]
  unfold aheadL
  exact List.mem_map.2 ⟨r, List.mem_filter.2 ⟨r1, by simp; omega⟩, by omega⟩
theorem leave_next (hR : Right n) (hL : Lds n.l L TL) {v i : Nat} {Y : List Nat} {w' : World} (T : Tre n TL g x U f2 RL S) (hil : i < Y.length) (hm : f2.v.length = m)
    (hK : ∀ y u, f2.up y = some u → S.getD u false = true → u = v ∧ y ∈ Y.drop i) (hne : f2.up (Y.getD i 0) ≠ some v)
    (hH : fhi2 + (c + i) + (fc m + 1) * psi n TL g x U f2 S (aheadN n TL) + (fc m + 1) * (Y.length - i) + (fc m + 1) ≤ H)
    (M : TsM n ao cap x w0 w1 sb lb ab pb cb p rv lo hi B b1 VA TL w' RL VS U S (c + i + 1) f2 flo2 (fhi2 + fc m)) : LeaveI n ao cap x w0 w1 sb lb ab pb cb p rv lo hi B b1 VA TL w' VS U S v Y (i + 1) c m H g := by
  have h1 : (fc m + 1) * (Y.length - i) = (fc m + 1) * (Y.length - (i + 1)) + (fc m + 1) := by
    rw [show Y.length - i = Y.length - (i + 1) + 1 by omega, Nat.mul_succ]
  refine ⟨f2, RL, flo2, _, M, T, hm, fun y u hy hu => ?_, by omega⟩
  obtain ⟨e1, e2⟩ := hK y u hy hu
  refine ⟨e1, ?_⟩
  subst e1
  rw [List.drop_eq_getElem_cons hil] at e2
  rcases List.mem_cons.1 e2 with c | c
  · exfalso
    refine hne ?_
    rw [List.getD_eq_getElem?_getD, List.getElem?_eq_getElem hil]
    show f2.up Y[i] = _
    rw [← c]; exact hy
  · exact c
theorem leave_part (hR : Right n) (hL : Lds n.l L TL) {v i : Nat} {Y : List Nat} {w' : World} {f3 : Ft} {RL3 : List Int} (T : Tre n TL g x U f2 RL S) (hil : i < Y.length) (hm : f2.v.length = m) (hsv : S.getD v false = true)
    (hK : ∀ y u, f2.up y = some u → S.getD u false = true → u = v ∧ y ∈ Y.drop i) (hu : f2.up (Y.getD i 0) = some v)
    (hH : fhi2 + (c + i) + (fc m + 1) * psi n TL g x U f2 S (aheadN n TL) + (fc m + 1) * (Y.length - i) + (fc m + 1) ≤ H)
    (ho : Off1 f2 f3 (Y.getD i 0)) (M : TsM n ao cap x w0 w1 sb lb ab pb cb p rv lo hi B b1 VA TL w' RL3 VS U S (c + i + 1) f3 flo2 (fhi2 + fc m + 3 * fc m)) (T3 : Tre n TL g x U f3 RL3 S) : LeaveI n ao cap x w0 w1 sb lb ab pb cb p rv lo hi B b1 VA TL w' VS U S v Y (i + 1) c m H g := by
  obtain ⟨r, T', hU, r1, r2, r3, _⟩ := T.says hR hL hu
  have hpsi := cost_le (C := fc m + 1) (psi_part (TL := TL) (A := aheadN n TL) (S := S) (x := x) (g := g) (n := n) (T.lt hu) hu hU (fun c => by
    rw [show (trT n.l r).toNat = v by omega, hsv] at c
    exact absurd c.2 (by simp)) ho)
  refine leave_next hR hL (f2 := f3) (fhi2 := fhi2 + 3 * fc m) T3 hil (by rw [ho.len]; exact hm) (fun y u hy hs => ?_) (fun c => ?_) (by omega) (by rwa [show fhi2 + 3 * fc m + fc m = fhi2 + fc m + 3 * fc m by omega])
  · rw [ho.up] at hy
    split at hy
    · cases hy
    · exact hK y u hy hs
  · rw [ho.up, if_pos rfl] at c; cases c
theorem leave_end {v : Nat} {Y : List Nat} {w' : World} (h : LeaveI n ao cap x w0 w1 sb lb ab pb cb p rv lo hi B b1 VA TL w' VS U S v Y Y.length c m H g) : LeaveR n ao cap x w0 w1 sb lb ab pb cb p rv lo hi B b1 VA TL w' VS U S c m H g := by
  obtain ⟨f2, RL2, flo2, fhi2, M, T, hm, hK, hc⟩ := h
  refine ⟨f2, RL2, flo2, fhi2, _, M, T, hm, fun y u hy => ?_, by omega, by omega⟩
  rcases e : S.getD u false with _ | _
  · rfl
  · have := (hK y u hy e).2
    rw [List.drop_length] at this
    simp at this
set_option maxRecDepth 100000 in
set_option maxHeartbeats 4000000 in
theorem leave_any (M : TsM n ao cap x w0 w1 sb lb ab pb cb p rv lo hi B b1 VA TL w RL VS U S c f flo fhi) (T : Tre n TL g x U f RL S) (hR : Right n) (hL : Lds n.l L TL) (hF : Okf n g) {v : Nat} (hv : v < n.n.toNat + 1) (hvt : v ≠ n.t.toNat) (hU : U v = []) (hs : S.getD v false = false) (hK : ∀ y u, f.up y = some u → S.getD u false = false) (hm : f.v.length = m) (hH : fhi + c + (fc m + 1) * psi n TL g x U f S (aheadN n TL) ≤ H) (hH2 : H ≤ 4611686018427387904) (hTL : TL.length ≤ 1000000) :
    Calls Try.prog 49 #[.pointer (some ⟨sb, 0, none⟩), .int .i64 (v : Int)] w fun e w' => e = .returned (.tuple #[]) ∧ LeaveR n ao cap x w0 w1 sb lb ab pb cb p rv lo hi B b1 VA TL w' VS U (S.set v true) c m H g := by
  have hlt : v < S.length := by rw [T.slen]; exact hv
  have HI0 := Lib.hid (leave_first hR hL M T hv hvt hU hs hK hm hH hlt)
  have hsv : (S.set v true).getD v false = true := by rw [getD_set _ _ _ hlt, if_pos rfl]
  obtain ⟨o, rc, hVA, hrc, hY⟩ := M.aheadr hv
  have HY := Lib.hid hY
  have HYE := Lib.hid (show ∀ i, i < (aheadL n TL v).length → (aheadL n TL v).getD i 0 < m from fun i hil => by
    have := getD_mem hil
    unfold aheadL at this
    obtain ⟨r, hr, e⟩ := List.mem_map.1 this
    have h1 := trF_bd hR (hL.lt r (List.mem_filter.1 hr).1)
    unfold aheadL
    rw [← hm, T.len, ← e]; omega)
  have HYL := Lib.hid (show (aheadL n TL v).length ≤ 1000000 by
    rw [aheadL_len]
    unfold aheadN
    exact Nat.le_trans (List.length_filter_le _ _) hTL)
  have HEND := Lib.hid (fun w' (h : LeaveI n ao cap x w0 w1 sb lb ab pb cb p rv lo hi B b1 VA TL w' VS U (S.set v true) v (aheadL n TL v) (aheadL n TL v).length c m H g) => leave_end h)
  have HROUND := Lib.hid (show ∀ w' i, i < (aheadL n TL v).length → LeaveI n ao cap x w0 w1 sb lb ab pb cb p rv lo hi B b1 VA TL w' VS U (S.set v true) v (aheadL n TL v) i c m H g → ∃ f2 RL2 flo2 fhi2, TsM n ao cap x w0 w1 sb lb ab pb cb p rv lo hi B b1 VA TL w' RL2 VS U (S.set v true) (c + i) f2 flo2 fhi2 ∧ c + i ≤ 4611686018427387904 ∧
      (∀ w3, TsM n ao cap x w0 w1 sb lb ab pb cb p rv lo hi B b1 VA TL w3 RL2 VS U (S.set v true) (c + i + 1) f2 flo2 fhi2 → Calls Try.prog 50 #[.pointer (some ⟨p, 0, none⟩), .int .i64 (((aheadL n TL v).getD i 0 : Nat) : Int)] w3 fun e w4 => ∃ z : Int, e = .returned (.int .i64 z) ∧
        ((z = (v : Int) ∧ ∃ flo3 fhi3, TsM n ao cap x w0 w1 sb lb ab pb cb p rv lo hi B b1 VA TL w4 RL2 VS U (S.set v true) (c + i + 1) f2 flo3 fhi3 ∧ Calls Try.prog 51 #[.pointer (some ⟨sb, 0, none⟩), .int .i64 (((aheadL n TL v).getD i 0 : Nat) : Int)] w4 fun e w5 => e = .returned (.tuple #[]) ∧ LeaveI n ao cap x w0 w1 sb lb ab pb cb p rv lo hi B b1 VA TL w5 VS U (S.set v true) v (aheadL n TL v) (i + 1) c m H g) ∨
        (z ≠ (v : Int) ∧ LeaveI n ao cap x w0 w1 sb lb ab pb cb p rv lo hi B b1 VA TL w4 VS U (S.set v true) v (aheadL n TL v) (i + 1) c m H g))) from fun w' i hil h => by
    have hyl := HYE.out i hil
    obtain ⟨f2, RL2, flo2, fhi2, M2, T2, hm2, hK2, hc2⟩ := h
    refine ⟨f2, RL2, flo2, fhi2, M2, by omega, fun w3 M3 => (M3.above hm2 _).mono ?_⟩
    rintro e w4 ⟨rfl, flo3, M4⟩
    refine ⟨_, rfl, ?_⟩
    rw [Fo.aboveZ_nat (by omega)]
    by_cases hu : f2.up ((aheadL n TL v).getD i 0) = some v
    · left
      rw [hu]
      refine ⟨rfl, _, _, M4, (part_any M4 T2 hR hL hF.wi hu hm2).mono ?_⟩
      rintro e w5 ⟨rfl, f3, RL3, flo5, ho, M5, T5⟩
      exact ⟨rfl, leave_part hR hL T2 hil hm2 hsv hK2 hu hc2 ho M5 T5⟩
    · right
      refine ⟨fun c => hu ?_, leave_next hR hL T2 hil hm2 hK2 hu hc2 M4⟩
      cases e : f2.up ((aheadL n TL v).getD i 0) with
      | none => rw [e] at c; simp only [Fo.oz] at c; omega
      | some z => rw [e] at c; simp only [Fo.oz] at c; exact congrArg some (by omega))
  have HD := Lib.hid (fun w' RL' f' c' flo fhi (h : TsM n ao cap x w0 w1 sb lb ab pb cb p rv lo hi B b1 VA TL w' RL' VS U (S.set v true) c' f' flo fhi) => h.tc)
  have HMORE := Lib.hid (fun w' RL' f' c' flo fhi (h : TsM n ao cap x w0 w1 sb lb ab pb cb p rv lo hi B b1 VA TL w' RL' VS U (S.set v true) c' f' flo fhi) hc => more_any h hc)
  have HINI := Lib.hid (show ∀ w' i, LeaveI n ao cap x w0 w1 sb lb ab pb cb p rv lo hi B b1 VA TL w' VS U (S.set v true) v (aheadL n TL v) i c m H g → ∃ f2 RL2 flo2 fhi2, TsM n ao cap x w0 w1 sb lb ab pb cb p rv lo hi B b1 VA TL w' RL2 VS U (S.set v true) (c + i) f2 flo2 fhi2 from fun w' i h => by
    obtain ⟨f2, RL2, flo2, fhi2, M2, _⟩ := h
    exact ⟨f2, RL2, flo2, fhi2, M2⟩)
  obtain ⟨k0, k1, k2, k3, k4, k5, k6, k7, k8, k9, k10⟩ := M.tc
  obtain ⟨s0, s1⟩ := M.marks T.slen hv
  have hvi : (v : Int) < (n.n.toNat : Int) + 1 := by omega
  have hv0 : (0 : Int) ≤ (v : Int) := by omega
  obtain ⟨w1n, w2n, w3n, w4n, w5n, w6n⟩ := M.st.ne
  have d1 : ¬ pb = sb := w6n
  have d2 : ¬ sb = pb := Ne.symm w6n
  have d3 : ¬ ab = pb := w4n
  have d4 : ¬ pb = ab := Ne.symm w4n
  have a0 := (hY _ _ _ _ _ _ _ _ _ M).1
  clear w1n w2n w3n w4n w5n w6n
  clear M T hR hL hF hv hvt hU hs hK hm hH hH2 hTL hlt hsv hVA hY
  generalize S.set v true = S2 at *
  generalize aheadL n TL v = Y at *
  generalize hYN : Y.length = YN at *
  have HYN := Lib.hid hYN
  clear hYN
  go_enter Try.func49, Try.ntmps49
  go_wp2
  clear k0 k1 k2 k3 k4 k5 k6 k7 k8 k9 k10 s0 s1 a0
  go_loopg [5, 20] YN (fun gg s5 s20 wr => (∃ z, s5 = z) ∧ ∃ i : Nat, s20 = .int .i64 (i : Int) ∧ i + gg = YN ∧ Hid (LeaveI n ao cap x w0 w1 sb lb ab pb cb p rv lo hi B b1 VA TL wr VS U S2 v Y i c m H g))
  case atStart => exact ⟨⟨_, rfl⟩, 0, rfl, by omega, HI0⟩
  case round =>
    obtain ⟨⟨z5, rfl⟩, i, rfl, hig, HLI⟩ := hrel
    by_cases hin : i < YN
    · obtain ⟨f2, RL2, flo2, fhi2, hM, hc, HAB⟩ := HROUND.out wr i hin HLI.out
      have HAB := Lib.hid HAB
      obtain ⟨b, off, rfl, e0⟩ := (HY.out _ _ _ _ _ _ _ _ _ hM).2 i hin
      obtain ⟨k0, k1, k2, k3, k4, k5, k6, k7, k8, k9, k10⟩ := HD.out _ _ _ _ _ _ hM
      have HMO := Lib.hid (HMORE.out _ _ _ _ _ _ hM hc)
      have hii : (i : Int) < (YN : Int) := by omega
      have hi0 : (0 : Int) ≤ (i : Int) := by omega
      have hw1 : IntKind.i64.wrap ((i : Int) + 1) = ((i + 1 : Nat) : Int) := by have := HYL.out; rw [IntKind.wrap_i64]; omega
      generalize Y.getD i 0 = y at *
      clear hM hc
      go_wp2_with fail
      refine HMO.out.mono ?_
      rintro e w3 ⟨rfl, h3⟩
      clear k0 k1 k2 k3 k4 k5 k6 k7 k8 k9 k10 e0
      obtain ⟨k0, k1, k2, k3, k4, k5, k6, k7, k8, k9, k10⟩ := HD.out _ _ _ _ _ _ h3
      have HA3 := Lib.hid (HAB.out _ h3)
      clear h3
      go_wp2_with fail
      refine HA3.out.mono ?_
      rintro e w4 ⟨z, rfl, hz⟩
      clear k0 k1 k2 k3 k4 k5 k6 k7 k8 k9 k10
      rcases hz with ⟨rfl, flo4, fhi4, h4, h5⟩ | ⟨hz, h4⟩
      · have H5 := Lib.hid h5
        have hvv : ((v : Int) == (v : Int)) = true := by simp
        clear h4 h5
        go_wp2_with fail
        refine H5.out.mono ?_
        rintro e w5 ⟨rfl, h6⟩
        have H6 := Lib.hid h6
        clear h6
        go_wp2
        go_roundg (YN - (i + 1))
        case measure => omega
        case rel => exact ⟨⟨_, rfl⟩, i + 1, rfl, by omega, H6⟩
      · have H4 := Lib.hid h4
        have hvv : (z == (v : Int)) = false := by simpa using hz
        clear h4
        go_wp2
        go_roundg (YN - (i + 1))
        case measure => omega
        case rel => exact ⟨⟨_, rfl⟩, i + 1, rfl, by omega, H4⟩
    · obtain rfl : i = YN := by omega
      have HE := Lib.hid (HEND.out _ HLI.out)
      go_wp2
      go_end0
      exact ⟨rfl, HE.out⟩
end
end Ne
namespace Ne
set_option maxHeartbeats 1000000 in
theorem isnode_any (n s t v : Int) (L : Value) (w : World) :
    Calls Try.prog 84 #[.agg #[.int .i64 n, .int .i64 s, .int .i64 t, L], .int .i64 v] w fun e w' => e = .returned (.bool (isNode n v)) ∧ w.alloc (.cells #[.int .i64 n, .int .i64 s, .int .i64 t, L] 24) = w' := by
  by_cases h1 : 1 ≤ v
  · by_cases h2 : v ≤ n
    · have HE := Lib.hid (show isNode n v = true by simp [isNode, h1, h2])
      go_enter Try.func84, Try.ntmps84
      go_wp2
      go_ret
      exact ⟨retB HE.out.symm, rfl⟩
    · have HE := Lib.hid (show isNode n v = false by simp [isNode, h1, h2])
      go_enter Try.func84, Try.ntmps84
      go_wp2
      go_ret
      exact ⟨retB HE.out.symm, rfl⟩
  · have HE := Lib.hid (show isNode n v = false by simp [isNode, h1])
    go_enter Try.func84, Try.ntmps84
    go_wp2
    go_ret
    exact ⟨retB HE.out.symm, rfl⟩

set_option maxRecDepth 100000 in
set_option maxHeartbeats 4000000 in
theorem checkarcs_any (n : Net) (ao : Option Addr) (cap : Nat) (w : World) (hr : ARow w ao n.l) (hl : n.l.length ≤ 1000000) (hok : ∀ a ∈ n.l, in64 a.cap) :
    Calls Try.prog 85 #[encN n ao cap] w fun e w' => e = .returned (.int .i64 (checkL n.n 4611686018427387903 n.l)) ∧ Below w.heap.size w w' := by
  obtain ⟨nn, ns, nt, l⟩ := n
  simp only at hr hl hok ⊢
  have HR := Lib.hid hr
  have HOK := Lib.hid hok
  clear hr hok
  have HB0 := Lib.hid ((Below.refl w.heap.size w).alloc (Nat.le_refl _) (.cells #[.int .i64 nn, .int .i64 ns, .int .i64 nt, .slice ao l.length cap] 24))
  have HN0 := Lib.hid (netBox_new w nn ns nt (.slice ao l.length cap))
  go_enter Try.func85, Try.ntmps85
  go_wp2
  go_loopw [3, 11] (fun s i wr => ∃ (k : Nat) (sum : Int), s = .int .i64 sum ∧ i = .int .i64 k ∧ k ≤ l.length ∧ 0 ≤ sum ∧ sum ≤ 4611686018427387903 ∧ NetBox wr w.heap.size nn ns nt (.slice ao l.length cap) ∧ Below w.heap.size w wr ∧ Hid (checkL nn 4611686018427387903 l = checkL nn (4611686018427387903 - sum) (l.drop k))) (fun _ i _ => l.length - (intOf i).toNat)
  case atStart => exact ⟨0, 0, rfl, rfl, Nat.zero_le _, by omega, by omega, HN0.out, HB0.out, Lib.hid rfl⟩
  case round =>
    obtain ⟨k, sum, rfl, rfl, hk, hs0, hs1, hbx, hbel, HC⟩ := hrel
    obtain ⟨n0, n1, n2, n3⟩ := netBox_cells hbx
    have HBX := Lib.hid hbx
    have HB := Lib.hid hbel
    have hwlt : w.heap.size < wr.heap.size := netBox_lt hbx
    clear hbx hbel
    by_cases hlt : k < l.length
    · obtain ⟨a, ha⟩ : ∃ a, l[k]? = some a := ⟨_, List.getElem?_eq_getElem hlt⟩
      rcases (HR.out.kept HB.out) with h | ⟨b, off, rfl, hbl, hcell⟩
      · exfalso; rw [h] at hlt; simp at hlt
      obtain ⟨c0, c1, c2⟩ := arow_at hcell ha
      obtain ⟨hc0, hc1⟩ := HOK.out a (List.mem_of_getElem? ha)
      have HD := Lib.hid (drop_at ha)
      obtain ⟨fr, tq, ca⟩ := a
      simp only at c0 c1 c2 hc0 hc1
      clear hcell ha
      by_cases f1 : isNode nn fr = true
      case neg =>
        have f1' : isNode nn fr = false := by simpa using f1
        have HE := Lib.hid (show checkL nn 4611686018427387903 l = 4 by rw [HC.out, HD.out]; simp [checkL, f1'])
        clear f1
        go_wp2_with (go_at_call 84; refine (isnode_any _ _ _ _ _ _).mono ?_; rintro e w' ⟨rfl, rfl⟩)
        go_ret
        exact ⟨retI HE.out.symm, (HB.out.alloc (by omega) _).alloc (by simp; omega) _⟩
      by_cases f2 : isNode nn tq = true
      case neg =>
        have f2' : isNode nn tq = false := by simpa using f2
        have HE := Lib.hid (show checkL nn 4611686018427387903 l = 4 by rw [HC.out, HD.out]; simp [checkL, f2'])
        clear f2
        go_wp2_with (go_at_call 84; refine (isnode_any _ _ _ _ _ _).mono ?_; rintro e w' ⟨rfl, rfl⟩)
        go_ret
        exact ⟨retI HE.out.symm, ((HB.out.alloc (by omega) _).alloc (by simp; omega) _).alloc (by simp; omega) _⟩
      have HI := Lib.hid (show (isNode nn fr && isNode nn tq) = true by simp [f1, f2])
      by_cases f3 : ca < 0
      · have HE := Lib.hid (show checkL nn 4611686018427387903 l = 3 by rw [HC.out, HD.out]; simp [checkL, f1, f2, f3])
        go_wp2_with (go_at_call 84; refine (isnode_any _ _ _ _ _ _).mono ?_; rintro e w' ⟨rfl, rfl⟩)
        go_ret
        exact ⟨retI HE.out.symm, ((HB.out.alloc (by omega) _).alloc (by simp; omega) _).alloc (by simp; omega) _⟩
      have c4 := fun w' => Num.add_any sum ca w' (by omega) (by omega) (by omega) (by omega)
      by_cases f4 : sum + ca ≤ 4611686018427387903
      · rw [Num.valV_in (by omega) (by omega), Num.valE_in (by omega) (by omega)] at c4
        have C4 := Lib.hid c4
        have HE := Lib.hid (show checkL nn 4611686018427387903 l = checkL nn (4611686018427387903 - (sum + ca)) (l.drop (k + 1)) by
          rw [HC.out, HD.out]; simp [checkL, f1, f2, f3]; rw [if_neg (by omega), show 4611686018427387903 - sum - ca = 4611686018427387903 - (sum + ca) by omega])
        clear c4
        go_wp2_with (first
          | (go_at_call 84; refine (isnode_any _ _ _ _ _ _).mono ?_; rintro e w' ⟨rfl, rfl⟩)
          | (go_at_call 102; refine (C4.out _).mono ?_; rintro e w' ⟨rfl, rfl⟩))
        go_roundw
        case rel => exact ⟨k + 1, sum + ca, rfl, by go_num, by omega, by omega, by omega, netBox_alloc (netBox_alloc (netBox_alloc HBX.out _) _) _, ((HB.out.alloc (by omega) _).alloc (by simp; omega) _).alloc (by simp; omega) _, HE⟩
        case measure => simp [intOf]; omega
      · have HE := Lib.hid (show checkL nn 4611686018427387903 l = 7 by
          rw [HC.out, HD.out]; simp [checkL, f1, f2, f3]; intro h; omega)
        by_cases f5 : sum + ca ≤ 9223372036854775807
        · rw [Num.valV_in (by omega) f5, Num.valE_in (by omega) f5] at c4
          have C4 := Lib.hid c4
          clear c4
          go_wp2_with (first
            | (go_at_call 84; refine (isnode_any _ _ _ _ _ _).mono ?_; rintro e w' ⟨rfl, rfl⟩)
            | (go_at_call 102; refine (C4.out _).mono ?_; rintro e w' ⟨rfl, rfl⟩))
          go_ret
          exact ⟨retI HE.out.symm, ((HB.out.alloc (by omega) _).alloc (by simp; omega) _).alloc (by simp; omega) _⟩
        · rw [Num.valV_out (by omega), Num.valE_out (by omega)] at c4
          have C4 := Lib.hid c4
          clear c4
          go_wp2_with (first
            | (go_at_call 84; refine (isnode_any _ _ _ _ _ _).mono ?_; rintro e w' ⟨rfl, rfl⟩)
            | (go_at_call 102; refine (C4.out _).mono ?_; rintro e w' ⟨rfl, rfl⟩))
          go_ret
          exact ⟨retI HE.out.symm, ((HB.out.alloc (by omega) _).alloc (by simp; omega) _).alloc (by simp; omega) _⟩
    · have ek : k = l.length := by omega
      subst ek
      have HE := Lib.hid (show checkL nn 4611686018427387903 l = 0 by rw [HC.out, List.drop_length]; rfl)
      go_wp2
      go_ret
      exact ⟨retI HE.out.symm, HB.out⟩

set_option maxHeartbeats 4000000 in
theorem check_any (n : Net) (ao : Option Addr) (cap : Nat) (w : World) (hr : ARow w ao n.l) (hl : n.l.length ≤ 1000000) (hok : ∀ a ∈ n.l, in64 a.cap) :
    Calls Try.prog 62 #[encN n ao cap] w fun e w' => e = .returned (.int .i64 (checkN n)) ∧ Below w.heap.size w w' := by
  obtain ⟨nn, ns, nt, l⟩ := n
  simp only at hr hl hok ⊢
  have HB0 := Lib.hid ((Below.refl w.heap.size w).alloc (Nat.le_refl _) (.cells #[.int .i64 nn, .int .i64 ns, .int .i64 nt, .slice ao l.length cap] 24))
  by_cases g1 : nn < 2
  · have HE := Lib.hid (show checkN ⟨nn, ns, nt, l⟩ = 3 by unfold checkN; rw [if_pos (.inl g1)])
    go_enter Try.func62, Try.ntmps62
    go_wp2
    go_ret
    exact ⟨retI HE.out.symm, HB0.out⟩
  by_cases g2 : 500 < nn
  · have HE := Lib.hid (show checkN ⟨nn, ns, nt, l⟩ = 3 by unfold checkN; rw [if_pos (.inr g2)])
    go_enter Try.func62, Try.ntmps62
    go_wp2
    go_ret
    exact ⟨retI HE.out.symm, HB0.out⟩
  by_cases f1 : isNode nn ns = true
  case neg =>
    have f1' : isNode nn ns = false := by simpa using f1
    have HE := Lib.hid (show checkN ⟨nn, ns, nt, l⟩ = 4 by unfold checkN; rw [if_neg (show ¬ (nn < 2 ∨ 500 < nn) by omega)]; simp [f1'])
    clear f1
    go_enter Try.func62, Try.ntmps62
    go_wp2_with (go_at_call 84; refine (isnode_any _ _ _ _ _ _).mono ?_; rintro e w' ⟨rfl, rfl⟩)
    go_ret
    exact ⟨retI HE.out.symm, HB0.out.alloc (by simp) _⟩
  by_cases f2 : isNode nn nt = true
  case neg =>
    have f2' : isNode nn nt = false := by simpa using f2
    have HE := Lib.hid (show checkN ⟨nn, ns, nt, l⟩ = 4 by unfold checkN; rw [if_neg (show ¬ (nn < 2 ∨ 500 < nn) by omega)]; simp [f2'])
    clear f2
    go_enter Try.func62, Try.ntmps62
    go_wp2_with (go_at_call 84; refine (isnode_any _ _ _ _ _ _).mono ?_; rintro e w' ⟨rfl, rfl⟩)
    go_ret
    exact ⟨retI HE.out.symm, (HB0.out.alloc (by simp) _).alloc (by simp; omega) _⟩
  have HI := Lib.hid (show (isNode nn ns && isNode nn nt) = true by simp [f1, f2])
  by_cases g4 : ns = nt
  · have HE := Lib.hid (show checkN ⟨nn, ns, nt, l⟩ = 5 by unfold checkN; rw [if_neg (show ¬ (nn < 2 ∨ 500 < nn) by omega), if_pos HI.out, if_pos g4])
    have g4' : (ns == nt) = true := by simp [g4]
    clear g4
    go_enter Try.func62, Try.ntmps62
    go_wp2_with (go_at_call 84; refine (isnode_any _ _ _ _ _ _).mono ?_; rintro e w' ⟨rfl, rfl⟩)
    go_ret
    exact ⟨retI HE.out.symm, (HB0.out.alloc (by simp) _).alloc (by simp; omega) _⟩
  have g4' : (ns == nt) = false := by simp [g4]
  by_cases g5 : 2000 < l.length
  · have HE := Lib.hid (show checkN ⟨nn, ns, nt, l⟩ = 6 by unfold checkN; rw [if_neg (show ¬ (nn < 2 ∨ 500 < nn) by omega), if_pos HI.out, if_neg g4, if_pos g5])
    have g5' : (2000 : Int) < (l.length : Int) := by omega
    clear g4
    go_enter Try.func62, Try.ntmps62
    go_wp2_with (go_at_call 84; refine (isnode_any _ _ _ _ _ _).mono ?_; rintro e w' ⟨rfl, rfl⟩)
    go_ret
    exact ⟨retI HE.out.symm, (HB0.out.alloc (by simp) _).alloc (by simp; omega) _⟩
  have HE := Lib.hid (show checkN ⟨nn, ns, nt, l⟩ = checkL nn 4611686018427387903 l by unfold checkN; rw [if_neg (show ¬ (nn < 2 ∨ 500 < nn) by omega), if_pos HI.out, if_neg g4, if_neg g5])
  have HC := Lib.hid (fun w' (h : ARow w' ao l) => checkarcs_any ⟨nn, ns, nt, l⟩ ao cap w' h hl hok)
  have HR := Lib.hid hr
  have g5' : ¬ (2000 : Int) < (l.length : Int) := by omega
  clear g4 hr hok
  go_enter Try.func62, Try.ntmps62
  go_wp2_with (go_at_call 84; refine (isnode_any _ _ _ _ _ _).mono ?_; rintro e w' ⟨rfl, rfl⟩)
  have HB1 := Lib.hid ((HB0.out.alloc (by simp) (.cells #[.int .i64 nn, .int .i64 ns, .int .i64 nt, .slice ao l.length cap] 24)).alloc (by simp; omega) (.cells #[.int .i64 nn, .int .i64 ns, .int .i64 nt, .slice ao l.length cap] 24))
  refine (HC.out _ (HR.out.kept HB1.out)).mono ?_
  rintro e w' ⟨rfl, hb⟩
  have HB2 := Lib.hid (HB1.out.trans (hb.mono (by simp; omega)))
  clear hb
  go_wp2
  go_ret
  exact ⟨retI HE.out.symm, HB2.out⟩
end Ne
namespace Ne
theorem wi_bad {l : List Arc} {f : List Int} {k : Nat} (hk : k < l.length) (h : amt f k < 0 ∨ (arcAt l k).cap < amt f k) : ¬ wi l f := fun hw => by have := hw k hk; omega
theorem chkA_cnt {n : Net} {f : List Int} (h1 : checkN n = 0) (h2 : f.length ≠ n.l.length) : chkA n f = 6 := by
  unfold chkA; rw [if_neg (by simpa using h1), if_pos h2]
theorem chkA_net {n : Net} {f : List Int} (h1 : checkN n ≠ 0) : chkA n f = checkN n := by unfold chkA; rw [if_pos h1]
theorem chkA_rng {n : Net} {f : List Int} (h1 : checkN n = 0) (h2 : f.length = n.l.length) (h3 : ¬ wi n.l f) : chkA n f = 3 := by
  unfold chkA; rw [if_neg (by simpa using h1), if_neg (by simpa using h2), if_neg h3]

set_option maxRecDepth 100000 in
set_option maxHeartbeats 4000000 in
theorem amts_any (n : Net) (ao : Option Addr) (cap : Nat) (fo : Option Addr) (fc : Nat) (f : List Int) (w : World) (hr : ARow w ao n.l) (hf : IRow w fo f) (hl : n.l.length ≤ 1000000) (hok : ∀ a ∈ n.l, in64 a.cap) :
    Calls Try.prog 38 #[encN n ao cap, .slice fo f.length fc] w fun e w' => e = .returned (.int .i64 (chkA n f)) ∧ Below w.heap.size w w' := by
  have CK := Lib.hid (fun w' (h : ARow w' ao n.l) => check_any n ao cap w' h hl hok)
  have E1 := Lib.hid (fun h => chkA_net (n := n) (f := f) h)
  have E2 := Lib.hid (fun h1 h2 => chkA_cnt (n := n) (f := f) h1 h2)
  have E3 := Lib.hid (fun h1 h2 h3 => chkA_rng (n := n) (f := f) h1 h2 h3)
  have E4 := Lib.hid (fun h1 h2 h3 => chkA_in (n := n) (f := f) h1 h2 h3)
  obtain ⟨R, hR⟩ : ∃ x, x = chkA n f := ⟨_, rfl⟩
  rw [← hR] at E1 E2 E3 E4 ⊢
  clear hR
  obtain ⟨c, hc⟩ : ∃ c, checkN n = c := ⟨_, rfl⟩
  rw [hc] at CK E1 E2 E3 E4
  clear hc
  obtain ⟨nn, ns, nt, l⟩ := n
  simp only at hr hl hok CK E1 E2 E3 E4 ⊢
  have HB0 := Lib.hid ((Below.refl w.heap.size w).alloc (Nat.le_refl _) (.cells #[.int .i64 nn, .int .i64 ns, .int .i64 nt, .slice ao l.length cap] 24))
  have HN0 := Lib.hid (netBox_new w nn ns nt (.slice ao l.length cap))
  have HR := Lib.hid hr
  have HF := Lib.hid hf
  clear hr hf hok
  by_cases c1 : c = 0
  case neg =>
    have HE := Lib.hid (E1.out c1)
    have c1' : (c == 0) = false := by simpa using c1
    have c1n : (c != 0) = true := by simpa using c1
    clear c1
    go_enter Try.func38, Try.ntmps38
    go_wp2_with fail
    refine (CK.out _ (HR.out.kept HB0.out)).mono ?_
    rintro e w1 ⟨rfl, hb⟩
    have HB1 := Lib.hid (HB0.out.trans (hb.mono (by simp)))
    clear hb
    go_wp2
    go_ret
    exact ⟨retI HE.out.symm, HB1.out⟩
  subst c1
  by_cases c2 : f.length = l.length
  case neg =>
    have HE := Lib.hid (E2.out (by trivial) c2)
    have c2' : ((f.length : Int) == (l.length : Int)) = false := by simp; omega
    have c2n : ((f.length : Int) != (l.length : Int)) = true := by simp; omega
    clear c2
    go_enter Try.func38, Try.ntmps38
    go_wp2_with fail
    refine (CK.out _ (HR.out.kept HB0.out)).mono ?_
    rintro e w1 ⟨rfl, hb⟩
    have HB1 := Lib.hid (HB0.out.trans (hb.mono (by simp)))
    have HN1 := netBox_below HN0.out hb (by simp)
    obtain ⟨n0, n1, n2, n3⟩ := netBox_cells HN1
    clear hb HN1
    go_wp2
    go_ret
    exact ⟨retI HE.out.symm, HB1.out⟩
  have HLE := Lib.hid c2
  rw [c2]
  clear c2
  go_enter Try.func38, Try.ntmps38
  go_wp2_with fail
  refine (CK.out _ (HR.out.kept HB0.out)).mono ?_
  rintro e w1 ⟨rfl, hb⟩
  have HB1 := Lib.hid (HB0.out.trans (hb.mono (by simp)))
  have HN1 := netBox_below HN0.out hb (by simp)
  obtain ⟨n0, n1, n2, n3⟩ := netBox_cells HN1
  clear hb HN1
  go_wp2
  clear n0 n1 n2 n3
  go_loopw [22] (fun i wr => ∃ k : Nat, i = .int .i64 k ∧ k ≤ l.length ∧ Hid (Below w.heap.size w wr) ∧ Hid (∀ i, i < k → 0 ≤ amt f i ∧ amt f i ≤ (arcAt l i).cap)) (fun i _ => l.length - (intOf i).toNat)
  case atStart => exact ⟨0, rfl, Nat.zero_le _, HB1, Lib.hid (fun i hi => absurd hi (by omega))⟩
  case round =>
    obtain ⟨k, rfl, hk, HB, HW⟩ := hrel
    by_cases hlt : k < l.length
    · obtain ⟨b, off, rfl, hbl, c0, c1, c2⟩ := arow_cell (HR.out.kept HB.out) hlt
      obtain ⟨b2, off2, rfl, hbl2, d0⟩ := irow_cell (HF.out.kept HB.out) (i := k) (by have := HLE.out; omega)
      have HBD := Lib.hid (fun h => wi_bad (l := l) (f := f) hlt h)
      have HST := Lib.hid (show ∀ i, i < k + 1 → (0 ≤ amt f k ∧ amt f k ≤ (arcAt l k).cap) → 0 ≤ amt f i ∧ amt f i ≤ (arcAt l i).cap from fun i hi h => by
        by_cases e : i = k
        · subst e; exact h
        · exact HW.out i (by omega))
      generalize amt f k = x at *
      generalize arcAt l k = a at *
      obtain ⟨fr, tq, ca⟩ := a
      simp only at c0 c1 c2 HBD HST
      have hsz := HB.out.size
      have HB2 := Lib.hid (HB.out.alloc hsz (.cells #[.int .i64 fr, .int .i64 tq, .int .i64 ca] 46))
      have hki : (k : Int) < (l.length : Int) := by omega
      have hk0 : (0 : Int) ≤ (k : Int) := by omega
      obtain ⟨g0, g1, g2⟩ := arc_new wr rfl fr tq ca
      have d1 := held_alloc (o := .cells #[.int .i64 fr, .int .i64 tq, .int .i64 ca] 46) d0
      by_cases p1 : x < 0
      · have HE := Lib.hid (E3.out (by trivial) HLE.out (HBD.out (.inl p1)))
        have p1' : decide (x < 0) = true := by simpa using p1
        go_wp2
        generalize (wr.alloc (.cells #[.int .i64 fr, .int .i64 tq, .int .i64 ca] 46)) = W2 at *
        clear d0 c0 c1 c2
        go_quiet (fail)
        go_wp2
        go_ret
        exact ⟨retI HE.out.symm, below_dn HB2.out _⟩
      · have p1' : decide (x < 0) = false := by simpa using p1
        by_cases p2 : ca < x
        · have HE := Lib.hid (E3.out (by trivial) HLE.out (HBD.out (.inr p2)))
          have p2' : decide (ca < x) = true := by simpa using p2
          go_wp2
          generalize (wr.alloc (.cells #[.int .i64 fr, .int .i64 tq, .int .i64 ca] 46)) = W2 at *
          clear d0 c0 c1 c2
          go_quiet (fail)
          go_wp2
          go_ret
          exact ⟨retI HE.out.symm, below_dn HB2.out _⟩
        · have p2' : decide (ca < x) = false := by simpa using p2
          have HST2 := Lib.hid (fun i hi => HST.out i hi (by omega))
          go_wp2
          generalize (wr.alloc (.cells #[.int .i64 fr, .int .i64 tq, .int .i64 ca] 46)) = W2 at *
          clear d0 c0 c1 c2
          go_quiet (fail)
          go_wp2
          go_roundw
          case rel => exact ⟨k + 1, by go_num, by omega, Lib.hid (below_dn HB2.out _), HST2⟩
          case measure => simp [intOf]; omega
    · have ek : k = l.length := by omega
      subst ek
      have HE := Lib.hid (E4.out (by trivial) HLE.out HW.out)
      go_wp2
      go_ret
      exact ⟨retI HE.out.symm, HB.out⟩
end Ne
end Go.Proofs.Ytiaddfmgkcebnaa
