/-
  Stage 9: contracts of lift, and of descend: down from a top as a guide tells, and up again. No condition.
-/
import Derived.Test.YtlkigpmjhojceaaSvv
namespace Go.Proofs.Ytlkigpmjhojceaa
open Go.ChangeShapes Go.WideShapes Go.ChangeAt Go.RowKit
set_option linter.unusedVariables false
set_option linter.unusedSimpArgs false
namespace Sv
section
variable {w w0 : World} {B p g n c : Nat} {V : Nat → Int} {r : Nat → List Nat} {M : Nat → Nd} {I : Nat → List Nat} {P : Nat → Bool} {D : Nat → Int}
set_option maxHeartbeats 1000000 in
theorem lift_any (h : SpM w B p g n M c) (hI : Inv n V r No M I P D) {x k : Nat} (hx : x < n) (hd : Dep M x k) :
    Calls Try.prog 46 #[.pointer (some ⟨p, 0, none⟩), .int .i64 (x : Int)] w fun e w' => e = .returned (.bool true) ∧ Splayed w w' B p g n V r M I c x k := by
  have HH := Lib.hid (has_any h (x : Int))
  have HS := Lib.hid (splay_any h hI hx hd)
  have hb : decide (0 ≤ (x : Int) ∧ (x : Int) < (n : Int)) = true := by simp; omega
  rw [hb] at HH
  clear h hI hd hb
  go_enter Try.func46, Try.ntmps46
  go_wp2_with fail
  refine HH.out.mono ?_
  rintro e w1 ⟨rfl, rfl⟩
  go_wp2_with fail
  refine HS.out.mono ?_
  rintro e w1 ⟨rfl, hA⟩
  have HA := Lib.hid hA
  clear hA
  go_wp2
  go_ret
  exact ⟨rfl, HA.out⟩
set_option maxHeartbeats 1000000 in
theorem lift_out (h : SpM w B p g n M c) {x : Int} (hx : ¬ (0 ≤ x ∧ x < (n : Int))) :
    Calls Try.prog 46 #[.pointer (some ⟨p, 0, none⟩), .int .i64 x] w fun e w' => e = .returned (.bool false) ∧ w = w' := by
  have HH := Lib.hid (has_any h x)
  have hb : decide (0 ≤ x ∧ x < (n : Int)) = false := by simpa using hx
  rw [hb] at HH
  clear h hb hx
  go_enter Try.func46, Try.ntmps46
  go_wp2_with fail
  refine HH.out.mono ?_
  rintro e w1 ⟨rfl, rfl⟩
  go_wp2
  go_ret
  exact ⟨rfl, rfl⟩
def Kid (M : Nat → Nd) (v y : Nat) : Prop := ∃ s, (M v).b s = some y
/-- what a guide holds -/
structure Guide (F : Nat → Prop) (B p g n : Nat) (V : Nat → Int) (r : Nat → List Nat) (I : Nat → List Nat) (top : Nat) (fn : Nat) (c1 c2 : Value) (Q : Nat → World → Prop) (Done : Nat → Prop) : Prop where
  pg : ∀ k, PG p g k → F k
  keep : ∀ v wa wb, Q v wa → Sp.Off (PG p g) wa wb → Q v wb
  asks : ∀ (v : Nat) (wa : World) (M : Nat → Nd) (P : Nat → Bool) (D : Nat → Int) (cc : Nat), SpM wa B p g n M cc → Inv n V r No M I P D → Clear M P D v → v < n → r v = r top → Q v wa →
    Calls Try.prog fn #[.int .i64 (v : Int), c1, c2] wa fun e wb => ∃ res : Option Nat, e = .returned (.int .i64 (oi res)) ∧ SpM wb B p g n M cc ∧ Sp.Off F wa wb ∧ (res = none → Done v) ∧ ∀ y, res = some y → Kid M v y ∧ Q y wb
/-- on the way down -/
structure Dw (F : Nat → Prop) (w wr : World) (B p g n : Nat) (V : Nat → Int) (r : Nat → List Nat) (M0 : Nat → Nd) (I : Nat → List Nat) (top c v j : Nat) (M : Nat → Nd) (P : Nat → Bool) (D : Nat → Int) : Prop where
  mem : SpM wr B p g n M (c + j)
  off : Sp.Off F w wr
  inv : Inv n V r No M I P D
  cl : Cl M P D v j
  lt : v < n
  row : r v = r top
  rest : Rest n r top M0 M
/-- behind descend -/
def Ended (F : Nat → Prop) (w w' : World) (B p g n : Nat) (V : Nat → Int) (r : Nat → List Nat) (M0 : Nat → Nd) (I : Nat → List Nat) (top c v : Nat) : Prop :=
  ∃ c' M' I' P' D', SpM w' B p g n M' c' ∧ Sp.Off F w w' ∧ Inv n V r No M' I' P' D' ∧ (M' v).up = none ∧ Clear M' P' D' v ∧ Rest n r top M0 M' ∧ v < n ∧ r v = r top ∧ c < c' ∧ c' + 6 * pot I' n ≤ c + 6 * pot I n + 18 * (I' v).length.log2 + 4
section
variable {F : Nat → Prop} {wr w2 w3 : World} {M0 : Nat → Nd} {top v j y : Nat}
theorem Dw.ended (hF : ∀ k, PG p g k → F k) (h : Dw F w wr B p g n V r M0 I top c v j M P D) (hs : Splayed wr w2 B p g n V r M I (c + j) v j) : Ended F w w2 B p g n V r M0 I top c v := by
  obtain ⟨M', I', P', D', h1, h2, h3, h4, h5, h6⟩ := hs
  exact ⟨_, M', I', P', D', h1.toSpM, h.off.trans (h1.off.mono hF) fun k hk => .inl hk, h2, h3, h4, h.rest.trans (h5.row h.row), h.lt, h.row, by omega, by omega⟩
theorem Dw.next (hF : ∀ k, PG p g k → F k) (h : Dw F w wr B p g n V r M0 I top c v j M P D) {s : Bool} (hy : (M v).b s = some y) (hM : SpA wr w2 B p g n (setM M y) (c + j + 1)) : Dw F w w2 B p g n V r M0 I top c y (j + 1) (setM M y) (setP M y P) (setD M y D) ∧ (I y).length < (I v).length := by
  obtain ⟨g1, g2, _⟩ := h.inv.ch v s y h.lt hy
  obtain ⟨t1, t2⟩ := clear_child h.inv h.lt h.cl.clear hy
  have hl := h.inv.below h.lt hy
  have hr : r y = r v := (h.inv.row_sub h.lt (h.inv.sub h.lt hy y (h.inv.self g1))).1
  exact ⟨⟨hM.toSpM, h.off.trans (hM.off.mono hF) fun k hk => .inl hk, setM_inv h.inv g1 t1 t2, .step (by rw [setM_up h.inv g1]; exact g2) (setM_clear h.inv g1 t1 t2) (h.cl.sett (m := 0) h.inv g1 h.lt hl), g1, hr.trans h.row, h.rest.trans ((setM_rest h.inv g1).row (hr.trans h.row))⟩, hl⟩
theorem Dw.asked (h : Dw F w wr B p g n V r M0 I top c v j M P D) (hM : SpM w2 B p g n M (c + j)) (ho : Sp.Off F wr w2) : Dw F w w2 B p g n V r M0 I top c v j M P D :=
  ⟨hM, h.off.trans ho fun k hk => .inl hk, h.inv, h.cl, h.lt, h.row, h.rest⟩
end
set_option maxHeartbeats 2000000 in
theorem descend_end (h : SpM w B p g n M c) (hI : Inv n V r No M I P D) {top : Nat} (hx : top < n) (hu : (M top).up = none) (hc : Clear M P D top) {F : Nat → Prop} {b1 b2 : Nat} {Q : Nat → World → Prop} {Done : Nat → Prop} (hG : Guide F B p g n V r I top 63 (.pointer (some ⟨b1, 0, none⟩)) (.pointer (some ⟨b2, 0, none⟩)) Q Done) (hQ : Q top w) :
    Calls Try.prog 48 #[.pointer (some ⟨p, 0, none⟩), .int .i64 (top : Int), .func (.func 63) #[] #[.pointer (some ⟨b1, 0, none⟩), .pointer (some ⟨b2, 0, none⟩)]] w fun e w' => ∃ v : Nat, e = .returned (.int .i64 (v : Int)) ∧ Done v ∧ Ended F w w' B p g n V r M I top c v := by
  have HG := Lib.hid hG
  have HA0 := Lib.hid (hG.asks top w M P D c h hI hc hx rfl hQ)
  have HD0 := Lib.hid (show Dw F w w B p g n V r M I top c top 0 M P D from ⟨h, Sp.Off.refl _ _, hI, .top hu hc, hx, rfl, Rest.refl _⟩)
  clear h hI hx hu hc hG hQ
  generalize hTV : M = M0 at *
  generalize hTP : P = P0 at *
  generalize hTD : D = D0 at *
  clear hTV hTP hTD
  go_enter Try.func48, Try.ntmps48
  go_wp2_with fail
  refine HA0.out.mono ?_
  rintro e w1 ⟨res, rfl, hM, ho, hd, hy⟩
  have HD1 := Lib.hid (HD0.out.asked hM ho)
  have HR1 := Lib.hid (⟨hd, hy⟩ : (res = none → Done top) ∧ ∀ y, res = some y → Kid M0 top y ∧ Q y w1)
  clear hM ho hd hy HA0 HD0
  go_wp2
  go_loopg [7, 8] (I top).length (fun gg s7 s8 wr => ∃ (v : Nat) (res : Option Nat) (j : Nat), s7 = .int .i64 (v : Int) ∧ s8 = .int .i64 (oi res) ∧ gg = (I v).length ∧ Hid (∃ M P D, Dw F w wr B p g n V r M0 I top c v j M P D ∧ (res = none → Done v) ∧ ∀ y, res = some y → Kid M v y ∧ Q y wr))
  case atStart => exact ⟨_, _, _, rfl, rfl, rfl, Lib.hid ⟨_, _, _, HD1.out, HR1.out⟩⟩
  case round =>
    obtain ⟨v, res, j, rfl, rfl, hgg, HH⟩ := hrel
    obtain ⟨M, P, D, hW, hdn, hch⟩ := HH.out
    clear HH HD1 HR1
    cases res with
    | none =>
      have HDN := Lib.hid (hdn rfl)
      have HS := Lib.hid (splay_any hW.mem hW.inv hW.lt hW.cl.dep)
      have HW := Lib.hid hW
      rw [show oi none = -1 from rfl]
      clear hW hdn hch
      go_wp2_with fail
      refine HS.out.mono ?_
      rintro e w2 ⟨rfl, hA⟩
      have HE := Lib.hid (HW.out.ended HG.out.pg hA)
      clear hA
      go_wp2
      go_ret
      exact ⟨v, rfl, HDN.out, HE.out⟩
    | some y =>
      obtain ⟨⟨s, hs⟩, hq⟩ := hch y rfl
      have hyn := (hW.inv.ch v s y hW.lt hs).1
      have HS := Lib.hid (settle_any hW.mem hyn (kids hW.inv hyn))
      have HW := Lib.hid hW
      have HB := Lib.hid hs
      have HQ := Lib.hid hq
      have hym : ¬ (y : Int) = -1 := by omega
      rw [show oi (some y) = (y : Int) from rfl]
      clear hW hdn hch hs hq
      go_wp2_with fail
      refine HS.out.mono ?_
      rintro e w2 ⟨rfl, hA⟩
      have hN := HW.out.next HG.out.pg HB.out hA
      have HN := Lib.hid hN.1
      have HLT := Lib.hid hN.2
      have HAK := Lib.hid (HG.out.asks y w2 _ _ _ _ HN.out.mem HN.out.inv HN.out.cl.clear hyn HN.out.row (HG.out.keep _ _ _ HQ.out hA.off))
      clear hA hN
      go_wp2_with fail
      refine HAK.out.mono ?_
      rintro e w3 ⟨res2, rfl, hM, ho, hd, hy⟩
      have HF := Lib.hid (⟨_, _, _, HN.out.asked hM ho, hd, hy⟩ : ∃ M P D, Dw F w w3 B p g n V r M0 I top c y (j + 1) M P D ∧ (res2 = none → Done y) ∧ ∀ z, res2 = some z → Kid M y z ∧ Q z w3)
      clear hM ho hd hy
      go_wp2
      go_roundg (I y).length
      case measure => rw [hgg]; exact HLT.out
      case rel => exact ⟨y, res2, _, rfl, rfl, rfl, HF⟩
set_option maxHeartbeats 2000000 in
theorem descend_at (h : SpM w B p g n M c) (hI : Inv n V r No M I P D) {top : Nat} (hx : top < n) (hu : (M top).up = none) (hc : Clear M P D top) {F : Nat → Prop} {b1 b2 : Nat} {Q : Nat → World → Prop} {Done : Nat → Prop} (hG : Guide F B p g n V r I top 51 (.pointer (some ⟨b1, 0, none⟩)) (.pointer (some ⟨b2, 0, none⟩)) Q Done) (hQ : Q top w) :
    Calls Try.prog 48 #[.pointer (some ⟨p, 0, none⟩), .int .i64 (top : Int), .func (.func 51) #[] #[.pointer (some ⟨b1, 0, none⟩), .pointer (some ⟨b2, 0, none⟩)]] w fun e w' => ∃ v : Nat, e = .returned (.int .i64 (v : Int)) ∧ Done v ∧ Ended F w w' B p g n V r M I top c v := by
  have HG := Lib.hid hG
  have HA0 := Lib.hid (hG.asks top w M P D c h hI hc hx rfl hQ)
  have HD0 := Lib.hid (show Dw F w w B p g n V r M I top c top 0 M P D from ⟨h, Sp.Off.refl _ _, hI, .top hu hc, hx, rfl, Rest.refl _⟩)
  clear h hI hx hu hc hG hQ
  generalize hTV : M = M0 at *
  generalize hTP : P = P0 at *
  generalize hTD : D = D0 at *
  clear hTV hTP hTD
  go_enter Try.func48, Try.ntmps48
  go_wp2_with fail
  refine HA0.out.mono ?_
  rintro e w1 ⟨res, rfl, hM, ho, hd, hy⟩
  have HD1 := Lib.hid (HD0.out.asked hM ho)
  have HR1 := Lib.hid (⟨hd, hy⟩ : (res = none → Done top) ∧ ∀ y, res = some y → Kid M0 top y ∧ Q y w1)
  clear hM ho hd hy HA0 HD0
  go_wp2
  go_loopg [7, 8] (I top).length (fun gg s7 s8 wr => ∃ (v : Nat) (res : Option Nat) (j : Nat), s7 = .int .i64 (v : Int) ∧ s8 = .int .i64 (oi res) ∧ gg = (I v).length ∧ Hid (∃ M P D, Dw F w wr B p g n V r M0 I top c v j M P D ∧ (res = none → Done v) ∧ ∀ y, res = some y → Kid M v y ∧ Q y wr))
  case atStart => exact ⟨_, _, _, rfl, rfl, rfl, Lib.hid ⟨_, _, _, HD1.out, HR1.out⟩⟩
  case round =>
    obtain ⟨v, res, j, rfl, rfl, hgg, HH⟩ := hrel
    obtain ⟨M, P, D, hW, hdn, hch⟩ := HH.out
    clear HH HD1 HR1
    cases res with
    | none =>
      have HDN := Lib.hid (hdn rfl)
      have HS := Lib.hid (splay_any hW.mem hW.inv hW.lt hW.cl.dep)
      have HW := Lib.hid hW
      rw [show oi none = -1 from rfl]
      clear hW hdn hch
      go_wp2_with fail
      refine HS.out.mono ?_
      rintro e w2 ⟨rfl, hA⟩
      have HE := Lib.hid (HW.out.ended HG.out.pg hA)
      clear hA
      go_wp2
      go_ret
      exact ⟨v, rfl, HDN.out, HE.out⟩
    | some y =>
      obtain ⟨⟨s, hs⟩, hq⟩ := hch y rfl
      have hyn := (hW.inv.ch v s y hW.lt hs).1
      have HS := Lib.hid (settle_any hW.mem hyn (kids hW.inv hyn))
      have HW := Lib.hid hW
      have HB := Lib.hid hs
      have HQ := Lib.hid hq
      have hym : ¬ (y : Int) = -1 := by omega
      rw [show oi (some y) = (y : Int) from rfl]
      clear hW hdn hch hs hq
      go_wp2_with fail
      refine HS.out.mono ?_
      rintro e w2 ⟨rfl, hA⟩
      have hN := HW.out.next HG.out.pg HB.out hA
      have HN := Lib.hid hN.1
      have HLT := Lib.hid hN.2
      have HAK := Lib.hid (HG.out.asks y w2 _ _ _ _ HN.out.mem HN.out.inv HN.out.cl.clear hyn HN.out.row (HG.out.keep _ _ _ HQ.out hA.off))
      clear hA hN
      go_wp2_with fail
      refine HAK.out.mono ?_
      rintro e w3 ⟨res2, rfl, hM, ho, hd, hy⟩
      have HF := Lib.hid (⟨_, _, _, HN.out.asked hM ho, hd, hy⟩ : ∃ M P D, Dw F w w3 B p g n V r M0 I top c y (j + 1) M P D ∧ (res2 = none → Done y) ∧ ∀ z, res2 = some z → Kid M y z ∧ Q z w3)
      clear hM ho hd hy
      go_wp2
      go_roundg (I y).length
      case measure => rw [hgg]; exact HLT.out
      case rel => exact ⟨y, res2, _, rfl, rfl, rfl, HF⟩
set_option maxHeartbeats 2000000 in
theorem descend_least (h : SpM w B p g n M c) (hI : Inv n V r No M I P D) {top : Nat} (hx : top < n) (hu : (M top).up = none) (hc : Clear M P D top) {F : Nat → Prop} {b1 b2 : Nat} {Q : Nat → World → Prop} {Done : Nat → Prop} (hG : Guide F B p g n V r I top 49 (.pointer (some ⟨b1, 0, none⟩)) (.pointer (some ⟨b2, 0, none⟩)) Q Done) (hQ : Q top w) :
    Calls Try.prog 48 #[.pointer (some ⟨p, 0, none⟩), .int .i64 (top : Int), .func (.func 49) #[] #[.pointer (some ⟨b1, 0, none⟩), .pointer (some ⟨b2, 0, none⟩)]] w fun e w' => ∃ v : Nat, e = .returned (.int .i64 (v : Int)) ∧ Done v ∧ Ended F w w' B p g n V r M I top c v := by
  have HG := Lib.hid hG
  have HA0 := Lib.hid (hG.asks top w M P D c h hI hc hx rfl hQ)
  have HD0 := Lib.hid (show Dw F w w B p g n V r M I top c top 0 M P D from ⟨h, Sp.Off.refl _ _, hI, .top hu hc, hx, rfl, Rest.refl _⟩)
  clear h hI hx hu hc hG hQ
  generalize hTV : M = M0 at *
  generalize hTP : P = P0 at *
  generalize hTD : D = D0 at *
  clear hTV hTP hTD
  go_enter Try.func48, Try.ntmps48
  go_wp2_with fail
  refine HA0.out.mono ?_
  rintro e w1 ⟨res, rfl, hM, ho, hd, hy⟩
  have HD1 := Lib.hid (HD0.out.asked hM ho)
  have HR1 := Lib.hid (⟨hd, hy⟩ : (res = none → Done top) ∧ ∀ y, res = some y → Kid M0 top y ∧ Q y w1)
  clear hM ho hd hy HA0 HD0
  go_wp2
  go_loopg [7, 8] (I top).length (fun gg s7 s8 wr => ∃ (v : Nat) (res : Option Nat) (j : Nat), s7 = .int .i64 (v : Int) ∧ s8 = .int .i64 (oi res) ∧ gg = (I v).length ∧ Hid (∃ M P D, Dw F w wr B p g n V r M0 I top c v j M P D ∧ (res = none → Done v) ∧ ∀ y, res = some y → Kid M v y ∧ Q y wr))
  case atStart => exact ⟨_, _, _, rfl, rfl, rfl, Lib.hid ⟨_, _, _, HD1.out, HR1.out⟩⟩
  case round =>
    obtain ⟨v, res, j, rfl, rfl, hgg, HH⟩ := hrel
    obtain ⟨M, P, D, hW, hdn, hch⟩ := HH.out
    clear HH HD1 HR1
    cases res with
    | none =>
      have HDN := Lib.hid (hdn rfl)
      have HS := Lib.hid (splay_any hW.mem hW.inv hW.lt hW.cl.dep)
      have HW := Lib.hid hW
      rw [show oi none = -1 from rfl]
      clear hW hdn hch
      go_wp2_with fail
      refine HS.out.mono ?_
      rintro e w2 ⟨rfl, hA⟩
      have HE := Lib.hid (HW.out.ended HG.out.pg hA)
      clear hA
      go_wp2
      go_ret
      exact ⟨v, rfl, HDN.out, HE.out⟩
    | some y =>
      obtain ⟨⟨s, hs⟩, hq⟩ := hch y rfl
      have hyn := (hW.inv.ch v s y hW.lt hs).1
      have HS := Lib.hid (settle_any hW.mem hyn (kids hW.inv hyn))
      have HW := Lib.hid hW
      have HB := Lib.hid hs
      have HQ := Lib.hid hq
      have hym : ¬ (y : Int) = -1 := by omega
      rw [show oi (some y) = (y : Int) from rfl]
      clear hW hdn hch hs hq
      go_wp2_with fail
      refine HS.out.mono ?_
      rintro e w2 ⟨rfl, hA⟩
      have hN := HW.out.next HG.out.pg HB.out hA
      have HN := Lib.hid hN.1
      have HLT := Lib.hid hN.2
      have HAK := Lib.hid (HG.out.asks y w2 _ _ _ _ HN.out.mem HN.out.inv HN.out.cl.clear hyn HN.out.row (HG.out.keep _ _ _ HQ.out hA.off))
      clear hA hN
      go_wp2_with fail
      refine HAK.out.mono ?_
      rintro e w3 ⟨res2, rfl, hM, ho, hd, hy⟩
      have HF := Lib.hid (⟨_, _, _, HN.out.asked hM ho, hd, hy⟩ : ∃ M P D, Dw F w w3 B p g n V r M0 I top c y (j + 1) M P D ∧ (res2 = none → Done y) ∧ ∀ z, res2 = some z → Kid M y z ∧ Q z w3)
      clear hM ho hd hy
      go_wp2
      go_roundg (I y).length
      case measure => rw [hgg]; exact HLT.out
      case rel => exact ⟨y, res2, _, rfl, rfl, rfl, HF⟩
end
end Sv
end Go.Proofs.Ytlkigpmjhojceaa
