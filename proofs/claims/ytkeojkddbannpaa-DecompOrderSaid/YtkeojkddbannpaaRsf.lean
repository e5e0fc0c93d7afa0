/-
  Stage 15: contract of the developers' next. Condition: the network is right, what is left is a flow of any value, an arc has an amount left, the rest's memory is its own.
-/
import Derived.Test.YtkeojkddbannpaaRse
import Derived.Test.YtkeojkddbannpaaGwd
namespace Go.Proofs.Ytkeojkddbannpaa
open Go.ChangeShapes Go.WideShapes Go.ChangeAt Go.RowKit
set_option linter.unusedVariables false
set_option linter.unusedSimpArgs false
namespace Dc
open Go.Proofs.Ytkeojkddbannpaa.Ne
open Sp (Off)
section
variable {n : Net} {ao : Option Addr} {cap : Nat} {w0 w : World} {rb lb lo hi : Nat} {av : Value} {g : List Int} {x : Int} {va : Value} {A : List Nat} {VS : Nat → Value} {U : Nat → List Nat}
set_option maxRecDepth 100000 in
set_option maxHeartbeats 4000000 in
theorem next_any (hR : Right n) (hL : Lf n g) {a0 : Nat} {A' : List Nat} (hA : A = a0 :: A') (hf : fstA n.l g 0 = some a0) (st : RsM n ao cap w0 w rb lb lo hi av g (exc n.l g n.t) va A VS U) (hU : LgU n g U) :
    Calls Try.prog 24 #[.pointer (some ⟨rb, 0, none⟩)] w fun e w' => ∃ ro rc VS' U', e = .returned (.agg #[.int .u8 (itm n g).kind, .slice ro (itm n g).arcs.length rc, .int .i64 (itm n g).amount]) ∧ ArcO w' w.heap.size ro (encW (itm n g).arcs) ∧ RsM n ao cap w0 w' rb lb lo hi av (tk g (itm n g)) (exc n.l (tk g (itm n g)) n.t) va A VS' U' ∧ LgU n (tk g (itm n g)) U' ∧ Off (RsF rb lb av) w w' := by
  obtain ⟨b, Q, hwk, hQ, hkt, hkc⟩ := itm_wlk hR hL hf
  obtain ⟨hbf, hbg0, hbg1⟩ := bgn_fin hR hf
  have hx := itm_is hR hL hf
  have hl2 := hR.len
  have hn1 := hR.n1
  have HTK := Lib.hid (fun w' VS' U' ro rc (h : RsM n ao cap w0 w' rb lb lo hi av g (exc n.l g n.t) va A VS' U') hrow => take_itm hR hL hf h ro rc hrow)
  have HEN := Lib.hid (fun w' (h : RsM n ao cap w0 w' rb lb lo hi av g (exc n.l g n.t) va A VS U) => ends_rest h rfl hA hf (by omega))
  have HFL := Lib.hid (fun U' (h : LgU n g U') => h.fall hL hx)
  have HAH := Lib.hid (fun w' VS' U' (h : RsM n ao cap w0 w' rb lb lo hi av g (exc n.l g n.t) va A VS' U') hU' (u : Int) h1 h2 a hfa => ahead_rest (u := u) (a := a) hR hL h hU' h1 h2 hfa)
  have HSP := Lib.hid (fun (u : Int) R k hw (hu : 1 ≤ u) => nst_step (en := fin n g) (u := u) (R := R) (k := k) (b := b) (Q := Q) hR (g := g) hw hu)
  have HTO := Lib.hid (show ∀ i, i < n.l.length → 1 ≤ (arcAt n.l i).to ∧ (arcAt n.l i).to ≤ n.n from fun i hi => ⟨hR.to0 i hi, hR.to1 i hi⟩)
  have HST := Lib.hid st
  have HU := Lib.hid hU
  have HNS := Lib.hid (show NSt n.l g (fin n g) (bgn n g) [] (n.n.toNat + 1) b Q from Or.inr (Or.inr ⟨hbf, rfl, hwk⟩))
  have HNE := Lib.hid hx.ne
  clear hbf hwk hx hU st hA hf
  generalize itm n g = X at *
  subst hQ
  generalize tk g X = tg at *
  generalize exc n.l g n.t = xx at *
  generalize exc n.l tg n.t = xt at *
  generalize kdB n g = kd at *
  have HKT := Lib.hid hkt
  have HKC := Lib.hid hkc
  have HLEN := Lib.hid hL.len
  clear hkt hkc hL hR
  have HST1 := Lib.hid (HST.out.alloc (.cells #[.int .u8 0, .slice none 0 0, .int .i64 0] 30))
  have HOF1 := Lib.hid (show Off (RsF rb lb av) w (w.alloc (.cells #[.int .u8 0, .slice none 0 0, .int .i64 0] 30)) from (Off.refl _ w).alloc _)
  have HBX1 := Lib.hid (show IxB 30 (w.alloc (.cells #[.int .u8 0, .slice none 0 0, .int .i64 0] 30)) w.heap.size 0 (.slice none 0 0) 0 from ixb_new _ _ rfl)
  have hmm := @run_makeMap Try.prog
  go_enter Try.func24, Try.ntmps24
  go_wp2_with fail
  generalize hW1 : (w.alloc (.cells #[.int .u8 0, .slice none 0 0, .int .i64 0] 30)) = w1 at *
  have HW1 := Lib.hid hW1
  clear hW1
  refine (HEN.out _ HST1.out).mono ?_
  rintro e w2 ⟨rfl, hb⟩
  have HST2 := Lib.hid (HST1.out.kept hb)
  have HOF2 := Lib.hid (HOF1.out.then hb)
  have HBX2 := Lib.hid (ixb_below HBX1.out hb)
  clear hb HST1 HOF1 HBX1
  go_wp2_with fail
  have HNM := Lib.hid (show w.heap.size < w2.heap.size from ixb_lt HBX2.out)
  have HST3 := Lib.hid (HST2.out.alloc (.map #[] 0))
  have HOF3 := Lib.hid (HOF2.out.alloc (.map #[] 0))
  have HBX3 := Lib.hid (ixb_below HBX2.out ((Below.refl _ _).alloc (Nat.le_refl _) (.map #[] 0)))
  have HMT3 := Lib.hid (show MtBox (w2.alloc (.map #[] 0)) w2.heap.size (beg n.l []) from mtbox_new w2 rfl)
  have HOW3 := Lib.hid (show OwnI (w2.alloc (.map #[] 0)) (w.heap.size + 1) (.slice none 0 0) (encW []) from Rw.own_nil _ _)
  generalize w2.alloc (.map #[] 0) = w3 at *
  generalize w2.heap.size = mb at *
  have HU0 := Lib.hid (show 1 ≤ bgn n g ∧ bgn n g ≤ n.n from ⟨hbg0, hbg1⟩)
  generalize bgn n g = u0 at *
  generalize fin n g = en at *
  clear HST2 HOF2 HBX2 hmm HEN hbg0 hbg1
  have HSS := Lib.hid (fun q2 (h : av.ownBlock = some q2) => (Rw.own_lt HST.out.am q2 h).2)
  have HLT := Lib.hid HST.out.lt
  have HSZ := Lib.hid HST.out.rows.sz
  have HOS := Lib.hid HST.out.old.size
  have NRG := Lib.hid (show ∀ q, w.heap.size + 1 ≤ q → ¬ RsF rb lb av q from fun q hq h => by
    have h1 := HLT.out
    rcases h with h | h | h
    · omega
    · omega
    · have := HSS.out q h; omega)
  have NRF := Lib.hid (show ¬ RsF rb lb av w.heap.size from fun h => by
    have h1 := HLT.out
    rcases h with h | h | h
    · omega
    · omega
    · have := HSS.out _ h; omega)
  have FAR := Lib.hid (show ∀ (w3 : World) (g1 : List Int) (x1 : Int) (VS1 : Nat → Value) (U1 : Nat → List Nat) (p : Addr) (v : Value), p.block = w.heap.size → RsM n ao cap w0 w3 rb lb lo hi av g1 x1 va A VS1 U1 → RsM n ao cap w0 (w3.setCell p v) rb lb lo hi av g1 x1 va A VS1 U1 from fun w3 g1 x1 VS1 U1 p v hp h => h.far (p := p) (by rw [hp]; exact HOS.out) (by have := HLT.out; omega) (by have := HLT.out; omega) (by have := HSZ.out; omega) (fun q2 h2 => by have := HSS.out q2 h2; omega) v)
  have GRW := Lib.hid (show ∀ (w3 w4 : World) (VS1 : Nat → Value) (U1 : Nat → List Nat) (row : Option Nat), RsM n ao cap w0 w3 rb lb lo hi av g xx va A VS1 U1 → w3.grownBy w4 row → (∀ q, row = some q → w.heap.size ≤ q) → RsM n ao cap w0 w4 rb lb lo hi av g xx va A VS1 U1 from fun w3 w4 VS1 U1 row h hg hr => h.past hg (B := w.heap.size) HSZ.out HLT.out.1 HLT.out.2 HSS.out HOS.out hr)
  generalize hN : n.n.toNat = N at *
  have HNN := Lib.hid hN
  clear hN
  go_loopw [3, 6] (fun at3 s wr => ∃ (u : Int) (R : List Nat) (k : Nat) (o : Option Addr) (m c : Nat) (VS' : Nat → Value) (U' : Nat → List Nat), at3 = .int .i64 u ∧ s = .slice o m c ∧ Hid (m = R.length) ∧ Hid (1 ≤ u ∧ u ≤ n.n) ∧ Hid (NSt n.l g en u R k b X.arcs) ∧ Hid (k + R.length = N + 1) ∧ Hid (OwnI wr (w.heap.size + 1) (.slice o m c) (encW R)) ∧ Hid (MtBox wr mb (beg n.l R)) ∧ Hid (RsM n ao cap w0 wr rb lb lo hi av g xx va A VS' U') ∧ Hid (LgU n g U') ∧ Hid (Off (RsF rb lb av) w wr) ∧ Hid (IxB 30 wr w.heap.size 0 (.slice none 0 0) 0)) (fun _ s _ => N + 2 - sLen s)
  case atStart => exact ⟨u0, [], N + 1, none, 0, 0, VS, U, rfl, rfl, Lib.hid rfl, HU0, HNS, Lib.hid rfl, HOW3, HMT3, HST3, HU, HOF3, HBX3⟩
  case round =>
    obtain ⟨u, R, k, o, m, c, VS', U', rfl, rfl, HM, HUB, HNT, HKR, HOW, HMT, HSR, HLU, HOR, HBX⟩ := hrel
    clear HU0 HNS HOW3 HMT3 HST3 HU HOF3 HBX3
    rcases HNT.out with ⟨hu, hb, hq⟩ | ⟨hu, i, hi, hb, hq⟩ | ⟨hu, hi, hwk⟩
    · have hk := HKT.out hb
      subst hk
      subst hu
      have hm : m = X.arcs.length := by rw [hq]; exact HM.out
      subst hm
      have hrow : ∀ w', Off (RsF rb lb av) wr w' → IRow w' o (encW X.arcs) := fun w' h => by
        rw [hq]
        exact own_irow (own_same HOW.out fun q hq => h.block q (Rw.own_lt HOW.out q hq).2 (NRG.out q (Rw.own_lt HOW.out q hq).1))
      have HT := Lib.hid (HTK.out wr VS' U' o c HSR.out hrow)
      have HQ := Lib.hid hq
      clear hq hrow HTK HKT HKC hb
      go_wp2_with fail
      refine HT.out.mono ?_
      rintro e w3 ⟨rfl, hs, ho⟩
      have HSR3 := Lib.hid (FAR.out _ _ _ _ _ ⟨w.heap.size, 2, none⟩ (.int .i64 X.amount) rfl (FAR.out _ _ _ _ _ ⟨w.heap.size, 1, none⟩ (.slice o X.arcs.length c) rfl (FAR.out _ _ _ _ _ ⟨w.heap.size, 0, none⟩ (.int .u8 X.kind) rfl hs)))
      have HOR3 := Lib.hid ((((HOR.out.trans ho fun q hq => .inl hq).set (p := ⟨w.heap.size, 0, none⟩) (.inr (Nat.le_refl _)) (.int .u8 X.kind)).set (p := ⟨w.heap.size, 1, none⟩) (.inr (Nat.le_refl _)) (.slice o X.arcs.length c)).set (p := ⟨w.heap.size, 2, none⟩) (.inr (Nat.le_refl _)) (.int .i64 X.amount))
      have hbx := ixb_same HBX.out (ho.block _ (ixb_lt HBX.out) NRF.out)
      have HW := Lib.hid (ixb_all (k2 := X.kind) (v2 := .slice o X.arcs.length c) (a2 := X.amount) hbx)
      obtain ⟨b0, b1, b2⟩ := ixb_cells hbx
      have f0 := ixb_frozen hbx 0
      have f1 := ixb_frozen hbx 1
      have f2 := ixb_frozen hbx 2
      have HOW3 := Lib.hid (show OwnI (((w3.setCell ⟨w.heap.size, 0, none⟩ (.int .u8 X.kind)).setCell ⟨w.heap.size, 1, none⟩ (.slice o X.arcs.length c)).setCell ⟨w.heap.size, 2, none⟩ (.int .i64 X.amount)) (w.heap.size + 1) (.slice o X.arcs.length c) (encW R) from
        Rw.own_set (Rw.own_set (Rw.own_set (own_same HOW.out fun q hq => ho.block q (Rw.own_lt HOW.out q hq).2 (NRG.out q (Rw.own_lt HOW.out q hq).1)) (fun h => absurd (Rw.own_lt HOW.out _ h).1 (by simp)) _) (fun h => absurd (Rw.own_lt HOW.out _ h).1 (by simp)) _) (fun h => absurd (Rw.own_lt HOW.out _ h).1 (by simp)) _)
      have HLU2 := Lib.hid (HFL.out _ HLU.out)
      clear hs ho hbx
      go_wp2
      refine bodyPost_ret_by (results_cell_row rfl _ _ w.heap.size 30 _ (0, 0) _ rfl HW.out Try.underlying30 rfl (by kernel_rfl)) rfl ?_
      obtain ⟨q, rfl, -, -, -, -, -, harc⟩ := arcO_of HOW3.out (Nat.le_succ _) (by rw [← HQ.out]; unfold encW; simpa using HNE.out)
      have h9 := harc 0 (by rw [encW_len, ← HQ.out]; exact List.length_pos_iff.2 HNE.out)
      rw [List.drop_zero, ← HQ.out] at h9
      exact ⟨_, _, _, _, rfl, h9, HSR3.out, HLU2.out, HOR3.out⟩
    · have hk := HKC.out hb
      obtain ⟨i1, i2⟩ := ix_some hi
      rw [beg_len] at i1
      obtain ⟨q, rfl, -, hmc, hcm, hq1, hq2, harc⟩ := arcO_of HOW.out (B := w.heap.size) (Nat.le_succ _) (fun h => by have h2 : (encW R).length = 0 := by { rw [h]; rfl }; rw [encW_len] at h2; omega)
      have h9 := harc i (by rw [encW_len]; exact i1)
      have hrow : ∀ w', Off (RsF rb lb av) wr w' → IRow w' (some ⟨q, i, none⟩) (encW X.arcs) := fun w' h => by
        rw [hq]
        have := irow_drop (own_irow (own_same HOW.out fun q hq => h.block q (Rw.own_lt HOW.out q hq).2 (NRG.out q (Rw.own_lt HOW.out q hq).1))) i
        rw [Nat.zero_add] at this
        unfold encW at this ⊢
        rw [List.map_drop]; exact this
      have hmR := HM.out
      rw [encW_len] at hmc
      have hml : m - i = X.arcs.length := by rw [hq, List.length_drop, hmR]
      have hci : c ≠ i := by omega
      have him : (i : Int) ≤ (m : Int) := by omega
      have hi0 : (0 : Int) ≤ (i : Int) := by omega
      have hmcI : (m : Int) ≤ (c : Int) := by omega
      have hKR := HKR.out
      have hHU := HUB.out
      have hNN := HNN.out
      have HME := Lib.hid ((meet_any wr mb (beg n.l R) u HMT.out (by omega) (by omega) (by rw [beg_len]; omega)).mono (R' := fun e w' => e = .returned (.tuple #[.int .i64 (i : Int), .bool true]) ∧ Below wr.heap.size wr w') (by
        rintro e w' (⟨i', h1, h2, h3⟩ | ⟨p, h1, -⟩)
        · rw [hi] at h1; cases h1; exact ⟨h2, h3⟩
        · rw [hi] at h1; cases h1))
      have hrow2 := Lib.hid hrow
      have HK9 := Lib.hid hk
      have HQ := Lib.hid hq
      have HDR := Lib.hid h9
      rw [hk] at HTK
      have hu1 : (u == en) = false := by simpa using hu
      have hu2 : (u != en) = true := by simpa using hu
      clear hq hrow HKT HKC hb hk hi i2 HMT hu h9 harc hcm hHU hKR hmR hNN
      go_wp2_with fail
      refine HME.out.mono ?_
      rintro e w2 ⟨rfl, hb⟩
      have HSR2 := Lib.hid (HSR.out.kept hb)
      have HOR2 := Lib.hid (HOR.out.then hb)
      have HOW2 := Lib.hid (Rw.own_below HOW.out hb)
      have HBX2 := Lib.hid (ixb_below HBX.out hb)
      have HR2 := Lib.hid (show ∀ w', Off (RsF rb lb av) w2 w' → IRow w' (some ⟨q, i, none⟩) (encW X.arcs) from fun w' h => hrow2.out w' (Off.first hb h))
      clear hb
      go_wp2_with fail
      refine (HTK.out w2 VS' U' (some ⟨q, i, none⟩) (c - i) HSR2.out HR2.out).mono ?_
      rintro e w3 ⟨rfl, hs, ho⟩
      have HSR3 := Lib.hid (FAR.out _ _ _ _ _ ⟨w.heap.size, 2, none⟩ (.int .i64 X.amount) rfl (FAR.out _ _ _ _ _ ⟨w.heap.size, 1, none⟩ (.slice (some ⟨q, i, none⟩) X.arcs.length (c - i)) rfl (FAR.out _ _ _ _ _ ⟨w.heap.size, 0, none⟩ (.int .u8 99) rfl hs)))
      have HOR3 := Lib.hid ((((HOR2.out.trans ho fun q hq => .inl hq).set (p := ⟨w.heap.size, 0, none⟩) (.inr (Nat.le_refl _)) (.int .u8 99)).set (p := ⟨w.heap.size, 1, none⟩) (.inr (Nat.le_refl _)) (.slice (some ⟨q, i, none⟩) X.arcs.length (c - i))).set (p := ⟨w.heap.size, 2, none⟩) (.inr (Nat.le_refl _)) (.int .i64 X.amount))
      have hbx := ixb_same HBX2.out (ho.block _ (ixb_lt HBX2.out) NRF.out)
      have HW := Lib.hid (ixb_all (k2 := 99) (v2 := .slice (some ⟨q, i, none⟩) X.arcs.length (c - i)) (a2 := X.amount) hbx)
      obtain ⟨b0, b1, b2⟩ := ixb_cells hbx
      have f0 := ixb_frozen hbx 0
      have f1 := ixb_frozen hbx 1
      have f2 := ixb_frozen hbx 2
      have HOW3 := Lib.hid (show OwnI (((w3.setCell ⟨w.heap.size, 0, none⟩ (.int .u8 99)).setCell ⟨w.heap.size, 1, none⟩ (.slice (some ⟨q, i, none⟩) X.arcs.length (c - i))).setCell ⟨w.heap.size, 2, none⟩ (.int .i64 X.amount)) (w.heap.size + 1) (.slice (some ⟨q, 0, none⟩) m c) (encW R) from
        Rw.own_set (Rw.own_set (Rw.own_set (own_same HOW2.out fun q hq => ho.block q (Rw.own_lt HOW2.out q hq).2 (NRG.out q (Rw.own_lt HOW2.out q hq).1)) (fun h => absurd (Rw.own_lt HOW2.out _ h).1 (by simp)) _) (fun h => absurd (Rw.own_lt HOW2.out _ h).1 (by simp)) _) (fun h => absurd (Rw.own_lt HOW2.out _ h).1 (by simp)) _)
      have HLU2 := Lib.hid (HFL.out _ HLU.out)
      clear hs ho hbx
      go_wp2
      refine bodyPost_ret_by (results_cell_row rfl _ _ w.heap.size 30 _ (0, 0) _ rfl HW.out Try.underlying30 rfl (by kernel_rfl)) rfl ?_
      rw [HK9.out]
      obtain ⟨q', e, -, -, -, -, -, harc⟩ := arcO_of HOW3.out (B := w.heap.size) (Nat.le_succ _) (fun h => by have h2 : (encW R).length = 0 := by { rw [h]; rfl }; rw [encW_len] at h2; omega)
      simp only [Option.some.injEq, Addr.mk.injEq, and_true, true_and] at e
      subst e
      have h9 := harc i (by rw [encW_len]; exact i1)
      have hd : (encW R).drop i = encW X.arcs := by rw [HQ.out]; unfold encW; rw [List.map_drop]
      rw [hd] at h9
      exact ⟨_, _, _, _, rfl, h9, HSR3.out, HLU2.out, HOR3.out⟩
    · have hHU := HUB.out
      have hKR := HKR.out
      have hNN := HNN.out
      obtain ⟨k', a, hk, hfa, hal, hbg, hst⟩ := HSP.out u R k hwk hHU.1
      have HME := Lib.hid ((meet_any wr mb (beg n.l R) u HMT.out (by omega) (by omega) (by rw [beg_len]; omega)).mono (R' := fun e w' => ∃ p, e = .returned (.tuple #[.int .i64 p, .bool false]) ∧ MtBox w' mb (beg n.l R ++ [u]) ∧ wr.grownBy w' (some mb)) (by
        rintro e w' (⟨i', h1, h2, h3⟩ | ⟨p, h1, h2, h3, h4⟩)
        · rw [hi] at h1; cases h1
        · exact ⟨p, h2, h3, h4⟩))
      have HUA := Lib.hid (fun w' VS' U' h hU' => HAH.out w' VS' U' h hU' u hHU.1 hHU.2 a hfa)
      have HBG := Lib.hid hbg
      have HNX := Lib.hid hst
      have HTA := Lib.hid (HTO.out a hal)
      have HAL := Lib.hid hal
      have HKN := Lib.hid (show k' + (R ++ [a]).length = N + 1 by simp; omega)
      have HMS := Lib.hid (show (R ++ [a]).length ≤ N + 1 ∧ R.length < N + 1 by simp; omega)
      have HNO := Lib.hid (own_mt HOW.out HMT.out)
      have hu1 : (u == en) = false := by simpa using hu
      have hu2 : (u != en) = true := by simpa using hu
      have hai : (a : Int) < (n.l.length : Int) := by omega
      have hai0 : (0 : Int) ≤ (a : Int) := by omega
      clear hwk hi hu hbg hst hHU hKR hNN hk hfa HTK HKT HKC hal
      go_wp2_with fail
      refine HME.out.mono ?_
      rintro e w2 ⟨p, rfl, hmt, hg⟩
      have hmw := HNM.out
      have HSR2 := Lib.hid (GRW.out _ _ _ _ _ HSR.out hg (fun q e => by cases e; omega))
      have HOR2 := Lib.hid (HOR.out.grown hg (fun q e => .inr (by cases e; omega)))
      have HOW2 := Lib.hid (Rw.own_grown HOW.out hg fun q h1 h2 => HNO.out (by rw [h1]; exact h2.symm))
      have HBX2 := Lib.hid (ixb_same HBX.out (hg.block _ (ixb_lt HBX.out) (fun e => by cases e; omega)))
      have HMT2 := Lib.hid hmt
      clear hmt hg hmw
      go_wp2_with fail
      refine (HUA.out w2 VS' U' HSR2.out HLU.out).mono ?_
      rintro e w4 ⟨VS4, U4, rfl, hs4, hl4, ho4⟩
      have HOR4 := Lib.hid (HOR2.out.trans ho4 fun q hq => .inl hq)
      have HOW4 := Lib.hid (own_same HOW2.out fun q hq => ho4.block q (Rw.own_lt HOW2.out q hq).2 (NRG.out q (Rw.own_lt HOW2.out q hq).1))
      have HBX4 := Lib.hid (ixb_same HBX2.out (ho4.block _ (ixb_lt HBX2.out) NRF.out))
      have HMT4 := Lib.hid (HMT2.out.same (ho4.block _ HMT2.out.lt (NRG.out _ HNM.out)))
      have HLU4 := Lib.hid hl4
      have HSR5 := Lib.hid (hs4.alloc (.cells #[.int .i64 (a : Int)] 3))
      have HOR5 := Lib.hid (HOR4.out.alloc (.cells #[.int .i64 (a : Int)] 3))
      have HOW5 := Lib.hid (Rw.own_alloc HOW4.out (.cells #[.int .i64 (a : Int)] 3))
      have HBX5 := Lib.hid (ixb_below HBX4.out ((Below.refl _ _).alloc (Nat.le_refl _) (.cells #[.int .i64 (a : Int)] 3)))
      have HMT5 := Lib.hid (HMT4.out.below ((Below.refl _ _).alloc (Nat.le_refl _) (.cells #[.int .i64 (a : Int)] 3)))
      have HR5 := Lib.hid (irow_one' w4 rfl (a : Int) 3)
      have HLN := Lib.hid (show (encW R).length + ([(a : Int)] : List Int).length ≤ 1099511627776 by have := HMS.out; have := HNN.out; rw [encW_len]; simp; omega)
      have HSZ5 := Lib.hid (show w.heap.size + 1 ≤ (w4.alloc (.cells #[.int .i64 (a : Int)] 3)).heap.size from Nat.le_trans (ixb_lt HBX4.out) (by simp))
      have HNO5 := Lib.hid (own_mt HOW5.out HMT5.out)
      have HVB := Lib.hid (Rw.own_lt HOW5.out)
      clear hs4 hl4 ho4 HSR2 HOR2 HOW2 HBX2 HMT2 HUA HME
      go_wp2_with (at_builtin; refine Rw.app elemI encI_len encI_one rfl (.tmp 36) (.tmp 38) rfl (w.heap.size + 1) _ (encW R) rfl HOW5.out (some ⟨w4.heap.size, 0, none⟩) 1 [(a : Int)] rfl ?hnn HR5.out HLN.out ?hB ?_; (case hnn => (intro h; cases h)); (case hB => (exact HSZ5.out)); intro v8 w8 hown8 hgr8; rw [← encW_snoc] at hown8; have HO8 := Lib.hid hown8; have HM8 := Lib.hid (HMT5.out.kept hgr8 HNO5.out); have HS8 := Lib.hid (GRW.out _ _ _ _ _ HSR5.out hgr8 (fun q e => by have := (HVB.out q e).1; omega)); have HF8 := Lib.hid (HOR5.out.grown hgr8 (fun q e => .inr (by have := (HVB.out q e).1; omega))); have HX8 := Lib.hid (ixb_same HBX5.out (hgr8.block _ (ixb_lt HBX5.out) (fun e => by have := (HVB.out _ e.symm).1; omega))); obtain ⟨r0, r1, r2, r3, r4, r5, r6, r7⟩ := rblk_cells HS8.out.blk; obtain ⟨b9, off9, hao, hb9, d0, d1, d2⟩ := arow_cell HS8.out.row HAL.out; rw [hao] at r3; clear hown8 hgr8 r0 r1 r2 r4 r5 r6 r7 d0 d2)
      obtain ⟨o8, c8, hv8, _⟩ := Rw.own_row encI_len HO8.out
      have hO9 := HO8.out
      have hM9 := HM8.out
      have hm := HM.out
      rw [hv8] at hO9
      rw [← HBG.out] at hM9
      rw [hv8]
      have hmm := HMS.out
      rw [encW_len]
      exact ⟨⟨_, _, k', o8, _, c8, VS4, U4, rfl, rfl, Lib.hid rfl, HTA, HNX, HKN, Lib.hid (by rw [encW_len] at hO9; exact hO9), Lib.hid hM9, HS8, HLU4, HF8, HX8⟩, by simp only [sLen]; rw [hm]; simp at hmm ⊢; omega⟩
end
end Dc
end Go.Proofs.Ytkeojkddbannpaa
