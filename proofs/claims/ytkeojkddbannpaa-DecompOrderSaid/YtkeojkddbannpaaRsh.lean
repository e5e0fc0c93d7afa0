/-
  Stage 15: contract of the developers' Split. Condition: at most a million arcs, capacities of 64 bits.
-/
import Derived.Test.YtkeojkddbannpaaRsg
import Derived.Test.YtkeojkddbannpaaRsf
import Derived.Test.YtkeojkddbannpaaFval
import Derived.Test.YtkeojkddbannpaaDcv
namespace Go.Proofs.Ytkeojkddbannpaa
open Go.ChangeShapes Go.WideShapes Go.ChangeAt Go.RowKit
set_option linter.unusedVariables false
set_option linter.unusedSimpArgs false
namespace Dc
open Go.Proofs.Ytkeojkddbannpaa.Ne
open Sp (Off)
theorem elemD : Rw.Elem 30 26 3 40 (.agg #[.int .u8 0, .slice none 0 0, .int .i64 0]) := ⟨by kernel_rfl, Try.underlying26, rfl, by decide, by decide⟩
/-- what Split hands back -/
structure SplR (e : TypeId) (n : Net) (f : List Int) (w : World) (B : Nat) (v : Value) : Prop where
  bad : chkF n f ≠ 0 → v = .slice none 0 0
  good : chkF n f = 0 → ItO e w B v ((splA n f).map Itm.z)
set_option maxRecDepth 100000 in
set_option maxHeartbeats 4000000 in
theorem split_any (n : Net) (ao : Option Addr) (cap : Nat) (fo : Option Addr) (fc : Nat) (f : List Int) (w : World) (hr : ARow w ao n.l) (hf : IRow w fo f) (hl : n.l.length ≤ 1000000) (hok : ∀ a ∈ n.l, in64 a.cap) :
    Calls Try.prog 10 #[encN n ao cap, .slice fo f.length fc] w fun e w' => ∃ v, e = .returned (.tuple #[v, .int .i64 (chkF n f)]) ∧ SplR 30 n f w' w.heap.size v ∧ Below w.heap.size w w' := by
  have HV := Lib.hid (fun w' h1 h2 => fval_any n ao cap fo fc f w' h1 h2 hl hok)
  have HB0 := Lib.hid ((Below.refl w.heap.size w).alloc (Nat.le_refl _) (.cells #[.int .i64 n.n, .int .i64 n.s, .int .i64 n.t, .slice ao n.l.length cap] 24))
  have HNB := Lib.hid (netBox_new w n.n n.s n.t (.slice ao n.l.length cap))
  obtain ⟨n0, n1, n2, n3⟩ := netBox_cells HNB.out
  have HF := Lib.hid hf
  have HR := Lib.hid hr
  by_cases c0 : chkF n f = 0
  case neg =>
    have HBAD := Lib.hid (show ∀ w' B, SplR 30 n f w' B (.slice none 0 0) from fun w' B => ⟨fun _ => rfl, fun h => absurd h c0⟩)
    generalize chkF n f = c at *
    have c1 : (c == 0) = false := by simpa using c0
    have c1n : (c != 0) = true := by simpa using c0
    generalize vaV n f = vv at *
    clear hr hf hl hok c0
    go_enter Try.func10, Try.ntmps10
    go_wp2_with fail
    generalize (w.alloc (.cells #[.int .i64 n.n, .int .i64 n.s, .int .i64 n.t, .slice ao n.l.length cap] 24)) = W0 at *
    refine (HV.out W0 (HR.out.kept HB0.out) (HF.out.kept HB0.out)).mono ?_
    rintro e w2 ⟨rfl, hb⟩
    have HB2 := Lib.hid (HB0.out.trans (hb.mono HB0.out.size))
    clear hb
    go_wp2
    go_ret2
    exact ⟨_, rfl, HBAD.out _ _, HB2.out⟩
  have hck : checkN n = 0 := (chkA_ok (chkF_ok c0).1).1
  have hR := right_of hck
  have hLf := lf_of c0
  have HVAL := hLf.val hck
  rw [c0, HVAL] at HV
  rw [c0]
  have HNW := Lib.hid (fun w' h1 h2 => newRest_any n ao cap fo fc f (exc n.l f n.t) w' hR h1 h2 hLf.len)
  have HGOOD := Lib.hid (show ∀ w' v, ItO 30 w' w.heap.size v ((splA n f).map Itm.z) → SplR 30 n f w' w.heap.size v from fun w' v h => ⟨fun h2 => absurd c0 h2, fun _ => h⟩)
  have hlen := hLf.len
  rw [hlen] at HV ⊢
  have hl2 := hR.len
  clear hr hf hl hok HVAL
  go_enter Try.func10, Try.ntmps10
  go_wp2_with fail
  generalize (w.alloc (.cells #[.int .i64 n.n, .int .i64 n.s, .int .i64 n.t, .slice ao n.l.length cap] 24)) = W0 at *
  refine (HV.out W0 (HR.out.kept HB0.out) (HF.out.kept HB0.out)).mono ?_
  rintro e w2 ⟨rfl, hb⟩
  have HB2 := Lib.hid (HB0.out.trans (hb.mono HB0.out.size))
  have HN2 := Lib.hid (netBox_below HNB.out hb (netBox_lt HNB.out))
  clear hb n0 n1 n2 n3
  obtain ⟨n0, n1, n2, n3⟩ := netBox_cells HN2.out
  go_wp2_with fail
  refine (HNW.out w2 (HR.out.kept HB2.out) (HF.out.kept HB2.out)).mono ?_
  rintro e w3 ⟨rb, lb, lo, hi, av, va, VS, U, rfl, hst, hlg⟩
  have HST := Lib.hid hst
  have HLG := Lib.hid hlg
  have HZ3 := Lib.hid hst.old.size
  have HLT := Lib.hid hst.lt
  have HHI := Lib.hid hst.rows.sz
  have HAVB := Lib.hid (fun q (h : av.ownBlock = some q) => (Rw.own_lt hst.am q h).2)
  have HB3 := Lib.hid (HB2.out.trans (hst.old.mono HB2.out.size))
  obtain ⟨B1, hB1⟩ : ∃ B1, B1 = w3.heap.size := ⟨_, rfl⟩
  have NRG := Lib.hid (show ∀ q, B1 ≤ q → ¬ RsF rb lb av q from fun q hq h => by
    have h1 := HLT.out
    rcases h with h | h | h
    · omega
    · omega
    · have := HAVB.out q h; omega)
  have HIO0 := Lib.hid (show ItO 30 w3 B1 (.slice none 0 0) (([] : List Itm).map Itm.z) from ito_nil _ _ _)
  have HB1 := Lib.hid hB1
  have HW1 := Lib.hid (show w.heap.size ≤ B1 by rw [hB1]; exact HB3.out.size)
  have HL0 := Lib.hid hLf
  have HBN := Lib.hid (show bnd n f ≤ n.l.length from bnd_len n f)
  have HRT := Lib.hid hR
  have HLA0 := Lib.hid (lag_start f (arcsV n.l 0))
  have HSP0 := Lib.hid (show splA n f = [] ++ splA n f from rfl)
  clear hst hlg hB1 n0 n1 n2 n3 hLf hR hck c0 HNW HV
  go_wp2
  go_loopg [9] (n.l.length) (fun gg s wr => ∃ (v : Value) (g : List Int) (L : List Itm) (va : Value) (A : List Nat) (VS : Nat → Value) (U : Nat → List Nat), v = s ∧ Hid (bnd n g ≤ gg) ∧ Hid (Lf n g) ∧ Hid (splA n f = L ++ splA n g) ∧ Hid (ItO 30 wr B1 v (L.map Itm.z)) ∧ Hid (RsM n ao cap w2 wr rb lb lo hi av g (exc n.l g n.t) va A VS U) ∧ Hid (Lag g (arcsV n.l 0) A) ∧ Hid (LgU n g U) ∧ Hid (B1 ≤ wr.heap.size))
  case atStart => exact ⟨_, f, [], va, _, VS, U, rfl, HBN, HL0, HSP0, HIO0, HST, HLA0, HLG, Lib.hid (by rw [HB1.out]; exact Nat.le_refl _)⟩
  case round =>
    obtain ⟨v, g, L, va, A, VS, U, rfl, HBG, HLF, HSP, HIO, HSR, HLA, HLU, HBS⟩ := hrel
    clear HST HLG HIO0 HBN HLA0 HSP0 HB3
    have hlg := HLF.out.len
    have HGO := Lib.hid (goesOn_any HSR.out (fun a ha => by have := (arcsV_mem.1 (HLA.out.mem ha)).1; omega) (by omega))
    have HLL := Lib.hid HLA.out.las
    have hfst := lag_fst HLF.out.wi HLA.out
    clear hlg
    rcases hA : las g A with _ | ⟨a0, A'⟩
    · rw [hA] at hfst HGO
      have HEND := Lib.hid (show splA n f = L by rw [HSP.out, splA_nil HRT.out HLF.out hfst, List.append_nil])
      clear hfst hA
      go_wp2_with fail
      refine HGO.out.mono ?_
      rintro e w4 ⟨va', rfl, hs4, ho4⟩
      have HIO4 := Lib.hid (HIO.out.same fun q h1 h2 => ho4.block q h2 (NRG.out q h1))
      have HBW4 := Lib.hid (HB2.out.trans (hs4.old.mono HB2.out.size))
      clear hs4 ho4
      go_wp2
      go_ret2
      exact ⟨v, rfl, HGOOD.out _ _ (by rw [HEND.out]; exact HIO4.out.base HW1.out), HBW4.out⟩
    · rw [hA] at hfst HGO HLL
      have hf0 : fstA n.l g 0 = some a0 := hfst
      have HX := Lib.hid (itm_is HRT.out HLF.out hf0)
      have HSPN := Lib.hid (show splA n f = (L ++ [itm n g]) ++ splA n (tk g (itm n g)) by rw [HSP.out, splA_cons HRT.out HLF.out hf0, List.append_assoc]; rfl)
      have HBP := Lib.hid (bnd_pos HLF.out hf0)
      have HBT := Lib.hid (tk_bnd HRT.out HLF.out HX.out)
      have HLT2 := Lib.hid (tk_lf HRT.out HLF.out HX.out)
      have HNX := Lib.hid (fun w' va (h : RsM n ao cap w2 w' rb lb lo hi av g (exc n.l g n.t) va (a0 :: A') VS U) => next_any HRT.out HLF.out rfl hf0 h HLU.out)
      have HLN := Lib.hid (show Lag (tk g (itm n g)) (arcsV n.l 0) (a0 :: A') from HLL.out.fall fun a ha => by
        rw [tk_at HLF.out HX.out]
        split
        · rename_i hm
          have := (HX.out.inn a hm).2; have := HX.out.pos; omega
        · omega)
      clear hfst hA hf0 HX HLL HSP
      generalize itm n g = X at *
      generalize tk g X = g2 at *
      go_wp2_with fail
      refine HGO.out.mono ?_
      rintro e w4 ⟨va', rfl, hs4, ho4⟩
      have HS4 := Lib.hid hs4
      have HO4 := Lib.hid (show Off (RsF rb lb av) wr w4 from ho4)
      clear hs4 ho4
      go_wp2_with fail
      refine (HNX.out w4 va' HS4.out).mono ?_
      rintro e w5 ⟨ro, rc, VS5, U5, rfl, harc, hs5, hu5, ho5⟩
      have HIO5 := Lib.hid (show ItO 30 w5 B1 v (L.map Itm.z) from (HIO.out.same fun q h1 h2 => HO4.out.block q h2 (NRG.out q h1)).same fun q h1 h2 => ho5.block q h2 (NRG.out q h1))
      have HARC := Lib.hid (harc.base (B' := B1) (Nat.le_trans HBS.out HO4.out.size))
      have HU5 := Lib.hid hu5
      have HBS5 := Lib.hid (show B1 ≤ w5.heap.size from Nat.le_trans HBS.out (Nat.le_trans HO4.out.size ho5.size))
      have HS5 := Lib.hid (hs5.alloc (.cells #[.int .u8 X.kind, .slice ro X.arcs.length rc, .int .i64 X.amount] 30))
      have HIO6 := Lib.hid (HIO5.out.kept ((Below.refl _ _).alloc (Nat.le_refl _) (.cells #[.int .u8 X.kind, .slice ro X.arcs.length rc, .int .i64 X.amount] 30)))
      have HARC6 := Lib.hid (HARC.out.same (w2 := w5.alloc (.cells #[.int .u8 X.kind, .slice ro X.arcs.length rc, .int .i64 X.amount] 30)) fun q h1 h2 _ => ((Below.refl w5.heap.size w5).alloc (Nat.le_refl _) _).block q h2)
      have HKR := Lib.hid (mrow_one w5 rfl 30 ⟨X.kind, ro, X.arcs.length, rc, X.amount⟩)
      have HBS6 := Lib.hid (show B1 ≤ (w5.alloc (.cells #[.int .u8 X.kind, .slice ro X.arcs.length rc, .int .i64 X.amount] 30)).heap.size from Nat.le_trans HBS5.out (by simp))
      clear harc hs5 hu5 ho5
      obtain ⟨Ks, k1, k2, k3⟩ := HIO6.out
      have HK1 := Lib.hid k1
      have HK2 := Lib.hid k2
      have HK3 := Lib.hid k3
      have HLL := Lib.hid (show L.length ≤ n.l.length from by
        have h1 := HSPN.out
        have h2 := (splA_ok HRT.out HL0.out).len
        have h3 := bnd_len n f
        rw [h1] at h2
        simp at h2
        omega)
      have HLNN := Lib.hid (show Ks.length + ([⟨X.kind, ro, X.arcs.length, rc, X.amount⟩] : List ItC).length ≤ 1099511627776 from by have := HK2.out; have := HLL.out; simp at this ⊢; simp at *; omega)
      obtain ⟨ov, cv, hv, _⟩ := Rw.own_row encM_len k1
      have HVB := Lib.hid (Rw.own_lt HK1.out)
      clear k1 k2 k3
      subst hv
      go_wp2_with (at_builtin; refine Rw.app elemD encM_len encM_one rfl (.tmp 25) (.tmp 28) rfl B1 _ Ks rfl HK1.out (some ⟨w5.heap.size, 0, none⟩) 1 [⟨X.kind, ro, X.arcs.length, rc, X.amount⟩] rfl ?hnn HKR.out HLNN.out ?hB ?_; (case hnn => (intro h; cases h)); (case hB => (exact HBS6.out)); intro v8 w8 hown8 hgr8; have HO8 := Lib.hid hown8; have HG8 := Lib.hid hgr8; clear hown8 hgr8)
      have HIN := Lib.hid (ito_snoc (k := ⟨X.kind, ro, X.arcs.length, rc, X.amount⟩) (x := X.z) (by decide) HK1.out HK2.out HK3.out HG8.out HO8.out ⟨rfl, rfl, (z_len X).symm, HARC6.out⟩)
      have HSN := Lib.hid (HS5.out.past HG8.out (B := B1) (Nat.le_trans HHI.out (by rw [HB1.out]; exact Nat.le_refl _)) (by have := HLT.out; have := HB1.out; omega) (by have := HLT.out; have := HB1.out; omega) (fun q h => by have := HAVB.out q h; have := HB1.out; omega) (by have := HZ3.out; have := HB1.out; omega) (fun q h => (HVB.out q h).1))
      go_roundg (gk - 1)
      case measure => have := HBP.out; have := HBG.out; omega
      case rel => exact ⟨_, g2, L ++ [X], va', a0 :: A', VS5, U5, rfl, Lib.hid (by have := HBT.out; have := HBG.out; omega), HLT2, HSPN, Lib.hid (by have := HIN.out; rw [List.map_append]; exact this), HSN, HLN, HU5, Lib.hid (Nat.le_trans HBS6.out HG8.out.size)⟩
end Dc
end Go.Proofs.Ytkeojkddbannpaa
