/- SplaySorts: for every input the law returns true and its arguments read as they did. No condition. -/
import Derived.Test.YtlkigpmjhojceaaSps
import Derived.Test.YtlkigpmjhojceaaSph
import Derived.Test.YtlkigpmjhojceaaOpa
import Derived.Deep.LoopGhost
import Derived.Deep.DeepCutAuto
import Derived.Test.YtlkigpmjhojceaaRows
import Derived.WalkKit
import Derived.ProofKit
import Derived.OpenShut
import Derived.ShutString
import Derived.ChangeOld
import Derived.Below
import Derived.Deep.Strs
namespace Go.Proofs.Ytlkigpmjhojceaa.splaySorts
open Go.ChangeShapes Go.WideShapes Go.ChangeAt Go.RowKit
open Go.ChangeMaps (open_string shut_string)
set_option linter.unusedVariables false
set_option linter.unusedSimpArgs false

theorem own : ownKnob Try.prog.godebug = none := by kernel_rfl
theorem laidOut : laidOutB Try.prog = true := by kernel_rfl

open Sp
def sqL (k : Nat) : List Int := (List.range k).map fun i : Nat => (i : Int) * (i : Int)
theorem sqL_len (k : Nat) : (sqL k).length = k := by simp [sqL]
theorem sqL_succ (k : Nat) : sqL (k + 1) = sqL k ++ [(k : Int) * (k : Int)] := by simp [sqL, List.range_succ]
theorem sqL_new {n : Nat} (h : n ≤ 20) : newE (sqL n) = 0 := by
  unfold newE
  rw [if_neg (by rw [sqL_len]; omega), if_pos]
  intro i hi
  rw [sqL_len] at hi
  have e : Ne.amt (sqL n) i = (i : Int) * (i : Int) := by simp [sqL, Ne.amt, hi]
  rw [e]
  have h1 : (i : Int) * (i : Int) ≤ 20 * 20 := Int.mul_le_mul (by omega) (by omega) (by omega) (by omega)
  have h2 : 0 ≤ (i : Int) * (i : Int) := Int.mul_nonneg (by omega) (by omega)
  unfold big
  omega
theorem joinS_len (s : St) (a b : Int) : (joinS s a b).v = s.v := by unfold joinS; split <;> rfl
theorem sq_bd {k : Nat} (h : k < 20) : 0 ≤ (k : Int) * (k : Int) ∧ (k : Int) * (k : Int) ≤ 400 := by
  have h1 : (k : Int) * (k : Int) ≤ 20 * 20 := Int.mul_le_mul (by omega) (by omega) (by omega) (by omega)
  exact ⟨Int.mul_nonneg (by omega) (by omega), by omega⟩
theorem tell_at {w : World} {B g c i : Nat} {LR : List Nat} {n : Nat} (h : Ne.OwnI w B (.slice (some ⟨g, 0, none⟩) n c) (Ne.encW LR)) (hi : i < LR.length) : w.cell? ⟨g, i, none⟩ = some (.int .i64 ((LR.getD i 0 : Nat) : Int)) := by
  obtain ⟨g', c', e, _, hc⟩ := own_tells h (by omega)
  cases e
  exact hc i hi
theorem vals_tell {w : World} {B : Nat} {v : Value} {l : List Int} (h : Ne.OwnL w B v l) (h0 : 0 < l.length) : ∃ g c, v = .slice (some ⟨g, 0, none⟩) l.length c ∧ l.length ≤ c ∧ ∀ i, i < l.length → w.cell? ⟨g, i, none⟩ = some (.int .i64 (Ne.amt l i)) := by
  obtain ⟨o, c, hv, hc, _, _, _, _, _⟩ := Rw.own_row Ne.encI_len h
  subst hv
  have hi := Ne.own_irow h
  obtain ⟨g, rfl, _, _, _, _⟩ := Ne.own_cells Ne.encI_len h (Ne.at_amt h0)
  refine ⟨g, c, rfl, hc, fun i hi2 => ?_⟩
  obtain ⟨b, off, e, _, hc2⟩ := Ne.irow_cell hi (i := i) hi2
  cases e
  rw [Nat.zero_add] at hc2
  exact hc2

set_option maxRecDepth 100000 in
set_option maxHeartbeats 4000000 in
theorem walk (a0 : Int) (a1 : List Sp.Act) (o1 : Option Addr) (c1 : Nat) (w : World) (w0 : (Lit.int .i64 a0).wf = true) (k1 : ∀ a ∈ a1, Sp.Act.ok a) (z1 : a1.length ≤ c1) (y1 : c1 ≤ maxLen) (n1 : o1 = none → c1 = 0) (r1 : Sp.TRow w o1 a1) :
    Calls Try.prog 6 #[.int .i64 a0, .slice o1 a1.length c1] w fun e w' => e = .returned (.bool true) ∧ Below w.heap.size w w' := by
  have HSH := Lib.hid (shown_any w)
  obtain ⟨M, hM⟩ : ∃ M, M = a1.length := ⟨_, rfl⟩
  rw [← hM] at z1 ⊢
  have HLL := Lib.hid hM
  have hm64 : M ≤ 9223372036854775807 := by unfold maxLen at y1; omega
  have KA := Lib.hid k1
  have TR := Lib.hid r1
  clear hM z1 y1 n1 k1 r1
  have b0 := bounds_i64 w0
  clear w0
  by_cases g1 : 100 < M
  · have g1' : (100 : Int) < (M : Int) := by omega
    go_enter Try.func6, Try.ntmps6
    go_wp2_with fail
    refine HSH.out.mono ?_
    rintro e w1 ⟨rfl, hb⟩
    have HB1 := Lib.hid hb
    clear hb
    go_wp2
    go_ret
    exact ⟨rfl, HB1.out⟩
  have g1' : ¬ (100 : Int) < (M : Int) := by omega
  have hm2 : M ≤ 100 := by omega
  clear g1
  have bp0 := Ne.pickN_bd (c := a0) (n := 20) (by omega)
  have PA := Lib.hid fun w' => Ne.pick_any a0 20 w' b0.1 b0.2 (by omega) (by omega)
  generalize Ne.pickN a0 20 = z at *
  obtain ⟨n, hn⟩ : ∃ n : Nat, 1 + z = (n : Int) := ⟨(1 + z).toNat, by omega⟩
  have hn1 : 1 ≤ n := by omega
  have hn20 : n ≤ 20 := by omega
  have hz0 : 0 ≤ z := bp0.1
  have hz1 : z < 20 := bp0.2
  clear b0 bp0
  have hne := sqL_new hn20
  have NW := Lib.hid (fun (w' : World) (o : Option Addr) (c : Nat) h1 h2 => dnew_any o c (sqL n) w' h1 h2)
  rw [hne, sqL_len] at NW
  have HNV := Lib.hid (show (newS (sqL n)).v = sqL n from rfl)
  have HVLN := Lib.hid (fun k => sqL_len k)
  have HVS := Lib.hid (fun k => sqL_succ k)
  have HV0 := Lib.hid (show sqL 0 = [] from rfl)
  generalize newS (sqL n) = s0 at *
  generalize sqL = VV at *
  clear hne
  go_enter Try.func6, Try.ntmps6
  go_wp2_with fail
  refine HSH.out.mono ?_
  rintro e w1 ⟨rfl, hb⟩
  have HB1 := Lib.hid hb
  clear hb HSH
  go_wp2_with fail
  refine (PA.out _).mono ?_
  rintro e w' ⟨rfl, rfl⟩
  go_wp2
  go_loopg [7, 8] n (fun gg s7 s8 wr => ∃ (k : Nat) (vv : Value), vv = s7 ∧ s8 = .int .i64 k ∧ k + gg = n ∧ Hid (Ne.OwnL wr w1.heap.size vv (VV k)) ∧ Hid (Below w1.heap.size w1 wr))
  case atStart => exact ⟨0, _, rfl, rfl, by omega, Lib.hid (by rw [HV0.out]; exact Rw.own_nil _ _), Lib.hid (Below.refl _ _)⟩
  case round =>
    obtain ⟨k, vv, rfl, rfl, hkg, HOW, HBW⟩ := hrel
    by_cases hlt : k < n
    · have hki : (k : Int) < (n : Int) := by omega
      have hsq := sq_bd (show k < 20 by omega)
      have hsw : IntKind.i64.wrap ((k : Int) * (k : Int)) = (k : Int) * (k : Int) := by rw [IntKind.wrap_i64]; omega
      have HST := Lib.hid (HVS.out k)
      have hlen := HVLN.out k
      have HO3 := Lib.hid (Rw.own_alloc HOW.out (.cells #[.int .i64 ((k : Int) * (k : Int))] 2))
      have HR3 := Lib.hid (Ne.irow_one' wr rfl ((k : Int) * (k : Int)) 2)
      have HVB := Lib.hid (Rw.own_block HOW.out)
      have HB3 := Lib.hid (HBW.out.alloc HBW.out.size (.cells #[.int .i64 ((k : Int) * (k : Int))] 2))
      have HZ3 := Lib.hid HB3.out.size
      have HLN := Lib.hid (show (VV k).length + ([(k : Int) * (k : Int)] : List Int).length ≤ 1099511627776 by rw [hlen]; simp; omega)
      clear hlen hsq
      go_wp2_with (at_builtin; refine Rw.app Ne.elemL Ne.encI_len Ne.encI_one rfl (.tmp 39) (.tmp 43) rfl w1.heap.size _ (VV k) rfl HO3.out (some ⟨wr.heap.size, 0, none⟩) 1 [(k : Int) * (k : Int)] rfl ?hnn HR3.out HLN.out ?hB ?_; (case hnn => (intro h; cases h)); (case hB => (exact HZ3.out)); intro v4 w4 hown4 hgr4; rw [← HST.out] at hown4; have HB8 := Lib.hid (HB3.out.grown hgr4 HB3.out.size HVB.out); have HO8 := Lib.hid hown4; clear hown4 hgr4)
      go_roundg (n - (k + 1))
      case measure => omega
      case rel => exact ⟨k + 1, _, rfl, by go_num, by omega, HO8, HB8⟩
    · have ek : k = n := by omega
      subst k
      clear hlt hkg HVS HV0
      obtain ⟨g0, c0, hv0, _, hv0c⟩ := vals_tell HOW.out (by rw [HVLN.out]; omega)
      rw [HVLN.out] at hv0
      subst hv0
      have HVC := Lib.hid (show ∀ (wz : World) (x : Nat), Below wr.heap.size wr wz → x < n → wz.cell? ⟨g0, x, none⟩ = some (.int .i64 (Ne.amt (VV n) x)) from fun wz x hb hx => by
        have h1 := hv0c x (by rw [HVLN.out]; exact hx)
        exact (hb.cell (p := ⟨g0, x, none⟩) (World.block_lt_of_cell? _ _ h1)).trans h1)
      have NWr := Lib.hid (NW.out wr (some ⟨g0, 0, none⟩) c0 (Ne.own_irow HOW.out) (fun h => by cases h))
      have hwr := HBW.out.size
      have hbs : w.heap.size ≤ wr.heap.size := Nat.le_trans HB1.out.size hwr
      have HB2 := Lib.hid (HB1.out.trans (HBW.out.mono HB1.out.size))
      obtain ⟨wv, hwv⟩ : ∃ wv, wv = wr := ⟨_, rfl⟩
      rw [← hwv] at HVC
      have hbv : wr.heap.size = wv.heap.size := by rw [hwv]
      have HBV := Lib.hid (show Below wv.heap.size wv wr by rw [hwv]; exact Below.refl _ _)
      clear NW HOW hv0c
      go_wp2_with fail
      refine NWr.out.mono ?_
      rintro e w2 ⟨hb, pv, rfl, _, h0⟩
      obtain ⟨p, rfl, h9⟩ := h0 (by trivial)
      have H3 := Lib.hid (show One w2 wr.heap.size p s0 [] from ⟨_, _, _, hb.size, h9, fun v l hv => by simp at hv⟩)
      have HB3 := Lib.hid (show Below wv.heap.size wv w2 from by rw [hwv]; exact hb)
      have HBA := Lib.hid (show ∀ wz, Below wv.heap.size wv wz → Below w.heap.size w wz from fun wz h => by rw [hwv] at h; exact HB2.out.trans (h.mono hbs))
      rw [hbv] at H3
      have hbs2 : wv.heap.size ≤ wv.heap.size := Nat.le_refl _
      clear hb h0 h9 hwr hbs HB2 HBW HB1 HBV NWr hbv hwv
      generalize hbb : wv.heap.size = b at *
      clear hbb
      have hbs := hbs2
      clear hbs2
      go_wp2
      go_loopg [11] M (fun gg si wz => ∃ (j : Nat) (s : St), si = .int .i64 j ∧ j + gg = M ∧ Hid (s.v = VV n) ∧ Hid (One wz b p s []) ∧ Hid (Below b wv wz))
      case atStart => exact ⟨0, s0, rfl, by omega, HNV, H3, HB3⟩
      case round =>
        obtain ⟨j, s, rfl, hjg, HSV, HW, HBX⟩ := hrel
        by_cases hj : j < M
        · have hji : (j : Int) < (M : Int) := by omega
          have hj0 : (0 : Int) ≤ (j : Int) := by omega
          obtain ⟨bt, ot, rfl, hbt, t0, t1, t2, t3⟩ := trow_cell (show TRow wr o1 a1 from TR.out.kept (HBA.out _ HBX.out)) (i := j) (by rw [← HLL.out]; exact hj)
          have hak := KA.out (actAt a1 j) (List.mem_of_getElem? (at_act (l := a1) (i := j) (by rw [← HLL.out]; exact hj)))
          obtain ⟨q0, q1, q2, _⟩ := hak
          unfold Ne.in64 at q0 q1 q2
          have bpx := Ne.pickN_bd (c := (actAt a1 j).x) (n := (n : Int)) (by omega)
          have PX := Lib.hid fun w' => Ne.pick_any (actAt a1 j).x (n : Int) w' q1.1 q1.2 (by omega) (by omega)
          have bpy := Ne.pickN_bd (c := (actAt a1 j).y) (n := (n : Int)) (by omega)
          have PY := Lib.hid fun w' => Ne.pick_any (actAt a1 j).y (n : Int) w' q2.1 q2.2 (by omega) (by omega)
          have bpo := Ne.pickN_bd (c := (actAt a1 j).op) (n := 4) (by omega)
          have PO := Lib.hid fun w' => Ne.pick_any (actAt a1 j).op 4 w' q0.1 q0.2 (by omega) (by omega)
          generalize Ne.pickN (actAt a1 j).x (n : Int) = Xi at *
          generalize Ne.pickN (actAt a1 j).y (n : Int) = Y at *
          generalize Ne.pickN (actAt a1 j).op 4 = pk at *
          generalize (actAt a1 j).op = aop at *
          generalize (actAt a1 j).x = ax at *
          generalize (actAt a1 j).y = ay at *
          obtain ⟨x, rfl⟩ : ∃ x : Nat, Xi = (x : Int) := ⟨Xi.toNat, by omega⟩
          have hxn : x < n := by omega
          have hgd := HW.out.good
          have hsl : s.v.length = n := by rw [HSV.out, HVLN.out]
          have hp0 := bpo.1
          have hp1 := bpo.2
          have hllx := len_small hgd (x : Int)
          have hlly := len_small hgd Y
          have hxm : (x : Int).toNat ∈ rowZ s (x : Int) := by rw [rowZ_nat, Int.toNat_natCast]; exact hgd.mem x (by rw [hsl]; exact hxn)
          have HJT := Lib.hid (fun (he : joinE s (x : Int) Y = 0) => join_tells (s := s) (x := (x : Int)) (y := Y) (by omega) hxm he)
          obtain ⟨LR, k, m, r1, r2, r3, r4, r5, r6, r7, r8, r9, r10, r11, r12, r13, r14, r15, r16⟩ := row_tells hgd (x := x) (by rw [hsl]; exact hxn)
          clear r5 r6 r8 r9 r10 r11 r12 r13 r16 bpx bpy bpo q0 q1 q2 hxm
          go_wp2_with fail
          refine (PX.out _).mono ?_
          rintro e w' ⟨rfl, rfl⟩
          go_wp2_with fail
          refine (PY.out _).mono ?_
          rintro e w' ⟨rfl, rfl⟩
          go_wp2_with fail
          refine (PO.out _).mono ?_
          rintro e w' ⟨rfl, rfl⟩
          clear t0 t1 t2 t3 PX PY PO
          by_cases g0 : pk = 0
          · have u0 : (pk == 0) = true := by simpa using g0
            clear g0 r1 r2 r3 r4 r7 r14 r15
            generalize hlx : (rowZ s (x : Int)).length = lx at *
            generalize hly : (rowZ s Y).length = ly at *
            have HLX := Lib.hid hlx
            have HLY := Lib.hid hly
            clear hlx hly
            have hlw : IntKind.i64.wrap ((lx : Int) + (ly : Int)) = (lx : Int) + (ly : Int) := by rw [IntKind.wrap_i64]; omega
            go_wp2_with fail
            refine (one_row HW.out (x : Int)).mono ?_
            rintro e w4 ⟨o4, c4, rfl, h4, hb⟩
            rw [HLX.out]
            have H4 := Lib.hid (h4.less (K2 := []) (fun x hx => by simp at hx))
            have HB4 := Lib.hid (HBX.out.trans (hb.mono hbs))
            clear h4 hb
            go_wp2_with fail
            refine (one_row H4.out Y).mono ?_
            rintro e w5 ⟨o5, c5, rfl, h5, hb⟩
            rw [HLY.out]
            have H5 := Lib.hid (h5.less (K2 := []) (fun x hx => by simp at hx))
            have HB5 := Lib.hid (HB4.out.trans (hb.mono hbs))
            clear h5 hb
            go_wp2_with fail
            refine (one_join H5.out (x : Int) Y).mono ?_
            rintro e w6 ⟨rfl, h6, hb⟩
            have H6 := Lib.hid h6
            have HB6 := Lib.hid (HB5.out.trans (hb.mono hbs))
            have HV6 := Lib.hid (show (joinS s (x : Int) Y).v = VV n from by rw [joinS_len]; exact HSV.out)
            clear h6 hb hgd
            by_cases he : joinE s (x : Int) Y = 0
            · have he' : (joinE s (x : Int) Y == 0) = true := by simpa using he
              have HRL := Lib.hid (show (rowZ (joinS s (x : Int) Y) (x : Int)).length = lx + ly by rw [HJT.out he, List.length_append, HLX.out, HLY.out])
              have hnn : (((lx : Int) + (ly : Int)) != ((lx : Int) + (ly : Int))) = false := by simp
              clear he
              go_wp2_with fail
              refine (one_row H6.out (x : Int)).mono ?_
              rintro e w7 ⟨o7, c7, rfl, h7, hb⟩
              rw [HRL.out]
              have H7 := Lib.hid (h7.less (K2 := []) (fun x hx => by simp at hx))
              have HB7 := Lib.hid (HB6.out.trans (hb.mono hbs))
              clear h7 hb
              go_wp2
              go_roundg (M - (j + 1))
              case measure => omega
              case rel => exact ⟨j + 1, _, by go_num, by omega, HV6, H7, HB7⟩
            · have he' : (joinE s (x : Int) Y == 0) = false := by simpa using he
              clear he
              go_wp2
              go_roundg (M - (j + 1))
              case measure => omega
              case rel => exact ⟨j + 1, _, by go_num, by omega, HV6, H6, HB6⟩
          have u0 : (pk == 0) = false := by simpa using g0
          by_cases g1 : pk = 1
          · have u1 : (pk == 1) = true := by simpa using g1
            clear g0 g1 r1 r2 r3 r4 r7 r14 r15
            generalize hlx : (rowZ s (x : Int)).length = lx at *
            generalize hly : (rowZ s Y).length = ly at *
            have HLX := Lib.hid hlx
            have HLY := Lib.hid hly
            clear hlx hly
            have hlw : IntKind.i64.wrap ((lx : Int) + (ly : Int)) = (lx : Int) + (ly : Int) := by rw [IntKind.wrap_i64]; omega
            go_wp2_with fail
            refine (one_row HW.out (x : Int)).mono ?_
            rintro e w4 ⟨o4, c4, rfl, h4, hb⟩
            rw [HLX.out]
            have H4 := Lib.hid (h4.less (K2 := []) (fun x hx => by simp at hx))
            have HB4 := Lib.hid (HBX.out.trans (hb.mono hbs))
            clear h4 hb
            go_wp2_with fail
            refine (one_row H4.out Y).mono ?_
            rintro e w5 ⟨o5, c5, rfl, h5, hb⟩
            rw [HLY.out]
            have H5 := Lib.hid (h5.less (K2 := []) (fun x hx => by simp at hx))
            have HB5 := Lib.hid (HB4.out.trans (hb.mono hbs))
            clear h5 hb
            go_wp2_with fail
            refine (one_join H5.out (x : Int) Y).mono ?_
            rintro e w6 ⟨rfl, h6, hb⟩
            have H6 := Lib.hid h6
            have HB6 := Lib.hid (HB5.out.trans (hb.mono hbs))
            have HV6 := Lib.hid (show (joinS s (x : Int) Y).v = VV n from by rw [joinS_len]; exact HSV.out)
            clear h6 hb hgd
            by_cases he : joinE s (x : Int) Y = 0
            · have he' : (joinE s (x : Int) Y == 0) = true := by simpa using he
              have HRL := Lib.hid (show (rowZ (joinS s (x : Int) Y) (x : Int)).length = lx + ly by rw [HJT.out he, List.length_append, HLX.out, HLY.out])
              have hnn : (((lx : Int) + (ly : Int)) != ((lx : Int) + (ly : Int))) = false := by simp
              clear he
              go_wp2_with fail
              refine (one_row H6.out (x : Int)).mono ?_
              rintro e w7 ⟨o7, c7, rfl, h7, hb⟩
              rw [HRL.out]
              have H7 := Lib.hid (h7.less (K2 := []) (fun x hx => by simp at hx))
              have HB7 := Lib.hid (HB6.out.trans (hb.mono hbs))
              clear h7 hb
              go_wp2
              go_roundg (M - (j + 1))
              case measure => omega
              case rel => exact ⟨j + 1, _, by go_num, by omega, HV6, H7, HB7⟩
            · have he' : (joinE s (x : Int) Y == 0) = false := by simpa using he
              clear he
              go_wp2
              go_roundg (M - (j + 1))
              case measure => omega
              case rel => exact ⟨j + 1, _, by go_num, by omega, HV6, H6, HB6⟩
          have u1 : (pk == 1) = false := by simpa using g1
          by_cases g2 : pk = 2
          · have u2 : (pk == 2) = true := by simpa using g2
            clear g0 g1 g2 HJT
            have RXs := Lib.hid (fun (w' : World) KK h => one_row (w := w') (B := b) (p := p) (s := s) (K := KK) h (x : Int))
            rw [r1, r2] at RXs
            have PLX := Lib.hid (fun (w' : World) KK h => one_place (w := w') (B := b) (p := p) (s := s) (K := KK) h (x : Int))
            rw [r7] at PLX
            have SP := Lib.hid (fun (w' : World) KK h => one_split (w := w') (B := b) (p := p) (s := s) (K := KK) h (x : Int))
            have hsv2 : (splitS s (x : Int)).v = s.v := rfl
            have HSV2 := Lib.hid (hsv2.trans HSV.out)
            have RD := Lib.hid (fun (w' : World) KK h => one_row (w := w') (B := b) (p := p) (s := splitS s (x : Int)) (K := KK) h (x : Int))
            rw [r14, show (LR.drop k).length = m - k by rw [List.length_drop, r2]] at RD
            have HRH := Lib.hid (show 0 < k → ∀ (w' : World) KK (h : One w' b p (splitS s (x : Int)) KK), Calls Try.prog 16 #[.pointer (some ⟨p, 0, none⟩), .int .i64 ((LR.getD 0 0 : Nat) : Int)] w' fun e w2 => ∃ o c, e = .returned (.slice o k c) ∧ One w2 b p (splitS s (x : Int)) ((.slice o k c, LR.take k) :: KK) ∧ Below b w' w2 from fun h0 w' KK h => by
              have h1 := one_row h ((LR.getD 0 0 : Nat) : Int)
              rw [r15 h0, show (LR.take k).length = k by rw [List.length_take, r2]; omega] at h1
              exact h1)
            have HTK := Lib.hid (show (Ne.encW (LR.take k)).length = k by rw [Ne.encW_len, List.length_take, r2]; omega)
            have HDK := Lib.hid (show (Ne.encW (LR.drop k)).length = m - k by rw [Ne.encW_len, List.length_drop, r2])
            have HML := Lib.hid (show m = LR.length from r2.symm)
            have hm0 : 0 < m := by omega
            have HWC0 := Lib.hid (fun (gw cw : Nat) (wz : World) (h : Ne.OwnI wz b (.slice (some ⟨gw, 0, none⟩) m cw) (Ne.encW LR)) => tell_at h (i := 0) (by omega))
            generalize LR.getD 0 0 = hd at *
            generalize splitS s (x : Int) = s2 at *
            clear r1 r2 r7 r14 r15 hsv2 hgd
            go_wp2_with fail
            refine (PLX.out _ _ HW.out).mono ?_
            rintro e w4 ⟨rfl, h4, hb⟩
            have H4 := Lib.hid h4
            have HB4 := Lib.hid (HBX.out.trans (hb.mono hbs))
            clear h4 hb
            go_wp2_with fail
            refine (RXs.out _ _ H4.out).mono ?_
            rintro e w5 ⟨o5, c5, rfl, h5, hb⟩
            obtain ⟨gw, cw, e5, hcw, _⟩ := own_tells (h5.row List.mem_cons_self) (by rw [← HML.out]; exact hm0)
            simp only [Value.slice.injEq] at e5
            obtain ⟨e5a, -, e5c⟩ := e5
            subst e5a
            subst e5c
            rw [← HML.out] at hcw
            have H5 := Lib.hid h5
            have HB5 := Lib.hid (HB4.out.trans (hb.mono hbs))
            clear h5 hb
            go_wp2_with fail
            refine (SP.out _ _ H5.out).mono ?_
            rintro e w7 ⟨rfl, h7, hb⟩
            have H7 := Lib.hid h7
            have HB7 := Lib.hid (HB5.out.trans (hb.mono hbs))
            have HWC := Lib.hid (HWC0.out gw c5)
            clear h7 hb H4 H5 HB4 HB5 RXs PLX SP HWC0 HW HBX
            have kk1 : (k : Int) ≤ (c5 : Int) := by omega
            have kk2 : (k : Int) ≤ (m : Int) := by omega
            have kk0 : (0 : Int) ≤ (k : Int) := by omega
            have kk3 : ¬ c5 = k := by omega
            have km0 : (0 : Int) < (m : Int) := by omega
            by_cases k0 : 0 < k
            · have k0i : (0 : Int) < (k : Int) := by omega
              have RH := Lib.hid (HRH.out k0)
              have d1 : decide ((0 : Int) < (k : Int)) = true := by simpa using k0i
              have d2 : decide (0 < k) = true := by simpa using k0
              clear HRH k0 k0i
              go_wp2
              have hS0 := (show (fun w' : World => w'.cell? ⟨gw, 0, none⟩ = some (.int .i64 (hd : Int))) w7.drew from HWC.out _ ((H7.out.kept (Ne.below_drew (Below.refl _ _))).row List.mem_cons_self))
              refine Rh.start (S := (fun w' : World => w'.cell? ⟨gw, 0, none⟩ = some (.int .i64 (hd : Int)))) (by kernel_rfl) ?_
              refine Rh.take (some 122) (i := 0) (v := ?_) rfl (by kernel_rfl) (by kernel_rfl) (by kernel_rfl) (by kernel_rfl) (fun _ _ _ h => h) (Or.inl ⟨by rfl, ?_⟩) hS0 ?_
              rotate_left
              · intro w hSw
                go_simp
                try with_reducible rfl
              try simp only [Act.put, List.setIfInBounds_toArray, List.set_cons_zero, List.set_cons_succ]
              refine Rh.take (some 123) (i := 1) (v := ?_) rfl (by kernel_rfl) (by kernel_rfl) (by kernel_rfl) (by kernel_rfl) (fun _ _ _ h => h) (Or.inl ⟨by rfl, ?_⟩) hS0 ?_
              rotate_left
              · intro w hSw
                go_simp
                try with_reducible rfl
              try simp only [Act.put, List.setIfInBounds_toArray, List.set_cons_zero, List.set_cons_succ]
              refine Rh.take (some 124) (i := 2) (v := ?_) rfl (by kernel_rfl) (by kernel_rfl) (by kernel_rfl) (by kernel_rfl) (fun _ _ _ h => h) (Or.inl ⟨by rfl, ?_⟩) hS0 ?_
              rotate_left
              · intro w hSw
                go_simp
                try with_reducible rfl
              try simp only [Act.put, List.setIfInBounds_toArray, List.set_cons_zero, List.set_cons_succ]
              refine Rh.take (some 125) (i := 3) (v := ?_) rfl (by kernel_rfl) (by kernel_rfl) (by kernel_rfl) (by kernel_rfl) (fun _ _ _ h => h) (Or.inl ⟨by rfl, ?_⟩) hS0 ?_
              rotate_left
              · intro w hSw
                go_simp
                try with_reducible rfl
              try simp only [Act.put, List.setIfInBounds_toArray, List.set_cons_zero, List.set_cons_succ]
              refine Rh.take (some 126) (i := 4) (v := ?_) rfl (by kernel_rfl) (by kernel_rfl) (by kernel_rfl) (by kernel_rfl) (fun _ _ _ h => h) (Or.inl ⟨by rfl, ?_⟩) hS0 ?_
              rotate_left
              · intro w hSw
                go_simp
                try with_reducible rfl
              try simp only [Act.put, List.setIfInBounds_toArray, List.set_cons_zero, List.set_cons_succ]
              refine Rh.take (some 127) (i := 5) (v := ?_) rfl (by kernel_rfl) (by kernel_rfl) (by kernel_rfl) (by kernel_rfl) (fun _ _ _ h => h) (Or.inl ⟨by rfl, ?_⟩) hS0 ?_
              rotate_left
              · intro w hSw
                go_simp
                try with_reducible rfl
              try simp only [Act.put, List.setIfInBounds_toArray, List.set_cons_zero, List.set_cons_succ]
              refine Rh.take (some 128) (i := 6) (v := ?_) rfl (by kernel_rfl) (by kernel_rfl) (by kernel_rfl) (by kernel_rfl) (fun _ _ _ h => h) (Or.inl ⟨by rfl, ?_⟩) hS0 ?_
              rotate_left
              · intro w hSw
                go_simp
                try with_reducible rfl
              try simp only [Act.put, List.setIfInBounds_toArray, List.set_cons_zero, List.set_cons_succ]
              refine Rh.take (some 130) (i := 8) (v := ?_) rfl (by kernel_rfl) (by kernel_rfl) (by kernel_rfl) (by kernel_rfl) (fun _ _ _ h => h) (Or.inl ⟨by rfl, ?_⟩) hS0 ?_
              rotate_left
              · intro w hSw
                go_simp
                try with_reducible rfl
              try simp only [Act.put, List.setIfInBounds_toArray, List.set_cons_zero, List.set_cons_succ]
              refine Rh.take (some 131) (i := 9) (v := ?_) rfl (by kernel_rfl) (by kernel_rfl) (by kernel_rfl) (by kernel_rfl) (fun _ _ _ h => h) (Or.inl ⟨by rfl, ?_⟩) hS0 ?_
              rotate_left
              · intro w hSw
                go_simp
                try with_reducible rfl
              try simp only [Act.put, List.setIfInBounds_toArray, List.set_cons_zero, List.set_cons_succ]
              refine Rh.take (some 132) (i := 10) (v := ?_) rfl (by kernel_rfl) (by kernel_rfl) (by kernel_rfl) (by kernel_rfl) (fun _ _ _ h => h) (Or.inl ⟨by rfl, ?_⟩) hS0 ?_
              rotate_left
              · intro w hSw
                go_simp
                try with_reducible rfl
              try simp only [Act.put, List.setIfInBounds_toArray, List.set_cons_zero, List.set_cons_succ]
              refine Rh.step (i := 7) (by kernel_rfl) rfl fun K' hK' => ?_
              have HK := Lib.hid hK'
              clear hK'
              go_simp
              refine (RH.out _ _ (H7.out.kept (Ne.below_drew (Below.refl _ _)))).mono ?_
              rintro e w8 ⟨o8, c8, rfl, h8, hb⟩
              have H8 := Lib.hid h8
              have HB8 := Lib.hid ((Ne.below_drew HB7.out).trans (hb.mono hbs))
              have HI8 := Lib.hid (Ne.own_irow (h8.row List.mem_cons_self))
              have HI8b := Lib.hid (Ne.own_irow (h8.row (List.mem_cons_of_mem _ List.mem_cons_self)))
              have hS1 := (show (fun w' : World => w'.cell? ⟨gw, 0, none⟩ = some (.int .i64 (hd : Int))) w8 from HWC.out w8 (h8.row (List.mem_cons_of_mem _ List.mem_cons_self)))
              clear h8 hb
              refine HK.out _ _ ⟨hS1, ?_⟩
              clear HK K'
              try simp only [Act.put, List.setIfInBounds_toArray, List.set_cons_zero, List.set_cons_succ]
              refine Rh.step (i := 11) (by kernel_rfl) rfl fun K' hK' => ?_
              have HK := Lib.hid hK'
              clear hK'
              go_simp
              have SM := Ne.same_any o8 (some ⟨gw, 0, none⟩) c8 c5 (Ne.encW (LR.take k)) (Ne.encW (LR.take k)) w8 HI8.out (by rw [encW_take]; exact irow_take HI8b.out k) (by rw [HTK.out]; omega) (by rw [HTK.out]; omega)
              rw [HTK.out, decide_eq_true rfl] at SM
              refine SM.mono ?_
              rintro e w9 ⟨rfl, hb⟩
              have H9 := Lib.hid (H8.out.kept hb)
              have HB9 := Lib.hid (HB8.out.trans (hb.mono H8.out.size))
              have hS2 := (show (fun w' : World => w'.cell? ⟨gw, 0, none⟩ = some (.int .i64 (hd : Int))) w9 from HWC.out w9 (H9.out.row (List.mem_cons_of_mem _ List.mem_cons_self)))
              clear hb SM
              refine HK.out _ _ ⟨hS2, ?_⟩
              clear HK K'
              try simp only [Act.put, List.setIfInBounds_toArray, List.set_cons_zero, List.set_cons_succ]
              refine Rh.take (some 134) (i := 12) (v := ?_) rfl (by kernel_rfl) (by kernel_rfl) (by kernel_rfl) (by kernel_rfl) (fun _ _ _ h => h) (Or.inl ⟨by rfl, ?_⟩) hS2 ?_
              rotate_left
              · intro w hSw
                go_simp
                try with_reducible rfl
              try simp only [Act.put, List.setIfInBounds_toArray, List.set_cons_zero, List.set_cons_succ]
              refine Rh.take (some 135) (i := 13) (v := ?_) rfl (by kernel_rfl) (by kernel_rfl) (by kernel_rfl) (by kernel_rfl) (fun _ _ _ h => h) (Or.inl ⟨by rfl, ?_⟩) hS2 ?_
              rotate_left
              · intro w hSw
                go_simp
                try with_reducible rfl
              try simp only [Act.put, List.setIfInBounds_toArray, List.set_cons_zero, List.set_cons_succ]
              refine Rh.take (some 136) (i := 14) (v := ?_) rfl (by kernel_rfl) (by kernel_rfl) (by kernel_rfl) (by kernel_rfl) (fun _ _ _ h => h) (Or.inl ⟨by rfl, ?_⟩) hS2 ?_
              rotate_left
              · intro w hSw
                go_simp
                try with_reducible rfl
              try simp only [Act.put, List.setIfInBounds_toArray, List.set_cons_zero, List.set_cons_succ]
              refine Rh.take (some 137) (i := 15) (v := ?_) rfl (by kernel_rfl) (by kernel_rfl) (by kernel_rfl) (by kernel_rfl) (fun _ _ _ h => h) (Or.inl ⟨by rfl, ?_⟩) hS2 ?_
              rotate_left
              · intro w hSw
                go_simp
                try with_reducible rfl
              try simp only [Act.put, List.setIfInBounds_toArray, List.set_cons_zero, List.set_cons_succ]
              refine Rh.take (some 138) (i := 16) (v := ?_) rfl (by kernel_rfl) (by kernel_rfl) (by kernel_rfl) (by kernel_rfl) (fun _ _ _ h => h) (Or.inl ⟨by rfl, ?_⟩) hS2 ?_
              rotate_left
              · intro w hSw
                go_simp
                try with_reducible rfl
              try simp only [Act.put, List.setIfInBounds_toArray, List.set_cons_zero, List.set_cons_succ]
              refine Rh.take (some 140) (i := 18) (v := ?_) rfl (by kernel_rfl) (by kernel_rfl) (by kernel_rfl) (by kernel_rfl) (fun _ _ _ h => h) (Or.inl ⟨by rfl, ?_⟩) hS2 ?_
              rotate_left
              · intro w hSw
                go_simp
                try with_reducible rfl
              try simp only [Act.put, List.setIfInBounds_toArray, List.set_cons_zero, List.set_cons_succ]
              refine Rh.take (some 141) (i := 19) (v := ?_) rfl (by kernel_rfl) (by kernel_rfl) (by kernel_rfl) (by kernel_rfl) (fun _ _ _ h => h) (Or.inl ⟨by rfl, ?_⟩) hS2 ?_
              rotate_left
              · intro w hSw
                go_simp
                try with_reducible rfl
              try simp only [Act.put, List.setIfInBounds_toArray, List.set_cons_zero, List.set_cons_succ]
              refine Rh.take (some 142) (i := 20) (v := ?_) rfl (by kernel_rfl) (by kernel_rfl) (by kernel_rfl) (by kernel_rfl) (fun _ _ _ h => h) (Or.inl ⟨by rfl, ?_⟩) hS2 ?_
              rotate_left
              · intro w hSw
                go_simp
                try with_reducible rfl
              try simp only [Act.put, List.setIfInBounds_toArray, List.set_cons_zero, List.set_cons_succ]
              refine Rh.step (i := 17) (by kernel_rfl) rfl fun K' hK' => ?_
              have HK := Lib.hid hK'
              clear hK'
              go_simp
              refine (RD.out _ _ H9.out).mono ?_
              rintro e w10 ⟨o10, c10, rfl, h10, hb⟩
              have H10 := Lib.hid h10
              have HB10 := Lib.hid (HB9.out.trans (hb.mono hbs))
              have HI10 := Lib.hid (Ne.own_irow (h10.row List.mem_cons_self))
              have HI10b := Lib.hid (Ne.own_irow (h10.row (List.mem_cons_of_mem _ (List.mem_cons_of_mem _ List.mem_cons_self))))
              have hS3 := (show (fun w' : World => w'.cell? ⟨gw, 0, none⟩ = some (.int .i64 (hd : Int))) w10 from HWC.out w10 (h10.row (List.mem_cons_of_mem _ (List.mem_cons_of_mem _ List.mem_cons_self))))
              clear h10 hb
              refine HK.out _ _ ⟨hS3, ?_⟩
              clear HK K'
              try simp only [Act.put, List.setIfInBounds_toArray, List.set_cons_zero, List.set_cons_succ]
              refine Rh.step (i := 21) (by kernel_rfl) rfl fun K' hK' => ?_
              have HK := Lib.hid hK'
              clear hK'
              go_simp
              have SM := Ne.same_any o10 (some ⟨gw, k, none⟩) c10 (c5 - k) (Ne.encW (LR.drop k)) (Ne.encW (LR.drop k)) w10 HI10.out (by rw [encW_drop]; exact irow_drop HI10b.out k) (by rw [HDK.out]; omega) (by rw [HDK.out]; omega)
              rw [HDK.out, decide_eq_true rfl] at SM
              refine SM.mono ?_
              rintro e w11 ⟨rfl, hb⟩
              have H11 := Lib.hid (H10.out.kept hb)
              have HB11 := Lib.hid (HB10.out.trans (hb.mono H10.out.size))
              have hS4 := (show (fun w' : World => w'.cell? ⟨gw, 0, none⟩ = some (.int .i64 (hd : Int))) w11 from HWC.out w11 (H11.out.row (List.mem_cons_of_mem _ (List.mem_cons_of_mem _ List.mem_cons_self))))
              clear hb SM
              refine HK.out _ _ ⟨hS4, ?_⟩
              clear HK K'
              try simp only [Act.put, List.setIfInBounds_toArray, List.set_cons_zero, List.set_cons_succ]
              refine Rh.take (some 144) (i := 22) (v := ?_) rfl (by kernel_rfl) (by kernel_rfl) (by kernel_rfl) (by kernel_rfl) (fun _ _ _ h => h) (Or.inl ⟨by rfl, ?_⟩) hS4 ?_
              rotate_left
              · intro w hSw
                go_simp
                try with_reducible rfl
              try simp only [Act.put, List.setIfInBounds_toArray, List.set_cons_zero, List.set_cons_succ]
              refine Rh.take (some 145) (i := 23) (v := ?_) rfl (by kernel_rfl) (by kernel_rfl) (by kernel_rfl) (by kernel_rfl) (fun _ _ _ h => h) (Or.inl ⟨by rfl, ?_⟩) hS4 ?_
              rotate_left
              · intro w hSw
                go_simp
                try with_reducible rfl
              try simp only [Act.put, List.setIfInBounds_toArray, List.set_cons_zero, List.set_cons_succ]
              refine Rh.done (by kernel_rfl) ?_ _
              have HE := Lib.hid (H11.out.less (K2 := []) (fun x hx => by simp at hx))
              have HBE := Lib.hid HB11.out
              go_wp2
              go_roundg (M - (j + 1))
              case measure => omega
              case rel => exact ⟨j + 1, s2, by go_num, by omega, HSV2, HE, HBE⟩
            · have d1 : decide ((0 : Int) < (k : Int)) = false := decide_eq_false (by omega)
              have d2 : decide (0 < k) = false := decide_eq_false k0
              clear HRH k0
              go_wp2
              have hS0 := (show (fun w' : World => w'.cell? ⟨gw, 0, none⟩ = some (.int .i64 (hd : Int))) w7.drew from HWC.out _ ((H7.out.kept (Ne.below_drew (Below.refl _ _))).row List.mem_cons_self))
              refine Rh.start (S := (fun w' : World => w'.cell? ⟨gw, 0, none⟩ = some (.int .i64 (hd : Int)))) (by kernel_rfl) ?_
              refine Rh.take (some 122) (i := 0) (v := ?_) rfl (by kernel_rfl) (by kernel_rfl) (by kernel_rfl) (by kernel_rfl) (fun _ _ _ h => h) (Or.inl ⟨by rfl, ?_⟩) hS0 ?_
              rotate_left
              · intro w hSw
                go_simp
                try with_reducible rfl
              try simp only [Act.put, List.setIfInBounds_toArray, List.set_cons_zero, List.set_cons_succ]
              refine Rh.take (some 123) (i := 1) (v := ?_) rfl (by kernel_rfl) (by kernel_rfl) (by kernel_rfl) (by kernel_rfl) (fun _ _ _ h => h) (Or.inl ⟨by rfl, ?_⟩) hS0 ?_
              rotate_left
              · intro w hSw
                go_simp
                try with_reducible rfl
              try simp only [Act.put, List.setIfInBounds_toArray, List.set_cons_zero, List.set_cons_succ]
              refine Rh.take (some 124) (i := 2) (v := ?_) rfl (by kernel_rfl) (by kernel_rfl) (by kernel_rfl) (by kernel_rfl) (fun _ _ _ h => h) (Or.inl ⟨by rfl, ?_⟩) hS0 ?_
              rotate_left
              · intro w hSw
                go_simp
                try with_reducible rfl
              try simp only [Act.put, List.setIfInBounds_toArray, List.set_cons_zero, List.set_cons_succ]
              refine Rh.take (some 125) (i := 3) (v := undef) rfl (by kernel_rfl) (by kernel_rfl) (by kernel_rfl) (by kernel_rfl) (fun _ _ _ h => h) (Or.inr ⟨by rfl, rfl⟩) hS0 ?_
              try simp only [Act.put, List.setIfInBounds_toArray, List.set_cons_zero, List.set_cons_succ]
              refine Rh.take (some 126) (i := 4) (v := undef) rfl (by kernel_rfl) (by kernel_rfl) (by kernel_rfl) (by kernel_rfl) (fun _ _ _ h => h) (Or.inr ⟨by rfl, rfl⟩) hS0 ?_
              try simp only [Act.put, List.setIfInBounds_toArray, List.set_cons_zero, List.set_cons_succ]
              refine Rh.take (some 127) (i := 5) (v := undef) rfl (by kernel_rfl) (by kernel_rfl) (by kernel_rfl) (by kernel_rfl) (fun _ _ _ h => h) (Or.inr ⟨by rfl, rfl⟩) hS0 ?_
              try simp only [Act.put, List.setIfInBounds_toArray, List.set_cons_zero, List.set_cons_succ]
              refine Rh.take (some 128) (i := 6) (v := undef) rfl (by kernel_rfl) (by kernel_rfl) (by kernel_rfl) (by kernel_rfl) (fun _ _ _ h => h) (Or.inr ⟨by rfl, rfl⟩) hS0 ?_
              try simp only [Act.put, List.setIfInBounds_toArray, List.set_cons_zero, List.set_cons_succ]
              refine Rh.take (some 129) (i := 7) (v := undef) rfl (by kernel_rfl) (by kernel_rfl) (by kernel_rfl) (by kernel_rfl) (fun _ _ _ h => h) (Or.inr ⟨by rfl, rfl⟩) hS0 ?_
              try simp only [Act.put, List.setIfInBounds_toArray, List.set_cons_zero, List.set_cons_succ]
              refine Rh.take (some 130) (i := 8) (v := undef) rfl (by kernel_rfl) (by kernel_rfl) (by kernel_rfl) (by kernel_rfl) (fun _ _ _ h => h) (Or.inr ⟨by rfl, rfl⟩) hS0 ?_
              try simp only [Act.put, List.setIfInBounds_toArray, List.set_cons_zero, List.set_cons_succ]
              refine Rh.take (some 131) (i := 9) (v := undef) rfl (by kernel_rfl) (by kernel_rfl) (by kernel_rfl) (by kernel_rfl) (fun _ _ _ h => h) (Or.inr ⟨by rfl, rfl⟩) hS0 ?_
              try simp only [Act.put, List.setIfInBounds_toArray, List.set_cons_zero, List.set_cons_succ]
              refine Rh.take (some 132) (i := 10) (v := undef) rfl (by kernel_rfl) (by kernel_rfl) (by kernel_rfl) (by kernel_rfl) (fun _ _ _ h => h) (Or.inr ⟨by rfl, rfl⟩) hS0 ?_
              try simp only [Act.put, List.setIfInBounds_toArray, List.set_cons_zero, List.set_cons_succ]
              refine Rh.take (some 133) (i := 11) (v := undef) rfl (by kernel_rfl) (by kernel_rfl) (by kernel_rfl) (by kernel_rfl) (fun _ _ _ h => h) (Or.inr ⟨by rfl, rfl⟩) hS0 ?_
              try simp only [Act.put, List.setIfInBounds_toArray, List.set_cons_zero, List.set_cons_succ]
              refine Rh.take (some 134) (i := 12) (v := undef) rfl (by kernel_rfl) (by kernel_rfl) (by kernel_rfl) (by kernel_rfl) (fun _ _ _ h => h) (Or.inr ⟨by rfl, rfl⟩) hS0 ?_
              try simp only [Act.put, List.setIfInBounds_toArray, List.set_cons_zero, List.set_cons_succ]
              refine Rh.take (some 135) (i := 13) (v := ?_) rfl (by kernel_rfl) (by kernel_rfl) (by kernel_rfl) (by kernel_rfl) (fun _ _ _ h => h) (Or.inl ⟨by rfl, ?_⟩) hS0 ?_
              rotate_left
              · intro w hSw
                go_simp
                try with_reducible rfl
              try simp only [Act.put, List.setIfInBounds_toArray, List.set_cons_zero, List.set_cons_succ]
              refine Rh.take (some 136) (i := 14) (v := ?_) rfl (by kernel_rfl) (by kernel_rfl) (by kernel_rfl) (by kernel_rfl) (fun _ _ _ h => h) (Or.inl ⟨by rfl, ?_⟩) hS0 ?_
              rotate_left
              · intro w hSw
                go_simp
                try with_reducible rfl
              try simp only [Act.put, List.setIfInBounds_toArray, List.set_cons_zero, List.set_cons_succ]
              refine Rh.take (some 137) (i := 15) (v := ?_) rfl (by kernel_rfl) (by kernel_rfl) (by kernel_rfl) (by kernel_rfl) (fun _ _ _ h => h) (Or.inl ⟨by rfl, ?_⟩) hS0 ?_
              rotate_left
              · intro w hSw
                go_simp
                try with_reducible rfl
              try simp only [Act.put, List.setIfInBounds_toArray, List.set_cons_zero, List.set_cons_succ]
              refine Rh.take (some 138) (i := 16) (v := ?_) rfl (by kernel_rfl) (by kernel_rfl) (by kernel_rfl) (by kernel_rfl) (fun _ _ _ h => h) (Or.inl ⟨by rfl, ?_⟩) hS0 ?_
              rotate_left
              · intro w hSw
                go_simp
                try with_reducible rfl
              try simp only [Act.put, List.setIfInBounds_toArray, List.set_cons_zero, List.set_cons_succ]
              refine Rh.take (some 140) (i := 18) (v := ?_) rfl (by kernel_rfl) (by kernel_rfl) (by kernel_rfl) (by kernel_rfl) (fun _ _ _ h => h) (Or.inl ⟨by rfl, ?_⟩) hS0 ?_
              rotate_left
              · intro w hSw
                go_simp
                try with_reducible rfl
              try simp only [Act.put, List.setIfInBounds_toArray, List.set_cons_zero, List.set_cons_succ]
              refine Rh.take (some 141) (i := 19) (v := ?_) rfl (by kernel_rfl) (by kernel_rfl) (by kernel_rfl) (by kernel_rfl) (fun _ _ _ h => h) (Or.inl ⟨by rfl, ?_⟩) hS0 ?_
              rotate_left
              · intro w hSw
                go_simp
                try with_reducible rfl
              try simp only [Act.put, List.setIfInBounds_toArray, List.set_cons_zero, List.set_cons_succ]
              refine Rh.take (some 142) (i := 20) (v := ?_) rfl (by kernel_rfl) (by kernel_rfl) (by kernel_rfl) (by kernel_rfl) (fun _ _ _ h => h) (Or.inl ⟨by rfl, ?_⟩) hS0 ?_
              rotate_left
              · intro w hSw
                go_simp
                try with_reducible rfl
              try simp only [Act.put, List.setIfInBounds_toArray, List.set_cons_zero, List.set_cons_succ]
              refine Rh.step (i := 17) (by kernel_rfl) rfl fun K' hK' => ?_
              have HK := Lib.hid hK'
              clear hK'
              go_simp
              refine (RD.out _ _ (H7.out.kept (Ne.below_drew (Below.refl _ _)))).mono ?_
              rintro e w10 ⟨o10, c10, rfl, h10, hb⟩
              have H10 := Lib.hid h10
              have HB10 := Lib.hid ((Ne.below_drew HB7.out).trans (hb.mono hbs))
              have HI10 := Lib.hid (Ne.own_irow (h10.row List.mem_cons_self))
              have HI10b := Lib.hid (Ne.own_irow (h10.row (List.mem_cons_of_mem _ List.mem_cons_self)))
              have hS3 := (show (fun w' : World => w'.cell? ⟨gw, 0, none⟩ = some (.int .i64 (hd : Int))) w10 from HWC.out w10 (h10.row (List.mem_cons_of_mem _ List.mem_cons_self)))
              clear h10 hb
              refine HK.out _ _ ⟨hS3, ?_⟩
              clear HK K'
              try simp only [Act.put, List.setIfInBounds_toArray, List.set_cons_zero, List.set_cons_succ]
              refine Rh.step (i := 21) (by kernel_rfl) rfl fun K' hK' => ?_
              have HK := Lib.hid hK'
              clear hK'
              go_simp
              have SM := Ne.same_any o10 (some ⟨gw, k, none⟩) c10 (c5 - k) (Ne.encW (LR.drop k)) (Ne.encW (LR.drop k)) w10 HI10.out (by rw [encW_drop]; exact irow_drop HI10b.out k) (by rw [HDK.out]; omega) (by rw [HDK.out]; omega)
              rw [HDK.out, decide_eq_true rfl] at SM
              refine SM.mono ?_
              rintro e w11 ⟨rfl, hb⟩
              have H11 := Lib.hid (H10.out.kept hb)
              have HB11 := Lib.hid (HB10.out.trans (hb.mono H10.out.size))
              have hS4 := (show (fun w' : World => w'.cell? ⟨gw, 0, none⟩ = some (.int .i64 (hd : Int))) w11 from HWC.out w11 (H11.out.row (List.mem_cons_of_mem _ List.mem_cons_self)))
              clear hb SM
              refine HK.out _ _ ⟨hS4, ?_⟩
              clear HK K'
              try simp only [Act.put, List.setIfInBounds_toArray, List.set_cons_zero, List.set_cons_succ]
              refine Rh.take (some 144) (i := 22) (v := ?_) rfl (by kernel_rfl) (by kernel_rfl) (by kernel_rfl) (by kernel_rfl) (fun _ _ _ h => h) (Or.inl ⟨by rfl, ?_⟩) hS4 ?_
              rotate_left
              · intro w hSw
                go_simp
                try with_reducible rfl
              try simp only [Act.put, List.setIfInBounds_toArray, List.set_cons_zero, List.set_cons_succ]
              refine Rh.take (some 145) (i := 23) (v := ?_) rfl (by kernel_rfl) (by kernel_rfl) (by kernel_rfl) (by kernel_rfl) (fun _ _ _ h => h) (Or.inl ⟨by rfl, ?_⟩) hS4 ?_
              rotate_left
              · intro w hSw
                go_simp
                try with_reducible rfl
              try simp only [Act.put, List.setIfInBounds_toArray, List.set_cons_zero, List.set_cons_succ]
              refine Rh.done (by kernel_rfl) ?_ _
              have HE := Lib.hid (H11.out.less (K2 := []) (fun x hx => by simp at hx))
              have HBE := Lib.hid HB11.out
              go_wp2
              go_roundg (M - (j + 1))
              case measure => omega
              case rel => exact ⟨j + 1, s2, by go_num, by omega, HSV2, HE, HBE⟩
          have u2 : (pk == 2) = false := by simpa using g2
          clear g0 g1 g2 HJT r1 r2 r3 r4 r7 r14 r15 hgd
          go_wp2_with fail
          refine (one_turn HW.out (x : Int)).mono ?_
          rintro e w4 ⟨rfl, h4, hb⟩
          have H4 := Lib.hid h4
          have HB4 := Lib.hid (HBX.out.trans (hb.mono hbs))
          have HV4 := Lib.hid (show (turnS s (x : Int)).v = VV n from HSV.out)
          clear h4 hb
          go_wp2
          go_roundg (M - (j + 1))
          case measure => omega
          case rel => exact ⟨j + 1, _, by go_num, by omega, HV4, H4, HB4⟩
        · have ej : j = M := by omega
          subst j
          have HBA2 := Lib.hid HBA.out
          clear hjg TR KA HLL hj HBA
          go_wp2
          go_loopg [18] n (fun gg sx wz => ∃ x : Nat, sx = .int .i64 x ∧ x + gg = n ∧ Hid (One wz b p s []) ∧ Hid (Below b wv wz))
          case atStart => exact ⟨0, rfl, by omega, HW, HBX⟩
          case round =>
            obtain ⟨x, rfl, hxg, HW, HBX⟩ := hrel
            by_cases hx : x < n
            · have hxi : (x : Int) < (n : Int) := by omega
              have hx0 : (0 : Int) ≤ (x : Int) := by omega
              have hgd := HW.out.good
              have hsl : s.v.length = n := by rw [HSV.out, HVLN.out]
              obtain ⟨LR, k, m, r1, r2, r3, r4, r5, r6, r7, r8, r9, r10, r11, r12, r13, r14, r15, r16⟩ := row_tells hgd (x := x) (by rw [hsl]; exact hx)
              have RXs := Lib.hid (fun (w' : World) KK h => one_row (w := w') (B := b) (p := p) (s := s) (K := KK) h (x : Int))
              rw [r1, r2] at RXs
              have PLX := Lib.hid (fun (w' : World) KK h => one_place (w := w') (B := b) (p := p) (s := s) (K := KK) h (x : Int))
              rw [r7] at PLX
              have HML := Lib.hid (show m = LR.length from r2.symm)
              have hm0 : 0 < m := by omega
              obtain ⟨ml, hml⟩ : ∃ ml : Nat, (m : Int) - 1 = (ml : Int) := ⟨m - 1, by omega⟩
              have hml2 : m - 1 = ml := by omega
              rw [hml2] at r10
              rw [HSV.out] at r11
              have FAT := Lib.hid r8
              have FFI := Lib.hid r9
              have FLA := Lib.hid r10
              have FVA := Lib.hid r11
              have HFI := Lib.hid r12
              have hmlm : (ml : Int) < (m : Int) := by omega
              have hml0 : (0 : Int) ≤ (ml : Int) := by omega
              have hmlw : IntKind.i64.wrap (ml : Int) = (ml : Int) := by rw [IntKind.wrap_i64]; omega
              have HRC0 := Lib.hid (fun (gr cr : Nat) (wz : World) (h : Ne.OwnI wz b (.slice (some ⟨gr, 0, none⟩) m cr) (Ne.encW LR)) (hb : Below b wv wz) => show wz.cell? ⟨gr, 0, none⟩ = some (.int .i64 ((LR.getD 0 0 : Nat) : Int)) ∧ wz.cell? ⟨gr, k, none⟩ = some (.int .i64 (x : Int)) ∧ wz.cell? ⟨gr, ml, none⟩ = some (.int .i64 ((LR.getD ml 0 : Nat) : Int)) ∧ wz.cell? ⟨g0, x, none⟩ = some (.int .i64 (Ne.amt (VV n) x)) from by
                have h2 := tell_at h (i := k) (by omega)
                rw [r5] at h2
                exact ⟨tell_at h (i := 0) (by omega), h2, tell_at h (i := ml) (by omega), HVC.out wz x hb hx⟩)
              have HRI0 := Lib.hid (fun (gr cr : Nat) (i : Nat) (hi : i < m) (wz : World) (h : Ne.OwnI wz b (.slice (some ⟨gr, 0, none⟩) m cr) (Ne.encW LR)) => tell_at h (i := i) (by omega))
              generalize LR.getD 0 0 = f0 at *
              generalize LR.getD ml 0 = l0 at *
              generalize Ne.amt (VV n) x = vx at *
              clear r1 r2 r5 r6 r7 r8 r9 r10 r11 r12 r13 r14 r15 r16 hgd hsl hml2
              have z1 : ((x : Int) != (x : Int)) = false := by simp
              have z2 : ((f0 : Int) != (f0 : Int)) = false := by simp
              have z3 : ((l0 : Int) != (l0 : Int)) = false := by simp
              have z4 : (vx != vx) = false := by simp
              have kk0 : (0 : Int) ≤ (k : Int) := by omega
              have kkn : decide ((k : Int) < 0) = false := decide_eq_false (by omega)
              have kkm : (k : Int) < (m : Int) := by omega
              have kkl : decide ((m : Int) ≤ (k : Int)) = false := decide_eq_false (by omega)
              have kkl2 : decide (m ≤ k) = false := decide_eq_false (by omega)
              have km0 : (0 : Int) < (m : Int) := by omega
              go_wp2_with fail
              refine (RXs.out _ _ HW.out).mono ?_
              rintro e w19 ⟨o19, c19, rfl, h19, hb⟩
              obtain ⟨gr, cr, e5, hcw, _⟩ := own_tells (h19.row List.mem_cons_self) (by rw [← HML.out]; exact hm0)
              simp only [Value.slice.injEq] at e5
              obtain ⟨e5a, -, e5c⟩ := e5
              subst e5a
              subst e5c
              have H19 := Lib.hid h19
              have HB19 := Lib.hid (HBX.out.trans (hb.mono hbs))
              have HRC := Lib.hid (HRC0.out gr c19)
              have HRI1 := Lib.hid (HRI0.out gr c19)
              clear h19 hb HRC0 HRI0 hcw
              go_wp2_with fail
              refine (PLX.out _ _ H19.out).mono ?_
              rintro e w20 ⟨rfl, h20, hb⟩
              have H20 := Lib.hid h20
              have HB20 := Lib.hid (HB19.out.trans (hb.mono hbs))
              clear h20 hb H19 HB19 RXs PLX HW HBX
              go_wp2
              have hS0 := (show (fun w' : World => w'.cell? ⟨gr, 0, none⟩ = some (.int .i64 (f0 : Int)) ∧ w'.cell? ⟨gr, k, none⟩ = some (.int .i64 (x : Int)) ∧ w'.cell? ⟨gr, ml, none⟩ = some (.int .i64 (l0 : Int)) ∧ w'.cell? ⟨g0, x, none⟩ = some (.int .i64 vx)) w20.drew from HRC.out _ ((H20.out.kept (Ne.below_drew (Below.refl _ _))).row List.mem_cons_self) (Ne.below_drew HB20.out))
              refine Rh.start (S := (fun w' : World => w'.cell? ⟨gr, 0, none⟩ = some (.int .i64 (f0 : Int)) ∧ w'.cell? ⟨gr, k, none⟩ = some (.int .i64 (x : Int)) ∧ w'.cell? ⟨gr, ml, none⟩ = some (.int .i64 (l0 : Int)) ∧ w'.cell? ⟨g0, x, none⟩ = some (.int .i64 vx))) (by kernel_rfl) ?_
              refine Rh.take (some 157) (i := 0) (v := ?_) rfl (by kernel_rfl) (by kernel_rfl) (by kernel_rfl) (by kernel_rfl) (fun _ _ _ h => h) (Or.inl ⟨by rfl, ?_⟩) hS0 ?_
              rotate_left
              · intro w hSw
                go_simp
                try with_reducible rfl
              try simp only [Act.put, List.setIfInBounds_toArray, List.set_cons_zero, List.set_cons_succ]
              refine Rh.take (some 158) (i := 1) (v := ?_) rfl (by kernel_rfl) (by kernel_rfl) (by kernel_rfl) (by kernel_rfl) (fun _ _ _ h => h) (Or.inl ⟨by rfl, ?_⟩) hS0 ?_
              rotate_left
              · intro w hSw
                go_simp
                try with_reducible rfl
              try simp only [Act.put, List.setIfInBounds_toArray, List.set_cons_zero, List.set_cons_succ]
              refine Rh.take (some 159) (i := 2) (v := ?_) rfl (by kernel_rfl) (by kernel_rfl) (by kernel_rfl) (by kernel_rfl) (fun _ _ _ h => h) (Or.inl ⟨by rfl, ?_⟩) hS0 ?_
              rotate_left
              · intro w hSw
                go_simp
                try with_reducible rfl
              try simp only [Act.put, List.setIfInBounds_toArray, List.set_cons_zero, List.set_cons_succ]
              refine Rh.take (some 160) (i := 3) (v := ?_) rfl (by kernel_rfl) (by kernel_rfl) (by kernel_rfl) (by kernel_rfl) (fun _ _ _ h => h) (Or.inl ⟨by rfl, ?_⟩) hS0 ?_
              rotate_left
              · intro w hSw
                go_simp
                try with_reducible rfl
              try simp only [Act.put, List.setIfInBounds_toArray, List.set_cons_zero, List.set_cons_succ]
              refine Rh.take (some 161) (i := 4) (v := ?_) rfl (by kernel_rfl) (by kernel_rfl) (by kernel_rfl) (by kernel_rfl) (fun _ _ _ h => h) (Or.inl ⟨by rfl, ?_⟩) hS0 ?_
              rotate_left
              · intro w hSw
                go_simp
                try with_reducible rfl
              try simp only [Act.put, List.setIfInBounds_toArray, List.set_cons_zero, List.set_cons_succ]
              refine Rh.take (some 162) (i := 5) (v := ?_) rfl (by kernel_rfl) (by kernel_rfl) (by kernel_rfl) (by kernel_rfl) (fun _ _ _ h => h) (Or.inl ⟨by rfl, ?_⟩) hS0 ?_
              rotate_left
              · intro w hSw
                go_simp
                try with_reducible rfl
              try simp only [Act.put, List.setIfInBounds_toArray, List.set_cons_zero, List.set_cons_succ]
              refine Rh.take (some 163) (i := 6) (v := ?_) rfl (by kernel_rfl) (by kernel_rfl) (by kernel_rfl) (by kernel_rfl) (fun _ _ _ h => h) (Or.inl ⟨by rfl, ?_⟩) hS0 ?_
              rotate_left
              · intro w hSw
                go_simp
                try with_reducible rfl
              try simp only [Act.put, List.setIfInBounds_toArray, List.set_cons_zero, List.set_cons_succ]
              refine Rh.take (some 164) (i := 7) (v := ?_) rfl (by kernel_rfl) (by kernel_rfl) (by kernel_rfl) (by kernel_rfl) (fun _ _ _ h => h) (Or.inl ⟨by rfl, ?_⟩) hS0 ?_
              rotate_left
              · intro w hSw
                go_simp
                try with_reducible rfl
              try simp only [Act.put, List.setIfInBounds_toArray, List.set_cons_zero, List.set_cons_succ]
              refine Rh.take (some 165) (i := 8) (v := ?_) rfl (by kernel_rfl) (by kernel_rfl) (by kernel_rfl) (by kernel_rfl) (fun _ _ _ h => h) (Or.inl ⟨by rfl, ?_⟩) hS0 ?_
              rotate_left
              · intro w hSw
                go_simp
                try with_reducible rfl
              try simp only [Act.put, List.setIfInBounds_toArray, List.set_cons_zero, List.set_cons_succ]
              refine Rh.take (some 166) (i := 9) (v := ?_) rfl (by kernel_rfl) (by kernel_rfl) (by kernel_rfl) (by kernel_rfl) (fun _ _ _ h => h) (Or.inl ⟨by rfl, ?_⟩) hS0 ?_
              rotate_left
              · intro w hSw
                go_simp
                try with_reducible rfl
              try simp only [Act.put, List.setIfInBounds_toArray, List.set_cons_zero, List.set_cons_succ]
              refine Rh.take (some 167) (i := 10) (v := ?_) rfl (by kernel_rfl) (by kernel_rfl) (by kernel_rfl) (by kernel_rfl) (fun _ _ _ h => h) (Or.inl ⟨by rfl, ?_⟩) hS0 ?_
              rotate_left
              · intro w hSw
                go_simp
                try with_reducible rfl
              try simp only [Act.put, List.setIfInBounds_toArray, List.set_cons_zero, List.set_cons_succ]
              refine Rh.take (some 168) (i := 11) (v := ?_) rfl (by kernel_rfl) (by kernel_rfl) (by kernel_rfl) (by kernel_rfl) (fun _ _ _ h => h) (Or.inl ⟨by rfl, ?_⟩) hS0 ?_
              rotate_left
              · intro w hSw
                go_simp
                try with_reducible rfl
              try simp only [Act.put, List.setIfInBounds_toArray, List.set_cons_zero, List.set_cons_succ]
              refine Rh.take (some 169) (i := 12) (v := ?_) rfl (by kernel_rfl) (by kernel_rfl) (by kernel_rfl) (by kernel_rfl) (fun _ _ _ h => h) (Or.inl ⟨by rfl, ?_⟩) hS0 ?_
              rotate_left
              · intro w hSw
                go_simp
                try with_reducible rfl
              try simp only [Act.put, List.setIfInBounds_toArray, List.set_cons_zero, List.set_cons_succ]
              refine Rh.take (some 170) (i := 13) (v := ?_) rfl (by kernel_rfl) (by kernel_rfl) (by kernel_rfl) (by kernel_rfl) (fun _ _ _ h => h) (Or.inl ⟨by rfl, ?_⟩) hS0 ?_
              rotate_left
              · intro w hSw
                go_simp
                try with_reducible rfl
              try simp only [Act.put, List.setIfInBounds_toArray, List.set_cons_zero, List.set_cons_succ]
              refine Rh.take (some 171) (i := 14) (v := ?_) rfl (by kernel_rfl) (by kernel_rfl) (by kernel_rfl) (by kernel_rfl) (fun _ _ _ h => h) (Or.inl ⟨by rfl, ?_⟩) hS0 ?_
              rotate_left
              · intro w hSw
                go_simp
                try with_reducible rfl
              try simp only [Act.put, List.setIfInBounds_toArray, List.set_cons_zero, List.set_cons_succ]
              refine Rh.take (some 172) (i := 15) (v := ?_) rfl (by kernel_rfl) (by kernel_rfl) (by kernel_rfl) (by kernel_rfl) (fun _ _ _ h => h) (Or.inl ⟨by rfl, ?_⟩) hS0 ?_
              rotate_left
              · intro w hSw
                go_simp
                try with_reducible rfl
              try simp only [Act.put, List.setIfInBounds_toArray, List.set_cons_zero, List.set_cons_succ]
              refine Rh.take (some 173) (i := 16) (v := ?_) rfl (by kernel_rfl) (by kernel_rfl) (by kernel_rfl) (by kernel_rfl) (fun _ _ _ h => h) (Or.inl ⟨by rfl, ?_⟩) hS0 ?_
              rotate_left
              · intro w hSw
                go_simp
                try with_reducible rfl
              try simp only [Act.put, List.setIfInBounds_toArray, List.set_cons_zero, List.set_cons_succ]
              refine Rh.take (some 174) (i := 17) (v := ?_) rfl (by kernel_rfl) (by kernel_rfl) (by kernel_rfl) (by kernel_rfl) (fun _ _ _ h => h) (Or.inl ⟨by rfl, ?_⟩) hS0 ?_
              rotate_left
              · intro w hSw
                go_simp
                try with_reducible rfl
              try simp only [Act.put, List.setIfInBounds_toArray, List.set_cons_zero, List.set_cons_succ]
              refine Rh.take (some 175) (i := 18) (v := ?_) rfl (by kernel_rfl) (by kernel_rfl) (by kernel_rfl) (by kernel_rfl) (fun _ _ _ h => h) (Or.inl ⟨by rfl, ?_⟩) hS0 ?_
              rotate_left
              · intro w hSw
                go_simp
                try with_reducible rfl
              try simp only [Act.put, List.setIfInBounds_toArray, List.set_cons_zero, List.set_cons_succ]
              refine Rh.take (some 176) (i := 19) (v := ?_) rfl (by kernel_rfl) (by kernel_rfl) (by kernel_rfl) (by kernel_rfl) (fun _ _ _ h => h) (Or.inl ⟨by rfl, ?_⟩) hS0 ?_
              rotate_left
              · intro w hSw
                go_simp
                try with_reducible rfl
              try simp only [Act.put, List.setIfInBounds_toArray, List.set_cons_zero, List.set_cons_succ]
              refine Rh.take (some 178) (i := 21) (v := ?_) rfl (by kernel_rfl) (by kernel_rfl) (by kernel_rfl) (by kernel_rfl) (fun _ _ _ h => h) (Or.inl ⟨by rfl, ?_⟩) hS0 ?_
              rotate_left
              · intro w hSw
                go_simp
                try with_reducible rfl
              try simp only [Act.put, List.setIfInBounds_toArray, List.set_cons_zero, List.set_cons_succ]
              refine Rh.step (i := 20) (by kernel_rfl) rfl fun K' hK' => ?_
              have HK := Lib.hid hK'
              clear hK'
              go_simp
              refine (one_at (H20.out.kept (Ne.below_drew (Below.refl _ _))) (x : Int) (k : Int)).mono ?_
              rintro e w21 ⟨he, h21, hb⟩
              rw [FAT.out] at he
              subst he
              have H21 := Lib.hid h21
              have HB21 := Lib.hid ((Ne.below_drew HB20.out).trans (hb.mono hbs))
              have hS21 := (show (fun w' : World => w'.cell? ⟨gr, 0, none⟩ = some (.int .i64 (f0 : Int)) ∧ w'.cell? ⟨gr, k, none⟩ = some (.int .i64 (x : Int)) ∧ w'.cell? ⟨gr, ml, none⟩ = some (.int .i64 (l0 : Int)) ∧ w'.cell? ⟨g0, x, none⟩ = some (.int .i64 vx)) w21 from HRC.out w21 (h21.row List.mem_cons_self) HB21.out)
              clear h21 hb
              refine HK.out _ _ ⟨hS21, ?_⟩
              clear HK K'
              try simp only [Act.put, List.setIfInBounds_toArray, List.set_cons_zero, List.set_cons_succ]
              refine Rh.take (some 179) (i := 22) (v := ?_) rfl (by kernel_rfl) (by kernel_rfl) (by kernel_rfl) (by kernel_rfl) (fun _ _ _ h => h) (Or.inl ⟨by rfl, ?_⟩) hS21 ?_
              rotate_left
              · intro w hSw
                go_simp
                try with_reducible rfl
              try simp only [Act.put, List.setIfInBounds_toArray, List.set_cons_zero, List.set_cons_succ]
              refine Rh.take (some 180) (i := 23) (v := ?_) rfl (by kernel_rfl) (by kernel_rfl) (by kernel_rfl) (by kernel_rfl) (fun _ _ _ h => h) (Or.inl ⟨by rfl, ?_⟩) hS21 ?_
              rotate_left
              · intro w hSw
                go_simp
                try with_reducible rfl
              try simp only [Act.put, List.setIfInBounds_toArray, List.set_cons_zero, List.set_cons_succ]
              refine Rh.take (some 181) (i := 24) (v := ?_) rfl (by kernel_rfl) (by kernel_rfl) (by kernel_rfl) (by kernel_rfl) (fun _ _ _ h => h) (Or.inl ⟨by rfl, ?_⟩) hS21 ?_
              rotate_left
              · intro w hSw
                go_simp
                try with_reducible rfl
              try simp only [Act.put, List.setIfInBounds_toArray, List.set_cons_zero, List.set_cons_succ]
              refine Rh.take (some 182) (i := 25) (v := ?_) rfl (by kernel_rfl) (by kernel_rfl) (by kernel_rfl) (by kernel_rfl) (fun _ _ _ h => h) (Or.inl ⟨by rfl, ?_⟩) hS21 ?_
              rotate_left
              · intro w hSw
                go_simp
                try with_reducible rfl
              try simp only [Act.put, List.setIfInBounds_toArray, List.set_cons_zero, List.set_cons_succ]
              refine Rh.take (some 183) (i := 26) (v := ?_) rfl (by kernel_rfl) (by kernel_rfl) (by kernel_rfl) (by kernel_rfl) (fun _ _ _ h => h) (Or.inl ⟨by rfl, ?_⟩) hS21 ?_
              rotate_left
              · intro w hSw
                go_simp
                try with_reducible rfl
              try simp only [Act.put, List.setIfInBounds_toArray, List.set_cons_zero, List.set_cons_succ]
              refine Rh.take (some 185) (i := 28) (v := ?_) rfl (by kernel_rfl) (by kernel_rfl) (by kernel_rfl) (by kernel_rfl) (fun _ _ _ h => h) (Or.inl ⟨by rfl, ?_⟩) hS21 ?_
              rotate_left
              · intro w hSw
                go_simp
                try with_reducible rfl
              try simp only [Act.put, List.setIfInBounds_toArray, List.set_cons_zero, List.set_cons_succ]
              refine Rh.take (some 186) (i := 29) (v := ?_) rfl (by kernel_rfl) (by kernel_rfl) (by kernel_rfl) (by kernel_rfl) (fun _ _ _ h => h) (Or.inl ⟨by rfl, ?_⟩) hS21 ?_
              rotate_left
              · intro w hSw
                go_simp
                try with_reducible rfl
              try simp only [Act.put, List.setIfInBounds_toArray, List.set_cons_zero, List.set_cons_succ]
              refine Rh.take (some 187) (i := 30) (v := ?_) rfl (by kernel_rfl) (by kernel_rfl) (by kernel_rfl) (by kernel_rfl) (fun _ _ _ h => h) (Or.inl ⟨by rfl, ?_⟩) hS21 ?_
              rotate_left
              · intro w hSw
                go_simp
                try with_reducible rfl
              try simp only [Act.put, List.setIfInBounds_toArray, List.set_cons_zero, List.set_cons_succ]
              refine Rh.step (i := 27) (by kernel_rfl) rfl fun K' hK' => ?_
              have HK := Lib.hid hK'
              clear hK'
              go_simp
              refine (one_first H21.out (x : Int)).mono ?_
              rintro e w22 ⟨he, h22, hb⟩
              rw [FFI.out] at he
              subst he
              have H22 := Lib.hid h22
              have HB22 := Lib.hid (HB21.out.trans (hb.mono hbs))
              have hS22 := (show (fun w' : World => w'.cell? ⟨gr, 0, none⟩ = some (.int .i64 (f0 : Int)) ∧ w'.cell? ⟨gr, k, none⟩ = some (.int .i64 (x : Int)) ∧ w'.cell? ⟨gr, ml, none⟩ = some (.int .i64 (l0 : Int)) ∧ w'.cell? ⟨g0, x, none⟩ = some (.int .i64 vx)) w22 from HRC.out w22 (h22.row List.mem_cons_self) HB22.out)
              clear h22 hb
              refine HK.out _ _ ⟨hS22, ?_⟩
              clear HK K'
              try simp only [Act.put, List.setIfInBounds_toArray, List.set_cons_zero, List.set_cons_succ]
              refine Rh.take (some 188) (i := 31) (v := ?_) rfl (by kernel_rfl) (by kernel_rfl) (by kernel_rfl) (by kernel_rfl) (fun _ _ _ h => h) (Or.inl ⟨by rfl, ?_⟩) hS22 ?_
              rotate_left
              · intro w hSw
                go_simp
                try with_reducible rfl
              try simp only [Act.put, List.setIfInBounds_toArray, List.set_cons_zero, List.set_cons_succ]
              refine Rh.take (some 189) (i := 32) (v := ?_) rfl (by kernel_rfl) (by kernel_rfl) (by kernel_rfl) (by kernel_rfl) (fun _ _ _ h => h) (Or.inl ⟨by rfl, ?_⟩) hS22 ?_
              rotate_left
              · intro w hSw
                go_simp
                try with_reducible rfl
              try simp only [Act.put, List.setIfInBounds_toArray, List.set_cons_zero, List.set_cons_succ]
              refine Rh.take (some 190) (i := 33) (v := ?_) rfl (by kernel_rfl) (by kernel_rfl) (by kernel_rfl) (by kernel_rfl) (fun _ _ _ h => h) (Or.inl ⟨by rfl, ?_⟩) hS22 ?_
              rotate_left
              · intro w hSw
                go_simp
                try with_reducible rfl
              try simp only [Act.put, List.setIfInBounds_toArray, List.set_cons_zero, List.set_cons_succ]
              refine Rh.take (some 191) (i := 34) (v := ?_) rfl (by kernel_rfl) (by kernel_rfl) (by kernel_rfl) (by kernel_rfl) (fun _ _ _ h => h) (Or.inl ⟨by rfl, ?_⟩) hS22 ?_
              rotate_left
              · intro w hSw
                go_simp
                try with_reducible rfl
              try simp only [Act.put, List.setIfInBounds_toArray, List.set_cons_zero, List.set_cons_succ]
              refine Rh.take (some 192) (i := 35) (v := ?_) rfl (by kernel_rfl) (by kernel_rfl) (by kernel_rfl) (by kernel_rfl) (fun _ _ _ h => h) (Or.inl ⟨by rfl, ?_⟩) hS22 ?_
              rotate_left
              · intro w hSw
                go_simp
                try with_reducible rfl
              try simp only [Act.put, List.setIfInBounds_toArray, List.set_cons_zero, List.set_cons_succ]
              refine Rh.take (some 194) (i := 37) (v := ?_) rfl (by kernel_rfl) (by kernel_rfl) (by kernel_rfl) (by kernel_rfl) (fun _ _ _ h => h) (Or.inl ⟨by rfl, ?_⟩) hS22 ?_
              rotate_left
              · intro w hSw
                go_simp
                try with_reducible rfl
              try simp only [Act.put, List.setIfInBounds_toArray, List.set_cons_zero, List.set_cons_succ]
              refine Rh.take (some 195) (i := 38) (v := ?_) rfl (by kernel_rfl) (by kernel_rfl) (by kernel_rfl) (by kernel_rfl) (fun _ _ _ h => h) (Or.inl ⟨by rfl, ?_⟩) hS22 ?_
              rotate_left
              · intro w hSw
                go_simp
                try with_reducible rfl
              try simp only [Act.put, List.setIfInBounds_toArray, List.set_cons_zero, List.set_cons_succ]
              refine Rh.take (some 196) (i := 39) (v := ?_) rfl (by kernel_rfl) (by kernel_rfl) (by kernel_rfl) (by kernel_rfl) (fun _ _ _ h => h) (Or.inl ⟨by rfl, ?_⟩) hS22 ?_
              rotate_left
              · intro w hSw
                go_simp
                try with_reducible rfl
              try simp only [Act.put, List.setIfInBounds_toArray, List.set_cons_zero, List.set_cons_succ]
              refine Rh.take (some 197) (i := 40) (v := ?_) rfl (by kernel_rfl) (by kernel_rfl) (by kernel_rfl) (by kernel_rfl) (fun _ _ _ h => h) (Or.inl ⟨by rfl, ?_⟩) hS22 ?_
              rotate_left
              · intro w hSw
                go_simp
                try with_reducible rfl
              try simp only [Act.put, List.setIfInBounds_toArray, List.set_cons_zero, List.set_cons_succ]
              refine Rh.take (some 198) (i := 41) (v := ?_) rfl (by kernel_rfl) (by kernel_rfl) (by kernel_rfl) (by kernel_rfl) (fun _ _ _ h => h) (Or.inl ⟨by rfl, ?_⟩) hS22 ?_
              rotate_left
              · intro w hSw
                go_simp
                try with_reducible rfl
              try simp only [Act.put, List.setIfInBounds_toArray, List.set_cons_zero, List.set_cons_succ]
              refine Rh.take (some 199) (i := 42) (v := ?_) rfl (by kernel_rfl) (by kernel_rfl) (by kernel_rfl) (by kernel_rfl) (fun _ _ _ h => h) (Or.inl ⟨by rfl, ?_⟩) hS22 ?_
              rotate_left
              · intro w hSw
                go_simp
                try with_reducible rfl
              try simp only [Act.put, List.setIfInBounds_toArray, List.set_cons_zero, List.set_cons_succ]
              refine Rh.step (i := 36) (by kernel_rfl) rfl fun K' hK' => ?_
              have HK := Lib.hid hK'
              clear hK'
              go_simp
              refine (one_last H22.out (x : Int)).mono ?_
              rintro e w23 ⟨he, h23, hb⟩
              rw [FLA.out] at he
              subst he
              have H23 := Lib.hid h23
              have HB23 := Lib.hid (HB22.out.trans (hb.mono hbs))
              have hS23 := (show (fun w' : World => w'.cell? ⟨gr, 0, none⟩ = some (.int .i64 (f0 : Int)) ∧ w'.cell? ⟨gr, k, none⟩ = some (.int .i64 (x : Int)) ∧ w'.cell? ⟨gr, ml, none⟩ = some (.int .i64 (l0 : Int)) ∧ w'.cell? ⟨g0, x, none⟩ = some (.int .i64 vx)) w23 from HRC.out w23 (h23.row List.mem_cons_self) HB23.out)
              clear h23 hb
              refine HK.out _ _ ⟨hS23, ?_⟩
              clear HK K'
              try simp only [Act.put, List.setIfInBounds_toArray, List.set_cons_zero, List.set_cons_succ]
              refine Rh.take (some 200) (i := 43) (v := ?_) rfl (by kernel_rfl) (by kernel_rfl) (by kernel_rfl) (by kernel_rfl) (fun _ _ _ h => h) (Or.inl ⟨by rfl, ?_⟩) hS23 ?_
              rotate_left
              · intro w hSw
                go_simp
                try with_reducible rfl
              try simp only [Act.put, List.setIfInBounds_toArray, List.set_cons_zero, List.set_cons_succ]
              refine Rh.take (some 201) (i := 44) (v := ?_) rfl (by kernel_rfl) (by kernel_rfl) (by kernel_rfl) (by kernel_rfl) (fun _ _ _ h => h) (Or.inl ⟨by rfl, ?_⟩) hS23 ?_
              rotate_left
              · intro w hSw
                go_simp
                try with_reducible rfl
              try simp only [Act.put, List.setIfInBounds_toArray, List.set_cons_zero, List.set_cons_succ]
              refine Rh.take (some 202) (i := 45) (v := ?_) rfl (by kernel_rfl) (by kernel_rfl) (by kernel_rfl) (by kernel_rfl) (fun _ _ _ h => h) (Or.inl ⟨by rfl, ?_⟩) hS23 ?_
              rotate_left
              · intro w hSw
                go_simp
                try with_reducible rfl
              try simp only [Act.put, List.setIfInBounds_toArray, List.set_cons_zero, List.set_cons_succ]
              refine Rh.take (some 203) (i := 46) (v := ?_) rfl (by kernel_rfl) (by kernel_rfl) (by kernel_rfl) (by kernel_rfl) (fun _ _ _ h => h) (Or.inl ⟨by rfl, ?_⟩) hS23 ?_
              rotate_left
              · intro w hSw
                go_simp
                try with_reducible rfl
              try simp only [Act.put, List.setIfInBounds_toArray, List.set_cons_zero, List.set_cons_succ]
              refine Rh.take (some 204) (i := 47) (v := ?_) rfl (by kernel_rfl) (by kernel_rfl) (by kernel_rfl) (by kernel_rfl) (fun _ _ _ h => h) (Or.inl ⟨by rfl, ?_⟩) hS23 ?_
              rotate_left
              · intro w hSw
                go_simp
                try with_reducible rfl
              try simp only [Act.put, List.setIfInBounds_toArray, List.set_cons_zero, List.set_cons_succ]
              refine Rh.take (some 206) (i := 49) (v := ?_) rfl (by kernel_rfl) (by kernel_rfl) (by kernel_rfl) (by kernel_rfl) (fun _ _ _ h => h) (Or.inl ⟨by rfl, ?_⟩) hS23 ?_
              rotate_left
              · intro w hSw
                go_simp
                try with_reducible rfl
              try simp only [Act.put, List.setIfInBounds_toArray, List.set_cons_zero, List.set_cons_succ]
              refine Rh.take (some 207) (i := 50) (v := ?_) rfl (by kernel_rfl) (by kernel_rfl) (by kernel_rfl) (by kernel_rfl) (fun _ _ _ h => h) (Or.inl ⟨by rfl, ?_⟩) hS23 ?_
              rotate_left
              · intro w hSw
                go_simp
                try with_reducible rfl
              try simp only [Act.put, List.setIfInBounds_toArray, List.set_cons_zero, List.set_cons_succ]
              refine Rh.take (some 208) (i := 51) (v := ?_) rfl (by kernel_rfl) (by kernel_rfl) (by kernel_rfl) (by kernel_rfl) (fun _ _ _ h => h) (Or.inl ⟨by rfl, ?_⟩) hS23 ?_
              rotate_left
              · intro w hSw
                go_simp
                try with_reducible rfl
              try simp only [Act.put, List.setIfInBounds_toArray, List.set_cons_zero, List.set_cons_succ]
              refine Rh.take (some 209) (i := 52) (v := ?_) rfl (by kernel_rfl) (by kernel_rfl) (by kernel_rfl) (by kernel_rfl) (fun _ _ _ h => h) (Or.inl ⟨by rfl, ?_⟩) hS23 ?_
              rotate_left
              · intro w hSw
                go_simp
                try with_reducible rfl
              try simp only [Act.put, List.setIfInBounds_toArray, List.set_cons_zero, List.set_cons_succ]
              refine Rh.step (i := 48) (by kernel_rfl) rfl fun K' hK' => ?_
              have HK := Lib.hid hK'
              clear hK'
              go_simp
              refine (one_value H23.out (x : Int)).mono ?_
              rintro e w24 ⟨he, h24, hb⟩
              rw [FVA.out] at he
              subst he
              have H24 := Lib.hid h24
              have HB24 := Lib.hid (HB23.out.trans (hb.mono hbs))
              have hS24 := (show (fun w' : World => w'.cell? ⟨gr, 0, none⟩ = some (.int .i64 (f0 : Int)) ∧ w'.cell? ⟨gr, k, none⟩ = some (.int .i64 (x : Int)) ∧ w'.cell? ⟨gr, ml, none⟩ = some (.int .i64 (l0 : Int)) ∧ w'.cell? ⟨g0, x, none⟩ = some (.int .i64 vx)) w24 from HRC.out w24 (h24.row List.mem_cons_self) HB24.out)
              clear h24 hb
              refine HK.out _ _ ⟨hS24, ?_⟩
              clear HK K'
              try simp only [Act.put, List.setIfInBounds_toArray, List.set_cons_zero, List.set_cons_succ]
              refine Rh.take (some 210) (i := 53) (v := ?_) rfl (by kernel_rfl) (by kernel_rfl) (by kernel_rfl) (by kernel_rfl) (fun _ _ _ h => h) (Or.inl ⟨by rfl, ?_⟩) hS24 ?_
              rotate_left
              · intro w hSw
                go_simp
                try with_reducible rfl
              try simp only [Act.put, List.setIfInBounds_toArray, List.set_cons_zero, List.set_cons_succ]
              refine Rh.take (some 211) (i := 54) (v := ?_) rfl (by kernel_rfl) (by kernel_rfl) (by kernel_rfl) (by kernel_rfl) (fun _ _ _ h => h) (Or.inl ⟨by rfl, ?_⟩) hS24 ?_
              rotate_left
              · intro w hSw
                go_simp
                try with_reducible rfl
              try simp only [Act.put, List.setIfInBounds_toArray, List.set_cons_zero, List.set_cons_succ]
              refine Rh.done (by kernel_rfl) ?_ _
              clear hS0 hS21 hS22 hS23 hS24 H20 H21 H22 H23 HB20 HB21 HB22 HB23
              go_wp2
              go_loopg [21] m (fun gg si wy => ∃ i : Nat, si = .int .i64 i ∧ i + gg = m ∧ Hid (One wy b p s [(.slice (some ⟨gr, 0, none⟩) m c19, LR)]) ∧ Hid (Below b wv wy))
              case atStart => exact ⟨0, rfl, by omega, H24, HB24⟩
              case round =>
                obtain ⟨i, rfl, hig, HW3, HB3x⟩ := hrel
                by_cases hi : i < m
                · have hii : (i : Int) < (m : Int) := by omega
                  have hi0 : (0 : Int) ≤ (i : Int) := by omega
                  obtain ⟨fa, fp⟩ := HFI.out i hi
                  have HRI := Lib.hid (HRI1.out i hi)
                  generalize LR.getD i 0 = y at *
                  have FA := Lib.hid fa
                  have FP := Lib.hid fp
                  clear fa fp
                  have z5 : ((y : Int) != (y : Int)) = false := by simp
                  have z6 : ((i : Int) != (i : Int)) = false := by simp
                  go_wp2
                  have hS0 := (show (fun w' : World => w'.cell? ⟨gr, i, none⟩ = some (.int .i64 (y : Int))) wr.drew from HRI.out _ ((HW3.out.kept (Ne.below_drew (Below.refl _ _))).row List.mem_cons_self))
                  refine Rh.start (S := (fun w' : World => w'.cell? ⟨gr, i, none⟩ = some (.int .i64 (y : Int)))) (by kernel_rfl) ?_
                  refine Rh.take (some 218) (i := 0) (v := ?_) rfl (by kernel_rfl) (by kernel_rfl) (by kernel_rfl) (by kernel_rfl) (fun _ _ _ h => h) (Or.inl ⟨by rfl, ?_⟩) hS0 ?_
                  rotate_left
                  · intro w hSw
                    go_simp
                    try with_reducible rfl
                  try simp only [Act.put, List.setIfInBounds_toArray, List.set_cons_zero, List.set_cons_succ]
                  refine Rh.take (some 219) (i := 1) (v := ?_) rfl (by kernel_rfl) (by kernel_rfl) (by kernel_rfl) (by kernel_rfl) (fun _ _ _ h => h) (Or.inl ⟨by rfl, ?_⟩) hS0 ?_
                  rotate_left
                  · intro w hSw
                    go_simp
                    try with_reducible rfl
                  try simp only [Act.put, List.setIfInBounds_toArray, List.set_cons_zero, List.set_cons_succ]
                  refine Rh.take (some 220) (i := 2) (v := ?_) rfl (by kernel_rfl) (by kernel_rfl) (by kernel_rfl) (by kernel_rfl) (fun _ _ _ h => h) (Or.inl ⟨by rfl, ?_⟩) hS0 ?_
                  rotate_left
                  · intro w hSw
                    go_simp
                    try with_reducible rfl
                  try simp only [Act.put, List.setIfInBounds_toArray, List.set_cons_zero, List.set_cons_succ]
                  refine Rh.take (some 222) (i := 4) (v := ?_) rfl (by kernel_rfl) (by kernel_rfl) (by kernel_rfl) (by kernel_rfl) (fun _ _ _ h => h) (Or.inl ⟨by rfl, ?_⟩) hS0 ?_
                  rotate_left
                  · intro w hSw
                    go_simp
                    try with_reducible rfl
                  try simp only [Act.put, List.setIfInBounds_toArray, List.set_cons_zero, List.set_cons_succ]
                  refine Rh.take (some 223) (i := 5) (v := ?_) rfl (by kernel_rfl) (by kernel_rfl) (by kernel_rfl) (by kernel_rfl) (fun _ _ _ h => h) (Or.inl ⟨by rfl, ?_⟩) hS0 ?_
                  rotate_left
                  · intro w hSw
                    go_simp
                    try with_reducible rfl
                  try simp only [Act.put, List.setIfInBounds_toArray, List.set_cons_zero, List.set_cons_succ]
                  refine Rh.take (some 224) (i := 6) (v := ?_) rfl (by kernel_rfl) (by kernel_rfl) (by kernel_rfl) (by kernel_rfl) (fun _ _ _ h => h) (Or.inl ⟨by rfl, ?_⟩) hS0 ?_
                  rotate_left
                  · intro w hSw
                    go_simp
                    try with_reducible rfl
                  try simp only [Act.put, List.setIfInBounds_toArray, List.set_cons_zero, List.set_cons_succ]
                  refine Rh.take (some 225) (i := 7) (v := ?_) rfl (by kernel_rfl) (by kernel_rfl) (by kernel_rfl) (by kernel_rfl) (fun _ _ _ h => h) (Or.inl ⟨by rfl, ?_⟩) hS0 ?_
                  rotate_left
                  · intro w hSw
                    go_simp
                    try with_reducible rfl
                  try simp only [Act.put, List.setIfInBounds_toArray, List.set_cons_zero, List.set_cons_succ]
                  refine Rh.step (i := 3) (by kernel_rfl) rfl fun K' hK' => ?_
                  have HK := Lib.hid hK'
                  clear hK'
                  go_simp
                  refine (one_at (HW3.out.kept (Ne.below_drew (Below.refl _ _))) (x : Int) (i : Int)).mono ?_
                  rintro e w31 ⟨he, h31, hb⟩
                  rw [FA.out] at he
                  subst he
                  have H31 := Lib.hid h31
                  have HB31 := Lib.hid ((Ne.below_drew HB3x.out).trans (hb.mono hbs))
                  have hS31 := (show (fun w' : World => w'.cell? ⟨gr, i, none⟩ = some (.int .i64 (y : Int))) w31 from HRI.out w31 (h31.row List.mem_cons_self))
                  clear h31 hb
                  refine HK.out _ _ ⟨hS31, ?_⟩
                  clear HK K'
                  try simp only [Act.put, List.setIfInBounds_toArray, List.set_cons_zero, List.set_cons_succ]
                  refine Rh.take (some 226) (i := 8) (v := ?_) rfl (by kernel_rfl) (by kernel_rfl) (by kernel_rfl) (by kernel_rfl) (fun _ _ _ h => h) (Or.inl ⟨by rfl, ?_⟩) hS31 ?_
                  rotate_left
                  · intro w hSw
                    go_simp
                    try with_reducible rfl
                  try simp only [Act.put, List.setIfInBounds_toArray, List.set_cons_zero, List.set_cons_succ]
                  refine Rh.take (some 227) (i := 9) (v := ?_) rfl (by kernel_rfl) (by kernel_rfl) (by kernel_rfl) (by kernel_rfl) (fun _ _ _ h => h) (Or.inl ⟨by rfl, ?_⟩) hS31 ?_
                  rotate_left
                  · intro w hSw
                    go_simp
                    try with_reducible rfl
                  try simp only [Act.put, List.setIfInBounds_toArray, List.set_cons_zero, List.set_cons_succ]
                  refine Rh.take (some 228) (i := 10) (v := ?_) rfl (by kernel_rfl) (by kernel_rfl) (by kernel_rfl) (by kernel_rfl) (fun _ _ _ h => h) (Or.inl ⟨by rfl, ?_⟩) hS31 ?_
                  rotate_left
                  · intro w hSw
                    go_simp
                    try with_reducible rfl
                  try simp only [Act.put, List.setIfInBounds_toArray, List.set_cons_zero, List.set_cons_succ]
                  refine Rh.take (some 229) (i := 11) (v := ?_) rfl (by kernel_rfl) (by kernel_rfl) (by kernel_rfl) (by kernel_rfl) (fun _ _ _ h => h) (Or.inl ⟨by rfl, ?_⟩) hS31 ?_
                  rotate_left
                  · intro w hSw
                    go_simp
                    try with_reducible rfl
                  try simp only [Act.put, List.setIfInBounds_toArray, List.set_cons_zero, List.set_cons_succ]
                  refine Rh.take (some 230) (i := 12) (v := ?_) rfl (by kernel_rfl) (by kernel_rfl) (by kernel_rfl) (by kernel_rfl) (fun _ _ _ h => h) (Or.inl ⟨by rfl, ?_⟩) hS31 ?_
                  rotate_left
                  · intro w hSw
                    go_simp
                    try with_reducible rfl
                  try simp only [Act.put, List.setIfInBounds_toArray, List.set_cons_zero, List.set_cons_succ]
                  refine Rh.take (some 231) (i := 13) (v := ?_) rfl (by kernel_rfl) (by kernel_rfl) (by kernel_rfl) (by kernel_rfl) (fun _ _ _ h => h) (Or.inl ⟨by rfl, ?_⟩) hS31 ?_
                  rotate_left
                  · intro w hSw
                    go_simp
                    try with_reducible rfl
                  try simp only [Act.put, List.setIfInBounds_toArray, List.set_cons_zero, List.set_cons_succ]
                  refine Rh.take (some 232) (i := 14) (v := ?_) rfl (by kernel_rfl) (by kernel_rfl) (by kernel_rfl) (by kernel_rfl) (fun _ _ _ h => h) (Or.inl ⟨by rfl, ?_⟩) hS31 ?_
                  rotate_left
                  · intro w hSw
                    go_simp
                    try with_reducible rfl
                  try simp only [Act.put, List.setIfInBounds_toArray, List.set_cons_zero, List.set_cons_succ]
                  refine Rh.take (some 234) (i := 16) (v := ?_) rfl (by kernel_rfl) (by kernel_rfl) (by kernel_rfl) (by kernel_rfl) (fun _ _ _ h => h) (Or.inl ⟨by rfl, ?_⟩) hS31 ?_
                  rotate_left
                  · intro w hSw
                    go_simp
                    try with_reducible rfl
                  try simp only [Act.put, List.setIfInBounds_toArray, List.set_cons_zero, List.set_cons_succ]
                  refine Rh.step (i := 15) (by kernel_rfl) rfl fun K' hK' => ?_
                  have HK := Lib.hid hK'
                  clear hK'
                  go_simp
                  refine (one_place H31.out (y : Int)).mono ?_
                  rintro e w32 ⟨he, h32, hb⟩
                  rw [FP.out] at he
                  subst he
                  have H32 := Lib.hid h32
                  have HB32 := Lib.hid (HB31.out.trans (hb.mono hbs))
                  have hS32 := (show (fun w' : World => w'.cell? ⟨gr, i, none⟩ = some (.int .i64 (y : Int))) w32 from HRI.out w32 (h32.row List.mem_cons_self))
                  clear h32 hb
                  refine HK.out _ _ ⟨hS32, ?_⟩
                  clear HK K'
                  try simp only [Act.put, List.setIfInBounds_toArray, List.set_cons_zero, List.set_cons_succ]
                  refine Rh.take (some 235) (i := 17) (v := ?_) rfl (by kernel_rfl) (by kernel_rfl) (by kernel_rfl) (by kernel_rfl) (fun _ _ _ h => h) (Or.inl ⟨by rfl, ?_⟩) hS32 ?_
                  rotate_left
                  · intro w hSw
                    go_simp
                    try with_reducible rfl
                  try simp only [Act.put, List.setIfInBounds_toArray, List.set_cons_zero, List.set_cons_succ]
                  refine Rh.take (some 236) (i := 18) (v := ?_) rfl (by kernel_rfl) (by kernel_rfl) (by kernel_rfl) (by kernel_rfl) (fun _ _ _ h => h) (Or.inl ⟨by rfl, ?_⟩) hS32 ?_
                  rotate_left
                  · intro w hSw
                    go_simp
                    try with_reducible rfl
                  try simp only [Act.put, List.setIfInBounds_toArray, List.set_cons_zero, List.set_cons_succ]
                  refine Rh.done (by kernel_rfl) ?_ _
                  clear hS0 hS31 hS32 H31 HB31
                  go_wp2
                  go_roundg (m - (i + 1))
                  case measure => omega
                  case rel => exact ⟨i + 1, by go_num, by omega, H32, HB32⟩
                · have ei : i = m := by omega
                  subst i
                  have HE := Lib.hid (HW3.out.less (K2 := []) (fun x hx => by simp at hx))
                  go_wp2
                  go_roundg (n - (x + 1))
                  case measure => omega
                  case rel => exact ⟨x + 1, by go_num, by omega, HE, HB3x⟩
            · go_wp2
              go_ret
              exact ⟨rfl, HBA2.out _ HBX.out⟩

end Go.Proofs.Ytlkigpmjhojceaa.splaySorts
