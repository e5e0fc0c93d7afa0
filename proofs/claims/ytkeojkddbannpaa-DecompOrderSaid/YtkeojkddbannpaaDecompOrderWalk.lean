/- DecompOrder: for every input the law returns true and its arguments read as they did. No condition. -/
import Derived.Test.YtkeojkddbannpaaSwp
import Derived.Test.YtkeojkddbannpaaShownU
import Derived.Test.YtkeojkddbannpaaRouted
import Derived.Test.YtkeojkddbannpaaOpenc
import Derived.Test.YtkeojkddbannpaaRmade
import Derived.Test.YtkeojkddbannpaaMadem
import Derived.Deep.LoopGhost
import Derived.Deep.DeepCutAuto
import Derived.RegionTactic
import Derived.BigRegion
import Derived.Test.YtkeojkddbannpaaFrsm
import Derived.Deep.QuietTactic
import Derived.Test.YtkeojkddbannpaaRows
import Derived.WalkKit
import Derived.ProofKit
import Derived.OpenShut
import Derived.ShutString
import Derived.ChangeOld
import Derived.Below
import Derived.Deep.Strs
namespace Go.Proofs.Ytkeojkddbannpaa.decompOrder
open Go.ChangeShapes Go.WideShapes Go.ChangeAt Go.RowKit
open Go.ChangeMaps (open_string shut_string)
set_option linter.unusedVariables false
set_option linter.unusedSimpArgs false

theorem own : ownKnob Try.prog.godebug = none := by kernel_rfl
theorem laidOut : laidOutB Try.prog = true := by kernel_rfl

def IntsIn (k : IntKind) (w : World) (a : Option Addr) (len cap : Nat) (zs : List Int) : Prop :=
  (a = none ∧ len = 0 ∧ cap = 0 ∧ zs = []) ∨
  ∃ x, a = some x ∧ len ≤ cap ∧ cap ≤ maxLen ∧ zs.length = cap ∧ (∀ i, i < zs.length → w.cell? (x.add i) = some (.int k (zs.getD i 0))) ∧ ∀ n ∈ zs, (Lit.int k n).wf = true

theorem cap_at {l : List Ne.Arc} {a : Nat} (h : a < l.length) : Ne.amt (l.map fun x => x.cap) a = (Ne.arcAt l a).cap := by
  unfold Ne.amt Ne.arcAt
  rw [List.getD_eq_getElem?_getD, List.getD_eq_getElem?_getD, List.getElem?_map, List.getElem?_eq_getElem h]; rfl
/-- the room of an item: the least capacity of its arcs -/
theorem room_of {n : Ne.Net} (hR : Ne.Right n) {f : List Int} (hw : Ne.wi n.l f) {h : List Int} {X : Dc.Itm} (hX : Dc.IsI n h X) (hle : ∀ i, Ne.amt h i ≤ Ne.amt f i) (hc : ∀ a, a < n.l.length → (Ne.arcAt n.l a).cap ≤ 1000000) {r : Int} (hr : Dc.lst (n.l.map fun x => x.cap) 1099511627776 X.arcs = r) :
    0 < r ∧ r ≤ 1000000 ∧ (∀ i, i < n.l.length → (i : Int) ∈ X.z.arcs → r ≤ (Ne.arcAt n.l i).cap) ∧ ∃ i, i < n.l.length ∧ (i : Int) ∈ X.z.arcs ∧ (Ne.arcAt n.l i).cap = r := by
  subst hr
  obtain ⟨h1, h2, h3⟩ := Dc.lst_le (g := n.l.map fun x => x.cap) X.arcs 1099511627776
  have hne := hX.ne
  obtain ⟨a0, ha0⟩ : ∃ a, a ∈ X.arcs := by
    rcases hh : X.arcs with _ | ⟨a, t⟩
    · exact absurd hh hne
    · exact ⟨a, by simp⟩
  have hl0 := (hX.inn a0 ha0).1
  have g0 := h2 a0 ha0
  rw [cap_at hl0] at g0
  have g1 := hc a0 hl0
  obtain ⟨a, ha, e⟩ : ∃ a ∈ X.arcs, Dc.lst (n.l.map fun x => x.cap) 1099511627776 X.arcs = Ne.amt (n.l.map fun x => x.cap) a := by
    rcases h3 with h3 | h3
    · exfalso
      have : (1099511627776 : Int) ≤ 1000000 := by omega
      omega
    · exact h3
  have hl := (hX.inn a ha).1
  rw [cap_at hl] at e
  have g2 := (hX.inn a ha).2
  have g3 := hle a
  have g4 := hw a hl
  have g5 := hX.pos
  exact ⟨by omega, by have := hc a hl; omega, fun i hi hm => by have := h2 i ((Dc.z_mem X i).1 hm); rwa [cap_at hi] at this, a, hl, (Dc.z_mem X a).2 ha, e.symm⟩
theorem turned_perm {A : List Dc.Itm} (i : Nat) : ((A.map Dc.Itm.z).drop i ++ (A.map Dc.Itm.z).take i).Perm (A.map Dc.Itm.z) :=
  List.perm_append_comm.trans (by rw [List.take_append_drop])

set_option maxRecDepth 100000 in
set_option maxHeartbeats 4000000 in
theorem walk (a0 : Int) (a1 : Int) (a2 : List Ne.Arc) (o2 : Option Addr) (c2 : Nat) (a3 : Option Addr) (len3 cap3 : Nat) (l3 : List Int) (a4 : Int) (w : World) (w0 : (Lit.int .i64 a0).wf = true) (w1 : (Lit.int .i64 a1).wf = true) (k2 : ∀ a ∈ a2, Ne.Arc.ok a) (z2 : a2.length ≤ c2) (y2 : c2 ≤ maxLen) (n2 : o2 = none → c2 = 0) (r2 : Ne.ARow w o2 a2) (w3 : IntsIn .i64 w a3 len3 cap3 l3) (w4 : (Lit.int .i64 a4).wf = true) :
    Calls Try.prog 7 #[.int .i64 a0, .int .i64 a1, .slice o2 a2.length c2, .slice a3 len3 cap3, .int .i64 a4] w fun e w' => e = .returned (.bool true) ∧ Below w.heap.size w w' := by
  have HSH := Lib.hid (Dc.shown_any w)
  obtain ⟨mn, hmn⟩ : ∃ x, x = (Ne.madeN a0 a1 a2).n := ⟨_, rfl⟩
  obtain ⟨ms, hms⟩ : ∃ x, x = (Ne.madeN a0 a1 a2).s := ⟨_, rfl⟩
  obtain ⟨mt, hmt⟩ : ∃ x, x = (Ne.madeN a0 a1 a2).t := ⟨_, rfl⟩
  obtain ⟨ml, hml⟩ : ∃ x, x = (Ne.madeN a0 a1 a2).l := ⟨_, rfl⟩
  have em : Ne.madeN a0 a1 a2 = ⟨mn, ms, mt, ml⟩ := by rw [hmn, hms, hmt, hml]
  obtain ⟨f1, f2, f3, f4, f5, f6, f7, f8, f9⟩ := Ne.madeN_fine (nodes := a0) (ends := a1) k2
  have ck := Ne.made_check (nodes := a0) (ends := a1) k2
  have MD := Lib.hid fun w' (h : Ne.ARow w' o2 a2) => Ne.made_s a0 a1 a2 o2 c2 w' (bounds_i64 w0) (bounds_i64 w1) k2 h
  rw [em] at MD f1 f2 f3 f4 f5 f6 f7 f8 f9 ck
  simp only at f1 f2 f3 f4 f5 f6 f7 f8 f9
  clear hmn hms hmt hml em
  have f8' : ml.length ≤ 24 := by omega
  clear f8
  have CK := Lib.hid ck
  have RT := Lib.hid (Ne.right_of ck)
  have FI := Lib.hid f9
  have CAP := Lib.hid (show ∀ a ∈ ml, Ne.in64 a.cap from fun a ha => by have := (f9 a ha).2.2; unfold Ne.in64; omega)
  have hl6 : ml.length ≤ 1000000 := by omega
  have F7 := Lib.hid f7
  have RA := Lib.hid r2
  clear r2 f7 f9 ck
  obtain ⟨N, rfl⟩ : ∃ N : Nat, mn = (N : Int) := ⟨mn.toNat, by omega⟩
  obtain ⟨S, rfl⟩ : ∃ S : Nat, ms = (S : Int) := ⟨ms.toNat, by omega⟩
  obtain ⟨D, rfl⟩ : ∃ D : Nat, mt = (D : Int) := ⟨mt.toNat, by omega⟩
  obtain ⟨ks, hk3, hq3, bq3, _, _, _⟩ := Ne.ints_row w3
  subst hk3
  clear w3
  have BK3 := Lib.hid bq3
  have KR3 := Lib.hid hq3
  clear bq3 hq3
  have A4 := Lib.hid (bounds_i64 w4)
  clear w4
  go_enter Try.func7, Try.ntmps7
  go_wp2_with fail
  refine HSH.out.mono ?_
  rintro e w1 ⟨rfl, hb⟩
  have HB1 := Lib.hid hb
  clear hb
  go_wp2_with fail
  refine (MD.out _ (RA.out.kept HB1.out)).mono ?_
  rintro e w2 ⟨om, cm, rfl, ho, hb⟩
  have HB2 := Lib.hid (HB1.out.trans (hb.mono HB1.out.size))
  have HV2 := Lib.hid (Rw.own_lt ho)
  have HO3 := Lib.hid (Rw.own_base (Rw.own_alloc ho (.cells #[.int .i64 (N : Int), .int .i64 (S : Int), .int .i64 (D : Int), .slice om ml.length cm] 24)) (B' := w.heap.size) HB1.out.size)
  have HN3 := Lib.hid (Ne.netBox_new w2 (N : Int) (S : Int) (D : Int) (.slice om ml.length cm))
  have hz2 : w.heap.size ≤ w2.heap.size := HB2.out.size
  have HB3 := Lib.hid (HB2.out.alloc hz2 (.cells #[.int .i64 (N : Int), .int .i64 (S : Int), .int .i64 (D : Int), .slice om ml.length cm] 24))
  clear ho hb MD RA HSH
  go_wp2_with fail
  obtain ⟨bn, hbn⟩ : ∃ b, b = w2.heap.size := ⟨_, rfl⟩
  have hbn3 : bn < (w2.alloc (.cells #[.int .i64 (N : Int), .int .i64 (S : Int), .int .i64 (D : Int), .slice om ml.length cm] 24)).heap.size := by rw [hbn]; simp
  rw [← hbn] at HN3 HV2 hz2 ⊢
  clear hbn HB2 HB1
  generalize (w2.alloc (.cells #[.int .i64 (N : Int), .int .i64 (S : Int), .int .i64 (D : Int), .slice om ml.length cm] 24)) = W3 at *
  have HR3 := Lib.hid (Ne.arow_ofA HO3.out)
  obtain ⟨f, hf⟩ : ∃ x, x = Ne.routeN ⟨(N : Int), (S : Int), (D : Int), ml⟩ ks := ⟨_, rfl⟩
  have FL := Lib.hid (show Ne.Flow ⟨(N : Int), (S : Int), (D : Int), ml⟩ f by rw [hf]; exact Ne.route_flow RT.out _)
  have RD := Lib.hid fun w' h1 h2 => Ne.routed_any ⟨(N : Int), (S : Int), (D : Int), ml⟩ om cm a3 cap3 ks w' h1 h2 CK.out BK3.out
  rw [← hf] at RD
  refine (RD.out _ HR3.out (KR3.out.kept HB3.out)).mono ?_
  rintro e w4 ⟨fb, rfl, hfb, hl, hb⟩
  have HB4 := Lib.hid (HB3.out.trans (hb.mono HB3.out.size))
  have HN4 := Lib.hid (Ne.netBox_below HN3.out hb (Ne.netBox_lt HN3.out))
  have HO4 := Lib.hid (Rw.own_below HO3.out hb)
  have HR4 := Lib.hid (HR3.out.kept hb)
  have HFB4 := Lib.hid hl
  have hfb2 := hl.lt
  clear hl hb
  have HL4 := Lib.hid HFB4.out
  have HFB := Lib.hid hfb
  have LF := Lib.hid (show Dc.Lf ⟨(N : Int), (S : Int), (D : Int), ml⟩ f from (Dc.flow_lf FL.out))
  have hlm := LF.out.len
  have SP := Lib.hid fun ao cap fo fc w' (h1 : Ne.ARow w' ao ml) (h2 : Ne.IRow w' fo f) => Dc.split_flow CK.out LF.out ao cap fo fc w' h1 h2
  have SUM := Lib.hid (Dc.splA_sum CK.out LF.out)
  have ABD := Lib.hid (Dc.splA_bd RT.out LF.out)
  have AOK := Lib.hid (Dc.splA_ok RT.out LF.out)
  have ABN := Lib.hid (show (Dc.splA ⟨(N : Int), (S : Int), (D : Int), ml⟩ f).length ≤ 24 from by have h1 := AOK.out.len; have h2 := Dc.bnd_len ⟨(N : Int), (S : Int), (D : Int), ml⟩ f; simp only at h2; omega)
  have SU := Lib.hid fun ao cap lo lc w' (h1 : Ne.ARow w' ao ml) h2 => Dc.sum_flow CK.out ABD.out (by have := ABN.out; rw [List.length_map]; omega) SUM.out.1 ao cap lo lc w' h1 h2
  rw [SUM.out.2, List.length_map] at SU
  simp only at SP SU hlm
  have NS := Lib.hid (Dc.none_sum (n := ⟨(N : Int), (S : Int), (D : Int), ml⟩) CK.out RT.out)
  have SZ := Lib.hid fun ao cap w' (h1 : Ne.ARow w' ao ml) => Dc.sum_flow (n := ⟨(N : Int), (S : Int), (D : Int), ml⟩) CK.out (L := []) (fun x hx => by simp at hx) (by simp) NS.out.1 ao cap none 0 w' h1 (Dc.itr_nil w' none)
  rw [NS.out.2] at SZ
  have PM := Lib.hid fun i => turned_perm (A := Dc.splA ⟨(N : Int), (S : Int), (D : Int), ml⟩ f) i
  have ST := Lib.hid fun i ao cap lo lc w' (h1 : Ne.ARow w' ao ml) h2 => Dc.sum_flow (n := ⟨(N : Int), (S : Int), (D : Int), ml⟩) CK.out (L := ((Dc.splA ⟨(N : Int), (S : Int), (D : Int), ml⟩ f).map Dc.Itm.z).drop i ++ ((Dc.splA ⟨(N : Int), (S : Int), (D : Int), ml⟩ f).map Dc.Itm.z).take i) (fun x hx => ABD.out x ((PM.out i).mem_iff.1 hx)) (by have h3 := (PM.out i).length_eq; rw [h3, List.length_map]; have := ABN.out; omega) (by rw [Dc.sumE_perm (PM.out i)]; exact SUM.out.1) ao cap lo lc w' h1 h2
  have STV := Lib.hid (fun i => show Dc.sumV ⟨(N : Int), (S : Int), (D : Int), ml⟩ (((Dc.splA ⟨(N : Int), (S : Int), (D : Int), ml⟩ f).map Dc.Itm.z).drop i ++ ((Dc.splA ⟨(N : Int), (S : Int), (D : Int), ml⟩ f).map Dc.Itm.z).take i) = f by rw [Dc.sumV_perm (PM.out i)]; exact SUM.out.2)
  have SMF := Lib.hid fun (b b' : Nat) w' (h1 : Ne.LBox w' b f) (h2 : Ne.LBox w' b' f) => Ne.rsame_l (some ⟨b, 0, none⟩) (some ⟨b', 0, none⟩) f.length f.length f f w' h1.irow h2.irow (by rw [hlm]; omega) (by rw [hlm]; omega)
  rw [hlm] at SMF
  simp only [List.length_map] at SZ ST
  generalize hA : Dc.splA ⟨(N : Int), (S : Int), (D : Int), ml⟩ f = A at *
  have HA := Lib.hid hA
  clear hA
  obtain ⟨n0, n1, n2, n3⟩ := Ne.netBox_cells HN4.out
  go_wp2_with fail
  refine (SP.out om cm (some ⟨fb, 0, none⟩) ml.length w4 HR4.out HL4.out.irow).mono ?_
  rintro e w5 ⟨oa, ca, rfl, hra, hca, hb⟩
  have HB5 := Lib.hid (HB4.out.trans (hb.mono HB4.out.size))
  have HN5 := Lib.hid (Ne.netBox_below HN4.out hb (Ne.netBox_lt HN4.out))
  have HR5 := Lib.hid (HR4.out.kept hb)
  have HL5 := Lib.hid (HL4.out.kept hb)
  have HA5 := Lib.hid hra
  have HCA := Lib.hid hca
  clear hra hca hb n0 n1 n2 n3
  obtain ⟨n0, n1, n2, n3⟩ := Ne.netBox_cells HN5.out
  go_wp2_with fail
  refine (SZ.out om cm w5 HR5.out).mono ?_
  rintro e w6 ⟨bz, rfl, hbz, hlb, hb⟩
  have HB6 := Lib.hid (HB5.out.trans (hb.mono HB5.out.size))
  have HN6 := Lib.hid (Ne.netBox_below HN5.out hb (Ne.netBox_lt HN5.out))
  have HR6 := Lib.hid (HR5.out.kept hb)
  have HA6 := Lib.hid (HA5.out.kept hb)
  have HL6 := Lib.hid (HL5.out.kept hb)
  have HZ6 := Lib.hid hlb
  clear hlb hb n0 n1 n2 n3 SZ NS
  obtain ⟨n0, n1, n2, n3⟩ := Ne.netBox_cells HN6.out
  have HZC := Lib.hid (fun q (h : q < ml.length) => show w6.cell? ⟨bz, q, none⟩ = some (.int .i64 0) from by
    have := HZ6.out.cell (i := q) (by rw [List.length_replicate]; exact h)
    rwa [show Ne.amt (List.replicate ml.length 0) q = 0 by simp [Ne.amt, h]] at this)
  have hmm : ((ml.length : Int) == (ml.length : Int)) = true := by simp
  go_wp2
  go_loop [18] (fun i => ∃ q : Nat, i = .int .i64 q ∧ q ≤ ml.length) (fun i => ml.length - (intOf i).toNat)
  case atStart => exact ⟨0, rfl, Nat.zero_le _⟩
  case round =>
    obtain ⟨q, rfl, hq⟩ := hrel
    by_cases hlt : q < ml.length
    · have z0 := HZC.out q hlt
      have hqi : (q : Int) < (ml.length : Int) := by omega
      have hq0 : (0 : Int) ≤ (q : Int) := by omega
      go_wp2
      go_round
      case rel => exact ⟨q + 1, by go_num, by omega⟩
      case measure => simp [intOf]; omega
    · have eq : q = ml.length := by omega
      subst eq
      clear hlt hq HZC
      rcases A with _ | ⟨X0, L0⟩
      · go_wp2
        go_ret
        exact ⟨rfl, HB6.out⟩
      obtain ⟨K, hK⟩ : ∃ K, K = (X0 :: L0).length := ⟨_, rfl⟩
      have hK0 : 0 < K := by rw [hK]; simp
      have hK24 : K ≤ 24 := by rw [hK]; exact ABN.out
      have PK := Lib.hid fun w' => Ne.pick_any a4 (K : Int) w' A4.out.1 A4.out.2 (by omega) (by omega)
      have bpk := Ne.pickN_bd (c := a4) (n := (K : Int)) (by omega)
      generalize Ne.pickN a4 (K : Int) = pk at *
      obtain ⟨i, rfl⟩ : ∃ i : Nat, pk = (i : Int) := ⟨pk.toNat, by omega⟩
      have hiK : i < K := by omega
      have hil : i < (X0 :: L0).length := by rw [← hK]; exact hiK
      obtain ⟨X, hXi⟩ : ∃ X, (X0 :: L0)[i]? = some X := ⟨_, List.getElem?_eq_getElem hil⟩
      have hXm : X ∈ X0 :: L0 := List.mem_of_getElem? hXi
      obtain ⟨hh, hh1, hh2, hh3⟩ := AOK.out.each X hXm
      have hcap : ∀ a, a < ml.length → (Ne.arcAt ml a).cap ≤ 1000000 := fun a ha => (FI.out _ (List.mem_of_getElem? (Ne.at_arc ha))).2.2.2
      obtain ⟨r, hr⟩ : ∃ r, Dc.lst (ml.map fun x => x.cap) 1099511627776 X.arcs = r := ⟨_, rfl⟩
      obtain ⟨r1, r2, r3, ai, r4, r5, r6⟩ := room_of (n := ⟨(N : Int), (S : Int), (D : Int), ml⟩) RT.out LF.out.wi hh2 hh3 hcap hr
      have HRI := Lib.hid (Dc.isI_right hh2)
      have HIB := Lib.hid (Dc.isI_bd RT.out hh1 hh2)
      have HINN := Lib.hid hh2.inn
      have hitz : Dc.itAt ((X0 :: L0).map Dc.Itm.z) i = X.z := by
        unfold Dc.itAt
        rw [List.getD_eq_getElem?_getD, List.getElem?_map, hXi]; rfl
      have HLS := Lib.hid (fun k (h : k < X.arcs.length) => show min (Dc.lst (ml.map fun x => x.cap) 1099511627776 (X.arcs.take k)) (Ne.arcAt ml (X.arcs.getD k 0)).cap = Dc.lst (ml.map fun x => x.cap) 1099511627776 (X.arcs.take (k + 1)) by
        rw [Ne.take_getD h, Dc.lst_snoc, cap_at (HINN.out _ (Ne.getD_mem h)).1])
      have HLE := Lib.hid (show Dc.lst (ml.map fun x => x.cap) 1099511627776 (X.arcs.take X.arcs.length) = Dc.lst (ml.map fun x => x.cap) 1099511627776 X.arcs by rw [List.take_length])
      have HL0 := Lib.hid (show Dc.lst (ml.map fun x => x.cap) 1099511627776 (X.arcs.take 0) = 1099511627776 from rfl)
      have HF0 := Lib.hid (Dc.full_ok CK.out RT.out HRI.out r1 r3)
      have HF1 := Lib.hid (Dc.full_over CK.out HRI.out (m := r + 1) (by omega) r4 r5 (by rw [r6]; omega))
      have HF2 := Lib.hid (Dc.nought_arg (n := ⟨(N : Int), (S : Int), (D : Int), ml⟩) CK.out X.z.kind X.z.arcs)
      have HR0 := Lib.hid hr
      generalize hLS : Dc.lst (ml.map fun x => x.cap) 1099511627776 = LS at *
      clear hLS
      clear hr r3 r4 r5 r6 hh1 hh2 hh3 bpk hcap ai
      have BDm := Lib.hid (show ∀ m : Int, 0 ≤ m → m ≤ 2000000 → ∀ y ∈ [(⟨X.z.kind, X.z.arcs, m⟩ : Dc.ItZ)], Dc.BdI y from fun m h1 h2 y hy => by
        rw [List.mem_singleton.1 hy]
        exact ⟨HIB.out.1, by unfold Ne.in64; simp only; omega⟩)
      have SO := Lib.hid fun ao cap lo lc w' (h1 : Ne.ARow w' ao ml) h2 => Dc.sum_flow (n := ⟨(N : Int), (S : Int), (D : Int), ml⟩) CK.out (BDm.out r (by omega) (by omega)) (by simp) HF0.out ao cap lo lc w' h1 h2
      have SE1 := Lib.hid fun ao cap lo lc w' (h1 : Ne.ARow w' ao ml) h2 => Dc.sum_err (n := ⟨(N : Int), (S : Int), (D : Int), ml⟩) CK.out (BDm.out (r + 1) (by omega) (by omega)) (by simp) HF1.out (by decide) ao cap lo lc w' h1 h2
      have SE2 := Lib.hid fun ao cap lo lc w' (h1 : Ne.ARow w' ao ml) h2 => Dc.sum_err (n := ⟨(N : Int), (S : Int), (D : Int), ml⟩) CK.out (BDm.out 0 (by omega) (by omega)) (by simp) HF2.out (by decide) ao cap lo lc w' h1 h2
      replace ST := Lib.hid (ST.out i)
      rw [STV.out i] at ST
      have hKm : ((X0 :: L0).map Dc.Itm.z).length = K := by rw [List.length_map]; exact hK.symm
      have hTL : (((X0 :: L0).map Dc.Itm.z).drop i ++ ((X0 :: L0).map Dc.Itm.z).take i).length = K := by rw [(PM.out i).length_eq, hKm]
      rw [hTL] at ST
      obtain ⟨ba, offa, ao0, cc0, rfl, -⟩ := HA6.out.at (i := 0) (by rw [hKm]; exact hK0)
      obtain ⟨hca1, hca2⟩ := HCA.out
      rw [← hK] at hca1
      have hca63 : ca ≤ 9223372036854775807 := by unfold maxLen at hca2; omega
      obtain ⟨K1, q1, q2, q3⟩ := Dc.itr_drop HA6.out i
      obtain ⟨K2, p1, p2, p3⟩ := Dc.itr_take HA6.out i
      have hk1 : K1.length = K - i := by rw [q2, List.length_drop, hKm]
      have hk2 : K2.length = i := by rw [p2, List.length_take, hKm]; omega
      have HSY := Lib.hid (show ∀ (q : Nat) (kk : Dc.ItC) (x : Dc.ItZ), (K1 ++ K2)[q]? = some kk → (((X0 :: L0).map Dc.Itm.z).drop i ++ ((X0 :: L0).map Dc.Itm.z).take i)[q]? = some x → Dc.Say w6 kk x from fun q kk x g1 g2 => by
        rcases Nat.lt_or_ge q K1.length with cq | cq
        · rw [List.getElem?_append_left cq] at g1
          rw [List.getElem?_append_left (by omega)] at g2
          exact q3 q kk x g1 g2
        · rw [List.getElem?_append_right cq] at g1
          rw [List.getElem?_append_right (by omega), ← q2] at g2
          exact p3 _ kk x g1 g2)
      have HQ1 := Lib.hid q1
      have HP1 := Lib.hid p1
      have HK1 := Lib.hid hk1
      have HK2 := Lib.hid hk2
      have HTL := Lib.hid hTL
      clear q1 q2 q3 p1 p2 p3 hk1 hk2 hTL
      generalize (((X0 :: L0).map Dc.Itm.z).drop i ++ ((X0 :: L0).map Dc.Itm.z).take i) = TT at *
      obtain ⟨e1, e2, xo, xc, e5, hbl, i0, i1, i2, hrx⟩ := HA6.out.at (i := i) (by rw [hKm]; exact hiK)
      simp only [Option.some.injEq, Addr.mk.injEq, and_true] at e5
      obtain ⟨rfl, rfl⟩ := e5
      rw [hitz] at i0 i1 i2 hrx
      rw [Dc.z_len] at i1
      have hXk : X.z.kind = X.kind := rfl
      have hXa : X.z.amount = X.amount := rfl
      rw [hXk] at i0 SO SE1 SE2
      rw [hXa] at i2
      have HT6 := Lib.hid hrx
      have HKE := Lib.hid hK
      rw [← hK]
      clear hrx hXi hXm hitz hXk hXa hK hil
      have hei := (Below.refl w6.heap.size w6).alloc (Nat.le_refl _) (.cells #[] 30)
      have HE7 := Lib.hid (Ne.own_empty (α := Dc.ItC) (k := 3) (enc := Dc.encM) (e := 30) w6 w6.heap.size (Nat.le_refl _))
      have HB7 := Lib.hid (HB6.out.trans (hei.mono HB6.out.size))
      have HQ7 := Lib.hid (HQ1.out.kept hei)
      have HZ7 := Lib.hid (show w6.heap.size ≤ (w6.alloc (.cells #[] 30)).heap.size by simp)
      have HBE := Lib.hid hei
      clear hei
      have hiI : (i : Int) ≤ (K : Int) := by omega
      have hi0 : (0 : Int) ≤ (i : Int) := by omega
      have hKc : (K : Int) ≤ (ca : Int) := by omega
      have hic : (i : Int) ≤ (ca : Int) := by omega
      have hne : ca ≠ i := by omega
      have HLN1 := Lib.hid (show ([] : List Dc.ItC).length + K1.length ≤ 1099511627776 by rw [HK1.out]; simp; omega)
      go_wp2_with fail
      refine (PK.out _).mono ?_
      rintro e w' ⟨rfl, rfl⟩
      go_upto_region 19 with (at_builtin; refine Rw.app Dc.elemD Dc.encM_len Dc.encM_one rfl (.tmp 85) (.tmp 88) rfl w6.heap.size _ ([] : List Dc.ItC) rfl HE7.out (some ⟨ba, offa + i * 3, none⟩) (ca - i) K1 ?hx ?hnn HQ7.out HLN1.out ?hB ?_; (case hx => (rw [HK1.out]; rfl)); (case hnn => (intro h; cases h)); (case hB => (exact HZ7.out)); intro v8 w7 hown7 hgr7)
      have hb7 := HBE.out.grown hgr7 HBE.out.size (fun b hb => by have e := Option.some.inj (show some w6.heap.size = some b from hb); omega)
      have HO7 := Lib.hid (show Rw.Own 30 3 Dc.encM w7 w6.heap.size v8 K1 from hown7)
      have HB7a := Lib.hid hb7
      have HP7 := Lib.hid (HP1.out.kept hb7)
      have HZ8 := Lib.hid hb7.size
      have HLN2 := Lib.hid (show K1.length + K2.length ≤ 1099511627776 by rw [HK1.out, HK2.out]; omega)
      clear hown7 hgr7 hb7 HLN1 HE7 HQ7 HZ7 HBE HB7
      go_upto_region 20 with (at_builtin; refine Rw.app Dc.elemD Dc.encM_len Dc.encM_one rfl (.tmp 90) (.tmp 93) rfl w6.heap.size _ K1 rfl HO7.out (some ⟨ba, offa, none⟩) ca K2 ?hx ?hnn HP7.out HLN2.out ?hB ?_; (case hx => (rw [HK2.out]; rfl)); (case hnn => (intro h; cases h)); (case hB => (exact HZ8.out)); intro v9 w8 hown8 hgr8)
      have hb8 := HB7a.out.grown hgr8 HB7a.out.size (fun b hb => Rw.own_block HO7.out b hb)
      obtain ⟨ot, ct, g1, _, _, _, g5, _, _⟩ := Rw.own_row Dc.encM_len hown8
      have HTT := Lib.hid (show Dc.ItR w8 ot TT from ⟨K1 ++ K2, g5, by rw [List.length_append, HK1.out, HK2.out, HTL.out]; omega, fun q kk x h1 h2 => (HSY.out q kk x h1 h2).kept hb8⟩)
      rw [List.length_append, HK1.out, HK2.out, Nat.sub_add_cancel (Nat.le_of_lt hiK)] at g1
      subst g1
      have i0 := (hb8.cell (p := ⟨ba, offa + i * 3, none⟩) hbl).trans i0
      have i1 := (hb8.cell (p := ⟨ba, offa + i * 3 + 1, none⟩) hbl).trans i1
      have i2 := (hb8.cell (p := ⟨ba, offa + i * 3 + 2, none⟩) hbl).trans i2
      have HZL := Lib.hid hb8.size
      have hb := hb8
      have HB8 := Lib.hid (HB6.out.trans (hb.mono HB6.out.size))
      have HN8 := Lib.hid (Ne.netBox_below HN6.out hb (Ne.netBox_lt HN6.out))
      have HR8 := Lib.hid (HR6.out.kept hb)
      have HT8 := Lib.hid (HT6.out.kept hb)
      have HL8 := Lib.hid (HL6.out.kept hb)
      clear g5 hown8 hgr8 hb8 hb HB7a HO7 HP7 HZ8 HLN2 HQ1 HP1 HK1 HK2 HTL HSY HZ6 HA6 PK PM STV
      obtain ⟨n0, n1, n2, n3⟩ := Ne.netBox_cells HN8.out
      go_wp2_with fail
      refine (ST.out om cm ot ct w8 HR8.out HTT.out).mono ?_
      rintro e w9 ⟨bs, rfl, hbs, hlb, hb⟩
      have i0 := (hb.cell (p := ⟨ba, offa + i * 3, none⟩) (Nat.lt_of_lt_of_le hbl HZL.out)).trans i0
      have i1 := (hb.cell (p := ⟨ba, offa + i * 3 + 1, none⟩) (Nat.lt_of_lt_of_le hbl HZL.out)).trans i1
      have i2 := (hb.cell (p := ⟨ba, offa + i * 3 + 2, none⟩) (Nat.lt_of_lt_of_le hbl HZL.out)).trans i2
      have HB9 := Lib.hid (HB8.out.trans (hb.mono HB8.out.size))
      have HN9 := Lib.hid (Ne.netBox_below HN8.out hb (Ne.netBox_lt HN8.out))
      have HR9 := Lib.hid (HR8.out.kept hb)
      have HT9 := Lib.hid (HT8.out.kept hb)
      have HL9 := Lib.hid (HL8.out.kept hb)
      have HS9 := Lib.hid hlb
      clear hlb hb n0 n1 n2 n3 ST HTT
      obtain ⟨n0, n1, n2, n3⟩ := Ne.netBox_cells HN9.out
      go_upto_region 23 with fail
      obtain ⟨xb, hxb⟩ : ∃ b, b = w9.heap.size := ⟨_, rfl⟩
      have hx10 := Dc.ixb_made 30 w9 hxb X.kind (.slice xo X.arcs.length xc) X.amount
      have hb10 := (Below.refl xb w9).alloc (Nat.le_of_eq hxb) (.cells #[.int .u8 X.kind, .slice xo X.arcs.length xc, .int .i64 X.amount] 30)
      have hb := (Below.refl w9.heap.size w9).alloc (Nat.le_refl _) (.cells #[.int .u8 X.kind, .slice xo X.arcs.length xc, .int .i64 X.amount] 30)
      rw [← hxb]
      obtain ⟨w10, hw10⟩ : ∃ W, W = w9.alloc (.cells #[.int .u8 X.kind, .slice xo X.arcs.length xc, .int .i64 X.amount] 30) := ⟨_, rfl⟩
      rw [← hw10] at hx10 hb10 hb
      rw [← hw10]
      clear hw10
      have HB10 := Lib.hid (HB9.out.trans (hb.mono HB9.out.size))
      have HN10 := Lib.hid (Ne.netBox_below HN9.out hb (Ne.netBox_lt HN9.out))
      have HR10 := Lib.hid (HR9.out.kept hb)
      have HT10 := Lib.hid (HT9.out.kept hb)
      have HS10 := Lib.hid (HS9.out.kept hb)
      have HL10 := Lib.hid (HL9.out.kept hb)
      have HX10 := Lib.hid hx10
      have HBX10 := Lib.hid hb10
      have HXB := Lib.hid (show w.heap.size ≤ xb ∧ bn < xb by rw [hxb]; exact ⟨HB9.out.size, Ne.netBox_lt HN9.out⟩)
      have HRX := Lib.hid (fun W (h : Below xb w9 W) => show Ne.ARow W om ml from HR9.out.kept (by rwa [hxb] at h))
      have HTX := Lib.hid (fun W (h : Below xb w9 W) => show Ne.IRow W xo X.z.arcs from HT9.out.kept (by rwa [hxb] at h))
      have HSX := Lib.hid (fun W (h : Below xb w9 W) => show Ne.LBox W bs f from HS9.out.kept (by rwa [hxb] at h))
      have HLX := Lib.hid (fun W (h : Below xb w9 W) => show Ne.LBox W fb f from HL9.out.kept (by rwa [hxb] at h))
      have HZL := Lib.hid (show X.z.arcs.length = X.arcs.length from Dc.z_len X)
      have HXS := Lib.hid (show xb ≤ w9.heap.size from Nat.le_of_eq hxb)
      have HNX := Lib.hid (fun W (h : Below xb w9 W) => Ne.netBox_below HN9.out h HXB.out.2)
      have HWX := Lib.hid (fun W (h : Below xb w9 W) => show Below w.heap.size w W from HB9.out.trans (h.mono HXB.out.1))
      have hxl : X.arcs.length < 1000000 := by have := HIB.out.1; rwa [Dc.z_len] at this
      clear hx10 hb10 hb hxb i0 i1 i2 n0 n1 n2 n3 HN9 HR9 HT9 HS9 HL9 HB9 HB8 HB6 HZL
      go_wp2
      go_loopw [24, 25] (fun r ix W => ∃ q : Nat, ix = .int .i64 q ∧ q ≤ X.arcs.length ∧ r = .int .i64 (LS (X.arcs.take q)) ∧ Hid (Below w10.heap.size w10 W)) (fun r ix _ => X.arcs.length - (intOf ix).toNat)
      case atStart => exact ⟨0, rfl, Nat.zero_le _, by rw [HL0.out], Lib.hid (Below.refl _ _)⟩
      case round =>
        obtain ⟨q, rfl, hq, rfl, HB⟩ := hrel
        obtain ⟨n0, n1, n2, n3⟩ := Ne.netBox_cells (Ne.netBox_below HN10.out HB.out (Ne.netBox_lt HN10.out))
        obtain ⟨x0, x1, x2⟩ := Dc.ixb_cells (Dc.ixb_below HX10.out HB.out)
        by_cases hlt : q < X.arcs.length
        · obtain ⟨hal, hag⟩ := HINN.out _ (Ne.getD_mem hlt)
          obtain ⟨bw, offw, e8, hbw, d0⟩ := Ne.irow_cell (HT10.out.kept HB.out) (i := q) (by rw [Dc.z_len]; exact hlt)
          subst e8
          rw [Dc.z_at X hlt] at d0
          obtain ⟨b, off, e9, hba, c0, c1, c2⟩ := Ne.arow_cell (HR10.out.kept HB.out) hal
          subst e9
          have HST := HLS.out q hlt
          generalize X.arcs.getD q 0 = a at *
          generalize (Ne.arcAt ml a).cap = ca2 at *
          generalize LS (X.arcs.take q) = m at *
          have hal' : a < ml.length := hal
          have hKI : (a : Int) < (ml.length : Int) := by omega
          have hK0 : (0 : Int) ≤ (a : Int) := by omega
          have hqI : (q : Int) < (X.arcs.length : Int) := by omega
          have hq0 : (0 : Int) ≤ (q : Int) := by omega
          clear hal hag
          go_wp2
          go_quiet (fail)
          go_wp2
          go_roundw
          case rel => exact ⟨q + 1, by go_num, by omega, by rw [← HST], Lib.hid (HB.out.trans ((Rw.below_drewN wr _).mono HB.out.size))⟩
          case measure => simp [intOf]; omega
        · have eq : q = X.arcs.length := by omega
          subst eq
          have hqN : ¬ (X.arcs.length : Int) < (X.arcs.length : Int) := by omega
          rw [HLE.out, HR0.out]
          clear hlt hq x0 x1 x2 n0 n1 n2 n3
          obtain ⟨w11, hw11⟩ : ∃ W, W = wr := ⟨_, rfl⟩
          subst hw11
          have HX11 := Lib.hid (Dc.ixb_below HX10.out HB.out)
          have HBX11 := Lib.hid (HBX10.out.trans (HB.out.mono (Nat.le_trans HXS.out HBX10.out.size)))
          clear HB HX10 HBX10 HN10 HR10 HT10 HS10 HL10 HB10 HLS HLE HL0
          obtain ⟨x0, x1, x2⟩ := Dc.ixb_cells HX11.out
          have xf := Dc.ixb_frozen HX11.out 2
          go_upto_region 28 with fail
          have hx12 := Dc.ixb_am HX11.out (r)
          have hb12 := HBX11.out.setCell (p := ⟨xb, 2, none⟩) (Nat.le_refl _) (.int .i64 (r))
          obtain ⟨w12, hw12⟩ : ∃ W, W = w11.setCell ⟨xb, 2, none⟩ (.int .i64 (r)) := ⟨_, rfl⟩
          rw [← hw12] at hx12 hb12
          rw [← hw12]
          have HX12 := Lib.hid hx12
          have HBX12 := Lib.hid hb12
          clear hw12 hx12 hb12 x0 x1 x2 xf HX11 HBX11
          have hba := (Below.refl w12.heap.size w12).alloc (Nat.le_refl _) (.cells #[.int .u8 X.kind, .slice xo X.arcs.length xc, .int .i64 (r)] 30)
          have HBXa := Lib.hid (HBX12.out.trans (hba.mono (Nat.le_trans HXS.out HBX12.out.size)))
          have HXa := Lib.hid (Dc.ixb_below HX12.out hba)
          have HKa := Lib.hid (show Dc.ItR (w12.alloc (.cells #[.int .u8 X.kind, .slice xo X.arcs.length xc, .int .i64 (r)] 30)) (some ⟨w12.heap.size, 0, none⟩) [⟨X.z.kind, X.z.arcs, r⟩] from ⟨[⟨X.kind, xo, X.arcs.length, xc, r⟩], Dc.mrow_one w12 rfl 30 ⟨X.kind, xo, X.arcs.length, xc, r⟩, rfl, fun q kk x h1 h2 => by
            have e0 : q = 0 := by
              have := (List.getElem?_eq_some_iff.1 h1).1
              simp at this; omega
            subst e0
            simp at h1 h2
            subst h1
            subst h2
            exact ⟨rfl, rfl, (Dc.z_len X).symm, HTX.out _ HBXa.out⟩⟩)
          have HRa := Lib.hid (HRX.out _ HBXa.out)
          clear hba
          obtain ⟨n0, n1, n2, n3⟩ := Ne.netBox_cells (HNX.out _ HBX12.out)
          obtain ⟨x0, x1, x2⟩ := Dc.ixb_cells HX12.out
          go_wp2_with fail
          refine (SO.out om cm (some ⟨w12.heap.size, 0, none⟩) 1 _ HRa.out HKa.out).mono ?_
          rintro e w13 ⟨bo, rfl, hbo, hlo, hb⟩
          have HX13 := Lib.hid (Dc.ixb_below HXa.out hb)
          have HBX13 := Lib.hid (HBXa.out.trans (hb.mono (Nat.le_trans HXS.out HBXa.out.size)))
          clear hb n0 n1 n2 n3 x0 x1 x2 HXa HBXa HKa HRa HX12 HBX12 SO
          clear hbo hlo
          have hrw : IntKind.i64.wrap (r + 1) = r + 1 := by rw [IntKind.wrap_i64]; omega
          obtain ⟨x0, x1, x2⟩ := Dc.ixb_cells HX13.out
          have xf := Dc.ixb_frozen HX13.out 2
          go_upto_region 30 with fail
          have hx14 := Dc.ixb_am HX13.out (r + 1)
          have hb14 := HBX13.out.setCell (p := ⟨xb, 2, none⟩) (Nat.le_refl _) (.int .i64 (r + 1))
          obtain ⟨w14, hw14⟩ : ∃ W, W = w13.setCell ⟨xb, 2, none⟩ (.int .i64 (r + 1)) := ⟨_, rfl⟩
          rw [← hw14] at hx14 hb14
          rw [← hw14]
          have HX14 := Lib.hid hx14
          have HBX14 := Lib.hid hb14
          clear hw14 hx14 hb14 x0 x1 x2 xf HX13 HBX13
          have hba := (Below.refl w14.heap.size w14).alloc (Nat.le_refl _) (.cells #[.int .u8 X.kind, .slice xo X.arcs.length xc, .int .i64 (r + 1)] 30)
          have HBXa := Lib.hid (HBX14.out.trans (hba.mono (Nat.le_trans HXS.out HBX14.out.size)))
          have HXa := Lib.hid (Dc.ixb_below HX14.out hba)
          have HKa := Lib.hid (show Dc.ItR (w14.alloc (.cells #[.int .u8 X.kind, .slice xo X.arcs.length xc, .int .i64 (r + 1)] 30)) (some ⟨w14.heap.size, 0, none⟩) [⟨X.z.kind, X.z.arcs, r + 1⟩] from ⟨[⟨X.kind, xo, X.arcs.length, xc, r + 1⟩], Dc.mrow_one w14 rfl 30 ⟨X.kind, xo, X.arcs.length, xc, r + 1⟩, rfl, fun q kk x h1 h2 => by
            have e0 : q = 0 := by
              have := (List.getElem?_eq_some_iff.1 h1).1
              simp at this; omega
            subst e0
            simp at h1 h2
            subst h1
            subst h2
            exact ⟨rfl, rfl, (Dc.z_len X).symm, HTX.out _ HBXa.out⟩⟩)
          have HRa := Lib.hid (HRX.out _ HBXa.out)
          clear hba
          obtain ⟨n0, n1, n2, n3⟩ := Ne.netBox_cells (HNX.out _ HBX14.out)
          obtain ⟨x0, x1, x2⟩ := Dc.ixb_cells HX14.out
          go_wp2_with fail
          refine (SE1.out om cm (some ⟨w14.heap.size, 0, none⟩) 1 _ HRa.out HKa.out).mono ?_
          rintro e w15 ⟨rfl, hb⟩
          have HX15 := Lib.hid (Dc.ixb_below HXa.out hb)
          have HBX15 := Lib.hid (HBXa.out.trans (hb.mono (Nat.le_trans HXS.out HBXa.out.size)))
          clear hb n0 n1 n2 n3 x0 x1 x2 HXa HBXa HKa HRa HX14 HBX14 SE1
          obtain ⟨x0, x1, x2⟩ := Dc.ixb_cells HX15.out
          have xf := Dc.ixb_frozen HX15.out 2
          go_upto_region 32 with fail
          have hx16 := Dc.ixb_am HX15.out (0)
          have hb16 := HBX15.out.setCell (p := ⟨xb, 2, none⟩) (Nat.le_refl _) (.int .i64 (0))
          obtain ⟨w16, hw16⟩ : ∃ W, W = w15.setCell ⟨xb, 2, none⟩ (.int .i64 (0)) := ⟨_, rfl⟩
          rw [← hw16] at hx16 hb16
          rw [← hw16]
          have HX16 := Lib.hid hx16
          have HBX16 := Lib.hid hb16
          clear hw16 hx16 hb16 x0 x1 x2 xf HX15 HBX15
          have hba := (Below.refl w16.heap.size w16).alloc (Nat.le_refl _) (.cells #[.int .u8 X.kind, .slice xo X.arcs.length xc, .int .i64 (0)] 30)
          have HBXa := Lib.hid (HBX16.out.trans (hba.mono (Nat.le_trans HXS.out HBX16.out.size)))
          have HXa := Lib.hid (Dc.ixb_below HX16.out hba)
          have HKa := Lib.hid (show Dc.ItR (w16.alloc (.cells #[.int .u8 X.kind, .slice xo X.arcs.length xc, .int .i64 (0)] 30)) (some ⟨w16.heap.size, 0, none⟩) [⟨X.z.kind, X.z.arcs, 0⟩] from ⟨[⟨X.kind, xo, X.arcs.length, xc, 0⟩], Dc.mrow_one w16 rfl 30 ⟨X.kind, xo, X.arcs.length, xc, 0⟩, rfl, fun q kk x h1 h2 => by
            have e0 : q = 0 := by
              have := (List.getElem?_eq_some_iff.1 h1).1
              simp at this; omega
            subst e0
            simp at h1 h2
            subst h1
            subst h2
            exact ⟨rfl, rfl, (Dc.z_len X).symm, HTX.out _ HBXa.out⟩⟩)
          have HRa := Lib.hid (HRX.out _ HBXa.out)
          clear hba
          obtain ⟨n0, n1, n2, n3⟩ := Ne.netBox_cells (HNX.out _ HBX16.out)
          obtain ⟨x0, x1, x2⟩ := Dc.ixb_cells HX16.out
          go_wp2_with fail
          refine (SE2.out om cm (some ⟨w16.heap.size, 0, none⟩) 1 _ HRa.out HKa.out).mono ?_
          rintro e w17 ⟨rfl, hb⟩
          have HX17 := Lib.hid (Dc.ixb_below HXa.out hb)
          have HBX17 := Lib.hid (HBXa.out.trans (hb.mono (Nat.le_trans HXS.out HBXa.out.size)))
          clear hb n0 n1 n2 n3 x0 x1 x2 HXa HBXa HKa HRa HX16 HBX16 SE2
          have HSa := HSX.out _ HBX17.out
          have HLa := HLX.out _ HBX17.out
          have HB17 := Lib.hid (HWX.out _ HBX17.out)
          go_wp2_with fail
          refine (SMF.out bs fb w17 HSa HLa).mono ?_
          rintro e w18 ⟨rfl, hb⟩
          have HB18 := Lib.hid (HB17.out.trans (hb.mono HB17.out.size))
          clear hb
          go_wp2
          go_ret
          exact ⟨rfl, HB18.out⟩

end Go.Proofs.Ytkeojkddbannpaa.decompOrder
