/-
  Nbr
-/
import Derived.Test.YtiaddfmgkcebnaaBunB4
import Derived.Test.YtiaddfmgkcebnaaBunB27
namespace Go.Proofs.Ytiaddfmgkcebnaa
open Go.ChangeShapes Go.WideShapes Go.ChangeAt Go.RowKit
set_option linter.unusedVariables false
set_option linter.unusedSimpArgs false
namespace Ne
set_option maxRecDepth 100000 in
set_option maxHeartbeats 4000000 in
theorem nbr_any (n : Net) (ao : Option Addr) (cap : Nat) (tk : Option Addr) (tc : Nat) (T : List Nat) (w : World) (hr : ARow w ao n.l) (ht : IRow w tk (encW T)) (hR : Right n) (hT : ∀ r ∈ T, r < 2 * n.l.length) (hTl : T.length ≤ 1000000) :
    Calls Try.prog 66 #[encN n ao cap, .slice tk T.length tc] w fun e w' => ∃ lb VS, e = .returned (.slice (some ⟨lb, 0, none⟩) (n.n.toNat + 1) (n.n.toNat + 1)) ∧ GBox w' lb (n.n.toNat + 1) VS (nbL n.l T) ∧ w.heap.size ≤ lb ∧ Below w.heap.size w w' := by
  have hl : n.l.length ≤ 1000000 := by have := hR.len; omega
  have hLL := hR.len
  have hN0 := hR.n0
  have hN1 := hR.n1
  have HEN := Lib.hid (fun (j : Nat) (h : j < 2 * n.l.length) w' h1 => show Calls Try.prog 44 #[encN n ao cap, .int .i64 (j : Int)] w' fun e w2 => e = .returned (.tuple #[.int .i64 (((trF n.l j).toNat : Nat) : Int), .int .i64 (((trT n.l j).toNat : Nat) : Int)]) ∧ Below w'.heap.size w' w2 by
    have := ends_any n ao cap (j : Int) w' h1 hl (by unfold in64; omega)
    rw [enF_in h, enT_in h] at this
    have hb := trF_bd hR h
    have hb2 := trT_bd hR h
    rwa [show (((trF n.l j).toNat : Nat) : Int) = trF n.l j by omega, show (((trT n.l j).toNat : Nat) : Int) = trT n.l j by omega])
  have HTB := Lib.hid (fun (j : Nat) (h : j < 2 * n.l.length) => show (trF n.l j).toNat < n.n.toNat + 1 by have := trF_bd hR h; omega)
  have HST := Lib.hid (fun (j : Nat) (h : j < T.length) (v : Nat) => show (if v = (trF n.l (T.getD j 0)).toNat then nbL n.l (T.take j) (trF n.l (T.getD j 0)).toNat ++ [(trT n.l (T.getD j 0)).toNat] else nbL n.l (T.take j) v) = nbL n.l (T.take (j + 1)) v by
    rw [show T.take (j + 1) = T.take j ++ [T.getD j 0] by rw [List.take_add_one, List.getElem?_eq_getElem h]; simp [List.getD_eq_getElem?_getD, List.getElem?_eq_getElem h], nbL_snoc]
    by_cases e : v = (trF n.l (T.getD j 0)).toNat
    · subst e; rw [if_pos rfl]
    · rw [if_neg e, if_neg e])
  have HFL := Lib.hid (fun (k v : Nat) => show (nbL n.l (T.take k) v).length ≤ 1000000 by have := nbL_len n.l (T.take k) v; simp at this; omega)
  have HF0 := Lib.hid (fun (v : Nat) => show nbL n.l (T.take 0) v = [] by simp [nbL])
  have HFA := Lib.hid (show (fun v => nbL n.l (T.take T.length) v) = nbL n.l T by rw [List.take_length])
  have HTD := Lib.hid (fun (j : Nat) (h : j < T.length) => show T.getD j 0 < 2 * n.l.length from hT _ (getD_mem h))
  have HTC := Lib.hid (fun (j : Nat) (h : j < T.length) => encW_at (l := T) h)
  have HTL := Lib.hid (encW_len T)
  rw [← HFA.out]
  obtain ⟨FL, hFL⟩ : ∃ FL, FL = fun k v => nbL n.l (T.take k) v := ⟨_, rfl⟩
  simp only [show ∀ k v, nbL n.l (T.take k) v = FL k v from fun k v => by rw [hFL]] at HST HFL HF0 ⊢
  clear hFL HFA
  obtain ⟨TD, hTD⟩ : ∃ TD : Nat → Nat, TD = fun j => T.getD j 0 := ⟨_, rfl⟩
  have HTDE := Lib.hid (show ∀ j, T.getD j 0 = TD j from fun j => by rw [hTD])
  clear hTD
  simp only [HTDE.out] at HST HTD HTC
  clear HTDE hT
  have HT := Lib.hid ht
  clear ht
  generalize encW T = TW at *
  generalize T.length = tl at *
  generalize hTF : (fun j => (trF n.l j).toNat) = TF at *
  have HTE := Lib.hid (show ∀ j, (trF n.l j).toNat = TF j from fun j => by rw [← hTF])
  clear hTF
  generalize hTT : (fun j => (trT n.l j).toNat) = TT at *
  have HTG := Lib.hid (show ∀ j, (trT n.l j).toNat = TT j from fun j => by rw [← hTT])
  clear hTT
  simp only [HTE.out, HTG.out] at HEN HTB HST
  clear HTE HTG hR
  obtain ⟨nn, ns, nt, l⟩ := n
  simp only at hr hl hLL hN0 hN1 HEN HTB HTD ⊢
  obtain ⟨N, rfl⟩ : ∃ N : Nat, nn = (N : Int) := ⟨nn.toNat, by omega⟩
  simp only [Int.toNat_natCast] at HTB ⊢
  have hmk := make_r (N + 1) (by omega)
  simp only [Int.natCast_add, Int.natCast_one] at hmk
  have HB0 := Lib.hid ((Below.refl w.heap.size w).alloc (Nat.le_refl _) (.cells #[.int .i64 (N : Int), .int .i64 ns, .int .i64 nt, .slice ao l.length cap] 24))
  have HN0 := Lib.hid (netBox_new w (N : Int) ns nt (.slice ao l.length cap))
  have HR := Lib.hid hr
  clear hr
  obtain ⟨n0, n1, n2, n3⟩ := netBox_cells HN0.out
  have HZ : (w.alloc (.cells #[.int .i64 (N : Int), .int .i64 ns, .int .i64 nt, .slice ao l.length cap] 24)).heap.size = w.heap.size + 1 := by simp
  have HZH := Lib.hid HZ
  clear HZ
  go_enter Try.func66, Try.ntmps66
  go_wp2_with fail
  have HG0 := Lib.hid (gbox_made (w.alloc (.cells #[.int .i64 (N : Int), .int .i64 ns, .int .i64 nt, .slice ao l.length cap] 24)) (N + 1) (b := w.heap.size + 1) HZH.out.symm)
  have HBG := Lib.hid (HB0.out.alloc (by rw [HZH.out]; omega) (.cells (madeCells #[.slice none 0 0] (N + 1)) 36))
  have HNG := Lib.hid (netBox_alloc HN0.out (.cells (madeCells #[.slice none 0 0] (N + 1)) 36))
  clear hmk n0 n1 n2 n3 HB0 HN0
  generalize ((w.alloc (.cells #[.int .i64 (N : Int), .int .i64 ns, .int .i64 nt, .slice ao l.length cap] 24)).alloc (.cells (madeCells #[.slice none 0 0] (N + 1)) 36)) = W1 at *
  have HGX := Lib.hid (gbox_same HG0.out (U' := fun v => FL 0 v) (fun v _ => (HF0.out _).symm))
  have HZX := Lib.hid (show w.heap.size + 1 < W1.heap.size from HGX.out.lt)
  have HBX := HBG
  have HNX := HNG
  clear HG0 HF0 HZH
  go_wp2
  obtain ⟨lb, hlb⟩ : ∃ lb, lb = w.heap.size + 1 := ⟨_, rfl⟩
  rw [← hlb] at HGX HZX ⊢
  have HLB := Lib.hid hlb
  clear hlb
  go_loopw [16] (fun i wr => ∃ (j : Nat) (VS : Nat → Value), i = .int .i64 j ∧ j ≤ tl ∧ Hid (GBox wr lb (N + 1) VS (fun v => FL j v)) ∧ Hid (Below w.heap.size w wr) ∧ Hid (NetBox wr w.heap.size (N : Int) ns nt (.slice ao l.length cap))) (fun i _ => tl - (intOf i).toNat)
  case atStart => exact ⟨0, _, rfl, Nat.zero_le _, HGX, HBX, HNX⟩
  case round =>
    obtain ⟨j, VS, rfl, hj, HGW, HBW, HNW⟩ := hrel
    by_cases hlt : j < tl
    · obtain ⟨n0, n1, n2, n3⟩ := netBox_cells HNW.out
      have hji : (j : Int) < (tl : Int) := by omega
      have hj0 : (0 : Int) ≤ (j : Int) := by omega
      have HSJ := Lib.hid (HST.out j hlt)
      obtain ⟨b2, off2, rfl, hbl2, d0⟩ := irow_cell (HT.out.kept HBW.out) (i := j) (by rw [HTL.out]; exact hlt)
      rw [HTC.out j hlt] at d0
      have hrj := HTD.out j hlt
      generalize TD j = r at *
      have EN := Lib.hid (fun w' => HEN.out r hrj w')
      have htb := HTB.out r hrj
      generalize TF r = t at *
      generalize TT r = y at *
      have hti : (t : Int) < (N : Int) + 1 := by omega
      have ht0 : (0 : Int) ≤ (t : Int) := by omega
      have HOV := Lib.hid (HGW.out.own t htb)
      go_wp2_with fail
      refine (EN.out _ (HR.out.kept HBW.out)).mono ?_
      rintro e w2 ⟨rfl, hb⟩
      have HB2 := Lib.hid (HBW.out.trans (hb.mono HBW.out.size))
      have HN2 := Lib.hid (netBox_below HNW.out hb (netBox_lt HNW.out))
      have HG2 := Lib.hid (HGW.out.below hb)
      have c0 := HG2.out.cell htb
      have HFR := Lib.hid (World.rowIs.frozen HG2.out.row t)
      have HO3 := Lib.hid (Rw.own_alloc (HG2.out.own t htb) (.cells #[.int .i64 (y : Int)] 3))
      have HG3 := Lib.hid (HG2.out.alloc (.cells #[.int .i64 (y : Int)] 3))
      have HR3 := Lib.hid (irow_one' w2 rfl (y : Int) 3)
      have HLN := Lib.hid (show (encW (FL j t)).length + ([(y : Int)] : List Int).length ≤ 1099511627776 by have := HFL.out j t; rw [encW_len]; simp; omega)
      have HB3 := Lib.hid (HB2.out.alloc HB2.out.size (.cells #[.int .i64 (y : Int)] 3))
      have HN3 := Lib.hid (netBox_alloc HN2.out (.cells #[.int .i64 (y : Int)] 3))
      have HL3 := Lib.hid (show lb + 1 ≤ (w2.alloc (.cells #[.int .i64 (y : Int)] 3)).heap.size by have := HG3.out.lt; omega)
      have HVB := Lib.hid (Rw.own_lt HO3.out)
      have hlbw : w.heap.size < lb := by have := HLB.out; omega
      clear hb n0 n1 n2 n3 HOV
      obtain ⟨VT, hVT⟩ : ∃ VT, VT = VS t := ⟨_, rfl⟩
      have HVT := Lib.hid hVT
      rw [← hVT] at c0 HO3 HVB
      clear hVT
      obtain ⟨at_, ct, hat, _, _, hnt, _, _, hat2⟩ := Rw.own_row encI_len HO3.out
      subst hat
      go_wp2_with (at_builtin; refine Rw.appAt elemI encI_len encI_one rfl (.tmp 31) (.tmp 33) rfl (lb + 1) _ (encW (FL j t)) rfl HO3.out ⟨w2.heap.size, 0, none⟩ 1 [(y : Int)] rfl HR3.out HLN.out ?hB ?_; (case hB => (exact HL3.out)); intro v4 w4 hown4 hgr4 hat4; rw [← encW_snoc] at hown4; obtain ⟨o4, c4v, hv4, _, _, _, _⟩ := Rw.own_row encI_len hown4; rw [encW_len, List.length_append, List.length_singleton] at hv4; subst hv4; have HO4 := Lib.hid hown4; have HGR := Lib.hid hgr4; have HA4 := Lib.hid hat4; have f4 : w4.frozen? ⟨lb, t, none⟩ = false := World.rowIs.frozen (World.rowIs.of_block HG3.out.row (hgr4.block lb HG3.out.lt (fun e => by have := (HVB.out lb e.symm).1; omega))) t; have c4 := World.rowIs.cell (World.rowIs.of_block HG3.out.row (hgr4.block lb HG3.out.lt (fun e => by have := (HVB.out lb e.symm).1; omega))) htb; clear hown4 hgr4 hat4)
      have HG5 := Lib.hid (GBox.put HG3.out htb (u := FL j t ++ [y]) (by rw [← HVT.out]; exact HGR.out) HO4.out (by rw [← HVT.out]; exact HA4.out))
      have HG6 := Lib.hid (gbox_same HG5.out (U' := fun v => FL (j + 1) v) (fun v hv => HSJ.out v))
      have HB4 := Lib.hid (HB3.out.grown HGR.out HB3.out.size (fun b hb => by have := (HVB.out b hb).1; omega))
      have HN4 := Lib.hid (netBox_grown HN3.out HGR.out (fun e => by have := (HVB.out _ e.symm).1; omega))
      have HB5 := Lib.hid (HB4.out.setCell (p := ⟨lb, t, none⟩) (by show w.heap.size ≤ lb; omega) (.slice o4 ((FL j t).length + 1) c4v))
      have HN5 := Lib.hid (netBox_other HN4.out (b2 := lb) (o := t) (v2 := .slice o4 ((FL j t).length + 1) c4v) (by omega))
      go_roundw
      case rel => exact ⟨j + 1, _, by go_num, by omega, HG6, HB5, HN5⟩
      case measure => simp [intOf]; omega
    · have ej : j = tl := by omega
      subst ej
      clear hlt hj
      go_wp2
      go_ret
      exact ⟨lb, VS, rfl, HGW.out, by have := HLB.out; omega, HBW.out⟩
end Ne
end Go.Proofs.Ytiaddfmgkcebnaa
