/-
  Stage 15: contracts of the developers' take, for each kind. Condition: the rest's memory is its own, the arcs are there, the amounts in bounds. (Written by wip/tools/gen-Rsd.py.)
-/
import Derived.Test.YtkeojkddbannpaaRsb
import Derived.Test.YtkeojkddbannpaaIbx
import Derived.Laws.Rows
namespace Go.Proofs.Ytkeojkddbannpaa
open Go.ChangeShapes Go.WideShapes Go.ChangeAt Go.RowKit
set_option linter.unusedVariables false
set_option linter.unusedSimpArgs false
namespace Dc
open Go.Proofs.Ytkeojkddbannpaa.Ne
open Sp (Off)
theorem lst_snoc (g : List Int) (x : Int) (R : List Nat) (a : Nat) : lst g x (R ++ [a]) = min (lst g x R) (amt g a) := by
  unfold lst; rw [List.foldl_append]
  show (if _ < _ then _ else _) = _
  rw [Int.min_def]
  split <;> split <;> omega
/-- the least amount, from the first one on -/
def lsA (g : List Int) (R : List Nat) : Int := lst g (amt g (R.getD 0 0)) R
theorem lsA_le {g : List Int} {R : List Nat} (hne : R ≠ []) : (∀ a ∈ R, lsA g R ≤ amt g a) ∧ ∃ a ∈ R, lsA g R = amt g a := by
  obtain ⟨h1, h2, h3⟩ := lst_le (g := g) R (amt g (R.getD 0 0))
  refine ⟨h2, ?_⟩
  rcases h3 with h | h
  · exact ⟨_, getD_mem (List.length_pos_iff.2 hne), h⟩
  · exact h
theorem lst_min {g : List Int} {R : List Nat} (hne : R ≠ []) (x : Int) : lst g x R = min (lsA g R) x := by
  obtain ⟨h1, h2, h3⟩ := lst_le (g := g) R x
  obtain ⟨g1, a, ha, g2⟩ := lsA_le (g := g) hne
  have := h2 a ha
  rw [Int.min_def]
  rcases h3 with h | ⟨b, hb, h⟩
  · split <;> omega
  · have := g1 b hb
    split <;> omega
section
variable {n : Net} {ao : Option Addr} {cap : Nat} {w0 w : World} {rb lb lo hi : Nat} {av : Value} {g : List Int} {x : Int} {va : Value} {A : List Nat} {VS : Nat → Value} {U : Nat → List Nat}
set_option maxRecDepth 100000 in
set_option maxHeartbeats 4000000 in
theorem take_p (st : RsM n ao cap w0 w rb lb lo hi av g x va A VS U) (R : List Nat) (ro : Option Addr) (rc : Nat) (hne : R ≠ []) (hin : ∀ a ∈ R, a < g.length ∧ 0 ≤ amt g a ∧ amt g a ≤ 4611686018427387904) (hnd : R.Nodup) (hrow : ∀ w', Off (RsF rb lb av) w w' → IRow w' ro (encW R)) (hgl : g.length ≤ 1000000) (hRl : R.length ≤ 1000000) (hx : -4611686018427387904 ≤ x ∧ x ≤ 4611686018427387904) (ham : 0 ≤ min (lsA g R) x) :
    Calls Try.prog 39 #[.pointer (some ⟨rb, 0, none⟩), .int .u8 112, .slice ro R.length rc] w fun e w' => e = .returned (.agg #[.int .u8 112, .slice ro R.length rc, .int .i64 (min (lsA g R) x)]) ∧ RsM n ao cap w0 w' rb lb lo hi av (addN (-(min (lsA g R) x)) g R) (x - min (lsA g R) x) va A VS U ∧ Off (RsF rb lb av) w w' := by
  have HROW := Lib.hid hrow
  have HIN := Lib.hid (fun j (hj : j < R.length) => hin _ (getD_mem hj))
  obtain ⟨hle, a0, ha0, hae⟩ := lsA_le (g := g) hne
  have hA := hin a0 ha0
  have HAMB := Lib.hid (show 0 ≤ (min (lsA g R) x) ∧ (min (lsA g R) x) ≤ 4611686018427387904 ∧ ∀ j, j < R.length → (min (lsA g R) x) ≤ amt g (R.getD j 0) from by
    have h9 : (min (lsA g R) x) ≤ lsA g R := by exact Int.min_le_left _ _
    exact ⟨ham, by omega, fun j hj => Int.le_trans h9 (hle _ (getD_mem hj))⟩)
  have HL0 := Lib.hid (show amt g (R.getD 0 0) = lst g (amt g (R.getD 0 0)) (R.take 0) from rfl)
  have HLS := Lib.hid (fun j (hj : j < R.length) => show min (lst g (amt g (R.getD 0 0)) (R.take j)) (amt g (R.getD j 0)) = lst g (amt g (R.getD 0 0)) (R.take (j + 1)) by rw [take_getD hj, lst_snoc])
  have HLE := Lib.hid (show lst g (amt g (R.getD 0 0)) (R.take R.length) = lsA g R by rw [List.take_length]; rfl)
  have HAD := Lib.hid (fun m j (hj : j < R.length) => show (addN m g (R.take j)).set (R.getD j 0) (amt g (R.getD j 0) + m) = addN m g (R.take (j + 1)) ∧ amt (addN m g (R.take j)) (R.getD j 0) = amt g (R.getD j 0) from by
    have h1 : amt (addN m g (R.take j)) (R.getD j 0) = amt g (R.getD j 0) := by
      rw [addN_at _ _ (hnd.sublist (List.take_sublist _ _)) (fun k hk => (hin k (List.mem_of_mem_take hk)).1), if_neg (getD_notin hnd hj), Int.add_zero]
    exact ⟨by rw [take_getD hj, addN_snoc, h1], h1⟩)
  have HAE := Lib.hid (fun m => show addN m g (R.take R.length) = addN m g R by rw [List.take_length])
  have HAL := Lib.hid (fun m j => addN_len m (R.take j) g)
  have HST := Lib.hid st
  have HRB := Lib.hid st.lt.1
  have hlen : 0 < R.length := List.length_pos_iff.2 hne
  obtain ⟨L, hL⟩ : ∃ L, L = R.length := ⟨_, rfl⟩
  rw [← hL] at HIN HAMB HLS HLE HAD HAE hlen hRl ⊢
  have HLR := Lib.hid (show (encW R).length = L by rw [encW_len, hL])
  have HEW := Lib.hid (fun j (hj : j < L) => encW_at (l := R) (i := j) (by rw [← hL]; exact hj))
  obtain ⟨AM, hAM⟩ : ∃ AM, AM = min (lsA g R) x := ⟨_, rfl⟩
  rw [← hAM] at HAMB ⊢
  have HAM := Lib.hid hAM
  clear hL hne hin hnd hrow hle ha0 hae hA ham st hAM
  have HST1 := Lib.hid (HST.out.alloc (.cells #[.int .u8 0, .slice none 0 0, .int .i64 0] 30))
  have HOF1 := Lib.hid (show Off (RsF rb lb av) w (w.alloc (.cells #[.int .u8 0, .slice none 0 0, .int .i64 0] 30)) from (Off.refl _ w).alloc _)
  have HBX1 := Lib.hid (show IxB 30 (w.alloc (.cells #[.int .u8 0, .slice none 0 0, .int .i64 0] 30)) w.heap.size 0 (.slice none 0 0) 0 from ixb_new _ _ rfl)
  go_enter Try.func39, Try.ntmps39
  go_upto_region 1 with fail
  generalize hW1 : (w.alloc (.cells #[.int .u8 0, .slice none 0 0, .int .i64 0] 30)) = w1 at *
  have HW1 := Lib.hid hW1
  clear hW1
  obtain ⟨r0, r1, r2, r3, r4, r5, r6, r7⟩ := rblk_cells HST1.out.blk
  obtain ⟨bq, bo, rfl, _, e0⟩ := irow_cell (HROW.out _ HOF1.out) (i := 0) (by rw [HLR.out]; exact hlen)
  rw [HEW.out 0 hlen] at e0
  simp only [Nat.add_zero] at e0
  obtain ⟨q, c2, hav, hq, d0⟩ := HST1.out.amount (HIN.out 0 hlen).1
  have HAV := Lib.hid hav
  rw [hav] at r4
  have hai := (HIN.out 0 hlen).1
  have hai1 : ((R.getD 0 0 : Nat) : Int) < (g.length : Int) := by omega
  have hai0 : (0 : Int) ≤ ((R.getD 0 0 : Nat) : Int) := by omega
  have hl0 : (0 : Int) < (L : Int) := by omega
  clear r0 r1 r2 r3 r5 r6 r7 hai hav
  generalize hA0 : amt g (R.getD 0 0) = A0 at *
  generalize R.getD 0 0 = a0 at d0 e0 hai1 hai0
  have HST2 := Lib.hid (fun q => HST1.out.dn q)
  have HOF2 := Lib.hid (fun q => HOF1.out.drewN q)
  have HBX2 := Lib.hid (fun q => show IxB 30 (w1.drewN q) w.heap.size 0 (.slice none 0 0) 0 from HBX1.out)
  go_quiet (fail)
  have HST3 := Lib.hid (HST2.out nq)
  have HOF3 := Lib.hid (HOF2.out nq)
  have HBX3 := Lib.hid (HBX2.out nq)
  have HWQ := Lib.hid (show w.heap.size < (w1.drewN nq).heap.size from ixb_lt HBX3.out)
  generalize w1.drewN nq = w2 at *
  clear HST1 HOF1 HBX1 d0 e0 hai1 hai0 r4 HST2 HOF2 HBX2
  go_wp2
  go_loop [7, 23] (fun m i => ∃ (j : Nat) (m' : Int), m = .int .i64 m' ∧ i = .int .i64 j ∧ j ≤ L ∧ Hid (m' = lst g A0 (R.take j))) (fun _ i => L - (intOf i).toNat)
  case atStart => exact ⟨0, A0, rfl, rfl, Nat.zero_le _, HL0⟩
  case round =>
    obtain ⟨j, m', rfl, rfl, hj, HM⟩ := hrel
    by_cases hlt : j < L
    · obtain ⟨bq2, bo2, e, _, e0⟩ := irow_cell (HROW.out _ HOF3.out) (i := j) (by rw [HLR.out]; exact hlt)
      simp only [Option.some.injEq, Addr.mk.injEq, and_true] at e
      obtain ⟨rfl, rfl⟩ := e
      rw [HEW.out j hlt] at e0
      obtain ⟨q3, c3, hav3, _, d0⟩ := HST3.out.amount (HIN.out j hlt).1
      rw [HAV.out] at hav3
      simp only [Value.slice.injEq, Option.some.injEq, Addr.mk.injEq, and_true, true_and] at hav3
      obtain ⟨rfl, rfl⟩ := hav3
      obtain ⟨r0, r1, r2, r3, r4, r5, r6, r7⟩ := rblk_cells HST3.out.blk
      rw [HAV.out] at r4
      have hai := (HIN.out j hlt).1
      have HMN := Lib.hid (show min m' (amt g (R.getD j 0)) = lst g A0 (R.take (j + 1)) by rw [HM.out]; exact HLS.out j hlt)
      have hai1 : ((R.getD j 0 : Nat) : Int) < (g.length : Int) := by omega
      have hai0 : (0 : Int) ≤ ((R.getD j 0 : Nat) : Int) := by omega
      have hji : (j : Int) < (L : Int) := by omega
      have hj0 : (0 : Int) ≤ (j : Int) := by omega
      clear r0 r1 r2 r3 r5 r6 r7 hai
      generalize R.getD j 0 = a0 at *
      generalize amt g a0 = y at *
      go_wp2
      go_round
      case rel => exact ⟨j + 1, _, rfl, by go_num, by omega, HMN⟩
      case measure => simp [intOf]; omega
    · have ej : j = L := by omega
      subst ej
      clear hlt hj
      have hm2 := HM.out.trans HLE.out
      subst hm2
      have HX2 := Lib.hid (HST3.out.setx (x - AM))
      have HOF4 := Lib.hid (HOF3.out.set (p := ⟨rb, 5, none⟩) (.inl (.inl rfl)) (.int .i64 (x - AM)))
      have HBX4 := Lib.hid (show IxB 30 (w2.setCell ⟨rb, 5, none⟩ (.int .i64 (x - AM))) w.heap.size 0 (.slice none 0 0) 0 from ixb_far HBX3.out (by have := HRB.out; show w.heap.size ≠ rb; omega) _)
      obtain ⟨hb0, hb1, hb2⟩ := HAMB.out
      have HB2 := Lib.hid hb2
      obtain ⟨hx0, hx1⟩ := hx
      obtain ⟨r0, r1, r2, r3, r4, r5, r6, r7⟩ := rblk_cells HST3.out.blk
      have hfr := rblk_frozen HST3.out.blk 5
      have hwx : IntKind.i64.wrap (x - AM) = x - AM := by rw [IntKind.wrap_i64]; omega
      clear r0 r1 r2 r3 r4 r6 r7 hb2 HLE HLS HL0 HM HAMB
      have hmn : min (lsA g R) x = AM := HAM.out.symm
      generalize lsA g R = ls at *
      go_wp2
      generalize (w2.setCell ⟨rb, 5, none⟩ (.int .i64 (x - AM))) = w3 at *
      clear HST3 HOF3 HBX3 hfr r5 hmn hwx
      have HX3 : Hid (RsM n ao cap w0 w3 rb lb lo hi av (addN (-AM) g (R.take 0)) (x - AM) va A VS U) := HX2
      clear HX2
      go_loopw [73] (fun i wr => ∃ jj : Nat, i = .int .i64 jj ∧ jj ≤ j ∧ Hid (RsM n ao cap w0 wr rb lb lo hi av (addN (-AM) g (R.take jj)) (x - AM) va A VS U) ∧ Hid (Off (RsF rb lb av) w wr) ∧ Hid (IxB 30 wr w.heap.size 0 (.slice none 0 0) 0)) (fun i _ => j - (intOf i).toNat)
      case atStart => exact ⟨0, rfl, Nat.zero_le _, HX3, HOF4, HBX4⟩
      case round =>
        obtain ⟨k, rfl, hk, HSR, HOR, HBR⟩ := hrel
        clear HX3 HOF4 HBX4
        by_cases hlt : k < j
        · obtain ⟨bq2, bo2, e, _, e0⟩ := irow_cell (HROW.out _ HOR.out) (i := k) (by rw [HLR.out]; exact hlt)
          simp only [Option.some.injEq, Addr.mk.injEq, and_true] at e
          obtain ⟨rfl, rfl⟩ := e
          rw [HEW.out k hlt] at e0
          obtain ⟨q3, c3, hav3, _, hqw, d0, dfr, hset⟩ := HSR.out.less (r := R.getD k 0) (by rw [HAL.out]; exact (HIN.out k hlt).1)
          rw [HAV.out] at hav3
          simp only [Value.slice.injEq, Option.some.injEq, Addr.mk.injEq, and_true, true_and] at hav3
          obtain ⟨rfl, -, rfl⟩ := hav3
          obtain ⟨hs1, hs2⟩ := HAD.out (-AM) k hlt
          rw [hs2] at d0
          have HSN := Lib.hid (hset (amt g (R.getD k 0) - AM))
          rw [Int.sub_eq_add_neg, hs1, ← Int.sub_eq_add_neg] at HSN
          have HON := Lib.hid (HOR.out.set (p := ⟨q, R.getD k 0, none⟩) (.inl (.inr (.inr (by rw [HAV.out]; rfl)))) (.int .i64 (amt g (R.getD k 0) - AM)))
          have HBN := Lib.hid (show IxB 30 (wr.setCell ⟨q, R.getD k 0, none⟩ (.int .i64 (amt g (R.getD k 0) - AM))) w.heap.size 0 (.slice none 0 0) 0 from ixb_far HBR.out (by have := (Rw.own_lt HST.out.am q (by rw [HAV.out]; rfl)).2; show w.heap.size ≠ q; omega) _)
          obtain ⟨r0, r1, r2, r3, r4, r5, r6, r7⟩ := rblk_cells HSR.out.blk
          rw [HAV.out] at r4
          obtain ⟨hai, hi1, hi2⟩ := HIN.out k hlt
          have hle := HB2.out k hlt
          have hai1 : ((R.getD k 0 : Nat) : Int) < (g.length : Int) := by omega
          have hai0 : (0 : Int) ≤ ((R.getD k 0 : Nat) : Int) := by omega
          have hki : (k : Int) < (j : Int) := by omega
          have hk0 : (0 : Int) ≤ (k : Int) := by omega
          have hwr : IntKind.i64.wrap (amt g (R.getD k 0) - AM) = amt g (R.getD k 0) - AM := by rw [IntKind.wrap_i64]; omega
          clear r0 r1 r2 r3 r5 r6 r7 hai hset hs1 hs2
          generalize R.getD k 0 = a1 at *
          generalize amt g a1 = y at *
          go_wp2
          refine ⟨?rel, ?measure⟩
          case rel => exact ⟨k + 1, by go_num, by omega, HSN, HON, HBN⟩
          case measure => simp [intOf]; omega
        · have ek : k = j := by omega
          subst ek
          clear hlt hk
          rw [HAE.out] at HSR
          have HSM := Lib.hid HST.out.low
          have HSS := Lib.hid (fun q2 (h : av.ownBlock = some q2) => (Rw.own_lt HST.out.am q2 h).2)
          have HLB := Lib.hid HST.out.lt.2
          have HHI := Lib.hid HST.out.rows.sz
          have HOS := Lib.hid HST.out.old.size
          have fr : ∀ {w3 : World} {p : Addr} (v : Value), p.block = w.heap.size → RsM n ao cap w0 w3 rb lb lo hi av (addN (-AM) g R) (x - AM) va A VS U → RsM n ao cap w0 (w3.setCell p v) rb lb lo hi av (addN (-AM) g R) (x - AM) va A VS U := fun {w3 p} v hp h => h.far (p := p) (by rw [hp]; exact HOS.out) (by have := HRB.out; omega) (by have := HLB.out; omega) (by have := HHI.out; omega) (fun q2 h2 => by have := HSS.out q2 h2; omega) v
          have HS1 := Lib.hid (fr (p := ⟨w.heap.size, 2, none⟩) (.int .i64 AM) rfl (fr (p := ⟨w.heap.size, 1, none⟩) (.slice (some ⟨bq, bo, none⟩) k rc) rfl (fr (p := ⟨w.heap.size, 0, none⟩) (.int .u8 112) rfl HSR.out)))
          have HO1 := Lib.hid (((HOR.out.set (p := ⟨w.heap.size, 0, none⟩) (.inr (Nat.le_refl _)) (.int .u8 112)).set (p := ⟨w.heap.size, 1, none⟩) (.inr (Nat.le_refl _)) (.slice (some ⟨bq, bo, none⟩) k rc)).set (p := ⟨w.heap.size, 2, none⟩) (.inr (Nat.le_refl _)) (.int .i64 AM))
          have HW := Lib.hid (ixb_all (k2 := 112) (v2 := .slice (some ⟨bq, bo, none⟩) k rc) (a2 := AM) HBR.out)
          obtain ⟨b0, b1, b2⟩ := ixb_cells HBR.out
          have f0 := ixb_frozen HBR.out 0
          have f1 := ixb_frozen HBR.out 1
          have f2 := ixb_frozen HBR.out 2
          clear fr
          go_wp2
          refine bodyPost_ret_by (results_cell_row rfl _ _ w.heap.size 30 _ (0, 0) _ rfl HW.out Try.underlying30 rfl (by kernel_rfl)) rfl ?_
          exact ⟨rfl, HS1.out, HO1.out⟩
set_option maxRecDepth 100000 in
set_option maxHeartbeats 4000000 in
theorem take_b (st : RsM n ao cap w0 w rb lb lo hi av g x va A VS U) (R : List Nat) (ro : Option Addr) (rc : Nat) (hne : R ≠ []) (hin : ∀ a ∈ R, a < g.length ∧ 0 ≤ amt g a ∧ amt g a ≤ 4611686018427387904) (hnd : R.Nodup) (hrow : ∀ w', Off (RsF rb lb av) w w' → IRow w' ro (encW R)) (hgl : g.length ≤ 1000000) (hRl : R.length ≤ 1000000) (hx : -4611686018427387904 ≤ x ∧ x ≤ 4611686018427387904) (ham : 0 ≤ min (lsA g R) (-x)) :
    Calls Try.prog 39 #[.pointer (some ⟨rb, 0, none⟩), .int .u8 98, .slice ro R.length rc] w fun e w' => e = .returned (.agg #[.int .u8 98, .slice ro R.length rc, .int .i64 (min (lsA g R) (-x))]) ∧ RsM n ao cap w0 w' rb lb lo hi av (addN (-(min (lsA g R) (-x))) g R) (x + min (lsA g R) (-x)) va A VS U ∧ Off (RsF rb lb av) w w' := by
  have HROW := Lib.hid hrow
  have HIN := Lib.hid (fun j (hj : j < R.length) => hin _ (getD_mem hj))
  obtain ⟨hle, a0, ha0, hae⟩ := lsA_le (g := g) hne
  have hA := hin a0 ha0
  have HAMB := Lib.hid (show 0 ≤ (min (lsA g R) (-x)) ∧ (min (lsA g R) (-x)) ≤ 4611686018427387904 ∧ ∀ j, j < R.length → (min (lsA g R) (-x)) ≤ amt g (R.getD j 0) from by
    have h9 : (min (lsA g R) (-x)) ≤ lsA g R := by exact Int.min_le_left _ _
    exact ⟨ham, by omega, fun j hj => Int.le_trans h9 (hle _ (getD_mem hj))⟩)
  have HL0 := Lib.hid (show amt g (R.getD 0 0) = lst g (amt g (R.getD 0 0)) (R.take 0) from rfl)
  have HLS := Lib.hid (fun j (hj : j < R.length) => show min (lst g (amt g (R.getD 0 0)) (R.take j)) (amt g (R.getD j 0)) = lst g (amt g (R.getD 0 0)) (R.take (j + 1)) by rw [take_getD hj, lst_snoc])
  have HLE := Lib.hid (show lst g (amt g (R.getD 0 0)) (R.take R.length) = lsA g R by rw [List.take_length]; rfl)
  have HAD := Lib.hid (fun m j (hj : j < R.length) => show (addN m g (R.take j)).set (R.getD j 0) (amt g (R.getD j 0) + m) = addN m g (R.take (j + 1)) ∧ amt (addN m g (R.take j)) (R.getD j 0) = amt g (R.getD j 0) from by
    have h1 : amt (addN m g (R.take j)) (R.getD j 0) = amt g (R.getD j 0) := by
      rw [addN_at _ _ (hnd.sublist (List.take_sublist _ _)) (fun k hk => (hin k (List.mem_of_mem_take hk)).1), if_neg (getD_notin hnd hj), Int.add_zero]
    exact ⟨by rw [take_getD hj, addN_snoc, h1], h1⟩)
  have HAE := Lib.hid (fun m => show addN m g (R.take R.length) = addN m g R by rw [List.take_length])
  have HAL := Lib.hid (fun m j => addN_len m (R.take j) g)
  have HST := Lib.hid st
  have HRB := Lib.hid st.lt.1
  have hlen : 0 < R.length := List.length_pos_iff.2 hne
  obtain ⟨L, hL⟩ : ∃ L, L = R.length := ⟨_, rfl⟩
  rw [← hL] at HIN HAMB HLS HLE HAD HAE hlen hRl ⊢
  have HLR := Lib.hid (show (encW R).length = L by rw [encW_len, hL])
  have HEW := Lib.hid (fun j (hj : j < L) => encW_at (l := R) (i := j) (by rw [← hL]; exact hj))
  obtain ⟨AM, hAM⟩ : ∃ AM, AM = min (lsA g R) (-x) := ⟨_, rfl⟩
  rw [← hAM] at HAMB ⊢
  have HAM := Lib.hid hAM
  clear hL hne hin hnd hrow hle ha0 hae hA ham st hAM
  have HST1 := Lib.hid (HST.out.alloc (.cells #[.int .u8 0, .slice none 0 0, .int .i64 0] 30))
  have HOF1 := Lib.hid (show Off (RsF rb lb av) w (w.alloc (.cells #[.int .u8 0, .slice none 0 0, .int .i64 0] 30)) from (Off.refl _ w).alloc _)
  have HBX1 := Lib.hid (show IxB 30 (w.alloc (.cells #[.int .u8 0, .slice none 0 0, .int .i64 0] 30)) w.heap.size 0 (.slice none 0 0) 0 from ixb_new _ _ rfl)
  go_enter Try.func39, Try.ntmps39
  go_upto_region 1 with fail
  generalize hW1 : (w.alloc (.cells #[.int .u8 0, .slice none 0 0, .int .i64 0] 30)) = w1 at *
  have HW1 := Lib.hid hW1
  clear hW1
  obtain ⟨r0, r1, r2, r3, r4, r5, r6, r7⟩ := rblk_cells HST1.out.blk
  obtain ⟨bq, bo, rfl, _, e0⟩ := irow_cell (HROW.out _ HOF1.out) (i := 0) (by rw [HLR.out]; exact hlen)
  rw [HEW.out 0 hlen] at e0
  simp only [Nat.add_zero] at e0
  obtain ⟨q, c2, hav, hq, d0⟩ := HST1.out.amount (HIN.out 0 hlen).1
  have HAV := Lib.hid hav
  rw [hav] at r4
  have hai := (HIN.out 0 hlen).1
  have hai1 : ((R.getD 0 0 : Nat) : Int) < (g.length : Int) := by omega
  have hai0 : (0 : Int) ≤ ((R.getD 0 0 : Nat) : Int) := by omega
  have hl0 : (0 : Int) < (L : Int) := by omega
  clear r0 r1 r2 r3 r5 r6 r7 hai hav
  generalize hA0 : amt g (R.getD 0 0) = A0 at *
  generalize R.getD 0 0 = a0 at d0 e0 hai1 hai0
  have HST2 := Lib.hid (fun q => HST1.out.dn q)
  have HOF2 := Lib.hid (fun q => HOF1.out.drewN q)
  have HBX2 := Lib.hid (fun q => show IxB 30 (w1.drewN q) w.heap.size 0 (.slice none 0 0) 0 from HBX1.out)
  go_quiet (fail)
  have HST3 := Lib.hid (HST2.out nq)
  have HOF3 := Lib.hid (HOF2.out nq)
  have HBX3 := Lib.hid (HBX2.out nq)
  have HWQ := Lib.hid (show w.heap.size < (w1.drewN nq).heap.size from ixb_lt HBX3.out)
  generalize w1.drewN nq = w2 at *
  clear HST1 HOF1 HBX1 d0 e0 hai1 hai0 r4 HST2 HOF2 HBX2
  go_wp2
  go_loop [7, 23] (fun m i => ∃ (j : Nat) (m' : Int), m = .int .i64 m' ∧ i = .int .i64 j ∧ j ≤ L ∧ Hid (m' = lst g A0 (R.take j))) (fun _ i => L - (intOf i).toNat)
  case atStart => exact ⟨0, A0, rfl, rfl, Nat.zero_le _, HL0⟩
  case round =>
    obtain ⟨j, m', rfl, rfl, hj, HM⟩ := hrel
    by_cases hlt : j < L
    · obtain ⟨bq2, bo2, e, _, e0⟩ := irow_cell (HROW.out _ HOF3.out) (i := j) (by rw [HLR.out]; exact hlt)
      simp only [Option.some.injEq, Addr.mk.injEq, and_true] at e
      obtain ⟨rfl, rfl⟩ := e
      rw [HEW.out j hlt] at e0
      obtain ⟨q3, c3, hav3, _, d0⟩ := HST3.out.amount (HIN.out j hlt).1
      rw [HAV.out] at hav3
      simp only [Value.slice.injEq, Option.some.injEq, Addr.mk.injEq, and_true, true_and] at hav3
      obtain ⟨rfl, rfl⟩ := hav3
      obtain ⟨r0, r1, r2, r3, r4, r5, r6, r7⟩ := rblk_cells HST3.out.blk
      rw [HAV.out] at r4
      have hai := (HIN.out j hlt).1
      have HMN := Lib.hid (show min m' (amt g (R.getD j 0)) = lst g A0 (R.take (j + 1)) by rw [HM.out]; exact HLS.out j hlt)
      have hai1 : ((R.getD j 0 : Nat) : Int) < (g.length : Int) := by omega
      have hai0 : (0 : Int) ≤ ((R.getD j 0 : Nat) : Int) := by omega
      have hji : (j : Int) < (L : Int) := by omega
      have hj0 : (0 : Int) ≤ (j : Int) := by omega
      clear r0 r1 r2 r3 r5 r6 r7 hai
      generalize R.getD j 0 = a0 at *
      generalize amt g a0 = y at *
      go_wp2
      go_round
      case rel => exact ⟨j + 1, _, rfl, by go_num, by omega, HMN⟩
      case measure => simp [intOf]; omega
    · have ej : j = L := by omega
      subst ej
      clear hlt hj
      have hm2 := HM.out.trans HLE.out
      subst hm2
      have HX2 := Lib.hid (HST3.out.setx (x + AM))
      have HOF4 := Lib.hid (HOF3.out.set (p := ⟨rb, 5, none⟩) (.inl (.inl rfl)) (.int .i64 (x + AM)))
      have HBX4 := Lib.hid (show IxB 30 (w2.setCell ⟨rb, 5, none⟩ (.int .i64 (x + AM))) w.heap.size 0 (.slice none 0 0) 0 from ixb_far HBX3.out (by have := HRB.out; show w.heap.size ≠ rb; omega) _)
      obtain ⟨hb0, hb1, hb2⟩ := HAMB.out
      have HB2 := Lib.hid hb2
      obtain ⟨hx0, hx1⟩ := hx
      obtain ⟨r0, r1, r2, r3, r4, r5, r6, r7⟩ := rblk_cells HST3.out.blk
      have hfr := rblk_frozen HST3.out.blk 5
      have hwx : IntKind.i64.wrap (x + AM) = x + AM := by have h1 := Int.min_le_right (lsA g R) (-x); rw [← HAM.out] at h1; rw [IntKind.wrap_i64]; omega
      have hwn : IntKind.i64.wrap (-x) = -x := by rw [IntKind.wrap_i64]; omega
      clear r0 r1 r2 r3 r4 r6 r7 hb2 HLE HLS HL0 HM HAMB
      have hmn : min (lsA g R) (-x) = AM := HAM.out.symm
      generalize lsA g R = ls at *
      go_wp2
      generalize (w2.setCell ⟨rb, 5, none⟩ (.int .i64 (x + AM))) = w3 at *
      clear HST3 HOF3 HBX3 hfr r5 hmn hwx hwn
      have HX3 : Hid (RsM n ao cap w0 w3 rb lb lo hi av (addN (-AM) g (R.take 0)) (x + AM) va A VS U) := HX2
      clear HX2
      go_loopw [73] (fun i wr => ∃ jj : Nat, i = .int .i64 jj ∧ jj ≤ j ∧ Hid (RsM n ao cap w0 wr rb lb lo hi av (addN (-AM) g (R.take jj)) (x + AM) va A VS U) ∧ Hid (Off (RsF rb lb av) w wr) ∧ Hid (IxB 30 wr w.heap.size 0 (.slice none 0 0) 0)) (fun i _ => j - (intOf i).toNat)
      case atStart => exact ⟨0, rfl, Nat.zero_le _, HX3, HOF4, HBX4⟩
      case round =>
        obtain ⟨k, rfl, hk, HSR, HOR, HBR⟩ := hrel
        clear HX3 HOF4 HBX4
        by_cases hlt : k < j
        · obtain ⟨bq2, bo2, e, _, e0⟩ := irow_cell (HROW.out _ HOR.out) (i := k) (by rw [HLR.out]; exact hlt)
          simp only [Option.some.injEq, Addr.mk.injEq, and_true] at e
          obtain ⟨rfl, rfl⟩ := e
          rw [HEW.out k hlt] at e0
          obtain ⟨q3, c3, hav3, _, hqw, d0, dfr, hset⟩ := HSR.out.less (r := R.getD k 0) (by rw [HAL.out]; exact (HIN.out k hlt).1)
          rw [HAV.out] at hav3
          simp only [Value.slice.injEq, Option.some.injEq, Addr.mk.injEq, and_true, true_and] at hav3
          obtain ⟨rfl, -, rfl⟩ := hav3
          obtain ⟨hs1, hs2⟩ := HAD.out (-AM) k hlt
          rw [hs2] at d0
          have HSN := Lib.hid (hset (amt g (R.getD k 0) - AM))
          rw [Int.sub_eq_add_neg, hs1, ← Int.sub_eq_add_neg] at HSN
          have HON := Lib.hid (HOR.out.set (p := ⟨q, R.getD k 0, none⟩) (.inl (.inr (.inr (by rw [HAV.out]; rfl)))) (.int .i64 (amt g (R.getD k 0) - AM)))
          have HBN := Lib.hid (show IxB 30 (wr.setCell ⟨q, R.getD k 0, none⟩ (.int .i64 (amt g (R.getD k 0) - AM))) w.heap.size 0 (.slice none 0 0) 0 from ixb_far HBR.out (by have := (Rw.own_lt HST.out.am q (by rw [HAV.out]; rfl)).2; show w.heap.size ≠ q; omega) _)
          obtain ⟨r0, r1, r2, r3, r4, r5, r6, r7⟩ := rblk_cells HSR.out.blk
          rw [HAV.out] at r4
          obtain ⟨hai, hi1, hi2⟩ := HIN.out k hlt
          have hle := HB2.out k hlt
          have hai1 : ((R.getD k 0 : Nat) : Int) < (g.length : Int) := by omega
          have hai0 : (0 : Int) ≤ ((R.getD k 0 : Nat) : Int) := by omega
          have hki : (k : Int) < (j : Int) := by omega
          have hk0 : (0 : Int) ≤ (k : Int) := by omega
          have hwr : IntKind.i64.wrap (amt g (R.getD k 0) - AM) = amt g (R.getD k 0) - AM := by rw [IntKind.wrap_i64]; omega
          clear r0 r1 r2 r3 r5 r6 r7 hai hset hs1 hs2
          generalize R.getD k 0 = a1 at *
          generalize amt g a1 = y at *
          go_wp2
          refine ⟨?rel, ?measure⟩
          case rel => exact ⟨k + 1, by go_num, by omega, HSN, HON, HBN⟩
          case measure => simp [intOf]; omega
        · have ek : k = j := by omega
          subst ek
          clear hlt hk
          rw [HAE.out] at HSR
          have HSM := Lib.hid HST.out.low
          have HSS := Lib.hid (fun q2 (h : av.ownBlock = some q2) => (Rw.own_lt HST.out.am q2 h).2)
          have HLB := Lib.hid HST.out.lt.2
          have HHI := Lib.hid HST.out.rows.sz
          have HOS := Lib.hid HST.out.old.size
          have fr : ∀ {w3 : World} {p : Addr} (v : Value), p.block = w.heap.size → RsM n ao cap w0 w3 rb lb lo hi av (addN (-AM) g R) (x + AM) va A VS U → RsM n ao cap w0 (w3.setCell p v) rb lb lo hi av (addN (-AM) g R) (x + AM) va A VS U := fun {w3 p} v hp h => h.far (p := p) (by rw [hp]; exact HOS.out) (by have := HRB.out; omega) (by have := HLB.out; omega) (by have := HHI.out; omega) (fun q2 h2 => by have := HSS.out q2 h2; omega) v
          have HS1 := Lib.hid (fr (p := ⟨w.heap.size, 2, none⟩) (.int .i64 AM) rfl (fr (p := ⟨w.heap.size, 1, none⟩) (.slice (some ⟨bq, bo, none⟩) k rc) rfl (fr (p := ⟨w.heap.size, 0, none⟩) (.int .u8 98) rfl HSR.out)))
          have HO1 := Lib.hid (((HOR.out.set (p := ⟨w.heap.size, 0, none⟩) (.inr (Nat.le_refl _)) (.int .u8 98)).set (p := ⟨w.heap.size, 1, none⟩) (.inr (Nat.le_refl _)) (.slice (some ⟨bq, bo, none⟩) k rc)).set (p := ⟨w.heap.size, 2, none⟩) (.inr (Nat.le_refl _)) (.int .i64 AM))
          have HW := Lib.hid (ixb_all (k2 := 98) (v2 := .slice (some ⟨bq, bo, none⟩) k rc) (a2 := AM) HBR.out)
          obtain ⟨b0, b1, b2⟩ := ixb_cells HBR.out
          have f0 := ixb_frozen HBR.out 0
          have f1 := ixb_frozen HBR.out 1
          have f2 := ixb_frozen HBR.out 2
          clear fr
          go_wp2
          refine bodyPost_ret_by (results_cell_row rfl _ _ w.heap.size 30 _ (0, 0) _ rfl HW.out Try.underlying30 rfl (by kernel_rfl)) rfl ?_
          exact ⟨rfl, HS1.out, HO1.out⟩
set_option maxRecDepth 100000 in
set_option maxHeartbeats 4000000 in
theorem take_c (st : RsM n ao cap w0 w rb lb lo hi av g x va A VS U) (R : List Nat) (ro : Option Addr) (rc : Nat) (hne : R ≠ []) (hin : ∀ a ∈ R, a < g.length ∧ 0 ≤ amt g a ∧ amt g a ≤ 4611686018427387904) (hnd : R.Nodup) (hrow : ∀ w', Off (RsF rb lb av) w w' → IRow w' ro (encW R)) (hgl : g.length ≤ 1000000) (hRl : R.length ≤ 1000000) (hx : -4611686018427387904 ≤ x ∧ x ≤ 4611686018427387904) (ham : 0 ≤ lsA g R) :
    Calls Try.prog 39 #[.pointer (some ⟨rb, 0, none⟩), .int .u8 99, .slice ro R.length rc] w fun e w' => e = .returned (.agg #[.int .u8 99, .slice ro R.length rc, .int .i64 (lsA g R)]) ∧ RsM n ao cap w0 w' rb lb lo hi av (addN (-(lsA g R)) g R) (x) va A VS U ∧ Off (RsF rb lb av) w w' := by
  have HROW := Lib.hid hrow
  have HIN := Lib.hid (fun j (hj : j < R.length) => hin _ (getD_mem hj))
  obtain ⟨hle, a0, ha0, hae⟩ := lsA_le (g := g) hne
  have hA := hin a0 ha0
  have HAMB := Lib.hid (show 0 ≤ (lsA g R) ∧ (lsA g R) ≤ 4611686018427387904 ∧ ∀ j, j < R.length → (lsA g R) ≤ amt g (R.getD j 0) from by
    have h9 : (lsA g R) ≤ lsA g R := by exact Int.le_refl _
    exact ⟨ham, by omega, fun j hj => Int.le_trans h9 (hle _ (getD_mem hj))⟩)
  have HL0 := Lib.hid (show amt g (R.getD 0 0) = lst g (amt g (R.getD 0 0)) (R.take 0) from rfl)
  have HLS := Lib.hid (fun j (hj : j < R.length) => show min (lst g (amt g (R.getD 0 0)) (R.take j)) (amt g (R.getD j 0)) = lst g (amt g (R.getD 0 0)) (R.take (j + 1)) by rw [take_getD hj, lst_snoc])
  have HLE := Lib.hid (show lst g (amt g (R.getD 0 0)) (R.take R.length) = lsA g R by rw [List.take_length]; rfl)
  have HAD := Lib.hid (fun m j (hj : j < R.length) => show (addN m g (R.take j)).set (R.getD j 0) (amt g (R.getD j 0) + m) = addN m g (R.take (j + 1)) ∧ amt (addN m g (R.take j)) (R.getD j 0) = amt g (R.getD j 0) from by
    have h1 : amt (addN m g (R.take j)) (R.getD j 0) = amt g (R.getD j 0) := by
      rw [addN_at _ _ (hnd.sublist (List.take_sublist _ _)) (fun k hk => (hin k (List.mem_of_mem_take hk)).1), if_neg (getD_notin hnd hj), Int.add_zero]
    exact ⟨by rw [take_getD hj, addN_snoc, h1], h1⟩)
  have HAE := Lib.hid (fun m => show addN m g (R.take R.length) = addN m g R by rw [List.take_length])
  have HAL := Lib.hid (fun m j => addN_len m (R.take j) g)
  have HST := Lib.hid st
  have HRB := Lib.hid st.lt.1
  have hlen : 0 < R.length := List.length_pos_iff.2 hne
  obtain ⟨L, hL⟩ : ∃ L, L = R.length := ⟨_, rfl⟩
  rw [← hL] at HIN HAMB HLS HLE HAD HAE hlen hRl ⊢
  have HLR := Lib.hid (show (encW R).length = L by rw [encW_len, hL])
  have HEW := Lib.hid (fun j (hj : j < L) => encW_at (l := R) (i := j) (by rw [← hL]; exact hj))
  obtain ⟨AM, hAM⟩ : ∃ AM, AM = lsA g R := ⟨_, rfl⟩
  rw [← hAM] at HAMB ⊢
  have HAM := Lib.hid hAM
  clear hL hne hin hnd hrow hle ha0 hae hA ham st hAM
  have HST1 := Lib.hid (HST.out.alloc (.cells #[.int .u8 0, .slice none 0 0, .int .i64 0] 30))
  have HOF1 := Lib.hid (show Off (RsF rb lb av) w (w.alloc (.cells #[.int .u8 0, .slice none 0 0, .int .i64 0] 30)) from (Off.refl _ w).alloc _)
  have HBX1 := Lib.hid (show IxB 30 (w.alloc (.cells #[.int .u8 0, .slice none 0 0, .int .i64 0] 30)) w.heap.size 0 (.slice none 0 0) 0 from ixb_new _ _ rfl)
  go_enter Try.func39, Try.ntmps39
  go_upto_region 1 with fail
  generalize hW1 : (w.alloc (.cells #[.int .u8 0, .slice none 0 0, .int .i64 0] 30)) = w1 at *
  have HW1 := Lib.hid hW1
  clear hW1
  obtain ⟨r0, r1, r2, r3, r4, r5, r6, r7⟩ := rblk_cells HST1.out.blk
  obtain ⟨bq, bo, rfl, _, e0⟩ := irow_cell (HROW.out _ HOF1.out) (i := 0) (by rw [HLR.out]; exact hlen)
  rw [HEW.out 0 hlen] at e0
  simp only [Nat.add_zero] at e0
  obtain ⟨q, c2, hav, hq, d0⟩ := HST1.out.amount (HIN.out 0 hlen).1
  have HAV := Lib.hid hav
  rw [hav] at r4
  have hai := (HIN.out 0 hlen).1
  have hai1 : ((R.getD 0 0 : Nat) : Int) < (g.length : Int) := by omega
  have hai0 : (0 : Int) ≤ ((R.getD 0 0 : Nat) : Int) := by omega
  have hl0 : (0 : Int) < (L : Int) := by omega
  clear r0 r1 r2 r3 r5 r6 r7 hai hav
  generalize hA0 : amt g (R.getD 0 0) = A0 at *
  generalize R.getD 0 0 = a0 at d0 e0 hai1 hai0
  have HST2 := Lib.hid (fun q => HST1.out.dn q)
  have HOF2 := Lib.hid (fun q => HOF1.out.drewN q)
  have HBX2 := Lib.hid (fun q => show IxB 30 (w1.drewN q) w.heap.size 0 (.slice none 0 0) 0 from HBX1.out)
  go_quiet (fail)
  have HST3 := Lib.hid (HST2.out nq)
  have HOF3 := Lib.hid (HOF2.out nq)
  have HBX3 := Lib.hid (HBX2.out nq)
  have HWQ := Lib.hid (show w.heap.size < (w1.drewN nq).heap.size from ixb_lt HBX3.out)
  generalize w1.drewN nq = w2 at *
  clear HST1 HOF1 HBX1 d0 e0 hai1 hai0 r4 HST2 HOF2 HBX2
  go_wp2
  go_loop [7, 23] (fun m i => ∃ (j : Nat) (m' : Int), m = .int .i64 m' ∧ i = .int .i64 j ∧ j ≤ L ∧ Hid (m' = lst g A0 (R.take j))) (fun _ i => L - (intOf i).toNat)
  case atStart => exact ⟨0, A0, rfl, rfl, Nat.zero_le _, HL0⟩
  case round =>
    obtain ⟨j, m', rfl, rfl, hj, HM⟩ := hrel
    by_cases hlt : j < L
    · obtain ⟨bq2, bo2, e, _, e0⟩ := irow_cell (HROW.out _ HOF3.out) (i := j) (by rw [HLR.out]; exact hlt)
      simp only [Option.some.injEq, Addr.mk.injEq, and_true] at e
      obtain ⟨rfl, rfl⟩ := e
      rw [HEW.out j hlt] at e0
      obtain ⟨q3, c3, hav3, _, d0⟩ := HST3.out.amount (HIN.out j hlt).1
      rw [HAV.out] at hav3
      simp only [Value.slice.injEq, Option.some.injEq, Addr.mk.injEq, and_true, true_and] at hav3
      obtain ⟨rfl, rfl⟩ := hav3
      obtain ⟨r0, r1, r2, r3, r4, r5, r6, r7⟩ := rblk_cells HST3.out.blk
      rw [HAV.out] at r4
      have hai := (HIN.out j hlt).1
      have HMN := Lib.hid (show min m' (amt g (R.getD j 0)) = lst g A0 (R.take (j + 1)) by rw [HM.out]; exact HLS.out j hlt)
      have hai1 : ((R.getD j 0 : Nat) : Int) < (g.length : Int) := by omega
      have hai0 : (0 : Int) ≤ ((R.getD j 0 : Nat) : Int) := by omega
      have hji : (j : Int) < (L : Int) := by omega
      have hj0 : (0 : Int) ≤ (j : Int) := by omega
      clear r0 r1 r2 r3 r5 r6 r7 hai
      generalize R.getD j 0 = a0 at *
      generalize amt g a0 = y at *
      go_wp2
      go_round
      case rel => exact ⟨j + 1, _, rfl, by go_num, by omega, HMN⟩
      case measure => simp [intOf]; omega
    · have ej : j = L := by omega
      subst ej
      clear hlt hj
      have hm2 := HM.out.trans HLE.out
      subst hm2
      have HX2 := Lib.hid (HST3.out)
      have HOF4 := Lib.hid (HOF3.out)
      have HBX4 := Lib.hid (show IxB 30 (w2) w.heap.size 0 (.slice none 0 0) 0 from HBX3.out)
      obtain ⟨hb0, hb1, hb2⟩ := HAMB.out
      have HB2 := Lib.hid hb2
      obtain ⟨hx0, hx1⟩ := hx
      obtain ⟨r0, r1, r2, r3, r4, r5, r6, r7⟩ := rblk_cells HST3.out.blk
      have hfr := rblk_frozen HST3.out.blk 5
      
      clear r0 r1 r2 r3 r4 r6 r7 hb2 HLE HLS HL0 HM HAMB
      rw [← HAM.out]
      generalize lsA g R = ls at *
      go_wp2
      generalize (w2) = w3 at *
      clear HST3 HOF3 HBX3 hfr r5 
      have HX3 : Hid (RsM n ao cap w0 w3 rb lb lo hi av (addN (-AM) g (R.take 0)) (x) va A VS U) := HX2
      clear HX2
      go_loopw [73] (fun i wr => ∃ jj : Nat, i = .int .i64 jj ∧ jj ≤ j ∧ Hid (RsM n ao cap w0 wr rb lb lo hi av (addN (-AM) g (R.take jj)) (x) va A VS U) ∧ Hid (Off (RsF rb lb av) w wr) ∧ Hid (IxB 30 wr w.heap.size 0 (.slice none 0 0) 0)) (fun i _ => j - (intOf i).toNat)
      case atStart => exact ⟨0, rfl, Nat.zero_le _, HX3, HOF4, HBX4⟩
      case round =>
        obtain ⟨k, rfl, hk, HSR, HOR, HBR⟩ := hrel
        clear HX3 HOF4 HBX4
        by_cases hlt : k < j
        · obtain ⟨bq2, bo2, e, _, e0⟩ := irow_cell (HROW.out _ HOR.out) (i := k) (by rw [HLR.out]; exact hlt)
          simp only [Option.some.injEq, Addr.mk.injEq, and_true] at e
          obtain ⟨rfl, rfl⟩ := e
          rw [HEW.out k hlt] at e0
          obtain ⟨q3, c3, hav3, _, hqw, d0, dfr, hset⟩ := HSR.out.less (r := R.getD k 0) (by rw [HAL.out]; exact (HIN.out k hlt).1)
          rw [HAV.out] at hav3
          simp only [Value.slice.injEq, Option.some.injEq, Addr.mk.injEq, and_true, true_and] at hav3
          obtain ⟨rfl, -, rfl⟩ := hav3
          obtain ⟨hs1, hs2⟩ := HAD.out (-AM) k hlt
          rw [hs2] at d0
          have HSN := Lib.hid (hset (amt g (R.getD k 0) - AM))
          rw [Int.sub_eq_add_neg, hs1, ← Int.sub_eq_add_neg] at HSN
          have HON := Lib.hid (HOR.out.set (p := ⟨q, R.getD k 0, none⟩) (.inl (.inr (.inr (by rw [HAV.out]; rfl)))) (.int .i64 (amt g (R.getD k 0) - AM)))
          have HBN := Lib.hid (show IxB 30 (wr.setCell ⟨q, R.getD k 0, none⟩ (.int .i64 (amt g (R.getD k 0) - AM))) w.heap.size 0 (.slice none 0 0) 0 from ixb_far HBR.out (by have := (Rw.own_lt HST.out.am q (by rw [HAV.out]; rfl)).2; show w.heap.size ≠ q; omega) _)
          obtain ⟨r0, r1, r2, r3, r4, r5, r6, r7⟩ := rblk_cells HSR.out.blk
          rw [HAV.out] at r4
          obtain ⟨hai, hi1, hi2⟩ := HIN.out k hlt
          have hle := HB2.out k hlt
          have hai1 : ((R.getD k 0 : Nat) : Int) < (g.length : Int) := by omega
          have hai0 : (0 : Int) ≤ ((R.getD k 0 : Nat) : Int) := by omega
          have hki : (k : Int) < (j : Int) := by omega
          have hk0 : (0 : Int) ≤ (k : Int) := by omega
          have hwr : IntKind.i64.wrap (amt g (R.getD k 0) - AM) = amt g (R.getD k 0) - AM := by rw [IntKind.wrap_i64]; omega
          clear r0 r1 r2 r3 r5 r6 r7 hai hset hs1 hs2
          generalize R.getD k 0 = a1 at *
          generalize amt g a1 = y at *
          go_wp2
          refine ⟨?rel, ?measure⟩
          case rel => exact ⟨k + 1, by go_num, by omega, HSN, HON, HBN⟩
          case measure => simp [intOf]; omega
        · have ek : k = j := by omega
          subst ek
          clear hlt hk
          rw [HAE.out] at HSR
          have HSM := Lib.hid HST.out.low
          have HSS := Lib.hid (fun q2 (h : av.ownBlock = some q2) => (Rw.own_lt HST.out.am q2 h).2)
          have HLB := Lib.hid HST.out.lt.2
          have HHI := Lib.hid HST.out.rows.sz
          have HOS := Lib.hid HST.out.old.size
          have fr : ∀ {w3 : World} {p : Addr} (v : Value), p.block = w.heap.size → RsM n ao cap w0 w3 rb lb lo hi av (addN (-AM) g R) (x) va A VS U → RsM n ao cap w0 (w3.setCell p v) rb lb lo hi av (addN (-AM) g R) (x) va A VS U := fun {w3 p} v hp h => h.far (p := p) (by rw [hp]; exact HOS.out) (by have := HRB.out; omega) (by have := HLB.out; omega) (by have := HHI.out; omega) (fun q2 h2 => by have := HSS.out q2 h2; omega) v
          have HS1 := Lib.hid (fr (p := ⟨w.heap.size, 2, none⟩) (.int .i64 AM) rfl (fr (p := ⟨w.heap.size, 1, none⟩) (.slice (some ⟨bq, bo, none⟩) k rc) rfl (fr (p := ⟨w.heap.size, 0, none⟩) (.int .u8 99) rfl HSR.out)))
          have HO1 := Lib.hid (((HOR.out.set (p := ⟨w.heap.size, 0, none⟩) (.inr (Nat.le_refl _)) (.int .u8 99)).set (p := ⟨w.heap.size, 1, none⟩) (.inr (Nat.le_refl _)) (.slice (some ⟨bq, bo, none⟩) k rc)).set (p := ⟨w.heap.size, 2, none⟩) (.inr (Nat.le_refl _)) (.int .i64 AM))
          have HW := Lib.hid (ixb_all (k2 := 99) (v2 := .slice (some ⟨bq, bo, none⟩) k rc) (a2 := AM) HBR.out)
          obtain ⟨b0, b1, b2⟩ := ixb_cells HBR.out
          have f0 := ixb_frozen HBR.out 0
          have f1 := ixb_frozen HBR.out 1
          have f2 := ixb_frozen HBR.out 2
          clear fr
          go_wp2
          refine bodyPost_ret_by (results_cell_row rfl _ _ w.heap.size 30 _ (0, 0) _ rfl HW.out Try.underlying30 rfl (by kernel_rfl)) rfl ?_
          exact ⟨rfl, HS1.out, HO1.out⟩
end
end Dc
end Go.Proofs.Ytkeojkddbannpaa
