/-
  Contract of the developers' excesses. Condition: the network is right, the amounts are within the capacities. (Written by wip/tools/gen-Fexs.py.)
-/
import Derived.Test.YtkeojkddbannpaaFlm
import Derived.Test.YtkeojkddbannpaaNets
import Derived.Test.YtkeojkddbannpaaIrow
namespace Go.Proofs.Ytkeojkddbannpaa
open Go.ChangeShapes Go.WideShapes Go.ChangeAt Go.RowKit
set_option linter.unusedVariables false
set_option linter.unusedSimpArgs false
namespace Ne
/-- the excesses of the nodes 0 to N -/
def excL (l : List Arc) (f : List Int) (k : Nat) : List Int := (List.range k).map fun v : Nat => exc l f (v : Int)
theorem excL_succ (l : List Arc) (f : List Int) (k : Nat) : excL l f (k + 1) = excL l f k ++ [exc l f (k : Int)] := by unfold excL; rw [List.range_succ, List.map_append]; rfl
theorem excL_len (l : List Arc) (f : List Int) (k : Nat) : (excL l f k).length = k := by simp [excL]
theorem excL_at (l : List Arc) (f : List Int) {k i : Nat} (h : i < k) : (excL l f k)[i]? = some (exc l f (i : Int)) := by simp [excL, h]
abbrev zrow (N : Nat) : Obj := .cells (madeCells #[.int .i64 0] (N + 1)) 2
def InRow (w : World) (b N : Nat) (l : List Arc) (f : List Int) (k : Nat) : Prop := w.rowIs b 2 (N + 1) (fun v => .int .i64 (toS l f (v : Int) k))
def OutRow (w : World) (b N : Nat) (l : List Arc) (f : List Int) (k : Nat) : Prop := w.rowIs b 2 (N + 1) (fun v => .int .i64 (frS l f (v : Int) k))
theorem inRow_step {w : World} {b N : Nat} {l : List Arc} {f : List Int} {k t : Nat} {x : Int} (h : InRow w b N l f k) (ht : (arcAt l k).to = (t : Int)) (hx : amt f k = x) : InRow (w.setCell ⟨b, t, none⟩ (.int .i64 (toS l f (t : Int) k + x))) b N l f (k + 1) :=
  (World.rowIs.set h t _).congr fun i hi => by
    show (if i = t then _ else _) = _
    rw [toS_succ, ht, hx]
    by_cases e : i = t
    · subst e; rw [if_pos rfl, if_pos rfl]
    · rw [if_neg e, if_neg (by omega), Int.add_zero]
theorem outRow_step {w : World} {b N : Nat} {l : List Arc} {f : List Int} {k t : Nat} {x : Int} (h : OutRow w b N l f k) (ht : (arcAt l k).fr = (t : Int)) (hx : amt f k = x) : OutRow (w.setCell ⟨b, t, none⟩ (.int .i64 (frS l f (t : Int) k + x))) b N l f (k + 1) :=
  (World.rowIs.set h t _).congr fun i hi => by
    show (if i = t then _ else _) = _
    rw [frS_succ, ht, hx]
    by_cases e : i = t
    · subst e; rw [if_pos rfl, if_pos rfl]
    · rw [if_neg e, if_neg (by omega), Int.add_zero]
theorem two_rows (W : World) (N : Nat) (l : List Arc) (f : List Int) : (∀ b, b = W.heap.size ∨ b = W.heap.size + 1 → InRow ((W.alloc (zrow N)).alloc (zrow N)).drew b N l f 0 ∧ OutRow ((W.alloc (zrow N)).alloc (zrow N)).drew b N l f 0) ∧
    Below W.heap.size W ((W.alloc (zrow N)).alloc (zrow N)).drew ∧ ((W.alloc (zrow N)).alloc (zrow N)).drew.heap.size = W.heap.size + 2 := by
  have hz : ((W.alloc (zrow N)).alloc (zrow N)).drew.heap.size = W.heap.size + 2 := by show ((W.heap.push _).push _).size = _; simp
  refine ⟨fun b hb => ?_, below_drew (((Below.refl _ _).alloc (Nat.le_refl _) _).alloc (by simp) _), hz⟩
  have h : ((W.alloc (zrow N)).alloc (zrow N)).rowIs b 2 (N + 1) (fun _ => .int .i64 0) := by
    rcases hb with rfl | rfl
    · exact (World.rowIs_made W (.int .i64 0) (N + 1) 2).alloc _
    · have := World.rowIs_made (W.alloc (zrow N)) (.int .i64 0) (N + 1) 2
      simpa using this
  exact ⟨h.drew, h.drew⟩
theorem held_setd {w : World} {a : Addr} {u : Value} {p : Addr} {x : Value} (h : w.cell? a = some u) (hne : p.block ≠ a.block) : (w.setCell p x).drew.cell? a = some u := held_set h hne
theorem size_setd (w : World) (p : Addr) (x : Value) : (w.setCell p x).drew.heap.size = w.heap.size := by simp [World.setCell, World.drew]
theorem size_allocd (w : World) (o : Obj) : (w.alloc o).drew.heap.size = w.heap.size + 1 := by show (w.heap.push _).size = _; simp
set_option maxRecDepth 100000 in
set_option maxHeartbeats 8000000 in
theorem excs_any (n : Net) (ao : Option Addr) (cap : Nat) (fo : Option Addr) (fc : Nat) (f : List Int) (w : World) (hr : ARow w ao n.l) (hf : IRow w fo f) (hc : chkA n f = 0) :
    Calls Try.prog 34 #[encN n ao cap, .slice fo f.length fc] w fun e w' => ∃ v, e = .returned v ∧ OwnL w' w.heap.size v (excL n.l f (n.n.toNat + 1)) ∧ Below w.heap.size w w' := by
  obtain ⟨_, RT, hfl, hwi⟩ := chkA_ok hc
  have TB := Lib.hid (fun v k h => toS_bd RT hwi v (k := k) h)
  have FB := Lib.hid (fun v k h => frS_bd RT hwi v (k := k) h)
  have AB := Lib.hid (fun i h => amt_bd RT hwi (i := i) h)
  have A1 := Lib.hid RT.fr0
  have A2 := Lib.hid RT.fr1
  have A3 := Lib.hid RT.to0
  have A4 := Lib.hid RT.to1
  have hN0 := RT.n0
  have hN1 := RT.n1
  have hL := RT.len
  clear RT hwi hc
  obtain ⟨nn, ns, nt, l⟩ := n
  simp only at hr hfl TB FB AB A1 A2 A3 A4 hN0 hN1 hL ⊢
  obtain ⟨N, rfl⟩ : ∃ N : Nat, nn = (N : Int) := ⟨nn.toNat, by omega⟩
  rw [Int.toNat_natCast]
  have HLE := Lib.hid hfl
  rw [hfl]
  have HR := Lib.hid hr
  have HF := Lib.hid hf
  clear hr hf hfl
  have hmk := make_l (N + 1) (by omega)
  rw [show ((N + 1 : Nat) : Int) = (N : Int) + 1 by omega] at hmk
  have HN0 := netBox_new w N ns nt (.slice ao l.length cap)
  have HB0 := Lib.hid ((Below.refl w.heap.size w).alloc (Nat.le_refl _) (.cells #[.int .i64 (N : Int), .int .i64 ns, .int .i64 nt, .slice ao l.length cap] 24))
  have HZ0 := Lib.hid (show (w.alloc (.cells #[.int .i64 (N : Int), .int .i64 ns, .int .i64 nt, .slice ao l.length cap] 24)).heap.size = w.heap.size + 1 by simp)
  obtain ⟨n0, n1, n2, n3⟩ := netBox_cells HN0
  go_enter Try.func34, Try.ntmps34
  go_wp2
  generalize (w.alloc (.cells #[.int .i64 (N : Int), .int .i64 ns, .int .i64 nt, .slice ao l.length cap] 24)) = W0 at *
  have HX := Lib.hid HN0
  have n0' := held_new (o := .cells (madeCells #[.int .i64 0] (N + 1)) 2) n0
  clear HN0
  go_region
  · obtain ⟨hrows, hbz, hz2⟩ := two_rows W0 N l f
    simp only [zrow] at hrows hbz hz2
    generalize ((W0.alloc (.cells (madeCells #[.int .i64 0] (N + 1)) 2)).alloc (.cells (madeCells #[.int .i64 0] (N + 1)) 2)).drew = W1 at *
    have hi := hrows W0.heap.size (.inl rfl)
    have ho := hrows (W0.heap.size + 1) (.inr rfl)
    have hzz := HZ0.out
    generalize hq1 : W0.heap.size + 1 = bo at *
    generalize hq0 : W0.heap.size = bi at *
    have hbi : w.heap.size < bi ∧ bi < W1.heap.size := by omega
    have hbo : w.heap.size < bo ∧ bo < W1.heap.size := by omega
    have hne : bi ≠ bo := by omega
    have HI1 := Lib.hid hi.1
    have HO1 := Lib.hid ho.2
    have hzw : w.heap.size < W1.heap.size := by omega
    have HB1 := Lib.hid (HB0.out.trans (hbz.mono (by omega)))
    have HN1 := Lib.hid (netBox_below HX.out hbz (by omega))
    clear hrows hbz hz2 hzz hq0 hq1 hi ho n0 n1 n2 n3 n0'
    obtain ⟨hbi0, hbi1⟩ := hbi
    obtain ⟨hbo0, hbo1⟩ := hbo
    obtain ⟨n0, n1, n2, n3⟩ := netBox_cells HN1.out
    go_wp2
    clear n0 n1 n2 n3
    obtain ⟨Z, hZ⟩ : ∃ Z, Z = W1.heap.size := ⟨_, rfl⟩
    have HZ1 : Hid (Z ≤ W1.heap.size) := Lib.hid (by omega)
    rw [← hZ] at hbi1 hbo1 hzw
    clear hZ
    go_loopw [22] (fun i wr => ∃ k : Nat, i = .int .i64 k ∧ k ≤ l.length ∧ Hid (Z ≤ wr.heap.size) ∧ Hid (Below w.heap.size w wr) ∧ Hid (NetBox wr w.heap.size N ns nt (.slice ao l.length cap)) ∧ Hid (InRow wr bi N l f k) ∧ Hid (OutRow wr bo N l f k)) (fun i _ => l.length - (intOf i).toNat)
    case atStart => exact ⟨0, rfl, Nat.zero_le _, HZ1, HB1, HN1, HI1, HO1⟩
    case round =>
      obtain ⟨k, rfl, hk, HZ, HB, HN, HI, HO⟩ := hrel
      clear HX HB0 HB1 HN1 HI1 HO1 HZ0 HZ1 hmk
      by_cases hlt : k < l.length
      · obtain ⟨b, off, rfl, hbl, c0, c1, c2⟩ := arow_cell (HR.out.kept HB.out) hlt
        obtain ⟨b2, off2, rfl, hbl2, d0⟩ := irow_cell HF.out (i := k) (by have := HLE.out; omega)
        replace d0 := (HB.out.cell (p := ⟨b2, off2 + k, none⟩) hbl2).trans d0
        have q1 := A1.out k hlt
        have q2 := A2.out k hlt
        have q3 := A3.out k hlt
        have q4 := A4.out k hlt
        obtain ⟨x0, x1⟩ := AB.out k hlt
        obtain ⟨tn, htn⟩ : ∃ t : Nat, (arcAt l k).to = (t : Int) := ⟨(arcAt l k).to.toNat, by omega⟩
        obtain ⟨fn, hfn⟩ : ∃ t : Nat, (arcAt l k).fr = (t : Int) := ⟨(arcAt l k).fr.toNat, by omega⟩
        rw [htn] at c1 q3 q4
        rw [hfn] at c0 q1 q2
        have htN : tn < N + 1 := by omega
        have hfN : fn < N + 1 := by omega
        have hT := TB.out tn k hk
        have hF := FB.out fn k hk
        obtain ⟨x, hx⟩ : ∃ x, amt f k = x := ⟨_, rfl⟩
        have hT2 := TB.out tn (k + 1) (by omega)
        have hF2 := FB.out fn (k + 1) (by omega)
        rw [toS_succ, htn, if_pos rfl, hx] at hT2
        rw [frS_succ, hfn, if_pos rfl, hx] at hF2
        rw [hx] at d0 x0 x1
        have e0 := World.rowIs.cell HI.out htN
        have e1 := World.rowIs.cell HO.out hfN
        have z0 := World.rowIs.frozen HI.out tn
        have z1 := World.rowIs.frozen HO.out fn
        have HST := Lib.hid (fun w' h => inRow_step (w := w') (b := bi) (N := N) (l := l) (f := f) h htn hx)
        have HSF := Lib.hid (fun w' h => outRow_step (w := w') (b := bo) (N := N) (l := l) (f := f) h hfn hx)
        generalize (arcAt l k).cap = ca at *
        clear htn hfn hx
        generalize toS l f (tn : Int) k = sT at *
        generalize frS l f (fn : Int) k = sF at *
        have hkk : (k : Int) < (l.length : Int) := by omega
        have hk0 : (0 : Int) ≤ (k : Int) := by omega
        have ht1 : (tn : Int) < (N : Int) + 1 := by omega
        have hf1 : (fn : Int) < (N : Int) + 1 := by omega
        obtain ⟨g0, g1, g2⟩ := arc_new wr rfl (fn : Int) (tn : Int) ca
        have hsz := HB.out.size
        have hwz := HZ.out
        have HB2 := Lib.hid (HB.out.alloc hsz (.cells #[.int .i64 (fn : Int), .int .i64 (tn : Int), .int .i64 ca] 53))
        have HN2 := Lib.hid (netBox_alloc HN.out (.cells #[.int .i64 (fn : Int), .int .i64 (tn : Int), .int .i64 ca] 53))
        have HI2 := Lib.hid (show InRow (wr.alloc (.cells #[.int .i64 (fn : Int), .int .i64 (tn : Int), .int .i64 ca] 53)) bi N l f k from World.rowIs.alloc HI.out _)
        have HO2 := Lib.hid (show OutRow (wr.alloc (.cells #[.int .i64 (fn : Int), .int .i64 (tn : Int), .int .i64 ca] 53)) bo N l f k from World.rowIs.alloc HO.out _)
        have d1 := held_alloc (o := .cells #[.int .i64 (fn : Int), .int .i64 (tn : Int), .int .i64 ca] 53) d0
        have e2 := held_alloc (o := .cells #[.int .i64 (fn : Int), .int .i64 (tn : Int), .int .i64 ca] 53) e0
        have e3 := held_alloc (o := .cells #[.int .i64 (fn : Int), .int .i64 (tn : Int), .int .i64 ca] 53) e1
        have z2 := World.rowIs.frozen HI2.out tn
        have z3 := World.rowIs.frozen HO2.out fn
        have hZ2 : Z ≤ (wr.alloc (.cells #[.int .i64 (fn : Int), .int .i64 (tn : Int), .int .i64 ca] 53)).heap.size := by simp; omega
        go_wp2
        clear c0 c1 c2 d0 e0 e1 z0 z1
        have hgw : wr.heap.size ≠ bi ∧ wr.heap.size ≠ bo := by omega
        generalize hwq : (wr.alloc (.cells #[.int .i64 (fn : Int), .int .i64 (tn : Int), .int .i64 ca] 53)) = W2 at *
        generalize wr.heap.size = ba at *
        go_region
        have d2 := held_setd (p := ⟨bi, tn, none⟩) (x := .int .i64 (sT + x)) d1 (by show bi ≠ b2; omega)
        have g0b := held_setd (p := ⟨bi, tn, none⟩) (x := .int .i64 (sT + x)) g0 (by show bi ≠ ba; omega)
        have e4 := held_setd (p := ⟨bi, tn, none⟩) (x := .int .i64 (sT + x)) e3 hne
        have HI3 := Lib.hid (show InRow (W2.setCell ⟨bi, tn, none⟩ (.int .i64 (sT + x))).drew bi N l f (k + 1) from HST.out _ HI2.out)
        have HO3 := Lib.hid (show OutRow (W2.setCell ⟨bi, tn, none⟩ (.int .i64 (sT + x))).drew bo N l f k from World.rowIs.setOther HO2.out (Ne.symm hne) _)
        have HN3 := Lib.hid (show NetBox (W2.setCell ⟨bi, tn, none⟩ (.int .i64 (sT + x))).drew w.heap.size N ns nt (.slice (some ⟨b, off, none⟩) l.length cap) from netBox_other HN2.out (by omega))
        have HB3 := Lib.hid (below_drew (HB2.out.setCell (p := ⟨bi, tn, none⟩) (by show w.heap.size ≤ bi; omega) (.int .i64 (sT + x))))
        have hZ3 : Z ≤ (W2.setCell ⟨bi, tn, none⟩ (.int .i64 (sT + x))).drew.heap.size := by rw [size_setd]; exact hZ2
        clear d1 e2 e3 g0 g1 g2 z2 HI2 HN2 HB2 hZ2 HST
        generalize (W2.setCell ⟨bi, tn, none⟩ (.int .i64 (sT + x))).drew = W3 at *
        have z4 := World.rowIs.frozen HO3.out fn
        clear HO2 z3
        go_wp2
        go_region
        have HI4 := Lib.hid (show InRow (W3.setCell ⟨bo, fn, none⟩ (.int .i64 (sF + x))).drew bi N l f (k + 1) from World.rowIs.setOther HI3.out hne _)
        have HO4 := Lib.hid (show OutRow (W3.setCell ⟨bo, fn, none⟩ (.int .i64 (sF + x))).drew bo N l f (k + 1) from HSF.out _ HO3.out)
        have HN4 := Lib.hid (show NetBox (W3.setCell ⟨bo, fn, none⟩ (.int .i64 (sF + x))).drew w.heap.size N ns nt (.slice (some ⟨b, off, none⟩) l.length cap) from netBox_other HN3.out (by omega))
        have HB4 := Lib.hid (below_drew (HB3.out.setCell (p := ⟨bo, fn, none⟩) (by show w.heap.size ≤ bo; omega) (.int .i64 (sF + x))))
        have HZ4 := Lib.hid (show Z ≤ (W3.setCell ⟨bo, fn, none⟩ (.int .i64 (sF + x))).drew.heap.size by rw [size_setd]; exact hZ3)
        clear d2 g0b e4 z4 HI3 HO3 HN3 HB3 hZ3 HSF
        go_wp2
        go_roundw
        case rel => exact ⟨k + 1, by go_num, by omega, HZ4, HB4, HN4, HI4, HO4⟩
        case measure => simp [intOf]; omega
      · have ek : k = l.length := by omega
        subst ek
        have HTB := Lib.hid (fun v => TB.out v l.length (Nat.le_refl _))
        have HFB := Lib.hid (fun v => FB.out v l.length (Nat.le_refl _))
        obtain ⟨n0, n1, n2, n3⟩ := netBox_cells HN.out
        obtain ⟨WX, hWX⟩ : ∃ x, x = wr := ⟨_, rfl⟩
        have HZX := Lib.hid (show Z ≤ WX.heap.size from hWX ▸ HZ.out)
        have HBX := Lib.hid (show Below w.heap.size w WX from hWX ▸ HB.out)
        have HIX := Lib.hid (show InRow WX bi N l f l.length from hWX ▸ HI.out)
        have HOX := Lib.hid (show OutRow WX bo N l f l.length from hWX ▸ HO.out)
        have HST0 := Lib.hid (show Below Z WX wr from hWX ▸ Below.refl _ _)
        have HZW := Lib.hid (show Z ≤ wr.heap.size from HZ.out)
        clear hWX HZ HB HI HO HN TB FB AB A1 A2 A3 A4 HR HF hlt hk
        go_wp2
        clear n0 n1 n2 n3
        go_loopw [9, 53] (fun s i wr => ∃ (v : Value) (j : Nat), v = s ∧ i = .int .i64 j ∧ j ≤ N + 1 ∧ Hid (OwnL wr Z v (excL l f j)) ∧ Hid (Below Z WX wr) ∧ Hid (Z ≤ wr.heap.size)) (fun _ i _ => N + 1 - (intOf i).toNat)
        case atStart => exact ⟨_, 0, rfl, rfl, Nat.zero_le _, Lib.hid (Rw.own_nil _ _), HST0, HZW⟩
        case round =>
          obtain ⟨v, j, rfl, rfl, hj, HOW, HBW, HZZ⟩ := hrel
          clear HST0 HZW
          by_cases hjl : j < N + 1
          · have u0 := World.rowIs.cell (World.rowIs.of_block HIX.out (HBW.out.block bi hbi1)) hjl
            have u1 := World.rowIs.cell (World.rowIs.of_block HOX.out (HBW.out.block bo hbo1)) hjl
            have hT := HTB.out (j : Int)
            have hF := HFB.out (j : Int)
            have HSC := Lib.hid (excL_succ l f j)
            have HEX := Lib.hid (show exc l f (j : Int) = toS l f (j : Int) l.length - frS l f (j : Int) l.length from rfl)
            generalize toS l f (j : Int) l.length = x at *
            generalize frS l f (j : Int) l.length = y at *
            have hji : (j : Int) < (N : Int) + 1 := by omega
            have hj0 : (0 : Int) ≤ (j : Int) := by omega
            have hvb := Rw.own_block HOW.out
            have HV1 := Lib.hid (show v.ownBlock ≠ some bi from fun h => by have := hvb _ h; omega)
            have HV2 := Lib.hid (show v.ownBlock ≠ some bo from fun h => by have := hvb _ h; omega)
            have hzz := HZZ.out
            have hw1 : IntKind.i64.wrap (x - y) = x - y := by rw [IntKind.wrap_i64]; omega
            have hw2 : IntKind.i64.wrap ((j : Int) + 1) = (j : Int) + 1 := by rw [IntKind.wrap_i64]; omega
            have HO1 := Lib.hid (show OwnL (wr.alloc (.cells #[.int .i64 (x - y)] 2)).drew Z v (excL l f j) from Rw.own_alloc HOW.out _)
            have HNW := Lib.hid (show IRow (wr.alloc (.cells #[.int .i64 (x - y)] 2)).drew (some ⟨wr.heap.size, 0, none⟩) [x - y] from irow_one' wr rfl (x - y) _)
            have HLN := Lib.hid (show (excL l f j).length + ([x - y] : List Int).length ≤ 1099511627776 by rw [excL_len]; simp; omega)
            have HBZ : Z ≤ (wr.alloc (.cells #[.int .i64 (x - y)] 2)).drew.heap.size := by rw [size_allocd]; omega
            have HGB := Lib.hid (fun w' (hg : (wr.alloc (.cells #[.int .i64 (x - y)] 2)).drew.grownBy w' v.ownBlock) => (below_drew (HBW.out.alloc HZZ.out (.cells #[.int .i64 (x - y)] 2))).grown hg HBZ hvb)
            have HGZ := Lib.hid (fun w' (hg : (wr.alloc (.cells #[.int .i64 (x - y)] 2)).drew.grownBy w' v.ownBlock) => Nat.le_trans HBZ hg.size)
            go_wp2
            have hS0 := (show (fun w' => w'.cell? ⟨bi, j, none⟩ = some (.int .i64 x) ∧ w'.cell? ⟨bo, j, none⟩ = some (.int .i64 y)) wr.drew from ⟨u0, u1⟩)
            have hS1 := (show (fun w' => w'.cell? ⟨bi, j, none⟩ = some (.int .i64 x) ∧ w'.cell? ⟨bo, j, none⟩ = some (.int .i64 y)) (wr.alloc (.cells #[.int .i64 (x - y)] 2)).drew from ⟨held_new u0, held_new u1⟩)
            refine Rh.start (S := (fun w' => w'.cell? ⟨bi, j, none⟩ = some (.int .i64 x) ∧ w'.cell? ⟨bo, j, none⟩ = some (.int .i64 y))) (by kernel_rfl) ?_
            refine Rh.take (some 56) (i := 0) (v := ?_) rfl (by kernel_rfl) (by kernel_rfl) (by kernel_rfl) (by kernel_rfl) (fun _ _ _ h => h) (Or.inl ⟨by rfl, ?_⟩) hS0 ?_
            rotate_left
            · intro w hSw
              go_simp
              try with_reducible rfl
            try simp only [Act.put, List.setIfInBounds_toArray, List.set_cons_zero, List.set_cons_succ]
            refine Rh.take (some 57) (i := 1) (v := ?_) rfl (by kernel_rfl) (by kernel_rfl) (by kernel_rfl) (by kernel_rfl) (fun _ _ _ h => h) (Or.inl ⟨by rfl, ?_⟩) hS0 ?_
            rotate_left
            · intro w hSw
              go_simp
              try with_reducible rfl
            try simp only [Act.put, List.setIfInBounds_toArray, List.set_cons_zero, List.set_cons_succ]
            refine Rh.take (some 58) (i := 2) (v := ?_) rfl (by kernel_rfl) (by kernel_rfl) (by kernel_rfl) (by kernel_rfl) (fun _ _ _ h => h) (Or.inl ⟨by rfl, ?_⟩) hS0 ?_
            rotate_left
            · intro w hSw
              go_simp
              try with_reducible rfl
            try simp only [Act.put, List.setIfInBounds_toArray, List.set_cons_zero, List.set_cons_succ]
            refine Rh.take (some 59) (i := 3) (v := ?_) rfl (by kernel_rfl) (by kernel_rfl) (by kernel_rfl) (by kernel_rfl) (fun _ _ _ h => h) (Or.inl ⟨by rfl, ?_⟩) hS0 ?_
            rotate_left
            · intro w hSw
              go_simp
              try with_reducible rfl
            try simp only [Act.put, List.setIfInBounds_toArray, List.set_cons_zero, List.set_cons_succ]
            refine Rh.take (some 60) (i := 4) (v := ?_) rfl (by kernel_rfl) (by kernel_rfl) (by kernel_rfl) (by kernel_rfl) (fun _ _ _ h => h) (Or.inl ⟨by rfl, ?_⟩) hS0 ?_
            rotate_left
            · intro w hSw
              go_simp
              try with_reducible rfl
            try simp only [Act.put, List.setIfInBounds_toArray, List.set_cons_zero, List.set_cons_succ]
            refine Rh.take (some 61) (i := 5) (v := ?_) rfl (by kernel_rfl) (by kernel_rfl) (by kernel_rfl) (by kernel_rfl) (fun _ _ _ h => h) (Or.inl ⟨by rfl, ?_⟩) hS0 ?_
            rotate_left
            · intro w hSw
              go_simp
              try with_reducible rfl
            try simp only [Act.put, List.setIfInBounds_toArray, List.set_cons_zero, List.set_cons_succ]
            refine Rh.take (some 62) (i := 6) (v := ?_) rfl (by kernel_rfl) (by kernel_rfl) (by kernel_rfl) (by kernel_rfl) (fun _ _ _ h => h) (Or.inl ⟨by rfl, ?_⟩) hS0 ?_
            rotate_left
            · intro w hSw
              go_simp
              try with_reducible rfl
            try simp only [Act.put, List.setIfInBounds_toArray, List.set_cons_zero, List.set_cons_succ]
            refine Rh.take (some 63) (i := 7) (v := ?_) rfl (by kernel_rfl) (by kernel_rfl) (by kernel_rfl) (by kernel_rfl) (fun _ _ _ h => h) (Or.inl ⟨by rfl, ?_⟩) hS0 ?_
            rotate_left
            · intro w hSw
              go_simp
              try with_reducible rfl
            try simp only [Act.put, List.setIfInBounds_toArray, List.set_cons_zero, List.set_cons_succ]
            refine Rh.take (some 64) (i := 8) (v := ?_) rfl (by kernel_rfl) (by kernel_rfl) (by kernel_rfl) (by kernel_rfl) (fun _ _ _ h => h) (Or.inl ⟨by rfl, ?_⟩) hS0 ?_
            rotate_left
            · intro w hSw
              go_simp
              try with_reducible rfl
            try simp only [Act.put, List.setIfInBounds_toArray, List.set_cons_zero, List.set_cons_succ]
            refine Rh.take (some 65) (i := 9) (v := ?_) rfl (by kernel_rfl) (by kernel_rfl) (by kernel_rfl) (by kernel_rfl) (fun _ _ _ h => h) (Or.inl ⟨by rfl, ?_⟩) hS0 ?_
            rotate_left
            · intro w hSw
              go_simp
              try with_reducible rfl
            try simp only [Act.put, List.setIfInBounds_toArray, List.set_cons_zero, List.set_cons_succ]
            refine Rh.step (i := 10) (by kernel_rfl) rfl fun K' hK' => ?_
            have HK := Lib.hid hK'
            clear hK'
            go_simp
            refine HK.out _ _ ⟨hS1, ?_⟩
            clear HK K'
            try simp only [Act.put, List.setIfInBounds_toArray, List.set_cons_zero, List.set_cons_succ]
            refine Rh.step (i := 11) (by kernel_rfl) rfl fun K' hK' => ?_
            refine Rw.stepAt elemL encI_len encI_one (by rfl) (.tmp 56) (.tmp 66) (by rfl) Z v (excL l f j) (by rfl) HO1.out ⟨wr.heap.size, 0, none⟩ 1 [x - y] 1 rfl (by rfl) HNW.out HLN.out HBZ ?_
            intro v' w' hown' hgrow _
            have hS2 := (show (fun w' => w'.cell? ⟨bi, j, none⟩ = some (.int .i64 x) ∧ w'.cell? ⟨bo, j, none⟩ = some (.int .i64 y)) w' from ⟨held_grow hgrow HV1.out u0, held_grow hgrow HV2.out u1⟩)
            refine hK' _ _ ⟨hS2, ?_⟩
            clear hK' K'
            try simp only [Act.put, List.setIfInBounds_toArray, List.set_cons_zero, List.set_cons_succ]
            refine Rh.take (some 9) (i := 12) (v := ?_) rfl (by kernel_rfl) (by kernel_rfl) (by kernel_rfl) (by kernel_rfl) (fun _ _ _ h => h) (Or.inl ⟨by rfl, ?_⟩) hS2 ?_
            rotate_left
            · intro w hSw
              go_simp
              try with_reducible rfl
            try simp only [Act.put, List.setIfInBounds_toArray, List.set_cons_zero, List.set_cons_succ]
            refine Rh.done (by kernel_rfl) ?_ _
            have HOV := Lib.hid (show OwnL w' Z v' (excL l f (j + 1)) by rw [HSC.out, HEX.out]; exact hown')
            have HB5 := Lib.hid (HGB.out w' hgrow)
            have HZ5 := Lib.hid (HGZ.out w' hgrow)
            clear hS0 hS1 hS2 hown' hgrow HO1 HNW HBZ
            go_wp2
            go_roundw
            case rel => exact ⟨_, j + 1, rfl, by go_num, by omega, HOV, HB5, HZ5⟩
            case measure => simp [intOf]; omega
          · have ej : j = N + 1 := by omega
            subst ej
            have HBE := Lib.hid (HBX.out.trans (HBW.out.mono (by omega)))
            have HOE := Lib.hid (Rw.own_base HOW.out (B' := w.heap.size) (by omega))
            go_wp2
            go_ret
            exact ⟨_, rfl, HOE.out, HBE.out⟩
  · obtain ⟨hrows, hbz, hz2⟩ := two_rows W0 N l f
    simp only [zrow] at hrows hbz hz2
    generalize ((W0.alloc (.cells (madeCells #[.int .i64 0] (N + 1)) 2)).alloc (.cells (madeCells #[.int .i64 0] (N + 1)) 2)).drew = W1 at *
    have hi := hrows W0.heap.size (.inl rfl)
    have ho := hrows (W0.heap.size + 1) (.inr rfl)
    have hzz := HZ0.out
    generalize hq1 : W0.heap.size + 1 = bi at *
    generalize hq0 : W0.heap.size = bo at *
    have hbi : w.heap.size < bi ∧ bi < W1.heap.size := by omega
    have hbo : w.heap.size < bo ∧ bo < W1.heap.size := by omega
    have hne : bi ≠ bo := by omega
    have HI1 := Lib.hid ho.1
    have HO1 := Lib.hid hi.2
    have hzw : w.heap.size < W1.heap.size := by omega
    have HB1 := Lib.hid (HB0.out.trans (hbz.mono (by omega)))
    have HN1 := Lib.hid (netBox_below HX.out hbz (by omega))
    clear hrows hbz hz2 hzz hq0 hq1 hi ho n0 n1 n2 n3 n0'
    obtain ⟨hbi0, hbi1⟩ := hbi
    obtain ⟨hbo0, hbo1⟩ := hbo
    obtain ⟨n0, n1, n2, n3⟩ := netBox_cells HN1.out
    go_wp2
    clear n0 n1 n2 n3
    obtain ⟨Z, hZ⟩ : ∃ Z, Z = W1.heap.size := ⟨_, rfl⟩
    have HZ1 : Hid (Z ≤ W1.heap.size) := Lib.hid (by omega)
    rw [← hZ] at hbi1 hbo1 hzw
    clear hZ
    go_loopw [22] (fun i wr => ∃ k : Nat, i = .int .i64 k ∧ k ≤ l.length ∧ Hid (Z ≤ wr.heap.size) ∧ Hid (Below w.heap.size w wr) ∧ Hid (NetBox wr w.heap.size N ns nt (.slice ao l.length cap)) ∧ Hid (InRow wr bi N l f k) ∧ Hid (OutRow wr bo N l f k)) (fun i _ => l.length - (intOf i).toNat)
    case atStart => exact ⟨0, rfl, Nat.zero_le _, HZ1, HB1, HN1, HI1, HO1⟩
    case round =>
      obtain ⟨k, rfl, hk, HZ, HB, HN, HI, HO⟩ := hrel
      clear HX HB0 HB1 HN1 HI1 HO1 HZ0 HZ1 hmk
      by_cases hlt : k < l.length
      · obtain ⟨b, off, rfl, hbl, c0, c1, c2⟩ := arow_cell (HR.out.kept HB.out) hlt
        obtain ⟨b2, off2, rfl, hbl2, d0⟩ := irow_cell HF.out (i := k) (by have := HLE.out; omega)
        replace d0 := (HB.out.cell (p := ⟨b2, off2 + k, none⟩) hbl2).trans d0
        have q1 := A1.out k hlt
        have q2 := A2.out k hlt
        have q3 := A3.out k hlt
        have q4 := A4.out k hlt
        obtain ⟨x0, x1⟩ := AB.out k hlt
        obtain ⟨tn, htn⟩ : ∃ t : Nat, (arcAt l k).to = (t : Int) := ⟨(arcAt l k).to.toNat, by omega⟩
        obtain ⟨fn, hfn⟩ : ∃ t : Nat, (arcAt l k).fr = (t : Int) := ⟨(arcAt l k).fr.toNat, by omega⟩
        rw [htn] at c1 q3 q4
        rw [hfn] at c0 q1 q2
        have htN : tn < N + 1 := by omega
        have hfN : fn < N + 1 := by omega
        have hT := TB.out tn k hk
        have hF := FB.out fn k hk
        obtain ⟨x, hx⟩ : ∃ x, amt f k = x := ⟨_, rfl⟩
        have hT2 := TB.out tn (k + 1) (by omega)
        have hF2 := FB.out fn (k + 1) (by omega)
        rw [toS_succ, htn, if_pos rfl, hx] at hT2
        rw [frS_succ, hfn, if_pos rfl, hx] at hF2
        rw [hx] at d0 x0 x1
        have e0 := World.rowIs.cell HI.out htN
        have e1 := World.rowIs.cell HO.out hfN
        have z0 := World.rowIs.frozen HI.out tn
        have z1 := World.rowIs.frozen HO.out fn
        have HST := Lib.hid (fun w' h => inRow_step (w := w') (b := bi) (N := N) (l := l) (f := f) h htn hx)
        have HSF := Lib.hid (fun w' h => outRow_step (w := w') (b := bo) (N := N) (l := l) (f := f) h hfn hx)
        generalize (arcAt l k).cap = ca at *
        clear htn hfn hx
        generalize toS l f (tn : Int) k = sT at *
        generalize frS l f (fn : Int) k = sF at *
        have hkk : (k : Int) < (l.length : Int) := by omega
        have hk0 : (0 : Int) ≤ (k : Int) := by omega
        have ht1 : (tn : Int) < (N : Int) + 1 := by omega
        have hf1 : (fn : Int) < (N : Int) + 1 := by omega
        obtain ⟨g0, g1, g2⟩ := arc_new wr rfl (fn : Int) (tn : Int) ca
        have hsz := HB.out.size
        have hwz := HZ.out
        have HB2 := Lib.hid (HB.out.alloc hsz (.cells #[.int .i64 (fn : Int), .int .i64 (tn : Int), .int .i64 ca] 53))
        have HN2 := Lib.hid (netBox_alloc HN.out (.cells #[.int .i64 (fn : Int), .int .i64 (tn : Int), .int .i64 ca] 53))
        have HI2 := Lib.hid (show InRow (wr.alloc (.cells #[.int .i64 (fn : Int), .int .i64 (tn : Int), .int .i64 ca] 53)) bi N l f k from World.rowIs.alloc HI.out _)
        have HO2 := Lib.hid (show OutRow (wr.alloc (.cells #[.int .i64 (fn : Int), .int .i64 (tn : Int), .int .i64 ca] 53)) bo N l f k from World.rowIs.alloc HO.out _)
        have d1 := held_alloc (o := .cells #[.int .i64 (fn : Int), .int .i64 (tn : Int), .int .i64 ca] 53) d0
        have e2 := held_alloc (o := .cells #[.int .i64 (fn : Int), .int .i64 (tn : Int), .int .i64 ca] 53) e0
        have e3 := held_alloc (o := .cells #[.int .i64 (fn : Int), .int .i64 (tn : Int), .int .i64 ca] 53) e1
        have z2 := World.rowIs.frozen HI2.out tn
        have z3 := World.rowIs.frozen HO2.out fn
        have hZ2 : Z ≤ (wr.alloc (.cells #[.int .i64 (fn : Int), .int .i64 (tn : Int), .int .i64 ca] 53)).heap.size := by simp; omega
        go_wp2
        clear c0 c1 c2 d0 e0 e1 z0 z1
        have hgw : wr.heap.size ≠ bi ∧ wr.heap.size ≠ bo := by omega
        generalize hwq : (wr.alloc (.cells #[.int .i64 (fn : Int), .int .i64 (tn : Int), .int .i64 ca] 53)) = W2 at *
        generalize wr.heap.size = ba at *
        go_region
        have d2 := held_setd (p := ⟨bi, tn, none⟩) (x := .int .i64 (sT + x)) d1 (by show bi ≠ b2; omega)
        have g0b := held_setd (p := ⟨bi, tn, none⟩) (x := .int .i64 (sT + x)) g0 (by show bi ≠ ba; omega)
        have e4 := held_setd (p := ⟨bi, tn, none⟩) (x := .int .i64 (sT + x)) e3 hne
        have HI3 := Lib.hid (show InRow (W2.setCell ⟨bi, tn, none⟩ (.int .i64 (sT + x))).drew bi N l f (k + 1) from HST.out _ HI2.out)
        have HO3 := Lib.hid (show OutRow (W2.setCell ⟨bi, tn, none⟩ (.int .i64 (sT + x))).drew bo N l f k from World.rowIs.setOther HO2.out (Ne.symm hne) _)
        have HN3 := Lib.hid (show NetBox (W2.setCell ⟨bi, tn, none⟩ (.int .i64 (sT + x))).drew w.heap.size N ns nt (.slice (some ⟨b, off, none⟩) l.length cap) from netBox_other HN2.out (by omega))
        have HB3 := Lib.hid (below_drew (HB2.out.setCell (p := ⟨bi, tn, none⟩) (by show w.heap.size ≤ bi; omega) (.int .i64 (sT + x))))
        have hZ3 : Z ≤ (W2.setCell ⟨bi, tn, none⟩ (.int .i64 (sT + x))).drew.heap.size := by rw [size_setd]; exact hZ2
        clear d1 e2 e3 g0 g1 g2 z2 HI2 HN2 HB2 hZ2 HST
        generalize (W2.setCell ⟨bi, tn, none⟩ (.int .i64 (sT + x))).drew = W3 at *
        have z4 := World.rowIs.frozen HO3.out fn
        clear HO2 z3
        go_wp2
        go_region
        have HI4 := Lib.hid (show InRow (W3.setCell ⟨bo, fn, none⟩ (.int .i64 (sF + x))).drew bi N l f (k + 1) from World.rowIs.setOther HI3.out hne _)
        have HO4 := Lib.hid (show OutRow (W3.setCell ⟨bo, fn, none⟩ (.int .i64 (sF + x))).drew bo N l f (k + 1) from HSF.out _ HO3.out)
        have HN4 := Lib.hid (show NetBox (W3.setCell ⟨bo, fn, none⟩ (.int .i64 (sF + x))).drew w.heap.size N ns nt (.slice (some ⟨b, off, none⟩) l.length cap) from netBox_other HN3.out (by omega))
        have HB4 := Lib.hid (below_drew (HB3.out.setCell (p := ⟨bo, fn, none⟩) (by show w.heap.size ≤ bo; omega) (.int .i64 (sF + x))))
        have HZ4 := Lib.hid (show Z ≤ (W3.setCell ⟨bo, fn, none⟩ (.int .i64 (sF + x))).drew.heap.size by rw [size_setd]; exact hZ3)
        clear d2 g0b e4 z4 HI3 HO3 HN3 HB3 hZ3 HSF
        go_wp2
        go_roundw
        case rel => exact ⟨k + 1, by go_num, by omega, HZ4, HB4, HN4, HI4, HO4⟩
        case measure => simp [intOf]; omega
      · have ek : k = l.length := by omega
        subst ek
        have HTB := Lib.hid (fun v => TB.out v l.length (Nat.le_refl _))
        have HFB := Lib.hid (fun v => FB.out v l.length (Nat.le_refl _))
        obtain ⟨n0, n1, n2, n3⟩ := netBox_cells HN.out
        obtain ⟨WX, hWX⟩ : ∃ x, x = wr := ⟨_, rfl⟩
        have HZX := Lib.hid (show Z ≤ WX.heap.size from hWX ▸ HZ.out)
        have HBX := Lib.hid (show Below w.heap.size w WX from hWX ▸ HB.out)
        have HIX := Lib.hid (show InRow WX bi N l f l.length from hWX ▸ HI.out)
        have HOX := Lib.hid (show OutRow WX bo N l f l.length from hWX ▸ HO.out)
        have HST0 := Lib.hid (show Below Z WX wr from hWX ▸ Below.refl _ _)
        have HZW := Lib.hid (show Z ≤ wr.heap.size from HZ.out)
        clear hWX HZ HB HI HO HN TB FB AB A1 A2 A3 A4 HR HF hlt hk
        go_wp2
        clear n0 n1 n2 n3
        go_loopw [9, 53] (fun s i wr => ∃ (v : Value) (j : Nat), v = s ∧ i = .int .i64 j ∧ j ≤ N + 1 ∧ Hid (OwnL wr Z v (excL l f j)) ∧ Hid (Below Z WX wr) ∧ Hid (Z ≤ wr.heap.size)) (fun _ i _ => N + 1 - (intOf i).toNat)
        case atStart => exact ⟨_, 0, rfl, rfl, Nat.zero_le _, Lib.hid (Rw.own_nil _ _), HST0, HZW⟩
        case round =>
          obtain ⟨v, j, rfl, rfl, hj, HOW, HBW, HZZ⟩ := hrel
          clear HST0 HZW
          by_cases hjl : j < N + 1
          · have u0 := World.rowIs.cell (World.rowIs.of_block HIX.out (HBW.out.block bi hbi1)) hjl
            have u1 := World.rowIs.cell (World.rowIs.of_block HOX.out (HBW.out.block bo hbo1)) hjl
            have hT := HTB.out (j : Int)
            have hF := HFB.out (j : Int)
            have HSC := Lib.hid (excL_succ l f j)
            have HEX := Lib.hid (show exc l f (j : Int) = toS l f (j : Int) l.length - frS l f (j : Int) l.length from rfl)
            generalize toS l f (j : Int) l.length = x at *
            generalize frS l f (j : Int) l.length = y at *
            have hji : (j : Int) < (N : Int) + 1 := by omega
            have hj0 : (0 : Int) ≤ (j : Int) := by omega
            have hvb := Rw.own_block HOW.out
            have HV1 := Lib.hid (show v.ownBlock ≠ some bi from fun h => by have := hvb _ h; omega)
            have HV2 := Lib.hid (show v.ownBlock ≠ some bo from fun h => by have := hvb _ h; omega)
            have hzz := HZZ.out
            have hw1 : IntKind.i64.wrap (x - y) = x - y := by rw [IntKind.wrap_i64]; omega
            have hw2 : IntKind.i64.wrap ((j : Int) + 1) = (j : Int) + 1 := by rw [IntKind.wrap_i64]; omega
            have HO1 := Lib.hid (show OwnL (wr.alloc (.cells #[.int .i64 (x - y)] 2)).drew Z v (excL l f j) from Rw.own_alloc HOW.out _)
            have HNW := Lib.hid (show IRow (wr.alloc (.cells #[.int .i64 (x - y)] 2)).drew (some ⟨wr.heap.size, 0, none⟩) [x - y] from irow_one' wr rfl (x - y) _)
            have HLN := Lib.hid (show (excL l f j).length + ([x - y] : List Int).length ≤ 1099511627776 by rw [excL_len]; simp; omega)
            have HBZ : Z ≤ (wr.alloc (.cells #[.int .i64 (x - y)] 2)).drew.heap.size := by rw [size_allocd]; omega
            have HGB := Lib.hid (fun w' (hg : (wr.alloc (.cells #[.int .i64 (x - y)] 2)).drew.grownBy w' v.ownBlock) => (below_drew (HBW.out.alloc HZZ.out (.cells #[.int .i64 (x - y)] 2))).grown hg HBZ hvb)
            have HGZ := Lib.hid (fun w' (hg : (wr.alloc (.cells #[.int .i64 (x - y)] 2)).drew.grownBy w' v.ownBlock) => Nat.le_trans HBZ hg.size)
            go_wp2
            have hS0 := (show (fun w' => w'.cell? ⟨bi, j, none⟩ = some (.int .i64 x) ∧ w'.cell? ⟨bo, j, none⟩ = some (.int .i64 y)) wr.drew from ⟨u0, u1⟩)
            have hS1 := (show (fun w' => w'.cell? ⟨bi, j, none⟩ = some (.int .i64 x) ∧ w'.cell? ⟨bo, j, none⟩ = some (.int .i64 y)) (wr.alloc (.cells #[.int .i64 (x - y)] 2)).drew from ⟨held_new u0, held_new u1⟩)
            refine Rh.start (S := (fun w' => w'.cell? ⟨bi, j, none⟩ = some (.int .i64 x) ∧ w'.cell? ⟨bo, j, none⟩ = some (.int .i64 y))) (by kernel_rfl) ?_
            refine Rh.take (some 56) (i := 0) (v := ?_) rfl (by kernel_rfl) (by kernel_rfl) (by kernel_rfl) (by kernel_rfl) (fun _ _ _ h => h) (Or.inl ⟨by rfl, ?_⟩) hS0 ?_
            rotate_left
            · intro w hSw
              go_simp
              try with_reducible rfl
            try simp only [Act.put, List.setIfInBounds_toArray, List.set_cons_zero, List.set_cons_succ]
            refine Rh.take (some 57) (i := 1) (v := ?_) rfl (by kernel_rfl) (by kernel_rfl) (by kernel_rfl) (by kernel_rfl) (fun _ _ _ h => h) (Or.inl ⟨by rfl, ?_⟩) hS0 ?_
            rotate_left
            · intro w hSw
              go_simp
              try with_reducible rfl
            try simp only [Act.put, List.setIfInBounds_toArray, List.set_cons_zero, List.set_cons_succ]
            refine Rh.take (some 58) (i := 2) (v := ?_) rfl (by kernel_rfl) (by kernel_rfl) (by kernel_rfl) (by kernel_rfl) (fun _ _ _ h => h) (Or.inl ⟨by rfl, ?_⟩) hS0 ?_
            rotate_left
            · intro w hSw
              go_simp
              try with_reducible rfl
            try simp only [Act.put, List.setIfInBounds_toArray, List.set_cons_zero, List.set_cons_succ]
            refine Rh.take (some 59) (i := 3) (v := ?_) rfl (by kernel_rfl) (by kernel_rfl) (by kernel_rfl) (by kernel_rfl) (fun _ _ _ h => h) (Or.inl ⟨by rfl, ?_⟩) hS0 ?_
            rotate_left
            · intro w hSw
              go_simp
              try with_reducible rfl
            try simp only [Act.put, List.setIfInBounds_toArray, List.set_cons_zero, List.set_cons_succ]
            refine Rh.take (some 60) (i := 4) (v := ?_) rfl (by kernel_rfl) (by kernel_rfl) (by kernel_rfl) (by kernel_rfl) (fun _ _ _ h => h) (Or.inl ⟨by rfl, ?_⟩) hS0 ?_
            rotate_left
            · intro w hSw
              go_simp
              try with_reducible rfl
            try simp only [Act.put, List.setIfInBounds_toArray, List.set_cons_zero, List.set_cons_succ]
            refine Rh.take (some 61) (i := 5) (v := ?_) rfl (by kernel_rfl) (by kernel_rfl) (by kernel_rfl) (by kernel_rfl) (fun _ _ _ h => h) (Or.inl ⟨by rfl, ?_⟩) hS0 ?_
            rotate_left
            · intro w hSw
              go_simp
              try with_reducible rfl
            try simp only [Act.put, List.setIfInBounds_toArray, List.set_cons_zero, List.set_cons_succ]
            refine Rh.take (some 62) (i := 6) (v := ?_) rfl (by kernel_rfl) (by kernel_rfl) (by kernel_rfl) (by kernel_rfl) (fun _ _ _ h => h) (Or.inl ⟨by rfl, ?_⟩) hS0 ?_
            rotate_left
            · intro w hSw
              go_simp
              try with_reducible rfl
            try simp only [Act.put, List.setIfInBounds_toArray, List.set_cons_zero, List.set_cons_succ]
            refine Rh.take (some 63) (i := 7) (v := ?_) rfl (by kernel_rfl) (by kernel_rfl) (by kernel_rfl) (by kernel_rfl) (fun _ _ _ h => h) (Or.inl ⟨by rfl, ?_⟩) hS0 ?_
            rotate_left
            · intro w hSw
              go_simp
              try with_reducible rfl
            try simp only [Act.put, List.setIfInBounds_toArray, List.set_cons_zero, List.set_cons_succ]
            refine Rh.take (some 64) (i := 8) (v := ?_) rfl (by kernel_rfl) (by kernel_rfl) (by kernel_rfl) (by kernel_rfl) (fun _ _ _ h => h) (Or.inl ⟨by rfl, ?_⟩) hS0 ?_
            rotate_left
            · intro w hSw
              go_simp
              try with_reducible rfl
            try simp only [Act.put, List.setIfInBounds_toArray, List.set_cons_zero, List.set_cons_succ]
            refine Rh.take (some 65) (i := 9) (v := ?_) rfl (by kernel_rfl) (by kernel_rfl) (by kernel_rfl) (by kernel_rfl) (fun _ _ _ h => h) (Or.inl ⟨by rfl, ?_⟩) hS0 ?_
            rotate_left
            · intro w hSw
              go_simp
              try with_reducible rfl
            try simp only [Act.put, List.setIfInBounds_toArray, List.set_cons_zero, List.set_cons_succ]
            refine Rh.step (i := 10) (by kernel_rfl) rfl fun K' hK' => ?_
            have HK := Lib.hid hK'
            clear hK'
            go_simp
            refine HK.out _ _ ⟨hS1, ?_⟩
            clear HK K'
            try simp only [Act.put, List.setIfInBounds_toArray, List.set_cons_zero, List.set_cons_succ]
            refine Rh.step (i := 11) (by kernel_rfl) rfl fun K' hK' => ?_
            refine Rw.stepAt elemL encI_len encI_one (by rfl) (.tmp 56) (.tmp 66) (by rfl) Z v (excL l f j) (by rfl) HO1.out ⟨wr.heap.size, 0, none⟩ 1 [x - y] 1 rfl (by rfl) HNW.out HLN.out HBZ ?_
            intro v' w' hown' hgrow _
            have hS2 := (show (fun w' => w'.cell? ⟨bi, j, none⟩ = some (.int .i64 x) ∧ w'.cell? ⟨bo, j, none⟩ = some (.int .i64 y)) w' from ⟨held_grow hgrow HV1.out u0, held_grow hgrow HV2.out u1⟩)
            refine hK' _ _ ⟨hS2, ?_⟩
            clear hK' K'
            try simp only [Act.put, List.setIfInBounds_toArray, List.set_cons_zero, List.set_cons_succ]
            refine Rh.take (some 9) (i := 12) (v := ?_) rfl (by kernel_rfl) (by kernel_rfl) (by kernel_rfl) (by kernel_rfl) (fun _ _ _ h => h) (Or.inl ⟨by rfl, ?_⟩) hS2 ?_
            rotate_left
            · intro w hSw
              go_simp
              try with_reducible rfl
            try simp only [Act.put, List.setIfInBounds_toArray, List.set_cons_zero, List.set_cons_succ]
            refine Rh.done (by kernel_rfl) ?_ _
            have HOV := Lib.hid (show OwnL w' Z v' (excL l f (j + 1)) by rw [HSC.out, HEX.out]; exact hown')
            have HB5 := Lib.hid (HGB.out w' hgrow)
            have HZ5 := Lib.hid (HGZ.out w' hgrow)
            clear hS0 hS1 hS2 hown' hgrow HO1 HNW HBZ
            go_wp2
            go_roundw
            case rel => exact ⟨_, j + 1, rfl, by go_num, by omega, HOV, HB5, HZ5⟩
            case measure => simp [intOf]; omega
          · have ej : j = N + 1 := by omega
            subst ej
            have HBE := Lib.hid (HBX.out.trans (HBW.out.mono (by omega)))
            have HOE := Lib.hid (Rw.own_base HOW.out (B' := w.heap.size) (by omega))
            go_wp2
            go_ret
            exact ⟨_, rfl, HOE.out, HBE.out⟩
end Ne
end Go.Proofs.Ytkeojkddbannpaa
