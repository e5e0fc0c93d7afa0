/-
  Dnb, Dnc, Dnd
-/
import Derived.Test.YtoadkckceladgaaGreatBb40
import Derived.Test.YtoadkckceladgaaGreatBb18
import Derived.RegionTactic
import Derived.BigRegion
import Derived.Deep.LoopGhost
import Derived.Deep.CutBlock
import Derived.Deep.DeepCutAuto
set_option linter.unusedVariables false
set_option linter.unusedSimpArgs false
set_option maxRecDepth 100000
set_option maxHeartbeats 4000000
namespace Go.Proofs.YtoadkckceladgaaGreat
open Go.ChangeShapes Go.WideShapes Go.ChangeAt Go.RowKit
open Lib (hid)
namespace Ne
def RunBox (w:World) (b:Nat) (v:Value) (p k s:Int):Prop:=w.heap[b]? = some (.cells #[v,.int .i64 p,.int .i64 k,.int .i64 s] 41 (0,0))
section
variable {w w2:World} {b B:Nat} {v v2:Value} {p k s p2 k2 s2:Int}
theorem runBox_cells (h:RunBox w b v p k s):w.cell? ⟨b,0,none⟩=some v∧w.cell? ⟨b,1,none⟩=some (.int .i64 p)∧w.cell? ⟨b,2,none⟩=some (.int .i64 k)∧w.cell? ⟨b,3,none⟩=some (.int .i64 s):=by
 unfold RunBox at h
 refine ⟨?_,?_,?_,?_⟩ <;> simp [World.cell?,h]
theorem runBox_frozen (h:RunBox w b v p k s) (o:Nat):w.frozen? ⟨b,o,none⟩=false:=by
 unfold RunBox at h;simp [World.frozen?,h]
theorem runBox_lt (h:RunBox w b v p k s):b<w.heap.size:=Rw.lt_of_heap h
theorem runBox_below (h:RunBox w b v p k s) (hb:Below B w w2) (hB:b<B):RunBox w2 b v p k s:=by
 unfold RunBox at *;rw [hb.block b hB];exact h
theorem runBox_alloc (h:RunBox w b v p k s) (o:Obj):RunBox (w.alloc o) b v p k s :=
 runBox_below h ((Below.refl _ _).alloc (Nat.le_refl _) o) (runBox_lt h)
theorem runBox_at (w:World) (hb:b=w.heap.size) (v:Value) (p k s:Int):RunBox (w.alloc (.cells #[v,.int .i64 p,.int .i64 k,.int .i64 s] 41)) b v p k s:=by
 subst hb;unfold RunBox;show (w.heap.push _)[w.heap.size]? = _;simp
theorem runBox_all (h:RunBox w b v p k s):RunBox ((((w.setCell ⟨b,0,none⟩ v2).setCell ⟨b,1,none⟩ (.int .i64 p2)).setCell ⟨b,2,none⟩ (.int .i64 k2)).setCell ⟨b,3,none⟩ (.int .i64 s2)) b v2 p2 k2 s2:=by
 unfold RunBox at *
 simp only [World.setCell,Array.getElem?_modify,h,if_true,Option.map_some]
 rfl
theorem runBox_own (h:RunBox w b v p k s) {B:Nat} {o:Option Addr} {n c:Nat} {l:List Int} (ho:OwnL w B (.slice o n c) l) (hb:b<B) (v2:Value) (p2 k2 s2:Int) :
  OwnL ((((w.setCell ⟨b,0,none⟩ v2).setCell ⟨b,1,none⟩ (.int .i64 p2)).setCell ⟨b,2,none⟩ (.int .i64 k2)).setCell ⟨b,3,none⟩ (.int .i64 s2)) B (.slice o n c) l:=by
 have hvb:=Rw.own_block ho
 exact Rw.own_set (Rw.own_set (Rw.own_set (Rw.own_set ho (p:=⟨b,0,none⟩) (fun h=>by have h2:=hvb _ h;simp only at h2;omega) v2) (p:=⟨b,1,none⟩) (fun h=>by have h2:=hvb _ h;simp only at h2;omega) (.int .i64 p2)) (p:=⟨b,2,none⟩) (fun h=>by have h2:=hvb _ h;simp only at h2;omega) (.int .i64 k2)) (p:=⟨b,3,none⟩) (fun h=>by have h2:=hvb _ h;simp only at h2;omega) (.int .i64 s2)
theorem below_all {B b:Nat} (h:Below B w w2) (hb:B≤b) (v2:Value) (p2 k2 s2:Int):Below B w ((((w2.setCell ⟨b,0,none⟩ v2).setCell ⟨b,1,none⟩ (.int .i64 p2)).setCell ⟨b,2,none⟩ (.int .i64 k2)).setCell ⟨b,3,none⟩ (.int .i64 s2)) :=
 (((h.setCell (p:=⟨b,0,none⟩) hb v2).setCell (p:=⟨b,1,none⟩) hb (.int .i64 p2)).setCell (p:=⟨b,2,none⟩) hb (.int .i64 k2)).setCell (p:=⟨b,3,none⟩) hb (.int .i64 s2)
end
def engV (q:Bool):Value:=.iface (if q then 91 else 90) (.agg #[])
def engB (q:Bool):FuncId:=if q then 102 else 89
theorem results_cell_one {P:Program} {fn:Func} {p u:Tmp} {ty:TypeId} (h:fn.results = #[.cell p ty,.tmp u]) (tmps:Array Value) (w:World) (g:Nat) (t:TypeId) (cs:Array Value) (fr:Nat × Nat) (d:TypeDesc)
  (hp:tmps.getD p undef=.pointer (some ⟨g,0,none⟩)) (hg:w.heap[g]? = some (.cells cs t fr))
  (hu:P.underlying ty=some d) (hd:(match d with | .struct _ | .array _ _=>true | _=>false)=true) (hi:(P.info? ty).map (·.size)=some cs.size) :
  (results fn tmps).run P w=.ok (.tuple #[.agg cs,tmps.getD u undef]) w:=by
 have hp':tmps[p]?.getD undef=.pointer (some ⟨g,0,none⟩):=by simpa using hp
 simp [results,h,hp',asAddr,run_loadVar_row w g t ty cs fr d hg hu hd hi]
theorem most_le {n:Net} (hR:Right n):mostV n≤10000000000:=by
 have h0:=hR.n0;have h1:=hR.n1;have h2:=hR.len
 obtain ⟨N,hN⟩:∃ N:Nat,n.n=(N:Int):=⟨n.n.toNat,by omega⟩
 obtain ⟨k,q,e1,_,h3,_,_,_⟩:=log_up N (by omega) (by omega)
 unfold mostV
 rw [hN,e1]
 obtain ⟨m,hm⟩:∃ m,m=n.l.length:=⟨_,rfl⟩
 rw [← hm] at h2 ⊢
 have a1:(N+m)*((2+k)*(2+k))≤2500*(11*11):=Nat.mul_le_mul (by omega) (Nat.mul_le_mul (by omega) (by omega))
 have e:(20000*((N:Int)+(m:Int))*(2+(k:Int))*(2+(k:Int)))=((20000*((N+m)*((2+k)*(2+k))):Nat):Int):=by
  rw [Int.natCast_mul,Int.natCast_mul,Int.natCast_mul,Int.natCast_add,Int.natCast_add,Int.mul_assoc,Int.mul_assoc];rfl
 rw [e]
 omega
def stM (n:Net) (q:Bool):Int:=if q then mostV n else 0
theorem phase_of (n:Net) (ao:Option Addr) (cap:Nat) (fo:Option Addr) (fc:Nat) (w:World) (x:Int) (q:Bool) (p k s:Int) (f g:List Int) (kW M:Int) (hr:ARow w ao n.l) (hf:IRow w fo f)
  (hp:0≤p∧p≤1000000) (hk:0≤k∧k≤100000000000) (hkW:0≤kW∧kW≤1000000) (hs:0≤s∧s≤1000000000000000) (hM:M≤10000000000)
  (BLK:∀ w',ARow w' ao n.l→IRow w' fo f→Calls Tryz.prog (engB q) #[.agg #[],encN n ao cap,.slice fo n.l.length fc,.int .i64 x] w' fun e w2=>∃ o c st,e=.returned (.tuple #[.slice o n.l.length c,.int .i64 kW,.int .i64 st,.int .i64 0])∧OwnL w2 w'.heap.size (.slice o n.l.length c) g∧0≤st∧st≤M∧Below w'.heap.size w' w2) :
  Calls Tryz.prog 33 #[encN n ao cap,.agg #[.slice fo n.l.length fc,.int .i64 p,.int .i64 k,.int .i64 s],.int .i64 x,engV q] w fun e w'=>∃ o c st,e=.returned (.tuple #[.agg #[.slice o n.l.length c,.int .i64 (p+1),.int .i64 (k+kW),.int .i64 (s+st)],.int .i64 0])∧OwnL w' w.heap.size (.slice o n.l.length c) g∧0≤st∧st≤M∧Below w.heap.size w w':=by
 have HBN:=hid (((Below.refl w.heap.size w).alloc (Nat.le_refl _) (.cells #[.int .i64 n.n,.int .i64 n.s,.int .i64 n.t,.slice ao n.l.length cap] 24)))
 have HB:=hid ((HBN.out.alloc (by simp) (.cells #[.slice fo n.l.length fc,.int .i64 p,.int .i64 k,.int .i64 s] 41)).alloc (by simp;omega) (.cells #[.slice none 0 0,.int .i64 0,.int .i64 0,.int .i64 0] 41))
 have HX:=hid (runBox_alloc (runBox_at (w.alloc (.cells #[.int .i64 n.n,.int .i64 n.s,.int .i64 n.t,.slice ao n.l.length cap] 24)) (b:=w.heap.size+1) (by simp) (.slice fo n.l.length fc) p k s) (.cells #[.slice none 0 0,.int .i64 0,.int .i64 0,.int .i64 0] 41))
 have HY:=hid (runBox_at ((w.alloc (.cells #[.int .i64 n.n,.int .i64 n.s,.int .i64 n.t,.slice ao n.l.length cap] 24)).alloc (.cells #[.slice fo n.l.length fc,.int .i64 p,.int .i64 k,.int .i64 s] 41)) (b:=w.heap.size+1+1) (by simp) (.slice none 0 0) 0 0 0)
 have BL:=hid (BLK _ (hr.kept HB.out) (hf.kept HB.out))
 have hp1:IntKind.i64.wrap (p+1)=p+1:=by rw [IntKind.wrap_i64];omega
 have hk1:IntKind.i64.wrap (k+kW)=k+kW:=by rw [IntKind.wrap_i64];omega
 have hw1:∀ (m:Nat) (w:World),(method (m+1) 90 (.agg #[]) "raceway/dinic.block").run Tryz.prog w=.ok (89,.agg #[]) w:=fun _ _=>by kernel_rfl
 have hw2:∀ (m:Nat) (w:World),(method (m+1) 91 (.agg #[]) "raceway/dinic.block").run Tryz.prog w=.ok (102,.agg #[]) w:=fun _ _=>by kernel_rfl
 clear BLK hr hf
 cases q
 all_goals
  unfold engV engB at *
  simp only [Bool.false_eq_true,if_false,if_true] at *
  go_enter Tryz.func33,Tryz.ntmps33
  go_wp2_with fail
  refine BL.out.mono ?_
  rintro e w1 ⟨o,c,st,rfl,hi,h1,h2,hb⟩
  have hs1:IntKind.i64.wrap (s+st)=s+st:=by rw [IntKind.wrap_i64];omega
  have X1:=runBox_below HX.out hb (by simp)
  have Y1:=runBox_below HY.out hb (by simp)
  have HB1:=hid (HB.out.trans (hb.mono (by simp;omega)))
  have HO:=hid hi
  have HY1:=hid Y1
  have HS:=hid (show 0≤st∧st≤M from ⟨h1,h2⟩)
  obtain ⟨x0,x1,x2,x3⟩:=runBox_cells X1
  obtain ⟨y0,y1,y2,y3⟩:=runBox_cells Y1
  have f0:=runBox_frozen Y1 0
  have f1:=runBox_frozen Y1 1
  have f2:=runBox_frozen Y1 2
  have f3:=runBox_frozen Y1 3
  clear hb hi h1 h2 X1 Y1
  go_wp2
  refine bodyPost_ret_by (results_cell_one rfl _ _ (w.heap.size+1+1) 41 _ (0,0) _ rfl (runBox_all (v2:=.slice o n.l.length c) (p2:=p+1) (k2:=k+kW) (s2:=s+st) HY1.out) Tryz.underlying41 rfl (by kernel_rfl)) rfl ?_
  exact ⟨o,c,st,rfl,Rw.own_base (runBox_own HY1.out HO.out (by simp) _ _ _ _) (by simp;omega),HS.out.1,HS.out.2,below_all HB1.out (by omega) _ _ _ _⟩
section
variable {n:Net} (ao:Option Addr) (cap:Nat) (fo:Option Addr) (fc:Nat) {f:List Int} (w:World) (ck:checkN n=0) (hr:ARow w ao n.l) (hf:IRow w fo f) (hF:Okf n f) (x:Int) (hx:1≤x) {L:List Int} (hL:IsLev n f x L)
include ck hr hf hF hx hL
theorem deep_okf:Calls Tryz.prog 30 #[encN n ao cap,.slice fo n.l.length fc,.int .i64 x] w fun e w'=>e=.returned (.tuple #[.int .i64 (amt L n.t.toNat),.int .i64 0])∧Below w.heap.size w w':=by
 have e:reE n f x=0:=by unfold reE;rw [if_neg (by simpa using hF.chk ck),if_neg (by omega)]
 have h:=ddeep_any n ao cap fo fc f x L w hr hf (by have:=(right_of ck).len;omega) (cap_64 (right_of ck)) (fun _=>hL)
 rw [hF.len,e,(lvV_ok e).2.2] at h
 exact h
variable {W:List (List Nat × Int)} {g:List Int} (hB:IsBlk n.l (leadL n.l f x L (2*n.l.length)) f x n.s n.t W g)
include hB
theorem pblock_own:Calls Tryz.prog 90 #[encN n ao cap,.slice fo n.l.length fc,.int .i64 x] w fun e w'=>∃ o c v,e=.returned (.tuple #[.slice o n.l.length c,v,.int .i64 0])∧OwnL w' w.heap.size (.slice o n.l.length c) g∧WkR 150 w' w.heap.size v W∧Below w.heap.size w w':=by
 have e:reE n f x=0:=by unfold reE;rw [if_neg (by simpa using hF.chk ck),if_neg (by omega)]
 have h:=dblock_own n ao cap fo fc f x L W g w hr hf (by have:=(right_of ck).len;omega) (cap_64 (right_of ck)) (fun _=>hL) (fun _=>hB)
 have e1:blG n f x g=g:=by unfold blG;rw [if_neg (by simpa using e)]
 have e2:blW n f x W=W:=by unfold blW;rw [if_neg (by simpa using e)]
 rw [hF.len,e1,e2,(blk_len hF hx hB).1,e] at h
 exact h
theorem tblk_own:Calls Tryz.prog 103 #[encN n ao cap,.slice fo n.l.length fc,.int .i64 x] w fun e w'=>∃ o c st,e=.returned (.tuple #[.slice o n.l.length c,.int .i64 (W.length:Int),.int .i64 st,.int .i64 0])∧OwnL w' w.heap.size (.slice o n.l.length c) g∧0≤st∧st≤mostV n∧Below w.heap.size w w':=by
 have e:reE n f x=0:=by unfold reE;rw [if_neg (by simpa using hF.chk ck),if_neg (by omega)]
 have h:=tblock_own n ao cap fo fc f x L W g w hr hf (by have:=(right_of ck).len;omega) (cap_64 (right_of ck)) (fun _=>hL) (fun _=>hB)
 have e1:blG n f x g=g:=by unfold blG;rw [if_neg (by simpa using e)]
 have e2:blW n f x W=W:=by unfold blW;rw [if_neg (by simpa using e)]
 rw [hF.len,e1,e2,(blk_len hF hx hB).1,e] at h
 have hn0:=(right_of ck).n0
 refine h.mono ?_
 rintro e w' ⟨o,c,st,h1,h2,_,h3,h4⟩
 obtain ⟨_,k2,_,k4⟩:=h3 rfl
 exact ⟨o,c,st,h1,h2,by omega,k4,h4⟩
theorem bwalks_own:Calls Tryz.prog 89 #[.agg #[],encN n ao cap,.slice fo n.l.length fc,.int .i64 x] w fun e w'=>∃ o c,e=.returned (.tuple #[.slice o n.l.length c,.int .i64 (W.length:Int),.int .i64 0,.int .i64 0])∧OwnL w' w.heap.size (.slice o n.l.length c) g∧Below w.heap.size w w':=by
 have BC:=hid fun w' h1 h2=>pblock_own (n:=n) (f:=f) ao cap fo fc w' ck h1 h2 hF x hx hL hB
 have HB:=hid (((Below.refl w.heap.size w).alloc (Nat.le_refl _) (.cells #[] 90)).alloc (by simp) (.cells #[.int .i64 n.n,.int .i64 n.s,.int .i64 n.t,.slice ao n.l.length cap] 24))
 have HN:=hid (netBox_at (w.alloc (.cells #[] 90)) (b:=w.heap.size+1) (by simp) n.n n.s n.t (.slice ao n.l.length cap))
 have HR:=hid (hr.kept HB.out)
 have HF:=hid (hf.kept HB.out)
 clear hr hf hF hL hB ck
 obtain ⟨n0,n1,n2,n3⟩:=netBox_cells HN.out
 go_enter Tryz.func89,Tryz.ntmps89
 go_wp2_with fail
 refine (BC.out _ HR.out HF.out).mono ?_
 rintro e w1 ⟨o,c,v,rfl,hi,hv,hb⟩
 have HI:=hid hi
 have HB1:=hid (HB.out.trans (hb.mono (by simp;omega)))
 obtain ⟨o9,c9,rfl,_,_,_⟩:=hv.val
 clear hb hi hv n0 n1 n2 n3
 go_wp2
 refine bodyPost_ret (results_tmp4 rfl _ _ _) rfl ?_
 exact ⟨o,c,rfl,Rw.own_base HI.out (by simp;omega),HB1.out⟩
theorem btrees_own:Calls Tryz.prog 102 #[.agg #[],encN n ao cap,.slice fo n.l.length fc,.int .i64 x] w fun e w'=>∃ o c st,e=.returned (.tuple #[.slice o n.l.length c,.int .i64 (W.length:Int),.int .i64 st,.int .i64 0])∧OwnL w' w.heap.size (.slice o n.l.length c) g∧0≤st∧st≤mostV n∧Below w.heap.size w w':=by
 have BC:=hid fun w' h1 h2=>tblk_own (n:=n) (f:=f) ao cap fo fc w' ck h1 h2 hF x hx hL hB
 have HB:=hid (((Below.refl w.heap.size w).alloc (Nat.le_refl _) (.cells #[] 91)).alloc (by simp) (.cells #[.int .i64 n.n,.int .i64 n.s,.int .i64 n.t,.slice ao n.l.length cap] 24))
 have HN:=hid (netBox_at (w.alloc (.cells #[] 91)) (b:=w.heap.size+1) (by simp) n.n n.s n.t (.slice ao n.l.length cap))
 have HR:=hid (hr.kept HB.out)
 have HF:=hid (hf.kept HB.out)
 clear hr hf hF hL hB ck
 obtain ⟨n0,n1,n2,n3⟩:=netBox_cells HN.out
 go_enter Tryz.func102,Tryz.ntmps102
 go_wp2_with fail
 refine (BC.out _ HR.out HF.out).mono ?_
 rintro e w1 ⟨o,c,st,rfl,hi,s1,s2,hb⟩
 have HI:=hid hi
 have HS:=hid (show 0≤st∧st≤mostV n from ⟨s1,s2⟩)
 have HB1:=hid (HB.out.trans (hb.mono (by simp;omega)))
 clear hb hi n0 n1 n2 n3 s1 s2
 go_wp2
 refine bodyPost_ret (results_tmp4 rfl _ _ _) rfl ?_
 exact ⟨o,c,st,rfl,Rw.own_base HI.out (by simp;omega),HS.out.1,HS.out.2,HB1.out⟩
theorem phase_any (q:Bool) (p k s:Int) (hp:0≤p∧p≤1000000) (hk:0≤k∧k≤100000000000) (hs:0≤s∧s≤1000000000000000) :
  Calls Tryz.prog 33 #[encN n ao cap,.agg #[.slice fo n.l.length fc,.int .i64 p,.int .i64 k,.int .i64 s],.int .i64 x,engV q] w fun e w'=>∃ o c st,e=.returned (.tuple #[.agg #[.slice o n.l.length c,.int .i64 (p+1),.int .i64 (k+(W.length:Int)),.int .i64 (s+st)],.int .i64 0])∧OwnL w' w.heap.size (.slice o n.l.length c) g∧0≤st∧st≤stM n q∧Below w.heap.size w w':=by
 have hR:=right_of ck
 have h1:=(blk_len hF hx hB).2
 have h2:=leadL_len n.l f x L (2*n.l.length)
 have h3:=hR.len
 refine phase_of n ao cap fo fc w x q p k s f g W.length (stM n q) hr hf hp hk ⟨by omega,by omega⟩ hs ?_ fun w' g1 g2=>?_
 ·unfold stM
  have:=most_le hR
  split <;> omega
 ·cases q
  ·refine (bwalks_own ao cap fo fc w' ck g1 g2 hF x hx hL hB).mono ?_
   rintro e w2 ⟨o,c,h,h',h''⟩
   exact ⟨o,c,0,h,h',Int.le_refl _,Int.le_refl _,h''⟩
  ·exact btrees_own ao cap fo fc w' ck g1 g2 hF x hx hL hB
end
end Ne
namespace Ne
def engC (q:Bool):Int:=if q then 116 else 112
theorem most_nn {n:Net} (hR:Right n):0≤mostV n:=by
 unfold mostV
 have:=hR.n0
 have:=hR.n1
 obtain ⟨lk,_,e,_⟩:=log_up n.n.toNat (by omega) (by omega)
 rw [show ((n.n.toNat:Nat):Int)=n.n by omega] at e
 rw [e]
 exact Int.mul_nonneg (Int.mul_nonneg (Int.mul_nonneg (by omega) (by omega)) (by omega)) (by omega)
theorem st_most {n:Net} (hR:Right n) (q:Bool):stM n q≤mostV n:=by
 have:=most_nn hR
 unfold stM
 split <;> omega
theorem named_any (q:Bool) (w:World):Calls Tryz.prog 31 #[.int .u8 (engC q)] w fun e w'=>e=.returned (.tuple #[engV q,.int .i64 0])∧w' = w:=by
 cases q
 all_goals
  unfold engC engV
  go_enter Tryz.func31,Tryz.ntmps31
  go_wp2
  (try simp only [Exit.inBlock,Exit.then])
  go_ret2
  exact ⟨rfl,rfl⟩
theorem named_bad (a:Int) (h1:a≠112) (h2:a≠116) (w:World):Calls Tryz.prog 31 #[.int .u8 a] w fun e w'=>e=.returned (.tuple #[.nilIface,.int .i64 1])∧w' = w:=by
 have e1:(a == 112)=false:=by simpa using h1
 have e2:(a == 116)=false:=by simpa using h2
 clear h1 h2
 go_enter Tryz.func31,Tryz.ntmps31
 go_wp2
 (try simp only [Exit.inBlock,Exit.then])
 go_ret2
 exact ⟨rfl,rfl⟩
theorem phs_next {n:Net} (hR:Right n) {x:Int} (hx:1≤x) {f h L:List Int} {p k:Nat} (hL:IsLev n f x L) (hF:Okf n f) (P:Phs n x f h (p+1) k):0≤amt L n.t.toNat∧∃ (W:List (List Nat × Int)) (g L2:List Int) (k2:Nat),IsBlk n.l (leadL n.l f x L (2*n.l.length)) f x n.s n.t W g∧k=W.length+k2∧Okf n g∧IsLev n g x L2∧Phs n x g h p k2:=by
 cases P with
 | @step f g h L3 W p k2 hL3 hd hB q =>
  have e:=lev_one hR hL hL3
  subst e
  obtain ⟨L2,hl2⟩:=lev_exists hR g x
  exact ⟨hd,W,g,L2,k2,hB,rfl,blkW_okf hR (lds_of n.l f x L) hx hF hB.1,hl2,q⟩
theorem phs_stop {n:Net} (hR:Right n) {x:Int} {f h L:List Int} {k:Nat} (hL:IsLev n f x L) (P:Phs n x f h 0 k):amt L n.t.toNat<0∧h=f∧k=0:=by
 cases P with
 | @done f L3 hL3 hd =>
  have e:=lev_one hR hL hL3
  subst e
  exact ⟨hd,rfl,rfl⟩
section
variable {n:Net} (ao:Option Addr) (cap:Nat) (fo:Option Addr) (fc:Nat) {f h:List Int} (w:World) (ck:checkN n=0) (hr:ARow w ao n.l) (hf:IRow w fo f) (hF:Okf n f) {x:Int} (hx:1≤x) {p k:Nat} (P:Phs n x f h p k)
include ck hr hf hF hx P
theorem from_flow (q:Bool):Calls Tryz.prog 20 #[encN n ao cap,.slice fo n.l.length fc,.int .i64 x,.int .u8 (engC q)] w fun e w'=>∃ o c st,e=.returned (.tuple #[.agg #[.slice o n.l.length c,.int .i64 (p:Int),.int .i64 (k:Int),.int .i64 st],.int .i64 0])∧OwnL w' w.heap.size (.slice o n.l.length c) h∧0≤st∧st≤(p:Int)*stM n q∧Below w.heap.size w w':=by
 have hR:=right_of ck
 have hml:=hR.len
 have hN1:=hR.n1
 have hpk:=(phs_lt hR hx P hF).1
 have hkk:=phs_walks hR hx P hF
 obtain ⟨L0,hl0⟩:=lev_exists hR f x
 have hst0:0≤stM n q∧stM n q≤10000000000:=by
  have h1:=most_le hR
  have h2:=most_nn hR
  unfold stM
  split <;> omega
 have HBN:=hid ((Below.refl w.heap.size w).alloc (Nat.le_refl _) (.cells #[.int .i64 n.n,.int .i64 n.s,.int .i64 n.t,.slice ao n.l.length cap] 24))
 have HB0:=hid (HBN.out.alloc (by simp) (.cells #[.slice none 0 0,.int .i64 0,.int .i64 0,.int .i64 0] 41))
 have HN0:=hid (netBox_alloc (netBox_new w n.n n.s n.t (.slice ao n.l.length cap)) (.cells #[.slice none 0 0,.int .i64 0,.int .i64 0,.int .i64 0] 41))
 have HX0:=hid (runBox_at (w.alloc (.cells #[.int .i64 n.n,.int .i64 n.s,.int .i64 n.t,.slice ao n.l.length cap] 24)) (b:=w.heap.size+1) (by simp) (.slice none 0 0) 0 0 0)
 have hz0:w.heap.size+1<((w.alloc (.cells #[.int .i64 n.n,.int .i64 n.s,.int .i64 n.t,.slice ao n.l.length cap] 24)).alloc (.cells #[.slice none 0 0,.int .i64 0,.int .i64 0,.int .i64 0] 41)).heap.size:=by simp
 have HR:=hid hr
 have HF:=hid hf
 have DP:=hid fun fl fo fc w' L (h3:Okf n fl) (h4:IsLev n fl x L) h1 h2=>deep_okf (n:=n) (f:=fl) ao cap fo fc w' ck h1 h2 h3 x hx h4
 have PH:=hid fun fl fo fc w' L W g (h3:Okf n fl) (h4:IsLev n fl x L) (hB:IsBlk n.l (leadL n.l fl x L (2*n.l.length)) fl x n.s n.t W g) h1 h2 pi ki si b1 b2 b3=>phase_any (n:=n) (f:=fl) ao cap fo fc w' ck h1 h2 h3 x hx h4 hB q pi ki si b1 b2 b3
 have CL:=hid (fun w' h1=>cloneL_any f fo n.l.length fc w' hF.len.symm h1 (by have:=hF.len;omega))
 have NX:=hid fun fl L p k (h1:IsLev n fl x L) (h2:Okf n fl) (P:Phs n x fl h (p+1) k)=>phs_next hR hx h1 h2 P
 have SP:=hid fun fl L k (h1:IsLev n fl x L) (P:Phs n x fl h 0 k)=>phs_stop hR h1 P
 have HP:=hid P
 have HL0:=hid hl0
 have HOK:=hid hF
 have HS0:=hid hst0
 have HPK:=hid (show p≤500∧k≤100000000 from ⟨by omega,by
  have:p*(2*n.l.length)≤500*(2*2000):=Nat.mul_le_mul (by omega) (by omega)
  omega⟩)
 have NM:=hid (fun w'=>named_any q w')
 clear hR hml hN1 hpk hkk hl0 hst0 hr hf hF P ck hx
 generalize stM n q=SM at *
 generalize engC q=qc at *
 generalize engV q=qv at *
 obtain ⟨n0,n1,n2,n3⟩:=netBox_cells HN0.out
 go_enter Tryz.func20,Tryz.ntmps20
 go_wp2_with fail
 refine (DP.out f fo fc _ L0 HOK.out HL0.out (HR.out.kept HB0.out) (HF.out.kept HB0.out)).mono ?_
 rintro e w1 ⟨rfl,hb⟩
 have HB1:=hid (HB0.out.trans (hb.mono HB0.out.size))
 have HN1:=hid (netBox_below HN0.out hb (by omega))
 have HX1:=hid (runBox_below HX0.out hb hz0)
 have hz1:w.heap.size+1<w1.heap.size:=runBox_lt HX1.out
 clear hb n0 n1 n2 n3 hz0 HX0 HN0
 obtain ⟨n0,n1,n2,n3⟩:=netBox_cells HN1.out
 go_wp2_with fail
 refine (NM.out _).mono ?_
 rintro e w2 ⟨rfl,rfl⟩
 go_wp2_with fail
 refine (CL.out _ (HF.out.kept HB1.out)).mono ?_
 rintro e w3 ⟨o3,c3,rfl,ho,hb⟩
 have HB3:=hid (HB1.out.trans (hb.mono HB1.out.size))
 have HN3:=hid (netBox_below HN1.out hb (by omega))
 have HX3:=hid (runBox_below HX1.out hb hz1)
 have HO3:=hid ho
 have hz3:w.heap.size+1<w3.heap.size:=runBox_lt HX3.out
 clear hb ho n0 n1 n2 n3 HX1 HN1
 obtain ⟨br,hbr⟩:∃ br,br=w3.heap.size:=⟨_,rfl⟩
 have HBA:=hid ((Below.refl w3.heap.size w3).alloc (Nat.le_refl _) (.cells #[.slice o3 n.l.length c3,.int .i64 0,.int .i64 0,.int .i64 0] 41))
 have HXR:=hid (runBox_at w3 hbr (.slice o3 n.l.length c3) 0 0 0)
 have HOR:=hid (Rw.own_base (Rw.own_below HO3.out HBA.out) (B':=w.heap.size+2) (by omega))
 have HBR:=hid hbr
 go_wp2
 rw [← hbr]
 clear hbr HO3
 generalize (w3.alloc (.cells #[.slice o3 n.l.length c3,.int .i64 0,.int .i64 0,.int .i64 0] 41))=w4 at *
 go_loopg [10,11] p (fun gg s10 s11 wr=>∃ (fl L:List Int) (pi ki kr ci:Nat) (oi:Option Addr) (si:Int),s10=.int .i64 (amt L n.t.toNat)∧s11=.int .i64 0∧pi+gg=p∧Hid (ki+kr=k)∧Hid (0≤si∧si≤(pi:Int)*SM)∧Hid (Okf n fl)∧Hid (IsLev n fl x L)∧Hid (Phs n x fl h gg kr)∧Hid (RunBox wr br (.slice oi n.l.length ci) pi ki si)∧Hid (OwnL wr (w.heap.size+2) (.slice oi n.l.length ci) fl)∧Hid (Below w3.heap.size w3 wr))
 case atStart=>exact ⟨f,L0,0,0,k,c3,o3,0,rfl,rfl,by omega,hid (by omega),hid (by omega),HOK,HL0,HP,HXR,HOR,HBA⟩
 case round =>
  obtain ⟨fl,L,pi,ki,kr,ci,oi,si,rfl,rfl,hpg,HKK,HSI,HOF,HLV,HPR,HXI,HOI,HBW⟩:=hrel
  have HNW:=hid (netBox_below HN3.out HBW.out (by omega))
  have HXW:=hid (runBox_below HX3.out HBW.out hz3)
  have HRW:=hid (HR.out.kept (HB3.out.trans (HBW.out.mono HB3.out.size)))
  obtain ⟨n0,n1,n2,n3⟩:=netBox_cells HNW.out
  obtain ⟨r0,r1,r2,r3⟩:=runBox_cells HXI.out
  by_cases hg0:gk=0
  ·obtain ⟨hneg,hh,hk0⟩:=SP.out fl L kr HLV.out (by have h:=HPR.out;rwa [hg0] at h)
   have hpp:pi=p:=by omega
   have hkk:ki=k:=by have:=HKK.out;omega
   have hd:decide (0≤amt L n.t.toNat)=false:=by simpa using hneg
   subst hh hpp hkk
   obtain ⟨y0,y1,y2,y3⟩:=runBox_cells HXW.out
   have f0:=runBox_frozen HXW.out 0
   have f1:=runBox_frozen HXW.out 1
   have f2:=runBox_frozen HXW.out 2
   have f3:=runBox_frozen HXW.out 3
   have HBE:=hid (HB3.out.trans (HBW.out.mono HB3.out.size))
   clear hneg hk0 hpg
   generalize amt L n.t.toNat=dv at *
   go_wp2
   refine bodyPost_ret_by (results_cell_one rfl _ _ (w.heap.size+1) 41 _ (0,0) _ rfl (runBox_all (v2:=.slice oi n.l.length ci) (p2:=(pi:Int)) (k2:=(ki:Int)) (s2:=si) HXW.out) Tryz.underlying41 rfl (by kernel_rfl)) rfl ?_
   exact ⟨oi,ci,si,rfl,Rw.own_base (runBox_own HXW.out HOI.out (by omega) _ _ _ _) (by omega),HSI.out.1,HSI.out.2,below_all HBE.out (by omega) _ _ _ _⟩
  ·obtain ⟨pr,hpr⟩:∃ pr,gk=pr+1:=⟨gk-1,by omega⟩
   obtain ⟨hpos,W,g,L2,k2,hB,hk2,hG,hl2,hP2⟩:=NX.out fl L pr kr HLV.out HOF.out (by have h:=HPR.out;rwa [hpr] at h)
   have hd:decide (0≤amt L n.t.toNat)=true:=by simpa using hpos
   have hpp:pi<p:=by omega
   have hsi:si≤10000000000000:=by
    have h1:=HSI.out.2
    have h2:(pi:Int)*SM≤500*10000000000:=Int.le_trans (Int.mul_le_mul_of_nonneg_right (by have:=HPK.out;omega) HS0.out.1) (Int.mul_le_mul_of_nonneg_left HS0.out.2 (by omega))
    omega
   have PC:=hid (PH.out fl oi ci wr L W g HOF.out HLV.out hB HRW.out (own_irow HOI.out) (pi:Int) (ki:Int) si ⟨by omega,by have:=HPK.out;omega⟩ ⟨by omega,by have:=HPK.out;have:=HKK.out;omega⟩ ⟨HSI.out.1,by omega⟩)
   have HG:=hid hG
   have HL2:=hid hl2
   have HP2:=hid hP2
   have HPP:=hid (show pi+1+pr=p∧pr<gk∧ki+W.length+k2=k from ⟨by omega,by omega,by have:=HKK.out;omega⟩)
   clear hpos hB hk2 hG hl2 hP2 hpr hg0 hpg hpp hsi
   generalize amt L n.t.toNat=dv at *
   go_wp2_with fail
   refine PC.out.mono ?_
   rintro e w5 ⟨o5,c5,st,rfl,ho,hst0,hst1,hb⟩
   have HB5:=hid (HBW.out.trans (hb.mono HBW.out.size))
   have hbr5:br<wr.heap.size:=runBox_lt HXI.out
   have hbr3:w3.heap.size≤br:=by have:=HBR.out;omega
   have HX5:=hid (runBox_below HXI.out hb hbr5)
   have HO5:=hid ho
   have HST:=hid (show 0≤st∧st≤SM from ⟨hst0,hst1⟩)
   have HZ5:=hid hb.size
   obtain ⟨y0,y1,y2,y3⟩:=runBox_cells HX5.out
   have f0:=runBox_frozen HX5.out 0
   have f1:=runBox_frozen HX5.out 1
   have f2:=runBox_frozen HX5.out 2
   have f3:=runBox_frozen HX5.out 3
   clear hb ho hst0 hst1 n0 n1 n2 n3 r0 r1 r2 r3
   have HXA:=hid (runBox_all (v2:=.slice o5 n.l.length c5) (p2:=(pi:Int)+1) (k2:=(ki:Int)+(W.length:Int)) (s2:=si+st) HX5.out)
   have HOA:=hid (runBox_own HX5.out HO5.out hbr5 (.slice o5 n.l.length c5) ((pi:Int)+1) ((ki:Int)+(W.length:Int)) (si+st))
   have HBX:=hid (below_all HB5.out hbr3 (.slice o5 n.l.length c5) ((pi:Int)+1) ((ki:Int)+(W.length:Int)) (si+st))
   go_upto_region 12 with fail
   generalize ((((w5.setCell ⟨br,0,none⟩ (.slice o5 n.l.length c5)).setCell ⟨br,1,none⟩ (.int .i64 ((pi:Int)+1))).setCell ⟨br,2,none⟩ (.int .i64 ((ki:Int)+(W.length:Int)))).setCell ⟨br,3,none⟩ (.int .i64 (si+st)))=w6 at *
   clear y0 y1 y2 y3 f0 f1 f2 f3
   have HN6:=hid (netBox_below HN3.out HBX.out (by omega))
   have HR6:=hid (HR.out.kept (HB3.out.trans (HBX.out.mono HB3.out.size)))
   obtain ⟨n0,n1,n2,n3⟩:=netBox_cells HN6.out
   obtain ⟨r0,r1,r2,r3⟩:=runBox_cells HXA.out
   have DC:=hid (DP.out g o5 c5 w6 L2 HG.out HL2.out HR6.out (own_irow HOA.out))
   go_wp2_with fail
   refine DC.out.mono ?_
   rintro e w7 ⟨rfl,hb⟩
   have HB7:=hid (HBX.out.trans (hb.mono HBX.out.size))
   have HX7:=hid (runBox_below HXA.out hb (runBox_lt HXA.out))
   have HO7:=hid (Rw.own_base (Rw.own_below HOA.out hb) (B':=w.heap.size+2) (by have:=HBW.out.size;omega))
   clear hb n0 n1 n2 n3 r0 r1 r2 r3
   go_wp2
   go_roundg pr
   case measure=>have:=HPP.out;omega
   case rel=>exact ⟨g,L2,pi+1,ki+W.length,k2,c5,o5,si+st,rfl,rfl,HPP.out.1,hid HPP.out.2.2,hid ⟨by have:=HSI.out;have:=HST.out;omega,by
    have h1:=HSI.out;have h2:=HST.out
    have e:((pi+1:Nat):Int)*SM=(pi:Int)*SM+SM:=by rw [Int.natCast_add,Int.add_mul];simp
    omega⟩,HG,HL2,HP2,HX7,HO7,HB7⟩
end
end Ne
namespace Ne
def rnE (n:Net) (f:List Int) (x a:Int):Int:=if reE n f x≠0 then reE n f x else if a=112∨a=116 then 0 else 1
def rnG (n:Net) (f:List Int) (x a:Int) (h:List Int):List Int:=if rnE n f x a≠0 then [] else h
def rnN (n:Net) (f:List Int) (x a:Int) (m:Nat):Int:=if rnE n f x a≠0 then 0 else (m:Int)
def StP (n:Net) (f:List Int) (x a:Int) (p:Nat) (st:Int):Prop:=(a≠116→st=0)∧0≤st∧(rnE n f x a=0→st≤(p:Int)*mostV n)
theorem stP_nought {n:Net} {f:List Int} {x a:Int} (p:Nat) (h:rnE n f x a≠0):StP n f x a p 0:=⟨fun _=>rfl,Int.le_refl _,fun e=>absurd e h⟩
theorem rn_bad {n:Net} {f h:List Int} {x a:Int} (e:rnE n f x a≠0) (m:Nat):rnG n f x a h=[]∧rnN n f x a m=0:=by
 unfold rnG rnN;rw [if_pos e,if_pos e];exact ⟨rfl,rfl⟩
theorem rn_ok {n:Net} {f h:List Int} {x a:Int} (e:rnE n f x a=0) (m:Nat):rnG n f x a h=h∧rnN n f x a m=(m:Int):=by
 unfold rnG rnN;rw [if_neg (by simpa using e),if_neg (by simpa using e)];exact ⟨rfl,rfl⟩
section
variable (n:Net) (ao:Option Addr) (cap:Nat) (fo:Option Addr) (fc:Nat) (f h:List Int) (x a:Int) (p k:Nat) (w:World) (hr:ARow w ao n.l) (hf:IRow w fo f) (hl:n.l.length≤1000000) (hok:∀ a∈n.l,in64 a.cap)
include hr hf hl hok
theorem from_bad (hE:reE n f x≠0):Calls Tryz.prog 20 #[encN n ao cap,.slice fo f.length fc,.int .i64 x,.int .u8 a] w fun e w'=>e=.returned (.tuple #[.agg #[.slice none 0 0,.int .i64 0,.int .i64 0,.int .i64 0],.int .i64 (reE n f x)])∧Below w.heap.size w w':=by
 have HB0:=hid (((Below.refl w.heap.size w).alloc (Nat.le_refl _) (.cells #[.int .i64 n.n,.int .i64 n.s,.int .i64 n.t,.slice ao n.l.length cap] 24)).alloc (by simp) (.cells #[.slice none 0 0,.int .i64 0,.int .i64 0,.int .i64 0] 41))
 have HN0:=hid (netBox_alloc (netBox_new w n.n n.s n.t (.slice ao n.l.length cap)) (.cells #[.slice none 0 0,.int .i64 0,.int .i64 0,.int .i64 0] 41))
 have HX0:=hid (runBox_at (w.alloc (.cells #[.int .i64 n.n,.int .i64 n.s,.int .i64 n.t,.slice ao n.l.length cap] 24)) (b:=w.heap.size+1) (by simp) (.slice none 0 0) 0 0 0)
 have HZ0:=hid (runBox_lt HX0.out)
 have HD:=hid (ddeep_any n ao cap fo fc f x [] _ (hr.kept HB0.out) (hf.kept HB0.out) hl hok (fun e=>absurd e hE))
 have hE':(reE n f x != 0)=true:=by simpa using hE
 clear hE hr hf hl hok
 generalize reE n f x=re at *
 generalize dpV n f x []=dv at *
 obtain ⟨n0,n1,n2,n3⟩:=netBox_cells HN0.out
 go_enter Tryz.func20,Tryz.ntmps20
 go_wp2_with fail
 refine HD.out.mono ?_
 rintro e w1 ⟨rfl,hb⟩
 have HB1:=hid (HB0.out.trans (hb.mono HB0.out.size))
 have HX1:=hid (runBox_below HX0.out hb HZ0.out)
 obtain ⟨y0,y1,y2,y3⟩:=runBox_cells HX1.out
 have f0:=runBox_frozen HX1.out 0
 have f1:=runBox_frozen HX1.out 1
 have f2:=runBox_frozen HX1.out 2
 have f3:=runBox_frozen HX1.out 3
 clear hb n0 n1 n2 n3
 go_wp2
 refine bodyPost_ret_by (results_cell_one rfl _ _ (w.heap.size+1) 41 _ (0,0) _ rfl (runBox_all (v2:=.slice none 0 0) (p2:=0) (k2:=0) (s2:=0) HX1.out) Tryz.underlying41 rfl (by kernel_rfl)) rfl ?_
 exact ⟨rfl,below_all HB1.out (by omega) _ _ _ _⟩
theorem from_arg (hE:reE n f x=0) (h1:a≠112) (h2:a≠116):Calls Tryz.prog 20 #[encN n ao cap,.slice fo f.length fc,.int .i64 x,.int .u8 a] w fun e w'=>e=.returned (.tuple #[.agg #[.slice none 0 0,.int .i64 0,.int .i64 0,.int .i64 0],.int .i64 1])∧Below w.heap.size w w':=by
 have HB0:=hid (((Below.refl w.heap.size w).alloc (Nat.le_refl _) (.cells #[.int .i64 n.n,.int .i64 n.s,.int .i64 n.t,.slice ao n.l.length cap] 24)).alloc (by simp) (.cells #[.slice none 0 0,.int .i64 0,.int .i64 0,.int .i64 0] 41))
 have HN0:=hid (netBox_alloc (netBox_new w n.n n.s n.t (.slice ao n.l.length cap)) (.cells #[.slice none 0 0,.int .i64 0,.int .i64 0,.int .i64 0] 41))
 have HX0:=hid (runBox_at (w.alloc (.cells #[.int .i64 n.n,.int .i64 n.s,.int .i64 n.t,.slice ao n.l.length cap] 24)) (b:=w.heap.size+1) (by simp) (.slice none 0 0) 0 0 0)
 have HZ0:=hid (runBox_lt HX0.out)
 have hR:=right_of (okf_of (reE_ok hE).1).1
 obtain ⟨L0,hl0⟩:=lev_exists hR f x
 have HD:=hid (ddeep_any n ao cap fo fc f x L0 _ (hr.kept HB0.out) (hf.kept HB0.out) hl hok (fun _=>hl0))
 have NM:=hid (fun w'=>named_bad a h1 h2 w')
 rw [hE] at HD
 clear hE hr hf hl hok hR hl0 h1 h2
 generalize dpV n f x L0=dv at *
 obtain ⟨n0,n1,n2,n3⟩:=netBox_cells HN0.out
 go_enter Tryz.func20,Tryz.ntmps20
 go_wp2_with fail
 refine HD.out.mono ?_
 rintro e w1 ⟨rfl,hb⟩
 have HB1:=hid (HB0.out.trans (hb.mono HB0.out.size))
 have HX1:=hid (runBox_below HX0.out hb HZ0.out)
 obtain ⟨y0,y1,y2,y3⟩:=runBox_cells HX1.out
 have f0:=runBox_frozen HX1.out 0
 have f1:=runBox_frozen HX1.out 1
 have f2:=runBox_frozen HX1.out 2
 have f3:=runBox_frozen HX1.out 3
 clear hb n0 n1 n2 n3
 go_wp2_with fail
 refine (NM.out _).mono ?_
 rintro e w2 ⟨rfl,rfl⟩
 go_wp2
 refine bodyPost_ret_by (results_cell_one rfl _ _ (w.heap.size+1) 41 _ (0,0) _ rfl (runBox_all (v2:=.slice none 0 0) (p2:=0) (k2:=0) (s2:=0) HX1.out) Tryz.underlying41 rfl (by kernel_rfl)) rfl ?_
 exact ⟨rfl,below_all HB1.out (by omega) _ _ _ _⟩
theorem from_any (hP:reE n f x=0→Phs n x f h p k):Calls Tryz.prog 20 #[encN n ao cap,.slice fo f.length fc,.int .i64 x,.int .u8 a] w fun e w'=>∃ o c st,e=.returned (.tuple #[.agg #[.slice o (rnG n f x a h).length c,.int .i64 (rnN n f x a p),.int .i64 (rnN n f x a k),.int .i64 st],.int .i64 (rnE n f x a)])∧OwnL w' w.heap.size (.slice o (rnG n f x a h).length c) (rnG n f x a h)∧StP n f x a p st∧Below w.heap.size w w':=by
 by_cases c0:reE n f x=0
 ·obtain ⟨hck,hx⟩:=reE_ok c0
  obtain ⟨ck,hF⟩:=okf_of hck
  by_cases c1:a=112∨a=116
  ·have e:rnE n f x a=0:=by unfold rnE;rw [if_neg (by simpa using c0),if_pos c1]
   obtain ⟨q,rfl⟩:∃ q,a=engC q:=by
    rcases c1 with c1 | c1
    ·exact ⟨false,c1⟩
    ·exact ⟨true,c1⟩
   rw [(rn_ok (h:=h) e p).1,(rn_ok (h:=h) e p).2,(rn_ok (h:=h) e k).2,e,(phs_okf (right_of ck) hx (hP c0) hF).1.len,hF.len]
   refine (from_flow ao cap fo fc w ck hr hf hF hx (hP c0) q).mono ?_
   rintro e w' ⟨o,c,st,h1,h2,h3,h4,h5⟩
   refine ⟨o,c,st,h1,h2,⟨fun hq=>?_,h3,fun _=>Int.le_trans h4 (Int.mul_le_mul_of_nonneg_left (st_most (right_of ck) q) (by omega))⟩,h5⟩
   cases q
   ·rw [show stM n false=0 from rfl,Int.mul_zero] at h4;omega
   ·exact absurd rfl hq
  ·have e:rnE n f x a=1:=by unfold rnE;rw [if_neg (by simpa using c0),if_neg c1]
   have e':rnE n f x a≠0:=by rw [e];decide
   rw [(rn_bad (h:=h) e' p).1,(rn_bad (h:=h) e' p).2,(rn_bad (h:=h) e' k).2,e]
   refine (from_arg n ao cap fo fc f x a w hr hf hl hok c0 (fun e=>c1 (.inl e)) (fun e=>c1 (.inr e))).mono ?_
   rintro e w' ⟨h1,h2⟩
   exact ⟨none,0,0,h1,Rw.own_nil _ _,stP_nought p e',h2⟩
 ·have e:rnE n f x a=reE n f x:=by unfold rnE;rw [if_pos c0]
  have e':rnE n f x a≠0:=by rw [e];exact c0
  rw [(rn_bad (h:=h) e' p).1,(rn_bad (h:=h) e' p).2,(rn_bad (h:=h) e' k).2,e]
  refine (from_bad n ao cap fo fc f x a w hr hf hl hok c0).mono ?_
  rintro e w' ⟨h1,h2⟩
  exact ⟨none,0,0,h1,Rw.own_nil _ _,stP_nought p e',h2⟩
end
end Ne
end Go.Proofs.YtoadkckceladgaaGreat
