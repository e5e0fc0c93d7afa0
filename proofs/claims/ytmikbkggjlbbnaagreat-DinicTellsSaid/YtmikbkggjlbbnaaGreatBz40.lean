/-
  ShownD, Gek, Gck, Fwit, Frex, Frck, Gen
-/
import Derived.Test.YtmikbkggjlbbnaaGreatBz39
import Derived.Test.YtmikbkggjlbbnaaGreatBz30
import Derived.Test.YtmikbkggjlbbnaaGreatBz8
import Derived.Test.YtmikbkggjlbbnaaGreatBz2
import Derived.LoopTactic
import Derived.Below
import Derived.Test.YtmikbkggjlbbnaaGreatBz3
import Derived.Test.YtmikbkggjlbbnaaGreatBz23
import Derived.Test.YtmikbkggjlbbnaaGreatBz1
import Derived.Test.YtmikbkggjlbbnaaGreatBz25
import Derived.Test.YtmikbkggjlbbnaaGreatBz4
import Derived.BigQuiet
namespace Go.Proofs.YtmikbkggjlbbnaaGreat
open Go.ChangeShapes Go.WideShapes Go.ChangeAt Go.RowKit
open Lib (hid)
set_option linter.unusedVariables false
set_option linter.unusedSimpArgs false
namespace Ne
set_option maxRecDepth 100000 in
set_option maxHeartbeats 1000000 in
theorem shown_any (w:World):Calls Tryz.prog 9 #[] w fun e w'=>e=.returned (.bool true)∧Below w.heap.size w w':=by
 have hA:=arow_two w rfl ⟨1,2,5⟩ ⟨2,3,3⟩ 50
 have HB:=hid ((Below.refl w.heap.size w).alloc (Nat.le_refl _) (.cells #[.int .i64 1,.int .i64 2,.int .i64 5,.int .i64 2,.int .i64 3,.int .i64 3] 50))
 have C:=hid (max_flow (n:=net12) (some ⟨w.heap.size,0,none⟩) 2 _ net12_ck hA net12_phs false)
 rw [show net12.l.length=2 from rfl] at C
 unfold net12 engC at C
 simp only [Bool.false_eq_true,if_false] at C
 clear hA
 go_enter Tryz.func9,Tryz.ntmps9
 go_wp2_with fail
 refine C.out.mono ?_
 rintro e w1 ⟨o,c,st,rfl,hi,hs,_,_,hb⟩
 obtain rfl:=hs (by trivial)
 have HB1:=hid (HB.out.trans (hb.mono (by simp)))
 have HX:=hid (runBox_at w1 rfl (.slice o 2 c) 1 1 0)
 have hi2:=hi.kept ((Below.refl w1.heap.size w1).alloc (Nat.le_refl _) (.cells #[.slice o 2 c,.int .i64 1,.int .i64 1,.int .i64 0] 28))
 have HB2:=hid (HB1.out.alloc HB1.out.size (.cells #[.slice o 2 c,.int .i64 1,.int .i64 1,.int .i64 0] 28))
 obtain ⟨b0,o0,rfl,_,d0⟩:=irow_cell hi2 (i:=0) (by simp)
 obtain ⟨b1,o1,he1,_,d1⟩:=irow_cell hi2 (i:=1) (by simp)
 simp only [Option.some.injEq,Addr.mk.injEq,and_true] at he1
 obtain ⟨rfl,rfl⟩:=he1
 simp [amt] at d0 d1
 obtain ⟨y0,y1,y2,y3⟩:=runBox_cells HX.out
 clear hb hi hi2
 go_wp2
 go_ret
 exact ⟨rfl,HB2.out⟩
end Ne
namespace Ne
theorem elemKr:Rw.Elem 93 68 2 32 (.agg #[.slice none 0 0,.int .i64 0]):=⟨by kernel_rfl,Tryz.underlying68,rfl,by decide,by decide⟩
end Ne
namespace Ne
set_option maxHeartbeats 4000000 in
theorem rcheck_any (n:Net) (ao:Option Addr) (cap:Nat) (w:World) (hr:ARow w ao n.l) (hl:n.l.length≤1000000) :
  Calls Tryz.prog 68 #[encN n ao cap] w fun e w'=>e=.returned (.int .i64 (checkN n))∧Below w.heap.size w w':=by
 obtain ⟨nn,ns,nt,l⟩:=n
 simp only at hr hl ⊢
 have HR:=hid (hr.kept ((Below.refl _ _).alloc (Nat.le_refl _) (.cells #[.int .i64 nn,.int .i64 ns,.int .i64 nt,.slice ao l.length cap] 24)))
 have HB0:=hid ((Below.refl w.heap.size w).alloc (Nat.le_refl _) (.cells #[.int .i64 nn,.int .i64 ns,.int .i64 nt,.slice ao l.length cap] 24))
 clear hr
 by_cases g1:nn<2
 ·have HE:=hid (show checkN ⟨nn,ns,nt,l⟩=3 by unfold checkN;rw [if_pos (.inl g1)])
  go_enter Tryz.func68,Tryz.ntmps68
  go_wp2
  go_ret
  exact ⟨retI HE.out.symm,HB0.out⟩
 by_cases g2:500<nn
 ·have HE:=hid (show checkN ⟨nn,ns,nt,l⟩=3 by unfold checkN;rw [if_pos (.inr g2)])
  go_enter Tryz.func68,Tryz.ntmps68
  go_wp2
  go_ret
  exact ⟨retI HE.out.symm,HB0.out⟩
 by_cases g3:1≤ns∧ns≤nn∧1≤nt∧nt≤nn
 ·obtain ⟨g31,g32,g33,g34⟩:=g3
  have HI:=hid (show (isNode nn ns && isNode nn nt)=true by simp [isNode];omega)
  by_cases g4:ns=nt
  ·have HE:=hid (show checkN ⟨nn,ns,nt,l⟩=5 by unfold checkN;rw [if_neg (show ¬ (nn<2∨500<nn) by omega),if_pos HI.out,if_pos g4])
   have g4':(ns == nt)=true:=by simp [g4]
   clear g4
   go_enter Tryz.func68,Tryz.ntmps68
   go_wp2
   go_ret
   exact ⟨retI HE.out.symm,HB0.out⟩
  have g4':(ns == nt)=false:=by simp [g4]
  by_cases g5:2000<l.length
  ·have HE:=hid (show checkN ⟨nn,ns,nt,l⟩=6 by unfold checkN;rw [if_neg (show ¬ (nn<2∨500<nn) by omega),if_pos HI.out,if_neg g4,if_pos g5])
   have g5':(2000:Int)<(l.length:Int):=by omega
   clear g4
   go_enter Tryz.func68,Tryz.ntmps68
   go_wp2
   go_ret
   exact ⟨retI HE.out.symm,HB0.out⟩
  have HE:=hid (show checkN ⟨nn,ns,nt,l⟩=checkL nn 4611686018427387903 l by unfold checkN;rw [if_neg (show ¬ (nn<2∨500<nn) by omega),if_pos HI.out,if_neg g4,if_neg g5])
  have g5':¬ (2000:Int)<(l.length:Int):=by omega
  clear g4
  go_enter Tryz.func68,Tryz.ntmps68
  go_wp2
  go_loopw [3,4] (fun lf i wr=>∃ (k:Nat) (left:Int),i=.int .i64 k∧lf=.int .i64 left∧k≤l.length∧0≤left∧left≤4611686018427387903∧checkL nn left (l.drop k)=checkL nn 4611686018427387903 l∧Below (w.heap.size+1) (w.alloc (.cells #[.int .i64 nn,.int .i64 ns,.int .i64 nt,.slice ao l.length cap] 24)) wr) (fun _ i _=>l.length-(intOf i).toNat)
  case atStart=>exact ⟨0,_,rfl,rfl,Nat.zero_le _,by omega,by omega,rfl,Below.refl _ _⟩
  case round =>
   obtain ⟨k,left,rfl,rfl,hk,hl0,hl1,he,hbel⟩:=hrel
   have HB:=hid hbel
   have HC:=hid he
   have hbox:wr.cell? ⟨w.heap.size,3,none⟩=some (.slice ao l.length cap):=by
    rw [hbel.cell (p:=⟨w.heap.size,3,none⟩) (by simp)];rw [World.cell?_alloc_new];rfl
   have hbn:wr.cell? ⟨w.heap.size,0,none⟩=some (.int .i64 nn):=by
    rw [hbel.cell (p:=⟨w.heap.size,0,none⟩) (by simp)];rw [World.cell?_alloc_new];rfl
   have hsz:w.heap.size+1≤wr.heap.size:=by have:=hbel.size;simpa using this
   have hbn2:∀ o:Obj,(wr.alloc o).cell? ⟨w.heap.size,0,none⟩=some (.int .i64 nn):=fun o=>(World.cell?_alloc_lt wr o _ (by show w.heap.size<_;omega)).trans hbn
   clear hbel he
   by_cases hlt:k<l.length
   ·obtain ⟨a,ha⟩:∃ a,l[k]? = some a:=⟨_,List.getElem?_eq_getElem hlt⟩
    rcases (HR.out.below (B:=w.heap.size+1) (fun b off h=>by rcases HR.out with h2 | ⟨b2,o2,h2,h3,_⟩;(exfalso;rw [h2] at hlt;simp at hlt);(rw [h2] at h;cases h;simpa using h3)) HB.out.size HB.out) with h | ⟨b,off,rfl,hbl,hcell⟩
    ·exfalso;rw [h] at hlt;simp at hlt
    obtain ⟨c0,c1,c2⟩:=arow_at hcell ha
    clear hcell
    rw [drop_at ha] at HC
    clear ha
    by_cases ga:1≤a.fr∧a.fr≤nn∧1≤a.to∧a.to≤nn
    ·have HX:=hid (show (isNode nn a.fr && isNode nn a.to)=true by simp [isNode];omega)
     obtain ⟨ga1,ga2,ga3,ga4⟩:=ga
     by_cases gc:a.cap<0
     ·have HV:=hid (show checkL nn left (a :: l.drop (k+1))=3 by unfold checkL;rw [if_pos HX.out,if_pos gc])
      go_wp2
      go_ret
      exact ⟨retI (by rw [HE.out,← HC.out,HV.out]),HB0.out.trans ((HB.out.mono (by omega)).alloc (by omega) _)⟩
     by_cases gl:left<a.cap
     ·have HV:=hid (show checkL nn left (a :: l.drop (k+1))=7 by unfold checkL;rw [if_pos HX.out,if_neg gc,if_pos gl])
      go_wp2
      go_ret
      exact ⟨retI (by rw [HE.out,← HC.out,HV.out]),HB0.out.trans ((HB.out.mono (by omega)).alloc (by omega) _)⟩
     have HV:=hid (show checkL nn left (a :: l.drop (k+1))=checkL nn (left-a.cap) (l.drop (k+1)) by rw [checkL,if_pos HX.out,if_neg gc,if_neg gl])
     go_wp2
     go_roundw
     case rel=>exact ⟨k+1,left-a.cap,by go_num,by go_num,by omega,by omega,by omega,by rw [← HV.out,HC.out],HB.out.alloc hsz _⟩
     case measure=>simp [intOf];omega
    ·have HV:=hid (show checkL nn left (a :: l.drop (k+1))=4 by unfold checkL;rw [if_neg];simp [isNode];omega)
     by_cases q1:a.fr<1
     ·clear ga
      go_wp2
      go_ret
      exact ⟨retI (by rw [HE.out,← HC.out,HV.out]),HB0.out.trans ((HB.out.mono (by omega)).alloc (by omega) _)⟩
     by_cases q2:nn<a.fr
     ·have q1':1≤a.fr:=by omega
      clear ga
      go_wp2
      go_ret
      exact ⟨retI (by rw [HE.out,← HC.out,HV.out]),HB0.out.trans ((HB.out.mono (by omega)).alloc (by omega) _)⟩
     have q1':1≤a.fr:=by omega
     have q2':a.fr≤nn:=by omega
     by_cases q3:a.to<1
     ·clear ga
      go_wp2
      go_ret
      exact ⟨retI (by rw [HE.out,← HC.out,HV.out]),HB0.out.trans ((HB.out.mono (by omega)).alloc (by omega) _)⟩
     have q3':1≤a.to:=by omega
     have q4:nn<a.to:=by omega
     clear ga
     go_wp2
     go_ret
     exact ⟨retI (by rw [HE.out,← HC.out,HV.out]),HB0.out.trans ((HB.out.mono (by omega)).alloc (by omega) _)⟩
   ·have ek:k=l.length:=by omega
    subst ek
    rw [List.drop_length] at HC
    go_wp2
    go_ret
    exact ⟨retI (by rw [HE.out,← HC.out];rfl),HB0.out.trans (HB.out.mono (by omega))⟩
 ·have HE:=hid (show checkN ⟨nn,ns,nt,l⟩=4 by unfold checkN;rw [if_neg (show ¬ (nn<2∨500<nn) by omega),if_neg];simp [isNode];omega)
  go_enter Tryz.func68,Tryz.ntmps68
  by_cases q1:ns<1
  ·clear g3
   go_wp2
   go_ret
   exact ⟨retI HE.out.symm,HB0.out⟩
  by_cases q2:nn<ns
  ·have q1':1≤ns:=by omega
   clear g3
   go_wp2
   go_ret
   exact ⟨retI HE.out.symm,HB0.out⟩
  have q1':1≤ns:=by omega
  have q2':ns≤nn:=by omega
  by_cases q3:nt<1
  ·clear g3
   go_wp2
   go_ret
   exact ⟨retI HE.out.symm,HB0.out⟩
  have q3':1≤nt:=by omega
  have q4:nn<nt:=by omega
  clear g3
  go_wp2
  go_ret
  exact ⟨retI HE.out.symm,HB0.out⟩
end Ne
namespace Ne
set_option maxRecDepth 100000 in
set_option maxHeartbeats 4000000 in
theorem within_any (n:Net) (ao:Option Addr) (cap:Nat) (fo:Option Addr) (fc:Nat) (f:List Int) (w:World) (hr:ARow w ao n.l) (hf:IRow w fo f) (hl:n.l.length≤1000000) :
  Calls Tryz.prog 63 #[encN n ao cap,.slice fo f.length fc] w fun e w'=>e=.returned (.int .i64 (chkA n f))∧Below w.heap.size w w':=by
 have CK:=hid (fun w' (h:ARow w' ao n.l)=>rcheck_any n ao cap w' h hl)
 have E1:=hid (fun h=>chkA_net (n:=n) (f:=f) h)
 have E2:=hid (fun h1 h2=>chkA_cnt (n:=n) (f:=f) h1 h2)
 have E3:=hid (fun h1 h2 h3=>chkA_rng (n:=n) (f:=f) h1 h2 h3)
 have E4:=hid (fun h1 h2 h3=>chkA_in (n:=n) (f:=f) h1 h2 h3)
 obtain ⟨R,hR⟩:∃ x,x=chkA n f:=⟨_,rfl⟩
 rw [← hR] at E1 E2 E3 E4 ⊢
 clear hR
 obtain ⟨c,hc⟩:∃ c,checkN n=c:=⟨_,rfl⟩
 rw [hc] at CK E1 E2 E3 E4
 clear hc
 obtain ⟨nn,ns,nt,l⟩:=n
 simp only at hr hl CK E1 E2 E3 E4 ⊢
 have HB0:=hid ((Below.refl w.heap.size w).alloc (Nat.le_refl _) (.cells #[.int .i64 nn,.int .i64 ns,.int .i64 nt,.slice ao l.length cap] 24))
 have HN0:=hid (netBox_new w nn ns nt (.slice ao l.length cap))
 have HR:=hid hr
 have HF:=hid hf
 clear hr hf
 by_cases c1:c=0
 case neg =>
  have HE:=hid (E1.out c1)
  have c1':(c == 0)=false:=by simpa using c1
  have c1n:(c != 0)=true:=by simpa using c1
  clear c1
  go_enter Tryz.func63,Tryz.ntmps63
  go_wp2_with fail
  refine (CK.out _ (HR.out.kept HB0.out)).mono ?_
  rintro e w1 ⟨rfl,hb⟩
  have HB1:=hid (HB0.out.trans (hb.mono (by simp)))
  clear hb
  go_wp2
  go_ret
  exact ⟨retI HE.out.symm,HB1.out⟩
 subst c1
 by_cases c2:f.length=l.length
 case neg =>
  have HE:=hid (E2.out (by trivial) c2)
  have c2':((f.length:Int) == (l.length:Int))=false:=by simp;omega
  have c2n:((f.length:Int) != (l.length:Int))=true:=by simp;omega
  clear c2
  go_enter Tryz.func63,Tryz.ntmps63
  go_wp2_with fail
  refine (CK.out _ (HR.out.kept HB0.out)).mono ?_
  rintro e w1 ⟨rfl,hb⟩
  have HB1:=hid (HB0.out.trans (hb.mono (by simp)))
  have HN1:=netBox_below HN0.out hb (by simp)
  obtain ⟨n0,n1,n2,n3⟩:=netBox_cells HN1
  clear hb HN1
  go_wp2
  go_ret
  exact ⟨retI HE.out.symm,HB1.out⟩
 have HLE:=hid c2
 rw [c2]
 clear c2
 go_enter Tryz.func63,Tryz.ntmps63
 go_wp2_with fail
 refine (CK.out _ (HR.out.kept HB0.out)).mono ?_
 rintro e w1 ⟨rfl,hb⟩
 have HB1:=hid (HB0.out.trans (hb.mono (by simp)))
 have HN1:=netBox_below HN0.out hb (by simp)
 obtain ⟨n0,n1,n2,n3⟩:=netBox_cells HN1
 have HN2:=hid HN1
 clear hb HN1
 go_wp2
 clear n0 n1 n2 n3
 go_loopw [6] (fun i wr=>∃ (k:Nat),i=.int .i64 k∧k≤l.length∧Hid (Below w.heap.size w wr)∧Hid (NetBox wr w.heap.size nn ns nt (.slice ao l.length cap))∧Hid (∀ i,i<k→0≤amt f i∧amt f i≤(arcAt l i).cap)) (fun i _=>l.length-(intOf i).toNat)
 case atStart=>exact ⟨0,rfl,Nat.zero_le _,HB1,HN2,hid (fun i hi=>absurd hi (by omega))⟩
 case round =>
  obtain ⟨k,rfl,hk,HB,HN,HW⟩:=hrel
  obtain ⟨n0,n1,n2,n3⟩:=netBox_cells HN.out
  by_cases hlt:k<l.length
  ·obtain ⟨b,off,rfl,hbl,c0,c1,c2⟩:=arow_cell (HR.out.kept HB.out) hlt
   obtain ⟨b2,off2,rfl,hbl2,d0⟩:=irow_cell (HF.out.kept HB.out) (i:=k) (by have:=HLE.out;omega)
   have HBD:=hid (fun h=>wi_bad (l:=l) (f:=f) hlt h)
   have HST:=hid (show ∀ i,i<k+1→(0≤amt f k∧amt f k≤(arcAt l k).cap)→0≤amt f i∧amt f i≤(arcAt l i).cap from fun i hi h=>by
    by_cases e:i=k
    ·subst e;exact h
    ·exact HW.out i (by omega))
   generalize amt f k=x at *
   generalize arcAt l k=a at *
   obtain ⟨fr,tu,ca⟩:=a
   simp only at c0 c1 c2 HBD HST
   have hki:(k:Int)<(l.length:Int):=by omega
   have hk0:(0:Int)≤(k:Int):=by omega
   by_cases p1:x<0
   ·have HE:=hid (E3.out (by trivial) HLE.out (HBD.out (.inl p1)))
    have p1':decide (x<0)=true:=by simpa using p1
    go_wp2
    go_quiet (fail)
    go_wp2
    go_ret
    exact ⟨retI HE.out.symm,below_dn HB.out _⟩
   ·have p1':decide (x<0)=false:=by simpa using p1
    by_cases p2:ca<x
    ·have HE:=hid (E3.out (by trivial) HLE.out (HBD.out (.inr p2)))
     have p2':decide (ca<x)=true:=by simpa using p2
     go_wp2
     go_quiet (fail)
     go_wp2
     go_ret
     exact ⟨retI HE.out.symm,below_dn HB.out _⟩
    ·have p2':decide (ca<x)=false:=by simpa using p2
     have HST2:=hid (fun i hi=>HST.out i hi (by omega))
     go_wp2
     go_quiet (fail)
     go_wp2
     go_roundw
     case rel=>exact ⟨k+1,by go_num,by omega,hid (below_dn HB.out _),HN,HST2⟩
     case measure=>simp [intOf];omega
  ·have ek:k=l.length:=by omega
   subst ek
   have HE:=hid (E4.out (by trivial) HLE.out HW.out)
   go_wp2
   go_ret
   exact ⟨retI HE.out.symm,HB.out⟩
end Ne
namespace Ne
set_option maxRecDepth 100000 in
set_option maxHeartbeats 4000000 in
theorem rexc_any (n:Net) (ao:Option Addr) (cap:Nat) (fo:Option Addr) (fc:Nat) (f:List Int) (v:Int) (w:World) (hr:ARow w ao n.l) (hf:IRow w fo f) (hc:chkA n f=0) :
  Calls Tryz.prog 64 #[encN n ao cap,.slice fo f.length fc,.int .i64 v] w fun e w'=>e=.returned (.int .i64 (exc n.l f v))∧Below w.heap.size w w':=by
 obtain ⟨_,RT,hfl,hwi⟩:=chkA_ok hc
 have TB:=hid (fun k h=>toS_bd RT hwi v (k:=k) h)
 have FB:=hid (fun k h=>frS_bd RT hwi v (k:=k) h)
 have AB:=hid (fun i h=>amt_bd RT hwi (i:=i) h)
 have hL:=RT.len
 clear RT hwi hc
 obtain ⟨nn,ns,nt,l⟩:=n
 simp only at hr hfl TB FB AB hL ⊢
 have HEX:=hid (show exc l f v=toS l f v l.length-frS l f v l.length from rfl)
 have HLE:=hid hfl
 rw [hfl]
 have HB0:=hid ((Below.refl w.heap.size w).alloc (Nat.le_refl _) (.cells #[.int .i64 nn,.int .i64 ns,.int .i64 nt,.slice ao l.length cap] 24))
 have HN0:=hid (netBox_new w nn ns nt (.slice ao l.length cap))
 have HR:=hid (hr.kept HB0.out)
 have HF:=hid (hf.kept HB0.out)
 clear hr hf hfl
 go_enter Tryz.func64,Tryz.ntmps64
 go_wp2
 generalize (w.alloc (.cells #[.int .i64 nn,.int .i64 ns,.int .i64 nt,.slice ao l.length cap] 24))=W0 at *
 go_loopw [7,8] (fun x i wr=>∃ (k:Nat) (z:Int),x=.int .i64 z∧i=.int .i64 k∧k≤l.length∧wr=W0∧Hid (z=toS l f v k-frS l f v k)) (fun _ i _=>l.length-(intOf i).toNat)
 case atStart=>exact ⟨0,0,rfl,rfl,Nat.zero_le _,rfl,hid rfl⟩
 case round =>
  obtain ⟨k,z,rfl,rfl,hk,rfl,HZ⟩:=hrel
  obtain ⟨n0,n1,n2,n3⟩:=netBox_cells HN0.out
  by_cases hlt:k<l.length
  ·obtain ⟨b,off,rfl,hbl,c0,c1,c2⟩:=arow_cell HR.out hlt
   obtain ⟨b2,off2,rfl,hbl2,d0⟩:=irow_cell HF.out (i:=k) (by have:=HLE.out;omega)
   obtain ⟨x0,x1⟩:=AB.out k hlt
   have t1:=TB.out k hk
   have t2:=TB.out (k+1) (by omega)
   have s1:=FB.out k hk
   have s2:=FB.out (k+1) (by omega)
   have eT:=toS_succ l f v k
   have eF:=frS_succ l f v k
   have hz:=HZ.out
   have hki:(k:Int)<(l.length:Int):=by omega
   have hk0:(0:Int)≤(k:Int):=by omega
   have HG:=hid (show ∀ z',z' = toS l f v (k+1)-frS l f v (k+1)→z' = toS l f v (k+1)-frS l f v (k+1) from fun _ h=>h)
   by_cases p:(arcAt l k).to=v
   ·rw [if_pos p] at eT
    have p':((arcAt l k).to == v)=true:=by simpa using p
    by_cases q:(arcAt l k).fr=v
    ·rw [if_pos q] at eF
     have q':((arcAt l k).fr == v)=true:=by simpa using q
     have hq:=HG.out z (by omega)
     have HQ:=hid hq
     have w1:IntKind.i64.wrap (z+amt f k)=z+amt f k:=by rw [IntKind.wrap_i64];omega
     have w2:IntKind.i64.wrap (z+amt f k-amt f k)=z:=by rw [IntKind.wrap_i64];omega
     have b1:-9223372036854775808≤z+amt f k∧z+amt f k≤9223372036854775807:=by omega
     have b2:-9223372036854775808≤z+amt f k-amt f k∧z+amt f k-amt f k≤9223372036854775807:=by omega
     generalize amt f k=y at *
     generalize arcAt l k=a at *
     clear eT eF hz p q hq t1 t2 s1 s2
     go_wp2
     go_roundw
     case rel=>exact ⟨k+1,_,rfl,by go_num,by omega,by trivial,HQ⟩
     case measure=>simp [intOf];omega
    ·rw [if_neg q] at eF
     have q':((arcAt l k).fr == v)=false:=by simpa using q
     have hq:=HG.out (z+amt f k) (by omega)
     have HQ:=hid hq
     have w1:IntKind.i64.wrap (z+amt f k)=z+amt f k:=by rw [IntKind.wrap_i64];omega
     have b1:-9223372036854775808≤z+amt f k∧z+amt f k≤9223372036854775807:=by omega
     generalize amt f k=y at *
     generalize arcAt l k=a at *
     clear eT eF hz p q hq t1 t2 s1 s2
     go_wp2
     go_roundw
     case rel=>exact ⟨k+1,_,rfl,by go_num,by omega,by trivial,HQ⟩
     case measure=>simp [intOf];omega
   ·rw [if_neg p] at eT
    have p':((arcAt l k).to == v)=false:=by simpa using p
    by_cases q:(arcAt l k).fr=v
    ·rw [if_pos q] at eF
     have q':((arcAt l k).fr == v)=true:=by simpa using q
     have hq:=HG.out (z-amt f k) (by omega)
     have HQ:=hid hq
     have w1:IntKind.i64.wrap (z-amt f k)=z-amt f k:=by rw [IntKind.wrap_i64];omega
     have b1:-9223372036854775808≤z-amt f k∧z-amt f k≤9223372036854775807:=by omega
     generalize amt f k=y at *
     generalize arcAt l k=a at *
     clear eT eF hz p q hq t1 t2 s1 s2
     go_wp2
     go_roundw
     case rel=>exact ⟨k+1,_,rfl,by go_num,by omega,by trivial,HQ⟩
     case measure=>simp [intOf];omega
    ·rw [if_neg q] at eF
     have q':((arcAt l k).fr == v)=false:=by simpa using q
     have hq:=HG.out z (by omega)
     have HQ:=hid hq
     generalize amt f k=y at *
     generalize arcAt l k=a at *
     clear eT eF hz p q hq t1 t2 s1 s2
     go_wp2
     go_roundw
     case rel=>exact ⟨k+1,_,rfl,by go_num,by omega,by trivial,HQ⟩
     case measure=>simp [intOf];omega
  ·have ek:k=l.length:=by omega
   subst ek
   go_wp2
   go_ret
   exact ⟨retI (by rw [HZ.out,HEX.out]),HB0.out⟩
end Ne
namespace Ne
section
variable (n:Net) (ao:Option Addr) (cap:Nat) (fo:Option Addr) (fc:Nat) (f:List Int) (w:World) (hr:ARow w ao n.l) (hf:IRow w fo f) (hl:n.l.length≤1000000)
include hr hf hl
set_option maxRecDepth 100000 in
set_option maxHeartbeats 1000000 in
theorem rchk_any:Calls Tryz.prog 53 #[encN n ao cap,.slice fo f.length fc] w fun e w'=>e=.returned (.int .i64 (chkF n f))∧Below w.heap.size w w':=by
 have AM:=hid (fun w' (h1:ARow w' ao n.l) (h2:IRow w' fo f)=>within_any n ao cap fo fc f w' h1 h2 hl)
 by_cases c0:chkA n f=0
 case neg =>
  have HE:=hid (show chkF n f=chkA n f by unfold chkF;rw [if_pos c0])
  generalize chkF n f=R at *
  generalize chkA n f=c at *
  generalize f.length=fl at *
  obtain ⟨nn,ns,nt,l⟩:=n
  simp only at hr AM ⊢
  have HB0:=hid ((Below.refl w.heap.size w).alloc (Nat.le_refl _) (.cells #[.int .i64 nn,.int .i64 ns,.int .i64 nt,.slice ao l.length cap] 24))
  have HN0:=hid (netBox_new w nn ns nt (.slice ao l.length cap))
  have c1':(c == 0)=false:=by simpa using c0
  have c1n:(c != 0)=true:=by simpa using c0
  have HR:=hid (hr.kept HB0.out)
  have HF:=hid (hf.kept HB0.out)
  clear hr hf c0
  go_enter Tryz.func53,Tryz.ntmps53
  go_wp2_with fail
  refine (AM.out _ HR.out HF.out).mono ?_
  rintro e w1 ⟨rfl,hb⟩
  have HB1:=hid (HB0.out.trans (hb.mono (by simp)))
  obtain ⟨n0,n1,n2,n3⟩:=netBox_cells (netBox_below HN0.out hb (by simp))
  clear hb
  go_wp2
  go_ret
  exact ⟨retI HE.out.symm,HB1.out⟩
 have HE:=hid (show calm n f→chkF n f=0 from fun h=>chkF_in c0 h)
 have HE2:=hid (show ¬ calm n f→chkF n f=9 from fun h=>by unfold chkF;rw [if_neg (by simpa using c0),if_neg h])
 have XS:=hid (fun v w' (h1:ARow w' ao n.l) (h2:IRow w' fo f)=>rexc_any n ao cap fo fc f v w' h1 h2 c0)
 rw [c0] at AM
 obtain ⟨-,RT,-,-⟩:=chkA_ok c0
 have hN0:=RT.n0
 have hN1:=RT.n1
 have HX0:=hid (exc_out RT f (v:=0) (by omega))
 clear RT c0
 generalize chkF n f=R at *
 generalize f.length=fl at *
 obtain ⟨nn,ns,nt,l⟩:=n
 simp only at hr AM XS HE HE2 hN0 hN1 HX0 ⊢
 obtain ⟨N,rfl⟩:∃ N:Nat,nn=(N:Int):=⟨nn.toNat,by omega⟩
 have HB0:=hid ((Below.refl w.heap.size w).alloc (Nat.le_refl _) (.cells #[.int .i64 (N:Int),.int .i64 ns,.int .i64 nt,.slice ao l.length cap] 24))
 have HN0:=hid (netBox_new w (N:Int) ns nt (.slice ao l.length cap))
 have HR:=hid (hr.kept HB0.out)
 have HF:=hid (hf.kept HB0.out)
 clear hr hf
 have HNS:=hid (show calm ⟨N,ns,nt,l⟩ f↔∀ v:Nat,v<N+1→(v:Int)≠ns→(v:Int)≠nt→exc l f v=0 by unfold calm;simp only [Int.toNat_natCast])
 go_enter Tryz.func53,Tryz.ntmps53
 go_wp2_with fail
 refine (AM.out _ HR.out HF.out).mono ?_
 rintro e w1 ⟨rfl,hb⟩
 have HB1:=hid (HB0.out.trans (hb.mono (by simp)))
 have HN1:=hid (netBox_below HN0.out hb (by simp))
 have HR1:=hid (HR.out.kept hb)
 have HF1:=hid (HF.out.kept hb)
 clear hb HB0 HN0 HR HF AM
 go_wp2
 go_loopw [6] (fun i wr=>∃ k:Nat,i=.int .i64 k∧1≤k∧k≤N+1∧Hid (Below w.heap.size w wr)∧Hid (Below w1.heap.size w1 wr)∧Hid (∀ v:Nat,v<k→(v:Int)≠ns→(v:Int)≠nt→exc l f v=0)) (fun i _=>N+1-(intOf i).toNat)
 case atStart=>exact ⟨1,rfl,by omega,by omega,HB1,hid (Below.refl _ _),hid (fun v hv _ _=>by rw [show v=0 by omega];exact HX0.out)⟩
 case round =>
  obtain ⟨k,rfl,hk1,hk,HB,HBW,HW⟩:=hrel
  obtain ⟨n0,n1,n2,n3⟩:=netBox_cells (netBox_below HN1.out HBW.out (netBox_lt HN1.out))
  by_cases hlt:k<N+1
  ·have hki:(k:Int)≤(N:Int):=by omega
   have HST:=hid (show ((k:Int)≠ns→(k:Int)≠nt→exc l f k=0)→∀ v:Nat,v<k+1→(v:Int)≠ns→(v:Int)≠nt→exc l f v=0 from fun h v hv h1 h2=>by
    by_cases e:v=k
    ·subst e;exact h h1 h2
    ·exact HW.out v (by omega) h1 h2)
   have HBD:=hid (show (k:Int)≠ns→(k:Int)≠nt→exc l f k≠0→R=9 from fun h1 h2 h3=>HE2.out (fun hc=>h3 ((HNS.out.1 hc) k hlt h1 h2)))
   have XK:=hid (fun w' h1 h2=>XS.out (k:Int) w' h1 h2)
   generalize exc l f (k:Int)=x at *
   by_cases p1:(k:Int)=ns
   ·have p1':((k:Int) == ns)=true:=by simpa using p1
    have p1n:((k:Int) != ns)=false:=by simpa using p1
    have HS2:=hid (HST.out (fun h=>absurd p1 h))
    clear p1
    go_wp2
    go_roundw
    case rel=>exact ⟨k+1,by go_num,by omega,by omega,HB,HBW,HS2⟩
    case measure=>simp [intOf];omega
   ·have p1':((k:Int) == ns)=false:=by simpa using p1
    have p1n:((k:Int) != ns)=true:=by simpa using p1
    by_cases p2:(k:Int)=nt
    ·have p2':((k:Int) == nt)=true:=by simpa using p2
     have p2n:((k:Int) != nt)=false:=by simpa using p2
     have HS2:=hid (HST.out (fun _ h=>absurd p2 h))
     clear p1 p2
     go_wp2
     go_roundw
     case rel=>exact ⟨k+1,by go_num,by omega,by omega,HB,HBW,HS2⟩
     case measure=>simp [intOf];omega
    ·have p2':((k:Int) == nt)=false:=by simpa using p2
     have p2n:((k:Int) != nt)=true:=by simpa using p2
     by_cases p3:x=0
     ·have p3':(x == 0)=true:=by simpa using p3
      have p3n:(x != 0)=false:=by simpa using p3
      have HS2:=hid (HST.out (fun _ _=>p3))
      clear p1 p2 p3
      go_wp2_with fail
      refine (XK.out _ (HR1.out.kept HBW.out) (HF1.out.kept HBW.out)).mono ?_
      rintro e w2 ⟨rfl,hb⟩
      have HB2:=hid (HB.out.trans (hb.mono HB.out.size))
      have HW2:=hid (HBW.out.trans (hb.mono HBW.out.size))
      clear hb
      go_wp2
      go_roundw
      case rel=>exact ⟨k+1,by go_num,by omega,by omega,HB2,HW2,HS2⟩
      case measure=>simp [intOf];omega
     ·have p3':(x == 0)=false:=by simpa using p3
      have p3n:(x != 0)=true:=by simpa using p3
      have HR9:=hid (HBD.out p1 p2 p3)
      clear p1 p2 p3
      go_wp2_with fail
      refine (XK.out _ (HR1.out.kept HBW.out) (HF1.out.kept HBW.out)).mono ?_
      rintro e w2 ⟨rfl,hb⟩
      have HB2:=hid (HB.out.trans (hb.mono HB.out.size))
      clear hb
      go_wp2
      go_ret
      exact ⟨retI HR9.out.symm,HB2.out⟩
  ·have ek:k=N+1:=by omega
   have hki:¬ (k:Int)≤(N:Int):=by omega
   have HR0:=hid (HE.out (HNS.out.2 (fun v hv=>HW.out v (by omega))))
   clear ek
   go_wp2
   go_ret
   exact ⟨retI HR0.out.symm,HB.out⟩

end
end Ne
namespace Ne
set_option maxHeartbeats 1000000 in
theorem rends_any (n:Net) (ao:Option Addr) (cap:Nat) (r:Int) (w:World) (hr:ARow w ao n.l) (hl:n.l.length≤1000000) (h64:in64 r) :
  Calls Tryz.prog 51 #[encN n ao cap,.int .i64 r] w fun e w'=>e=.returned (.tuple #[.int .i64 (enF n.l r),.int .i64 (enT n.l r)])∧Below w.heap.size w w':=by
 obtain ⟨nn,ns,nt,l⟩:=n
 simp only at hr hl ⊢
 have HB0:=hid ((Below.refl w.heap.size w).alloc (Nat.le_refl _) (.cells #[.int .i64 nn,.int .i64 ns,.int .i64 nt,.slice ao l.length cap] 24))
 have HN0:=hid (netBox_new w nn ns nt (.slice ao l.length cap))
 have HR:=hid (hr.kept HB0.out)
 clear hr
 by_cases c1:r<0
 ·have HE1:=hid (enF_out (l:=l) (.inl c1))
  have HE2:=hid (enT_out (l:=l) (.inl c1))
  generalize enF l r=x at *
  generalize enT l r=y at *
  have c1':decide (r<0)=true:=by simpa using c1
  go_enter Tryz.func51,Tryz.ntmps51
  go_wp2
  go_ret2
  exact ⟨ret2' HE1.out.symm HE2.out.symm,HB0.out⟩
 have c1':decide (r<0)=false:=by simpa using c1
 by_cases c2:2*(l.length:Int)≤r
 ·have HE1:=hid (enF_out (l:=l) (.inr c2))
  have HE2:=hid (enT_out (l:=l) (.inr c2))
  generalize enF l r=x at *
  generalize enT l r=y at *
  have c2':decide (2*(l.length:Int)≤r)=true:=by simpa using c2
  obtain ⟨n0,n1,n2,n3⟩:=netBox_cells HN0.out
  go_enter Tryz.func51,Tryz.ntmps51
  go_wp2
  go_ret2
  exact ⟨ret2' HE1.out.symm HE2.out.symm,HB0.out⟩
 obtain ⟨k,rfl⟩:∃ k:Nat,r=(k:Int):=⟨r.toNat,by omega⟩
 have hk2:k<2*l.length:=by omega
 rw [enF_in hk2,enT_in hk2]
 have c2':decide (2*(l.length:Int)≤(k:Int))=false:=by simpa using c2
 obtain ⟨q,hq⟩:∃ q,q=k / 2:=⟨_,rfl⟩
 have hql:q<l.length:=by omega
 have hqI:(q:Int)<(l.length:Int):=by omega
 have hq0:(0:Int)≤(q:Int):=by omega
 have htd:=tdiv2 hq
 obtain ⟨b,off,rfl,hbl,c0,c1x,c2x⟩:=arow_cell HR.out hql
 have HE1:=hid (show k % 2=1→trF l k=(arcAt l q).to∧trT l k=(arcAt l q).fr from fun h=>by unfold trF trT;rw [if_pos h,if_pos h,hq];exact ⟨rfl,rfl⟩)
 have HE2:=hid (show ¬ k % 2=1→trF l k=(arcAt l q).fr∧trT l k=(arcAt l q).to from fun h=>by unfold trF trT;rw [if_neg h,if_neg h,hq];exact ⟨rfl,rfl⟩)
 have htm:=tmod2 k
 generalize trF l k=X at *
 generalize trT l k=Y at *
 generalize arcAt l q=a at *
 obtain ⟨fr,tov,ca⟩:=a
 simp only at c0 c1x c2x HE1 HE2
 obtain ⟨n0,n1,n2,n3⟩:=netBox_cells HN0.out
 have HB2:=hid (HB0.out.alloc HB0.out.size (.cells #[.int .i64 fr,.int .i64 tov,.int .i64 ca] 50))
 obtain ⟨g0,g1,g2⟩:=arc_new (w.alloc (.cells #[.int .i64 nn,.int .i64 ns,.int .i64 nt,.slice (some ⟨b,off,none⟩) l.length cap] 24)) (b:=w.heap.size+1) (by simp) fr tov ca
 by_cases c:k % 2=1
 ·have HE:=hid (HE1.out c)
  have hm:(k:Int).tmod 2=1:=by rw [htm,c];rfl
  clear c HE1 HE2 hq hk2 c1 c2 htm
  go_enter Tryz.func51,Tryz.ntmps51
  go_wp2
  generalize ((w.alloc (.cells #[.int .i64 nn,.int .i64 ns,.int .i64 nt,.slice (some ⟨b,off,none⟩) l.length cap] 24)).alloc (.cells #[.int .i64 fr,.int .i64 tov,.int .i64 ca] 50))=W2 at *
  clear n0 n1 n2 n3 c0 c1x c2x
  go_quiet (fail)
  go_wp2
  go_ret2
  exact ⟨ret2' HE.out.1.symm HE.out.2.symm,below_dn HB2.out _⟩
 ·have HE:=hid (HE2.out c)
  have hm:(k:Int).tmod 2=0:=by rw [htm,show k % 2=0 by omega];rfl
  clear c HE1 HE2 hq hk2 c1 c2 htm
  go_enter Tryz.func51,Tryz.ntmps51
  go_wp2
  generalize ((w.alloc (.cells #[.int .i64 nn,.int .i64 ns,.int .i64 nt,.slice (some ⟨b,off,none⟩) l.length cap] 24)).alloc (.cells #[.int .i64 fr,.int .i64 tov,.int .i64 ca] 50))=W2 at *
  clear n0 n1 n2 n3 c0 c1x c2x
  go_quiet (fail)
  go_wp2
  go_ret2
  exact ⟨ret2' HE.out.1.symm HE.out.2.symm,below_dn HB2.out _⟩
end Ne
end Go.Proofs.YtmikbkggjlbbnaaGreat
