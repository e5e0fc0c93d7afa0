/-
  Chk, Famt
-/
import Derived.Test.YthhlfphnokdfaaaGreatBc3
import Derived.Test.YthhlfphnokdfaaaGreatBc6
set_option linter.unusedVariables false
set_option linter.unusedSimpArgs false
set_option maxRecDepth 100000
set_option maxHeartbeats 4000000
namespace Go.Proofs.YthhlfphnokdfaaaGreat
open Go.ChangeShapes Go.WideShapes Go.ChangeAt Go.RowKit
open Lib (hid)
namespace Ne
theorem isnode_any (n s t v:Int) (L:Value) (w:World) :
  Calls Tryz.prog 53 #[.agg #[.int .i64 n,.int .i64 s,.int .i64 t,L],.int .i64 v] w fun e w'=>e=.returned (.bool (isNode n v))∧w.alloc (.cells #[.int .i64 n,.int .i64 s,.int .i64 t,L] 27)=w':=by
 by_cases h1:1≤v
 ·by_cases h2:v≤n
  ·have HE:=hid (show isNode n v=true by simp [isNode,h1,h2])
   go_enter Tryz.func53,Tryz.ntmps53
   go_wp2
   go_ret
   exact ⟨retB HE.out.symm,rfl⟩
  ·have HE:=hid (show isNode n v=false by simp [isNode,h1,h2])
   go_enter Tryz.func53,Tryz.ntmps53
   go_wp2
   go_ret
   exact ⟨retB HE.out.symm,rfl⟩
 ·have HE:=hid (show isNode n v=false by simp [isNode,h1])
  go_enter Tryz.func53,Tryz.ntmps53
  go_wp2
  go_ret
  exact ⟨retB HE.out.symm,rfl⟩

theorem checkarcs_any (n:Net) (ao:Option Addr) (cap:Nat) (w:World) (hr:ARow w ao n.l) (hl:n.l.length≤1000000) (hok:∀ a∈n.l,in64 a.cap) :
  Calls Tryz.prog 54 #[encN n ao cap] w fun e w'=>e=.returned (.int .i64 (checkL n.n 4611686018427387903 n.l))∧Below w.heap.size w w':=by
 obtain ⟨nn,ns,nt,l⟩:=n
 simp only at hr hl hok ⊢
 have HR:=hid hr
 have HOK:=hid hok
 clear hr hok
 have HB0:=hid ((Below.refl w.heap.size w).alloc (Nat.le_refl _) (.cells #[.int .i64 nn,.int .i64 ns,.int .i64 nt,.slice ao l.length cap] 27))
 have HN0:=hid (netBox_new w nn ns nt (.slice ao l.length cap))
 go_enter Tryz.func54,Tryz.ntmps54
 go_wp2
 go_loopw [3,11] (fun s i wr=>∃ (k:Nat) (sum:Int),s=.int .i64 sum∧i=.int .i64 k∧k≤l.length∧0≤sum∧sum≤4611686018427387903∧NetBox wr w.heap.size nn ns nt (.slice ao l.length cap)∧Below w.heap.size w wr∧Hid (checkL nn 4611686018427387903 l=checkL nn (4611686018427387903-sum) (l.drop k))) (fun _ i _=>l.length-(intOf i).toNat)
 case atStart=>exact ⟨0,0,rfl,rfl,Nat.zero_le _,by omega,by omega,HN0.out,HB0.out,hid rfl⟩
 case round =>
  obtain ⟨k,sum,rfl,rfl,hk,hs0,hs1,hbx,hbel,HC⟩:=hrel
  obtain ⟨n0,n1,n2,n3⟩:=netBox_cells hbx
  have HBX:=hid hbx
  have HB:=hid hbel
  have hwlt:w.heap.size<wr.heap.size:=netBox_lt hbx
  clear hbx hbel
  by_cases hlt:k<l.length
  ·obtain ⟨a,ha⟩:∃ a,l[k]? = some a:=⟨_,List.getElem?_eq_getElem hlt⟩
   rcases (HR.out.kept HB.out) with h | ⟨b,off,rfl,hbl,hcell⟩
   ·exfalso;rw [h] at hlt;simp at hlt
   obtain ⟨c0,c1,c2⟩:=arow_at hcell ha
   obtain ⟨hc0,hc1⟩:=HOK.out a (List.mem_of_getElem? ha)
   have HD:=hid (drop_at ha)
   obtain ⟨fr,to,ca⟩:=a
   simp only at c0 c1 c2 hc0 hc1
   clear hcell ha
   by_cases f1:isNode nn fr=true
   case neg =>
    have f1':isNode nn fr=false:=by simpa using f1
    have HE:=hid (show checkL nn 4611686018427387903 l=4 by rw [HC.out,HD.out];simp [checkL,f1'])
    clear f1
    go_wp2_with (go_at_call 53;refine (isnode_any _ _ _ _ _ _).mono ?_;rintro e w' ⟨rfl,rfl⟩)
    go_ret
    exact ⟨retI HE.out.symm,(HB.out.alloc (by omega) _).alloc (by simp;omega) _⟩
   by_cases f2:isNode nn to=true
   case neg =>
    have f2':isNode nn to=false:=by simpa using f2
    have HE:=hid (show checkL nn 4611686018427387903 l=4 by rw [HC.out,HD.out];simp [checkL,f2'])
    clear f2
    go_wp2_with (go_at_call 53;refine (isnode_any _ _ _ _ _ _).mono ?_;rintro e w' ⟨rfl,rfl⟩)
    go_ret
    exact ⟨retI HE.out.symm,((HB.out.alloc (by omega) _).alloc (by simp;omega) _).alloc (by simp;omega) _⟩
   have HI:=hid (show (isNode nn fr && isNode nn to)=true by simp [f1,f2])
   by_cases f3:ca<0
   ·have HE:=hid (show checkL nn 4611686018427387903 l=3 by rw [HC.out,HD.out];simp [checkL,f1,f2,f3])
    go_wp2_with (go_at_call 53;refine (isnode_any _ _ _ _ _ _).mono ?_;rintro e w' ⟨rfl,rfl⟩)
    go_ret
    exact ⟨retI HE.out.symm,((HB.out.alloc (by omega) _).alloc (by simp;omega) _).alloc (by simp;omega) _⟩
   have c4:=fun w'=>Num.add_any sum ca w' (by omega) (by omega) (by omega) (by omega)
   by_cases f4:sum+ca≤4611686018427387903
   ·rw [Num.valV_in (by omega) (by omega),Num.valE_in (by omega) (by omega)] at c4
    have C4:=hid c4
    have HE:=hid (show checkL nn 4611686018427387903 l=checkL nn (4611686018427387903-(sum+ca)) (l.drop (k+1)) by
     rw [HC.out,HD.out];simp [checkL,f1,f2,f3];rw [if_neg (by omega),show 4611686018427387903-sum-ca=4611686018427387903-(sum+ca) by omega])
    clear c4
    go_wp2_with (first
     | (go_at_call 53;refine (isnode_any _ _ _ _ _ _).mono ?_;rintro e w' ⟨rfl,rfl⟩)
     | (go_at_call 59;refine (C4.out _).mono ?_;rintro e w' ⟨rfl,rfl⟩))
    go_roundw
    case rel=>exact ⟨k+1,sum+ca,rfl,by go_num,by omega,by omega,by omega,netBox_alloc (netBox_alloc (netBox_alloc HBX.out _) _) _,((HB.out.alloc (by omega) _).alloc (by simp;omega) _).alloc (by simp;omega) _,HE⟩
    case measure=>simp [intOf];omega
   ·have HE:=hid (show checkL nn 4611686018427387903 l=7 by
     rw [HC.out,HD.out];simp [checkL,f1,f2,f3];intro h;omega)
    by_cases f5:sum+ca≤9223372036854775807
    ·rw [Num.valV_in (by omega) f5,Num.valE_in (by omega) f5] at c4
     have C4:=hid c4
     clear c4
     go_wp2_with (first
      | (go_at_call 53;refine (isnode_any _ _ _ _ _ _).mono ?_;rintro e w' ⟨rfl,rfl⟩)
      | (go_at_call 59;refine (C4.out _).mono ?_;rintro e w' ⟨rfl,rfl⟩))
     go_ret
     exact ⟨retI HE.out.symm,((HB.out.alloc (by omega) _).alloc (by simp;omega) _).alloc (by simp;omega) _⟩
    ·rw [Num.valV_out (by omega),Num.valE_out (by omega)] at c4
     have C4:=hid c4
     clear c4
     go_wp2_with (first
      | (go_at_call 53;refine (isnode_any _ _ _ _ _ _).mono ?_;rintro e w' ⟨rfl,rfl⟩)
      | (go_at_call 59;refine (C4.out _).mono ?_;rintro e w' ⟨rfl,rfl⟩))
     go_ret
     exact ⟨retI HE.out.symm,((HB.out.alloc (by omega) _).alloc (by simp;omega) _).alloc (by simp;omega) _⟩
  ·have ek:k=l.length:=by omega
   subst ek
   have HE:=hid (show checkL nn 4611686018427387903 l=0 by rw [HC.out,List.drop_length];rfl)
   go_wp2
   go_ret
   exact ⟨retI HE.out.symm,HB.out⟩

theorem check_any (n:Net) (ao:Option Addr) (cap:Nat) (w:World) (hr:ARow w ao n.l) (hl:n.l.length≤1000000) (hok:∀ a∈n.l,in64 a.cap) :
  Calls Tryz.prog 47 #[encN n ao cap] w fun e w'=>e=.returned (.int .i64 (checkN n))∧Below w.heap.size w w':=by
 obtain ⟨nn,ns,nt,l⟩:=n
 simp only at hr hl hok ⊢
 have HB0:=hid ((Below.refl w.heap.size w).alloc (Nat.le_refl _) (.cells #[.int .i64 nn,.int .i64 ns,.int .i64 nt,.slice ao l.length cap] 27))
 by_cases g1:nn<2
 ·have HE:=hid (show checkN ⟨nn,ns,nt,l⟩=3 by unfold checkN;rw [if_pos (.inl g1)])
  go_enter Tryz.func47,Tryz.ntmps47
  go_wp2
  go_ret
  exact ⟨retI HE.out.symm,HB0.out⟩
 by_cases g2:500<nn
 ·have HE:=hid (show checkN ⟨nn,ns,nt,l⟩=3 by unfold checkN;rw [if_pos (.inr g2)])
  go_enter Tryz.func47,Tryz.ntmps47
  go_wp2
  go_ret
  exact ⟨retI HE.out.symm,HB0.out⟩
 by_cases f1:isNode nn ns=true
 case neg =>
  have f1':isNode nn ns=false:=by simpa using f1
  have HE:=hid (show checkN ⟨nn,ns,nt,l⟩=4 by unfold checkN;rw [if_neg (show ¬ (nn<2∨500<nn) by omega)];simp [f1'])
  clear f1
  go_enter Tryz.func47,Tryz.ntmps47
  go_wp2_with (go_at_call 53;refine (isnode_any _ _ _ _ _ _).mono ?_;rintro e w' ⟨rfl,rfl⟩)
  go_ret
  exact ⟨retI HE.out.symm,HB0.out.alloc (by simp) _⟩
 by_cases f2:isNode nn nt=true
 case neg =>
  have f2':isNode nn nt=false:=by simpa using f2
  have HE:=hid (show checkN ⟨nn,ns,nt,l⟩=4 by unfold checkN;rw [if_neg (show ¬ (nn<2∨500<nn) by omega)];simp [f2'])
  clear f2
  go_enter Tryz.func47,Tryz.ntmps47
  go_wp2_with (go_at_call 53;refine (isnode_any _ _ _ _ _ _).mono ?_;rintro e w' ⟨rfl,rfl⟩)
  go_ret
  exact ⟨retI HE.out.symm,(HB0.out.alloc (by simp) _).alloc (by simp;omega) _⟩
 have HI:=hid (show (isNode nn ns && isNode nn nt)=true by simp [f1,f2])
 by_cases g4:ns=nt
 ·have HE:=hid (show checkN ⟨nn,ns,nt,l⟩=5 by unfold checkN;rw [if_neg (show ¬ (nn<2∨500<nn) by omega),if_pos HI.out,if_pos g4])
  have g4':(ns == nt)=true:=by simp [g4]
  clear g4
  go_enter Tryz.func47,Tryz.ntmps47
  go_wp2_with (go_at_call 53;refine (isnode_any _ _ _ _ _ _).mono ?_;rintro e w' ⟨rfl,rfl⟩)
  go_ret
  exact ⟨retI HE.out.symm,(HB0.out.alloc (by simp) _).alloc (by simp;omega) _⟩
 have g4':(ns == nt)=false:=by simp [g4]
 by_cases g5:2000<l.length
 ·have HE:=hid (show checkN ⟨nn,ns,nt,l⟩=6 by unfold checkN;rw [if_neg (show ¬ (nn<2∨500<nn) by omega),if_pos HI.out,if_neg g4,if_pos g5])
  have g5':(2000:Int)<(l.length:Int):=by omega
  clear g4
  go_enter Tryz.func47,Tryz.ntmps47
  go_wp2_with (go_at_call 53;refine (isnode_any _ _ _ _ _ _).mono ?_;rintro e w' ⟨rfl,rfl⟩)
  go_ret
  exact ⟨retI HE.out.symm,(HB0.out.alloc (by simp) _).alloc (by simp;omega) _⟩
 have HE:=hid (show checkN ⟨nn,ns,nt,l⟩=checkL nn 4611686018427387903 l by unfold checkN;rw [if_neg (show ¬ (nn<2∨500<nn) by omega),if_pos HI.out,if_neg g4,if_neg g5])
 have HC:=hid (fun w' (h:ARow w' ao l)=>checkarcs_any ⟨nn,ns,nt,l⟩ ao cap w' h hl hok)
 have HR:=hid hr
 have g5':¬ (2000:Int)<(l.length:Int):=by omega
 clear g4 hr hok
 go_enter Tryz.func47,Tryz.ntmps47
 go_wp2_with (go_at_call 53;refine (isnode_any _ _ _ _ _ _).mono ?_;rintro e w' ⟨rfl,rfl⟩)
 have HB1:=hid ((HB0.out.alloc (by simp) (.cells #[.int .i64 nn,.int .i64 ns,.int .i64 nt,.slice ao l.length cap] 27)).alloc (by simp;omega) (.cells #[.int .i64 nn,.int .i64 ns,.int .i64 nt,.slice ao l.length cap] 27))
 refine (HC.out _ (HR.out.kept HB1.out)).mono ?_
 rintro e w' ⟨rfl,hb⟩
 have HB2:=hid (HB1.out.trans (hb.mono (by simp;omega)))
 clear hb
 go_wp2
 go_ret
 exact ⟨retI HE.out.symm,HB2.out⟩
end Ne
namespace Ne
theorem wi_bad {l:List Arc} {f:List Int} {k:Nat} (hk:k<l.length) (h:amt f k<0∨(arcAt l k).cap<amt f k):¬ wi l f:=fun hw=>by have:=hw k hk;omega
theorem chkA_cnt {n:Net} {f:List Int} (h1:checkN n=0) (h2:f.length≠n.l.length):chkA n f=6:=by
 unfold chkA;rw [if_neg (by simpa using h1),if_pos h2]
theorem chkA_net {n:Net} {f:List Int} (h1:checkN n≠0):chkA n f=checkN n:=by unfold chkA;rw [if_pos h1]
theorem chkA_rng {n:Net} {f:List Int} (h1:checkN n=0) (h2:f.length=n.l.length) (h3:¬ wi n.l f):chkA n f=3:=by
 unfold chkA;rw [if_neg (by simpa using h1),if_neg (by simpa using h2),if_neg h3]

theorem amts_any (n:Net) (ao:Option Addr) (cap:Nat) (fo:Option Addr) (fc:Nat) (f:List Int) (w:World) (hr:ARow w ao n.l) (hf:IRow w fo f) (hl:n.l.length≤1000000) (hok:∀ a∈n.l,in64 a.cap) :
  Calls Tryz.prog 39 #[encN n ao cap,.slice fo f.length fc] w fun e w'=>e=.returned (.int .i64 (chkA n f))∧Below w.heap.size w w':=by
 have CK:=hid (fun w' (h:ARow w' ao n.l)=>check_any n ao cap w' h hl hok)
 have E1:=hid (fun h=>chkA_net (n:=n) (f:=f) h)
 have E2:=hid (fun h1 h2=>chkA_cnt (n:=n) (f:=f) h1 h2)
 have E3:=hid (fun h1 h2 h3=>chkA_rng (n:=n) (f:=f) h1 h2 h3)
 have E4:=hid (fun h1 h2 h3=>chkA_in (n:=n) (f:=f) h1 h2 h3)
 obtain ⟨R,hR⟩:∃ x,x=chkA n f:=⟨_,rfl⟩
 rw [← hR] at E1 E2 E3 E4 ⊢
 clear hR
 obtain ⟨c,hc⟩:∃ c,checkN n=c:=⟨_,rfl⟩
 rw [hc] at CK E1 E2 E3 E4
 clear hc
 obtain ⟨nn,ns,nt,l⟩:=n
 simp only at hr hl hok CK E1 E2 E3 E4 ⊢
 have HB0:=hid ((Below.refl w.heap.size w).alloc (Nat.le_refl _) (.cells #[.int .i64 nn,.int .i64 ns,.int .i64 nt,.slice ao l.length cap] 27))
 have HN0:=hid (netBox_new w nn ns nt (.slice ao l.length cap))
 have HR:=hid hr
 have HF:=hid hf
 clear hr hf hok
 by_cases c1:c=0
 case neg =>
  have HE:=hid (E1.out c1)
  have c1':(c == 0)=false:=by simpa using c1
  have c1n:(c != 0)=true:=by simpa using c1
  clear c1
  go_enter Tryz.func39,Tryz.ntmps39
  go_wp2_with fail
  refine (CK.out _ (HR.out.kept HB0.out)).mono ?_
  rintro e w1 ⟨rfl,hb⟩
  have HB1:=hid (HB0.out.trans (hb.mono (by simp)))
  clear hb
  go_wp2
  go_ret
  exact ⟨retI HE.out.symm,HB1.out⟩
 subst c1
 by_cases c2:f.length=l.length
 case neg =>
  have HE:=hid (E2.out (by trivial) c2)
  have c2':((f.length:Int) == (l.length:Int))=false:=by simp;omega
  have c2n:((f.length:Int) != (l.length:Int))=true:=by simp;omega
  clear c2
  go_enter Tryz.func39,Tryz.ntmps39
  go_wp2_with fail
  refine (CK.out _ (HR.out.kept HB0.out)).mono ?_
  rintro e w1 ⟨rfl,hb⟩
  have HB1:=hid (HB0.out.trans (hb.mono (by simp)))
  have HN1:=netBox_below HN0.out hb (by simp)
  obtain ⟨n0,n1,n2,n3⟩:=netBox_cells HN1
  clear hb HN1
  go_wp2
  go_ret
  exact ⟨retI HE.out.symm,HB1.out⟩
 have HLE:=hid c2
 rw [c2]
 clear c2
 go_enter Tryz.func39,Tryz.ntmps39
 go_wp2_with fail
 refine (CK.out _ (HR.out.kept HB0.out)).mono ?_
 rintro e w1 ⟨rfl,hb⟩
 have HB1:=hid (HB0.out.trans (hb.mono (by simp)))
 have HN1:=netBox_below HN0.out hb (by simp)
 obtain ⟨n0,n1,n2,n3⟩:=netBox_cells HN1
 clear hb HN1
 go_wp2
 clear n0 n1 n2 n3
 go_loopw [22] (fun i wr=>∃ k:Nat,i=.int .i64 k∧k≤l.length∧Hid (Below w.heap.size w wr)∧Hid (∀ i,i<k→0≤amt f i∧amt f i≤(arcAt l i).cap)) (fun i _=>l.length-(intOf i).toNat)
 case atStart=>exact ⟨0,rfl,Nat.zero_le _,HB1,hid (fun i hi=>absurd hi (by omega))⟩
 case round =>
  obtain ⟨k,rfl,hk,HB,HW⟩:=hrel
  by_cases hlt:k<l.length
  ·obtain ⟨b,off,rfl,hbl,c0,c1,c2⟩:=arow_cell (HR.out.kept HB.out) hlt
   obtain ⟨b2,off2,rfl,hbl2,d0⟩:=irow_cell (HF.out.kept HB.out) (i:=k) (by have:=HLE.out;omega)
   have HBD:=hid (fun h=>wi_bad (l:=l) (f:=f) hlt h)
   have HST:=hid (show ∀ i,i<k+1→(0≤amt f k∧amt f k≤(arcAt l k).cap)→0≤amt f i∧amt f i≤(arcAt l i).cap from fun i hi h=>by
    by_cases e:i=k
    ·subst e;exact h
    ·exact HW.out i (by omega))
   generalize amt f k=x at *
   generalize arcAt l k=a at *
   obtain ⟨fr,to,ca⟩:=a
   simp only at c0 c1 c2 HBD HST
   have hsz:=HB.out.size
   have HB2:=hid (HB.out.alloc hsz (.cells #[.int .i64 fr,.int .i64 to,.int .i64 ca] 51))
   have hki:(k:Int)<(l.length:Int):=by omega
   have hk0:(0:Int)≤(k:Int):=by omega
   obtain ⟨g0,g1,g2⟩:=arc_new wr rfl fr to ca
   have d1:=held_alloc (o:=.cells #[.int .i64 fr,.int .i64 to,.int .i64 ca] 51) d0
   by_cases p1:x<0
   ·have HE:=hid (E3.out (by trivial) HLE.out (HBD.out (.inl p1)))
    have p1':decide (x<0)=true:=by simpa using p1
    go_wp2
    generalize (wr.alloc (.cells #[.int .i64 fr,.int .i64 to,.int .i64 ca] 51))=W2 at *
    clear d0 c0 c1 c2
    go_quiet (fail)
    go_wp2
    go_ret
    exact ⟨retI HE.out.symm,below_dn HB2.out _⟩
   ·have p1':decide (x<0)=false:=by simpa using p1
    by_cases p2:ca<x
    ·have HE:=hid (E3.out (by trivial) HLE.out (HBD.out (.inr p2)))
     have p2':decide (ca<x)=true:=by simpa using p2
     go_wp2
     generalize (wr.alloc (.cells #[.int .i64 fr,.int .i64 to,.int .i64 ca] 51))=W2 at *
     clear d0 c0 c1 c2
     go_quiet (fail)
     go_wp2
     go_ret
     exact ⟨retI HE.out.symm,below_dn HB2.out _⟩
    ·have p2':decide (ca<x)=false:=by simpa using p2
     have HST2:=hid (fun i hi=>HST.out i hi (by omega))
     go_wp2
     generalize (wr.alloc (.cells #[.int .i64 fr,.int .i64 to,.int .i64 ca] 51))=W2 at *
     clear d0 c0 c1 c2
     go_quiet (fail)
     go_wp2
     go_roundw
     case rel=>exact ⟨k+1,by go_num,by omega,hid (below_dn HB2.out _),HST2⟩
     case measure=>simp [intOf];omega
  ·have ek:k=l.length:=by omega
   subst ek
   have HE:=hid (E4.out (by trivial) HLE.out HW.out)
   go_wp2
   go_ret
   exact ⟨retI HE.out.symm,HB.out⟩
end Ne
end Go.Proofs.YthhlfphnokdfaaaGreat
