/-
  Swe
-/
import Derived.Test.YthhlfphnokdfaaaGreatBf24
import Derived.Test.YthhlfphnokdfaaaGreatBf1
import Derived.Test.YthhlfphnokdfaaaGreatBf6
set_option linter.unusedVariables false
set_option linter.unusedSimpArgs false
set_option maxRecDepth 100000
set_option maxHeartbeats 4000000
namespace Go.Proofs.YthhlfphnokdfaaaGreat
open Go.ChangeShapes Go.WideShapes Go.ChangeAt Go.RowKit
open Lib (hid)
namespace Sp
open Sv
section
variable {w w1 w2 w3 w4:World} {B p lo hi g c:Nat} {F:Nat→Prop} {s:St} {M:Nat→Nd} {I:Nat→List Nat} {P:Nat→Bool} {D:Nat→Int}
theorem lift_tp {n:Nat} (hM:SpM w B p g n M c) (hI:Inv n (Ne.amt s.v) s.r No M I P D) {y:Nat} (hy:y<n) :
  Calls Tryz.prog 126 #[.pointer (some ⟨p,0,none⟩),.int .i64 (y:Int)] w fun e w1=>e=.returned (.bool true)∧∃ c1 M1 I1 P1 D1,Tp w w1 B p g n s c (c+6*pot I n) y c1 M1 I1 P1 D1:=by
 obtain ⟨k,hk,_⟩:=hI.climb hy
 refine (lift_any hM hI hy hk).mono ?_
 rintro e w1 ⟨rfl,hS⟩
 obtain ⟨c1,M1,I1,P1,D1,h1,_⟩:=tp_of (hS.ended hy)
 exact ⟨rfl,c1,M1,I1,P1,D1,h1⟩
theorem foldl_keep (v:List Int) (x:Nat):∀ u:List Nat,(∀ y∈u,Ne.amt v x≤Ne.amt v y)→u.foldl (fun (b:Int) i=>if b<0∨Ne.amt v i<Ne.amt v b.toNat then (i:Int) else b) (x:Int)=(x:Int):=by
 intro u
 induction u with
 | nil=>intro _;rfl
 | cons a u ih =>
  intro h
  rw [List.foldl_cons,if_neg (by have:=h a (by simp);simp only [Int.toNat_natCast];omega)]
  exact ih fun y hy=>h y (List.mem_cons_of_mem _ hy)
theorem foldl_reach (v:List Int) (x:Nat):∀ (t u:List Nat) (b:Int),(∀ y∈t,Ne.amt v x<Ne.amt v y)→(∀ y∈u,Ne.amt v x≤Ne.amt v y)→(b<0∨Ne.amt v x<Ne.amt v b.toNat)→(t ++ x :: u).foldl (fun (b:Int) i=>if b<0∨Ne.amt v i<Ne.amt v b.toNat then (i:Int) else b) b=(x:Int):=by
 intro t
 induction t with
 | nil =>
  intro u b _ hu hb
  rw [List.nil_append,List.foldl_cons,if_pos hb]
  exact foldl_keep v x u hu
 | cons a t ih =>
  intro u b ht hu hb
  rw [List.cons_append,List.foldl_cons]
  refine ih u _ (fun y hy=>ht y (List.mem_cons_of_mem _ hy)) hu ?_
  have:=ht a (by simp)
  split
  ·right;simpa using this
  ·exact hb
theorem least_dle {x v:Nat} {m:Int} (h:DLe (Ne.amt s.v) m (s.r x) v) (hm:∀ y∈s.r x,m≤Ne.amt s.v y):leastZ s (x:Int)=(v:Int):=by
 obtain ⟨t,u,h1,h2,h3⟩:=h
 unfold leastZ leastL
 rw [rowZ_nat,h1]
 refine foldl_reach s.v v t u (-1) (fun y hy=>by rw [h3];exact h2 y hy) (fun y hy=>by rw [h3];exact hm y (by rw [h1];simp [hy])) (.inl (by decide))
section
variable {y v c1 c2 n:Nat} {M1 M2:Nat→Nd} {I1 I2:Nat→List Nat} {P1 P2:Nat→Bool} {D1 D2:Nat→Int}
theorem Hd.two' (h:Hd w B F p s lo hi g c M I P D) (hB:B≤w.heap.size) (ho:Off (PG p g) w w1) (t:Tp w1 w2 B p g s.v.length s c (c+6*pot I s.v.length) y c1 M1 I1 P1 D1) {FF:Nat→Prop} (ho2:Off (PG p g) w2 w3) (t2:∃ c2 M2 I2 P2 D2,SpM w3 B p g s.v.length M2 c2∧Inv s.v.length (Ne.amt s.v) s.r No M2 I2 P2 D2∧c1≤c2∧c2+6*pot I2 s.v.length≤c1+6*pot I1 s.v.length+18*lg s.v.length+4):SpO w3 B (Ext F w w3) p s (lo+it s (y:Int)) (hi+2*ac s.v.length)∧Off F w w3:=by
 obtain ⟨c2,M2,I2,P2,D2,m2,i2,l2,u2⟩:=t2
 rw [it_in h t.lt]
 exact h.to hB m2 (off_pg ho (off_pg t.off ho2)) rfl i2 h.good (by have:=t.lo;have:=h.lo;omega) (by have:=t.hi;unfold ac;omega)
end
theorem dleast_c (h:SpO w B F p s lo hi) (hBw:B≤w.heap.size) (x:Int) :
  Calls Tryz.prog 120 #[.pointer (some ⟨p,0,none⟩),.int .i64 x] w fun e w'=>e=.returned (.int .i64 (leastZ s x))∧SpO w' B (Ext F w w') p s (lo+it s x) (hi+2*ac s.v.length)∧Off F w w':=by
 obtain ⟨g,c,M,I,P,D,h⟩:=h.hd
 have HM0:=hid (h.mem.kept ((Below.refl _ w).alloc (Nat.le_refl _) (.cells #[.pointer (some ⟨p,0,none⟩)] 159)))
 have HO0:=hid (show Off (PG p g) w (w.alloc (.cells #[.pointer (some ⟨p,0,none⟩)] 159)) from (Sp.Off.refl _ w).alloc _)
 have HB0:=hid (bx_new (w:=w) rfl (.pointer (some ⟨p,0,none⟩)) 159)
 have hin:=h.mem.in
 by_cases hx:0≤x∧x<(s.v.length:Int)
 case neg =>
  have hr:=h.row.2 hx
  have e:it s x=0:=by unfold it;rw [if_pos hr]
  have HE:=hid (h.to hBw HM0.out HO0.out rfl h.inv h.good (k:=0) (by have:=h.lo;omega) (K:=2*ac s.v.length) (by omega))
  have HL:=hid (lift_out HM0.out hx)
  have hz:leastZ s x = -1:=by unfold leastZ;rw [hr];rfl
  rw [hz,e]
  have c0:=HB0.out.1
  clear h hx hr hz e hin
  go_enter Tryz.func120,Tryz.ntmps120
  go_wp2_with fail
  refine HL.out.mono ?_
  rintro e w1 ⟨rfl,rfl⟩
  go_wp2
  go_ret
  exact ⟨rfl,HE.out⟩
 obtain ⟨y,rfl⟩:∃ y:Nat,x=(y:Int):=⟨x.toNat,by omega⟩
 have hy:y<s.v.length:=by omega
 have hyi:(y:Int)<(s.v.length:Int):=hx.2
 have hy0:(0:Int)≤(y:Int):=hx.1
 have HL:=hid (lift_tp (s:=s) HM0.out h.inv hy)
 have HZ:=hid (fun (v:Nat) (m:Int) (hd:DLe (Ne.amt s.v) m (s.r y) v) (hm:∀ q∈s.r y,m≤Ne.amt s.v q)=>least_dle (s:=s) hd hm)
 have HH:=hid (fun w2 w3 c1 M1 I1 P1 D1 t ho2 t2=>h.two' (w2:=w2) (w3:=w3) hBw HO0.out (y:=y) (c1:=c1) (M1:=M1) (I1:=I1) (P1:=P1) (D1:=D1) (FF:=F) t ho2 t2)
 have HNB:=hid (show w.heap.size≠p∧w.heap.size≠g from ⟨by omega,by omega⟩)
 have c0:=HB0.out.1
 generalize leastZ s (y:Int)=Z at *
 generalize hW0:(w.alloc (.cells #[.pointer (some ⟨p,0,none⟩)] 159))=W0 at *
 have HW0:=hid hW0
 clear h hx hin hW0 c0
 go_enter Tryz.func120,Tryz.ntmps120
 go_wp2_with fail
 rw [HW0.out]
 refine HL.out.mono ?_
 rintro e w1 ⟨rfl,c1,M1,I1,P1,D1,t1⟩
 have HT:=hid t1
 have b1:=HB0.out.off t1.off (by rintro (e | e);exact HNB.out.1 e;exact HNB.out.2 e)
 have d0:=b1.1
 have n0:=t1.mem.head
 have e1:=t1.mem.cells hy 1 _ rfl
 have hmin:=t1.inv.lo_at hy id t1.cl.2.1
 have hrow:=t1.inv.root_row hy t1.up
 obtain ⟨m,hm⟩:∃ m,m=(M1 y).lo:=⟨_,rfl⟩
 rw [← hm] at e1 hmin
 have in1:=t1.mem.in
 have hM2:=t1.mem.kept ((Below.refl _ w1).alloc (Nat.le_refl _) (.cells #[.int .i64 m] 2))
 have ho1:Off (PG p g) w1 (w1.alloc (.cells #[.int .i64 m] 2)):=(Off.refl _ w1).alloc _
 have b2:=bx_new (w:=w1) rfl (.int .i64 m) 2
 have b1':=b1.off ho1 (by rintro (e | e);exact HNB.out.1 e;exact HNB.out.2 e)
 have HD:=hid (descend_least hM2 t1.inv hy t1.up t1.cl (guide_least (V:=Ne.amt s.v) (m:=m) (top:=y) (b1:=w.heap.size) (b2:=w1.heap.size) HNB.out ⟨by omega,by omega⟩) ⟨b1',b2,⟨[],[],by rw [hrow];simp,by simp⟩,hmin⟩)
 have HO1:=hid ho1
 have HMN:=hid (show ∀ q∈s.r y,m≤Ne.amt s.v q from fun q hq=>hmin.2 q (by rw [← hrow];exact hq))
 have d2:=b1'.1
 clear t1 b1 hm hmin hrow in1 hM2 ho1 b2 b1'
 go_wp2_with fail
 refine HD.out.mono ?_
 rintro e w3 ⟨v,rfl,hdn,hE⟩
 obtain rfl:=HZ.out v m hdn HMN.out
 have HE:=hid (HH.out _ w3 _ _ _ _ _ HT.out (off_pg HO1.out (by obtain ⟨c',M',I',P',D',_,ho,_⟩:=hE;exact ho)) (by
  obtain ⟨c2,M2,I2,P2,D2,t2,_⟩:=tp_of hE
  exact ⟨c2,M2,I2,P2,D2,t2.mem,t2.inv,Nat.le_of_lt t2.lo,t2.hi⟩))
 clear hE hdn
 go_wp2
 go_ret
 exact ⟨rfl,HE.out⟩
theorem dat_c (h:SpO w B F p s lo hi) (hBw:B≤w.heap.size) (x q:Int) :
  Calls Tryz.prog 123 #[.pointer (some ⟨p,0,none⟩),.int .i64 x,.int .i64 q] w fun e w'=>e=.returned (.int .i64 (atZ s x q))∧SpO w' B (Ext F w w') p s (lo+it s x) (hi+2*ac s.v.length)∧Off F w w':=by
 obtain ⟨g,c,M,I,P,D,h⟩:=h.hd
 have HM0:=hid (((h.mem.kept ((Below.refl _ w).alloc (Nat.le_refl _) (.cells #[.pointer (some ⟨p,0,none⟩)] 159))).kept ((Below.refl _ _).alloc (Nat.le_refl _) (.cells #[.int .i64 q] 3))))
 have HO0:=hid (show Off (PG p g) w ((w.alloc (.cells #[.pointer (some ⟨p,0,none⟩)] 159)).alloc (.cells #[.int .i64 q] 3)) from ((Sp.Off.refl _ w).alloc _).alloc _)
 have hsz:(w.alloc (.cells #[.pointer (some ⟨p,0,none⟩)] 159)).heap.size=w.heap.size+1:=by show (w.heap.push _).size=_;simp
 have HB1:=hid (bx_new (w:=w.alloc (.cells #[.pointer (some ⟨p,0,none⟩)] 159)) (b:=w.heap.size+1) hsz.symm (.int .i64 q) 3)
 have HB0:=hid ((bx_new (w:=w) rfl (.pointer (some ⟨p,0,none⟩)) 159).off (F:=fun _=>False) ((Sp.Off.refl _ (w.alloc (.cells #[.pointer (some ⟨p,0,none⟩)] 159))).alloc (.cells #[.int .i64 q] 3)) id)
 have hin:=h.mem.in
 have HNB:=hid (show w.heap.size≠p∧w.heap.size≠g∧w.heap.size+1≠p∧w.heap.size+1≠g from ⟨by omega,by omega,by omega,by omega⟩)
 by_cases hx:0≤x∧x<(s.v.length:Int)
 case neg =>
  as_aux_lemma =>
  have hr:=h.row.2 hx
  have e:it s x=0:=by unfold it;rw [if_pos hr]
  have HE:=hid (h.to hBw (w2:=((w.alloc (.cells #[.pointer (some ⟨p,0,none⟩)] 159)).alloc (.cells #[.int .i64 q] 3)).drew) HM0.out.drew (off_pg HO0.out (off_drew _)) rfl h.inv h.good (k:=0) (by have:=h.lo;omega) (K:=2*ac s.v.length) (by omega))
  have HL:=hid (lift_out HM0.out.drew hx)
  have hz:atZ s x q = -1:=by unfold atZ atL;rw [hr];split <;> simp
  rw [hz,e]
  clear h hx hr hz e hin hsz
  go_enter Tryz.func123,Tryz.ntmps123
  go_wp2_with fail
  generalize ((w.alloc (.cells #[.pointer (some ⟨p,0,none⟩)] 159)).alloc (.cells #[.int .i64 q] 3))=W0 at *
  have hS0:=(show (fun w':World=>w'.cell? ⟨w.heap.size,0,none⟩=some (.pointer (some ⟨p,0,none⟩))∧w'.cell? ⟨w.heap.size+1,0,none⟩=some (.int .i64 q)) W0.drew from ⟨HB0.out.1,HB1.out.1⟩)
  refine Rh.start (S:=(fun w':World=>w'.cell? ⟨w.heap.size,0,none⟩=some (.pointer (some ⟨p,0,none⟩))∧w'.cell? ⟨w.heap.size+1,0,none⟩=some (.int .i64 q))) (by kernel_rfl) ?_
  refine Rh.tp 7 0 hS0 ?_
  refine Rh.tp 8 1 hS0 ?_
  refine Rh.step (i:=2) (by kernel_rfl) rfl fun K' hK'=>?_
  have HK:=hid hK'
  clear hK'
  go_simp
  refine HL.out.mono ?_
  rintro e w1 ⟨rfl,rfl⟩
  have hS1:=hS0
  refine HK.out _ _ ⟨hS1,?_⟩
  clear HK K'
  try simp only [Act.put,Rh.q1,Rh.q2,Rh.q3]
  refine Rh.tp 10 3 hS1 ?_
  refine Rh.tp 11 4 hS1 ?_
  refine Rh.tu 12 5 hS1 ?_
  refine Rh.tu 13 6 hS1 ?_
  refine Rh.tp 14 7 hS1 ?_
  refine Rh.tp 15 8 hS1 ?_
  refine Rh.tu 16 9 hS1 ?_
  refine Rh.tu 17 10 hS1 ?_
  refine Rh.tu 18 11 hS1 ?_
  refine Rh.tu 19 12 hS1 ?_
  refine Rh.tu 20 13 hS1 ?_
  refine Rh.tu 21 14 hS1 ?_
  refine Rh.tu 22 15 hS1 ?_
  refine Rh.tu 23 16 hS1 ?_
  refine Rh.tu 24 17 hS1 ?_
  refine Rh.tu 25 18 hS1 ?_
  refine Rh.tp 26 19 hS1 ?_
  refine Rh.done (by kernel_rfl) ?_ _
  go_wp2
  go_ret
  exact ⟨rfl,HE.out⟩
 obtain ⟨y,rfl⟩:∃ y:Nat,x=(y:Int):=⟨x.toNat,by omega⟩
 have hy:y<s.v.length:=by omega
 have hyi:(y:Int)<(s.v.length:Int):=hx.2
 have hy0:(0:Int)≤(y:Int):=hx.1
 have HL:=hid (lift_tp (s:=s) HM0.out.drew h.inv hy)
 obtain ⟨len,hlen⟩:∃ len,len=(s.r y).length:=⟨_,rfl⟩
 have HLN:=hid hlen
 have HZ:=hid (show (q<0→atZ s (y:Int) q = -1)∧((len:Int)≤q→atZ s (y:Int) q = -1)∧∀ (k v:Nat),q=(k:Int)→(s.r y)[k]? = some v→atZ s (y:Int) q=(v:Int) from by
  unfold atZ atL
  rw [rowZ_nat]
  refine ⟨fun hq=>if_pos hq,fun hq=>?_,fun k v hq hv=>?_⟩
  ·rw [if_neg (by omega),List.getElem?_eq_none (by omega)]
  ·subst hq
   rw [if_neg (by omega),Int.toNat_natCast,hv])
 have HH:=hid (fun w2 w3 c1 M1 I1 P1 D1 t ho2 t2=>h.two' (w1:=((w.alloc (.cells #[.pointer (some ⟨p,0,none⟩)] 159)).alloc (.cells #[.int .i64 q] 3)).drew) (w2:=w2) (w3:=w3) hBw (off_pg HO0.out (off_drew _)) (y:=y) (c1:=c1) (M1:=M1) (I1:=I1) (P1:=P1) (D1:=D1) (FF:=F) t ho2 t2)
 have HEND:=hid (fun (w2 w3:World) c1 M1 I1 P1 D1 (t1:Tp ((w.alloc (.cells #[.pointer (some ⟨p,0,none⟩)] 159)).alloc (.cells #[.int .i64 q] 3)).drew w2 B p g s.v.length s c (c+6*pot I s.v.length) y c1 M1 I1 P1 D1) (v:Nat) (hE:Ended (FB p g (w.heap.size+1)) w2 w3 B p g s.v.length (Ne.amt s.v) s.r M1 I1 y c1 v)=>show SpO w3 B (Ext F w w3) p s (lo+it s (y:Int)) (hi+2*ac s.v.length)∧Off F w w3 from by
  obtain ⟨c2,M2,I2,P2,D2,m2,o2,i2,u2,k2,R2,v2,r2,l2,h2⟩:=hE
  have hl:=log_le (i2.len v2) m2.small
  rw [it_in h t1.lt]
  refine h.to hBw m2 ((off_pg (off_pg HO0.out (off_drew _)) t1.off).trans o2 fun k hk=>?_) rfl i2 h.good (by have:=t1.lo;have:=h.lo;omega) (by have:=t1.hi;unfold ac lg at *;omega)
  rcases hk with hk | hk
  ·exact .inl hk
  ·right;omega)
 have hsm:=h.mem.small
 have hrl:=h.good.len y
 generalize atZ s (y:Int) q=Z at *
 generalize hW0:((w.alloc (.cells #[.pointer (some ⟨p,0,none⟩)] 159)).alloc (.cells #[.int .i64 q] 3))=W0 at *
 have HW0:=hid hW0
 have HCN:=hid (fun (w1:World) (c1:Nat) (M1:Nat→Nd) (I1:Nat→List Nat) (P1:Nat→Bool) (D1:Nat→Int) (t1:Tp W0.drew w1 B p g s.v.length s c (c+6*pot I s.v.length) y c1 M1 I1 P1 D1)=>show (M1 y).c=len from by rw [t1.inv.cnt y hy id,HLN.out,t1.inv.root_row hy t1.up])
 clear h hx hin hsz hlen hW0
 by_cases hq:q<0
 ·as_aux_lemma =>
  have hz:=HZ.out.1 hq
  subst hz
  clear HZ
  go_enter Tryz.func123,Tryz.ntmps123
  go_wp2_with fail
  rw [HW0.out]
  have hS0:=(show (fun w':World=>w'.cell? ⟨w.heap.size,0,none⟩=some (.pointer (some ⟨p,0,none⟩))∧w'.cell? ⟨w.heap.size+1,0,none⟩=some (.int .i64 q)) W0.drew from ⟨HB0.out.1,HB1.out.1⟩)
  refine Rh.start (S:=(fun w':World=>w'.cell? ⟨w.heap.size,0,none⟩=some (.pointer (some ⟨p,0,none⟩))∧w'.cell? ⟨w.heap.size+1,0,none⟩=some (.int .i64 q))) (by kernel_rfl) ?_
  refine Rh.tp 7 0 hS0 ?_
  refine Rh.tp 8 1 hS0 ?_
  refine Rh.step (i:=2) (by kernel_rfl) rfl fun K' hK'=>?_
  have HK:=hid hK'
  clear hK'
  go_simp
  refine HL.out.mono ?_
  rintro e w1 ⟨rfl,c1,M1,I1,P1,D1,t1⟩
  have HT:=hid t1
  have hS1:=(show (fun w':World=>w'.cell? ⟨w.heap.size,0,none⟩=some (.pointer (some ⟨p,0,none⟩))∧w'.cell? ⟨w.heap.size+1,0,none⟩=some (.int .i64 q)) w1 from ⟨(HB0.out.drew.off t1.off (by rintro (e | e);exact HNB.out.1 e;exact HNB.out.2.1 e)).1,(HB1.out.drew.off t1.off (by rintro (e | e);exact HNB.out.2.2.1 e;exact HNB.out.2.2.2 e)).1⟩)
  have n0:=t1.mem.head
  have c3:=t1.mem.cells hy 3 _ rfl
  rw [HCN.out _ _ _ _ _ _ t1] at c3
  clear t1
  refine HK.out _ _ ⟨hS1,?_⟩
  clear HK K'
  try simp only [Act.put,Rh.q1,Rh.q2,Rh.q3]
  refine Rh.tp 10 3 hS1 ?_
  refine Rh.tp 11 4 hS1 ?_
  refine Rh.tp 12 5 hS1 ?_
  refine Rh.tp 13 6 hS1 ?_
  refine Rh.tp 14 7 hS1 ?_
  refine Rh.tp 15 8 hS1 ?_
  refine Rh.tu 16 9 hS1 ?_
  refine Rh.tu 17 10 hS1 ?_
  refine Rh.tu 18 11 hS1 ?_
  refine Rh.tu 19 12 hS1 ?_
  refine Rh.tu 20 13 hS1 ?_
  refine Rh.tu 21 14 hS1 ?_
  refine Rh.tu 22 15 hS1 ?_
  refine Rh.tu 23 16 hS1 ?_
  refine Rh.tu 24 17 hS1 ?_
  refine Rh.tu 25 18 hS1 ?_
  refine Rh.tp 26 19 hS1 ?_
  refine Rh.done (by kernel_rfl) ?_ _
  have HE:=hid (HH.out w1 w1 _ _ _ _ _ HT.out (Off.refl _ _) ⟨_,_,_,_,_,HT.out.mem,HT.out.inv,Nat.le_refl _,by omega⟩)
  go_wp2
  go_ret
  exact ⟨rfl,HE.out⟩
 ·have hq0:(0:Int)≤q:=by omega
  have hqd:decide (q<0)=false:=by simpa using hq0
  have hqn:¬ q<0:=hq
  clear hq
  by_cases hql:(len:Int)≤q
  ·as_aux_lemma =>
   have hz:=HZ.out.2.1 hql
   subst hz
   clear HZ
   go_enter Tryz.func123,Tryz.ntmps123
   go_wp2_with fail
   rw [HW0.out]
   have hS0:=(show (fun w':World=>w'.cell? ⟨w.heap.size,0,none⟩=some (.pointer (some ⟨p,0,none⟩))∧w'.cell? ⟨w.heap.size+1,0,none⟩=some (.int .i64 q)) W0.drew from ⟨HB0.out.1,HB1.out.1⟩)
   refine Rh.start (S:=(fun w':World=>w'.cell? ⟨w.heap.size,0,none⟩=some (.pointer (some ⟨p,0,none⟩))∧w'.cell? ⟨w.heap.size+1,0,none⟩=some (.int .i64 q))) (by kernel_rfl) ?_
   refine Rh.tp 7 0 hS0 ?_
   refine Rh.tp 8 1 hS0 ?_
   refine Rh.step (i:=2) (by kernel_rfl) rfl fun K' hK'=>?_
   have HK:=hid hK'
   clear hK'
   go_simp
   refine HL.out.mono ?_
   rintro e w1 ⟨rfl,c1,M1,I1,P1,D1,t1⟩
   have HT:=hid t1
   have hS1:=(show (fun w':World=>w'.cell? ⟨w.heap.size,0,none⟩=some (.pointer (some ⟨p,0,none⟩))∧w'.cell? ⟨w.heap.size+1,0,none⟩=some (.int .i64 q)) w1 from ⟨(HB0.out.drew.off t1.off (by rintro (e | e);exact HNB.out.1 e;exact HNB.out.2.1 e)).1,(HB1.out.drew.off t1.off (by rintro (e | e);exact HNB.out.2.2.1 e;exact HNB.out.2.2.2 e)).1⟩)
   have n0:=t1.mem.head
   have c3:=t1.mem.cells hy 3 _ rfl
   rw [HCN.out _ _ _ _ _ _ t1] at c3
   clear t1
   refine HK.out _ _ ⟨hS1,?_⟩
   clear HK K'
   try simp only [Act.put,Rh.q1,Rh.q2,Rh.q3]
   refine Rh.tp 10 3 hS1 ?_
   refine Rh.tp 11 4 hS1 ?_
   refine Rh.tp 12 5 hS1 ?_
   refine Rh.tp 13 6 hS1 ?_
   refine Rh.tp 14 7 hS1 ?_
   refine Rh.tp 15 8 hS1 ?_
   refine Rh.tp 16 9 hS1 ?_
   refine Rh.tp 17 10 hS1 ?_
   refine Rh.tp 18 11 hS1 ?_
   refine Rh.tp 19 12 hS1 ?_
   refine Rh.tp 21 14 hS1 ?_
   refine Rh.step (i:=13) (by kernel_rfl) rfl fun K' hK'=>?_
   have HK:=hid hK'
   clear hK'
   go_simp
   refine HK.out _ _ ⟨hS1,?_⟩
   clear HK K'
   try simp only [Act.put,Rh.q1,Rh.q2,Rh.q3]
   refine Rh.tp 22 15 hS1 ?_
   refine Rh.tp 23 16 hS1 ?_
   refine Rh.step (i:=17) (by kernel_rfl) rfl fun K' hK'=>?_
   have HK:=hid hK'
   clear hK'
   go_simp
   refine HK.out _ _ ⟨hS1,?_⟩
   clear HK K'
   try simp only [Act.put,Rh.q1,Rh.q2,Rh.q3]
   refine Rh.tp 25 18 hS1 ?_
   refine Rh.tp 26 19 hS1 ?_
   refine Rh.done (by kernel_rfl) ?_ _
   have HE:=hid (HH.out w1 w1 _ _ _ _ _ HT.out (Off.refl _ _) ⟨_,_,_,_,_,HT.out.mem,HT.out.inv,Nat.le_refl _,by omega⟩)
   go_wp2
   go_ret
   exact ⟨rfl,HE.out⟩
  ·obtain ⟨k,rfl⟩:∃ k:Nat,q=(k:Int):=⟨q.toNat,by omega⟩
   go_enter Tryz.func123,Tryz.ntmps123
   go_wp2_with fail
   rw [HW0.out]
   have hS0:=(show (fun w':World=>w'.cell? ⟨w.heap.size,0,none⟩=some (.pointer (some ⟨p,0,none⟩))∧w'.cell? ⟨w.heap.size+1,0,none⟩=some (.int .i64 (k:Int))) W0.drew from ⟨HB0.out.1,HB1.out.1⟩)
   refine Rh.start (S:=(fun w':World=>w'.cell? ⟨w.heap.size,0,none⟩=some (.pointer (some ⟨p,0,none⟩))∧w'.cell? ⟨w.heap.size+1,0,none⟩=some (.int .i64 (k:Int)))) (by kernel_rfl) ?_
   refine Rh.tp 7 0 hS0 ?_
   refine Rh.tp 8 1 hS0 ?_
   refine Rh.step (i:=2) (by kernel_rfl) rfl fun K' hK'=>?_
   have HK:=hid hK'
   clear hK'
   go_simp
   refine HL.out.mono ?_
   rintro e w1 ⟨rfl,c1,M1,I1,P1,D1,t1⟩
   have HT:=hid t1
   have hS1:=(show (fun w':World=>w'.cell? ⟨w.heap.size,0,none⟩=some (.pointer (some ⟨p,0,none⟩))∧w'.cell? ⟨w.heap.size+1,0,none⟩=some (.int .i64 (k:Int))) w1 from ⟨(HB0.out.drew.off t1.off (by rintro (e | e);exact HNB.out.1 e;exact HNB.out.2.1 e)).1,(HB1.out.drew.off t1.off (by rintro (e | e);exact HNB.out.2.2.1 e;exact HNB.out.2.2.2 e)).1⟩)
   have n0:=t1.mem.head
   have c3:=t1.mem.cells hy 3 _ rfl
   rw [HCN.out _ _ _ _ _ _ t1] at c3
   clear t1
   refine HK.out _ _ ⟨hS1,?_⟩
   clear HK K'
   try simp only [Act.put,Rh.q1,Rh.q2,Rh.q3]
   refine Rh.tp 10 3 hS1 ?_
   refine Rh.tp 11 4 hS1 ?_
   refine Rh.tp 12 5 hS1 ?_
   refine Rh.tp 13 6 hS1 ?_
   refine Rh.tp 14 7 hS1 ?_
   refine Rh.tp 15 8 hS1 ?_
   refine Rh.tp 16 9 hS1 ?_
   refine Rh.tp 17 10 hS1 ?_
   refine Rh.tp 18 11 hS1 ?_
   refine Rh.tp 19 12 hS1 ?_
   refine Rh.tp 21 14 hS1 ?_
   refine Rh.step (i:=13) (by kernel_rfl) rfl fun K' hK'=>?_
   have HK:=hid hK'
   clear hK'
   go_simp
   refine HK.out _ _ ⟨hS1,?_⟩
   clear HK K'
   try simp only [Act.put,Rh.q1,Rh.q2,Rh.q3]
   refine Rh.tp 22 15 hS1 ?_
   refine Rh.tp 23 16 hS1 ?_
   refine Rh.step (i:=17) (by kernel_rfl) rfl fun K' hK'=>?_
   have HK:=hid hK'
   clear hK'
   go_simp
   refine HK.out _ _ ⟨hS1,?_⟩
   clear HK K'
   try simp only [Act.put,Rh.q1,Rh.q2,Rh.q3]
   refine Rh.tp 25 18 hS1 ?_
   refine Rh.tp 26 19 hS1 ?_
   refine Rh.done (by kernel_rfl) ?_ _
   have t1:=HT.out
   have b1:=HB0.out.drew.off t1.off (by rintro (e | e);exact HNB.out.1 e;exact HNB.out.2.1 e)
   have b2:=HB1.out.drew.off t1.off (by rintro (e | e);exact HNB.out.2.2.1 e;exact HNB.out.2.2.2 e)
   have hrow:=t1.inv.root_row hy t1.up
   have hlt:k<(I1 y).length:=by rw [← hrow,← HLN.out];omega
   have HD:=hid (descend_at t1.mem t1.inv hy t1.up t1.cl (guide_at (top:=y) (b1:=w.heap.size) (b2:=w.heap.size+1) (place:=k) ⟨HNB.out.1,HNB.out.2.1⟩ ⟨HNB.out.2.2.1,HNB.out.2.2.2⟩ (by omega)) ⟨b1,k,b2,hlt,[],[],by rw [hrow];simp,by simp⟩)
   have d1:=b1.1
   clear t1 b1 b2 hrow hlt
   go_wp2_with fail
   refine HD.out.mono ?_
   rintro e w3 ⟨v,rfl,hdn,hE⟩
   obtain rfl:=HZ.out.2.2 k v rfl hdn
   have HE:=hid (HEND.out _ w3 _ _ _ _ _ HT.out v hE)
   clear hE hdn
   go_wp2
   go_ret
   exact ⟨rfl,HE.out⟩
end
end Sp
end Go.Proofs.YthhlfphnokdfaaaGreat
namespace Go.Proofs.YthhlfphnokdfaaaGreat
open Go.ChangeShapes Go.WideShapes Go.ChangeAt Go.RowKit
open Lib (hid)
namespace Sp
open Sv
theorem beyond_in (x:Int) (hx:-4611686018427387904≤x∧x≤4611686018427387904) (w:World) :
  Calls Tryz.prog 115 #[.int .i64 x] w fun e w'=>e=.returned (.bool false)∧w=w':=by
 obtain ⟨h1,h2⟩:=hx
 have h3:¬ x < -4611686018427387904:=by omega
 have h4:¬ 4611686018427387904<x:=by omega
 have h5:decide (x < -4611686018427387904)=false:=by simpa using h3
 have h6:decide (4611686018427387904<x)=false:=by simpa using h4
 go_enter Tryz.func115,Tryz.ntmps115
 go_wp2
 go_ret
 exact ⟨rfl,rfl⟩
theorem beyond_out (x:Int) (hx:x < -4611686018427387904∨4611686018427387904<x) (w:World) :
  Calls Tryz.prog 115 #[.int .i64 x] w fun e w'=>e=.returned (.bool true)∧w=w':=by
 by_cases h3:x < -4611686018427387904
 ·clear hx
  go_enter Tryz.func115,Tryz.ntmps115
  go_wp2
  go_ret
  exact ⟨rfl,rfl⟩
 ·have h4:4611686018427387904<x:=by omega
  have h5:decide (x < -4611686018427387904)=false:=by simpa using h3
  clear hx
  go_enter Tryz.func115,Tryz.ntmps115
  go_wp2
  go_ret
  exact ⟨rfl,rfl⟩
section
variable {w w1 w2 w3 w4:World} {B p lo hi g c:Nat} {F:Nat→Prop} {s:St} {M:Nat→Nd} {I:Nat→List Nat} {P:Nat→Bool} {D:Nat→Int}
def okA (m d:Int):Prop:=-4611686018427387904≤m+d∧m+d≤4611686018427387904
instance (m d:Int):Decidable (okA m d):=by unfold okA;infer_instance
theorem ok_one {m1 m2 d:Int} (h:okA m1 d):∀ k:Nat,k<1→if k=0 then okA m1 d else okA m2 d:=fun k hk=>by
 obtain rfl:k=0:=by omega
 exact h
theorem ok_two {m1 m2 d:Int} (h0:∀ k:Nat,k<1→if k=0 then okA m1 d else okA m2 d) (h:okA m2 d):∀ k:Nat,k<2→if k=0 then okA m1 d else okA m2 d:=fun k hk=>by
 obtain rfl | rfl:k=0∨k=1:=by omega
 ·exact h0 0 (by omega)
 ·exact h
theorem addS_miss {x d:Int} (h:rowZ s x=[]):addE s x d=4∧addS s x d=s:=by
 have e:addE s x d=4:=by unfold addE;rw [if_pos h]
 exact ⟨e,by unfold addS;rw [if_neg (by rw [e];decide)]⟩
section
variable {y c1:Nat} {M1:Nat→Nd} {I1:Nat→List Nat} {P1:Nat→Bool} {D1:Nat→Int}
theorem Tp.adds (h:Hd w B F p s lo hi g c M I P D) {n K:Nat} (t:Tp w w1 B p g s.v.length s c K y c1 M1 I1 P1 D1) (d:Int):addE s (y:Int) d=if okA (M1 y).lo d∧okA (M1 y).hi d then 0 else 3:=by
 have hlo:=t.inv.lo_at t.lt id t.cl.2.1
 have hhi:=t.inv.hi_at t.lt id t.cl.2.1
 rw [← t.inv.root_row t.lt t.up] at hlo hhi
 have hne:rowZ s (y:Int)≠[]:=fun e=>by have:=h.row.1 e;have:=t.lt;omega
 unfold addE
 rw [if_neg hne,rowZ_nat]
 have hb:∀ i∈s.r y,-big≤Ne.amt s.v i∧Ne.amt s.v i≤big:=fun i hi=>h.good.bnd i (h.good.lt y i hi)
 congr 1
 apply propext
 constructor
 ·intro hf
  obtain ⟨i,hi,ei⟩:=hlo.1
  obtain ⟨j,hj,ej⟩:=hhi.1
  have h1:=(fits_iff _ d (hb i hi)).1 (hf i hi)
  have h2:=(fits_iff _ d (hb j hj)).1 (hf j hj)
  rw [ei] at h1
  rw [ej] at h2
  exact ⟨h1,h2⟩
 ·rintro ⟨h1,h2⟩ i hi
  refine (fits_iff _ d (hb i hi)).2 ?_
  have g1:=hlo.2 i hi
  have g2:=hhi.2 i hi
  unfold okA at h1 h2
  unfold big
  omega
theorem Hd.unadded (h:Hd w B F p s lo hi g c M I P D) (hB:B≤w.heap.size) (t:Tp w w1 B p g s.v.length s c (c+6*pot I s.v.length) y c1 M1 I1 P1 D1) {d:Int} (hM:SpM w2 B p g s.v.length M1 c1) (ho:Off (PG p g) w1 w2) (he:addE s (y:Int) d≠0) :
  SpO w2 B (Ext F w w2) p (addS s (y:Int) d) (lo+it s (y:Int)) (hi+ac s.v.length)∧Off F w w2:=by
 have e:addS s (y:Int) d=s:=by unfold addS;rw [if_neg he]
 rw [e,it_in h t.lt]
 exact h.to hB hM (off_pg t.off ho) rfl t.inv h.good (by have:=t.lo;have:=h.lo;omega) (by have:=t.hi;unfold ac;omega)
theorem Hd.added (h:Hd w B F p s lo hi g c M I P D) (hB:B≤w.heap.size) (t:Tp w w1 B p g s.v.length s c (c+6*pot I s.v.length) y c1 M1 I1 P1 D1) {d:Int} (ho:Off (PG p g) w1 w2) (he:addE s (y:Int) d=0) (hM:SpA w2 w3 B p g s.v.length (upd M1 y (handN (M1 y) false d)) c1) :
  SpO w3 B (Ext F w w3) p (addS s (y:Int) d) (lo+it s (y:Int)) (hi+ac s.v.length)∧Off F w w3:=by
 have hG:=good_add h.good (y:Int) d
 have e:addS s (y:Int) d=⟨addL s.v (rowZ s (y:Int)) d,s.r⟩:=by unfold addS;rw [if_pos he]
 rw [e] at hG ⊢
 rw [it_in h t.lt]
 refine h.to hB (s2:=⟨addL s.v (rowZ s (y:Int)) d,s.r⟩) hM.toSpM (off_pg t.off (off_pg ho hM.off)) (addL_len _ _ _) (add_inv (d:=d) t.inv t.lt t.up (fun z hz=>?_) (fun z hz=>?_)) hG (by have:=t.lo;have:=h.lo;omega) (by have:=t.hi;unfold ac;omega)
 ·show Ne.amt (addL s.v (rowZ s (y:Int)) d) z=_
  rw [addL_at hz,rowZ_nat]
 ·exact hG.bnd z (by show z<(addL s.v (rowZ s (y:Int)) d).length;rw [addL_len];exact hz)
end
theorem dadd_c (h:SpO w B F p s lo hi) (hBw:B≤w.heap.size) (x d:Int) (hd:-9223372036854775808≤d∧d≤9223372036854775807) :
  Calls Tryz.prog 122 #[.pointer (some ⟨p,0,none⟩),.int .i64 x,.int .i64 d] w fun e w'=>e=.returned (.int .i64 (addE s x d))∧SpO w' B (Ext F w w') p (addS s x d) (lo+it s x) (hi+ac s.v.length)∧Off F w w':=by
 obtain ⟨g,c,M,I,P,D,h⟩:=h.hd
 by_cases hx:0≤x∧x<(s.v.length:Int)
 case neg =>
  have hm:=h.miss hBw hx (ac s.v.length)
  have HE:=hid hm.1
  have HL:=hid (lift_out h.mem hx)
  have hz:addE s x d=4:=by exact (addS_miss hm.2).1
  rw [hz,(addS_miss hm.2).2]
  clear h hx hm hz
  go_enter Tryz.func122,Tryz.ntmps122
  go_wp2_with fail
  refine HL.out.mono ?_
  rintro e w1 ⟨rfl,rfl⟩
  go_wp2
  go_ret
  exact ⟨rfl,HE.out⟩
 obtain ⟨y,rfl⟩:∃ y:Nat,x=(y:Int):=⟨x.toNat,by omega⟩
 have hy:y<s.v.length:=by omega
 have hyi:(y:Int)<(s.v.length:Int):=hx.2
 have hy0:(0:Int)≤(y:Int):=hx.1
 have HL:=hid (h.lift hy)
 clear hx
 have HH:=hid h
 clear h
 go_enter Tryz.func122,Tryz.ntmps122
 go_wp2_with fail
 refine HL.out.mono ?_
 rintro e w1 ⟨rfl,c1,M1,I1,P1,D1,t1⟩
 have n0:=t1.mem.head
 have e1:=t1.mem.cells hy 1 _ rfl
 have e2:=t1.mem.cells hy 2 _ rfl
 have hae:=t1.adds (n:=0) HH.out d
 obtain ⟨m1,hm1⟩:∃ m,m=(M1 y).lo:=⟨_,rfl⟩
 obtain ⟨m2,hm2⟩:∃ m,m=(M1 y).hi:=⟨_,rfl⟩
 have hbd:(-4611686018427387904≤m1∧m1≤4611686018427387904)∧(-4611686018427387904≤m2∧m2≤4611686018427387904):=by
  rw [hm1,hm2]
  exact ⟨min_bnd (t1.inv.lo_at hy id t1.cl.2.1) (t1.inv.lt y hy) t1.inv.bnd,max_bnd (t1.inv.hi_at hy id t1.cl.2.1) (t1.inv.lt y hy) t1.inv.bnd⟩
 rw [← hm1,← hm2] at hae
 rw [← hm1] at e1
 rw [← hm2] at e2
 have HM:=hid hbd
 have hML:=(t1.mem.kept ((Below.refl _ w1).alloc (Nat.le_refl _) (.cells #[.int .i64 m1,.int .i64 m2] 2))).drew
 have hOL:Off (PG p g) w1 (w1.alloc (.cells #[.int .i64 m1,.int .i64 m2] 2)).drew:=off_pg ((Off.refl _ w1).alloc _) (off_drew _)
 have hcl:(w1.alloc (.cells #[.int .i64 m1,.int .i64 m2] 2)).drew.cell? ⟨w1.heap.size,0,none⟩=some (.int .i64 m1)∧(w1.alloc (.cells #[.int .i64 m1,.int .i64 m2] 2)).drew.cell? ⟨w1.heap.size,1,none⟩=some (.int .i64 m2):=by
  have e:(w1.alloc (.cells #[.int .i64 m1,.int .i64 m2] 2)).drew.heap[w1.heap.size]? = some (.cells #[.int .i64 m1,.int .i64 m2] 2):=by show (w1.heap.push _)[w1.heap.size]? = _;simp
  refine ⟨?_,?_⟩
  ·simp only [World.cell?];rw [e];rfl
  ·simp only [World.cell?];rw [e];rfl
 have HC:=hid hcl
 have HBAD:=hid (fun (hn:¬ (okA m1 d∧okA m2 d))=>show addE s (y:Int) d=3∧_ from ⟨by rw [hae,if_neg hn],HH.out.unadded hBw t1 hML hOL (d:=d) (by rw [hae,if_neg hn];decide)⟩)
 have HGOOD:=hid (fun (hn:okA m1 d∧okA m2 d) (w3:World) hM=>show addE s (y:Int) d=0∧_ from ⟨by rw [hae,if_pos hn],HH.out.added (w3:=w3) hBw t1 hOL (d:=d) (by rw [hae,if_pos hn]) hM⟩)
 have HBAD2:=hid (fun (hn:okA m1 d∧okA m2 d)=>show addE s (y:Int) d=0 from by rw [hae,if_pos hn])
 have HADD:=hid (Sv.add_any hML hy d)
 clear t1 hae hm1 hm2 hbd hML hOL hcl
 go_wp2_with fail
 have hS0:=(show (fun w':World=>w'.cell? ⟨p,0,none⟩=some (.slice (some ⟨g,0,none⟩) s.v.length s.v.length)∧w'.cell? ⟨g,y*9+1,none⟩=some (.int .i64 m1)∧w'.cell? ⟨g,y*9+2,none⟩=some (.int .i64 m2)) w1.drew from ⟨n0,e1,e2⟩)
 refine Rh.start (S:=(fun w':World=>w'.cell? ⟨p,0,none⟩=some (.slice (some ⟨g,0,none⟩) s.v.length s.v.length)∧w'.cell? ⟨g,y*9+1,none⟩=some (.int .i64 m1)∧w'.cell? ⟨g,y*9+2,none⟩=some (.int .i64 m2))) (by kernel_rfl) ?_
 refine Rh.tp 15 0 hS0 ?_
 refine Rh.tp 16 1 hS0 ?_
 refine Rh.tp 17 2 hS0 ?_
 refine Rh.tp 18 3 hS0 ?_
 refine Rh.tp 19 4 hS0 ?_
 refine Rh.tp 20 5 hS0 ?_
 refine Rh.tp 21 6 hS0 ?_
 refine Rh.tp 22 7 hS0 ?_
 refine Rh.tp 23 8 hS0 ?_
 refine Rh.tp 24 9 hS0 ?_
 refine Rh.tp 25 10 hS0 ?_
 refine Rh.tp 26 11 hS0 ?_
 refine Rh.tp 27 12 hS0 ?_
 refine Rh.tp 28 13 hS0 ?_
 refine Rh.tp 29 14 hS0 ?_
 refine Rh.tp 30 15 hS0 ?_
 refine Rh.tp 33 18 hS0 ?_
 refine Rh.step (i:=16) (by kernel_rfl) rfl fun K' hK'=>?_
 have HK:=hid hK'
 clear hK'
 go_simp
 refine HK.out _ _ ⟨(show (fun w':World=>w'.cell? ⟨p,0,none⟩=some (.slice (some ⟨g,0,none⟩) s.v.length s.v.length)∧w'.cell? ⟨g,y*9+1,none⟩=some (.int .i64 m1)∧w'.cell? ⟨g,y*9+2,none⟩=some (.int .i64 m2)) (w1.alloc (.cells #[.int .i64 m1,.int .i64 m2] 2)).drew from ⟨Ne.held_new n0,Ne.held_new e1,Ne.held_new e2⟩),?_⟩
 clear HK K'
 try simp only [Act.put,Rh.q1,Rh.q2,Rh.q3]
 refine Rh.tk (some 32) (i:=17) (v:=?_) rfl (Or.inl ⟨by rfl,?_⟩) (show (fun w':World=>w'.cell? ⟨p,0,none⟩=some (.slice (some ⟨g,0,none⟩) s.v.length s.v.length)∧w'.cell? ⟨g,y*9+1,none⟩=some (.int .i64 m1)∧w'.cell? ⟨g,y*9+2,none⟩=some (.int .i64 m2)) (w1.alloc (.cells #[.int .i64 m1,.int .i64 m2] 2)).drew from ⟨Ne.held_new n0,Ne.held_new e1,Ne.held_new e2⟩) ?_
 rotate_left
 ·intro w hSw
  go_simp
  try with_reducible rfl
 try simp only [Act.put,Rh.q1,Rh.q2,Rh.q3]
 refine Rh.done (by kernel_rfl) ?_ _
 generalize hWL:(w1.alloc (.cells #[.int .i64 m1,.int .i64 m2] 2)).drew=WL at *
 clear n0 e1 e2 hWL
 go_wp2
 go_loopg [33] 2 (fun gg si wr=>∃ i:Nat,si=.int .i64 i∧i+gg=2∧WL=wr∧Hid (∀ k,k<i→if k=0 then okA m1 d else okA m2 d))
 case atStart=>exact ⟨0,rfl,by omega,rfl,hid (fun k hk=>absurd hk (by omega))⟩
 case round =>
   obtain ⟨i,rfl,hig,rfl,HOKS⟩:=hrel
   obtain rfl | rfl | rfl:i=0∨i=1∨i=2:=by omega
   ·have hcd:=HC.out.1
    by_cases hok:okA m1 d
    ·have hb:=hid (beyond_in (m1+d) hok WL)
     have hadd:=Num.add_any m1 d WL (by have:=HM.out.1;omega) (by have:=HM.out.1;omega) hd.1 hd.2
     rw [Num.valV_in (by unfold okA at hok;omega) (by unfold okA at hok;omega),Num.valE_in (by unfold okA at hok;omega) (by unfold okA at hok;omega)] at hadd
     have HAD:=hid hadd
     have HOK:=hid hok
     clear hadd hok
     generalize m1+d=md at *
     go_wp2_with fail
     refine HAD.out.mono ?_
     rintro e wz ⟨rfl,rfl⟩
     go_wp2_with fail
     refine hb.out.mono ?_
     rintro e wz ⟨rfl,rfl⟩
     go_wp2
     go_roundg 1
     case measure=>omega
     case rel=>exact ⟨1,by rfl,by omega,rfl,hid (ok_one HOK.out)⟩
    ·have hbad:=HBAD.out (fun c=>hok c.1)
     have HE:=hid hbad.2
     have HZ:=hid hbad.1
     clear hbad
     by_cases hin:-9223372036854775808≤m1+d∧m1+d≤9223372036854775807
     ·have hb:=hid (beyond_out (m1+d) (by unfold okA at hok;omega) WL)
      have hadd:=Num.add_any m1 d WL (by have:=HM.out.1;omega) (by have:=HM.out.1;omega) hd.1 hd.2
      rw [Num.valV_in hin.1 hin.2,Num.valE_in hin.1 hin.2] at hadd
      have HAD:=hid hadd
      clear hadd hok hin
      generalize m1+d=md at *
      go_wp2_with fail
      refine HAD.out.mono ?_
      rintro e wz ⟨rfl,rfl⟩
      go_wp2_with fail
      refine hb.out.mono ?_
      rintro e wz ⟨rfl,rfl⟩
      go_wp2
      go_ret
      exact ⟨by rw [HZ.out];first | done | rfl,HE.out⟩
     ·have hadd:=Num.add_any m1 d WL (by have:=HM.out.1;omega) (by have:=HM.out.1;omega) hd.1 hd.2
      rw [Num.valE_out (by omega)] at hadd
      have HAD:=hid hadd
      clear hadd hok hin
      generalize Num.valV (m1+d)=md at *
      go_wp2_with fail
      refine HAD.out.mono ?_
      rintro e wz ⟨rfl,rfl⟩
      go_wp2
      go_ret
      exact ⟨by rw [HZ.out];first | done | rfl,HE.out⟩
   ·have hcd:=HC.out.2
    by_cases hok:okA m2 d
    ·have hb:=hid (beyond_in (m2+d) hok WL)
     have hadd:=Num.add_any m2 d WL (by have:=HM.out.2;omega) (by have:=HM.out.2;omega) hd.1 hd.2
     rw [Num.valV_in (by unfold okA at hok;omega) (by unfold okA at hok;omega),Num.valE_in (by unfold okA at hok;omega) (by unfold okA at hok;omega)] at hadd
     have HAD:=hid hadd
     have HOK:=hid hok
     clear hadd hok
     generalize m2+d=md at *
     go_wp2_with fail
     refine HAD.out.mono ?_
     rintro e wz ⟨rfl,rfl⟩
     go_wp2_with fail
     refine hb.out.mono ?_
     rintro e wz ⟨rfl,rfl⟩
     go_wp2
     go_roundg 0
     case measure=>omega
     case rel=>exact ⟨2,by rfl,by omega,rfl,hid (ok_two HOKS.out HOK.out)⟩
    ·have hbad:=HBAD.out (fun c=>hok c.2)
     have HE:=hid hbad.2
     have HZ:=hid hbad.1
     clear hbad
     by_cases hin:-9223372036854775808≤m2+d∧m2+d≤9223372036854775807
     ·have hb:=hid (beyond_out (m2+d) (by unfold okA at hok;omega) WL)
      have hadd:=Num.add_any m2 d WL (by have:=HM.out.2;omega) (by have:=HM.out.2;omega) hd.1 hd.2
      rw [Num.valV_in hin.1 hin.2,Num.valE_in hin.1 hin.2] at hadd
      have HAD:=hid hadd
      clear hadd hok hin
      generalize m2+d=md at *
      go_wp2_with fail
      refine HAD.out.mono ?_
      rintro e wz ⟨rfl,rfl⟩
      go_wp2_with fail
      refine hb.out.mono ?_
      rintro e wz ⟨rfl,rfl⟩
      go_wp2
      go_ret
      exact ⟨by rw [HZ.out];first | done | rfl,HE.out⟩
     ·have hadd:=Num.add_any m2 d WL (by have:=HM.out.2;omega) (by have:=HM.out.2;omega) hd.1 hd.2
      rw [Num.valE_out (by omega)] at hadd
      have HAD:=hid hadd
      clear hadd hok hin
      generalize Num.valV (m2+d)=md at *
      go_wp2_with fail
      refine HAD.out.mono ?_
      rintro e wz ⟨rfl,rfl⟩
      go_wp2
      go_ret
      exact ⟨by rw [HZ.out];first | done | rfl,HE.out⟩
   ·have hg:okA m1 d∧okA m2 d:=⟨HOKS.out 0 (by omega),HOKS.out 1 (by omega)⟩
    have hz:addE s (y:Int) d=0:=(HBAD2.out hg)
    have HZ:=hid hz
    clear hz
    go_wp2_with fail
    refine HADD.out.mono ?_
    rintro e w3 ⟨rfl,hA⟩
    have HE:=hid (HGOOD.out hg _ hA).2
    clear hA
    go_wp2
    go_ret
    exact ⟨by rw [HZ.out];first | done | rfl,HE.out⟩
end
end Sp
end Go.Proofs.YthhlfphnokdfaaaGreat
namespace Go.Proofs.YthhlfphnokdfaaaGreat
open Go.ChangeShapes Go.WideShapes Go.ChangeAt Go.RowKit
open Lib (hid)
namespace Sv
abbrev zV:Array Value:=#[.int .i64 0,.int .i64 0,.int .i64 0,.int .i64 0,.int .i64 0,.int .i64 0,.int .i64 0,.bool false,.int .i64 0]
theorem infoN:(Tryz.prog.info? 176).map (fun i=>(i.zero.map Value.cells,i.size,i.bytes))=some (some zV,9,72):=by kernel_rfl
theorem make_n (n:Nat) (h:n≤1000000) (w:World):(Instr.makeSlice 170 (.int .i64 (n:Int)) (.int .i64 (n:Int))).run Tryz.prog w=.ok (.slice (some ⟨w.heap.size,0,none⟩) n n) (w.alloc (.cells (madeCells zV (n*9)) 176)):=by
 obtain ⟨i,hi,hzz⟩:=Option.map_eq_some_iff.1 infoN
 simp only [Prod.mk.injEq] at hzz
 obtain ⟨hz,hs,hb⟩:=hzz
 obtain ⟨z,hz1,hz2⟩:=Option.map_eq_some_iff.1 hz
 have:=run_make (P:=Tryz.prog) w 170 176 i z Tryz.underlying170 hi hz1 .i64 .i64 n n (by omega) (Int.le_refl _) (by rw [hb];omega) (by omega)
 rw [hz2,hs,Int.toNat_natCast] at this
 exact this
def zN:Nd:=⟨0,0,0,0,some 0,fun _=>some 0,false,0⟩
def iN (v:Int):Nd:=⟨v,v,v,1,none,fun _=>none,false,0⟩
theorem encZ:encN zN=zV.toList:=by simp [encN,zN,oi]
theorem made_flat (n:Nat):(lst n (fun _=>zN)).flatMap encN=(madeCells zV (n*9)).toList:=by
 have hl:((lst n (fun _=>zN)).flatMap encN).length=n*9:=by
  unfold lst
  induction n with
  | zero=>rfl
  | succ n ih =>
   rw [List.range_succ,List.map_append,List.flatMap_append,List.length_append,ih]
   simp [encN]
   omega
 apply List.ext_getElem?
 intro q
 by_cases hq:q<n*9
 ·have h1:=Rw.flat_at (enc:=encN) encN_len (xs:=lst n (fun _=>zN)) (q / 9) zN (lst_get _ (by omega)) (q % 9) (zV[q % 9]'(by simp;omega)) (by rw [encZ,List.getElem?_eq_getElem (by simp;omega)];simp)
  rw [show q / 9*9+q % 9=q by omega] at h1
  rw [h1]
  have hz:zV.size=9:=rfl
  simp only [madeCells,Array.toList_map,Array.toList_range,List.getElem?_map,List.getElem?_range hq,Option.map_some]
  rw [show q % zV.size=q % 9 by rw [hz]]
  congr 1
  rw [getElem!_pos zV (q % 9) (by rw [hz];omega)]
 ·rw [List.getElem?_eq_none (by omega),List.getElem?_eq_none (by rw [Array.length_toList,size_madeCells];omega)]
theorem made_own (w:World) (n:Nat) (h:n≤1000000):Rw.Own 176 9 encN (w.alloc (.cells (madeCells zV (n*9)) 176)) w.heap.size (.slice (some ⟨w.heap.size,0,none⟩) n n) (lst n (fun _=>zN)):=by
 refine ⟨?_,.inr ⟨w.heap.size,n,madeCells zV (n*9),by rw [lst_len],Nat.le_refl _,?_,by rw [lst_len];exact Nat.le_refl _,by unfold maxLen;omega,size_madeCells _ _,?_⟩⟩
 ·rw [made_flat,lst_len,Array.length_toList,size_madeCells]
 ·show (w.heap.push _)[w.heap.size]? = _;simp
 ·rw [made_flat,lst_len]
  exact List.take_of_length_le (by rw [Array.length_toList,size_madeCells];exact Nat.le_refl _)
section
variable {w:World} {B g n:Nat} {M:Nat→Nd}
theorem own_putM (h:Rw.Own 176 9 encN w B (.slice (some ⟨g,0,none⟩) n n) (lst n M)) {y:Nat} (hy:y<n) {k:Nd} {j:Nat} (hj:j<9) {u:Value} (hk:encN k=(encN (M y)).set j u):Rw.Own 176 9 encN (w.setCell ⟨g,y*9+j,none⟩ u) B (.slice (some ⟨g,0,none⟩) n n) (lst n (upd M y k)):=by
 rw [← lst_set]
 exact Ne.own_put encN_len h (lst_get M hy) hj hk
theorem own_putU (M:Nat→Nd) {y:Nat} {k k':Nd} (h:Rw.Own 176 9 encN w B (.slice (some ⟨g,0,none⟩) n n) (lst n (upd M y k))) (hy:y<n) {j:Nat} (hj:j<9) {u:Value} (hk:encN k' = (encN k).set j u):Rw.Own 176 9 encN (w.setCell ⟨g,y*9+j,none⟩ u) B (.slice (some ⟨g,0,none⟩) n n) (lst n (upd M y k')):=by
 have:=own_putM h hy (k:=k') hj (u:=u) (by rw [upd_self];exact hk)
 rw [upd_upd] at this
 exact this
theorem own_item (M:Nat→Nd) (h:Rw.Own 176 9 encN w B (.slice (some ⟨g,0,none⟩) n n) (lst n M)) {y:Nat} (hy:y<n) (hM:M y=zN) (v:Int) :
  Rw.Own 176 9 encN (((((((((w.setCell ⟨g,y*9+0,none⟩ (.int .i64 v)).setCell ⟨g,y*9+1,none⟩ (.int .i64 v)).setCell ⟨g,y*9+2,none⟩ (.int .i64 v)).setCell ⟨g,y*9+3,none⟩ (.int .i64 1)).setCell ⟨g,y*9+4,none⟩ (.int .i64 (-1))).setCell ⟨g,y*9+5,none⟩ (.int .i64 (-1))).setCell ⟨g,y*9+6,none⟩ (.int .i64 (-1))).setCell ⟨g,y*9+7,none⟩ (.bool false)).setCell ⟨g,y*9+8,none⟩ (.int .i64 0)) B (.slice (some ⟨g,0,none⟩) n n) (lst n (upd M y (iN v))):=by
 have h0:=h
 rw [← upd_id M y,hM] at h0
 have h1:=own_putU M h0 hy (j:=0) (k':={ zN with v:=v }) (by omega) (u:=.int .i64 v) rfl
 have h2:=own_putU M h1 hy (j:=1) (k':={ zN with v:=v,lo:=v }) (by omega) (u:=.int .i64 v) rfl
 have h3:=own_putU M h2 hy (j:=2) (k':={ zN with v:=v,lo:=v,hi:=v }) (by omega) (u:=.int .i64 v) rfl
 have h4:=own_putU M h3 hy (j:=3) (k':={ zN with v:=v,lo:=v,hi:=v,c:=1 }) (by omega) (u:=.int .i64 1) rfl
 have h5:=own_putU M h4 hy (j:=4) (k':={ zN with v:=v,lo:=v,hi:=v,c:=1,up:=none }) (by omega) (u:=.int .i64 (-1)) rfl
 have h6:=own_putU M h5 hy (j:=5) (k':={ zN with v:=v,lo:=v,hi:=v,c:=1,up:=none,b:=fun s=>if s then some 0 else none }) (by omega) (u:=.int .i64 (-1)) rfl
 have h7:=own_putU M h6 hy (j:=6) (k':=iN v) (by omega) (u:=.int .i64 (-1)) rfl
 have h8:=own_putU M h7 hy (j:=7) (k':=iN v) (by omega) (u:=.bool false) rfl
 exact own_putU M h8 hy (j:=8) (k':=iN v) (by omega) (u:=.int .i64 0) rfl
def newM (V:Nat→Int) (i:Nat):Nat→Nd:=fun y=>if y<i then iN (V y) else zN
theorem newM_step (V:Nat→Int) (i:Nat):upd (newM V i) i (iN (V i))=newM V (i+1):=by
 funext y
 simp only [upd,newM]
 by_cases c:y=i
 ·subst c;simp
 ·rw [if_neg c]
  by_cases d:y<i
  ·rw [if_pos d,if_pos (by omega)]
  ·rw [if_neg d,if_neg (by omega)]
theorem new_inv {n:Nat} {V:Nat→Int} {r:Nat→List Nat} (hr:∀ y,y<n→r y=[y]) (hb:∀ x,x<n→-4611686018427387904≤V x∧V x≤4611686018427387904):Inv n V r (fun _=>False) (newM V n) (fun y=>[y]) (fun _=>false) (fun _=>0):=by
 have e:∀ y,y<n→newM V n y=iN (V y):=fun y hy=>by simp [newM,hy]
 have hw:∀ y,y<n→wr (V y-0)=V y:=fun y hy=>by rw [Int.sub_zero];exact wr_id (by have:=hb y hy;omega)
 refine ⟨fun x s y hx hy=>?_,fun x u hx hu=>?_,fun x hx=>?_,fun x hx _=>⟨rfl,rfl⟩,fun x hx=>by simp,fun x hx y hy=>?_,fun x hx=>?_,fun x hx _=>⟨V x,⟨⟨x,by simp,rfl⟩,by simp⟩,?_⟩,fun x hx _=>⟨V x,⟨⟨x,by simp,rfl⟩,by simp⟩,?_⟩,fun x hx _=>?_,fun x hx _ y hy=>?_,hb⟩
 ·rw [e x hx] at hy;cases hy
 ·rw [e x hx] at hu;cases hu
 ·rw [e x hx];rfl
 ·simp at hy;rw [hy];exact hx
 ·rw [e x hx,hw x hx];rfl
 ·rw [e x hx,hw x hx];rfl
 ·rw [e x hx,hw x hx];rfl
 ·rw [e x hx];rfl
 ·simp at hy;subst hy;exact hr _ hx
theorem new_pot (n:Nat):pot (fun y=>[y]) n=0:=by
 induction n with
 | zero=>rfl
 | succ n ih=>simp only [pot,ih,List.length_singleton];decide
end
end Sv
end Go.Proofs.YthhlfphnokdfaaaGreat
namespace Go.Proofs.YthhlfphnokdfaaaGreat
open Go.ChangeShapes Go.WideShapes Go.ChangeAt Go.RowKit
open Lib (hid)
namespace Sp
open Sv
theorem below_item {w w2:World} {B g:Nat} (hg:B≤g) (hB:Below B w w2) (o1 o2 o3 o4 o5 o6 o7 o8 o9:Nat) (v1 v2 v3 v4 v5 v6 v7 v8 v9:Value) :
  Below B w (((((((((w2.setCell ⟨g,o1,none⟩ v1).setCell ⟨g,o2,none⟩ v2).setCell ⟨g,o3,none⟩ v3).setCell ⟨g,o4,none⟩ v4).setCell ⟨g,o5,none⟩ v5).setCell ⟨g,o6,none⟩ v6).setCell ⟨g,o7,none⟩ v7).setCell ⟨g,o8,none⟩ v8).setCell ⟨g,o9,none⟩ v9) :=
 (((((((((hB.setCell (p:=⟨g,o1,none⟩) hg v1).setCell (p:=⟨g,o2,none⟩) hg v2).setCell (p:=⟨g,o3,none⟩) hg v3).setCell (p:=⟨g,o4,none⟩) hg v4).setCell (p:=⟨g,o5,none⟩) hg v5).setCell (p:=⟨g,o6,none⟩) hg v6).setCell (p:=⟨g,o7,none⟩) hg v7).setCell (p:=⟨g,o8,none⟩) hg v8).setCell (p:=⟨g,o9,none⟩) hg v9)
theorem new_done {w wr:World} {vs:List Int} (hn:newE vs=0) (hB:Below w.heap.size w wr) (hO:Rw.Own 176 9 encN wr w.heap.size (.slice (some ⟨w.heap.size,0,none⟩) vs.length vs.length) (lst vs.length (newM (Ne.amt vs) vs.length))) :
  SpO (wr.alloc (.cells #[.slice (some ⟨w.heap.size,0,none⟩) vs.length vs.length,.int .i64 0] 172)) w.heap.size (fun g=>w.heap.size≤g∧g<(wr.alloc (.cells #[.slice (some ⟨w.heap.size,0,none⟩) vs.length vs.length,.int .i64 0] 172)).heap.size) wr.heap.size (newS vs) 0 0:=by
 have hG:=good_new hn
 have hsz:(wr.alloc (.cells #[.slice (some ⟨w.heap.size,0,none⟩) vs.length vs.length,.int .i64 0] 172)).heap.size=wr.heap.size+1:=by show (wr.heap.push _).size=_;simp
 have hlt:=Rw.own_lt hO w.heap.size rfl
 have hb:∀ x,x<vs.length→-4611686018427387904≤Ne.amt vs x∧Ne.amt vs x≤4611686018427387904:=hG.bnd
 refine ⟨w.heap.size,0,newM (Ne.amt vs) vs.length,fun y=>[y],fun _=>false,fun _=>0,⟨?_,?_,?_,hG.small⟩,?_,hG,fun k hk=>?_,fun k hk=>hk,Nat.le_refl _,?_⟩
 ·unfold VBlk
  show (wr.heap.push _)[wr.heap.size]? = _
  rw [show Sv.wr ((0:Nat):Int)=(0:Int) from by rw [Sv.wr_eq];decide]
  simp [newS]
 ·exact hB.size
 ·exact Rw.own_alloc hO _
 ·exact new_inv (fun y hy=>by show (if y<vs.length then [y] else [])=_;rw [if_pos (show y<vs.length from hy)]) hb
 ·rcases hk with rfl | rfl
  ·have:=hB.size;omega
  ·omega
 ·show 0+6*pot (fun y=>[y]) vs.length≤_
  rw [new_pot];exact Nat.le_refl _
theorem dnew_c (ao:Option Addr) (cap:Nat) (vs:List Int) (w:World) (hr:Ne.IRow w ao vs) (hn:ao=none→cap=0) :
  Calls Tryz.prog 107 #[.slice ao vs.length cap] w fun e w'=>Below w.heap.size w w'∧∃ pv,e=.returned (.tuple #[pv,.int .i64 (newE vs)])∧(newE vs≠0→pv=.pointer none) ∧
   (newE vs=0→∃ p,pv=.pointer (some ⟨p,0,none⟩)∧SpO w' w.heap.size (fun g=>w.heap.size≤g∧g<w'.heap.size) p (newS vs) 0 0):=by
 have HR:=hid hr
 have HDN:=hid (fun (wr:World) h1 h2 h3=>new_done (w:=w) (wr:=wr) (vs:=vs) h1 h2 h3)
 have HZ:=hid (show (3000<vs.length→newE vs=1)∧(vs.length≤3000→(∃ i,i<vs.length∧¬ (-4611686018427387904≤Ne.amt vs i∧Ne.amt vs i≤4611686018427387904))→newE vs=3)∧(vs.length≤3000→(∀ i,i<vs.length→-4611686018427387904≤Ne.amt vs i∧Ne.amt vs i≤4611686018427387904)→newE vs=0) from by
  unfold newE
  refine ⟨fun h=>if_pos h,fun h h2=>?_,fun h h2=>?_⟩
  ·rw [if_neg (by omega),if_neg (fun c=>by obtain ⟨i,h3,h4⟩:=h2;exact h4 (c i h3))]
  ·rw [if_neg (by omega),if_pos h2])
 generalize newE vs=Z at *
 generalize newS vs=NS at *
 generalize hnl:vs.length=n at *
 have HNL:=hid hnl
 clear hr hnl
 by_cases hbig:3000<n
 ·have hz:=HZ.out.1 hbig
  subst hz
  have hbi:(3000:Int)<(n:Int):=by omega
  clear HZ HDN
  go_enter Tryz.func107,Tryz.ntmps107
  go_wp2
  go_ret2
  exact ⟨Below.refl _ _,_,rfl,fun _=>rfl,fun h=>by cases h⟩
 ·have hbi:¬ (3000:Int)<(n:Int):=by omega
  have hn3:n≤3000:=by omega
  have hmk:=make_n n (by omega)
  have HO0:=hid (made_own w n (by omega))
  have HB0:=hid ((Below.refl w.heap.size w).alloc (Nat.le_refl _) (.cells (madeCells zV (n*9)) 176))
  clear hbig
  go_enter Tryz.func107,Tryz.ntmps107
  go_wp2
  clear hmk
  go_loopg [5,6,15] n (fun gg s5 s6 si wr=>(∃ z,s5=z)∧(∃ z,s6=z)∧∃ i:Nat,si=.int .i64 i∧i+gg=n∧Hid (Rw.Own 176 9 encN wr w.heap.size (.slice (some ⟨w.heap.size,0,none⟩) n n) (lst n (newM (Ne.amt vs) i)))∧Hid (Below w.heap.size w wr)∧Hid (∀ j,j<i→-4611686018427387904≤Ne.amt vs j∧Ne.amt vs j≤4611686018427387904))
  case atStart=>exact ⟨⟨_,rfl⟩,⟨_,rfl⟩,0,rfl,by omega,HO0,HB0,hid (fun j hj=>absurd hj (by omega))⟩
  case round =>
   obtain ⟨⟨z5,rfl⟩,⟨z6,rfl⟩,i,rfl,hig,HO,HB,HF⟩:=hrel
   by_cases hin:i<n
   ·have hii:(i:Int)<(n:Int):=by omega
    have hi0:(0:Int)≤(i:Int):=by omega
    obtain ⟨b,off,rfl,hb,c0⟩:=Ne.irow_cell (HR.out.kept HB.out) (i:=i) (by rw [HNL.out];exact hin)
    by_cases hv:-4611686018427387904≤Ne.amt vs i∧Ne.amt vs i≤4611686018427387904
    ·have HBE:=hid (beyond_in (Ne.amt vs i) hv wr)
     have HV:=hid hv
     have HOI:=hid (own_item (newM (Ne.amt vs) i) HO.out hin (by simp [newM]) (Ne.amt vs i))
     have HBI:=hid (below_item (Nat.le_refl w.heap.size) HB.out (i*9+0) (i*9+1) (i*9+2) (i*9+3) (i*9+4) (i*9+5) (i*9+6) (i*9+7) (i*9+8) (.int .i64 (Ne.amt vs i)) (.int .i64 (Ne.amt vs i)) (.int .i64 (Ne.amt vs i)) (.int .i64 1) (.int .i64 (-1)) (.int .i64 (-1)) (.int .i64 (-1)) (.bool false) (.int .i64 0))
     rw [newM_step] at HOI
     have HFI:=hid (show ∀ j,j<i+1→-4611686018427387904≤Ne.amt vs j∧Ne.amt vs j≤4611686018427387904 from fun j hj=>by
      by_cases e:j=i
      ·subst e;exact HV.out
      ·exact HF.out j (by omega))
     obtain ⟨g',e',_,_,hcs,hfz⟩:=Ne.own_cells encN_len HO.out (lst_get (newM (Ne.amt vs) i) hin)
     cases e'
     have d0:=hcs 0 _ rfl
     have d1:=hcs 1 _ rfl
     have d2:=hcs 2 _ rfl
     have d3:=hcs 3 _ rfl
     have d4:=hcs 4 _ rfl
     have d5:=hcs 5 _ rfl
     have d6:=hcs 6 _ rfl
     have d7:=hcs 7 _ rfl
     have d8:=hcs 8 _ rfl
     have f0:=hfz (i*9)
     have f1:=hfz (i*9+1)
     have f2:=hfz (i*9+2)
     have f3:=hfz (i*9+3)
     have f4:=hfz (i*9+4)
     have f5:=hfz (i*9+5)
     have f6:=hfz (i*9+6)
     have f7:=hfz (i*9+7)
     have f8:=hfz (i*9+8)
     have hw1:IntKind.i64.wrap ((i:Int)+1)=((i+1:Nat):Int):=by rw [IntKind.wrap_i64];omega
     simp only [Nat.add_zero] at d0 HOI HBI
     generalize Ne.amt vs i=v at *
     clear hcs hfz hv
     go_wp2_with fail
     refine HBE.out.mono ?_
     rintro e wz ⟨rfl,rfl⟩
     go_wp2
     go_roundg (n-(i+1))
     case measure=>omega
     case rel=>exact ⟨⟨_,rfl⟩,⟨_,rfl⟩,i+1,by rfl,by omega,HOI,HBI,HFI⟩
    ·have HBE:=hid (beyond_out (Ne.amt vs i) (by omega) wr)
     have hz:=HZ.out.2.1 hn3 ⟨i,hin,hv⟩
     subst hz
     clear HZ HDN hv
     generalize Ne.amt vs i=v at *
     go_wp2_with fail
     refine HBE.out.mono ?_
     rintro e wz ⟨rfl,rfl⟩
     go_wp2
     go_ret2
     exact ⟨HB.out,_,rfl,fun _=>rfl,fun h=>by cases h⟩
   ·obtain rfl:i=n:=by omega
    have hz:=HZ.out.2.2 hn3 HF.out
    subst hz
    have HE:=hid (HDN.out wr rfl HB.out HO.out)
    have HBL:=hid (HB.out.alloc HB.out.size (.cells #[.slice (some ⟨w.heap.size,0,none⟩) i i,.int .i64 0] 172))
    clear HZ HDN
    go_wp2
    go_ret2
    exact ⟨HBL.out,_,rfl,_,rfl,HE.out⟩
end Sp
end Go.Proofs.YthhlfphnokdfaaaGreat
