import Derived.Test.YtjbdgbdcnjopkaaGreatDoorS19
import Derived.Test.YtjbdgbdcnjopkaaGreatDoorS30
namespace Go.Proofs.YtjbdgbdcnjopkaaGreatDoor
open Go.RowKit Tryz
set_option linter.all false
set_option maxRecDepth 100000
set_option maxHeartbeats 4000000
def aaG(n i:Nat):Nat:=1+n / 250 ^ (i % 3) % 250
theorem act(n i:Nat):aaG n i<=250:=by unfold aaG;have:=Nat.mod_lt (n / 250 ^ (i % 3)) (show 0<250 by decide);omega
theorem abE{w:World}{n i:Nat}(hn:n<=1000000000000)(hi:i<=1000000000000):Calls prog 64 #[.int .i64 n,.int .i64 i] w fun e w'=>e=.returned (.int .u8 (aaG n i))/\w'=w:=by
 have e3:Int.tmod (i:Int) 3=((i % 3:Nat):Int):=by rw[Int.tmod_eq_emod_of_nonneg (by omega)];rfl
 obtain⟨r,hr⟩:=aja (i % 3);have mC:r<3:=by rw[<-hr];exact Nat.mod_lt _ (by decide)
 obtain⟨q,hq⟩:=aja (n / 250 ^ r);have hd:aaG n i=1+q % 250:=by unfold aaG;rw[hr,hq]
 rw[hd];rw[hr]at e3;have HQ:Hid _:=hq;have jE:(i:Int)<=1000000000000:=by omega
 have agk:(r:Int)<3:=by omega
 clear hq hd hr;go_enter func64,ntmps64;go_wp2_with fail;go_loopw [0,5] (fun x y wr=>∃k m:Nat,x=.int .i64 m/\y=.int .i64 k/\k<=2/\m<=1000000000000/\m / 250 ^ k=q/\wr=w) (fun _ y _=>(intOf y).toNat)
 case atStart=>exact⟨r,n,rfl,rfl,by omega,hn,HQ.out,rfl⟩
 case round=>
  obtain⟨k,m,rfl,rfl,hk,hm,hmq,rfl⟩:=hrel;have HM:Hid _:=hmq;clear hmq;by_cases uH:0<k
  ·have agl:(0:Int)<(k:Int):=by omega
   have e1:Int.tdiv (m:Int) 250=((m / 250:Nat):Int):=by rw[Int.tdiv_eq_ediv_of_nonneg (by omega)];rfl
   have hmi:(m:Int)<=1000000000000:=by omega
   have rQ:(k:Int)<=2:=by omega
   go_wp2_with fail;go_roundw
   case rel=>
    refine⟨k-1,m / 250,rfl,by congr 1;omega,by omega,by have:=Nat.div_le_self m 250;omega,?_,by trivial⟩;rw[Nat.div_div_eq_div_mul,<-HM.out]
    congr 1
    rw[<-Nat.pow_succ',show (k-1).succ=k by omega]
   case measure=>simp[intOf];omega
  obtain rfl:k=0:=by omega
  have e1:Int.tmod (m:Int) 250=((m % 250:Nat):Int):=by rw[Int.tmod_eq_emod_of_nonneg (by omega)];rfl
  have hq:m=q:=by have:=HM.out;simpa using this
  subst hq;obtain⟨z,hz⟩:=aja (m % 250);have eV:z<250:=by rw[<-hz];exact Nat.mod_lt _ (by decide)
  rw[hz]at e1;have hzi:(z:Int)<250:=by omega
  have hu:IntKind.u8.wrap (1+(z:Int))=1+(z:Int):=by
   have h0:(0:Int)<=1+(z:Int):=by omega
   have h1:(1+(z:Int))<256:=by omega
   simp[IntKind.wrap,IntKind.bits,IntKind.signed];omega
  have HZ:Hid _:=hz;clear hz HM HQ;go_wp2_with fail;go_ret;refine⟨?_,rfl⟩;rw[HZ.out];rfl
abbrev abj(t:Nat):Prop:=t≠60/\t≠22/\t≠26/\t≠31/\t≠44/\t≠27
structure Wd(lo:Nat)(w:World)(W:Nat)(ms bs ws is fs:List Value):Prop where
 row:∃v0 v1 v2 v3 v4,Blk w W #[v0,v1,v2,v3,v4] 60/\w.ownsRow lo 22 1 v0 ms.length ms/\w.ownsRow lo 26 1 v1 bs.length bs/\w.ownsRow lo 31 1 v2 ws.length ws/\w.ownsRow lo 44 1 v3 is.length is/\w.ownsRow lo 27 1 v4 fs.length fs
 low:lo<=W
theorem Wd.keep{lo:Nat}{w w':World}{W:Nat}{ms bs ws is fs:List Value}(h:Wd lo w W ms bs ws is fs)(k:∀g c t,¬abj t->Blk w g c t->Blk w' g c t):Wd lo w' W ms bs ws is fs:=by obtain⟨v0,v1,v2,v3,v4,hb,r0,r1,r2,r3,r4⟩:=h.row;exact⟨⟨v0,v1,v2,v3,v4,k _ _ _ (by decide) hb,aJ r0 fun g c=>k g c _ (by decide),aJ r1 fun g c=>k g c _ (by decide),aJ r2 fun g c=>k g c _ (by decide),aJ r3 fun g c=>k g c _ (by decide),aJ r4 fun g c=>k g c _ (by decide)⟩,h.low⟩
structure Fm(lo:Nat)(A:Nat->Prop)(w w':World):Prop where
 below:Below lo w w'
 keep:∀g c t,abj t->¬A g->Blk w g c t->Blk w' g c t
theorem Fm.refl(lo:Nat)(A:Nat->Prop)(w:World):Fm lo A w w:=⟨Below.refl _ _,fun _ _ _ _ _ h=>h⟩
theorem Fm.trans{lo:Nat}{A:Nat->Prop}{w w' w'':World}(h:Fm lo A w w')(k:Fm lo A w' w''):Fm lo A w w'':=⟨h.below.trans k.below,fun g c t ht ha hb=>k.keep g c t ht ha (h.keep g c t ht ha hb)⟩
theorem Fm.mono{lo:Nat}{A B:Nat->Prop}{w w':World}(h:Fm lo A w w')(hs:∀g,A g->B g\/w.heap.size<=g):Fm lo B w w':=⟨h.below,fun g c t ht hb h1=>h.keep g c t ht (fun ha=>(hs g ha).elim hb fun h2=>by have:=h1.lt;omega) h1⟩
theorem Fm.grown{lo:Nat}{A:Nat->Prop}{w w':World}(h:w.grownBy w' none)(hl:lo<=w.heap.size):Fm lo A w w':=⟨cY h hl (by simp),fun g c t _ _ hb=>hb.grown h (by simp)⟩
theorem acL:(prog.info? 22).map (fun i=>(i.zero,i.size,i.bytes))=some (some (.pointer none),1,8):=by kernel_rfl
theorem adC:(prog.info? 26).map (fun i=>(i.zero,i.size,i.bytes))=some (some (.slice none 0 0),1,24):=by kernel_rfl
theorem adD:(prog.info? 31).map (fun i=>(i.zero,i.size,i.bytes))=some (some (.slice none 0 0),1,24):=by kernel_rfl
theorem adE:(prog.info? 44).map (fun i=>(i.zero,i.size,i.bytes))=some (some (.slice none 0 0),1,24):=by kernel_rfl
theorem adF:(prog.info? 27).map (fun i=>(i.zero,i.size,i.bytes))=some (some (.slice none 0 0),1,24):=by kernel_rfl
def aaC(c:Array Value)(o:Nat)(v:Value):Nat->Array Value
 |0=>c
 |k+1=>(aaC c o v k).setIfInBounds (o+k) v
theorem aaq(c:Array Value)(o:Nat)(v:Value):∀k,(aaC c o v k).size=c.size
 |0=>rfl
 |k+1=>by simp[aaC,aaq c o v k]
theorem aaI(c:Array Value)(o:Nat)(v:Value):∀k i,i<k->o+k<=c.size->(aaC c o v k)[o+i]?=some v
 |0,i,h,_=>by omega
 |k+1,i,h,hc=>by
  unfold aaC;by_cases e:i=k
  ·subst e;rw[ajf (by rw[aaq];omega)]
  rw[aje (by omega)];exact aaI c o v k i (by omega) (by omega)
theorem aa2(c:Array Value)(o:Nat)(v:Value):∀k j,(j<o\/o+k<=j)->(aaC c o v k)[j]?=c[j]?
 |0,j,_=>rfl
 |k+1,j,h=>by unfold aaC;rw[aje (by omega)];exact aa2 c o v k j (by omega)
theorem aaB{lo:Nat}{w:World}{W:Nat}{ms bs ws is fs:List Value}(h:Wd lo w W ms bs ws is fs){a:Option Addr}{n cap o:Nat}{c:Array Value}{row:Option Nat}(jm:(row=none/\n=0)\/∃g,row=some g/\a=some ⟨g,o,none⟩/\lo<=g/\Blk w g c 2/\o+n<=c.size)(hn:n<=1000000000)(hl:ws.length<=1000000000):Calls prog 62 #[ptr W,.slice a n cap] w fun e w'=>e=.returned (.tuple #[])/\Wd lo w' W ms bs (ws++[.slice a n cap]) is fs/\Fm lo (row=some ·) w w'/\∀g,row=some g->Blk w' g (aaC c o (.int .i64 (-1-ws.length)) n) 2:=by
 obtain⟨v0,v1,v2,v3,v4,hW,r0,r1,r2,r3,r4⟩:=h.row;have tC:=h.low;have aaJ:lo<=w.heap.size:=by have:=hW.lt;omega
 obtain⟨j0,Lu,Lp,WC,WD⟩:=info_parts adD;obtain⟨a2,c2,rfl,_,_⟩:=aG r2;obtain⟨nw,Ts⟩:=aja ws.length;have HR:Hid _:=And.intro r0 (And.intro r1 (And.intro r2 (And.intro r3 r4)));have HNW:Hid _:=Ts;have HRW:Hid _:=jm;have HKO:Hid (∀wr,w.grownBy wr row->∀g' c' t,t≠2->Blk w g' c' t->Blk wr g' c' t):=fun wr bU g' c' t ht mn=>by
  rcases jm with⟨rfl,_⟩|⟨g,rfl,_,_,hb,_⟩
  ·exact mn.grown bU (by simp)
  exact aF bU hb mn ht
 have HW:Hid _:=hW;have zl:Hid (lo<=w.heap.size/\lo<=W/\∀r,row=some r->lo<=r):=⟨aaJ,tC,fun r e=>by
  rcases jm with⟨rfl,_⟩|⟨g,rfl,_,h1,_⟩
  ·cases e
  cases e;exact h1⟩
 have uJ:(n:Int)<=1000000000:=by omega
 have hwi:(nw:Int)<=1000000000:=by omega
 clear h r0 r1 r2 r3 r4 jm hW aaJ tC hl hn;go_enter func62,ntmps62;go_wp2_with fail;go_loopw [4] (fun i wr=>∃k:Nat,i=.int .i64 k/\k<=n/\w.grownBy wr row/\∀g,row=some g->Blk wr g (aaC c o (.int .i64 (-1-(nw:Int))) k) 2) (fun i _=>n-(intOf i).toNat)
 case atStart=>
  refine⟨0,rfl,ajl _,aH _ _,fun g e=>?_⟩;rcases HRW.out with⟨h1,_⟩|⟨g',h1,_,_,hb,_⟩
  ·rw[h1]at e;cases e
  rw[h1]at e;cases e;exact hb
 case round=>
  obtain⟨k,rfl,hk,bU,i7⟩:=hrel;have hWr:Blk wr W #[v0,v1,.slice a2 ws.length c2,v3,v4] 60:=HKO.out wr bU _ _ _ (by decide) HW.out;have x2:=hWr.cell 2;have x2f:=hWr.frozen 2;have LO:=hWr.lt;simp at x2;rw[HNW.out]at x2;have Og:Hid (w.grownBy wr row):=bU;have Sa:Hid (Blk wr W #[v0,v1,.slice a2 ws.length c2,v3,v4] 60):=hWr;have qQ:Hid _:=i7;clear bU hWr;by_cases xZ:k<n
  ·have rQ:(k:Int)<(n:Int):=by omega
   obtain⟨g,Pb,rfl,_,_,RZ⟩:∃g,row=some g/\a=some ⟨g,o,none⟩/\lo<=g/\Blk w g c 2/\o+n<=c.size:=HRW.out.resolve_left (fun h=>by omega);have i7:=i7 g Pb;have HRG:Hid _:=Pb;clear Pb;have gy:=aaq c o (.int .i64 (-1-(nw:Int))) k;have y:=i7.cell (o+k);have yf:=i7.frozen (o+k);have iB:=i7.lt;obtain⟨u,hu⟩:∃u,(aaC c o (.int .i64 (-1-(nw:Int))) k)[o+k]?=some u:=⟨_,Array.getElem?_eq_getElem (by omega)⟩;rw[hu]at y;have e1:-1-(nw:Int) <= -1:=by omega
   have e2:-9223372036854775808 <= -1-(nw:Int):=by omega
   clear i7 gy RZ hu;go_wp2_with fail;go_roundw
   case rel=>
    have bU:=Og.out;rw[HRG.out]at bU;refine⟨k+1,by simp,by omega,by rw[HRG.out];exact aB bU (aD _ _ _ _),fun g2 e=>?_⟩;rw[HRG.out]at e;cases e;exact Blk.set (qQ.out g HRG.out) (o+k) _
   case measure=>simp[intOf];omega
  obtain rfl:k=n:=by omega
  clear i7;obtain⟨q0,q1,q2,q3,q4⟩:=HR.out;have q2':=aJ q2 fun g' c' mn=>HKO.out wr Og.out _ _ _ (by decide) mn;go_wp2_with (at_builtin;refine wpList_append_own_at _ rfl _ _ 56 rfl lo 31 j0 (.slice none 0 0) 1 24 underlying56 Lu Lp WC WD rfl (by decide) (.slice a2 nw c2) nw ws rfl ?q1 ⟨wr.heap.size,0,none⟩ 1 1 [.slice a k cap] rfl rfl ?q2 ?q3 ?q4 ?q5 ?q6 ?q7)
  case q1=>rw[<-HNW.out];exact q2'.alloc _
  case q2=>exact cell_one_new _ _ _
  case q3=>simp[Value.oneCell']
  case q4=>simp[maxLen];omega
  case q5=>omega
  case q6=>have h1:=zl.out.1;have h2:=Og.out.size;simp;omega
  case q7=>
   intro v' w' cG cD _ _;obtain⟨a',c',rfl,_,_⟩:=aG cG;have jm:∀r,(Value.slice a2 nw c2).ownBlock=some r->lo<=r/\∃cc,Blk (wr.alloc (.cells #[.slice a k cap] 31)) r cc 31:=fun r hr=>by obtain⟨h1,cc,h2⟩:=ba q2' r (by rw[HNW.out];exact hr);exact⟨h1,cc,h2.alloc _⟩
   have k1:∀g' c' t,t≠31->Blk wr g' c' t->Blk w' g' c' t:=fun g' c' t ht mn=>by refine(mn.alloc _).grown cD (fun e=>?_);obtain⟨_,cc,h2⟩:=jm g' e.symm;have h3:=(mn.alloc (.cells #[.slice a k cap] 31)).symm.trans h2;cases h3;exact ht rfl
   have Y8:=k1 _ _ _ (by decide) Sa.out;have y2:=Y8.cell 2;have y2f:=Y8.frozen 2;have adG:=Y8.lt;simp at y2;have K1:Hid _:=k1;have HOW:Hid _:=cG;have ab6:Hid _:=cD;have V1:Hid _:=jm;have HW2:Hid _:=Y8;clear k1 cG cD jm Y8 q0 q1 q2 q3 q4 q2' x2 x2f;go_wp2_with fail;go_end0;have bY:=aD w' W 2 (.slice a' (nw+1) c');have Ij:=Blk.set HW2.out 2 (.slice a' (nw+1) c');simp at Ij;have k2:∀g' c'' t,t≠60->Blk w' g' c'' t->Blk (w'.setCell ⟨W,2,none⟩ (.slice a' (nw+1) c')) g' c'' t:=fun g' c'' t ht mn=>aF bY HW2.out mn ht;have k3:∀g' c'' t,t≠60->t≠31->t≠2->Blk w g' c'' t->Blk (w'.setCell ⟨W,2,none⟩ (.slice a' (nw+1) c')) g' c'' t:=fun g' c'' t h1 h2 h3 mn=>k2 _ _ _ h1 (K1.out _ _ _ h2 (HKO.out wr Og.out _ _ _ h3 mn));obtain⟨q0,q1,q2,q3,q4⟩:=HR.out;refine⟨rfl,⟨⟨_,_,_,_,_,Ij,aJ q0 fun g' c'' mn=>k3 _ _ _ (by decide) (by decide) (by decide) mn,aJ q1 fun g' c'' mn=>k3 _ _ _ (by decide) (by decide) (by decide) mn,?_,aJ q3 fun g' c'' mn=>k3 _ _ _ (by decide) (by decide) (by decide) mn,aJ q4 fun g' c'' mn=>k3 _ _ _ (by decide) (by decide) (by decide) mn⟩,zl.out.2.1⟩,⟨?_,?_⟩,?_⟩
   ·rw[ajb,List.length_singleton,HNW.out];exact aJ HOW.out fun g' c'' mn=>k2 _ _ _ (by decide) mn
   ·refine((cY Og.out zl.out.1 zl.out.2.2).trans ?_).trans (cY bY (by have h1:=zl.out.2.1;have h2:=Blk.lt HW2.out;omega) (fun r e=>by cases e;exact zl.out.2.1));have h2:=Og.out.size;have h1:=zl.out.1;exact(cY (aC wr _ none) (by omega) (by simp)).trans (cY ab6.out (by simp;omega) (fun r e=>(V1.out r e).1))
   ·intro g' c'' t ht ec mn;refine k2 _ _ _ ht.1 (K1.out _ _ _ ht.2.2.2.1 (mn.grown Og.out ?_));intro e;exact ec e.symm
   rw[HNW.out];exact fun g e=>k2 _ _ _ (by decide) (K1.out _ _ _ (by decide) (qQ.out g e))
theorem aaM{lo:Nat}{w:World}{W:Nat}{ms bs ws is fs:List Value}(h:Wd lo w W ms bs ws is fs){a:Option Addr}{n cap o:Nat}{c:Array Value}{row:Option Nat}(jm:(row=none/\n=0)\/∃g,row=some g/\a=some ⟨g,o,none⟩/\lo<=g/\Blk w g c 3/\o+n<=c.size)(hn:n<=1000000000)(hl:is.length<=1000000000):Calls prog 76 #[ptr W,.slice a n cap] w fun e w'=>e=.returned (.tuple #[])/\Wd lo w' W ms bs ws (is++[.slice a n cap]) fs/\Fm lo (row=some ·) w w'/\∀g,row=some g->Blk w' g (aaC c o (.int .i64 (-1-is.length)) n) 3:=by
 obtain⟨v0,v1,v2,v3,v4,hW,r0,r1,r2,r3,r4⟩:=h.row;have tC:=h.low;have aaJ:lo<=w.heap.size:=by have:=hW.lt;omega
 obtain⟨j0,Lu,Lp,WC,WD⟩:=info_parts adE;obtain⟨a2,c2,rfl,_,_⟩:=aG r3;obtain⟨nw,Ts⟩:=aja is.length;have HR:Hid _:=And.intro r0 (And.intro r1 (And.intro r2 (And.intro r3 r4)));have HNW:Hid _:=Ts;have HRW:Hid _:=jm;have HKO:Hid (∀wr,w.grownBy wr row->∀g' c' t,t≠3->Blk w g' c' t->Blk wr g' c' t):=fun wr bU g' c' t ht mn=>by
  rcases jm with⟨rfl,_⟩|⟨g,rfl,_,_,hb,_⟩
  ·exact mn.grown bU (by simp)
  exact aF bU hb mn ht
 have HW:Hid _:=hW;have zl:Hid (lo<=w.heap.size/\lo<=W/\∀r,row=some r->lo<=r):=⟨aaJ,tC,fun r e=>by
  rcases jm with⟨rfl,_⟩|⟨g,rfl,_,h1,_⟩
  ·cases e
  cases e;exact h1⟩
 have uJ:(n:Int)<=1000000000:=by omega
 have hwi:(nw:Int)<=1000000000:=by omega
 clear h r0 r1 r2 r3 r4 jm hW aaJ tC hl hn;go_enter func76,ntmps76;go_wp2_with fail;go_loopw [4] (fun i wr=>∃k:Nat,i=.int .i64 k/\k<=n/\w.grownBy wr row/\∀g,row=some g->Blk wr g (aaC c o (.int .i64 (-1-(nw:Int))) k) 3) (fun i _=>n-(intOf i).toNat)
 case atStart=>
  refine⟨0,rfl,ajl _,aH _ _,fun g e=>?_⟩;rcases HRW.out with⟨h1,_⟩|⟨g',h1,_,_,hb,_⟩
  ·rw[h1]at e;cases e
  rw[h1]at e;cases e;exact hb
 case round=>
  obtain⟨k,rfl,hk,bU,i7⟩:=hrel;have hWr:Blk wr W #[v0,v1,v2,.slice a2 is.length c2,v4] 60:=HKO.out wr bU _ _ _ (by decide) HW.out;have x2:=hWr.cell 3;have x2f:=hWr.frozen 3;have LO:=hWr.lt;simp at x2;rw[HNW.out]at x2;have Og:Hid (w.grownBy wr row):=bU;have Sa:Hid (Blk wr W #[v0,v1,v2,.slice a2 is.length c2,v4] 60):=hWr;have qQ:Hid _:=i7;clear bU hWr;by_cases xZ:k<n
  ·have rQ:(k:Int)<(n:Int):=by omega
   obtain⟨g,Pb,rfl,_,_,RZ⟩:∃g,row=some g/\a=some ⟨g,o,none⟩/\lo<=g/\Blk w g c 3/\o+n<=c.size:=HRW.out.resolve_left (fun h=>by omega);have i7:=i7 g Pb;have HRG:Hid _:=Pb;clear Pb;have gy:=aaq c o (.int .i64 (-1-(nw:Int))) k;have y:=i7.cell (o+k);have yf:=i7.frozen (o+k);have iB:=i7.lt;obtain⟨u,hu⟩:∃u,(aaC c o (.int .i64 (-1-(nw:Int))) k)[o+k]?=some u:=⟨_,Array.getElem?_eq_getElem (by omega)⟩;rw[hu]at y;have e1:-1-(nw:Int) <= -1:=by omega
   have e2:-9223372036854775808 <= -1-(nw:Int):=by omega
   clear i7 gy RZ hu;go_wp2_with fail;go_roundw
   case rel=>
    have bU:=Og.out;rw[HRG.out]at bU;refine⟨k+1,by simp,by omega,by rw[HRG.out];exact aB bU (aD _ _ _ _),fun g2 e=>?_⟩;rw[HRG.out]at e;cases e;exact Blk.set (qQ.out g HRG.out) (o+k) _
   case measure=>simp[intOf];omega
  obtain rfl:k=n:=by omega
  clear i7;obtain⟨q0,q1,q2,q3,q4⟩:=HR.out;have q2':=aJ q3 fun g' c' mn=>HKO.out wr Og.out _ _ _ (by decide) mn;go_wp2_with (at_builtin;refine wpList_append_own_at _ rfl _ _ 57 rfl lo 44 j0 (.slice none 0 0) 1 24 underlying57 Lu Lp WC WD rfl (by decide) (.slice a2 nw c2) nw is rfl ?q1 ⟨wr.heap.size,0,none⟩ 1 1 [.slice a k cap] rfl rfl ?q2 ?q3 ?q4 ?q5 ?q6 ?q7)
  case q1=>rw[<-HNW.out];exact q2'.alloc _
  case q2=>exact cell_one_new _ _ _
  case q3=>simp[Value.oneCell']
  case q4=>simp[maxLen];omega
  case q5=>omega
  case q6=>have h1:=zl.out.1;have h2:=Og.out.size;simp;omega
  case q7=>
   intro v' w' cG cD _ _;obtain⟨a',c',rfl,_,_⟩:=aG cG;have jm:∀r,(Value.slice a2 nw c2).ownBlock=some r->lo<=r/\∃cc,Blk (wr.alloc (.cells #[.slice a k cap] 44)) r cc 44:=fun r hr=>by obtain⟨h1,cc,h2⟩:=ba q2' r (by rw[HNW.out];exact hr);exact⟨h1,cc,h2.alloc _⟩
   have k1:∀g' c' t,t≠44->Blk wr g' c' t->Blk w' g' c' t:=fun g' c' t ht mn=>by refine(mn.alloc _).grown cD (fun e=>?_);obtain⟨_,cc,h2⟩:=jm g' e.symm;have h3:=(mn.alloc (.cells #[.slice a k cap] 44)).symm.trans h2;cases h3;exact ht rfl
   have Y8:=k1 _ _ _ (by decide) Sa.out;have y2:=Y8.cell 3;have y2f:=Y8.frozen 3;have adG:=Y8.lt;simp at y2;have K1:Hid _:=k1;have HOW:Hid _:=cG;have ab6:Hid _:=cD;have V1:Hid _:=jm;have HW2:Hid _:=Y8;clear k1 cG cD jm Y8 q0 q1 q2 q3 q4 q2' x2 x2f;go_wp2_with fail;go_end0;have bY:=aD w' W 3 (.slice a' (nw+1) c');have Ij:=Blk.set HW2.out 3 (.slice a' (nw+1) c');simp at Ij;have k2:∀g' c'' t,t≠60->Blk w' g' c'' t->Blk (w'.setCell ⟨W,3,none⟩ (.slice a' (nw+1) c')) g' c'' t:=fun g' c'' t ht mn=>aF bY HW2.out mn ht;have k3:∀g' c'' t,t≠60->t≠44->t≠3->Blk w g' c'' t->Blk (w'.setCell ⟨W,3,none⟩ (.slice a' (nw+1) c')) g' c'' t:=fun g' c'' t h1 h2 h3 mn=>k2 _ _ _ h1 (K1.out _ _ _ h2 (HKO.out wr Og.out _ _ _ h3 mn));obtain⟨q0,q1,q2,q3,q4⟩:=HR.out;refine⟨rfl,⟨⟨_,_,_,_,_,Ij,aJ q0 fun g' c'' mn=>k3 _ _ _ (by decide) (by decide) (by decide) mn,aJ q1 fun g' c'' mn=>k3 _ _ _ (by decide) (by decide) (by decide) mn,aJ q2 fun g' c'' mn=>k3 _ _ _ (by decide) (by decide) (by decide) mn,?_,aJ q4 fun g' c'' mn=>k3 _ _ _ (by decide) (by decide) (by decide) mn⟩,zl.out.2.1⟩,⟨?_,?_⟩,?_⟩
   ·rw[ajb,List.length_singleton,HNW.out];exact aJ HOW.out fun g' c'' mn=>k2 _ _ _ (by decide) mn
   ·refine((cY Og.out zl.out.1 zl.out.2.2).trans ?_).trans (cY bY (by have h1:=zl.out.2.1;have h2:=Blk.lt HW2.out;omega) (fun r e=>by cases e;exact zl.out.2.1));have h2:=Og.out.size;have h1:=zl.out.1;exact(cY (aC wr _ none) (by omega) (by simp)).trans (cY ab6.out (by simp;omega) (fun r e=>(V1.out r e).1))
   ·intro g' c'' t ht ec mn;refine k2 _ _ _ ht.1 (K1.out _ _ _ ht.2.2.2.2.1 (mn.grown Og.out ?_));intro e;exact ec e.symm
   rw[HNW.out];exact fun g e=>k2 _ _ _ (by decide) (K1.out _ _ _ (by decide) (qQ.out g e))
def aa8(c:Array Value)(o:Nat)(f:Nat->Value):Nat->Array Value
 |0=>c
 |k+1=>(aa8 c o f k).setIfInBounds (o+k) (f k)
theorem aaY(c:Array Value)(o:Nat)(f:Nat->Value):∀k,(aa8 c o f k).size=c.size
 |0=>rfl
 |k+1=>by simp[aa8,aaY c o f k]
theorem abP(c:Array Value)(o:Nat)(f:Nat->Value):∀k i,i<k->o+k<=c.size->(aa8 c o f k)[o+i]?=some (f i)
 |0,i,h,_=>by omega
 |k+1,i,h,hc=>by
  unfold aa8;by_cases e:i=k
  ·subst e;rw[ajf (by rw[aaY];omega)]
  rw[aje (by omega)];exact abP c o f k i (by omega) (by omega)
theorem acO{lo:Nat}{w:World}{W:Nat}{ms bs ws is fs:List Value}(h:Wd lo w W ms bs ws is fs){a:Option Addr}{n cap g o:Nat}{c:Array Value}(ha:0<n->a=some ⟨g,o,none⟩)(hg:lo<=g)(hb:Blk w g c 5)(hc:o+n<=c.size)(hn:n<=1000000000)(hl:bs.length<=1000000000):Calls prog 59 #[ptr W,.slice a n cap] w fun e w'=>e=.returned (.tuple #[])/\Wd lo w' W ms (bs++[.slice a n cap]) ws is fs/\Fm lo (·=g) w w'/\Blk w' g (aa8 c o (fun i=>.int .u8 (aaG bs.length i)) n) 5:=by
 obtain⟨v0,v1,v2,v3,v4,hW,r0,r1,r2,r3,r4⟩:=h.row;have tC:=h.low;have aaJ:lo<=w.heap.size:=by have:=hW.lt;omega
 obtain⟨j0,Lu,Lp,WC,WD⟩:=info_parts adC;obtain⟨a2,c2,rfl,_,_⟩:=aG r1;obtain⟨nw,Ts⟩:=aja bs.length;have HR:Hid _:=And.intro r0 (And.intro r1 (And.intro r2 (And.intro r3 r4)));have HNW:Hid _:=Ts;have HB:Hid _:=hb;have HA:Hid _:=ha;have HC:Hid _:=hc;have HW:Hid _:=hW;have zl:Hid (lo<=w.heap.size/\lo<=W/\lo<=g):=⟨aaJ,tC,hg⟩;have uJ:(n:Int)<=1000000000:=by omega
 have hwi:(nw:Int)<=1000000000:=by omega
 clear h r0 r1 r2 r3 r4 hb ha hc hW aaJ tC hg hl hn;go_enter func59,ntmps59;go_wp2_with fail;go_loopw [4] (fun i wr=>∃k:Nat,i=.int .i64 k/\k<=n/\w.grownBy wr (some g)/\Blk wr g (aa8 c o (fun i=>.int .u8 (aaG nw i)) k) 5) (fun i _=>n-(intOf i).toNat)
 case atStart=>exact⟨0,rfl,ajl _,aH _ _,HB.out⟩
 case round=>
  obtain⟨k,rfl,hk,bU,i7⟩:=hrel;have hWr:Blk wr W #[v0,.slice a2 bs.length c2,v2,v3,v4] 60:=aF bU HB.out HW.out (by decide);have x2:=hWr.cell 1;have x2f:=hWr.frozen 1;have LO:=hWr.lt;simp at x2;rw[HNW.out]at x2;have Og:Hid (w.grownBy wr (some g)):=bU;have Sa:Hid (Blk wr W #[v0,.slice a2 bs.length c2,v2,v3,v4] 60):=hWr;have qQ:Hid _:=i7;clear bU hWr;by_cases xZ:k<n
  ·have rQ:(k:Int)<(n:Int):=by omega
   obtain rfl:=HA.out (by omega);have gy:=aaY c o (fun i=>.int .u8 (aaG nw i)) k;have RZ:=HC.out;have y:=i7.cell (o+k);have yf:=i7.frozen (o+k);have iB:=i7.lt;obtain⟨u,hu⟩:∃u,(aa8 c o (fun i=>.int .u8 (aaG nw i)) k)[o+k]?=some u:=⟨_,Array.getElem?_eq_getElem (by omega)⟩;rw[hu]at y;have hD:=abE (w:=wr) (n:=nw) (i:=k) (by omega) (by omega);clear i7 gy RZ hu;go_wp2_with (go_at_call 64;refine hD.mono ?_;rintro e w2 ⟨rfl,rfl⟩)
   go_roundw
   case rel=>
    refine⟨k+1,by simp,by omega,aB Og.out (aD _ _ _ _),?_⟩;exact Blk.set qQ.out (o+k) _
   case measure=>simp[intOf];omega
  obtain rfl:k=n:=by omega
  clear i7;obtain⟨q0,q1,q2,q3,q4⟩:=HR.out;have q2':=aJ q1 fun g' c' mn=>aF Og.out HB.out mn (by decide);go_wp2_with (at_builtin;refine wpList_append_own_at _ rfl _ _ 55 rfl lo 26 j0 (.slice none 0 0) 1 24 underlying55 Lu Lp WC WD rfl (by decide) (.slice a2 nw c2) nw bs rfl ?q1 ⟨wr.heap.size,0,none⟩ 1 1 [.slice a k cap] rfl rfl ?q2 ?q3 ?q4 ?q5 ?q6 ?q7)
  case q1=>rw[<-HNW.out];exact q2'.alloc _
  case q2=>exact cell_one_new _ _ _
  case q3=>simp[Value.oneCell']
  case q4=>simp[maxLen];omega
  case q5=>omega
  case q6=>have h1:=zl.out.1;have h2:=Og.out.size;simp;omega
  case q7=>
   intro v' w' cG cD _ _;obtain⟨a',c',rfl,_,_⟩:=aG cG;have jm:∀r,(Value.slice a2 nw c2).ownBlock=some r->lo<=r/\∃cc,Blk (wr.alloc (.cells #[.slice a k cap] 26)) r cc 26:=fun r hr=>by obtain⟨h1,cc,h2⟩:=ba q2' r (by rw[HNW.out];exact hr);exact⟨h1,cc,h2.alloc _⟩
   have k1:∀g' c' t,t≠26->Blk wr g' c' t->Blk w' g' c' t:=fun g' c' t ht mn=>by refine(mn.alloc _).grown cD (fun e=>?_);obtain⟨_,cc,h2⟩:=jm g' e.symm;have h3:=(mn.alloc (.cells #[.slice a k cap] 26)).symm.trans h2;cases h3;exact ht rfl
   have Y8:=k1 _ _ _ (by decide) Sa.out;have y2:=Y8.cell 1;have y2f:=Y8.frozen 1;have adG:=Y8.lt;simp at y2;have K1:Hid _:=k1;have HOW:Hid _:=cG;have ab6:Hid _:=cD;have V1:Hid _:=jm;have HW2:Hid _:=Y8;clear k1 cG cD jm Y8 q0 q1 q2 q3 q4 q2' x2 x2f;go_wp2_with fail;go_end0;have bY:=aD w' W 1 (.slice a' (nw+1) c');have Ij:=Blk.set HW2.out 1 (.slice a' (nw+1) c');simp at Ij;have k2:∀g' c'' t,t≠60->Blk w' g' c'' t->Blk (w'.setCell ⟨W,1,none⟩ (.slice a' (nw+1) c')) g' c'' t:=fun g' c'' t ht mn=>aF bY HW2.out mn ht;have k3:∀g' c'' t,t≠60->t≠26->t≠5->Blk w g' c'' t->Blk (w'.setCell ⟨W,1,none⟩ (.slice a' (nw+1) c')) g' c'' t:=fun g' c'' t h1 h2 h3 mn=>k2 _ _ _ h1 (K1.out _ _ _ h2 (aF Og.out HB.out mn h3));obtain⟨q0,q1,q2,q3,q4⟩:=HR.out;refine⟨rfl,⟨⟨_,_,_,_,_,Ij,aJ q0 fun g' c'' mn=>k3 _ _ _ (by decide) (by decide) (by decide) mn,?_,aJ q2 fun g' c'' mn=>k3 _ _ _ (by decide) (by decide) (by decide) mn,aJ q3 fun g' c'' mn=>k3 _ _ _ (by decide) (by decide) (by decide) mn,aJ q4 fun g' c'' mn=>k3 _ _ _ (by decide) (by decide) (by decide) mn⟩,zl.out.2.1⟩,⟨?_,?_⟩,?_⟩
   ·rw[ajb,List.length_singleton,HNW.out];exact aJ HOW.out fun g' c'' mn=>k2 _ _ _ (by decide) mn
   ·refine((cY Og.out zl.out.1 (fun r e=>by cases e;exact zl.out.2.2)).trans ?_).trans (cY bY (by have h1:=zl.out.2.1;have h2:=Blk.lt HW2.out;omega) (fun r e=>by cases e;exact zl.out.2.1));have h2:=Og.out.size;have h1:=zl.out.1;exact(cY (aC wr _ none) (by omega) (by simp)).trans (cY ab6.out (by simp;omega) (fun r e=>(V1.out r e).1))
   ·intro g' c'' t ht ec mn;refine k2 _ _ _ ht.1 (K1.out _ _ _ ht.2.2.1 (mn.grown Og.out ?_));intro e;cases e;exact ec rfl
   rw[HNW.out];exact k2 _ _ _ (by decide) (K1.out _ _ _ (by decide) qQ.out)
structure aaH(c c':Array Value)(o k nf:Nat):Prop where
 size:c'.size=c.size
 in_:∀i,i<k->∃a cap,c'[o+i*2]?=some (.slice a (1+nf) cap)/\c'[o+i*2+1]?=some (.slice none 0 0)
 out_:∀j,(j<o\/o+k*2<=j)->c'[j]?=c[j]?
theorem aaH.nil(c:Array Value)(o nf:Nat):aaH c c o 0 nf:=⟨rfl,fun i h=>by omega,fun _ _=>rfl⟩
theorem aaH.step{c c':Array Value}{o k nf n:Nat}{a:Option Addr}{cap:Nat}(h:aaH c c' o k nf)(hc:o+2*n<=c.size)(hk:k<n):aaH c ((c'.setIfInBounds (o+k*2) (.slice a (1+nf) cap)).setIfInBounds (o+k*2+1) (.slice none 0 0)) o (k+1) nf:=by
 have hs:=h.size;refine⟨by simp[hs],fun i hi=>?_,fun j hj=>?_⟩
 ·by_cases e:i=k
  ·subst e;refine⟨a,cap,?_,?_⟩
   ·rw[aje (by omega),ajf (by omega)]
   rw[ajf (by rw[Array.size_setIfInBounds];omega)]
  obtain⟨a1,c1,h1,h2⟩:=h.in_ i (by omega);refine⟨a1,c1,?_,?_⟩
  ·rw[aje (by omega),aje (by omega)];exact h1
  rw[aje (by omega),aje (by omega)];exact h2
 rw[aje (by omega),aje (by omega)];exact h.out_ j (by omega)
theorem ab9{w w':World}(h:w.grownBy w' none)(row:Option Nat):w.grownBy w' row:=⟨h.os,h.tape,h.output,h.size,fun k hk _=>h.block k hk (by simp)⟩
theorem aaX{lo:Nat}{w:World}{W:Nat}{ms bs ws is fs:List Value}(h:Wd lo w W ms bs ws is fs){a:Option Addr}{n cap o:Nat}{c:Array Value}{row:Option Nat}(jm:(row=none/\n=0)\/∃g,row=some g/\a=some ⟨g,o,none⟩/\lo<=g/\Blk w g c 70/\o+2*n<=c.size)(hn:n<=1000000000)(hl:fs.length<=1000000000):Calls prog 61 #[ptr W,.slice a n cap] w fun e w'=>e=.returned (.tuple #[])/\Wd lo w' W ms bs ws is (fs++[.slice a n cap])/\Fm lo (row=some ·) w w'/\∀g,row=some g->∃c',Blk w' g c' 70/\aaH c c' o n fs.length:=by
 obtain⟨v0,v1,v2,v3,v4,hW,r0,r1,r2,r3,r4⟩:=h.row;have tC:=h.low;have aaJ:lo<=w.heap.size:=by have:=hW.lt;omega
 obtain⟨j0,Lu,Lp,WC,WD⟩:=info_parts adF;obtain⟨a2,c2,rfl,_,_⟩:=aG r4;obtain⟨nw,Ts⟩:=aja fs.length;have HR:Hid _:=And.intro r0 (And.intro r1 (And.intro r2 (And.intro r3 r4)));have HNW:Hid _:=Ts;have HRW:Hid _:=jm;have HKO:Hid (∀wr,w.grownBy wr row->∀g' c' t,t≠70->Blk w g' c' t->Blk wr g' c' t):=fun wr bU g' c' t ht mn=>by
  rcases jm with⟨rfl,_⟩|⟨g,rfl,_,_,hb,_⟩
  ·exact mn.grown bU (by simp)
  exact aF bU hb mn ht
 have HW:Hid _:=hW;have zl:Hid (lo<=w.heap.size/\lo<=W/\∀r,row=some r->lo<=r):=⟨aaJ,tC,fun r e=>by
  rcases jm with⟨rfl,_⟩|⟨g,rfl,_,h1,_⟩
  ·cases e
  cases e;exact h1⟩
 have uJ:(n:Int)<=1000000000:=by omega
 have hwi:(nw:Int)<=1000000000:=by omega
 clear h r0 r1 r2 r3 r4 jm hW aaJ tC hl hn;go_enter func61,ntmps61;go_wp2_with fail;go_loopw [4] (fun i wr=>∃k:Nat,i=.int .i64 k/\k<=n/\w.grownBy wr row/\∀g,row=some g->∃ck,Blk wr g ck 70/\aaH c ck o k nw) (fun i _=>n-(intOf i).toNat)
 case atStart=>
  refine⟨0,rfl,ajl _,aH _ _,fun g e=>?_⟩;rcases HRW.out with⟨h1,_⟩|⟨g',h1,_,_,hb,_⟩
  ·rw[h1]at e;cases e
  rw[h1]at e;cases e;exact⟨c,hb,aaH.nil _ _ _⟩
 case round=>
  obtain⟨k,rfl,hk,bU,i7⟩:=hrel;have hWr:Blk wr W #[v0,v1,v2,v3,.slice a2 fs.length c2] 60:=HKO.out wr bU _ _ _ (by decide) HW.out;have x2:=hWr.cell 4;have x2f:=hWr.frozen 4;have LO:=hWr.lt;simp at x2;rw[HNW.out]at x2;have Og:Hid (w.grownBy wr row):=bU;have Sa:Hid (Blk wr W #[v0,v1,v2,v3,.slice a2 fs.length c2] 60):=hWr;have qQ:Hid _:=i7;clear bU hWr;by_cases xZ:k<n
  ·have rQ:(k:Int)<(n:Int):=by omega
   obtain⟨g,Pb,rfl,_,_,RZ⟩:∃g,row=some g/\a=some ⟨g,o,none⟩/\lo<=g/\Blk w g c 70/\o+2*n<=c.size:=HRW.out.resolve_left (fun h=>by omega);obtain⟨ck,i7,adr⟩:=i7 g Pb;have WU:Hid (aaH c ck o k nw):=adr;clear adr;have HRG:Hid _:=Pb;clear Pb;have gy:=WU.out.size;have iB:=i7.lt;have um:=run_make_row' (P:=prog) 44 3 (.int .i64 0) 8 underlying44 ml rfl .i64 .i64 (1+nw) (by omega) (by omega) wr;have e1:((1+nw:Nat):Int)=1+(nw:Int):=by omega
   rw[e1]at um;obtain⟨wm,hwm⟩:∃z,wr.alloc (.cells (madeCells #[.int .i64 0] (1+nw)) 3)=z:=⟨_,rfl⟩;rw[hwm]at um;have hgm:wr.grownBy wm none:=by rw[<-hwm];exact aC _ _ _
   have Se:=i7.grown hgm (by simp);have y:=Se.cell (o+k*2);have yf:=Se.frozen (o+k*2);have y':=Se.cell (o+k*2+1);have yf':=Se.frozen (o+k*2+1);obtain⟨u,hu⟩:∃u,ck[o+k*2]?=some u:=⟨_,Array.getElem?_eq_getElem (by omega)⟩;obtain⟨u',Zn⟩:∃u,ck[o+k*2+1]?=some u:=⟨_,Array.getElem?_eq_getElem (by omega)⟩;rw[hu]at y;rw[Zn]at y';have agt:=Se.lt;have HGM:Hid _:=hgm;have HBM:Hid _:=Se;have HCK:Hid _:=RZ;clear i7 gy RZ hu Zn hgm Se hwm e1;go_wp2_with fail;go_roundw
   case rel=>
    have bU:=Og.out;rw[HRG.out]at bU;refine⟨k+1,by simp,by omega,by rw[HRG.out];exact aB (aB bU (ab9 HGM.out _)) (aB (aD _ _ _ _) (aD _ _ _ _)),fun g2 e=>?_⟩;rw[HRG.out]at e;cases e;exact⟨_,Blk.set (Blk.set HBM.out (o+k*2) _) (o+k*2+1) _,aaH.step WU.out HCK.out xZ⟩
   case measure=>simp[intOf];omega
  obtain rfl:k=n:=by omega
  clear i7;obtain⟨q0,q1,q2,q3,q4⟩:=HR.out;have q2':=aJ q4 fun g' c' mn=>HKO.out wr Og.out _ _ _ (by decide) mn;go_wp2_with (at_builtin;refine wpList_append_own_at _ rfl _ _ 58 rfl lo 27 j0 (.slice none 0 0) 1 24 underlying58 Lu Lp WC WD rfl (by decide) (.slice a2 nw c2) nw fs rfl ?q1 ⟨wr.heap.size,0,none⟩ 1 1 [.slice a k cap] rfl rfl ?q2 ?q3 ?q4 ?q5 ?q6 ?q7)
  case q1=>rw[<-HNW.out];exact q2'.alloc _
  case q2=>exact cell_one_new _ _ _
  case q3=>simp[Value.oneCell']
  case q4=>simp[maxLen];omega
  case q5=>omega
  case q6=>have h1:=zl.out.1;have h2:=Og.out.size;simp;omega
  case q7=>
   intro v' w' cG cD _ _;obtain⟨a',c',rfl,_,_⟩:=aG cG;have jm:∀r,(Value.slice a2 nw c2).ownBlock=some r->lo<=r/\∃cc,Blk (wr.alloc (.cells #[.slice a k cap] 27)) r cc 27:=fun r hr=>by obtain⟨h1,cc,h2⟩:=ba q2' r (by rw[HNW.out];exact hr);exact⟨h1,cc,h2.alloc _⟩
   have k1:∀g' c' t,t≠27->Blk wr g' c' t->Blk w' g' c' t:=fun g' c' t ht mn=>by refine(mn.alloc _).grown cD (fun e=>?_);obtain⟨_,cc,h2⟩:=jm g' e.symm;have h3:=(mn.alloc (.cells #[.slice a k cap] 27)).symm.trans h2;cases h3;exact ht rfl
   have Y8:=k1 _ _ _ (by decide) Sa.out;have y2:=Y8.cell 4;have y2f:=Y8.frozen 4;have adG:=Y8.lt;simp at y2;have K1:Hid _:=k1;have HOW:Hid _:=cG;have ab6:Hid _:=cD;have V1:Hid _:=jm;have HW2:Hid _:=Y8;clear k1 cG cD jm Y8 q0 q1 q2 q3 q4 q2' x2 x2f;go_wp2_with fail;go_end0;have bY:=aD w' W 4 (.slice a' (nw+1) c');have Ij:=Blk.set HW2.out 4 (.slice a' (nw+1) c');simp at Ij;have k2:∀g' c'' t,t≠60->Blk w' g' c'' t->Blk (w'.setCell ⟨W,4,none⟩ (.slice a' (nw+1) c')) g' c'' t:=fun g' c'' t ht mn=>aF bY HW2.out mn ht;have k3:∀g' c'' t,t≠60->t≠27->t≠70->Blk w g' c'' t->Blk (w'.setCell ⟨W,4,none⟩ (.slice a' (nw+1) c')) g' c'' t:=fun g' c'' t h1 h2 h3 mn=>k2 _ _ _ h1 (K1.out _ _ _ h2 (HKO.out wr Og.out _ _ _ h3 mn));obtain⟨q0,q1,q2,q3,q4⟩:=HR.out;refine⟨rfl,⟨⟨_,_,_,_,_,Ij,aJ q0 fun g' c'' mn=>k3 _ _ _ (by decide) (by decide) (by decide) mn,aJ q1 fun g' c'' mn=>k3 _ _ _ (by decide) (by decide) (by decide) mn,aJ q2 fun g' c'' mn=>k3 _ _ _ (by decide) (by decide) (by decide) mn,aJ q3 fun g' c'' mn=>k3 _ _ _ (by decide) (by decide) (by decide) mn,?_⟩,zl.out.2.1⟩,⟨?_,?_⟩,?_⟩
   ·rw[ajb,List.length_singleton,HNW.out];exact aJ HOW.out fun g' c'' mn=>k2 _ _ _ (by decide) mn
   ·refine((cY Og.out zl.out.1 zl.out.2.2).trans ?_).trans (cY bY (by have h1:=zl.out.2.1;have h2:=Blk.lt HW2.out;omega) (fun r e=>by cases e;exact zl.out.2.1));have h2:=Og.out.size;have h1:=zl.out.1;exact(cY (aC wr _ none) (by omega) (by simp)).trans (cY ab6.out (by simp;omega) (fun r e=>(V1.out r e).1))
   ·intro g' c'' t ht ec mn;refine k2 _ _ _ ht.1 (K1.out _ _ _ ht.2.2.2.2.2 (mn.grown Og.out ?_));intro e;exact ec e.symm
   rw[HNW.out];intro g e;obtain⟨ck,h1,h2⟩:=qQ.out g e;exact⟨ck,k2 _ _ _ (by decide) (K1.out _ _ _ (by decide) h1),h2⟩
section
variable {P:Program}
theorem abk(w:World)(az:Nat)(t ty e:TypeId)(i:TypeInfo)(z:Value)(size bytes:Nat)(ht:P.underlying t=some (.slice e))(hi:P.info? e=some i)(hz:i.zero=some z)(EL:i.size=size) (Pf:i.bytes=bytes) (Tq:z.cells.size=size) (gy:0<size)(v:Value) (n:Nat) (xs:List Value) (bn:w.ownsRow az e size v n xs)(a:Addr) (m c:Nat) (news:List Value) (hl:news.length=m*size) (EM:∀j u,news[j]?=some u->w.cell? (a.add j)=some u) (h1:∀u∈news,u.oneCell'=true)(Tr:n+m<=maxLen) (AF:(n+m)*bytes<=140737488355328) (EN:az<=w.heap.size):∃v' w',(Builtin.append_ #[t,t] ty #[v,.slice (some a) m c]).run P w=.ok v' w'/\w'.ownsRow az e size v' (n+m) (xs++news)/\w.grownBy w' v.ownBlock /\ (v'.ownBlock=v.ownBlock\/v'.ownBlock=some w.heap.size)/\∀g c,Blk w g c e->∃c',Blk w' g c' e/\c'.size=c.size/\∀j,(v.ownBlock=some g->j<n*size)->c'[j]?=c[j]?:=by
 obtain⟨v',w',hr,h2,h3,h4,h5⟩:=run_append_own_at (P:=P) w az t ty e i z size bytes ht hi hz EL Pf Tq gy v n xs bn a m c news hl EM h1 Tr AF EN;refine⟨v',w',hr,h2,h3,h5,fun g c0 hb=>?_⟩;by_cases hg:v.ownBlock=some g
 ·subst EL;subst Pf;rcases bn.2 with⟨rfl,rfl⟩|⟨g',cap,cur,rfl,qX,yf,hnc,Um,Bc,XI⟩
  ·simp[Value.ownBlock]at hg
  have e1:g'=g:=by simpa [Value.ownBlock] using hg
  subst e1;have od:cur=c0:=by have:=yf.symm.trans hb;cases this;rfl
  subst od;by_cases adt:n+m<=cap
  ·have aeR:n*i.size+news.length<=cur.size:=by rw[hl,Bc,<-Nat.add_mul];exact Nat.mul_le_mul_right _ adt
   have Ph:=run_append_room (P:=P) w t ty e i ht hi g' n cap cur yf a m c news hl EM h1 adt aeR;have e2:=hr.symm.trans Ph;cases e2;refine⟨_,setRow_heap w g' cur _ e _ yf,?_,fun j hj=>?_⟩
   ·simp only[List.size_toArray,ajb,ajq,List.length_drop,ajF];omega
   have WO:=hj rfl;simp only[List.getElem?_toArray];rw[gAl (by simp;omega),gAl (by simp;omega),ajI WO,Array.getElem?_toList]
  have holds:∀j u,xs[j]?=some u->w.cell? ((⟨g',0,none⟩:Addr).add j)=some u:=bn.cells (g:=g') rfl;have agx:n+m<=9223372036854775807:=by simp only[maxLen]at Tr;omega
  have Ph:=run_append_grow (P:=P) w t ty e i z ht hi hz ⟨g',0,none⟩ n cap xs bn.1 holds a m c news hl EM (by omega) (by omega) (growslice_fits (by omega) AF);have e2:=hr.symm.trans Ph;cases e2;exact⟨cur,(heap_alloc_old w.drew _ g' hb.lt).trans hb,rfl,fun _ _=>rfl⟩
 exact⟨c0,hb.grown h3 (fun e=>hg e.symm),rfl,fun _ _=>rfl⟩
theorem aar{w:World}{ops:Array Oper}{rest:List Oper}{o:Oper}{a:Act}{Q:Exit->Act->World->Prop}(us:o.guard=none)(s x:Operand)(t:TypeId)(ho:o.op=.call {callee:=.builtin .append,args:=#[s,x],argTypes:=#[t,t]})(az:Nat) (e:TypeId) (i:TypeInfo) (z:Value) (size bytes:Nat) (ht:P.underlying t=some (.slice e)) (hi:P.info? e=some i) (hz:i.zero=some z)(EL:i.size=size) (Pf:i.bytes=bytes) (Tq:z.cells.size=size) (gy:0<size)(v:Value) (n:Nat) (xs:List Value) (hs:a.eval s=v) (bn:w.ownsRow az e size v n xs)(ad:Addr) (m c:Nat) (news:List Value) (hx:a.eval x=.slice (some ad) m c) (hl:news.length=m*size) (EM:∀j u,news[j]?=some u->w.cell? (ad.add j)=some u) (h1:∀u∈news,u.oneCell'=true)(Tr:n+m<=maxLen) (AF:(n+m)*bytes<=140737488355328) (EN:az<=w.heap.size)(h:∀v' w',w'.ownsRow az e size v' (n+m) (xs++news)->w.grownBy w' v.ownBlock->(v'.ownBlock=v.ownBlock\/v'.ownBlock=some w.heap.size)->(∀g c,Blk w g c e->∃c',Blk w' g c' e/\c'.size=c.size/\∀j,(v.ownBlock=some g->j<n*size)->c'[j]?=c[j]?)->wpList P ops Q rest (a.put o.dst v') w'):wpList P ops Q (o::rest) a w:=by refine wpList_plain us fun K hK=>?_;obtain⟨v',w',hr,h2,h3,h4,h5⟩:=abk (P:=P) w az t o.type e i z size bytes ht hi hz EL Pf Tq gy v n xs bn ad m c news hl EM h1 Tr AF EN;unfold Oper.wp execOp;simp only[ho,resolve,invoke,builtin,Sem.run_bind,Sem.run_pure,Result.andThen_ok,List.map_toArray,List.map_cons,List.map_nil,hs,hx,hr];exact hK _ _ (h v' w' h2 h3 h4 h5)
end
def MkL(lo t:Nat)(B:Nat->Prop)(w:World)(k:Nat)(v:Value)(own:Option Nat)(nv:Nat):Prop:=
 ∃a n cap,v=.slice a n cap/\n<=1000000000/\∀i,i<n->∃g o c,a=some ⟨g,o,none⟩/\lo<=g/\Blk w g c t/\c[o+i]?=some (.int .i64 (-1-(k:Int)))/\(own=some g->o+i<nv)/\B g
theorem MkL.step{lo t:Nat}{B:Nat->Prop}{w w':World}{k:Nat}{v:Value}{own own':Option Nat}{nv nv':Nat}(h:MkL lo t B w k v own nv)(hk:∀g c,Blk w g c t->∃c',Blk w' g c' t/\∀j,(own=some g->j<nv)->c'[j]?=c[j]?)(ho:∀g,own'=some g->own=some g\/w.heap.size<=g)(hn:nv<=nv'):MkL lo t B w' k v own' nv':=by
 obtain⟨a,n,cap,e,hc,h⟩:=h;refine⟨a,n,cap,e,hc,fun i hi=>?_⟩;obtain⟨g,o,c,h1,h2,h3,h4,h5,h7⟩:=h i hi;obtain⟨c',k1,k2⟩:=hk g c h3;refine⟨g,o,c',h1,h2,k1,by rw[k2 _ h5];exact h4,fun e=>?_,h7⟩;rcases ho g e with h6|h6
 ·have:=h5 h6;omega
 have:=h3.lt;omega
theorem aa0{w:World}{lo e size n cap g:Nat}{xs:List Value}(h:w.ownsRow lo e size (.slice (some ⟨g,0,none⟩) n cap) n xs):lo<=g/\n<=cap/\cap<=maxLen/\∃c,Blk w g c e/\c.size=cap*size:=by
 rcases h.2 with⟨h2,_⟩|⟨g',cap',cur,h2,hb,hg,hn,hm,hs,ht⟩
 ·cases h2
 cases h2;exact⟨hb,hn,hm,cur,hg,hs⟩
theorem aaK{w:World}{lo e size n cap g:Nat}{c:Array Value}(hb:Blk w g c e)(h1:lo<=g)(h2:n<=cap)(h3:cap<=maxLen)(h4:c.size=cap*size):w.ownsRow lo e size (.slice (some ⟨g,0,none⟩) n cap) n (c.toList.take (n*size)):=by refine⟨?_,.inr ⟨g,cap,c,rfl,h1,hb,h2,h3,h4,rfl⟩⟩;rw[ajq,ajF,h4];exact Nat.min_eq_left (Nat.mul_le_mul_right _ h2)
theorem MkL.free{lo t:Nat}{B:Nat->Prop}{w:World}{k:Nat}{v:Value}{own:Option Nat}{nv:Nat}(h:MkL lo t B w k v own nv):MkL lo t B w k v none 0:=by obtain⟨a,n,cap,e,hc,h⟩:=h;refine⟨a,n,cap,e,hc,fun i hi=>?_⟩;obtain⟨g,o,c,h1,h2,h3,h4,h5,h7⟩:=h i hi;exact⟨g,o,c,h1,h2,h3,h4,(fun e=>by cases e),h7⟩
structure FmF(lo:Nat)(A:Nat->Prop)(w0 w w':World):Prop where
 below:Below lo w w'
 keep:∀g c t,abj t->¬A g->g<w0.heap.size->Blk w g c t->Blk w' g c t
theorem Fm.transF{lo:Nat}{A:Nat->Prop}{w w' w'':World}(h:Fm lo A w w')(k:FmF lo A w w' w''):Fm lo A w w'':=⟨h.below.trans k.below,fun g c t ht ha hb=>k.keep g c t ht ha hb.lt (h.keep g c t ht ha hb)⟩
theorem Fm.mono'{lo:Nat}{A:Nat->Prop}{w0 w w':World}{g6:Nat}(h:Fm lo (some g6=some ·) w w')(hA:A g6\/w0.heap.size<=g6)(hs:w0.heap.size<=w.heap.size):FmF lo A w0 w w':=⟨h.below,fun g c t ht ha hg hb=>h.keep g c t ht (fun e=>by cases e;rcases hA with h1|h1;exact ha h1;omega) hb⟩
theorem abK{lo:Nat}{w:World}{W:Nat}{ms bs ws is fs:List Value}(h:Wd lo w W ms bs ws is fs){a:Option Addr}{n cap:Nat}{xs:List Value}(bn:w.ownsRow lo 2 1 (.slice a n cap) n xs)(hn:n<=1000)(hl:ws.length<=900000000):Calls prog 63 #[ptr W,.slice a n cap] w fun e w'=>e=.returned (.tuple #[])/\∃new:List Value,new.length=5/\Wd lo w' W ms bs (ws++new) is fs/\Fm lo (fun g=>(Value.slice a n cap).ownBlock=some g) w w'/\∀k (hk:k<new.length),MkL lo 2 (fun g=>(Value.slice a n cap).ownBlock=some g\/w.heap.size<=g) w' (ws.length+k) new[k] none 0:=by
 obtain⟨i0,hi,fo,eP,eV⟩:=info_parts sN;obtain⟨nw,Ts⟩:=aja ws.length;obtain⟨A,hA⟩:∃A:Nat->Prop,(fun g=>(Value.slice a n cap).ownBlock=some g)=A:=⟨_,rfl⟩;have aaJ:lo<=w.heap.size:=by obtain⟨v0,v1,v2,v3,v4,hW,_⟩:=h.row;have:=hW.lt;have:=h.low;omega
 have hM:Calls prog 62 #[ptr W,.slice a n cap] w fun e w'=>e=.returned (.tuple #[])/\Wd lo w' W ms bs (ws++[.slice a n cap]) is fs/\Fm lo A w w'/\w'.ownsRow lo 2 1 (.slice a n cap) n (List.replicate n (.int .i64 (-1-(nw:Int))))/\MkL lo 2 (fun g=>A g\/w.heap.size<=g) w' nw (.slice a n cap) (Value.slice a n cap).ownBlock n:=by
  rcases bn.2 with⟨e,e0⟩|⟨g,cap',cur,e,hb,hg,hnc,hm,hs,ht⟩
  ·cases e;refine Calls.mono (aaB (row:=none) (c:=#[]) (o:=0) h (.inl ⟨rfl,rfl⟩) (by omega) (by omega)) ?_;rintro e w' ⟨h1,h2,h3,_⟩;exact⟨h1,h2,h3.mono (fun g e=>by cases e),ajj _ _ _ _,none,0,0,rfl,by omega,fun i hi=>by omega⟩
  cases e;refine Calls.mono (aaB (row:=some g) (c:=cur) (o:=0) h (.inr ⟨g,rfl,rfl,hb,hg,by omega⟩) (by omega) (by omega)) ?_;rintro e w' ⟨h1,h2,h3,h4⟩;rw[Ts]at h4;have h5:=h4 g rfl;have gy:=aaq cur 0 (.int .i64 (-1-(nw:Int))) n;have ou:∀j,j<n->(aaC cur 0 (.int .i64 (-1-(nw:Int))) n)[j]?=some (.int .i64 (-1-(nw:Int))):=fun j hj=>by
   have:=aaI cur 0 (.int .i64 (-1-(nw:Int))) n j hj (by omega)
   rwa [ajx]at this
  refine⟨h1,h2,h3.mono (fun g' e=>.inl (by rw[<-hA];cases e;rfl)),⟨by simp,.inr ⟨g,cap,_,rfl,hb,h5,hnc,hm,by omega,?_⟩⟩,some ⟨g,0,none⟩,n,cap,rfl,by omega,fun i hi=>⟨g,0,_,rfl,hb,h5,by rw[ajx];exact ou i hi,fun _=>by omega,.inl (by rw[<-hA];rfl)⟩⟩;refine List.ext_getElem? fun j=>?_;by_cases hj:j<n
  ·rw[ajI (by omega),Array.getElem?_toList,ou j hj,List.getElem?_replicate,ajd hj]
  rw[ajp (by simp;omega),ajp (by simp;omega)]
 have HM:Hid _:=hM;have HNW:Hid _:=Ts;have zl:Hid _:=aaJ;have HA:Hid _:=hA;have aeS:nw<=900000000:=by omega
 clear hM Ts aaJ h bn hl hA;go_enter func63,ntmps63;go_wp2_with fail;refine Calls.mono HM.out ?_;rintro e w1 ⟨rfl,EA,pj,hO1,mD⟩;clear HM;have HW1:Hid _:=EA;have HF1:Hid _:=pj;have HO1:Hid _:=hO1;have HK1:Hid _:=mD;clear EA pj hO1 mD;go_wp2_with fail;go_loopw [1,4] (fun v i wr=>∃(j:Nat) (av:Option Addr) (nv capv:Nat) (xv new:List Value),v=.slice av nv capv/\i=.int .i64 j/\j<=4/\nv=n+j/\new.length=j+1/\Wd lo wr W ms bs (ws++new) is fs/\wr.ownsRow lo 2 1 (.slice av nv capv) nv xv/\Fm lo A w wr/\(∀g,(Value.slice av nv capv).ownBlock=some g->A g\/w.heap.size<=g)/\∀k (hk:k<new.length),MkL lo 2 (fun g=>A g\/w.heap.size<=g) wr (nw+k) new[k] (Value.slice av nv capv).ownBlock nv) (fun _ i _=>4-(intOf i).toNat)
 case atStart=>
  exact⟨0,a,n,cap,_,[.slice a n cap],rfl,rfl,by omega,by omega,rfl,HW1.out,HO1.out,HF1.out,fun g e=>.inl (by rw[<-HA.out];exact e),fun k hk=>by
   have:k=0:=by simp at hk;exact hk
   subst this
   exact HK1.out⟩
 case round=>
  obtain⟨j,av,nv,capv,xv,new,rfl,rfl,hj,hnv,jW,hWr,hO,hF,qm,um⟩:=hrel;obtain⟨w5,rfl⟩:∃x,x=wr:=⟨wr,rfl⟩;have HNV:Hid (nv=n+j):=hnv;have GA:Hid _:=jW;have Sa:Hid (Wd lo w5 W ms bs (ws++new) is fs):=hWr;have HO:Hid _:=hO;have HF:Hid (Fm lo A w w5):=hF;have G6:Hid _:=qm;have HMK:Hid _:=um;have acv:(nv:Int)<=1004:=by omega
  have ad4:nv<=1004:=by omega
  clear jW hWr hO hF qm um hnv HW1 HF1 HO1 HK1;by_cases hj4:j<4
  ·have ad5:(j:Int)<4:=by omega
   go_wp2_with (at_builtin;refine aar rfl _ _ 31 rfl lo 2 i0 (.int .i64 0) 1 8 underlying31 hi fo eP eV rfl (by decide) (.slice av nv capv) nv xv rfl (World.ownsRow.alloc HO.out _) ⟨w5.heap.size,0,none⟩ 1 1 [.int .i64 0] rfl rfl ?q2 ?q3 ?q4 ?q5 ?q6 ?q7)
   case q2=>exact cell_one_new _ _ _
   case q3=>simp[Value.oneCell']
   case q4=>simp[maxLen];omega
   case q5=>omega
   case q6=>have h1:=zl.out;have h2:=HF.out.below.size;simp;omega
   case q7=>
    intro v' w6 aaV aaT hob Hy;obtain⟨g6,c6,rfl⟩:=cu aaV (by omega);obtain⟨hlg,AO,Ry,cc,Ec,hs6⟩:=aa0 aaV;obtain⟨own,bn⟩:=aja ((Value.slice av nv capv).ownBlock);rw[bn]at aaT hob Hy;have jm:∀r,own=some r->lo<=r/\∃c,Blk w5 r c 2:=fun r e=>ba HO.out r (by rw[bn];exact e);have hw5:w.heap.size<=w5.heap.size:=HF.out.below.size;have xd:Wd lo w6 W ms bs (ws++new) is fs:=Sa.out.keep fun g c t ht hb=>by refine(hb.alloc _).grown aaT (fun e=>?_);obtain⟨_,c2,h2⟩:=jm g e.symm;have h3:=hb.symm.trans h2;cases h3;exact ht (by decide)
    have oQ:Fm lo A w w6:=by
     refine⟨HF.out.below.trans ((cY (aC w5 _ none) (by have:=zl.out;omega) (by simp)).trans (cY aaT (by have:=zl.out;simp;omega) (fun r e=>(jm r e).1))),fun g c t ht ha hb=>?_⟩;refine((HF.out.keep g c t ht ha hb).alloc _).grown aaT (fun e=>?_);rcases G6.out g (by rw[bn];exact e.symm) with h1|h1
     ·exact ha h1
     have:=hb.lt;omega
    have oM:own=some g6\/w5.heap.size<=g6:=by
     rcases hob with h1|h1
     ·exact .inl (by rw[<-h1];rfl)
     refine .inr ?_;have:g6=(w5.alloc (.cells #[.int .i64 0] 2)).heap.size:=by simpa [Value.ownBlock] using h1
     rw[this];simp
    have hA6:A g6\/w.heap.size<=g6:=by
     rcases oM with h1|h1
     ·exact G6.out g6 (by rw[bn];exact h1)
     right;omega
    have D9:∀g c,Blk w5 g c 2->∃c',Blk w6 g c' 2/\∀j,(own=some g->j<nv)->c'[j]?=c[j]?:=fun g c hb=>by obtain⟨c',h1,_,h2⟩:=Hy g c (hb.alloc _);exact⟨c',h1,fun j hj=>h2 j fun e=>by have:=hj e;omega⟩
    have rP:(ws++new).length=nw+(j+1):=by rw[ajb,HNW.out,GA.out]
    have hM:=aaB (row:=some g6) (c:=cc) (o:=nv) (n:=1) (cap:=c6-nv) (a:=some ⟨g6,nv,none⟩) xd (.inr ⟨g6,rfl,rfl,hlg,Ec,by omega⟩) (by omega) (by rw[rP];omega);rw[rP]at hM;have HM:Hid _:=hM;have HK6:Hid _:=D9;have HG6:Hid _:=oM;have HA6:Hid _:=hA6;have HF6:Hid (Fm lo A w w6):=oQ;have SG:Hid (lo<=g6/\c6<=maxLen/\cc.size=c6*1/\Blk w6 g6 cc 2):=⟨hlg,Ry,hs6,Ec⟩;have zw:Hid _:=bn;have ad6:(nv:Int)+1<=(c6:Int):=by omega
    have ad7:=Ec.lt;clear hM D9 oM hA6 oQ xd aaT hob Hy aaV bn jm Ec hs6 rP hw5 hlg Ry;go_wp2_with fail;refine Calls.mono HM.out ?_;rintro e w7 ⟨rfl,CB,rf,rH⟩;have HW7:Hid _:=CB;have Qy:Hid (Fm lo (some g6=some ·) w6 w7):=rf;have Qx:Hid (Blk w7 g6 (aaC cc nv (.int .i64 (-1-((nw+(j+1):Nat):Int))) 1) 2):=rH g6 rfl;clear HM CB rf rH;go_wp2_with fail;go_roundw
    case rel=>
     have gy:=aaq cc nv (.int .i64 (-1-((nw+(j+1):Nat):Int))) 1;have hX:=SG.out;have Py:∀g c,Blk w5 g c 2->∃c',Blk w7 g c' 2/\∀j,(own=some g->j<nv)->c'[j]?=c[j]?:=fun g c hb=>by
      obtain⟨c1,h1,h2⟩:=HK6.out g c hb;by_cases hg:g=g6
      ·subst hg;have od:c1=cc:=by have:=h1.symm.trans hX.2.2.2;cases this;rfl
       subst od;refine⟨_,Qx.out,fun i hi=>?_⟩;have ho:own=some g:=HG6.out.resolve_right (fun h=>by have:=hb.lt;omega);rw[aa2 _ _ _ _ _ (.inl (hi ho))];exact h2 i hi
      exact⟨c1,Qy.out.keep g c1 2 (by decide) (fun e=>hg (Option.some.inj e).symm) h1,h2⟩
     refine⟨j+1,some ⟨g6,0,none⟩,nv+1,c6,_,new++[.slice (some ⟨g6,nv,none⟩) 1 (c6-nv)],rfl,by simp,by omega,by have:=HNV.out;omega,by rw[ajb,GA.out];rfl,by rw[<-List.append_assoc];exact HW7.out,aaK Qx.out hX.1 (by omega) hX.2.1 (by omega),HF6.out.transF (Qy.out.mono' HA6.out HF6.out.below.size),fun g e=>?_,fun k hk=>?_⟩
     ·have e1:g6=g:=by simpa [Value.ownBlock] using e
      rw[<-e1];exact HA6.out
     by_cases xZ:k<new.length
     ·rw[ajn xZ];refine(HMK.out k xZ).step (by rw[zw.out];exact Py) (fun g e=>?_) (by omega);have e1:g6=g:=by simpa [Value.ownBlock] using e
      rw[<-e1,zw.out];exact HG6.out
     have TB:k=j+1:=by rw[ajb,GA.out]at hk;have:=GA.out;simp at hk;omega
     subst TB;rw[ajo (by rw[GA.out];exact nLr _)];simp only[GA.out,Nat.sub_self,List.getElem_cons_zero];refine⟨some ⟨g6,nv,none⟩,1,c6-nv,rfl,by omega,fun i hi=>⟨g6,nv,_,rfl,hX.1,Qx.out,aaI _ _ _ _ _ hi (by omega),fun _=>by omega,HA6.out⟩⟩
    case measure=>simp[intOf];omega
  obtain rfl:j=4:=by omega
  go_wp2_with fail;go_end0;refine⟨rfl,new,GA.out,Sa.out,by rw[HA.out];exact HF.out,fun k hk=>?_⟩;have hm:=HMK.out k hk;rw[<-HA.out]at hm;rw[HNW.out];exact hm.free
theorem aa9{lo:Nat}{w:World}{W:Nat}{ms bs ws is fs:List Value}(h:Wd lo w W ms bs ws is fs){a:Option Addr}{n cap:Nat}{xs:List Value}(bn:w.ownsRow lo 3 1 (.slice a n cap) n xs)(hn:n<=1000)(hl:is.length<=900000000):Calls prog 60 #[ptr W,.slice a n cap] w fun e w'=>e=.returned (.tuple #[])/\∃new:List Value,new.length=5/\Wd lo w' W ms bs ws (is++new) fs/\Fm lo (fun g=>(Value.slice a n cap).ownBlock=some g) w w'/\∀k (hk:k<new.length),MkL lo 3 (fun g=>(Value.slice a n cap).ownBlock=some g\/w.heap.size<=g) w' (is.length+k) new[k] none 0:=by
 obtain⟨i0,hi,fo,eP,eV⟩:=info_parts ml;obtain⟨nw,Ts⟩:=aja is.length;obtain⟨A,hA⟩:∃A:Nat->Prop,(fun g=>(Value.slice a n cap).ownBlock=some g)=A:=⟨_,rfl⟩;have aaJ:lo<=w.heap.size:=by obtain⟨v0,v1,v2,v3,v4,hW,_⟩:=h.row;have:=hW.lt;have:=h.low;omega
 have hM:Calls prog 76 #[ptr W,.slice a n cap] w fun e w'=>e=.returned (.tuple #[])/\Wd lo w' W ms bs ws (is++[.slice a n cap]) fs/\Fm lo A w w'/\w'.ownsRow lo 3 1 (.slice a n cap) n (List.replicate n (.int .i64 (-1-(nw:Int))))/\MkL lo 3 (fun g=>A g\/w.heap.size<=g) w' nw (.slice a n cap) (Value.slice a n cap).ownBlock n:=by
  rcases bn.2 with⟨e,e0⟩|⟨g,cap',cur,e,hb,hg,hnc,hm,hs,ht⟩
  ·cases e;refine Calls.mono (aaM (row:=none) (c:=#[]) (o:=0) h (.inl ⟨rfl,rfl⟩) (by omega) (by omega)) ?_;rintro e w' ⟨h1,h2,h3,_⟩;exact⟨h1,h2,h3.mono (fun g e=>by cases e),ajj _ _ _ _,none,0,0,rfl,by omega,fun i hi=>by omega⟩
  cases e;refine Calls.mono (aaM (row:=some g) (c:=cur) (o:=0) h (.inr ⟨g,rfl,rfl,hb,hg,by omega⟩) (by omega) (by omega)) ?_;rintro e w' ⟨h1,h2,h3,h4⟩;rw[Ts]at h4;have h5:=h4 g rfl;have gy:=aaq cur 0 (.int .i64 (-1-(nw:Int))) n;have ou:∀j,j<n->(aaC cur 0 (.int .i64 (-1-(nw:Int))) n)[j]?=some (.int .i64 (-1-(nw:Int))):=fun j hj=>by
   have:=aaI cur 0 (.int .i64 (-1-(nw:Int))) n j hj (by omega)
   rwa [ajx]at this
  refine⟨h1,h2,h3.mono (fun g' e=>.inl (by rw[<-hA];cases e;rfl)),⟨by simp,.inr ⟨g,cap,_,rfl,hb,h5,hnc,hm,by omega,?_⟩⟩,some ⟨g,0,none⟩,n,cap,rfl,by omega,fun i hi=>⟨g,0,_,rfl,hb,h5,by rw[ajx];exact ou i hi,fun _=>by omega,.inl (by rw[<-hA];rfl)⟩⟩;refine List.ext_getElem? fun j=>?_;by_cases hj:j<n
  ·rw[ajI (by omega),Array.getElem?_toList,ou j hj,List.getElem?_replicate,ajd hj]
  rw[ajp (by simp;omega),ajp (by simp;omega)]
 have HM:Hid _:=hM;have HNW:Hid _:=Ts;have zl:Hid _:=aaJ;have HA:Hid _:=hA;have aeS:nw<=900000000:=by omega
 clear hM Ts aaJ h bn hl hA;go_enter func60,ntmps60;go_wp2_with fail;refine Calls.mono HM.out ?_;rintro e w1 ⟨rfl,EA,pj,hO1,mD⟩;clear HM;have HW1:Hid _:=EA;have HF1:Hid _:=pj;have HO1:Hid _:=hO1;have HK1:Hid _:=mD;clear EA pj hO1 mD;go_wp2_with fail;go_loopw [1,4] (fun v i wr=>∃(j:Nat) (av:Option Addr) (nv capv:Nat) (xv new:List Value),v=.slice av nv capv/\i=.int .i64 j/\j<=4/\nv=n+j/\new.length=j+1/\Wd lo wr W ms bs ws (is++new) fs/\wr.ownsRow lo 3 1 (.slice av nv capv) nv xv/\Fm lo A w wr/\(∀g,(Value.slice av nv capv).ownBlock=some g->A g\/w.heap.size<=g)/\∀k (hk:k<new.length),MkL lo 3 (fun g=>A g\/w.heap.size<=g) wr (nw+k) new[k] (Value.slice av nv capv).ownBlock nv) (fun _ i _=>4-(intOf i).toNat)
 case atStart=>
  exact⟨0,a,n,cap,_,[.slice a n cap],rfl,rfl,by omega,by omega,rfl,HW1.out,HO1.out,HF1.out,fun g e=>.inl (by rw[<-HA.out];exact e),fun k hk=>by
   have:k=0:=by simp at hk;exact hk
   subst this
   exact HK1.out⟩
 case round=>
  obtain⟨j,av,nv,capv,xv,new,rfl,rfl,hj,hnv,jW,hWr,hO,hF,qm,um⟩:=hrel;obtain⟨w5,rfl⟩:∃x,x=wr:=⟨wr,rfl⟩;have HNV:Hid (nv=n+j):=hnv;have GA:Hid _:=jW;have Sa:Hid (Wd lo w5 W ms bs ws (is++new) fs):=hWr;have HO:Hid _:=hO;have HF:Hid (Fm lo A w w5):=hF;have G6:Hid _:=qm;have HMK:Hid _:=um;have acv:(nv:Int)<=1004:=by omega
  have ad4:nv<=1004:=by omega
  clear jW hWr hO hF qm um hnv HW1 HF1 HO1 HK1;by_cases hj4:j<4
  ·have ad5:(j:Int)<4:=by omega
   go_wp2_with (at_builtin;refine aar rfl _ _ 44 rfl lo 3 i0 (.int .i64 0) 1 8 underlying44 hi fo eP eV rfl (by decide) (.slice av nv capv) nv xv rfl (World.ownsRow.alloc HO.out _) ⟨w5.heap.size,0,none⟩ 1 1 [.int .i64 0] rfl rfl ?q2 ?q3 ?q4 ?q5 ?q6 ?q7)
   case q2=>exact cell_one_new _ _ _
   case q3=>simp[Value.oneCell']
   case q4=>simp[maxLen];omega
   case q5=>omega
   case q6=>have h1:=zl.out;have h2:=HF.out.below.size;simp;omega
   case q7=>
    intro v' w6 aaV aaT hob Hy;obtain⟨g6,c6,rfl⟩:=cu aaV (by omega);obtain⟨hlg,AO,Ry,cc,Ec,hs6⟩:=aa0 aaV;obtain⟨own,bn⟩:=aja ((Value.slice av nv capv).ownBlock);rw[bn]at aaT hob Hy;have jm:∀r,own=some r->lo<=r/\∃c,Blk w5 r c 3:=fun r e=>ba HO.out r (by rw[bn];exact e);have hw5:w.heap.size<=w5.heap.size:=HF.out.below.size;have xd:Wd lo w6 W ms bs ws (is++new) fs:=Sa.out.keep fun g c t ht hb=>by refine(hb.alloc _).grown aaT (fun e=>?_);obtain⟨_,c2,h2⟩:=jm g e.symm;have h3:=hb.symm.trans h2;cases h3;exact ht (by decide)
    have oQ:Fm lo A w w6:=by
     refine⟨HF.out.below.trans ((cY (aC w5 _ none) (by have:=zl.out;omega) (by simp)).trans (cY aaT (by have:=zl.out;simp;omega) (fun r e=>(jm r e).1))),fun g c t ht ha hb=>?_⟩;refine((HF.out.keep g c t ht ha hb).alloc _).grown aaT (fun e=>?_);rcases G6.out g (by rw[bn];exact e.symm) with h1|h1
     ·exact ha h1
     have:=hb.lt;omega
    have oM:own=some g6\/w5.heap.size<=g6:=by
     rcases hob with h1|h1
     ·exact .inl (by rw[<-h1];rfl)
     refine .inr ?_;have:g6=(w5.alloc (.cells #[.int .i64 0] 3)).heap.size:=by simpa [Value.ownBlock] using h1
     rw[this];simp
    have hA6:A g6\/w.heap.size<=g6:=by
     rcases oM with h1|h1
     ·exact G6.out g6 (by rw[bn];exact h1)
     right;omega
    have D9:∀g c,Blk w5 g c 3->∃c',Blk w6 g c' 3/\∀j,(own=some g->j<nv)->c'[j]?=c[j]?:=fun g c hb=>by obtain⟨c',h1,_,h2⟩:=Hy g c (hb.alloc _);exact⟨c',h1,fun j hj=>h2 j fun e=>by have:=hj e;omega⟩
    have rP:(is++new).length=nw+(j+1):=by rw[ajb,HNW.out,GA.out]
    have hM:=aaM (row:=some g6) (c:=cc) (o:=nv) (n:=1) (cap:=c6-nv) (a:=some ⟨g6,nv,none⟩) xd (.inr ⟨g6,rfl,rfl,hlg,Ec,by omega⟩) (by omega) (by rw[rP];omega);rw[rP]at hM;have HM:Hid _:=hM;have HK6:Hid _:=D9;have HG6:Hid _:=oM;have HA6:Hid _:=hA6;have HF6:Hid (Fm lo A w w6):=oQ;have SG:Hid (lo<=g6/\c6<=maxLen/\cc.size=c6*1/\Blk w6 g6 cc 3):=⟨hlg,Ry,hs6,Ec⟩;have zw:Hid _:=bn;have ad6:(nv:Int)+1<=(c6:Int):=by omega
    have ad7:=Ec.lt;clear hM D9 oM hA6 oQ xd aaT hob Hy aaV bn jm Ec hs6 rP hw5 hlg Ry;go_wp2_with fail;refine Calls.mono HM.out ?_;rintro e w7 ⟨rfl,CB,rf,rH⟩;have HW7:Hid _:=CB;have Qy:Hid (Fm lo (some g6=some ·) w6 w7):=rf;have Qx:Hid (Blk w7 g6 (aaC cc nv (.int .i64 (-1-((nw+(j+1):Nat):Int))) 1) 3):=rH g6 rfl;clear HM CB rf rH;go_wp2_with fail;go_roundw
    case rel=>
     have gy:=aaq cc nv (.int .i64 (-1-((nw+(j+1):Nat):Int))) 1;have hX:=SG.out;have Py:∀g c,Blk w5 g c 3->∃c',Blk w7 g c' 3/\∀j,(own=some g->j<nv)->c'[j]?=c[j]?:=fun g c hb=>by
      obtain⟨c1,h1,h2⟩:=HK6.out g c hb;by_cases hg:g=g6
      ·subst hg;have od:c1=cc:=by have:=h1.symm.trans hX.2.2.2;cases this;rfl
       subst od;refine⟨_,Qx.out,fun i hi=>?_⟩;have ho:own=some g:=HG6.out.resolve_right (fun h=>by have:=hb.lt;omega);rw[aa2 _ _ _ _ _ (.inl (hi ho))];exact h2 i hi
      exact⟨c1,Qy.out.keep g c1 3 (by decide) (fun e=>hg (Option.some.inj e).symm) h1,h2⟩
     refine⟨j+1,some ⟨g6,0,none⟩,nv+1,c6,_,new++[.slice (some ⟨g6,nv,none⟩) 1 (c6-nv)],rfl,by simp,by omega,by have:=HNV.out;omega,by rw[ajb,GA.out];rfl,by rw[<-List.append_assoc];exact HW7.out,aaK Qx.out hX.1 (by omega) hX.2.1 (by omega),HF6.out.transF (Qy.out.mono' HA6.out HF6.out.below.size),fun g e=>?_,fun k hk=>?_⟩
     ·have e1:g6=g:=by simpa [Value.ownBlock] using e
      rw[<-e1];exact HA6.out
     by_cases xZ:k<new.length
     ·rw[ajn xZ];refine(HMK.out k xZ).step (by rw[zw.out];exact Py) (fun g e=>?_) (by omega);have e1:g6=g:=by simpa [Value.ownBlock] using e
      rw[<-e1,zw.out];exact HG6.out
     have TB:k=j+1:=by rw[ajb,GA.out]at hk;have:=GA.out;simp at hk;omega
     subst TB;rw[ajo (by rw[GA.out];exact nLr _)];simp only[GA.out,Nat.sub_self,List.getElem_cons_zero];refine⟨some ⟨g6,nv,none⟩,1,c6-nv,rfl,by omega,fun i hi=>⟨g6,nv,_,rfl,hX.1,Qx.out,aaI _ _ _ _ _ hi (by omega),fun _=>by omega,HA6.out⟩⟩
    case measure=>simp[intOf];omega
  obtain rfl:j=4:=by omega
  go_wp2_with fail;go_end0;refine⟨rfl,new,GA.out,Sa.out,by rw[HA.out];exact HF.out,fun k hk=>?_⟩;have hm:=HMK.out k hk;rw[<-HA.out]at hm;rw[HNW.out];exact hm.free
