import Derived.Test.YtjbdgbdcnjopkaaGreatDoorS35
import Derived.Test.YtjbdgbdcnjopkaaGreatDoorS38
import Derived.Test.YtjbdgbdcnjopkaaGreatDoorS42
namespace Go.Proofs.YtjbdgbdcnjopkaaGreatDoor
open Go.RowKit Tryz
set_option linter.all false
set_option maxRecDepth 100000
set_option maxHeartbeats 4000000
def cB(w:World)(mm:bf)(T:Nat->LSt)(R:Nat->aX)(n:Nat)(ok:Nat->Prop):Nat->Nat->List Nat->Nat->Prop
 |0,_,_,_=>False
 |_+1,i,[],j=>i=j
 |k+1,i,a::l,j=>∃(op:Nat) (num:Int) (vl vt vg vb ve:Value) (ew:Bool) (i':Nat),
   i<n/\cr op=some (R i).aa/\bp w a op num vl vt vg vb ve ew/\eu (R i) num/\aR w vl (iK (R i))/\FSt (T i) (T i') /\
   ((¬(2<=op/\op<=6)/\i'=i+1)\/(2<=op/\op<=4/\∃sig body e1,mm.sigs[(R i).idx.headD 0]?=some sig/\aR w vt sig.1/\aR w vg sig.2/\fN w ok vb body/\cB w mm T R n ok k (i+1) body e1/\FSt (T (i+1)) (T e1)/\i<e1/\e1<n /\
    (((R e1).aa.au=6/\ew=false/\i'=e1+1)\/((R e1).aa.au=5/\ew=true/\∃el e2,fN w ok ve el/\cB w mm T R n ok k (e1+1) el e2/\FSt (T (e1+1)) (T e2)/\e1<e2/\e2<n/\(R e2).aa.au=6/\i'=e2+1)))) /\
   cB w mm T R n ok k i' l j
def Bh(op:Nat)(k:K5):Prop:=
 (op<=16/\k.au=op)\/(op=20/\k.au=17/\k.ak=1)\/(op=21/\k.au=17/\k.ak=2) \/
 (30<=op/\op<=41/\k=⟨op-12,0,2,1,1⟩)\/(50<=op/\op<=59/\k=⟨op-32,0,2,2,2⟩)\/(60<=op/\op<=61/\k=⟨op-32,0,2,2,1⟩) \/
 (op=42/\k=⟨30,0,1,1,1⟩)\/(op=62/\k=⟨30,0,1,2,1⟩)\/(op=70/\k=⟨31,0,1,2,1⟩)\/(op=71/\k=⟨32,0,1,1,2⟩)
theorem DC:∀x∈dS,Bh x.1 x.2:=by intro x hx;simp only[dS,ajG,List.not_mem_nil,or_false]at hx;unfold Bh;rcases hx with rfl|rfl|rfl|rfl|rfl|rfl|rfl|rfl|rfl|rfl|rfl|rfl|rfl|rfl|rfl|rfl|rfl|rfl|rfl|rfl|rfl|rfl|rfl|rfl|rfl|rfl|rfl|rfl|rfl|rfl|rfl|rfl|rfl|rfl|rfl|rfl|rfl|rfl|rfl|rfl|rfl|rfl|rfl|rfl|rfl|rfl|rfl;all_goals simp
theorem nY{op:Nat}{k:K5}(h:cr op=some k):Bh op k:=DC _ (kL h)
section
variable {w w':World}{mm:bf}{ok ok':Nat->Prop}{ai ak:List Nat}{f:ck}{T:Nat->LSt}{R:Nat->aX}{P:Nat->Nat}{n:Nat}
theorem cB.keep(k1:∀g cs t,t=157\/t=155\/t=3->Blk w g cs t->Blk w' g cs t):∀(k i:Nat) (l:List Nat) (j:Nat),cB w mm T R n ok k i l j->cB w' mm T R n ok k i l j
 |0,i,l,j,h=>h
 |k+1,i,[],j,h=>h
 |k+1,i,a::l,j,h=>by
  have k3:∀g c,Blk w g c 3->Blk w' g c 3:=fun g c hb=>k1 g c 3 (.inr (.inr rfl)) hb;have kp:∀{v:Value}{l:List Nat},fN w ok v l->fN w' ok v l:=fun hp=>hp.keep fun g cs ho hb=>⟨k1 g cs 155 (.inr (.inl rfl)) hb,ho⟩;obtain⟨op,num,vl,vt,vg,vb,ve,ew,i',e1,e2,e3,e4,e5,e6,e7,e8⟩:=h;refine⟨op,num,vl,vt,vg,vb,ve,ew,i',e1,e2,k1 _ _ _ (.inl rfl) e3,e4,e5.keep k3,e6,?_,cB.keep k1 k i' l j e8⟩;rcases e7 with e7|⟨a1,a2,sig,body,q1,a3,a4,a5,a6,a7,a8,a9,a10,a11⟩
  ·exact .inl e7
  refine .inr ⟨a1,a2,sig,body,q1,a3,a4.keep k3,a5.keep k3,kp a6,cB.keep k1 k _ _ _ a7,a8,a9,a10,?_⟩;rcases a11 with a11|⟨b1,b2,el,q2,b3,b4,b5⟩
  ·exact .inl a11
  exact .inr ⟨b1,b2,el,q2,kp b3,cB.keep k1 k _ _ _ b4,b5⟩
theorem nG{c:List UInt8}{p op:Nat}{st:aX}(h:bJ c p=some st)(hb:fS c p=some op):cr op=some st.aa:=by
 have hp:p<c.length:=by have h1:=fB h;have h2:=im h;omega
 have:=tF hp h;unfold fS at hb;rw[gEg hp]at hb;simp at hb;rw[<-hb];exact this
theorem kq{c:List UInt8}{p op:Nat}{st:aX}(h:bJ c p=some st)(hb:fS c p=some op)(ho:op<=16):st.aa.au=op:=by
 rcases nY (nG h hb) with q|q|q|q|q|q|q|q|q|q
 ·exact q.2
 all_goals omega
theorem ix(L:bL mm ai ak f T R P n)(Is:f.code.length<=P n):∀(k p:Nat) (l:List Nat) (q:Nat),bI w mm f.code ok k p l q->q<f.code.length->∀i,i<=n->P i=p->∃j,cB w mm T R n ok k i l j/\P j=q/\j<n/\i<=j/\FSt (T i) (T j)
 |0,p,l,q,h,hq,i,hi,hp=>h.elim
 |k+1,p,[],q,h,hq,i,hi,hp=>by
  have e:p=q:=h;subst e;refine⟨i,rfl,hp,?_,nLr _,FSt.refl _⟩;rcases Nat.lt_or_ge i n with q|q
  ·exact q
  obtain rfl:i=n:=by omega
  omega
 |k+1,p,a::l,q,h,hq,i,hi,hp=>by
  obtain⟨st,op,num,vl,vt,vg,vb,ve,ew,p',e1,e2,e3,e4,e5,e6,e7,e8⟩:=h;have jF:p<f.code.length:=by have h1:=fB e1;have h2:=im e1;omega
  have ou:i<n:=by
   rcases Nat.lt_or_ge i n with q|q
   ·exact q
   obtain rfl:i=n:=by omega
   omega
  obtain⟨S,en⟩:=L.trace i ou;have cT:R i=st:=by have:=S.read;rw[hp,e1]at this;exact(Option.some.inj this).symm
  subst cT;have IW:=nG e1 e2;rcases e7 with⟨a1,a2⟩|⟨a1,a2,sig,body,q1,a3,a4,a5,a6,a7,a8⟩
  ·have dL:¬(2<=(R i).aa.au/\(R i).aa.au<=6):=by
    rcases nY IW with q|q|q|q|q|q|q|q|q|q
    ·rw[q.2];exact a1
    ·omega
    ·omega
    ·obtain⟨_,_,q⟩:=q;rw[q];show ¬(2<=op-12/\op-12<=6);omega
    ·obtain⟨_,_,q⟩:=q;rw[q];show ¬(2<=op-32/\op-32<=6);omega
    ·obtain⟨_,_,q⟩:=q;rw[q];show ¬(2<=op-32/\op-32<=6);omega
    ·rw[q.2];show ¬(2<=30/\30<=6);omega
    ·rw[q.2];show ¬(2<=30/\30<=6);omega
    ·rw[q.2];show ¬(2<=31/\31<=6);omega
    rw[q.2];show ¬(2<=32/\32<=6);omega
   have kJ:=L.fsStep ou dL;obtain⟨j,b1,b2,b3,b4,b5⟩:=ix L Is k p' l q e8 hq (i+1) (by omega) (by rw[en,a2]);exact⟨j,⟨op,num,vl,vt,vg,vb,ve,ew,i+1,ou,IW,e3,e5,e6,kJ,.inl ⟨a1,rfl⟩,b1⟩,b2,b3,by omega,kJ.trans b5⟩
  have I1:(R i).aa.au=op:=kq e1 e2 (by omega);have SA:q1<f.code.length:=by
   rcases a8 with⟨b1,_⟩|⟨b1,_⟩
   ·unfold fS at b1;obtain⟨x,hx,_⟩:=Option.map_eq_some_iff.1 b1;exact(gEs.1 hx).1
   unfold fS at b1;obtain⟨x,hx,_⟩:=Option.map_eq_some_iff.1 b1;exact(gEs.1 hx).1
  obtain⟨e1',c1,c2,c3,c4,c5⟩:=ix L Is k (R i).next body q1 a7 SA (i+1) (by omega) en;obtain⟨S1,en1⟩:=L.trace e1' c3;have mB:=S1.read;rw[c2]at mB;rcases a8 with⟨b1,b2,b3⟩|⟨b1,b2,el,q2,b3,b4,b5,b6⟩
  ·have AO:(R e1').aa.au=6:=kq mB b1 (by omega);have ph:(R e1').next=q1+1:=by
    have zu:=nG mB b1;unfold bJ at mB;split at mB
    ·split at mB
     ·cases mB
     rename_i kk KX;obtain⟨y,hy,hz⟩:=Option.map_eq_some_iff.1 mB;have QB:kk.ab=0:=by
      have:(R e1').aa=kk:=by rw[<-hz]
      have J9:cr 6=some ⟨6,0,0,0,0⟩:=rfl;rw[J9]at zu;have:=Option.some.inj zu;rw[<-‹(R e1').aa=kk›,<-this]
     rw[QB]at hy;unfold bq at hy;simp at hy;rw[<-hz,<-hy]
    cases mB
   have kJ:=L.fsClose ou (by omega) c3 AO c5;obtain⟨j,d1,d2,d3,d4,d5⟩:=ix L Is k p' l q e8 hq (e1'+1) (by omega) (by rw[en1,ph,b3]);exact⟨j,⟨op,num,vl,vt,vg,vb,ve,ew,e1'+1,ou,IW,e3,e5,e6,kJ,.inr ⟨a1,a2,sig,body,e1',a3,a4,a5,a6,c1,c5,by omega,c3,.inl ⟨AO,b2,rfl⟩⟩,d1⟩,d2,d3,by omega,kJ.trans d5⟩
  have Up:(R e1').aa.au=5:=kq mB b1 (by omega);have ph:(R e1').next=q1+1:=by
   have zu:=nG mB b1;unfold bJ at mB;split at mB
   ·split at mB
    ·cases mB
    rename_i kk KX;obtain⟨y,hy,hz⟩:=Option.map_eq_some_iff.1 mB;have QB:kk.ab=0:=by
     have:(R e1').aa=kk:=by rw[<-hz]
     have J9:cr 5=some ⟨5,0,0,0,0⟩:=rfl;rw[J9]at zu;have:=Option.some.inj zu;rw[<-‹(R e1').aa=kk›,<-this]
    rw[QB]at hy;unfold bq at hy;simp at hy;rw[<-hz,<-hy]
   cases mB
  have Pt:q2<f.code.length:=by unfold fS at b5;obtain⟨x,hx,_⟩:=Option.map_eq_some_iff.1 b5;exact(gEs.1 hx).1
  obtain⟨e2',g1,g2,g3,g4,g5⟩:=ix L Is k (q1+1) el q2 b4 Pt (e1'+1) (by omega) (by rw[en1,ph]);obtain⟨S2,en2⟩:=L.trace e2' g3;have lM:=S2.read;rw[g2]at lM;have AO:(R e2').aa.au=6:=kq lM b5 (by omega);have U3:(R e2').next=q2+1:=by
   have zu:=nG lM b5;unfold bJ at lM;split at lM
   ·split at lM
    ·cases lM
    rename_i kk KX;obtain⟨y,hy,hz⟩:=Option.map_eq_some_iff.1 lM;have QB:kk.ab=0:=by
     have:(R e2').aa=kk:=by rw[<-hz]
     have J9:cr 6=some ⟨6,0,0,0,0⟩:=rfl;rw[J9]at zu;have:=Option.some.inj zu;rw[<-‹(R e2').aa=kk›,<-this]
    rw[QB]at hy;unfold bq at hy;simp at hy;rw[<-hz,<-hy]
   cases lM
  have kJ:=L.fsElse ou (by omega) c3 Up c5 g3 AO g5;obtain⟨j,d1,d2,d3,d4,d5⟩:=ix L Is k p' l q e8 hq (e2'+1) (by omega) (by rw[en2,U3,b6]);exact⟨j,⟨op,num,vl,vt,vg,vb,ve,ew,e2'+1,ou,IW,e3,e5,e6,kJ,.inr ⟨a1,a2,sig,body,e1',a3,a4,a5,a6,c1,c5,by omega,c3,.inr ⟨Up,b2,el,e2',b3,g1,g5,by omega,g3,AO,rfl⟩⟩,d1⟩,d2,d3,by omega,kJ.trans d5⟩
end
section
variable {w w' w2:World}{c W f gl m left ay e waits a:Nat}{L S:List TV}{num:Int}{v2 v3 v4 v5 v6 v7:Value}
theorem aae{op:Nat}{Q:Ending->World->Prop}(h1:30<=op)(h2:op≠42)(h3:op<=61)(hn:Blk w a #[.int .i64 op,.int .i64 num,v2,v3,v4,v5,v6,v7] 157)(h:Calls prog 155 #[ptr c,.int .i64 op] w fun r w'=>r=.returned (.tuple #[])/\Q r w'):Calls prog 126 #[ptr c,ptr a] w fun r w'=>r=.returned (.tuple #[])/\Q r w':=by have k0:=hn.cell 0;simp at k0;have dW:=hn.lt;have n1:((op:Int)==1)=false:=beqn (by omega);have n12:((op:Int)==12)=false:=beqn (by omega);have n13:((op:Int)==13)=false:=beqn (by omega);have n14:((op:Int)==14)=false:=beqn (by omega);have n15:((op:Int)==15)=false:=beqn (by omega);have n16:((op:Int)==16)=false:=beqn (by omega);have n20:((op:Int)==20)=false:=beqn (by omega);have n21:((op:Int)==21)=false:=beqn (by omega);have n42:((op:Int)==42)=false:=beqn (by omega);have n62:((op:Int)==62)=false:=beqn (by omega);have n70:((op:Int)==70)=false:=beqn (by omega);have n71:((op:Int)==71)=false:=beqn (by omega);have H:Hid _:=h;clear h h1 h2 h3 hn;go_enter func126,ntmps126;go_wp2_with fail;refine Calls.mono H.out ?_;clear H;rintro r w3 ⟨rfl,hq⟩;have HQ:Hid _:=hq;clear hq;go_wp2_with fail;go_end0;exact⟨rfl,HQ.out⟩
theorem aak{op t:Nat}(ho:(op=20/\t=1)\/(op=21/\t=2))(hn:Blk w a #[.int .i64 op,.int .i64 num,v2,v3,v4,v5,v6,v7] 157)(hc:aI w c W f gl L S)(hm:cE w W m left ay false e waits)(hS:S.length<=900000):Calls prog 126 #[ptr c,ptr a] w fun r w'=>r=.returned (.tuple #[])/\nE w w' c W f gl L (S++[(t,num)]) m left ay e waits:=by
 have k0:=hn.cell 0;have k1:=hn.cell 1;simp at k0 k1;have dW:=hn.lt;have hP:=Ds (t:=t) (n:=num) hc (by omega);rcases ho with⟨rfl,rfl⟩|⟨rfl,rfl⟩
 ·simp only[show ((20:Nat):Int)=20 from rfl,show ((1:Nat):Int)=1 from rfl]at k0 hP
  go_enter func126,ntmps126;go_wp2_with fail;refine hP.mono ?_;clear hP;rintro e1 w3 ⟨rfl,hg,hC⟩;have rL:=hm.wroteC hc hg;clear hm hc;go_wp2_with fail;go_end0;exact⟨rfl,Fc.call hg,hC,rL⟩
 simp only[show ((21:Nat):Int)=21 from rfl,show ((2:Nat):Int)=2 from rfl]at k0 hP
 go_enter func126,ntmps126;go_wp2_with fail;refine hP.mono ?_;clear hP;rintro e1 w3 ⟨rfl,hg,hC⟩;have rL:=hm.wroteC hc hg;clear hm hc;go_wp2_with fail;go_end0;exact⟨rfl,Fc.call hg,hC,rL⟩
theorem aal{t:Nat}{x:Int}{op:Nat}(ho:(op=42/\t=1)\/(op=62/\t=2))(hn:Blk w a #[.int .i64 op,.int .i64 num,v2,v3,v4,v5,v6,v7] 157)(hc:aI w c W f gl L (S++[(t,x)]))(hm:cE w W m left ay false e waits)(hS:S.length<=900000):Calls prog 126 #[ptr c,ptr a] w fun r w'=>r=.returned (.tuple #[])/\nE w w' c W f gl L (S++[(1,bx (x==0))]) m left ay e waits:=by
 have k0:=hn.cell 0;simp at k0;have dW:=hn.lt;have iV:=tM (t':=t) hc (.inr rfl) (by omega);have qL:Hid (∀(W2:World) (n:Int),aI W2 c W f gl L S->Calls prog 152 #[ptr c,.int .i64 1,.int .i64 n] W2 fun r w'=>r=.returned (.tuple #[])/\W2.grownBy w' (some c)/\aI w' c W f gl L (S++[(1,n)])):=fun W2 n h2=>Ds (t:=1) (n:=n) h2 (by omega);rcases ho with⟨rfl,rfl⟩|⟨rfl,rfl⟩
 ·simp only[show ((42:Nat):Int)=42 from rfl,show ((1:Nat):Int)=1 from rfl]at k0 iV
  go_enter func126,ntmps126;go_wp2_with fail;refine iV.mono ?_;clear iV;rintro e1 w2 ⟨rfl,aP,fc⟩;have rL:=hm.wroteC hc aP;have dq:Fc c W gl w w2:=Fc.call aP;clear hm hc aP;have gz:=fc.grown (aC w2 (.cells #[.int .i64 1,.int .i64 x] 134) none);have md:cE _ _ _ _ _ _ _ _:=Blk.alloc rL (.cells #[.int .i64 1,.int .i64 x] 134);have et:Fc c W gl w _:=dq.trans (Fc.none (aC w2 (.cells #[.int .i64 1,.int .i64 x] 134) none));have UY:Hid _:=gz;have UZ:Hid _:=md;have GB:Hid _:=et;clear gz md et fc rL dq;go_wp2_with (go_at_call 153;refine(J3 _).mono ?_;rintro e7 w7 ⟨rfl,rfl⟩)
  refine Calls.mono (qL.out _ _ UY.out) ?_;rintro e5 w5 ⟨rfl,jA,pm⟩;have qn:=cE.wroteC UZ.out UY.out jA;have iv:=Fc.trans GB.out (Fc.call jA);clear qL UY UZ GB jA;go_wp2_with fail;go_end0;exact⟨rfl,iv,pm,qn⟩
 simp only[show ((62:Nat):Int)=62 from rfl,show ((2:Nat):Int)=2 from rfl]at k0 iV
 go_enter func126,ntmps126;go_wp2_with fail;refine iV.mono ?_;clear iV;rintro e1 w2 ⟨rfl,aP,fc⟩;have rL:=hm.wroteC hc aP;have dq:Fc c W gl w w2:=Fc.call aP;clear hm hc aP;have gz:=fc.grown (aC w2 (.cells #[.int .i64 2,.int .i64 x] 134) none);have md:cE _ _ _ _ _ _ _ _:=Blk.alloc rL (.cells #[.int .i64 2,.int .i64 x] 134);have et:Fc c W gl w _:=dq.trans (Fc.none (aC w2 (.cells #[.int .i64 2,.int .i64 x] 134) none));have UY:Hid _:=gz;have UZ:Hid _:=md;have GB:Hid _:=et;clear gz md et fc rL dq;go_wp2_with (go_at_call 153;refine(J3 _).mono ?_;rintro e7 w7 ⟨rfl,rfl⟩)
 refine Calls.mono (qL.out _ _ UY.out) ?_;rintro e5 w5 ⟨rfl,jA,pm⟩;have qn:=cE.wroteC UZ.out UY.out jA;have iv:=Fc.trans GB.out (Fc.call jA);clear qL UY UZ GB jA;go_wp2_with fail;go_end0;exact⟨rfl,iv,pm,qn⟩
theorem aam{x:Int}(hn:Blk w a #[.int .i64 70,.int .i64 num,v2,v3,v4,v5,v6,v7] 157)(hc:aI w c W f gl L (S++[(2,x)]))(hm:cE w W m left ay false e waits)(hS:S.length<=900000):Calls prog 126 #[ptr c,ptr a] w fun r w'=>r=.returned (.tuple #[])/\nE w w' c W f gl L (S++[(1,wrap32 x)]) m left ay e waits:=by
 have k0:=hn.cell 0;simp at k0;have dW:=hn.lt;have iV:=tM (t':=2) hc (.inr rfl) (by omega);have qL:Hid (∀(W2:World) (n:Int),aI W2 c W f gl L S->Calls prog 152 #[ptr c,.int .i64 1,.int .i64 n] W2 fun r w'=>r=.returned (.tuple #[])/\W2.grownBy w' (some c)/\aI w' c W f gl L (S++[(1,n)])):=fun W2 n h2=>Ds (t:=1) (n:=n) h2 (by omega);simp only[show ((2:Nat):Int)=2 from rfl]at iV
 have hN:=fun w=>o7 (w:=w) x;rw[oY]at hN;go_enter func126,ntmps126;go_wp2_with fail;refine iV.mono ?_;clear iV;rintro e1 w2 ⟨rfl,aP,fc⟩;have rL:=hm.wroteC hc aP;have dq:Fc c W gl w w2:=Fc.call aP;clear hm hc aP;have gz:=fc.grown (aC w2 (.cells #[.int .i64 2,.int .i64 x] 134) none);have md:cE _ _ _ _ _ _ _ _:=Blk.alloc rL (.cells #[.int .i64 2,.int .i64 x] 134);have et:Fc c W gl w _:=dq.trans (Fc.none (aC w2 (.cells #[.int .i64 2,.int .i64 x] 134) none));have UY:Hid _:=gz;have UZ:Hid _:=md;have GB:Hid _:=et;clear gz md et fc rL dq;go_wp2_with (go_at_call 154;refine(hN _).mono ?_;rintro e7 w7 ⟨rfl,rfl⟩)
 refine Calls.mono (qL.out _ _ UY.out) ?_;rintro e5 w5 ⟨rfl,jA,pm⟩;have qn:=cE.wroteC UZ.out UY.out jA;have iv:=Fc.trans GB.out (Fc.call jA);clear qL UY UZ GB jA;go_wp2_with fail;go_end0;exact⟨rfl,iv,pm,qn⟩
theorem aan{x:Int}(hn:Blk w a #[.int .i64 71,.int .i64 num,v2,v3,v4,v5,v6,v7] 157)(hc:aI w c W f gl L (S++[(1,x)]))(hm:cE w W m left ay false e waits)(hS:S.length<=900000):Calls prog 126 #[ptr c,ptr a] w fun r w'=>r=.returned (.tuple #[])/\nE w w' c W f gl L (S++[(2,x)]) m left ay e waits:=by
 have k0:=hn.cell 0;simp at k0;have dW:=hn.lt;have iV:=tM (t':=1) hc (.inr rfl) (by omega);have qL:Hid (∀(W2:World) (n:Int),aI W2 c W f gl L S->Calls prog 152 #[ptr c,.int .i64 2,.int .i64 n] W2 fun r w'=>r=.returned (.tuple #[])/\W2.grownBy w' (some c)/\aI w' c W f gl L (S++[(2,n)])):=fun W2 n h2=>Ds (t:=2) (n:=n) h2 (by omega);simp only[show ((1:Nat):Int)=1 from rfl]at iV
 go_enter func126,ntmps126;go_wp2_with fail;refine iV.mono ?_;clear iV;rintro e1 w2 ⟨rfl,aP,fc⟩;have rL:=hm.wroteC hc aP;have dq:Fc c W gl w w2:=Fc.call aP;clear hm hc aP;have gz:=fc.grown (aC w2 (.cells #[.int .i64 1,.int .i64 x] 134) none);have md:cE _ _ _ _ _ _ _ _:=Blk.alloc rL (.cells #[.int .i64 1,.int .i64 x] 134);have et:Fc c W gl w _:=dq.trans (Fc.none (aC w2 (.cells #[.int .i64 1,.int .i64 x] 134) none));have UY:Hid _:=gz;have UZ:Hid _:=md;have GB:Hid _:=et;clear gz md et fc rL dq;go_wp2_with fail;refine Calls.mono (qL.out _ _ UY.out) ?_;rintro e5 w5 ⟨rfl,jA,pm⟩;have qn:=cE.wroteC UZ.out UY.out jA;have iv:=Fc.trans GB.out (Fc.call jA);clear qL UY UZ GB jA;go_wp2_with fail;go_end0;exact⟨rfl,iv,pm,qn⟩
end
structure pV(az:Nat)(w:World)(m:Nat)(mm:bf)(ads:List Nat):Prop where
 ga:o9 az w m mm ads
 tr:ia az w mm ads mm.funs.length
theorem pV.keep{az:Nat}{w w':World}{m:Nat}{mm:bf}{ads:List Nat}(h:pV az w m mm ads)(k:∀g cs t,t≠132->t≠134->t≠128->Blk w g cs t->Blk w' g cs t):pV az w' m mm ads:=by have k3:∀g c,Blk w g c 3->Blk w' g c 3:=fun g c hb=>k g c 3 (by decide) (by decide) (by decide) hb;refine⟨?_,h.tr.keep fun g c t ht hb=>k g c t (by rcases ht with rfl|rfl|rfl|rfl <;> decide) (by rcases ht with rfl|rfl|rfl|rfl <;> decide) (by rcases ht with rfl|rfl|rfl|rfl <;> decide) hb⟩;obtain⟨vs,vf,h1,⟨g,cap,c,e1,e2,e3⟩,h3⟩:=h.ga.mod;refine⟨⟨vs,vf,k _ _ _ (by decide) (by decide) (by decide) h1,⟨g,cap,c,e1,k _ _ _ (by decide) (by decide) (by decide) e2,fun j hj=>?_⟩,aJ h3 (fun g c hb=>k g c 50 (by decide) (by decide) (by decide) hb)⟩,h.ga.len,h.ga.nodup,h.ga.low,h.ga.pos,fun j hj a ha=>(h.ga.fns j hj a ha).kept (fun c hb=>k _ _ _ (by decide) (by decide) (by decide) hb) k3⟩;obtain⟨vt,vg,a1,a2,a3,a4⟩:=e3 j hj;exact⟨vt,vg,a1,a2,a3.keep k3,a4.keep k3⟩
structure Pu(mm:bf)(fs:List bu)(aA:Nat):Prop where
 all:B3 mm fs
 fns:∀i lf,fs[i]?=some lf->∃pf ai T R P n,rv mm fs i lf pf ai T R P n
 sigs:∀g∈mm.sigs,g.1.length<=6/\g.2.length<=3
 funs:∀f∈mm.funs,f.ai.length<=8/\f.code.length<=400
 count:mm.funs.length<=20
 aA:aA<=100000
structure bX(az:Nat)(w:World)(c W f gl m:Nat)(ads:List Nat)(mm:bf)(fs:List bu)(aA:Nat)(s:MSt)(ay:Nat)(lf:bu)(pf:ck)(ai:List Nat)(T:Nat->LSt)(R:Nat->aX)(P:Nat->Nat)(n:Nat):Prop where
 mod:pV az w m mm ads
 fn:rv mm fs s.call.fn lf pf ai T R P n
 ad:ads[s.call.fn]?=some f
 call:aI w c W f gl (tv ai s.call.ai) (tv (T s.call.next).af s.call.af)
 ma:cE w W m (aA-ay) ay false 0 s.rest.length
 st:fO ai T s.call
 deep:s.rest.length<=40
def eo(w':World)(c W m:Nat)(fs:List bu)(aA:Nat)(s:MSt):Prop:=∃left ay e,e≠0/\cE w' W m left ay true e s.rest.length/\gr fs aA s ⟨e,ay,[]⟩/\w'.cell? ⟨c,0,none⟩=some (ptr W)/\c<w'.heap.size
def iM(w':World)(c W f gl m:Nat)(fs:List bu)(aA:Nat)(s:MSt)(ai:List Nat)(T:Nat->LSt)(J:Nat):Prop:=
 ∃s':MSt,dD fs aA s s'/\s'.rest=s.rest/\s'.call.fn=s.call.fn/\s'.call.next=J/\fO ai T s'.call/\s.ay<s'.ay/\s'.ay<=aA/\aI w' c W f gl (tv ai s'.call.ai) (tv (T J).af s'.call.af)/\cE w' W m (aA-s'.ay) s'.ay false 0 s.rest.length
def mw(w':World)(c W f gl m:Nat)(fs:List bu)(aA:Nat)(s:MSt)(lf:bu)(ai:List Nat)(T:Nat->LSt)(n i k:Nat):Prop:=
 ∃F tys vs ls j ay,jJ ai T lf n i k F tys vs j/\tys.length<=3000/\bG ai ls/\dD fs aA s {call:={fn:=s.call.fn,next:=j,ai:=ls,af:=ip F vs},rest:=s.rest,ay:=ay}/\s.ay<ay/\ay<=aA/\aI w' c W f gl (tv ai ls) (tv tys vs)/\cE w' W m (aA-ay) ay false 0 s.rest.length
def zA(w':World)(c W f gl m:Nat)(fs:List bu)(aA:Nat)(s:MSt)(lf:bu)(ai:List Nat):Prop:=
 ∃bt x y ls ay,bG bt x/\bG lf.ak y/\bG ai ls/\bt.length<=3000/\jy fs aA s y ay/\s.ay<ay/\ay<=aA/\aI w' c W f gl (tv ai ls) (tv (bt++lf.ak) (x++y))/\cE w' W m (aA-ay) ay false 0 s.rest.length
def cV(w w':World)(c W f gl m:Nat)(fs:List bu)(aA:Nat)(s:MSt)(lf:bu)(ai:List Nat)(T:Nat->LSt)(n i J:Nat)(kk:Int):Prop:=
 Fc c W gl w w'/\((kk = -1/\eo w' c W m fs aA s)\/(kk = -1/\iM w' c W f gl m fs aA s ai T J)\/(∃k:Nat,kk=(k:Int)/\k<500/\mw w' c W f gl m fs aA s lf ai T n i k)\/(kk=1000/\zA w' c W f gl m fs aA s lf ai))
section
variable {az:Nat}{w w':World}{c W f gl m a:Nat}{ads:List Nat}{mm:bf}{fs:List bu}{aA:Nat}{s:MSt}{ay:Nat}{lf:bu}{pf:ck}{ai:List Nat}{T:Nat->LSt}{R:Nat->aX}{P:Nat->Nat}{n:Nat}{num:Int}{v2 v3 v4 v5 v6 v7:Value}
theorem dy{b:List Nat}{x:List Int}{t:Nat}{v:Int}(h:bG b x):tv (b++[t]) (x++[v])=tv b x++[(t,v)]:=fK h.len
theorem pW{b:List Nat}{x:List Int}{t u:Nat}{v y:Int}(h:bG b x):tv (b++[t,u]) (x++[v,y])=tv b x++[(t,v)]++[(u,y)]:=by rw[fK h.len];simp[tv]
theorem pb{l:List Nat}{x:List Int}{i t:Nat}{v:Int}(h1:l[i]?=some t)(h2:x[i]?=some v):(tv l x)[i]?=some (t,v):=by unfold tv;rw[List.getElem?_zip_eq_some];exact⟨h1,h2⟩
theorem GP{l:List Nat}{x:List Int}{i t:Nat}{v:Int}(h1:l[i]?=some t):tv l (x.set i v)=(tv l x).set i (t,v):=by
 apply List.ext_getElem?;intro j;unfold tv;by_cases e:j=i
 ·subst e;by_cases hx:j<x.length
  ·have hl:=(gEs.1 h1).1;rw[List.getElem?_set_self (by rw[List.length_zip];omega)];rw[List.getElem?_zip_eq_some];exact⟨h1,by rw[List.getElem?_set_self hx]⟩
  rw[ajp (by rw[List.length_zip,List.length_set];omega),ajp (by rw[List.length_set,List.length_zip];omega)]
 rw[List.getElem?_set_ne (by omega)];by_cases hj:j<(l.zip x).length
 ·rw[List.length_zip]at hj;have a1:l[j]?=some l[j]:=gEg (by omega);have a2:x[j]?=some x[j]:=gEg (by omega);rw[(List.getElem?_zip_eq_some (z:=(l[j],x[j]))).2 ⟨a1,a2⟩,(List.getElem?_zip_eq_some (z:=(l[j],x[j]))).2 ⟨a1,by rw[List.getElem?_set_ne (by omega)];exact a2⟩]
 rw[List.length_zip]at hj;rw[ajp (by rw[List.length_zip,List.length_set];omega),ajp (by rw[List.length_zip];omega)]
theorem Pu.high(h:Pu mm fs aA){i:Nat}(hf:rv mm fs i lf pf ai T R P n){j:Nat}(hj:j<=n):(T j).af.length<=2400/\n<=400/\ai.length<=14/\lf.ak.length<=3/\lf.aj.length<=6:=by
 have vh:=h.funs pf (gMo hf.tr.fn);have iD:=h.sigs _ (gMo hf.tr.sig);have hn:n<=400:=by
  rcases Nat.eq_zero_or_pos n with q|q
  ·omega
  have h1:=hf.tr.look.places (n-1) (by omega);have h2:=hf.tr.look.atMost (i:=n-1) (by omega);omega
 obtain⟨F,f1,f2,f3,_⟩:=hf.first;have:=hf.tr.look.high6 (fun g hg=>by have:=h.sigs g hg;omega) (fun G hG=>by rw[f1]at hG;simp at hG;subst hG;rw[f2,f3];simp only at iD;omega) j hj;refine⟨by omega,hn,?_,iD.2,iD.1⟩;rw[hf.tr.loc,ajb];simp only at iD;omega
theorem bX.len(h:bX az w c W f gl m ads mm fs aA s ay lf pf ai T R P n)(hp:Pu mm fs aA)(hi:s.call.next<=n):(tv (T s.call.next).af s.call.af).length<=2400:=by rw[fF h.st.stk];exact(hp.high h.fn hi).1
theorem bX.locs(h:bX az w c W f gl m ads mm fs aA s ay lf pf ai T R P n)(hp:Pu mm fs aA):(tv ai s.call.ai).length<=14:=by rw[fF h.st.loc];exact(hp.high h.fn (ajl _)).2.2.1
theorem pX(h:bX az w c W f gl m ads mm fs aA s (s.ay+1) lf pf ai T R P n)(hi:s.call.next<n)(du:s.ay<aA){af locals':List Int}(hg:eG fs aA s af locals')(hv:bG (T (s.call.next+1)).af af)(hl:bG ai locals')(hn:¬((R s.call.next).aa.au=0\/(R s.call.next).aa.au=7\/(R s.call.next).aa.au=9\/(R s.call.next).aa.au=10))(hp:nE w w' c W f gl (tv ai locals') (tv (T (s.call.next+1)).af af) m (aA-(s.ay+1)) (s.ay+1) 0 s.rest.length):Fc c W gl w w'/\iM w' c W f gl m fs aA s ai T (s.call.next+1):=by obtain⟨p1,p2,p3⟩:=hp;exact⟨p1,_,dD.step hg,rfl,rfl,rfl,⟨hl,h.fn.tr.look.alive_next hi h.st.alive hn,hv⟩,Nat.lt_succ_self _,du,p2,p3⟩
theorem tS{e:Nat}(h:bB fs aA s=some (.inr ⟨e,s.ay+1,[]⟩))(he:e≠0){left:Nat}(hm:cE w' W m left (s.ay+1) true e s.rest.length){L S:List TV}(hc:aI w' c W f gl L S):eo w' c W m fs aA s:=⟨left,s.ay+1,e,he,hm,gr.step h,hc.machine,hc.lt.1⟩
theorem DJ{op:Nat}(hp:Pu mm fs aA)(h:bX az w c W f gl m ads mm fs aA s (s.ay+1) lf pf ai T R P n)(hi:s.call.next<n)(du:s.ay<aA)(hk:cr op=some (R s.call.next).aa)(ex:op=1\/12<=op)(hn:Blk w a #[.int .i64 op,.int .i64 num,v2,v3,v4,v5,v6,v7] 157)(iz:eu (R s.call.next) num):Calls prog 126 #[ptr c,ptr a] w fun r w'=>r=.returned (.tuple #[])/\Fc c W gl w w'/\(eo w' c W m fs aA s\/iM w' c W f gl m fs aA s ai T (s.call.next+1)):=by
 have ec:s.ay≠aA:=by omega
 have aQ:=h.len hp (by omega);have sV:=h.locs hp;have IW:=nY hk;have hS:=h.call;have hM:=h.ma;have fin:∀{af locals':List Int},eG fs aA s af locals'->bG (T (s.call.next+1)).af af->bG ai locals'->¬((R s.call.next).aa.au=0\/(R s.call.next).aa.au=7\/(R s.call.next).aa.au=9\/(R s.call.next).aa.au=10) ->
   Calls prog 126 #[ptr c,ptr a] w (fun r w'=>r=.returned (.tuple #[])/\nE w w' c W f gl (tv ai locals') (tv (T (s.call.next+1)).af af) m (aA-(s.ay+1)) (s.ay+1) 0 s.rest.length) ->
   Calls prog 126 #[ptr c,ptr a] w fun r w'=>r=.returned (.tuple #[])/\Fc c W gl w w'/\(eo w' c W m fs aA s\/iM w' c W f gl m fs aA s ai T (s.call.next+1)):=fun hg hv hl EJ hQ=>hQ.mono fun r w' ⟨q1,q2⟩=>by
  obtain⟨r1,r2⟩:=pX h hi du hg hv hl EJ q2;exact⟨q1,r1,.inr r2⟩
 have two:∀{t r g:Nat},iL op t r->r<=9->(R s.call.next).aa=⟨18+r,0,2,t,t⟩->(t=1\/t=2)->Calls prog 126 #[ptr c,ptr a] w fun r w'=>r=.returned (.tuple #[])/\Fc c W gl w w'/\(eo w' c W m fs aA s\/iM w' c W f gl m fs aA s ai T (s.call.next+1)):=fun {t r g} ho hr QP ht=>by
  obtain⟨base',vs,x,y,y1,y2,y3,y4,y5,y6,y7,y8⟩:=tK h.fn.tr hi h.st ec (by rw[QP];show 18<=18+r;omega) (by rw[QP]) (by rw[QP];show t≠0;omega);rw[QP]at y1 y4 y5 y6 y7 y8;simp only at y1 y4 y5 y8;have GQ:=y4.wide;have Km:=y5.wide;have hC:aI w c W f gl (tv ai s.call.ai) (tv base' vs++[(t,x)]++[(t,y)]):=by have:=hS;rw[y1,y2,pW y3]at this;exact this
  have Eg:(tv base' vs).length<=2400:=by rw[y1,y2,pW y3]at aQ;simp at aQ ⊢;omega
  have qA:(kz t r x y).2=(bZ ⟨18+r,0,2,t,t⟩ x y).2/\((bZ ⟨18+r,0,2,t,t⟩ x y).2=0->(kz t r x y).1=(bZ ⟨18+r,0,2,t,t⟩ x y).1):=by
   rcases ht with rfl|rfl
   ·have NJ:eX x:=by
     rcases y4 with⟨_,q⟩|⟨q,_⟩
     ·exact q
     omega
    have NK:eX y:=by
     rcases y5 with⟨_,q⟩|⟨q,_⟩
     ·exact q
     omega
    exact Be NJ NK hr
   exact Dv GQ Km hr
  have uq:fw t (bZ ⟨18+r,0,2,t,t⟩ x y).1:=by
   unfold bZ;rcases ht with rfl|rfl
   ·rw[ajd rfl];exact .inl ⟨rfl,Ge _ (jf _)⟩
   rw[ajc (show ¬(2=1) by decide)];exact .inr ⟨rfl,Gf _ GQ⟩
  have dL:¬((R s.call.next).aa.au=0\/(R s.call.next).aa.au=7\/(R s.call.next).aa.au=9\/(R s.call.next).aa.au=10):=by rw[QP];show ¬(18+r=0\/18+r=7\/18+r=9\/18+r=10);omega
  have Co:30<=op/\op≠42/\op<=61:=by rcases ho with⟨_,q⟩|⟨_,q⟩ <;> omega
  have Vk:(bZ ⟨18+r,0,2,t,t⟩ x y).2=0->∀w',Fc c W gl w w'->aI w' c W f gl (tv ai s.call.ai) (tv base' vs++[(t,(kz t r x y).1)])->cE w' W m (aA-(s.ay+1)) (s.ay+1) false 0 s.rest.length->Fc c W gl w w'/\(eo w' c W m fs aA s\/iM w' c W f gl m fs aA s ai T (s.call.next+1)):=fun h0 w' q1 q2 q3=>by rw[qA.2 h0]at q2;obtain⟨r1,r2⟩:=pX h hi du (y6 h0) (by rw[y8];exact y3.append (bG.single uq)) h.st.loc dL ⟨q1,by rw[y8,dy y3];exact q2,q3⟩;exact⟨r1,.inr r2⟩
  by_cases h34:r=3\/r=4
  ·refine aae (Q:=fun r w'=>Fc c W gl w w'/\(eo w' c W m fs aA s\/iM w' c W f gl m fs aA s ai T (s.call.next+1))) Co.1 Co.2.1 Co.2.2 hn ?_;refine(Bg ho h34 hC hM (by omega) GQ Km).mono ?_;rintro r' w' ⟨q1,q2,q3,q4⟩;refine⟨q1,?_⟩;by_cases h0:(bZ ⟨18+r,0,2,t,t⟩ x y).2=0
   ·unfold wo at q4;rw[qA.1,h0]at q4;exact Vk h0 w' q2 q3 q4
   unfold wo at q4;rw[qA.1,ajc h0]at q4;have hb:((bZ ⟨18+r,0,2,t,t⟩ x y).2 != 0)=true:=by rw[bne_iff_ne];exact h0
   rw[hb]at q4;exact⟨q2,.inl (tS (y7 h0) h0 q4 q3)⟩
  have h0:(bZ ⟨18+r,0,2,t,t⟩ x y).2=0:=by
   rw[<-qA.1];unfold kz;simp only;repeat' split
   all_goals first|rfl|omega
  refine aae (Q:=fun r w'=>Fc c W gl w w'/\(eo w' c W m fs aA s\/iM w' c W f gl m fs aA s ai T (s.call.next+1))) Co.1 Co.2.1 Co.2.2 hn ?_;by_cases h89:r=8\/r=9
  ·refine(Dy ho h89 hC hM (by omega) GQ Km).mono ?_;rintro r' w' ⟨q1,q2,q3,q4⟩;exact⟨q1,Vk h0 w' q2 q3 q4⟩
  refine(Dx ho (by omega) hC hM (by omega) GQ Km).mono ?_;rintro r' w' ⟨q1,q2,q3,q4⟩;exact⟨q1,Vk h0 w' q2 q3 q4⟩
 rcases IW with⟨q1,q2⟩|⟨rfl,q2,q3⟩|⟨rfl,q2,q3⟩|⟨q1,q2,q3⟩|⟨q1,q2,q3⟩|⟨q1,q2,q3⟩|⟨rfl,q2⟩|⟨rfl,q2⟩|⟨rfl,q2⟩|⟨rfl,q2⟩
 ·
  obtain rfl|rfl|rfl|rfl|rfl|rfl:op=1\/op=12\/op=13\/op=14\/op=15\/op=16:=by omega
  ·obtain⟨z1,z2,z3⟩:=nW h.fn.tr hi h.st ec (.inl q2);exact fin (af:=s.call.af) (locals':=s.call.ai) z1 (by rw[z2];exact h.st.stk) h.st.loc (by omega) ((Nt hn hS hM).mono fun r w' ⟨a1,a2⟩=>⟨a1,by rw[z2];exact a2⟩)
  ·obtain⟨b,t,vs,v,z1,z2,z3,z4,z5,z6⟩:=Dq h.fn.tr hi h.st ec q2;have hC:=hS;rw[z1,z2,dy z3]at hC aQ;exact fin z5 (by rw[z6];exact z3) h.st.loc (by omega) ((J5 hn hC hM (by simp at aQ;omega)).mono fun r w' ⟨a1,a2⟩=>⟨a1,by rw[z6];exact a2⟩)
  ·obtain⟨b,t,vs,x,y,v,z1,z2,z3,z4,z5,z6,z7,z8⟩:=Dr h.fn.tr hi h.st ec q2;have e3:tv (b++[t,t,1]) (vs++[x,y,v])=tv b vs++[(t,x)]++[(t,y)]++[(1,v)]:=by rw[fK z3.len];simp[tv]
   have hC:=hS;rw[z1,z2,e3]at hC aQ;exact fin z7 (by rw[z8];exact z3.append (bG.single (by split <;> assumption))) h.st.loc (by omega) ((J6 hn hC hM (by simp at aQ ⊢;omega)).mono fun r w' ⟨a1,a2⟩=>⟨a1,by rw[z8,dy z3];exact a2⟩)
  ·obtain⟨t,v,z1,z2,z3,z4,z5⟩:=Gk h.fn.tr hi h.st ec q2;have dL:num=((R s.call.next).idx.headD 0:Nat):=by obtain⟨-,-,-,-,-,-,kc5⟩:=cC (h.fn.tr.look.trace _ hi).1.read;have oe:=kc5 (.inl q2);unfold eu at iz;rw[ajd (.inr oe)]at iz;exact iz
   rw[dL]at hn;exact fin z4 (by rw[z5];exact h.st.stk.append (bG.single z3)) h.st.loc (by omega) ((Nv (pb z1 z2) hn hS hM (by omega) (by omega)).mono fun r w' ⟨a1,a2⟩=>⟨a1,by rw[z5,dy h.st.stk];exact a2⟩)
  ·obtain⟨b,t,vs,v,z0,z1,z2,z3,z4,z5,z6⟩:=Gl h.fn.tr hi h.st ec q2;have dL:num=((R s.call.next).idx.headD 0:Nat):=by obtain⟨-,-,-,-,-,-,kc5⟩:=cC (h.fn.tr.look.trace _ hi).1.read;have oe:=kc5 (.inr (.inl q2));unfold eu at iz;rw[ajd (.inr oe)]at iz;exact iz
   rw[dL]at hn;have hC:=hS;rw[z1,z2,dy z3]at hC aQ;have lx:(R s.call.next).idx.headD 0<(tv ai s.call.ai).length:=by rw[fF h.st.loc];exact(gEs.1 z0).1
   have xJ:=h.mod.ga.fns s.call.fn (gEs.1 h.fn.tr.fn).1 f h.ad;have vh:mm.funs[s.call.fn]'(gEs.1 h.fn.tr.fn).1=pf:=by have:=h.fn.tr.fn;rw[gEg (gEs.1 h.fn.tr.fn).1]at this;exact Option.some.inj this
   have iD:da mm s.call.fn=(lf.aj,lf.ak):=jz (gEs.1 h.fn.tr.fn).1 (by rw[vh];exact h.fn.tr.sig);rw[vh,iD]at xJ;have ol:ai.length<=1000:=by have:=(hp.high h.fn (ajl _)).2.2.1;omega
   rw[h.fn.tr.loc]at z0 ol;exact fin z5 (by rw[z6];exact z3) (h.st.loc.set (by rw[h.fn.tr.loc];exact z0) z4) (by omega) ((adw (.inl rfl) lx z0 xJ hn hC hM (by simp at aQ;omega) (by omega) ol).mono fun r w' ⟨a1,a2⟩=>⟨a1,by rw[z6,GP (by rw[h.fn.tr.loc];exact z0)];exact a2⟩)
  obtain⟨b,t,vs,v,z0,z1,z2,z3,z4,z5,z6⟩:=Gm h.fn.tr hi h.st ec q2;have dL:num=((R s.call.next).idx.headD 0:Nat):=by obtain⟨-,-,-,-,-,-,kc5⟩:=cC (h.fn.tr.look.trace _ hi).1.read;have oe:=kc5 (.inr (.inr q2));unfold eu at iz;rw[ajd (.inr oe)]at iz;exact iz
  rw[dL]at hn;have hC:=hS;rw[z1,z2,dy z3]at hC aQ;have lx:(R s.call.next).idx.headD 0<(tv ai s.call.ai).length:=by rw[fF h.st.loc];exact(gEs.1 z0).1
  have xJ:=h.mod.ga.fns s.call.fn (gEs.1 h.fn.tr.fn).1 f h.ad;have vh:mm.funs[s.call.fn]'(gEs.1 h.fn.tr.fn).1=pf:=by have:=h.fn.tr.fn;rw[gEg (gEs.1 h.fn.tr.fn).1]at this;exact Option.some.inj this
  have iD:da mm s.call.fn=(lf.aj,lf.ak):=jz (gEs.1 h.fn.tr.fn).1 (by rw[vh];exact h.fn.tr.sig);rw[vh,iD]at xJ;have ol:ai.length<=1000:=by have:=(hp.high h.fn (ajl _)).2.2.1;omega
  rw[h.fn.tr.loc]at z0 ol;exact fin z5 (by rw[z6];exact z3.append (bG.single z4)) (h.st.loc.set (by rw[h.fn.tr.loc];exact z0) z4) (by omega) ((adw (.inr rfl) lx z0 xJ hn hC hM (by simp at aQ;omega) (by omega) ol).mono fun r w' ⟨a1,a2⟩=>⟨a1,by rw[z6,GP (by rw[h.fn.tr.loc];exact z0),dy z3];exact a2⟩)
 ·obtain⟨z1,z2,z3⟩:=tJ h.fn.tr hi h.st ec q2;have dL:num=(R s.call.next).num:=by obtain⟨⟨-,-,ka3⟩,-,-⟩:=cC (h.fn.tr.look.trace _ hi).1.read;obtain⟨_,hb⟩:=ka3 q2;unfold eu at iz;rw[ajc (by omega)]at iz;exact iz
  rw[q3]at z1 z3;exact fin z2 (by rw[z3];exact h.st.stk.append (bG.single z1)) h.st.loc (by omega) ((aak (t:=1) (.inl ⟨rfl,rfl⟩) hn hS hM (by omega)).mono fun r w' ⟨a1,a2⟩=>⟨a1,by rw[z3,dy h.st.stk,<-dL];exact a2⟩)
 ·obtain⟨z1,z2,z3⟩:=tJ h.fn.tr hi h.st ec q2;have dL:num=(R s.call.next).num:=by obtain⟨⟨-,-,ka3⟩,-,-⟩:=cC (h.fn.tr.look.trace _ hi).1.read;obtain⟨_,hb⟩:=ka3 q2;unfold eu at iz;rw[ajc (by omega)]at iz;exact iz
  rw[q3]at z1 z3;exact fin z2 (by rw[z3];exact h.st.stk.append (bG.single z1)) h.st.loc (by omega) ((aak (t:=2) (.inr ⟨rfl,rfl⟩) hn hS hM (by omega)).mono fun r w' ⟨a1,a2⟩=>⟨a1,by rw[z3,dy h.st.stk,<-dL];exact a2⟩)
 ·by_cases h39:op<=39
  ·exact two (t:=1) (r:=op-30) (g:=0) (.inl ⟨rfl,by omega⟩) (by omega) (by rw[q3];congr 1;omega) (.inl rfl)
  obtain⟨b,vs,x,y,y1,y2,y3,y4,y5,y6,y7,y8⟩:=tK h.fn.tr hi h.st ec (by rw[q3];show 18<=op-12;omega) (by rw[q3]) (by rw[q3];show 1≠0;decide);rw[q3]at y1 y4 y5 y6 y8;simp only at y1 y4 y5 y8;have hC:=hS;rw[y1,y2,pW y3]at hC aQ;have NJ:eX x:=by
   rcases y4 with⟨_,q⟩|⟨q,_⟩
   ·exact q
   omega
  have NK:eX y:=by
   rcases y5 with⟨_,q⟩|⟨q,_⟩
   ·exact q
   omega
  have NM:∀lt:Bool,op=(if lt then 41 else 40)->(bZ ⟨op-12,0,2,1,1⟩ x y)=(bx (if lt then decide (x<y) else decide (x=y)),0):=fun lt ho=>by
   unfold bZ;rw[ajd rfl,oZ NJ,oZ NK];cases lt
   ·simp only[Bool.false_eq_true,if_false]at ho ⊢;subst ho;rfl
   simp only[if_true]at ho ⊢;subst ho;rfl
  obtain⟨lt,bM⟩:∃lt:Bool,op=(if lt then 41 else 40):=by
   by_cases Vl:op=41
   ·exact⟨true,by simpa using Vl⟩
   exact⟨false,by simp;omega⟩
  have hv:=NM lt bM;refine aae (Q:=fun r w'=>Fc c W gl w w'/\(eo w' c W m fs aA s\/iM w' c W f gl m fs aA s ai T (s.call.next+1))) (by omega) (by omega) (by omega) hn ?_;refine(wq (lt:=lt) (.inl ⟨rfl,bM⟩) hC hM (by simp at aQ;omega)).mono ?_;rintro r' w' ⟨p1,p2,p3,p4⟩;refine⟨p1,?_⟩;obtain⟨r1,r2⟩:=pX h hi du (y6 (by rw[hv])) (by rw[y8,hv];exact y3.append (bG.single (.inl ⟨rfl,gj _⟩))) h.st.loc (by rw[q3];show ¬(op-12=0\/op-12=7\/op-12=9\/op-12=10);omega) ⟨p2,by rw[y8,hv,dy y3];exact p3,p4⟩;exact⟨r1,.inr r2⟩
 ·exact two (t:=2) (r:=op-50) (g:=0) (.inr ⟨rfl,by omega⟩) (by omega) (by rw[q3];congr 1;omega) (.inr rfl)
 ·obtain⟨b,vs,x,y,y1,y2,y3,y4,y5,y6,y7,y8⟩:=tK h.fn.tr hi h.st ec (by rw[q3];show 18<=op-32;omega) (by rw[q3]) (by rw[q3];show 1≠0;decide);rw[q3]at y1 y4 y5 y6 y8;simp only at y1 y4 y5 y8;have hC:=hS;rw[y1,y2,pW y3]at hC aQ;have NM:∀lt:Bool,op=(if lt then 61 else 60)->(bZ ⟨op-32,0,2,2,1⟩ x y)=(bx (if lt then decide (x<y) else decide (x=y)),0):=fun lt ho=>by
   unfold bZ;rw[ajc (show ¬(2=1) by decide)];cases lt
   ·simp only[Bool.false_eq_true,if_false]at ho ⊢;subst ho;rfl
   simp only[if_true]at ho ⊢;subst ho;rfl
  obtain⟨lt,bM⟩:∃lt:Bool,op=(if lt then 61 else 60):=by
   by_cases Vl:op=61
   ·exact⟨true,by simpa using Vl⟩
   exact⟨false,by simp;omega⟩
  have hv:=NM lt bM;refine aae (Q:=fun r w'=>Fc c W gl w w'/\(eo w' c W m fs aA s\/iM w' c W f gl m fs aA s ai T (s.call.next+1))) (by omega) (by omega) (by omega) hn ?_;refine(wq (lt:=lt) (.inr ⟨rfl,bM⟩) hC hM (by simp at aQ;omega)).mono ?_;rintro r' w' ⟨p1,p2,p3,p4⟩;refine⟨p1,?_⟩;obtain⟨r1,r2⟩:=pX h hi du (y6 (by rw[hv])) (by rw[y8,hv];exact y3.append (bG.single (.inl ⟨rfl,gj _⟩))) h.st.loc (by rw[q3];show ¬(op-32=0\/op-32=7\/op-32=9\/op-32=10);omega) ⟨p2,by rw[y8,hv,dy y3];exact p3,p4⟩;exact⟨r1,.inr r2⟩
 ·obtain⟨b,vs,v,y1,y2,y3,y4,y5,y6⟩:=pR h.fn.tr hi h.st ec (by rw[q2];show 30<=30;omega) (by rw[q2]) (by rw[q2];decide);rw[q2]at y1 y4 y5 y6;simp only at y1 y4 y5 y6;have hC:=hS;rw[y1,y2,dy y3]at hC aQ;exact fin y5 (by rw[y6];exact y3.append (bG.single (.inl ⟨rfl,gj _⟩))) h.st.loc (by rw[q2];decide) ((aal (t:=1) (.inl ⟨rfl,rfl⟩) hn hC hM (by simp at aQ;omega)).mono fun r w' ⟨a1,a2⟩=>⟨a1,by rw[y6,dy y3];exact a2⟩)
 ·obtain⟨b,vs,v,y1,y2,y3,y4,y5,y6⟩:=pR h.fn.tr hi h.st ec (by rw[q2];show 30<=30;omega) (by rw[q2]) (by rw[q2];decide);rw[q2]at y1 y4 y5 y6;simp only at y1 y4 y5 y6;have hC:=hS;rw[y1,y2,dy y3]at hC aQ;exact fin y5 (by rw[y6];exact y3.append (bG.single (.inl ⟨rfl,gj _⟩))) h.st.loc (by rw[q2];decide) ((aal (t:=2) (.inr ⟨rfl,rfl⟩) hn hC hM (by simp at aQ;omega)).mono fun r w' ⟨a1,a2⟩=>⟨a1,by rw[y6,dy y3];exact a2⟩)
 ·obtain⟨b,vs,v,y1,y2,y3,y4,y5,y6⟩:=pR h.fn.tr hi h.st ec (by rw[q2];show 30<=31;omega) (by rw[q2]) (by rw[q2];decide);rw[q2]at y1 y4 y5 y6;simp only at y1 y4 y5 y6;have hC:=hS;rw[y1,y2,dy y3]at hC aQ;have e31:kU 31 v=wrap32 v:=by show IntKind.i32.wrap v=_;exact ajh v
  exact fin y5 (by rw[y6];exact y3.append (bG.single (.inl ⟨rfl,by rw[e31,<-ajh];exact jf _⟩))) h.st.loc (by rw[q2];decide) ((aam hn hC hM (by simp at aQ;omega)).mono fun r w' ⟨a1,a2⟩=>⟨a1,by rw[y6,dy y3,e31];exact a2⟩)
 obtain⟨b,vs,v,y1,y2,y3,y4,y5,y6⟩:=pR h.fn.tr hi h.st ec (by rw[q2];show 30<=32;omega) (by rw[q2]) (by rw[q2];decide);rw[q2]at y1 y4 y5 y6;simp only at y1 y4 y5 y6;have hC:=hS;rw[y1,y2,dy y3]at hC aQ;exact fin y5 (by rw[y6];exact y3.append (bG.single (.inr ⟨rfl,y4.wide⟩))) h.st.loc (by rw[q2];decide) ((aan hn hC hM (by simp at aQ;omega)).mono fun r w' ⟨a1,a2⟩=>⟨a1,by rw[y6,dy y3];exact a2⟩)
end
section
variable {mm:bf}{ai ak:List Nat}{f:ck}{T:Nat->LSt}{R:Nat->aX}{P:Nat->Nat}{n:Nat}
theorem bL.frames1(L:bL mm ai ak f T R P n):∀i,i<=n->(T i).ae.length<=i+1
 |0,_=>by obtain⟨F,h,_⟩:=L.ax;rw[h];simp
 |i+1,hi=>by
  have ih:=L.frames1 i (by omega);obtain⟨F0,hf,M,mE⟩:=L.moves (i:=i) (by omega);have hl:=congrArg List.length mE;simp only[ajb,ajr,ajv]at hl;by_cases h1:(R i).aa.au=0\/(R i).aa.au=7\/(R i).aa.au=9\/(R i).aa.au=10
  ·rw[(M.died h1).1];simp only[ajb,ajr,ajv];omega
  by_cases h2:(R i).aa.au=2\/(R i).aa.au=3\/(R i).aa.au=4
  ·obtain⟨N,hN,_⟩:=M.opened h2;rw[hN];simp only[ajb,ajr,ajv];omega
  by_cases h5:(R i).aa.au=5
  ·rw[(M.turned h5).2.1];simp only[ajb,ajr,ajv];omega
  by_cases h6:(R i).aa.au=6
  ·rw[(M.ended h6).1];omega
  rw[M.plain h1 (by omega)];omega
end
section
variable {az:Nat}{w w':World}{c W f gl m a:Nat}{ads:List Nat}{mm:bf}{fs:List bu}{aA:Nat}{s:MSt}{ay:Nat}{lf:bu}{pf:ck}{ai:List Nat}{T:Nat->LSt}{R:Nat->aX}{P:Nat->Nat}{n:Nat}{num:Int}{vl vt vg vb ve:Value}{ew:Bool}
theorem Bm(hp:Pu mm fs aA)(h:rv mm fs s.call.fn lf pf ai T R P n){i k:Nat}{F:PFr}(hi:i<n)(hl:bT (T i) k=some F):k<500:=by
 unfold bT at hl;split at hl
 ·rename_i bM;have h1:=h.tr.look.frames1 i (by omega);have h2:=(hp.high h (ajl _)).2.1;omega
 cases hl
theorem GR(h:bX az w c W f gl m ads mm fs aA s (s.ay+1) lf pf ai T R P n)(hi:s.call.next<n)(du:s.ay<aA)(hk:(R s.call.next).aa.au=0)(hn:bp w a 0 num vl vt vg vb ve ew):Calls prog 97 #[ptr c,ptr a] w fun r w'=>∃kk,r=.returned (.int .i64 kk)/\cV w w' c W f gl m fs aA s lf ai T n s.call.next (s.call.next+1) kk:=by
 have k0:=Blk.cell hn 0;simp at k0;have dW:=Blk.lt hn;have c0:=h.call.machine;have iX:=h.call.lt.1;have hE:=ny h.ma 1;simp only[show ((1:Nat):Int)=1 from rfl]at hE
 have Vm:Hid _:=Dp h.fn.tr hi (show s.ay≠aA by omega) hk;have HCW:Hid (∀w2:World,w.grownBy w2 (some W)->aI w2 c W f gl (tv ai s.call.ai) (tv (T s.call.next).af s.call.af)):=fun w2 g2=>h.call.wroteW h.ma g2;clear h hn hk;go_enter func97,ntmps97;go_wp2_with fail;refine hE.mono ?_;clear hE;rintro e w2 ⟨rfl,aP,rL⟩;go_wp2_with fail;go_ret;exact⟨-1,rfl,Fc.mach aP,.inl ⟨rfl,tS Vm.out (by decide) rL (HCW.out w2 aP)⟩⟩
theorem NN(hp:Pu mm fs aA)(h:bX az w c W f gl m ads mm fs aA s (s.ay+1) lf pf ai T R P n)(hi:s.call.next<n)(du:s.ay<aA)(hk:(R s.call.next).aa.au=7)(hn:bp w a 7 num vl vt vg vb ve ew)(eW:aR w vl (iK (R s.call.next))):Calls prog 97 #[ptr c,ptr a] w fun r w'=>∃kk,r=.returned (.int .i64 kk)/\cV w w' c W f gl m fs aA s lf ai T n s.call.next (s.call.next+1) kk:=by
 obtain⟨l,ls,F,j,z1,z2,z3⟩:=J7 h.fn.tr hi h.st (show s.ay≠aA by omega) hk;have oe:(R s.call.next).aa.ab=4:=by obtain⟨-,-,kc1,-⟩:=cC (h.fn.tr.look.trace _ hi).1.read;exact kc1 (.inl hk)
 have Eg:iK (R s.call.next)=l::ls:=by unfold iK;rw[ajd (.inl oe),z1]
 rw[Eg]at eW;have zB:=Bm hp h.fn hi z2.lab;have k0:=Blk.cell hn 0;have k2:=Blk.cell hn 2;simp at k0 k2;have dW:=Blk.lt hn;rcases eW.cases with⟨_,q⟩|⟨g,cap,rfl,iX⟩
 ·cases q
 have y0:=iX 0 (.int .i64 l) (by simp[aV]);obtain⟨g',iB⟩:∃q:Unit,g<w.heap.size:=⟨(),by
  obtain⟨_,cc,od⟩:=ba eW g (by simp[Value.ownBlock])
  exact od.lt⟩
 obtain⟨N,hN⟩:=aja ((l::ls).length);rw[hN]at k2;have hNp:0<(N:Int):=by have h9:=hN;simp at h9;omega
 have HP:Hid (cV w w c W f gl m fs aA s lf ai T n s.call.next (s.call.next+1) (l:Int)):=⟨Fc.refl,.inr (.inr (.inl ⟨l,rfl,zB,F,_,_,_,j,s.ay+1,z2,by have:=(hp.high h.fn (show s.call.next<=n by omega)).1;omega,h.st.loc,dD.step z3,by omega,du,h.call,h.ma⟩))⟩;clear hN iX eW h hn z1 z2 z3 Eg oe;go_enter func97,ntmps97;go_wp2_with fail;go_ret;exact⟨_,rfl,HP.out⟩
theorem Bn(h:bX az w c W f gl m ads mm fs aA s (s.ay+1) lf pf ai T R P n)(hp:Pu mm fs aA)(hi:s.call.next<n)(du:s.ay<aA)(hk:(R s.call.next).aa.au=10)(hn:bp w a 10 num vl vt vg vb ve ew):Calls prog 97 #[ptr c,ptr a] w fun r w'=>∃kk,r=.returned (.int .i64 kk)/\cV w w' c W f gl m fs aA s lf ai T n s.call.next (s.call.next+1) kk:=by obtain⟨bt,x,y,z1,z2,z3,z4,z5⟩:=zt h.fn.tr hi h.st (show s.ay≠aA by omega) hk;have k0:=Blk.cell hn 0;simp at k0;have dW:=Blk.lt hn;have hC:=h.call;have hb:=(hp.high h.fn (show s.call.next<=n by omega)).1;rw[z1]at hb;rw[z1,z2]at hC;have HP:Hid (cV w w c W f gl m fs aA s lf ai T n s.call.next (s.call.next+1) 1000):=⟨Fc.refl,.inr (.inr (.inr ⟨rfl,bt,x,y,_,s.ay+1,z3,z4,h.st.loc,by rw[ajb]at hb;omega,z5,by omega,du,hC,h.ma⟩))⟩;clear hC h hn z1 z2 z3 z4 z5;go_enter func97,ntmps97;go_wp2_with fail;go_ret;exact⟨_,rfl,HP.out⟩
theorem GS(hp:Pu mm fs aA)(h:bX az w c W f gl m ads mm fs aA s (s.ay+1) lf pf ai T R P n)(hi:s.call.next<n)(du:s.ay<aA)(hk:(R s.call.next).aa.au=8)(hn:bp w a 8 num vl vt vg vb ve ew)(eW:aR w vl (iK (R s.call.next))):Calls prog 97 #[ptr c,ptr a] w fun r w'=>∃kk,r=.returned (.int .i64 kk)/\cV w w' c W f gl m fs aA s lf ai T n s.call.next (s.call.next+1) kk:=by
 obtain⟨l,ls,bt,vs,v,z1,z2,z3,z4,z5,z6,z7⟩:=Dz h.fn.tr hi h.st (show s.ay≠aA by omega) hk;have oe:(R s.call.next).aa.ab=4:=by obtain⟨-,-,kc1,-⟩:=cC (h.fn.tr.look.trace _ hi).1.read;exact kc1 (.inr hk)
 have Eg:iK (R s.call.next)=l::ls:=by unfold iK;rw[ajd (.inl oe),z1]
 rw[Eg]at eW;have aQ:=h.len hp (by omega);have hC:=h.call;rw[z2,z3,dy z4]at hC aQ;have iV:=tM (t':=1) hC (.inr rfl) (by simp at aQ;omega);simp only[show ((1:Nat):Int)=1 from rfl]at iV
 have k0:=Blk.cell hn 0;simp at k0;have dW:=Blk.lt hn;by_cases hv:v=0
 ·obtain⟨u1,u2⟩:=z6 hv;have HP:Hid (∀w2:World,w.grownBy w2 (some c)->aI w2 c W f gl (tv ai s.call.ai) (tv bt vs)->cV w (w2.alloc (.cells #[.int .i64 1,.int .i64 0] 134)) c W f gl m fs aA s lf ai T n s.call.next (s.call.next+1) (-1)):=fun w2 g2 c2=>by obtain⟨r1,r2⟩:=pX (w':=w2.alloc (.cells #[.int .i64 1,.int .i64 0] 134)) h hi du u1 (by rw[u2];exact z4) h.st.loc (by omega) ⟨(Fc.call g2).trans (Fc.none (aC _ _ _)),by rw[u2];exact c2.grown (aC _ _ _),Blk.alloc (h.ma.wroteC hC g2) _⟩;exact⟨r1,.inr (.inl ⟨rfl,r2⟩)⟩
  subst hv;clear z6 z7 h hn hC eW Eg;go_enter func97,ntmps97;go_wp2_with fail;refine iV.mono ?_;clear iV;rintro e w2 ⟨rfl,aP,fc⟩;go_wp2_with fail;go_ret;exact⟨_,rfl,HP.out w2 aP fc⟩
 obtain⟨F,j,u1,u2⟩:=z7 hv;have zB:=Bm hp h.fn hi u1.lab;have bv:(v != 0)=true:=by rw[bne_iff_ne];exact hv
 have bv2:(v==0)=false:=by rw[ajt];exact hv
 rcases eW.cases with⟨_,q⟩|⟨g,cap,rfl,iX⟩
 ·cases q
 obtain⟨_,cc,od⟩:=ba eW g (by simp[Value.ownBlock]);obtain⟨N,hN⟩:=aja ((l::ls).length);have hNp:0<(N:Int):=by have h9:=hN;simp at h9;omega
 have HL:Hid (∀w2:World,w.grownBy w2 (some c)->w2.cell? ⟨a,2,none⟩=some (.slice (some ⟨g,0,none⟩) N cap)/\w2.cell? ⟨g,0,none⟩=some (.int .i64 l)/\a<w2.heap.size/\g<w2.heap.size):=fun w2 g2=>by
  have e1:=hC.wrote g2 hn (by decide);have e2:=hC.wrote g2 od (by decide);refine⟨?_,?_,e1.lt,e2.lt⟩
  ·rw[e1.cell,<-hN];simp
  rw[e2.cell,<-od.cell];exact iX 0 _ (by simp[aV])
 have HP:Hid (∀w2:World,w.grownBy w2 (some c)->aI w2 c W f gl (tv ai s.call.ai) (tv bt vs)->cV w (w2.alloc (.cells #[.int .i64 1,.int .i64 v] 134)) c W f gl m fs aA s lf ai T n s.call.next (s.call.next+1) (l:Int)):=fun w2 g2 c2=>⟨(Fc.call g2).trans (Fc.none (aC _ _ _)),.inr (.inr (.inl ⟨l,rfl,zB,F,_,_,_,j,s.ay+1,u1,by have:=(hp.high h.fn (show s.call.next<=n by omega)).1;rw[z2,ajb]at this;omega,h.st.loc,dD.step u2,by omega,du,c2.grown (aC _ _ _),Blk.alloc (h.ma.wroteC hC g2) _⟩))⟩;clear z6 z7 h hn hC eW Eg u1 u2 iX hN od hv;go_enter func97,ntmps97;go_wp2_with fail;refine iV.mono ?_;clear iV;rintro e w2 ⟨rfl,aP,fc⟩;obtain⟨y1,y2,y3,y4⟩:=HL.out w2 aP;go_wp2_with fail;go_ret;exact⟨_,rfl,HP.out w2 aP fc⟩
theorem GT(hp:Pu mm fs aA)(h:bX az w c W f gl m ads mm fs aA s (s.ay+1) lf pf ai T R P n)(hi:s.call.next<n)(du:s.ay<aA)(hk:(R s.call.next).aa.au=9)(hn:bp w a 9 num vl vt vg vb ve ew)(eW:aR w vl (iK (R s.call.next)))(Ab:(R s.call.next).idx.length<=10000):Calls prog 97 #[ptr c,ptr a] w fun r w'=>∃kk,r=.returned (.int .i64 kk)/\cV w w' c W f gl m fs aA s lf ai T n s.call.next (s.call.next+1) kk:=by
 obtain⟨bt,vs,v,l,F,j,z1,z2,z3,z4,z5,z6,z7⟩:=DA h.fn.tr hi h.st (show s.ay≠aA by omega) hk;have oe:(R s.call.next).aa.ab=5:=by obtain⟨-,-,-,kc2,-⟩:=cC (h.fn.tr.look.trace _ hi).1.read;exact kc2 hk
 have Eg:iK (R s.call.next)=(R s.call.next).idx:=by unfold iK;rw[ajd (.inr oe)]
 rw[Eg]at eW;have aQ:=h.len hp (by omega);have hC:=h.call;rw[z2,z3,dy z4]at hC aQ;have iV:=tM (t':=1) hC (.inr rfl) (by simp at aQ;omega);simp only[show ((1:Nat):Int)=1 from rfl]at iV
 have k0:=Blk.cell hn 0;simp at k0;have dW:=Blk.lt hn;have zB:=Bm hp h.fn hi z6.lab;obtain⟨idx,eb⟩:∃idx,(R s.call.next).idx=idx:=⟨_,rfl⟩;rw[eb]at z1 eW Ab;have Vn:=(gEs.1 z1).1;rcases eW.cases with⟨_,q⟩|⟨g,cap,rfl,iX⟩
 ·rw[q]at z1;simp at z1
 obtain⟨_,cc,od⟩:=ba eW g (by simp[Value.ownBlock]);obtain⟨N,hN⟩:∃N,idx.length=N+1:=⟨idx.length-1,by omega⟩;have XR:(N:Int)<=10000:=by omega
 obtain⟨q,hq⟩:=aja (me idx v);rw[hq]at z1;have HL:Hid (∀w2:World,w.grownBy w2 (some c)->w2.cell? ⟨a,2,none⟩=some (.slice (some ⟨g,0,none⟩) (N+1) cap)/\w2.cell? ⟨g,q,none⟩=some (.int .i64 l)/\a<w2.heap.size/\g<w2.heap.size):=fun w2 g2=>by
  have e1:=hC.wrote g2 hn (by decide);have e2:=hC.wrote g2 od (by decide);refine⟨?_,?_,e1.lt,e2.lt⟩
  ·rw[e1.cell,<-hN];simp
  rw[e2.cell,<-od.cell];exact iX q _ (by simp[aV,z1])
 have HP:Hid (∀w2:World,w.grownBy w2 (some c)->aI w2 c W f gl (tv ai s.call.ai) (tv bt vs)->cV w (w2.alloc (.cells #[.int .i64 1,.int .i64 v] 134)) c W f gl m fs aA s lf ai T n s.call.next (s.call.next+1) (l:Int)):=fun w2 g2 c2=>⟨(Fc.call g2).trans (Fc.none (aC _ _ _)),.inr (.inr (.inl ⟨l,rfl,zB,F,_,_,_,j,s.ay+1,z6,by have:=(hp.high h.fn (show s.call.next<=n by omega)).1;rw[z2,ajb]at this;omega,h.st.loc,dD.step z7,by omega,du,c2.grown (aC _ _ _),Blk.alloc (h.ma.wroteC hC g2) _⟩))⟩;have hqv:(0<=v/\v<(N:Int)/\v=(q:Int))\/((v<0\/(N:Int)<=v)/\q=N):=by unfold me at hq;rw[hN]at hq;split at hq <;> omega
 have v64:=z5.wide;have hNq:q<=N:=by omega
 clear h hn hC eW Eg z6 z7 iX hN od hq z1 z2 z3;rcases hqv with⟨u1,u2,rfl⟩|⟨u1,rfl⟩
 ·go_enter func97,ntmps97;go_wp2_with fail;refine iV.mono ?_;clear iV;rintro e w2 ⟨rfl,aP,fc⟩;obtain⟨y1,y2,y3,y4⟩:=HL.out w2 aP;go_wp2_with fail;go_ret;exact⟨_,rfl,HP.out w2 aP fc⟩
 rcases u1 with u1|u1
 ·go_enter func97,ntmps97;go_wp2_with fail;refine iV.mono ?_;clear iV;rintro e w2 ⟨rfl,aP,fc⟩;obtain⟨y1,y2,y3,y4⟩:=HL.out w2 aP;go_wp2_with fail;go_ret;exact⟨_,rfl,HP.out w2 aP fc⟩
 have u0:0<=v:=by omega
 go_enter func97,ntmps97;go_wp2_with fail;refine iV.mono ?_;clear iV;rintro e w2 ⟨rfl,aP,fc⟩;obtain⟨y1,y2,y3,y4⟩:=HL.out w2 aP;go_wp2_with fail;go_ret;exact⟨_,rfl,HP.out w2 aP fc⟩
theorem DK{op:Nat}(hp:Pu mm fs aA)(h:bX az w c W f gl m ads mm fs aA s (s.ay+1) lf pf ai T R P n)(hi:s.call.next<n)(du:s.ay<aA)(hk:cr op=some (R s.call.next).aa)(ex:op=1\/12<=op)(hn:bp w a op num vl vt vg vb ve ew)(iz:eu (R s.call.next) num):Calls prog 97 #[ptr c,ptr a] w fun r w'=>∃kk,r=.returned (.int .i64 kk)/\cV w w' c W f gl m fs aA s lf ai T n s.call.next (s.call.next+1) kk:=by
 have X2:=DJ hp h hi du hk ex hn iz;have k0:=Blk.cell hn 0;simp at k0;have dW:=Blk.lt hn;have n0:((op:Int)==0)=false:=beqn (by omega);have n2:((op:Int)==2)=false:=beqn (by omega);have n4:((op:Int)==4)=false:=beqn (by omega);have n3:((op:Int)==3)=false:=beqn (by omega);have n7:((op:Int)==7)=false:=beqn (by omega);have n8:((op:Int)==8)=false:=beqn (by omega);have n9:((op:Int)==9)=false:=beqn (by omega);have n10:((op:Int)==10)=false:=beqn (by omega);have n11:((op:Int)==11)=false:=beqn (by omega);clear h hn ex hk iz;go_enter func97,ntmps97;go_wp2_with fail;refine X2.mono ?_;clear X2;rintro e w2 ⟨rfl,dq,hE⟩;have HE:Hid _:=hE;clear hE;go_wp2_with fail;go_ret;refine⟨_,rfl,dq,?_⟩;rcases HE.out with q|q
 ·exact .inl ⟨rfl,q⟩
 exact .inr (.inl ⟨rfl,q⟩)
end
def GU(lf:bu)(T:Nat->LSt)(R:Nat->aX)(e J:Nat):Prop:=((R e).aa.au=6/\J=e+1)\/((R e).aa.au=5/\∃F,(T e).ae.getLast?=some F/\∃a b,lf.ah[F.target]?=some (J,a,b))
structure nI(lf:bu)(T:Nat->LSt)(R:Nat->aX)(i i0 e J:Nat)(N:PFr)(sig:Sig):Prop where
 lab0:bT (T i0) 0=some N
 labs:∀k F',bT (T i0) (k+1)=some F'->∃F,bT (T i) k=some F/\cH F F'
 pin:∀j a b,lf.ah[N.target]?=some (j,a,b)->j=J
 ends:GU lf T R e J
 wants:(aZ N).length=sig.2.length
 high:(T i0).af.length=N.am+sig.1.length
section
variable {m:bf}{fs:List bu}{lf:bu}{pf:ck}{ai:List Nat}{T:Nat->LSt}{R:Nat->aX}{P:Nat->Nat}{n aA q:Nat}
theorem eT{s r:LSt}{N:PFr}(h:r.ae=s.ae++[N]):bT r 0=some N/\∀k,bT r (k+1)=bT s k:=by
 unfold bT;rw[h];simp only[ajb,ajr,ajv];refine⟨?_,fun k=>?_⟩
 ·rw[ajd (by omega),ajs (by omega)];have:s.ae.length+(0+1)-1-0-s.ae.length=0:=by omega
  rw[this];rfl
 by_cases hk:k<s.ae.length
 ·rw[ajd (by omega),ajd hk,gAl (by omega)]
  congr 1
  omega
 rw[ajc (by omega),ajc hk]
theorem tT{s r:LSt}{F N:PFr}(hf:s.ae=s.ae.dropLast++[F])(h:r.ae=s.ae.dropLast++[N]):bT r 0=some N/\∀k,bT r (k+1)=bT s (k+1):=by obtain⟨d,hd⟩:∃d:LSt,d.ae=s.ae.dropLast:=⟨{s with ae:=s.ae.dropLast},rfl⟩;rw[<-hd]at h hf;refine⟨(eT h).1,fun k=>?_⟩;rw[(eT h).2 k,(eT hf).2 k]
theorem zC(h:io m fs q lf pf ai T R P n){i e1:Nat}(hi:i<n)(hn:(R i).aa.au=2\/(R i).aa.au=4){sig:Sig}(dp:m.sigs[(R i).idx.headD 0]?=some sig)(he:e1<n)(kJ:FSt (T (i+1)) (T e1))(h6:(R e1).aa.au=6):∃N,nI lf T R i (i+1) e1 (e1+1) N sig:=by
 obtain⟨F0,hf,M,mE⟩:=h.look.moves hi;obtain⟨N,n1,n2,n3,n4,n5,n6,n7,n8⟩:=M.opened (by omega);have hs:(N.aj,N.ak)=sig:=by rw[dp]at n8;exact(Option.some.inj n8).symm
 have Kn:(T (i+1)).ae.getLast?=some N:=by rw[n1];simp
 obtain⟨G,g1,g2,g3⟩:=kJ.last Kn;have hp:=h.look.pinEnd he h6 g1 (by rw[g3,n2];omega);refine⟨N,(eT n1).1,fun k F' hF=>⟨F',by rw[<-(eT n1).2 k];exact hF,cH.refl _⟩,fun j a b hj=>?_,.inl ⟨h6,rfl⟩,?_,?_⟩
 ·rw[h.ok.ah,<-g2.target,hp]at hj;simp at hj;exact hj.1.symm
 ·unfold aZ;rw[ajc (by omega),<-hs]
 rw[n7,ajb,ajq,Nat.min_eq_left n6,<-hs]
theorem zD(h:io m fs q lf pf ai T R P n){i e1 e2:Nat}(hi:i<n)(hn:(R i).aa.au=4){sig:Sig}(dp:m.sigs[(R i).idx.headD 0]?=some sig)(he:e1<n)(kJ:FSt (T (i+1)) (T e1))(h5:(R e1).aa.au=5)(UM:e2<n)(Vo:FSt (T (e1+1)) (T e2))(h6:(R e2).aa.au=6):(∃N,nI lf T R i (i+1) e1 (e2+1) N sig)/\∃N,nI lf T R i (e1+1) e2 (e2+1) N sig:=by
 obtain⟨F0,hf,M,mE⟩:=h.look.moves hi;obtain⟨N,n1,n2,n3,n4,n5,n6,n7,n8⟩:=M.opened (by omega);have hs:(N.aj,N.ak)=sig:=by rw[dp]at n8;exact(Option.some.inj n8).symm
 have Kn:(T (i+1)).ae.getLast?=some N:=by rw[n1];simp
 obtain⟨G,g1,g2,g3⟩:=kJ.last Kn;obtain⟨G',g1',M1,QQ⟩:=h.look.moves he;have hGG:G'=G:=by rw[g1]at g1';exact(Option.some.inj g1').symm
 subst hGG;obtain⟨t1,t2,t3⟩:=M1.turned h5;have hHl:(T (e1+1)).ae.getLast?=some {G' with au:=5,dead:=false}:=by rw[t2];simp
 obtain⟨K,k1,k2,k3⟩:=Vo.last hHl;have hp:=h.look.pinEnd UM h6 k1 (by rw[k3];simp);have P5:(T n).ah[N.target]?=some (e2+1,(aZ K).length,K.am):=by rw[<-g2.target];have:K.target=G'.target:=k2.target;rw[<-this];exact hp
 refine⟨⟨N,(eT n1).1,fun k F' hF=>⟨F',by rw[<-(eT n1).2 k];exact hF,cH.refl _⟩,fun j a b hj=>?_,.inr ⟨h5,G',g1,_,_,by rw[h.ok.ah,g2.target];exact P5⟩,?_,?_⟩,⟨{G' with au:=5,dead:=false},(tT QQ t2).1,fun k F' hF=>?_,fun j a b hj=>?_,.inl ⟨h6,rfl⟩,?_,?_⟩⟩
 ·rw[h.ok.ah,P5]at hj;simp at hj;exact hj.1.symm
 ·unfold aZ;rw[ajc (by omega),<-hs]
 ·rw[n7,ajb,ajq,Nat.min_eq_left n6,<-hs]
 ·rw[(tT QQ t2).2 k]at hF;obtain⟨F,f1,f2⟩:=kJ.label hF;exact⟨F,by rw[<-(eT n1).2 k];exact f1,f2⟩
 ·have:lf.ah[N.target]?=some (j,a,b):=by rw[<-g2.target];exact hj
  rw[h.ok.ah,P5]at this;simp at this;exact this.1.symm
 ·unfold aZ;rw[ajc (by simp)];show G'.ak.length=_;rw[g2.ak,<-hs]
 rw[t3,ajb,ajq,Nat.min_eq_left ((h.look.inv e1 (by omega)).b.below G' (ajm g1))];show G'.am+G'.aj.length=G'.am+_;rw[g2.aj,<-hs]
theorem NO(h:io m fs q lf pf ai T R P n){i e1:Nat}(hi:i<n)(ha:gd (T i))(hn:(R i).aa.au=4){az:List Nat}{sig:Sig}(dp:m.sigs[(R i).idx.headD 0]?=some sig)(cT:(T i).af=az++sig.1++[1])(hr:(T (i+1)).af=az++sig.1)(Gj:i<e1)(he:e1<n)(kJ:FSt (T (i+1)) (T e1))(rS:(R e1).aa.au=5\/(R e1).aa.au=6):∃x t,lf.ay[i]?=some x/\x.ah=[t]/\lf.ah[t]?=some (e1+1,sig.1.length,az.length)/\(T (e1+1)).af=az++sig.1/\gd (T (e1+1)):=by
 obtain⟨F0,hf,M,mE⟩:=h.look.moves hi;obtain⟨N,n1,n2,n3,n4,n5,n6,n7,n8⟩:=M.opened (by omega);have hs:(N.aj,N.ak)=sig:=by rw[dp]at n8;exact(Option.some.inj n8).symm
 have Kn:(T (i+1)).ae.getLast?=some N:=by rw[n1];simp
 obtain⟨G,g1,g2,g3⟩:=kJ.last Kn;have Vp:G.ao=(i:Int):=by rw[g2.ao,n4,(h.look.inv i (by omega)).len]
 obtain⟨x,t,a1,a2,a3⟩:=h.look.pinIf Gj he rS g1 (by rw[g3,n2,hn]) Vp;obtain⟨x',t',j',z1,z2,z3,z4,z5,z6⟩:=h.look.iff hi ha hn dp cT hr;have U2:x'=x:=by rw[a1]at z1;exact(Option.some.inj z1).symm
 subst U2;have htt:t'=t:=by rw[z2]at a2;simpa using a2
 subst htt;rw[a3]at z4;simp at z4;obtain⟨e,e',e''⟩:=z4;subst e;exact⟨x',t',by rw[h.ok.ay];exact a1,a2,by rw[h.ok.ah,a3,e',e''],z5,z6⟩
theorem DL(h:io m fs q lf pf ai T R P n){i e1:Nat}(hi:i<n)(hn:(R i).aa.au=3){sig:Sig}(dp:m.sigs[(R i).idx.headD 0]?=some sig)(he:e1<n)(h6:(R e1).aa.au=6):∃N,bT (T (i+1)) 0=some N/\(∀k F',bT (T (i+1)) (k+1)=some F'->bT (T i) k=some F')/\(∀j a b,lf.ah[N.target]?=some (j,a,b)->j=i+1)/\aZ N=sig.1/\(T (i+1)).af.length=N.am+sig.1.length:=by
 obtain⟨F0,hf,M,mE⟩:=h.look.moves hi;obtain⟨N,n1,n2,n3,n4,n5,n6,n7,n8⟩:=M.opened (by omega);have hs:(N.aj,N.ak)=sig:=by rw[dp]at n8;exact(Option.some.inj n8).symm
 obtain⟨p1,p2⟩:=h.look.pinLoop hi hn n1;refine⟨N,(eT n1).1,fun k F' hF=>by rw[<-(eT n1).2 k];exact hF,fun j a b hj=>?_,?_,?_⟩
 ·rw[h.ok.ah,p1]at hj;simp at hj;exact hj.1.symm
 ·unfold aZ;rw[ajd p2,<-hs]
 rw[n7,ajb,ajq,Nat.min_eq_left n6,<-hs]
theorem jJ.same{i i' k k':Nat}{F F':PFr}{tys:List Nat}{vs:List Int}{j:Nat}(h:jJ ai T lf n i k F' tys vs j)(hl:bT (T i') k'=some F)(hs:cH F F'):jJ ai T lf n i' k' F tys vs j/\ip F vs=ip F' vs:=by have hw:=hs.wants;have hh:=hs.am;refine⟨⟨hl,by rw[<-hs.target,<-hw,<-hh];exact h.tg,?_,h.vals,by rw[<-hw,<-hh];exact h.stk,h.alive,h.le⟩,by unfold ip;rw[hw,hh]⟩;obtain⟨b,e1,e2⟩:=h.suf;exact⟨b,by rw[<-hw];exact e1,by rw[<-hh];exact e2⟩
end
