import Derived.Test.YtjbdgbdcnjopkaaGreatDoorS44
namespace Go.Proofs.YtjbdgbdcnjopkaaGreatDoor
open Go.RowKit Tryz
set_option linter.all false
set_option maxRecDepth 100000
set_option maxHeartbeats 4000000
structure iq(lo W:Nat)(w w':World):Prop where
 os:w'.os=w.os
 tape:w'.tape=w.tape
 output:w'.output=w.output
 size:w.heap.size<=w'.heap.size
 block:∀i,i<lo->i≠W->w'.heap[i]?=w.heap[i]?
theorem iq.refl{lo W:Nat}{w:World}:iq lo W w w:=⟨rfl,rfl,rfl,nLr _,fun _ _ _=>rfl⟩
theorem iq.trans{lo W:Nat}{w w' w2:World}(h:iq lo W w w')(k:iq lo W w' w2):iq lo W w w2:=⟨k.os.trans h.os,k.tape.trans h.tape,k.output.trans h.output,ajE h.size k.size,fun i hi h1=>(k.block i hi h1).trans (h.block i hi h1)⟩
theorem iq.of{lo W c gl:Nat}{w w':World}(h:Fc c W gl w w')(hl:lo<=w.heap.size)(h1:lo<=c)(h2:lo<=gl):iq lo W w w':=⟨h.os,h.tape,h.output,h.size,fun i hi hW=>h.block i (by omega) (by omega) hW (by omega)⟩
theorem iq.grown{lo W:Nat}{w w':World}{row:Option Nat}(h:w.grownBy w' row)(hl:lo<=w.heap.size)(hr:∀g,row=some g->lo<=g\/g=W):iq lo W w w':=⟨h.os,h.tape,h.output,h.size,fun i hi hW=>h.block i (by omega) (fun e=>by rcases hr i e.symm with q|q <;> omega)⟩
section
variable {az lo:Nat}{w w' wc:World}{c d W f gl m a:Nat}{ads:List Nat}{mm:bf}{fs:List bu}{aA:Nat}{s s0:MSt}{ay:Nat}{lf:bu}{pf:ck}{ai:List Nat}{T:Nat->LSt}{R:Nat->aX}{P:Nat->Nat}{n:Nat}
def QV(w':World)(d W f m:Nat)(fs:List bu)(aA:Nat)(s:MSt)(lf:bu)(ai:List Nat):Prop:=
 ∃gl vals ls ay,aI w' d W f gl (tv ai ls) (tv lf.ak vals)/\bG lf.ak vals/\jy fs aA s vals ay/\s.ay<ay/\ay<=aA/\cE w' W m (aA-ay) ay false 0 s.rest.length
def NT(w':World)(d W f gl m:Nat)(fs:List bu)(aA:Nat)(s:MSt)(lf:bu)(ai:List Nat):Prop:=
 ∃(B:List TV) (vals ls:List Int) (ay:Nat),aI w' d W f gl (tv ai ls) (([]:List TV)++B++tv lf.ak vals)/\(([]:List TV)++B++tv lf.ak vals).length<=1000000/\bG lf.ak vals/\jy fs aA s vals ay/\s.ay<ay/\ay<=aA/\cE w' W m (aA-ay) ay false 0 s.rest.length
theorem GY(hp:Pu mm fs aA)(hF:rv mm fs s.call.fn lf pf ai T R P n){e:Nat}(he:e+1=n)(h6:(R e).aa.au=6)(kJ:FSt (T 0) (T e)){kk:Int}(h:cV w w' d W f gl m fs aA s lf ai T n 0 n kk):eo w' d W m fs aA s\/NT w' d W f gl m fs aA s lf ai:=by
 obtain⟨Vu,_⟩:=hF.tr.look.lastStack;have co:=(hp.high hF (ajl _)).2.2.2.1;rcases h.2 with⟨_,hE⟩|⟨_,hE⟩|⟨k,_,_,hE⟩|⟨_,hE⟩
 ·exact .inl hE
 ·obtain⟨s',r1,r2,r3,r4,r5,r6,r7,r8,r9⟩:=hE;have hv:bG lf.ak s'.call.af:=by have:=r5.stk;rw[r4,Vu]at this;exact this
  have uO:jy fs aA s' s'.call.af s'.ay:=wt (by rw[r3];exact hF.tr) r4 hv;rw[Vu]at r8;refine .inr ⟨[],s'.call.af,s'.call.ai,s'.ay,by simpa using r8,?_,hv,jy.after r1 r2 uO,r6,r7,r9⟩;simp only[List.nil_append,List.append_nil];rw[fF hv];omega
 ·obtain⟨F0,f1,f2,f3,f4,f5⟩:=hF.first;obtain⟨F,A,B,C,ls,j,st,p1,⟨px,py,p2⟩,p3,p4,p5,p6,p7,p8,p9,p10,vs,p11,p12,p13,p14⟩:=hE.parts;have Vv:F=F0:=by
   unfold bT at p1;rw[f1]at p1;split at p1
   ·rename_i bM;simp at bM;subst bM;simpa using p1.symm
   cases p1
  subst Vv;have kx:(T 0).ae.getLast?=some F:=by rw[f1];rfl
  obtain⟨G,g1,g2,g3⟩:=kJ.last kx;have Vw:=hF.tr.look.pinEnd (e:=e) (by omega) h6 g1 (by rw[g3,f4];decide);have hj:j=n:=by rw[hF.tr.ok.ah,<-g2.target,Vw]at p2;simp at p2;omega
  subst hj;rw[Vu]at p12 p11;have hA:A=[]:=List.length_eq_zero_iff.1 (by rw[p5,f5]);subst hA;simp only[List.nil_append]at p11;rw[p11]at p3 p4;exact .inr ⟨B,vs,ls,st,p3,p4,p12,jy.after p14 rfl (wt (s:={call:={fn:=s.call.fn,next:=j,ai:=ls,af:=vs},rest:=s.rest,ay:=st}) hF.tr rfl p12),p8,p9,p10⟩
 obtain⟨bt,x,y,ls,st,q1,q2,q3,q3',q4,q5,q6,q7,q8⟩:=hE;rw[fK q1.len]at q7;refine .inr ⟨tv bt x,y,ls,st,by simpa using q7,?_,q2,q4,q5,q6,q8⟩;simp only[List.nil_append,ajb];rw[fF q1,fF q2];omega
theorem Cg:∀{l:List Nat}{x:List Int} (k:Nat),tv (l.take k) (x.take k)=(tv l x).take k
 |l,x,0=>by simp[tv]
 | [],x,k+1=>by simp[tv]
 |a::l,[],k+1=>by simp[tv]
 |a::l,b::x,k+1=>by have:=Cg (l:=l) (x:=x) k;simp only[tv]at this;simp[tv,this]
theorem lI{α:Type}{l:List α}{k:Nat}(h:k<l.length):l.take (k+1)=l.take k++[l[k]]:=by rw[List.take_add_one,gEg h];rfl
theorem Ch(hp:Pu mm fs aA)(hA:nJ mm fs aA (aA-s.ay))(jM:s.ay<=aA)(mA:pV az w m mm ads)(hF:rv mm fs s.call.fn lf pf ai T R P n)(Ci:ads[s.call.fn]?=some f){args:List Int}(ov:bG lf.aj args)(hQ:s.call=fL lf s.call.fn args){vL:Value}(hd:Blk w d #[ptr W,ptr f,vL,.slice none 0 0] 132)(hL:w.ownsRow lo 134 2 vL args.length (bo (tv lf.aj args)))(nO:lo<=w.heap.size)(SE:lo<=d)(hm:cE w W m (aA-s.ay) s.ay false 0 s.rest.length)(qZ:s.rest.length<=40):Calls prog 58 #[ptr d] w fun r w'=>r=.returned (.tuple #[])/\iq lo W w w'/\(eo w' d W m fs aA s\/QV w' d W f m fs aA s lf ai):=by
 have sV:=(hp.high hF (ajl _)).2.2.1;have co:=(hp.high hF (ajl _)).2.2.2.1;have dW:=ov.len;have zH:s.call.ai=args++List.replicate pf.ai.length 0:=by
  rw[hQ];show args.take lf.ai++List.replicate (lf.ai-args.length) 0=_;rw[hF.tr.ok.nloc,hF.tr.loc,ajb,ajB (by omega)]
  congr 2
  omega
 have rP:ai.length=s.call.ai.length:=by rw[zH,hF.tr.loc,ajb,ajb,List.length_replicate];omega
 obtain⟨L0,Iq⟩:=aja (tv ai s.call.ai);have QW:L0.length=ai.length:=by rw[<-Iq];simp[tv,List.length_zip];omega
 have GZ:tv lf.aj args=L0.take args.length:=by rw[<-Iq,<-Cg,zH,hF.tr.loc,<-dW,List.take_left,dW,List.take_left]
 rw[GZ]at hL;have LJ:∀(k t:Nat),args.length<=k->ai[k]?=some t->L0[k]?=some (t,(0:Int)):=fun k t hk ht=>by rw[<-Iq];refine pb ht ?_;have h:=(gEs.1 ht).1;rw[zH,ajs hk,List.getElem?_replicate,ajd];rw[hF.tr.loc,ajb]at h;omega
 obtain⟨xJ,PO⟩:ky w f (lf.aj,lf.ak) ai pf.ax (pf.ax+pf.code.length)/\qP az w mm f (lf.aj,lf.ak) pf:=by
  have bM:=(gEs.1 hF.tr.fn).1;have vh:mm.funs[s.call.fn]'bM=pf:=by have:=hF.tr.fn;rw[gEg bM]at this;exact Option.some.inj this
  have iD:da mm s.call.fn=(lf.aj,lf.ak):=jz bM (by rw[vh];exact hF.tr.sig);have x1:=mA.ga.fns s.call.fn bM f Ci;have x2:=(mA.tr s.call.fn bM f bM Ci).1;rw[vh,iD]at x1 x2;exact⟨by rw[hF.tr.loc];exact x1,x2⟩
 obtain⟨vt,vg,vl,vb,body,kT,qT,t1,t2,t3,t4,t5,t6,t7,t8⟩:=PO;obtain⟨e,e1,e2,e3,e4,e5⟩:=ix hF.tr.look hF.tr.pn kT 0 body qT t6 (by omega) 0 (ajl _) hF.tr.p0;have AO:(R e).aa.au=6:=by have:=(hF.tr.look.trace e e3).1.read;rw[e2]at this;exact kq this t7 (by decide)
 have X4:e+1=n:=by
  rcases Nat.lt_or_ge (e+1) n with q|q
  ·exfalso;have h1:=hF.tr.look.atMost (i:=e+1) q;obtain⟨S,en⟩:=hF.tr.look.trace e e3;have h2:=fB S.read;omega
  omega
 have F1:=t1.cell 2;have F5:=t1.cell 5;have F2:=t1.cell 1;simp at F1 F5 F2;have lv:=t1.lt;obtain⟨NL,Ix⟩:=aja ai.length;have t4':aR w vl ai:=by rw[hF.tr.loc];exact t4
 obtain⟨aq,capq,Ac,_,_⟩:=aG t4';obtain⟨ag,cg,rN,_,_⟩:=aG t3;rw[Ac,Ix]at F1;rw[rN]at F2;obtain⟨NG,Vx⟩:=aja lf.ak.length;simp only at F2;rw[Vx]at F2;have G3:∀k,k<NL->∃gq t,aq=some ⟨gq,0,none⟩/\ai[k]?=some t/\w.cell? ⟨gq,k,none⟩=some (.int .i64 t)/\gq<w.heap.size/\∃cs,Blk w gq cs 3:=fun k hk=>by
  have jl:k<ai.length:=by omega
  rcases t4'.cases with⟨_,q⟩|⟨gq,cp,q1,q2⟩
  ·rw[q]at jl;simp at jl
  rw[Ac]at q1;cases q1;obtain⟨_,cc,od⟩:=ba t4' gq (by rw[Ac];simp[Value.ownBlock]);exact⟨gq,ai[k],rfl,gEg jl,q2 k _ (by simp[aV,gEg jl]),od.lt,cc,od⟩
 have G4:∀k,k<NG->∃gq t,ag=some ⟨gq,0,none⟩/\lf.ak[k]?=some t/\w.cell? ⟨gq,k,none⟩=some (.int .i64 t)/\∃cs,Blk w gq cs 3:=fun k hk=>by
  have jl:k<lf.ak.length:=by omega
  rcases t3.cases with⟨_,q⟩|⟨gq,cp,q1,q2⟩
  ·simp only at q;rw[q]at jl;simp at jl
  rw[rN]at q1;cases q1;obtain⟨_,cc,od⟩:=ba t3 gq (by rw[rN];simp[Value.ownBlock]);exact⟨gq,lf.ak[k],rfl,gEg jl,q2 k _ (by simp[aV,gEg jl]),cc,od⟩
 obtain⟨i0,hi,fo,eP,eV⟩:=info_parts pT;obtain⟨aL,capL,rfl,X5,_⟩:=aG hL;obtain⟨na,uv⟩:=aja args.length;rw[uv]at hL hd;have QX:na<=NL:=by rw[<-uv,<-Ix,hF.tr.loc,ajb];omega
 have c2:=hd.cell 2;simp at c2;have rO:=hd.lt;have aa7:(NL:Int)<=14:=by omega
 have vo:Hid _:=t1;have HLA:Hid _:=G3;have G6:Hid _:=G4;have HZ:Hid (∀(k t:Nat),na<=k->ai[k]?=some t->L0[k]?=some (t,(0:Int))):=by rw[<-uv];exact LJ
 have NU:Hid (L0.length=NL):=by show _=_;rw[QW,Ix]
 have OY:Hid _:=Iq;have HD:Hid _:=hd;have HA:Hid _:=hA;have NV:Hid _:=mA;have MA:Hid _:=hF;have HM:Hid _:=hm;have HE5:Hid _:=e5;have SF:Hid _:=e1;have HT5:Hid (fN w (fun g=>az<=g) vb body):=t5;have vi:Hid _:=Vx;have HP:Hid _:=hp;have HVS:Hid (bG ai s.call.ai):=by show bG _ _;rw[zH,hF.tr.loc];have:(List.replicate pf.ai.length (0:Int))=List.replicate pf.ai.length 0:=rfl;refine ov.append (bG.zeros fun t ht=>hF.tr.ok.types t (by rw[hF.tr.loc];simp[ht]))
 have Iu:Hid (s.call.next=0/\s.call.af=[]):=by show _/\_;rw[hQ];exact⟨rfl,rfl⟩
 clear t1 t2 t3 t4 t4' t5 t6 G3 G4 LJ QW Iq GZ zH rP Ac rN hA mA hF hm e5 e1 Vx Ix uv hQ ov dW hp xJ;go_enter func58,ntmps58;go_wp2_with fail;go_loopw [2] (fun i wr=>∃(k:Nat) (aL:Option Addr) (capL:Nat),i=.int .i64 k/\na<=k/\k<=NL/\Blk wr d #[ptr W,ptr f,.slice aL k capL,.slice none 0 0] 132/\wr.ownsRow lo 134 2 (.slice aL k capL) k (bo (L0.take k))/\iq lo W w wr/\Hid (∀g cs t,t≠132->t≠134->Blk w g cs t->Blk wr g cs t)) (fun i _=>NL-(intOf i).toNat)
 case atStart=>exact⟨na,aL,capL,rfl,nLr _,QX,HD.out,hL,iq.refl,fun _ _ _ _ _ hb=>hb⟩
 case round=>
  obtain⟨k,aL2,capL2,rfl,A8,X6,pL,oF,yz,HK⟩:=hrel;obtain⟨w1,rfl⟩:∃z,z=wr:=⟨wr,rfl⟩;have r1:=pL.cell 1;have r2:=pL.cell 2;have r2f:=pL.frozen 2;simp at r1 r2;have NW:=pL.lt;have ya:=HK.out _ _ _ (by decide) (by decide) vo.out;have G1:=ya.cell 2;have G5:=ya.cell 5;have G2:=ya.cell 1;have MJ:=ya.lt;rw[<-(Blk.cell vo.out 2)]at G1;rw[<-(Blk.cell vo.out 5)]at G5;rw[<-(Blk.cell vo.out 1)]at G2;rw[F1]at G1;rw[F5]at G5;rw[F2]at G2;have DN:lo<=w1.heap.size:=ajE nO yz.size;clear ya;by_cases hk:k<NL
  ·obtain⟨gq,t,rfl,ht,bC,iB,cq,om⟩:=HLA.out k hk;have tV:=HK.out _ _ _ (by decide) (by decide) om;have SA:w1.cell? ⟨gq,k,none⟩=some (.int .i64 t):=by rw[tV.cell,<-om.cell];exact bC
   have QY:=tV.lt;have rQ:(k:Int)<(NL:Int):=by omega
   have hz:=HZ.out k t A8 ht;have jl:k<L0.length:=by rw[NU.out];exact hk
   have cZ:bo (L0.take (k+1))=bo (L0.take k)++[.int .i64 t,.int .i64 0]:=by rw[lI jl,gu];rw[gEg jl]at hz;rw[Option.some.inj hz];rfl
   have Vy:Hid _:=cZ;have cG:(w1.alloc (.cells #[.int .i64 t,.int .i64 0] 134)).drew.ownsRow lo 134 2 (.slice aL2 k capL2) k (bo (L0.take k)):=aJ oF fun g c hb=>hb.alloc _;have q4:∀j u,([.int .i64 t,.int .i64 0]:List Value)[j]?=some u->(w1.alloc (.cells #[.int .i64 t,.int .i64 0] 134)).drew.cell? ((⟨w1.heap.size,0,none⟩:Addr).add j)=some u:=mb w1 _ _ _;have q5:k+1<=maxLen:=by simp[maxLen];omega
   have q6:(k+1)*16<=140737488355328:=by omega
   have q7:lo<=(w1.alloc (.cells #[.int .i64 t,.int .i64 0] 134)).drew.heap.size:=by simp;omega
   have Nx:Hid _:=q4;have Vz:Hid _:=pL;have DM:Hid _:=yz;have VA:Hid (∀w2:World,(w1.alloc (.cells #[.int .i64 t,.int .i64 0] 134)).drew.grownBy w2 (Value.slice aL2 k capL2).ownBlock->Blk w2 d #[ptr W,ptr f,.slice aL2 k capL2,.slice none 0 0] 132/\iq lo W w w2/\∀g cs t',t'≠132->t'≠134->Blk w g cs t'->Blk w2 g cs t'):=fun w2 hg=>by
    have keep:∀g cs t',t'≠134->Blk w1 g cs t'->Blk w2 g cs t':=fun g cs t' Mu hb=>by
     cases i7:(Value.slice aL2 k capL2).ownBlock with
     |none=>rw[i7]at hg;exact Blk.grown (hb.alloc (.cells #[.int .i64 t,.int .i64 0] 134)).drew hg (by simp)
     |some q=>
      rw[i7]at hg;obtain⟨_,c',kt⟩:=ba cG q i7;exact aF hg kt (hb.alloc (.cells #[.int .i64 t,.int .i64 0] 134)).drew Mu
    refine⟨keep _ _ _ (by decide) Vz.out,DM.out.trans ?_,fun g cs t' h1 h2 hb=>keep g cs t' h2 (HK.out g cs t' h1 h2 hb)⟩;refine(iq.grown (row:=none) (aE (aC w1 _ none)) DN (by simp)).trans (iq.grown hg (by simp;omega) fun g yf=>.inl (ba cG g yf).1)
   have G7:∀u∈([.int .i64 t,.int .i64 0]:List Value),u.oneCell'=true:=by simp[Value.oneCell']
   have zm:Hid _:=G7;clear q4 G7 cZ hz bC om tV ht pL yz oF;go_wp2_with fail
   go_region_law (refine bQ rfl _ _ 130 rfl lo 134 i0 _ 2 16 underlying130 hi fo eP eV rfl (by decide) (.slice aL2 k capL2) k (bo (L0.take k)) rfl cG ⟨w1.heap.size,0,none⟩ 1 1 [.int .i64 t,.int .i64 0] rfl rfl Nx.out zm.out q5 q6 q7 ?_;intro v' w' kr cD;obtain⟨a',cap',rfl,_⟩:=aG kr;obtain⟨sG,G8,Ef⟩:=VA.out _ cD;have u1:=sG.cell 2;have u2:=sG.frozen 2;have u3:=sG.lt;simp at u1;have QZ:Hid _:=kr;have LL:Hid _:=sG;have G9:Hid _:=G8;have VB:Hid _:=Ef;clear kr sG G8 Ef)
   all_goals
    go_wp2_with fail;go_roundw
    case rel=>
     have dU:=aD w' d 2 (.slice a' (k+1) cap');have bY:=Blk.set LL.out 2 (.slice a' (k+1) cap');simp at bY;refine⟨k+1,a',cap',by simp,by omega,by omega,bY,?_,G9.out.trans (iq.grown dU (by have:=G9.out.size;omega) (fun g hg=>by cases hg;exact .inl SE)),fun g cs t' h1 h2 hb=>aF dU LL.out (VB.out g cs t' h1 h2 hb) h1⟩;rw[Vy.out];exact aJ QZ.out fun g c hb=>aF dU LL.out hb (by decide)
    case measure=>simp[intOf];omega
  obtain rfl:k=NL:=by omega
  have ry:L0.take k=L0:=ajB (by rw[NU.out];exact nLr _);rw[ry]at oF;obtain⟨gl,LM,iB⟩:∃gl,aI w1 d W f gl L0 []/\lo<=gl:=by
   rcases Gn oF NU.out.symm with⟨e8,e9⟩|⟨g,cap,cs,e8,e9,e10,e11,e12⟩
   ·exact⟨d,⟨_,_,pL,.inl ⟨e8,e9,rfl⟩,.inl ⟨rfl,rfl⟩⟩,SE⟩
   exact⟨g,⟨_,_,pL,.inr ⟨cap,cs,e8,e9,e11,e12⟩,.inl ⟨rfl,rfl⟩⟩,e10⟩
  obtain⟨ph,Ha⟩:=Iu.out;obtain⟨F9,f1,f2,f3,f4⟩:=MA.out.tr.look.ax;have sX:bX az w1 d W f gl m ads mm fs aA s s.ay lf pf ai T R P n:=⟨NV.out.keep fun g cs t h1 h2 h3 hb=>HK.out g cs t h1 h2 hb,MA.out,Ci,by rw[ph,f4,Ha,OY.out];exact LM,HK.out _ _ _ (by decide) (by decide) HM.out,⟨HVS.out,by rw[ph];intro G hG;rw[f1]at hG;simp at hG;subst hG;exact f2,by rw[ph,f4,Ha];trivial⟩,qZ⟩;have cL:=HA.out az w1 d W f gl m ads s lf pf ai T R P n kT body vb e n sX (nLr _) jM (HT5.out.keep fun g cs ho hb=>⟨HK.out g cs 155 (by decide) (by decide) hb,ho⟩) (by rw[ph];exact cB.keep (fun g cs t ht hb=>HK.out g cs t (by rcases ht with rfl|rfl|rfl <;> decide) (by rcases ht with rfl|rfl|rfl <;> decide) hb) _ _ _ _ SF.out) e3 (.inl ⟨AO,X4.symm⟩);rw[ph]at cL;have iJ:Hid _:=cL;have Ko:Hid _:=sX;have DM:Hid _:=yz;clear cL sX ry oF pL yz LM f1 f2 f3 f4;go_wp2_with fail;refine Calls.mono iJ.out ?_;rintro e9 w2 ⟨kk,rfl,gL⟩;have Cf:=gL.1;have nN:Hid (iq lo W w w2):=DM.out.trans (iq.of Cf DN SE iB);have yd:Blk w2 f _ 49:=Cf.types Ko.out.call Ko.out.ma (HK.out _ _ _ (by decide) (by decide) vo.out) (by decide) (by decide) (by decide);have LN:Hid _:=yd;have IA:Hid (∀g cs,Blk w g cs 3->Blk w2 g cs 3):=fun g cs hb=>Cf.types Ko.out.call Ko.out.ma (HK.out _ _ _ (by decide) (by decide) hb) (by decide) (by decide) (by decide);rcases GY HP.out MA.out X4 AO HE5.out gL with hE|hE
  ·obtain⟨left,st,e',Oz,ta,nL,Sm,iX⟩:=hE;have m3:=Blk.cell ta 3;simp at m3;have LO:=Blk.lt ta;have ey:Hid (eo w2 d W m fs aA s):=⟨left,st,e',Oz,ta,nL,Sm,iX⟩;clear gL Cf yd ta nL iJ;go_wp2_with fail;first|go_end0|refine bodyPost_ret (results_none rfl _ _ _) rfl ?_
   exact⟨rfl,nN.out,.inl ey.out⟩
  obtain⟨B,vals,ls,st,x1,x2,x3,x4,x5,x6,x7⟩:=hE;have m3:=Blk.cell x7 3;simp at m3;have LO:=Blk.lt x7;have Sm:=x1.machine;have iX:=x1.lt.1;have lH:=aad x1 x2;rw[fF x3,vi.out]at lH;simp only[ajv,show ((0:Nat):Int)=0 from rfl]at lH
  obtain⟨y1,y2,y3,_⟩:=id x1;have y4:=y3.cell 1;simp at y4;have y5:=yd.cell 1;rw[<-(Blk.cell vo.out 1),F2]at y5;have AI:=yd.lt;have HX:Hid _:=x1;have VC:Hid _:=x3;have VD:Hid _:=x4;have VE:Hid _:=x5;have SG:Hid _:=x6;have HX7:Hid _:=x7;clear gL Cf yd x1 x2 x3 x4 x5 x6 x7 y3 iJ;go_wp2_with fail;refine lH.mono ?_;clear lH;rintro e8 w3 ⟨rfl,co,gz⟩;have Nn:=aI.wrote HX.out co LN.out (by decide);have y6:=Nn.cell 1;rw[<-(Blk.cell vo.out 1),F2]at y6;have abd:=Nn.lt;have Q0:Hid (∀g cs,Blk w g cs 3->Blk w3 g cs 3):=fun g cs hb=>aI.wrote HX.out co (IA.out g cs hb) (by decide);have ey:Hid (QV w3 d W f m fs aA s lf ai):=⟨gl,vals,ls,st,by simpa using gz,VC.out,VD.out,VE.out,SG.out,cE.wroteC HX7.out HX.out co⟩;have GB:Hid (iq lo W w w3):=nN.out.trans (iq.grown co (by have:=nN.out.size;omega) fun g hg=>by cases hg;exact .inl SE);obtain⟨u1,u2,u3,u4,u5⟩:=id gz;have v1:=u3.cell 1;have v3:=u3.cell 3;simp at v1 v3;have JC:=u3.lt;have OZ:(([]:List TV)++tv lf.ak vals).length=NG:=by simp only[List.nil_append];rw[fF VC.out,vi.out]
  obtain⟨aS,capS,zF,LQ⟩:∃aS capS,u2=.slice aS NG capS/\∀k,k<NG->∃g,aS=some ⟨g,0,none⟩/\g<w3.heap.size/\∀t,lf.ak[k]?=some t->w3.cell? ⟨g,k*2,none⟩=some (.int .i64 t):=by
   rcases u5 with⟨z1,z2⟩|⟨g,cap,cs,z1,z2,z3,z4,z5⟩
   ·rw[z2]at OZ;have:NG=0:=by simpa using OZ.symm
    exact⟨none,0,by rw[z1,this],fun k hk=>by omega⟩
   refine⟨some ⟨g,0,none⟩,cap,by rw[z1,OZ],fun k hk=>⟨g,rfl,z2.lt,fun t ht=>?_⟩⟩;obtain⟨z6,_⟩:=z5 k (by rw[OZ];exact hk);rw[z2.cell,z6];have VF:k<vals.length:=by rw[<-VC.out.len,vi.out];exact hk
   have h9:(([]:List TV)++tv lf.ak vals)[k]?=some (t,vals[k]):=pb ht (gEg VF);rw[gEg (by rw[OZ];exact hk)]at h9;rw[Option.some.inj h9]
  rw[zF]at v3;have Q3:Hid _:=LQ;have abe:(NG:Int)<=3:=by have:=vi.out;omega
  clear gz u3 u4 u5 LQ zF co Nn OZ;go_wp2_with fail;go_loopw [3] (fun i wr=>∃(k j:Nat),i=.int .i64 k/\k<=NG/\wr=w3.drewN j) (fun i _=>NG-(intOf i).toNat)
  case atStart=>exact⟨0,0,rfl,ajl _,rfl⟩
  case round=>
   obtain⟨k2,j2,rfl,lg,vF⟩:=hrel;subst vF;by_cases lj:k2<NG
   ·obtain⟨g8,rfl,abf,mS⟩:=Q3.out k2 lj;obtain⟨gq,t,rfl,ht,bC,cq,om⟩:=G6.out k2 lj;have NX:=Q0.out _ _ om;have Sz:w3.cell? ⟨gq,k2,none⟩=some (.int .i64 t):=by rw[NX.cell,<-om.cell];exact bC
    have abg:=NX.lt;have X7:=mS t ht;have VG:(k2:Int)<(NG:Int):=by omega
    clear mS ht bC om NX;go_wp2_with fail;go_quiet (fail)
    go_wp2_with fail;go_roundw
    case rel=>exact⟨k2+1,j2+nq,by simp,by omega,by simp[World.drewN_drewN]⟩
    case measure=>simp[intOf];omega
   have VG:(NG:Int)<=(k2:Int):=by omega
   go_wp2_with fail;go_end0;obtain⟨g9,vals9,ls9,st9,w1',w2',w3',w4',w5',w6'⟩:=ey.out;exact⟨rfl,GB.out.trans (iq.grown (row:=none) (bd (aH _ _) j2) (by have:=GB.out.size;omega) (by simp)),.inr ⟨g9,vals9,ls9,st9,w1',w2',w3',w4',w5',w6'⟩⟩
end
section
variable {az lo:Nat}{w w' wc:World}{c d W f f2 gl m a:Nat}{ads:List Nat}{mm:bf}{fs:List bu}{aA:Nat}{s s0:MSt}{ay:Nat}{lf:bu}{pf:ck}{ai:List Nat}{T:Nat->LSt}{R:Nat->aX}{P:Nat->Nat}{n:Nat}{L S:List TV}
theorem aI.low(h:aI w c W f gl L S)(tC:∀g len cap,w.cell? ⟨c,3,none⟩=some (.slice (some ⟨g,0,none⟩) len cap)->g<lo)(hc:c<lo)(hg:gl<lo){cs:Array Value}(hW:Blk w W cs 128)(k:iq lo W w w'):aI w' c W f gl L S:=by
 obtain⟨vL,vS,h1,h2,h3⟩:=h;have keep:∀g cs t,g<lo->t≠128->Blk w g cs t->Blk w' g cs t:=fun g cs t hg ht hb=>(k.block g hg (jP hb hW ht)).trans hb;refine⟨vL,vS,keep _ _ _ hc (by decide) h1,h2.keep (fun cs hb=>keep _ _ _ hg (by decide) hb),?_⟩;rcases h3 with h3|⟨g,cap,cs,e1,e2,e3⟩
 ·exact .inl h3
 have iB:=tC g _ cap (by rw[h1.cell];simp[e1];rfl);exact .inr ⟨g,cap,cs,e1,keep _ _ _ iB (by decide) e2,e3⟩
theorem Bo(h:bX az w c W f gl m ads mm fs aA s (s.ay+1) lf pf ai T R P n)(Qz:40<=s.rest.length)(cT:bB fs aA s=some (.inr ⟨5,s.ay+1,[]⟩)):Calls prog 125 #[ptr c,ptr f2] w fun r w'=>r=.returned (.tuple #[])/\Fc c W gl w w'/\(eo w' c W m fs aA s\/iM w' c W f gl m fs aA s ai T (s.call.next+1)):=by
 have c0:=h.call.machine;have iX:=h.call.lt.1;have m5:=Blk.cell h.ma 5;simp at m5;have LO:=Blk.lt h.ma;have hE:=ny h.ma 5;simp only[show ((5:Nat):Int)=5 from rfl]at hE
 have abh:(40:Int)<=(s.rest.length:Int):=by omega
 have ey:Hid (∀w2:World,w.grownBy w2 (some W)->cE w2 W m (aA-(s.ay+1)) (s.ay+1) true 5 s.rest.length->eo w2 c W m fs aA s):=fun w2 g2 m2=>tS cT (by decide) m2 (h.call.wroteW h.ma g2);clear h cT Qz;go_enter func125,ntmps125;go_wp2_with fail;refine hE.mono ?_;clear hE;rintro e w2 ⟨rfl,aP,rL⟩;go_wp2_with fail;first|go_end0|refine bodyPost_ret (results_none rfl _ _ _) rfl ?_
 exact⟨rfl,Fc.mach aP,.inl (ey.out w2 aP rL)⟩
theorem DO(hp:Pu mm fs aA)(IH:∀N,N<aA-s.ay->nJ mm fs aA N)(h:bX az w c W f gl m ads mm fs aA s (s.ay+1) lf pf ai T R P n)(hi:s.call.next<n)(du:s.ay<aA)(hk:(R s.call.next).aa.au=11)(Ci:ads[(R s.call.next).idx.headD 0]?=some f2)(Qz:s.rest.length<40):Calls prog 125 #[ptr c,ptr f2] w fun r w'=>r=.returned (.tuple #[])/\Fc c W gl w w'/\(eo w' c W m fs aA s\/iM w' c W f gl m fs aA s ai T (s.call.next+1)):=by
 obtain⟨-,l2,bt,x,y,z1,z2,z3,z4,z5,z6,z7⟩:=wu h.fn.tr hp.all hi h.st (show s.ay≠aA by omega) hk;have dz:=z7 Qz;obtain⟨pf2,locals2,T2,R2,P2,n2,dq⟩:=hp.fns _ _ z1;obtain⟨q,hq⟩:=aja ((R s.call.next).idx.headD 0);rw[hq]at z1 Ci dq dz;have GW:gd (T (s.call.next+1)):=h.fn.tr.look.alive_next hi h.st.alive (by omega);have XC:=hp.high dq (ajl _);have bM:=(gEs.1 dq.tr.fn).1;have vh:mm.funs[q]'bM=pf2:=by have:=dq.tr.fn;rw[gEg bM]at this;exact Option.some.inj this
 have iD:da mm q=(l2.aj,l2.ak):=jz bM (by rw[vh];exact dq.tr.sig);have xJ:=h.mod.ga.fns q bM f2 Ci;rw[vh,iD]at xJ;obtain⟨vt,vg,vl,vb,t1,t2,t3,t4⟩:=xJ;simp only at t2 t3;have F0:=t1.cell 0;have F1:=t1.cell 1;simp at F0 F1;obtain⟨aq,capq,oI,_,_⟩:=aG t2;obtain⟨ag,cg,rN,_,_⟩:=aG t3;rw[oI]at F0;rw[rN]at F1;obtain⟨nt,ld⟩:=aja l2.aj.length;obtain⟨ng,qN⟩:=aja l2.ak.length;rw[ld]at F0;rw[qN]at F1;have zI:∀k,k<nt->∃gq t v,aq=some ⟨gq,0,none⟩/\l2.aj[k]?=some t/\y[k]?=some v/\w.cell? ⟨gq,k,none⟩=some (.int .i64 t)/\∃cs,Blk w gq cs 3:=fun k hk=>by
  have jl:k<l2.aj.length:=by omega
  have SH:k<y.length:=by rw[<-z5.len];exact jl
  rcases t2.cases with⟨_,e⟩|⟨gq,cp,e1,e2⟩
  ·rw[e]at jl;simp at jl
  rw[oI]at e1;cases e1;obtain⟨_,cc,od⟩:=ba t2 gq (by rw[oI];simp[Value.ownBlock]);exact⟨gq,l2.aj[k],y[k],rfl,gEg jl,gEg SH,e2 k _ (by simp[aV,gEg jl]),cc,od⟩
 have LT:∀k,k<ng->∃gq t,ag=some ⟨gq,0,none⟩/\l2.ak[k]?=some t/\w.cell? ⟨gq,k,none⟩=some (.int .i64 t)/\∃cs,Blk w gq cs 3:=fun k hk=>by
  have jl:k<l2.ak.length:=by omega
  rcases t3.cases with⟨_,e⟩|⟨gq,cp,e1,e2⟩
  ·rw[e]at jl;simp at jl
  rw[rN]at e1;cases e1;obtain⟨_,cc,od⟩:=ba t3 gq (by rw[rN];simp[Value.ownBlock]);exact⟨gq,l2.ak[k],rfl,gEg jl,e2 k _ (by simp[aV,gEg jl]),cc,od⟩
 obtain⟨D,hD⟩:=aja (tv l2.aj y);have X8:D.length=nt:=by rw[<-hD,fF z5,ld]
 have SI:=h.call;rw[z2,z3,fK z4.len,hD]at SI;have BK:(tv bt x).length<=2400:=by have:=h.len hp (by omega);rw[z2,z3,fK z4.len,ajb]at this;omega
 have c0:=h.call.machine;have iX:=h.call.lt.1;have iB:=h.call.lt.2;have m5:=Blk.cell h.ma 5;simp at m5;have LO:=Blk.lt h.ma;have SJ:(s.rest.length:Int)<40:=by omega
 have lv:=t1.lt;have abi:(nt:Int)<=6:=by omega
 have VH:(ng:Int)<=3:=by omega
 obtain⟨i0,Aj,fo,eP,eV⟩:=info_parts pT;obtain⟨lo,nO⟩:=aja w.heap.size;have LU:∀g len cap,w.cell? ⟨c,3,none⟩=some (.slice (some ⟨g,0,none⟩) len cap)->g<lo:=fun g len cap bC=>by
  obtain⟨vL,vS,x1,x2,x3⟩:=SI;rw[x1.cell]at bC;simp at bC;rw[<-nO];rcases x3 with⟨e1,_⟩|⟨g',cap',cs,e1,e2,_⟩
  ·rw[e1]at bC;cases bC
  rw[e1]at bC;cases bC;exact e2.lt
 have E9:=Blk.new w #[ptr W,ptr f2,.slice none 0 0,.slice none 0 0] 132;have kA:∀g cs t,Blk w g cs t->Blk (w.alloc (.cells #[ptr W,ptr f2,.slice none 0 0,.slice none 0 0] 132)) g cs t:=fun g cs t hb=>hb.alloc _;rw[nO]at E9;have HH:Hid _:=h;have Iu:Hid (aI w c W f gl (tv ai s.call.ai) (tv bt x++D)):=SI;have vo:Hid _:=t1;have VI:Hid _:=zI;have G6:Hid _:=LT;have HD:Hid _:=hD;have SK:Hid _:=X8;have zl:Hid _:=nO;have VJ:Hid _:=LU;have HP:Hid _:=hp;have nN:Hid _:=dq;have QT:Hid _:=IH;have Q4:Hid _:=dz;have X9:Hid _:=z5;have Ya:Hid _:=z4;have HZ6:Hid _:=z6;have HAL:Hid _:=GW;have vi:Hid _:=qN;have QC:Hid _:=ld;have LE:Hid _:=h.ma;clear h SI t1 t2 t3 t4 zI LT hD X8 LU hp dq IH dz z7 z5 z4 z6 z1 z2 z3 oI rN qN ld GW XC vh iD hq;rw[nO]at iX iB LO lv;go_enter func125,ntmps125;go_wp2_with fail;clear nO;go_loopw [6] (fun i wr=>∃(k:Nat) (aL:Option Addr) (capL:Nat),i=.int .i64 ((k:Int)-1)/\k<=nt/\Blk wr lo #[ptr W,ptr f2,.slice aL (nt-k) capL,.slice none 0 0] 132/\wr.ownsRow lo 134 2 (.slice aL (nt-k) capL) (nt-k) (bo (D.drop k))/\aI wr c W f gl (tv ai s.call.ai) (tv bt x++D.take k)/\Fc c W gl w wr/\Hid (∀g cs t,t≠132->t≠134->Blk w g cs t->Blk wr g cs t)/\Hid (∀g len cap,wr.cell? ⟨c,3,none⟩=some (.slice (some ⟨g,0,none⟩) len cap)->g<lo)) (fun i _=>(intOf i+1).toNat)
 case atStart=>
  refine⟨nt,none,0,rfl,nLr _,by rw[Nat.sub_self];exact E9,?_,?_,Fc.none (aC _ _ _),fun g cs t _ _ hb=>hb.alloc _,?_⟩
  ·rw[Nat.sub_self,List.drop_of_length_le (by rw[SK.out];exact nLr _)];exact ajj _ _ _ _
  ·rw[ajB (by rw[SK.out];exact nLr _)];exact Iu.out.grown (aC _ _ _)
  intro g len cap bC;refine VJ.out g len cap ?_;obtain⟨vL,vS,x1,_⟩:=Iu.out;rw[(x1.alloc _).cell]at bC;rw[x1.cell];exact bC
 case round=>
  obtain⟨k,aL,capL,rfl,xZ,pL,oF,Bp,uu,HK,VK⟩:=hrel;obtain⟨w1,rfl⟩:∃z,z=wr:=⟨wr,rfl⟩;have DN:lo<=w1.heap.size:=by have:=uu.size;have:=zl.out;omega
  have hT:=HK.out _ _ _ (by decide) (by decide) vo.out;have G0:=hT.cell 0;have G1:=hT.cell 1;rw[<-(Blk.cell vo.out 0),F0]at G0;rw[<-(Blk.cell vo.out 1),F1]at G1;have MJ:=hT.lt;have d2:=pL.cell 2;simp at d2;have NW:=pL.lt;have wG:cE w1 W m (aA-(s.ay+1)) (s.ay+1) false 0 s.rest.length:=HK.out _ _ _ (by decide) (by decide) LE.out;clear hT;cases k with
  |zero=>
   have Ha:tv bt x++D.take 0=tv bt x:=by simp
   rw[Ha]at Bp;simp only[Nat.sub_zero,List.drop_zero]at oF pL;have m5r:=Blk.cell wG 5;simp at m5r;have m5f:=Blk.frozen wG 5;have abl:=Blk.lt wG;have abm:W≠lo:=jP wG pL (by decide);have bY:cE (w1.setCell ⟨W,5,none⟩ (.int .i64 ((s.rest.length:Int)+1))) W m (aA-(s.ay+1)) (s.ay+1) false 0 (s.rest.length+1):=by have h9:=Blk.set wG 5 (.int .i64 ((s.rest.length:Int)+1));simpa [cE] using h9
   have dU:=aD w1 W 5 (.int .i64 ((s.rest.length:Int)+1));obtain⟨wB,OL⟩:=aja (w1.setCell ⟨W,5,none⟩ (.int .i64 ((s.rest.length:Int)+1)));rw[OL]at bY dU;have kB:∀g cs t,t≠128->Blk w1 g cs t->Blk wB g cs t:=fun g cs t ht hb=>aF dU wG hb ht;obtain⟨s2,rC⟩:∃s2:MSt,({call:=fL l2 q y,rest:={s.call with next:=s.call.next+1,af:=x}::s.rest,ay:=s.ay+1}:MSt)=s2:=⟨_,rfl⟩;have Kp:s2.rest={s.call with next:=s.call.next+1,af:=x}::s.rest:=by rw[<-rC]
   have NY:s2.ay=s.ay+1:=by rw[<-rC]
   have Kq:s2.call.fn=q:=by rw[<-rC];rfl
   have Q5:s2.call=fL l2 s2.call.fn y:=by rw[Kq,<-rC]
   have Hb:dD fs aA s s2:=by rw[<-rC];exact dD.step Q4.out
   have Yb:y.length=nt:=by rw[<-X9.out.len,QC.out]
   have Ij:cE wB W m (aA-s2.ay) s2.ay false 0 s2.rest.length:=by rw[NY,Kp];exact bY
   have Hc:=Ch (lo:=lo) (d:=lo) HP.out (QT.out (aA-s2.ay) (by omega)) (by omega) (HH.out.mod.keep fun g cs t h1 h2 h3 hb=>kB g cs t h3 (HK.out g cs t h1 h2 hb)) (by rw[Kq];exact nN.out) (by rw[Kq];exact Ci) X9.out Q5 (kB _ _ _ (by decide) pL) (by rw[Yb,HD.out];exact aJ oF fun g cs hb=>kB g cs 134 (by decide) hb) (by have:=dU.size;omega) (nLr _) Ij (by rw[Kp,ajr];omega);have DP:Hid _:=Hc;have LV:Hid _:=Ij;have Yc:Hid (∀g cs t,t≠132->t≠134->t≠128->Blk w g cs t->Blk wB g cs t):=fun g cs t h1 h2 h3 hb=>kB g cs t h3 (HK.out g cs t h1 h2 hb);have HCB:Hid (aI wB c W f gl (tv ai s.call.ai) (tv bt x)):=Bp.keep fun g cs t ht hb=>kB g cs t (by rcases ht with rfl|rfl <;> decide) hb;have Tj:Hid (∀g len cap,wB.cell? ⟨c,3,none⟩=some (.slice (some ⟨g,0,none⟩) len cap)->g<lo):=fun g len cap bC=>by obtain⟨vL,vS,u1,_⟩:=Bp;refine VK.out g len cap ?_;rw[(kB _ _ _ (by decide) u1).cell]at bC;rw[u1.cell];exact bC
   have HFB:Hid (Fc c W gl w wB):=uu.trans (Fc.mach dU);have N1:Hid _:=Kp;have VL:Hid _:=NY;have LI:Hid (dD fs aA s s2):=Hb;clear Hc Ij kB bY dU wG Bp uu oF pL Ha rC Kp NY Kq Q5 Hb Yb HK VK;go_wp2_with fail;try rw[OL]
   clear OL;refine Calls.mono DP.out ?_;rintro e9 w2 ⟨rfl,qR,gL⟩;have WU:Hid _:=qR;have O0:=aI.low HCB.out Tj.out iX iB LV.out qR;have Kr:Fc c W gl w w2:=by have Q6:=HFB.out;refine⟨qR.os.trans Q6.os,qR.tape.trans Q6.tape,qR.output.trans Q6.output,ajE Q6.size qR.size,fun j hj h1 h2 h3=>(qR.block j (by rw[<-zl.out];exact hj) h2).trans (Q6.block j hj h1 h2 h3)⟩
   have IA:Hid (∀g cs t,t≠132->t≠134->t≠128->Blk w g cs t->Blk w2 g cs t):=fun g cs t h1 h2 h3 hb=>(qR.block g (by rw[<-zl.out];exact hb.lt) (jP (Yc.out g cs t h1 h2 h3 hb) LV.out h3)).trans (Yc.out g cs t h1 h2 h3 hb);have yd:=IA.out _ _ _ (by decide) (by decide) (by decide) vo.out;have J1:=yd.cell 1;rw[<-(Blk.cell vo.out 1),F1]at J1;have AI:=yd.lt;have abp:=O0.machine;have abq:=O0.lt.1;clear yd;rcases gL with hE|hE
   ·obtain⟨left,st,e',Oz,ta,nL,_⟩:=hE;rw[N1.out,ajr]at ta;have w5:=Blk.cell ta 5;have w3:=Blk.cell ta 3;simp at w5 w3;have w5f:=Blk.frozen ta 5;have N2:=Blk.lt ta;have bY:=Blk.set ta 5 (.int .i64 s.rest.length);simp at bY;have ey:Hid (eo (w2.setCell ⟨W,5,none⟩ (.int .i64 s.rest.length)) c W m fs aA s/\Fc c W gl w (w2.setCell ⟨W,5,none⟩ (.int .i64 s.rest.length))):=by have dU:=aD w2 W 5 (.int .i64 s.rest.length);have Yd:=O0.wroteW ta dU;exact⟨⟨left,st,e',Oz,bY,LI.out.ends nL,Yd.machine,Yd.lt.1⟩,Kr.trans (Fc.mach dU)⟩
    clear bY ta nL O0 Kr qR DP;go_wp2_with fail;go_loopw [8] (fun i wr=>i=.int .i64 0/\wr=w2.setCell ⟨W,5,none⟩ (.int .i64 s.rest.length)) (fun _ _=>0)
    case atStart=>exact⟨rfl,rfl⟩
    case round=>
     obtain⟨rfl,vF⟩:=hrel;subst vF;have abr:W≠f2:=jP LE.out vo.out (by decide);by_cases Q7:ng=0
     ·subst Q7;go_wp2_with fail;go_end0;exact⟨rfl,ey.out.2,.inl ey.out.1⟩
     have abt:0<(ng:Int):=by omega
     clear Q7;go_wp2_with fail;go_end0;exact⟨rfl,ey.out.2,.inl ey.out.1⟩
   obtain⟨gl2,vals,ls2,st,x1,x2,x3,x4,x5,x6⟩:=hE;rw[N1.out,ajr]at x6;rw[VL.out]at x4;have w5:=Blk.cell x6 5;simp at w5;have w5f:=Blk.frozen x6 5;have N2:=Blk.lt x6;have bY:cE (w2.setCell ⟨W,5,none⟩ (.int .i64 s.rest.length)) W m (aA-st) st false 0 s.rest.length:=by have h9:=Blk.set x6 5 (.int .i64 s.rest.length);simpa [cE] using h9
   have dU:=aD w2 W 5 (.int .i64 s.rest.length);obtain⟨wD,VM⟩:=aja (w2.setCell ⟨W,5,none⟩ (.int .i64 s.rest.length));rw[VM]at bY dU;have Ye:=O0.wroteW x6 dU;have Yf:aI wD lo W f2 gl2 (tv locals2 ls2) (tv l2.ak vals):=x1.wroteW x6 dU;have Yg:Fc c W gl w wD:=Kr.trans (Fc.mach dU);have Yh:∀g cs t,t≠132->t≠134->t≠128->Blk w g cs t->Blk wD g cs t:=fun g cs t h1 h2 h3 hb=>aF dU x6 (IA.out g cs t h1 h2 h3 hb) h3;have uO:dD fs aA s {call:=ff {s.call with next:=s.call.next+1,af:=x} vals,rest:=s.rest,ay:=st}:=by unfold jy at x3;rw[N1.out]at x3;exact LI.out.trans x3
   have AW:Hid _:=uO;have Yi:Hid (bG l2.ak vals):=x2;have VD:Hid _:=x4;have VE:Hid (st<=aA):=x5;have VN:Hid _:=bY;have SL:Hid (aI wD c W f gl (tv ai s.call.ai) (tv bt x)):=(Ye);have HDD:Hid _:=Yf;have HFD:Hid _:=Yg;have HKD:Hid _:=Yh;have Q8:lo≠c:=by omega
   obtain⟨G,hG⟩:=aja (tv l2.ak vals);have O1:G.length=ng:=by rw[<-hG,fF x2,vi.out]
   have HG:Hid _:=hG;have VO:Hid _:=O1;clear uO x1 x2 x3 x4 x5 x6 bY dU Ye Yf Yg Yh O0 Kr qR DP hG O1 J1;go_wp2_with fail;try rw[VM]
   clear VM;go_loopw [8] (fun i wr=>∃k:Nat,i=.int .i64 k/\k<=ng/\aI wr c W f gl (tv ai s.call.ai) (tv bt x++G.take k)/\aI wr lo W f2 gl2 (tv locals2 ls2) G/\cE wr W m (aA-st) st false 0 s.rest.length/\Fc c W gl w wr/\Hid (∀g cs t,t≠132->t≠134->t≠128->Blk w g cs t->Blk wr g cs t)) (fun i _=>ng-(intOf i).toNat)
   case atStart=>exact⟨0,rfl,ajl _,by simpa using SL.out,by rw[<-HG.out];exact HDD.out,VN.out,HFD.out,HKD.out⟩
   case round=>
    obtain⟨k,rfl,xZ,Bp,SM,wG,uu,VP⟩:=hrel;obtain⟨w4,rfl⟩:∃z,z=wr:=⟨wr,rfl⟩;have O2:=VP.out _ _ _ (by decide) (by decide) (by decide) vo.out;have J1:=O2.cell 1;rw[<-(Blk.cell vo.out 1),F1]at J1;have abx:=O2.lt;have e3:=Blk.cell wG 3;simp at e3;have aby:=Blk.lt wG;by_cases hk:k<ng
    ·obtain⟨gq,t,rfl,ht,bC,cq,om⟩:=G6.out k hk;have Hd:=VP.out _ _ _ (by decide) (by decide) (by decide) om;have X7:w4.cell? ⟨gq,k,none⟩=some (.int .i64 t):=by rw[Hd.cell,<-om.cell];exact bC
     have abz:=Hd.lt;have rQ:(k:Int)<(ng:Int):=by omega
     have OF:k<G.length:=by rw[VO.out];exact hk
     have VF:k<vals.length:=by rw[<-Yi.out.len,vi.out];exact hk
     have SN:G[k]=(t,vals[k]):=by
      have h9:G[k]?=some (t,vals[k]):=by rw[<-HG.out];exact pb ht (gEg VF)
      rw[gEg OF]at h9;exact Option.some.inj h9
     obtain⟨vk,Q9⟩:=aja (vals[k]);rw[Q9]at SN;obtain⟨vL,vS,u1,u2,u3⟩:=id SM;have v3:=u1.cell 3;simp at v3;rcases u3 with⟨_,z2⟩|⟨gS,capS,csS,rfl,z2,z3,z4,z5⟩
     ·rw[z2]at OF;simp at OF
     obtain⟨_,z6⟩:=z5 k OF;rw[SN]at z6;have Sd:w4.cell? ⟨gS,k*2+1,none⟩=some (.int .i64 vk):=by rw[z2.cell];exact z6
     have sk:=z2.lt;have abA:=u1.lt;rw[VO.out]at v3;have og:=qF (w:=w4.drew) (t:=t) (n:=vk) (show aI w4.drew c W f gl (tv ai s.call.ai) (tv bt x++G.take k) from Bp) (by rw[ajb,ajq];omega)
     have qL:Hid _:=og;have He:Hid _:=Bp;have HDr:Hid _:=SM;have Yj:Hid _:=wG;have VQ:Hid (Fc c W gl w w4):=uu;have HS9:Hid (∀w5:World,w4.drew.grownBy w5 (some c)->w5.cell? ⟨f2,1,none⟩=some (.slice (some ⟨gq,0,none⟩) ng cg)/\w5.cell? ⟨gq,k,none⟩=some (.int .i64 t)/\w5.cell? ⟨lo,3,none⟩=some (.slice (some ⟨gS,0,none⟩) ng capS)/\w5.cell? ⟨gS,k*2+1,none⟩=some (.int .i64 vk)):=fun w5 jA=>by
      have y1:=aI.wrote (w:=w4.drew) He.out jA (show Blk w4.drew f2 _ 49 from O2) (by decide)
      have y2:=aI.wrote (w:=w4.drew) He.out jA (show Blk w4.drew gq _ 3 from Hd) (by decide)
      have y3:=Blk.grown (show Blk w4.drew lo _ 132 from u1) jA (by simpa using Q8)
      have y4:=aI.wrote (w:=w4.drew) He.out jA (show Blk w4.drew gS _ 134 from z2) (by decide)
      refine⟨?_,?_,?_,?_⟩
      ·rw[y1.cell,<-O2.cell];exact J1
      ·rw[y2.cell,<-Hd.cell];exact X7
      ·rw[y3.cell,<-u1.cell];exact v3
      rw[y4.cell,<-z2.cell];exact Sd
     have HGK:Hid _:=SN;clear og Bp SM wG uu O2 Hd u1 u2 z2 z3 z4 z5 z6 bC om ht SN Q9;go_wp2_with fail
     go_region_held (fun w5=>w5.cell? ⟨f2,1,none⟩=some (.slice (some ⟨gq,0,none⟩) ng cg)/\w5.cell? ⟨gq,k,none⟩=some (.int .i64 t)/\w5.cell? ⟨lo,3,none⟩=some (.slice (some ⟨gS,0,none⟩) ng capS)/\w5.cell? ⟨gS,k*2+1,none⟩=some (.int .i64 vk)) (first|assumption|go_keep) ((go_at_call 152;refine Calls.mono qL.out ?_;rintro e1 w5 ⟨rfl,jA,pm,Ed⟩;have BZ:=HS9.out w5 jA))
     all_goals
      go_wp2_with fail;go_roundw
      case rel=>
       have yf:w4.grownBy w5 (some c):=bj jA;refine⟨k+1,by simp,by omega,?_,?_,cE.wroteC Yj.out He.out yf,VQ.out.trans (Fc.call yf),fun g cs t' h1 h2 h3 hb=>aI.wrote He.out yf (VP.out g cs t' h1 h2 h3 hb) h1⟩
       ·rw[lI OF,HGK.out,<-List.append_assoc];exact pm
       obtain⟨vL',vS',u1,u2,u3⟩:=HDr.out;exact⟨vL',vS',u1.grown yf (by simpa using Q8),u2.keep (fun cs hb=>aI.wrote He.out yf hb (by decide)),u3.keep (fun g cs _ hb=>aI.wrote He.out yf hb (by decide))⟩
      case measure=>simp[intOf];omega
    obtain rfl:k=ng:=by omega
    have ry:G.take k=G:=ajB (by rw[VO.out];exact nLr _);rw[ry,<-HG.out]at Bp;have ey:Hid (Fc c W gl w w4/\iM w4 c W f gl m fs aA s ai T (s.call.next+1)):=by
     have h6:=HZ6.out;have hx4:=VD.out;refine⟨uu,_,AW.out,rfl,rfl,rfl,⟨HH.out.st.loc,HAL.out,?_⟩,by show s.ay<st;omega,VE.out,?_,wG⟩
     ·show bG (T (s.call.next+1)).af (x++vals);rw[h6];exact Ya.out.append Yi.out
     show aI w4 c W f gl (tv ai s.call.ai) (tv (T (s.call.next+1)).af (x++vals));rw[h6,fK Ya.out.len];exact Bp
    clear ry Bp SM wG uu O2;go_wp2_with fail;go_end0;exact⟨rfl,ey.out.1,.inr ey.out.2⟩
  |succ k=>
   obtain⟨gq,t,v,rfl,ht,hv,bC,cq,om⟩:=VI.out k (by omega);have tV:=HK.out _ _ _ (by decide) (by decide) om;have SA:w1.cell? ⟨gq,k,none⟩=some (.int .i64 t):=by rw[tV.cell,<-om.cell];exact bC
   have QY:=tV.lt;have VR:k<D.length:=by rw[SK.out];omega
   have VS:D[k]=(t,v):=by
    have h9:D[k]?=some (t,v):=by rw[<-HD.out];exact pb ht hv
    rw[gEg VR]at h9;exact Option.some.inj h9
   have Hf:tv bt x++D.take (k+1)=(tv bt x++D.take k)++[(t,v)]:=by rw[lI VR,VS,List.append_assoc]
   rw[Hf]at Bp;have Ra:=lF (t':=t) Bp (.inr rfl) (by rw[ajb,ajq];omega);have rQ:(k:Int)<(nt:Int):=by omega
   have uH:0<=((k+1:Nat):Int)-1:=by omega
   have Xu:((k+1:Nat):Int)-1=(k:Int):=by omega
   have Rb:Hid _:=Ra;have He:Hid _:=Bp;have VQ:Hid _:=uu;have O3:Hid _:=oF;have HDR:Hid _:=pL;have HDK:Hid _:=VS;have ec:lo≠c:=by omega
   rw[Xu];clear Ra Bp uu oF pL VS Hf bC om tV ht hv;go_wp2_with fail;refine Calls.mono Rb.out ?_;rintro e9 w2 ⟨rfl,aP,fc,lg,mD,lj⟩;have OT:=Blk.grown HDR.out aP (by simpa using ec);have BJ:w2.ownsRow lo 134 2 (.slice aL (nt-(k+1)) capL) (nt-(k+1)) (bo (D.drop (k+1))):=aJ O3.out fun g cs hb=>aI.wrote He.out aP hb (by decide);have uK:=aP.size;have bb:=(Blk.new w2 #[.int .i64 t,.int .i64 v] 134);obtain⟨wA,Ak⟩:=aja (w2.alloc (.cells #[.int .i64 t,.int .i64 v] 134));have Rc:wA.heap.size=w2.heap.size+1:=by rw[<-Ak];simp
   have kA2:∀g cs t',Blk w2 g cs t'->Blk wA g cs t':=fun g cs t' hb=>by rw[<-Ak];exact hb.alloc _
   rw[Ak]at bb;obtain⟨s1,s2,s3,s4,s5⟩:=gJ bb;have Re:=kA2 _ _ _ OT;have e2:=Re.cell 2;have e2f:=Re.frozen 2;simp at e2;have abG:=Re.lt;have VT:aI wA c W f gl (tv ai s.call.ai) (tv bt x++D.take k):=fc.keep fun g cs t' _ hb=>kA2 g cs t' hb;have K9:Fc c W gl w wA:=VQ.out.trans ((Fc.call aP).trans (by rw[<-Ak];exact Fc.none (aC _ _ _)));have UI:∀g cs t',t'≠132->t'≠134->Blk w g cs t'->Blk wA g cs t':=fun g cs t' h1 h2 hb=>kA2 _ _ _ (aI.wrote He.out aP (HK.out g cs t' h1 h2 hb) h1);have Yk:∀g len cap,wA.cell? ⟨c,3,none⟩=some (.slice (some ⟨g,0,none⟩) len cap)->g<lo:=fun g len cap bC=>by
    obtain⟨vL,vS,x1,x2,x3⟩:=He.out;have hx3:=x3.last;obtain⟨g0,cap0,y1,y2,y3,y4,y5,y6,y7⟩:=hx3;have c3':w1.cell? ⟨c,3,none⟩=some (.slice (some ⟨g0,0,none⟩) ((tv bt x++D.take k).length+1) cap0):=by rw[x1.cell];simp[y1]
    have c4:=lj g0 cap0 c3';obtain⟨uL,uS,u1,u2,u3⟩:=fc;have c5:wA.cell? ⟨c,3,none⟩=w2.cell? ⟨c,3,none⟩:=by rw[(kA2 _ _ _ u1).cell,u1.cell]
    rw[c5,c4]at bC;cases bC;exact VK.out _ _ _ c3'
   have ownN:(wA.alloc (.cells #[.int .i64 t,.int .i64 v] 134)).drew.ownsRow lo 134 2 (.slice (some ⟨wA.heap.size,0,none⟩) 1 1) 1 [.int .i64 t,.int .i64 v]:=⟨rfl,.inr ⟨wA.heap.size,1,#[.int .i64 t,.int .i64 v],rfl,by omega,Blk.new _ _ _,nLr _,by simp[maxLen],rfl,rfl⟩⟩;have Cj:bo (D.drop k)=[.int .i64 t,.int .i64 v]++bo (D.drop (k+1)):=by rw[List.drop_eq_getElem_cons VR,HDK.out];rfl
   have ey:Hid (∀(w3:World) (v':Value),(wA.alloc (.cells #[.int .i64 t,.int .i64 v] 134)).drew.grownBy w3 (some wA.heap.size)->Blk w3 lo #[ptr W,ptr f2,.slice aL (nt-(k+1)) capL,.slice none 0 0] 132/\aI w3 c W f gl (tv ai s.call.ai) (tv bt x++D.take k)/\Fc c W gl w w3/\(∀g cs t',t'≠132->t'≠134->Blk w g cs t'->Blk w3 g cs t')/\(∀g len cap,w3.cell? ⟨c,3,none⟩=some (.slice (some ⟨g,0,none⟩) len cap)->g<lo)):=fun w3 v' co=>by
    have k3:∀g cs t',Blk wA g cs t'->Blk w3 g cs t':=fun g cs t' hb=>Blk.grown (hb.alloc (.cells #[.int .i64 t,.int .i64 v] 134)).drew co (by have:=hb.lt;simp;omega);have VU:=K9.size;refine⟨k3 _ _ _ Re,VT.keep fun g cs t' _ hb=>k3 g cs t' hb,⟨co.os.trans K9.os,co.tape.trans K9.tape,co.output.trans K9.output,by have:=co.size;simp at this;omega,fun j hj h1 h2 h3=>?_⟩,fun g cs t' h1 h2 hb=>k3 _ _ _ (UI g cs t' h1 h2 hb),fun g len cap bC=>?_⟩
    ·have x1:=co.block j (by simp;omega) (by simp;omega);have x2:=(aC wA (.cells #[.int .i64 t,.int .i64 v] 134) none).block j (by omega) (by simp);exact(x1.trans x2).trans (K9.block j hj h1 h2 h3)
    obtain⟨uL,uS,u1,u2,u3⟩:=VT;refine Yk g len cap ?_;rw[(k3 _ _ _ u1).cell]at bC;rw[u1.cell];exact bC
   have Ks:Hid (∀(w3:World) (a':Option Addr) (cap':Nat),(wA.alloc (.cells #[.int .i64 t,.int .i64 v] 134)).drew.grownBy w3 (some wA.heap.size)->w3.ownsRow lo 134 2 (.slice a' (nt-k) cap') (nt-k) (bo (D.drop k))->∃(k2:Nat) (aL2:Option Addr) (capL2:Nat),Value.int .i64 ((k:Int)-1)=.int .i64 ((k2:Int)-1)/\k2<=nt/\Blk (w3.setCell ⟨lo,2,none⟩ (.slice a' (nt-k) cap')) lo #[ptr W,ptr f2,.slice aL2 (nt-k2) capL2,.slice none 0 0] 132/\(w3.setCell ⟨lo,2,none⟩ (.slice a' (nt-k) cap')).ownsRow lo 134 2 (.slice aL2 (nt-k2) capL2) (nt-k2) (bo (D.drop k2))/\aI (w3.setCell ⟨lo,2,none⟩ (.slice a' (nt-k) cap')) c W f gl (tv ai s.call.ai) (tv bt x++D.take k2)/\Fc c W gl w (w3.setCell ⟨lo,2,none⟩ (.slice a' (nt-k) cap'))/\Hid (∀g cs t,t≠132->t≠134->Blk w g cs t->Blk (w3.setCell ⟨lo,2,none⟩ (.slice a' (nt-k) cap')) g cs t)/\Hid (∀g len cap,(w3.setCell ⟨lo,2,none⟩ (.slice a' (nt-k) cap')).cell? ⟨c,3,none⟩=some (.slice (some ⟨g,0,none⟩) len cap)->g<lo)):=fun w3 a' cap' co Ie=>by obtain⟨y1,y2,y3,y4,y5⟩:=ey.out w3 (.int .i64 0) co;have dU:=aD w3 lo 2 (.slice a' (nt-k) cap');have bY:=y1.set 2 (.slice a' (nt-k) cap');simp at bY;have VU:=y3.size;have abI:=zl.out;obtain⟨vL,vS,u1,u2,u3⟩:=id y2;refine⟨k,a',cap',rfl,by omega,bY,aJ Ie (fun g cs hb=>aF dU y1 hb (by decide)),⟨vL,vS,u1.grown dU (by simp;omega),u2.keep (fun cs hb=>aF dU y1 hb (by decide)),u3.keep (fun g cs _ hb=>aF dU y1 hb (by decide))⟩,⟨dU.os.trans y3.os,dU.tape.trans y3.tape,dU.output.trans y3.output,by have:=dU.size;omega,fun j hj h1 h2 h3=>(dU.block j (by omega) (by simp;omega)).trans (y3.block j hj h1 h2 h3)⟩,fun g cs t' h1 h2 hb=>aF dU y1 (y4 g cs t' h1 h2 hb) h1,fun g len cap bC=>?_⟩;refine y5 g len cap ?_;rw[(u1.grown dU (by simp;omega)).cell]at bC;rw[u1.cell];exact bC
   have N3:Hid (∀w3:World,(wA.alloc (.cells #[.int .i64 t,.int .i64 v] 134)).drew.grownBy w3 (some wA.heap.size)->w3.cell? ⟨lo,2,none⟩=some (.slice aL (nt-(k+1)) capL)/\w3.frozen? ⟨lo,2,none⟩=false/\lo<w3.heap.size):=fun w3 co=>by obtain⟨y1,_⟩:=ey.out w3 (.int .i64 0) co;have:=y1.cell 2;simp at this;exact⟨this,y1.frozen 2,y1.lt⟩
   have VV:Hid (wA.ownsRow lo 134 2 (.slice aL (nt-(k+1)) capL) (nt-(k+1)) (bo (D.drop (k+1)))):=aJ BJ fun g cs hb=>kA2 g cs 134 hb;have A8:1+(nt-(k+1))=nt-k:=by omega
   have LD:Hid _:=A8;have SL:Hid _:=Cj;have SO:(D.drop (k+1)).length=nt-(k+1):=by rw[List.length_drop,SK.out]
   have us:=ey;obtain⟨M1,yN⟩:=aja (nt-(k+1));rw[yN]at e2 VV N3 SO LD;have abJ:M1<=6:=by omega
   have HSZ:Hid _:=Rc;clear Rc uK Cj A8 yN bb Re VT K9 UI Yk BJ OT fc aP mD lg lj d2 NW ey us Rb;rcases VV.out.2 with⟨OQ,Yl⟩|⟨gR,capR,curR,OQ,Yl,Rf,VW,VX,VY,VZ⟩
   ·cases OQ;go_wp2_with fail;try rw[Ak]
    clear Ak
    go_region_law (refine kM rfl _ _ 130 rfl lo 134 i0 2 underlying130 Aj (.slice (some ⟨wA.heap.size,0,none⟩) 1 1) 1 [.int .i64 t,.int .i64 v] rfl ownN rfl ?_)
    all_goals
     obtain⟨o1,o2,o3⟩:=N3.out _ (aH _ _);go_wp2_with fail;go_roundw
     case rel=>
      have h9:=Ks.out _ (some ⟨wA.heap.size,0,none⟩) 1 (aH _ _) (by
       rw[SL.out,<-LD.out]
       have N4:D.drop (k+1)=[]:=List.length_eq_zero_iff.1 SO
       rw[N4]
       exact ownN)
      have e9:(wA.alloc (.cells #[.int .i64 t,.int .i64 v] 134)).drew.setCell ⟨lo,2,none⟩ (.slice (some ⟨wA.heap.size,0,none⟩) 1 1)=((wA.setCell ⟨lo,2,none⟩ (.slice (some ⟨wA.heap.size,0,none⟩) 1 1)).alloc (.cells #[.int .i64 t,.int .i64 v] 134)).drew:=by go_simp
      rw[<-LD.out]at h9;rw[e9]at h9;exact h9
     case measure=>simp[intOf]
   cases OQ;have V0:Blk wA gR curR 134:=Rf;have jW:∀j u,(bo (D.drop (k+1)))[j]?=some u->(wA.alloc (.cells #[.int .i64 t,.int .i64 v] 134)).drew.cell? ((⟨gR,0,none⟩:Addr).add j)=some u:=fun j u hj=>by have qc:=(gEs.1 hj).1;rw[eN,SO]at qc;rw[cJ,ajx];show (wA.alloc (.cells #[.int .i64 t,.int .i64 v] 134)).cell? _=_;rw[(V0.alloc _).cell,<-V0.cell,(bK VV.out (j:=j) qc).1];exact hj
   have Rg:Hid _:=jW;have q8:(bo (D.drop (k+1))).length=M1*2:=by rw[eN,SO]
   have zm:Hid _:=kN (D.drop (k+1));have q5:1+M1<=maxLen:=by simp[maxLen];omega
   have q6:(1+M1)*16<=140737488355328:=by omega
   have q7:lo<=(wA.alloc (.cells #[.int .i64 t,.int .i64 v] 134)).drew.heap.size:=by simp;omega
   clear jW Yl Rf VW VX VY VZ V0;go_wp2_with fail;try rw[Ak]
   clear Ak
   go_region_law (refine bQ rfl _ _ 130 rfl lo 134 i0 _ 2 16 underlying130 Aj fo eP eV rfl (by decide) (.slice (some ⟨wA.heap.size,0,none⟩) 1 1) 1 [.int .i64 t,.int .i64 v] rfl ownN ⟨gR,0,none⟩ M1 capL (bo (D.drop (k+1))) rfl q8 Rg.out zm.out q5 q6 q7 ?_;intro v' w' kr cD;obtain⟨a',cap',rfl,_⟩:=aG kr;obtain⟨o1,o2,o3⟩:=N3.out _ cD;have QZ:Hid _:=kr;have HG9:Hid _:=cD;clear kr cD)
   all_goals
    go_wp2_with fail;go_roundw
    case rel=>
     have h9:=QZ.out;rw[<-SL.out,LD.out]at h9;rw[LD.out];exact Ks.out _ a' cap' HG9.out h9
    case measure=>simp[intOf]
end
