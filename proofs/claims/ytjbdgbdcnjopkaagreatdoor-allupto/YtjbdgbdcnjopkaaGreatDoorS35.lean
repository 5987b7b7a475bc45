import Derived.Test.YtjbdgbdcnjopkaaGreatDoorS34
namespace Go.Proofs.YtjbdgbdcnjopkaaGreatDoor
open Go.RowKit Tryz
set_option linter.all false
set_option maxRecDepth 100000
set_option maxHeartbeats 4000000
structure jJ(ai:List Nat)(T:Nat->LSt)(lf:bu)(n i k:Nat)(F:PFr)(tys:List Nat)(vs:List Int)(j:Nat):Prop where
 lab:bT (T i) k=some F
 tg:lf.ah[F.target]?=some (j,(aZ F).length,F.am)
 suf:∃az,tys=az++aZ F/\F.am<=az.length
 vals:bG tys vs
 stk:(T j).af=tys.take F.am++aZ F
 alive:gd (T j)
 le:j<=n
def ip(F:PFr)(vs:List Int):List Int:=vs.take F.am++vs.drop (vs.length-(aZ F).length)
section
variable {m:bf}{fs:List bu}{lf:bu}{pf:ck}{ai:List Nat}{T:Nat->LSt}{R:Nat->aX}{P:Nat->Nat}{n aA:Nat}{s:MSt}
theorem jJ.parts{i k:Nat}{F:PFr}{tys:List Nat}{vs:List Int}{j:Nat}(h:jJ ai T lf n i k F tys vs j):∃b1 b2 x1 x2 x3,tys=b1++b2++aZ F/\vs=x1++x2++x3/\b1.length=F.am/\x1.length=F.am/\x3.length=(aZ F).length/\x2.length=b2.length/\bG b1 x1/\bG (aZ F) x3/\(T j).af=b1++aZ F/\ip F vs=x1++x3:=by
 obtain⟨az,e1,e2⟩:=h.suf;have hv:=h.vals;rw[e1]at hv;obtain⟨y,x3,rfl,v1,v2⟩:=bG.split az hv;have hs:az=az.take F.am++az.drop F.am:=(List.take_append_drop _ _).symm;rw[hs]at v1;obtain⟨x1,x2,rfl,v3,v4⟩:=bG.split _ v1;have l1:=v3.len;have l2:=v4.len;have l3:=v2.len;have ht:(az.take F.am).length=F.am:=by rw[ajq];omega
 refine⟨az.take F.am,az.drop F.am,x1,x2,x3,by rw[e1,List.take_append_drop],rfl,ht,by omega,l3.symm,l2.symm,v3,v2,?_,?_⟩
 ·rw[h.stk,e1,aju e2]
 unfold ip;have t1:(x1++x2++x3).take F.am=x1:=by rw[List.append_assoc,aju (by omega),ajB (by omega)]
 have t2:(x1++x2++x3).drop ((x1++x2++x3).length-(aZ F).length)=x3:=by
  have:(x1++x2++x3).length-(aZ F).length=(x1++x2).length:=by rw[ajb,l3];omega
  rw[this,List.drop_left]
 rw[t1,t2]
theorem jJ.go{i k:Nat}{F:PFr}{tys:List Nat}{vs:List Int}{j:Nat}(h:jJ ai T lf n i k F tys vs j){c:bS}(hc:c.af=vs):goC lf.ah c (some F.target)=some {c with next:=j,af:=ip F vs}:=by
 unfold goC;simp only[h.tg];unfold qS;obtain⟨b1,b2,x1,x2,x3,e1,e2,q1,q2,q3,q4,_⟩:=h.parts;rw[ajc]
 ·subst hc;rfl
 rw[hc,e2];simp only[ajb];omega
theorem io.label{j:Nat}(h:io m fs j lf pf ai T R P n){i k:Nat}{F G:PFr}{az:List Nat}{vs:List Int}(hi:i<n)(ha:gd (T i))(hf:(T i).ae.getLast?=some F)(hl:bT (T i) k=some G)(cT:(T i).af=az++aZ G\/(T i).af=az++aZ G++[1])(hb:F.am<=az.length)(hv:bG (az++aZ G) vs):∃j',jJ ai T lf n i k G (az++aZ G) vs j':=by
 obtain⟨j',a1,a2,a3,a4⟩:=h.look.label hi ha hl;have hh:=h.look.high hi hf hl;refine⟨j',hl,by rw[h.ok.ah];exact a2,⟨az,rfl,by omega⟩,hv,?_,a4,a1⟩;rw[a3];rcases cT with e|e <;> rw[e]
 rw[List.append_assoc,aju (by omega),aju (by omega)]
theorem io.idx{j:Nat}(h:io m fs j lf pf ai T R P n){i:Nat}(hi:i<n)(hn:(R i).aa.au=7\/(R i).aa.au=8\/(R i).aa.au=9):(∃l ls,(R i).idx=l::ls)/\(∀l∈(R i).idx,l<(T i).ae.length)/\∃st,lf.ay[i]?=some st/\st.aa=(R i).aa/\st.ah=(R i).idx.map fun l=>((bT (T i) l).map (·.target)).getD 0:=by
 obtain⟨st,x1,x2,-,-,x5,-⟩:=h.fetch hi;have S:=(h.look.trace _ hi).1;obtain⟨-,-,kc1,kc2,-,-,-⟩:=cC S.read;obtain⟨id1,-⟩:=nU S.read;have oe:(R i).aa.ab=4\/(R i).aa.ab=5:=by
  rcases hn with q|q|q
  ·exact .inl (kc1 (.inl q))
  ·exact .inl (kc1 (.inr q))
  exact .inr (kc2 q)
 have Nz:dI m ai (T i) (R i).aa.ab=(T i).ae.length:=by unfold dI;rw[ajc (by omega),ajc (by omega),ajc (by omega)]
 refine⟨id1 (by omega),fun l hl=>by rw[<-Nz];exact Gg S.find l hl,st,x1,x2,?_⟩;rw[x5 (by omega) (by omega)];unfold dP;simp only[ajd oe]
def oB(fs:List bu)(aA:Nat)(s:MSt)(j:Nat)(vs:List Int):Prop:=bB fs aA s=some (.inl {s with call:={s.call with next:=j,af:=vs},ay:=s.ay+1})
theorem J7(h:io m fs s.call.fn lf pf ai T R P n)(hi:s.call.next<n)(hs:fO ai T s.call)(du:s.ay≠aA)(hn:(R s.call.next).aa.au=7):∃l ls F j,(R s.call.next).idx=l::ls/\jJ ai T lf n s.call.next l F (T s.call.next).af s.call.af j/\oB fs aA s j (ip F s.call.af):=by
 obtain⟨⟨l,ls,eb⟩,cL,st,x1,x2,x3⟩:=h.idx hi (.inl hn);obtain⟨F0,hf,M,ty,hh⟩:=h.look.typed hi hs.alive;obtain⟨G,hG⟩:=tG (cL l (by rw[eb];simp));obtain⟨az,wants,y1,y2,y3⟩:=ty.go (.inl hn);have U1:wants=aZ G:=by rw[eb]at y1;simp only[dn,hG]at y1;exact(Option.some.inj y1).symm
 subst U1;have hv:=hs.stk;rw[y2]at hv;obtain⟨j,J⟩:=h.label hi hs.alive hf hG (.inl y2) y3 hv;rw[<-y2]at J;refine⟨l,ls,G,j,eb,J,?_⟩;have:=eM (aA:=aA) h hi du x1 (by rw[x2];omega) (by rw[x2];omega) (by rw[x2];omega) (e:=0) (c1:={s.call with next:=j,af:=ip G s.call.af}) (by
  unfold doC
  simp only[x2]
  rw[ajd (by omega)]
  unfold mj
  simp only[x2]
  rw[ajc (by rw[x3,eb];simp),ajc (by omega),ajc (by omega),ajc (by omega),x3,eb]
  simp only[List.map_cons,List.getElem?_cons_zero,hG,Option.map_some,Option.getD_some]
  rw[J.go (c:={s.call with next:=s.call.next+1}) rfl]
  rfl)
 simpa [oB] using this
theorem Dz(h:io m fs s.call.fn lf pf ai T R P n)(hi:s.call.next<n)(hs:fO ai T s.call)(du:s.ay≠aA)(hn:(R s.call.next).aa.au=8):∃l ls az vs v,(R s.call.next).idx=l::ls/\(T s.call.next).af=az++[1]/\s.call.af=vs++[v]/\bG az vs/\fw 1 v /\ (v=0->eG fs aA s vs s.call.ai/\(T (s.call.next+1)).af=az) /\ (v≠0->∃F j,jJ ai T lf n s.call.next l F az vs j/\oB fs aA s j (ip F vs)):=by
 obtain⟨⟨l,ls,eb⟩,cL,st,x1,x2,x3⟩:=h.idx hi (.inr (.inl hn));obtain⟨F0,hf,M,ty,hh⟩:=h.look.typed hi hs.alive;obtain⟨G,hG⟩:=tG (cL l (by rw[eb];simp));obtain⟨az,wants,y1,y2,y3,y4⟩:=ty.goif hn;have U1:wants=aZ G:=by rw[eb]at y1;simp only[dn,hG]at y1;exact(Option.some.inj y1).symm
 subst U1;have hv:=hs.stk;rw[y2]at hv;obtain⟨v,vs,e,p1,p2,p3⟩:=jI (c:={s.call with next:=s.call.next+1}) hv;refine⟨l,ls,az++aZ G,vs,v,eb,y2,e,p2,p3,fun h0=>⟨?_,y4⟩,fun h0=>?_⟩
 ·have:=eM (aA:=aA) h hi du x1 (by rw[x2];omega) (by rw[x2];omega) (by rw[x2];omega) (e:=0) (c1:={s.call with next:=s.call.next+1,af:=vs}) (by
   unfold doC
   simp only[x2]
   rw[ajd (by omega)]
   unfold mj
   simp only[x2]
   rw[ajc (by rw[x3,eb];simp),ajc (by omega),ajd hn,p1]
   simp only[ajd h0]
   rfl)
  simpa [eG] using this
 obtain⟨j,J⟩:=h.label hi hs.alive hf hG (.inr y2) y3 p2;refine⟨G,j,J,?_⟩;have:=eM (aA:=aA) h hi du x1 (by rw[x2];omega) (by rw[x2];omega) (by rw[x2];omega) (e:=0) (c1:={s.call with next:=j,af:=ip G vs}) (by
  unfold doC
  simp only[x2]
  rw[ajd (by omega)]
  unfold mj
  simp only[x2]
  rw[ajc (by rw[x3,eb];simp),ajc (by omega),ajd hn,p1]
  simp only[ajc h0]
  rw[x3,eb]
  simp only[List.map_cons,List.getElem?_cons_zero,hG,Option.map_some,Option.getD_some]
  rw[J.go (c:={s.call with next:=s.call.next+1,af:=vs}) rfl]
  rfl)
 simpa [oB] using this
def me(l:List Nat)(v:Int):Nat:=if 0<=v/\v<(l.length:Int)-1 then v.toNat else l.length-1
theorem DA(h:io m fs s.call.fn lf pf ai T R P n)(hi:s.call.next<n)(hs:fO ai T s.call)(du:s.ay≠aA)(hn:(R s.call.next).aa.au=9):∃az vs v l F j,(R s.call.next).idx[me (R s.call.next).idx v]?=some l/\(T s.call.next).af=az++[1]/\s.call.af=vs++[v]/\bG az vs/\fw 1 v /\ jJ ai T lf n s.call.next l F az vs j/\oB fs aA s j (ip F vs):=by
 obtain⟨⟨l0,ls,eb⟩,cL,st,x1,x2,x3⟩:=h.idx hi (.inr (.inr hn));obtain⟨F0,hf,M,ty,hh⟩:=h.look.typed hi hs.alive;obtain⟨az,wants,y1,y2,y3,y4⟩:=ty.goby hn;have hv:=hs.stk;rw[y2]at hv;obtain⟨v,vs,e,p1,p2,p3⟩:=jI (c:={s.call with next:=s.call.next+1}) hv;have j5:0<(R s.call.next).idx.length:=by rw[eb];simp
 have hk:me (R s.call.next).idx v<(R s.call.next).idx.length:=by unfold me;split <;> omega
 obtain⟨l,hl⟩:=aja ((R s.call.next).idx[me (R s.call.next).idx v]);have hl?:(R s.call.next).idx[me (R s.call.next).idx v]?=some l:=by rw[gEg hk,hl]
 obtain⟨G,hG⟩:=tG (cL l (gMo hl?));have P4:aZ G=wants:=by have:=y4 l (gMo hl?);rw[hG]at this;simpa using this
 rw[<-P4]at y2 p2;obtain⟨j,J⟩:=h.label hi hs.alive hf hG (.inr y2) y3 p2;refine⟨az++aZ G,vs,v,l,G,j,hl?,y2,e,p2,p3,J,?_⟩;have Lc:kE st.ah v=some G.target:=by
  have aQ:st.ah.length=(R s.call.next).idx.length:=by rw[x3];simp
  have key:st.ah[me (R s.call.next).idx v]?=some G.target:=by rw[x3,List.getElem?_map,hl?];simp[hG]
  unfold kE;unfold me at key;rw[aQ];by_cases c1:0<=v/\v<((R s.call.next).idx.length:Int)-1
  ·rw[ajd c1]at key;rw[ajc (by omega)];exact key
  rw[ajc c1]at key;by_cases c2:v<0\/((R s.call.next).idx.length:Int)-1<v
  ·rw[ajd c2];exact key
  rw[ajc c2];have:v.toNat=(R s.call.next).idx.length-1:=by omega
  rw[this];exact key
 have:=eM (aA:=aA) h hi du x1 (by rw[x2];omega) (by rw[x2];omega) (by rw[x2];omega) (e:=0) (c1:={s.call with next:=j,af:=ip G vs}) (by
  unfold doC
  simp only[x2]
  rw[ajd (by omega)]
  unfold mj
  simp only[x2]
  rw[ajc (by rw[x3,eb];simp),ajc (by omega),ajc (by omega),ajd hn,p1]
  simp only[Lc]
  rw[J.go (c:={s.call with next:=s.call.next+1,af:=vs}) rfl]
  rfl)
 simpa [oB] using this
def jy(fs:List bu)(aA:Nat)(s:MSt)(vals:List Int)(ay:Nat):Prop:=match s.rest with
 | []=>gr fs aA s ⟨0,ay,vals⟩
 |d::r=>dD fs aA s {call:=ff d vals,rest:=r,ay:=ay}
theorem jy.after{s':MSt}{vals:List Int}{ay:Nat}(h:dD fs aA s s')(hr:s'.rest=s.rest)(k:jy fs aA s' vals ay):jy fs aA s vals ay:=by
 unfold jy at k ⊢;rw[hr]at k;cases hs:s.rest with
 |nil=>rw[hs]at k;exact h.ends k
 |cons d r=>rw[hs]at k;exact h.trans k
theorem zt(h:io m fs s.call.fn lf pf ai T R P n)(hi:s.call.next<n)(hs:fO ai T s.call)(du:s.ay≠aA)(hn:(R s.call.next).aa.au=10):∃az x y,(T s.call.next).af=az++lf.ak/\s.call.af=x++y/\bG az x/\bG lf.ak y/\jy fs aA s y (s.ay+1):=by
 obtain⟨st,x1,x2,-,-,-,-⟩:=h.fetch hi;obtain⟨F0,hf,M,ty,hh⟩:=h.look.typed hi hs.alive;obtain⟨az,wants,y1,y2,y3⟩:=ty.go (.inr hn);have S:=(h.look.trace _ hi).1;obtain⟨-,-,-,-,kc3,-,-⟩:=cC S.read;obtain⟨-,id2⟩:=nU S.read;have eb:=id2 (kc3 (.inr hn));rw[eb]at y1;have hw:wants=lf.ak:=by unfold dn at y1;simp only at y1;obtain⟨G,g1,g2⟩:=Option.map_eq_some_iff.1 y1;have:=(h.look.inv s.call.next (by omega)).bottom G (by rw[<-List.head?_eq_getElem?];exact g1);rw[<-g2];exact this.1
 subst hw;have hv:=hs.stk;rw[y2]at hv;obtain⟨x,y,e,v1,v2⟩:=bG.split az hv;obtain⟨x',y',e',v1',v2'⟩:=Do (c:={s.call with next:=s.call.next+1}) hv;have hyy:y'=y:=by
  have:dE {s.call with next:=s.call.next+1} lf.ak.length=some (y,{s.call with next:=s.call.next+1,af:=x}):=by
   unfold dE;have l2:=v2.len;simp only[e];rw[ajc (by rw[ajb];omega)];have:(x++y).length-lf.ak.length=x.length:=by rw[ajb];omega
   rw[this,List.drop_left,List.take_left]
  rw[this]at e';simp at e';exact e'.1.symm
 subst hyy;refine⟨az,x,y',y2,e,v1,v2,?_⟩;unfold jy;cases hr:s.rest with
 |nil=>
  refine gr.step ?_;unfold bB;rw[h.ok.at_];simp only[x1,ajc du,x2,hn,hr];rw[ajc (by decide),ajc (by decide),ajd (by trivial),e']
 |cons d r=>
  refine dD.step ?_;unfold bB;rw[h.ok.at_];simp only[x1,ajc du,x2,hn,hr];rw[ajc (by decide),ajc (by decide),ajd (by trivial),e']
theorem wt(h:io m fs s.call.fn lf pf ai T R P n)(hi:s.call.next=n)(hv:bG lf.ak s.call.af):jy fs aA s s.call.af s.ay:=by
 have aQ:lf.ay.length=n:=by rw[h.ok.ay];exact(h.look.inv n (nLr _)).len
 have hp:dE s.call lf.ak.length=some (s.call.af,{s.call with af:=[]}):=by unfold dE;have l:=hv.len;rw[ajc (by omega),l,Nat.sub_self];simp
 unfold jy;cases hr:s.rest with
 |nil=>
  refine gr.step ?_;unfold bB;rw[h.ok.at_];simp only;rw[ajp (by omega)];simp only[hp,hr]
 |cons d r=>
  refine dD.step ?_;unfold bB;rw[h.ok.at_];simp only;rw[ajp (by omega)];simp only[hp,hr]
theorem wu(h:io m fs s.call.fn lf pf ai T R P n)(A:B3 m fs)(hi:s.call.next<n)(hs:fO ai T s.call)(du:s.ay≠aA)(hn:(R s.call.next).aa.au=11):(40<=s.rest.length->bB fs aA s=some (.inr ⟨5,s.ay+1,[]⟩)) /\ ∃f2 az x y,fs[(R s.call.next).idx.headD 0]?=some f2/\(T s.call.next).af=az++f2.aj/\s.call.af=x++y/\bG az x/\bG f2.aj y/\(T (s.call.next+1)).af=az++f2.ak /\ (s.rest.length<40->bB fs aA s=some (.inl {call:=fL f2 ((R s.call.next).idx.headD 0) y,rest:={s.call with next:=s.call.next+1,af:=x}::s.rest,ay:=s.ay+1})):=by
 obtain⟨st,x1,x2,x3,-,-,-⟩:=h.fetch hi;obtain⟨F0,hf,M,ty,hh⟩:=h.look.typed hi hs.alive;obtain⟨az,fn,sig,y1,y2,y3,y4⟩:=ty.call hn;have S:=(h.look.trace _ hi).1;obtain⟨-,-,-,-,-,kc4,-⟩:=cC S.read;have oe:=kc4 hn;have Nq:st.index=(R s.call.next).idx.headD 0:=by rw[x3];unfold dP;simp only[ajd (Or.inl oe)]
 have bM:=(gEs.1 y1).1;obtain⟨f2,hZ⟩:∃f2,fs[(R s.call.next).idx.headD 0]?=some f2:=⟨_,gEg (by rw[<-A.2];exact bM)⟩;obtain⟨locals2,T2,R2,P2,n2,ok2⟩:=A.1 _ f2 hZ;obtain⟨pf2,q1,q2,_⟩:=ok2.fn;have vh:pf2=fn:=by rw[y1]at q1;exact(Option.some.inj q1).symm
 subst vh;have dp:sig=(f2.aj,f2.ak):=by rw[y2]at q2;exact Option.some.inj q2
 subst dp;have hv:=hs.stk;rw[y3]at hv;obtain⟨x,y,e,v1,v2⟩:=bG.split az hv;refine⟨fun Qz=>?_,f2,az,x,y,hZ,y3,e,v1,v2,y4,fun Qz=>?_⟩
 ·unfold bB;rw[h.ok.at_];simp only[x1,ajc du,x2,hn];rw[ajc (by decide),ajd (by trivial),ajd (by omega)]
 unfold bB;rw[h.ok.at_];simp only[x1,ajc du,x2,hn,Nq,hZ];rw[ajc (by decide),ajd (by trivial),ajc (by omega)];have:dE {s.call with next:=s.call.next+1} f2.aj.length=some (y,{s.call with next:=s.call.next+1,af:=x}):=by
  unfold dE;have l2:f2.aj.length=y.length:=v2.len;simp only[e];rw[ajc (by rw[ajb];omega)];have:(x++y).length-f2.aj.length=x.length:=by rw[ajb];omega
  rw[this,List.drop_left,List.take_left]
 rw[this]
theorem J8(h:io m fs s.call.fn lf pf ai T R P n)(hi:s.call.next<n)(hs:fO ai T s.call)(du:s.ay≠aA)(hn:(R s.call.next).aa.au=4):∃az sig vs v,m.sigs[(R s.call.next).idx.headD 0]?=some sig/\(T s.call.next).af=az++sig.1++[1]/\s.call.af=vs++[v]/\bG (az++sig.1) vs/\fw 1 v/\(T (s.call.next+1)).af=az++sig.1 /\ (v≠0->eG fs aA s vs s.call.ai) /\ (v=0->∀x t j,lf.ay[s.call.next]?=some x->x.ah=[t]->lf.ah[t]?=some (j,sig.1.length,az.length)->oB fs aA s j vs):=by
 obtain⟨st,x1,x2,-,-,-,-⟩:=h.fetch hi;obtain⟨F0,hf,M,ty,hh⟩:=h.look.typed hi hs.alive;obtain⟨az,sig,y1,y2,y3,y4⟩:=ty.iff hn;have hv:=hs.stk;rw[y2]at hv;obtain⟨v,vs,e,p1,p2,p3⟩:=jI (c:={s.call with next:=s.call.next+1}) hv;obtain⟨x',t',j',z1,z2,_⟩:=h.look.iff hi hs.alive hn y1 y2 y4;have OV:x'=st:=by rw[h.ok.ay,z1]at x1;exact Option.some.inj x1
 subst OV;refine⟨az,sig,vs,v,y1,y2,e,p2,p3,y4,fun h0=>?_,fun h0 x t j a1 a2 a3=>?_⟩
 ·have:=eM (aA:=aA) h hi du x1 (by rw[x2];omega) (by rw[x2];omega) (by rw[x2];omega) (e:=0) (c1:={s.call with next:=s.call.next+1,af:=vs}) (by
   unfold doC
   simp only[x2]
   rw[ajd (by omega)]
   unfold mj
   simp only[x2]
   rw[ajc (by rw[z2];simp),ajd hn,p1]
   simp only[ajc h0]
   rfl)
  simpa [eG] using this
 have U2:x=x':=by rw[x1]at a1;exact(Option.some.inj a1).symm
 subst U2;have l:=p2.len;have Ig:goC lf.ah {s.call with next:=s.call.next+1,af:=vs} (some t)=some {s.call with next:=j,af:=vs}:=by
  unfold goC;simp only[a3];unfold qS;simp only;rw[ajb]at l;rw[ajc (by omega)];have e1:vs.length-sig.1.length=az.length:=by omega
  rw[e1,List.take_append_drop]
 have:=eM (aA:=aA) h hi du x1 (by rw[x2];omega) (by rw[x2];omega) (by rw[x2];omega) (e:=0) (c1:={s.call with next:=j,af:=vs}) (by
  unfold doC
  simp only[x2]
  rw[ajd (by omega)]
  unfold mj
  simp only[x2]
  rw[ajc (by rw[a2];simp),ajd hn,p1]
  simp only[ajd h0]
  rw[a2]
  simp only[List.getElem?_cons_zero]
  rw[Ig]
  rfl)
 simpa [oB] using this
theorem DB(h:io m fs s.call.fn lf pf ai T R P n)(hi:s.call.next<n)(hs:fO ai T s.call)(du:s.ay≠aA)(hn:(R s.call.next).aa.au=5):∃F j,(T s.call.next).ae.getLast?=some F/\lf.ah[F.target]?=some (j,(aZ F).length,F.am)/\oB fs aA s j s.call.af/\(T j).af=(T s.call.next).af/\gd (T j)/\j<=n:=by
 obtain⟨st,x1,x2,-,-,-,x6⟩:=h.fetch hi;obtain⟨G,g1,g2,g3⟩:=x6 hn;obtain⟨F0,hf,M,ty,hh⟩:=h.look.typed hi hs.alive;have Uq:G=F0:=by rw[hf]at g1;exact(Option.some.inj g1).symm
 subst Uq;have iX:=ty.close (.inl hn);have hw:aZ G=G.ak:=by simp[aZ,g2]
 have kx:bT (T s.call.next) 0=some G:=by unfold bT;rw[ajd (h.look.trace _ hi).1.ae,<-g1,ajk];rfl
 have hv:=hs.stk;rw[iX,<-hw]at hv;obtain⟨j,J⟩:=h.label hi hs.alive hf kx (az:=(T s.call.next).af.take G.am) (.inl (by rw[hw];exact iX)) (by rw[ajq];omega) hv;have cT:(T j).af=(T s.call.next).af:=by rw[J.stk,aju (by rw[ajq];omega),List.take_take,Nat.min_self,hw];exact iX.symm
 have OW:ip G s.call.af=s.call.af:=by
  have l:=hv.len;rw[ajb,ajq]at l;unfold ip;have:s.call.af.length-(aZ G).length=G.am:=by omega
  rw[this,List.take_append_drop]
 refine⟨G,j,g1,J.tg,?_,cT,J.alive,J.le⟩;have:=eM (aA:=aA) h hi du x1 (by rw[x2];omega) (by rw[x2];omega) (by rw[x2];omega) (e:=0) (c1:={s.call with next:=j,af:=s.call.af}) (by
  unfold doC
  simp only[x2]
  rw[ajd (by omega)]
  unfold mj
  simp only[x2]
  rw[ajc (by rw[g3];simp),ajc (by omega),ajc (by omega),ajc (by omega),g3]
  simp only[List.getElem?_cons_zero]
  rw[J.go (c:={s.call with next:=s.call.next+1}) rfl,OW]
  rfl)
 simpa [oB] using this
end
section
variable {ar:Nat}{s r:LSt}{m:bf}{ai:List Nat}{st:aX}
theorem em{t:Nat}{x:Nat×LSt}(h:bD ar s t=.ok x):x.2.af.length<=s.af.length/\x.2.ae=s.ae:=by
 unfold bD at h;split at h
 ·cases h
 split at h
 ·split at h
  ·cases h;exact⟨nLr _,rfl⟩
  cases h
 split at h
 ·cases h
 split at h
 ·cases h
 cases h;exact⟨by simp,rfl⟩
theorem gx:∀(l:List Nat) {s r:LSt},bw ar s l=.ok r->r.af.length<=s.af.length/\r.ae=s.ae
 | [],s,r,h=>by cases h;exact⟨nLr _,rfl⟩
 |t::l,s,r,h=>by obtain⟨x,hx,h⟩:=cd h;obtain⟨a1,a2⟩:=em hx;obtain⟨b1,b2⟩:=gx l h;exact⟨by omega,b2.trans a2⟩
theorem mt{of:Nat}:∀(k:Nat) {s r:LSt},plainTakes ar of s k=.ok r->r.af.length<=s.af.length
 |0,s,r,h=>by cases h;exact nLr _
 |k+1,s,r,h=>by obtain⟨x,hx,h⟩:=cd h;have:=(em hx).1;have:=mt k h;omega
theorem ru{x:PFr×LSt}(h:dT ar s=.ok x):x.2.af.length<=s.af.length/\x.1∈s.ae:=by
 unfold dT at h;split at h
 ·cases h
 rename_i F hF;obtain⟨s1,h1,h⟩:=cd h;have:=(gx _ h1).1;split at h
 ·cases h
 cases h;refine⟨?_,ajm hF⟩;split
 ·exact this
 exact this
theorem qM:(iy s).af.length<=s.af.length:=by
 unfold iy;split
 ·exact nLr _
 simp only[ajq];omega
theorem GC(hs:∀g∈m.sigs,g.1.length<=6/\g.2.length<=6)(hf:∀F∈s.ae,F.aj.length<=6/\F.ak.length<=6)(h:doS ar m ai (ci s st) st=.ok r):r.af.length<=s.af.length+6:=by
 have hk:(ci s st).af=s.af:=rfl;have vI:(ci s st).ae=s.ae:=rfl;unfold doS at h;simp only at h;split at h
 ·unfold de at h;split at h
  ·cases h
  split at h
  ·cases h
  rename_i sig dp;obtain⟨s0,h0,h⟩:=cd h;obtain⟨s1,h1,h⟩:=cd h;cases h;have a:=(gx _ h1).1;have b:s0.af.length<=s.af.length:=by
   split at h0
   ·obtain⟨x,hx,h0⟩:=cd h0;cases h0;exact(em hx).1
   cases h0;exact nLr _
  have c:=(hs sig (gMo dp)).1;simp only[bE,dg,ajb];omega
 split at h
 ·unfold gU at h;split at h
  ·cases h
  split at h
  ·cases h
  obtain⟨x,hx,h⟩:=cd h;cases h;obtain⟨a,b⟩:=ru hx;have c:=(hf x.1 b).1;rw[hk]at a;simp only[bE,cR,ajb];omega
 split at h
 ·unfold lq at h;obtain⟨x,hx,h⟩:=cd h;split at h
  ·cases h
  cases h;obtain⟨a,b⟩:=ru hx;have c:=(hf x.1 b).2;rw[hk]at a;simp only[bE,ajb];split
  ·simp only[setNext];omega
  omega
 split at h
 ·unfold eI at h;split at h
  ·cases h
  rename_i wants hw;obtain⟨G,hG,P4⟩:=rk hw;have B1:=hf G hG;have Ik:wants.length<=6:=by rw[<-P4];unfold aZ;split <;> omega
  split at h
  ·obtain⟨x,hx,h⟩:=cd h;obtain⟨s1,h1,h⟩:=cd h;cases h;have a:=(em hx).1;have b:=(gx _ h1).1;rw[hk]at a;simp only[bE,ajb];omega
  split at h
  ·obtain⟨_,_,h⟩:=cd h;obtain⟨x,hx,h⟩:=cd h;obtain⟨s1,h1,h⟩:=cd h;cases h;have a:=(em hx).1;have b:=(gx _ h1).1;have d:=qM (s:=s1);rw[hk]at a;omega
  split at h
  ·obtain⟨s1,h1,h⟩:=cd h;cases h;have b:=(gx _ h1).1;have d:=qM (s:=s1);rw[hk]at b;omega
  cases h;have d:=qM (s:=ci s st);rw[hk]at d;omega
 split at h
 ·unfold mi at h;split at h
  ·cases h
  split at h
  ·cases h
  rename_i sig dp;obtain⟨s1,h1,h⟩:=cd h;cases h;have b:=(gx _ h1).1;have c:=(hs sig (gMo dp)).2;rw[hk]at b;simp only[bE,ajb];omega
 split at h
 ·obtain⟨x,hx,h⟩:=cd h;cases h;have a:=(em hx).1;rw[hk]at a;omega
 split at h
 ·unfold jk at h;obtain⟨x,hx,h⟩:=cd h;obtain⟨y,hy,h⟩:=cd h;obtain⟨z,hz,h⟩:=cd h;cases h;have a:=(em hx).1;have b:=(em hy).1;have c:=(em hz).1;rw[hk]at a;simp only[ez,ajb,ajr,ajv];omega
 split at h
 ·unfold fx at h;split at h
  ·cases h
  split at h
  ·obtain⟨x,hx,h⟩:=cd h;cases h;have a:=(em hx).1;rw[hk]at a;omega
  split at h
  ·obtain⟨x,hx,h⟩:=cd h;cases h;have a:=(em hx).1;rw[hk]at a;simp only[ez,ajb,ajr,ajv];omega
  cases h;simp only[ez,ajb,ajr,ajv,hk];omega
 unfold fU at h;obtain⟨s1,h1,h⟩:=cd h;cases h;have a:=mt _ h1;rw[hk]at a;split
 ·simp only[ez,ajb,ajr,ajv];omega
 omega
end
section
variable {m:bf}{ai ak:List Nat}{f:ck}{T:Nat->LSt}{R:Nat->aX}{P:Nat->Nat}{n:Nat}
theorem bL.frames6(L:bL m ai ak f T R P n)(hs:∀g∈m.sigs,g.1.length<=6/\g.2.length<=6)(h0:∀F∈(T 0).ae,F.aj.length<=6/\F.ak.length<=6):∀i,i<=n->∀F∈(T i).ae,F.aj.length<=6/\F.ak.length<=6
 |0,_=>h0
 |i+1,hi=>by
  have ih:=L.frames6 hs h0 i (by omega);obtain⟨F0,hf,M,_⟩:=L.moves (i:=i) (by omega);intro G hG;obtain⟨d,hd⟩:=jO hG;rcases M.new d G hd with⟨H,q1,_,q3,_⟩|⟨_,_,_,_,_,_,_,_,_,_,_,q⟩
  ·rw[q3.aj,q3.ak];exact ih H (gMo q1)
  exact hs _ (gMo q)
theorem bL.high6(L:bL m ai ak f T R P n)(hs:∀g∈m.sigs,g.1.length<=6/\g.2.length<=6)(h0:∀F∈(T 0).ae,F.aj.length<=6/\F.ak.length<=6):∀i,i<=n->(T i).af.length<=6*i
 |0,_=>by
  obtain⟨F,_,_,_,h⟩:=L.ax;rw[h];simp
 |i+1,hi=>by have ih:=L.high6 hs h0 i (by omega);have:=GC hs (L.frames6 hs h0 i (by omega)) (L.trace i (by omega)).1.doit;omega
theorem bL.places(L:bL m ai ak f T R P n):∀i,i<=n->i<=P i
 |0,_=>ajl _
 |i+1,hi=>by have ih:=L.places i (by omega);obtain⟨S,e⟩:=L.trace i (by omega);have:=fB S.read;omega
theorem bL.atMost(L:bL m ai ak f T R P n){i:Nat}(hi:i<n):P i<f.code.length:=by obtain⟨S,e⟩:=L.trace i hi;have h1:=fB S.read;have h2:=im S.read;omega
end
structure rv(m:bf)(fs:List bu)(i:Nat)(lf:bu)(pf:ck)(ai:List Nat)(T:Nat->LSt)(R:Nat->aX)(P:Nat->Nat)(n:Nat):Prop where
 tr:io m fs i lf pf ai T R P n
 first:∃F,(T 0).ae=[F]/\F.aj=lf.aj/\F.ak=lf.ak/\F.au=2/\F.am=0
theorem B9{bs:List UInt8}{m:bf}{fs:List bu}(hm:eD bs=.ok m)(h:bR m m.funs=.ok fs):B3 m fs/\∀i lf,fs[i]?=some lf->∃pf ai T R P n,rv m fs i lf pf ai T R P n:=by
 obtain⟨hs,hl⟩:=zj hm;obtain⟨h1,h2⟩:=kl h;have key:∀i lf,fs[i]?=some lf->∃pf ai T R P n,rv m fs i lf pf ai T R P n:=fun i lf hi=>by
  obtain⟨pf,q1,q2⟩:=h2 i lf hi;unfold cz at q2;split at q2
  ·cases q2
  rename_i sig dp;obtain⟨r,hr,q2⟩:=cd q2;cases q2;have iD:=hs sig (gMo dp);have C9:∀t∈sig.1++pf.ai,t=1\/t=2:=fun t ht=>by
   rcases List.mem_append.1 ht with q|q
   ·exact iD.1 t q
   exact hl pf (gMo q1) t q
  obtain⟨n,T,R,P,t0,p0,tn,lN,Is,tr⟩:=tu _ _ _ _ (ajl _) (by omega) hr;have cT:ni m (sig.1++pf.ai) sig.2 T R 0:=ni.ax t0 (fun g hg=>⟨(hs g hg).1.noZero,(hs g hg).2.noZero⟩) (fE.noZero C9) ⟨iD.1.noZero,iD.2.noZero⟩;have QA:bL m (sig.1++pf.ai) sig.2 pf T R P n:=⟨tr,ni.all tr (fun i hi=>by
    obtain⟨b,hb⟩:=ke (tr i hi).1.read
    exact tt _ hb) cT,by rw[tn];exact lN,by rw[t0];exact⟨_,rfl,rfl,rfl,rfl⟩⟩
  exact⟨pf,sig.1++pf.ai,T,R,P,n,⟨⟨hi,by rw[tn],by rw[tn],by simp,C9,pf,q1,dp,rfl,QA⟩,q1,dp,rfl,QA,p0,Is⟩,by rw[t0];exact⟨_,rfl,rfl,rfl,rfl,rfl⟩⟩
 refine⟨⟨fun i lf hi=>?_,h1⟩,key⟩;obtain⟨pf,ai,T,R,P,n,k⟩:=key i lf hi;exact⟨ai,T,R,P,n,k.tr.ok⟩
