import Derived.Test.YtjbdgbdcnjopkaaGreatDoorS27
import Derived.Test.YtjbdgbdcnjopkaaGreatDoorS29
namespace Go.Proofs.YtjbdgbdcnjopkaaGreatDoor
open Go.RowKit Tryz
set_option linter.all false
set_option maxRecDepth 100000
set_option maxHeartbeats 4000000
section
variable {rest bl:List RB}{b b':RB}{s s':LSt}{er er':Er}{ar:Nat}{c:List UInt8}{p:Nat}{st:aX}
theorem JQ:∀x∈dS,FB x.2:=by
 have h:∀x∈dS,(x.2.au=0\/x.2.au=10->x.2.ab=0)/\(x.2.au=7\/x.2.au=8->x.2.ab=4)/\(x.2.au=9->x.2.ab=5)/\(x.2.au=11->x.2.ab=2)/\(x.2.au=14\/x.2.au=15\/x.2.au=16->x.2.ab=3)/\(x.2.au=1->x.2.aj=0/\x.2.ak=0)/\(17<=x.2.au->x.2.ak≠0):=by decide
 intro x hx;obtain⟨a1,a2,a3,a4,a5,a6,a7⟩:=h x hx;exact⟨a1,a2,a3,a4,a5,a6,a7⟩
theorem ro(h:bJ c p=some st):FB st.aa:=by obtain⟨b,hb⟩:=ke h;exact JQ _ hb
theorem yX{l:List UInt8}{k:Nat}(h:cn c p k=some l):l.length=k:=by
 unfold cn at h;split at h
 ·cases h
 cases h;simp;omega
theorem Db(h:bJ c p=some st)(hb:st.aa.ab=1\/st.aa.ab=2\/st.aa.ab=3\/st.aa.ab=4):∃i,st.idx=[i]:=by
 unfold bJ at h;split at h
 ·split at h
  ·cases h
  rename_i k hk;obtain⟨x,hx,rfl⟩:=Option.map_eq_some_iff.1 h;simp only at hb ⊢;unfold bq at hx;rw[ajd hb]at hx;obtain⟨l,hl,rfl⟩:=Option.map_eq_some_iff.1 hx;have:=yX hl
  match l,this with
  | [a],_=>exact⟨_,rfl⟩
 cases h
theorem tz(h:bJ c p=some st):P3 st:=⟨(nU h).2,fun hb=>Db h (by omega),fun hb=>(nU h).1 (by omega)⟩
def qz(here:Nat)(b:RB)(er:Er)(n:Nat)(sig:Sig):RB×Er:=
 let r0:RB×Er:=if n=4 then (aU here b er 1).2 else (b,er)
 bh here r0.1 r0.2 sig.1.reverse
theorem Dc(h:Rel (rest++[b]) s)(h0:er.1=0){sigs:List Sig}{sig:Sig}(dp:sigs[st.idx.headD 0]?=some sig)(hn:st.aa.au=2\/st.aa.au=3\/st.aa.au=4)(C9:s.ae.length<=12):(∃s',de ar sigs s st=.ok s'/\(qz ar b er st.aa.au sig).2=er/\Rel (rest++[(qz ar b er st.aa.au sig).1]++[{aa:=st.aa.au,aj:=sig.1,ak:=sig.2,l:=sig.1,dead:=false}]) s'/\nm s'=nm s++[st.aa.au]) \/ (de ar sigs s st=.error (7,ar)/\(qz ar b er st.aa.au sig).2=(7,ar)):=by
 unfold de qz;rw[ajc (by omega),dp];simp only;have key:∀(s0:LSt) (b0:RB),Rel (rest++[b0]) s0->nm s0=nm s->(∃s',(bnd (bw ar s0 sig.1.reverse) fun s1=>Except.ok (bE (dg s1 st.aa.au sig) sig.1))=.ok s'/\(bh ar b0 er sig.1.reverse).2=er/\Rel (rest++[(bh ar b0 er sig.1.reverse).1]++[{aa:=st.aa.au,aj:=sig.1,ak:=sig.2,l:=sig.1,dead:=false}]) s'/\nm s'=nm s++[st.aa.au]) \/
   ((bnd (bw ar s0 sig.1.reverse) fun s1=>Except.ok (bE (dg s1 st.aa.au sig) sig.1))=.error (7,ar)/\(bh ar b0 er sig.1.reverse).2=(7,ar)):=by
  intro s0 b0 hr dL;have hm:=gb (ar:=ar) h0 sig.1.reverse hr;cases hx:bw ar s0 sig.1.reverse with
  |ok s1=>
   rw[hx]at hm;obtain⟨a1,a2,a3⟩:=hm;refine .inl ⟨_,rfl,a1,?_,?_⟩
   ·refine a2.push (s':=bE (dg s1 st.aa.au sig) sig.1) (F:={au:=st.aa.au,aj:=sig.1,ak:=sig.2,am:=s1.af.length,dead:=false,ao:=(s1.ay.length:Int)-1,target:=s1.ah.length}) rfl rfl ⟨rfl,rfl,rfl,rfl,Iff.rfl,?_⟩;simp only;omega
   rw[<-dL,<-a3];simp[nm,bE,dg]
  |error e=>
   rw[hx]at hm;obtain⟨a1,a2⟩:=hm;exact .inr ⟨by rw[aW,a2],a1.trans a2⟩
 by_cases h4:st.aa.au=4
 ·rw[ajd h4,ajd h4];rcases fA (ar:=ar) h h0 1 with⟨g,s',e1,e2,e3,e4,e5⟩|⟨e1,e2⟩
  ·rw[e1,aM,aM,e3];exact key _ _ e4 e5
  rw[e1,aW,aW];exact .inr ⟨rfl,by rw[e2];exact ik (by simp) _ _⟩
 rw[ajc h4,ajc h4,aM];exact key _ _ h rfl
theorem uT{g:Nat×LSt}{t:Nat}(h:bD ar s t=.ok g):g.2.ae=s.ae:=by
 unfold bD at h;split at h
 ·cases h
 split at h
 ·split at h
  ·cases h;rfl
  cases h
 split at h
 ·cases h
 split at h
 ·cases h
 cases h;rfl
theorem nj:∀(l:List Nat) {s s':LSt},bw ar s l=.ok s'->s'.ae=s.ae
 | [],s,s',h=>by cases h;rfl
 |t::l,s,s',h=>by rw[bw]at h;obtain⟨a,h1,h2⟩:=cd h;rw[nj l h2,uT h1]
theorem wh(h:Rel (rest++[b]) s)(h0:er.1=0){F:PFr}(hF:s.ae.getLast?=some F):(∃s2,dT ar s=.ok (F,s2)/\(bh ar b er b.ak.reverse).2=er/\(bh ar b er b.ak.reverse).1.l=[]/\s2.ae=s.ae.dropLast/\s2.af=iU rest) \/ (dT ar s=.error (7,ar)/\((bh ar b er b.ak.reverse).2=(7,ar)\/(bh ar b er b.ak.reverse).2=er/\(bh ar b er b.ak.reverse).1.l≠[])):=by
 obtain⟨fs,F',h1,h2,h3,h4,h5⟩:=h.top;rw[hF]at h5;cases h5;unfold dT;rw[hF];simp only;rw[h3.ak];have hm:=gb (ar:=ar) h0 b.ak.reverse h;cases hx:bw ar s b.ak.reverse with
 |error e=>
  rw[hx]at hm;obtain⟨a1,a2⟩:=hm;exact .inr ⟨by rw[aW,a2],.inl (a1.trans a2)⟩
 |ok s1=>
  rw[hx]at hm;obtain⟨a1,a2,a3⟩:=hm;have AH:s1.ae=s.ae:=nj _ hx;obtain⟨fs',F2,k1,k2,k3,k4,k5⟩:=a2.top;rw[aM,k4,h3.am];by_cases hl:(bh ar b er b.ak.reverse).1.l=[]
  ·rw[ajc (by rw[hl];simp)];refine .inl ⟨_,rfl,a1,hl,?_,?_⟩
   ·split <;> simp[cR,AH]
   split <;> simp[cR,k4,hl]
  rw[ajd (by
   intro e
   apply hl
   simp at e
   exact e)]
  exact .inr ⟨rfl,.inr ⟨a1,hl⟩⟩
theorem FN(h:Rel (rest++[b]) s)(h0:er.1=0){F:PFr}(hF:s.ae.getLast?=some F)(h4:F.au=4):(∃s',gU ar s=.ok s'/\(bh ar b er b.ak.reverse).2=er/\(bh ar b er b.ak.reverse).1.l=[]/\Rel (rest++[{b with dead:=false,l:=b.aj}]) s'/\nm s'=(nm s).dropLast++[5]) \/ (gU ar s=.error (7,ar)/\((bh ar b er b.ak.reverse).2=(7,ar)\/(bh ar b er b.ak.reverse).2=er/\(bh ar b er b.ak.reverse).1.l≠[])):=by
 obtain⟨fs,F',h1,h2,h3,uE,h5⟩:=h.top;rw[hF]at h5;cases h5;unfold gU;rw[hF];simp only;rw[ajc (by simp[h4])];rcases wh (ar:=ar) h h0 hF with⟨s2,e1,e2,e3,e4,e5⟩|⟨e1,e2⟩
 ·rw[e1,aM];refine .inl ⟨_,rfl,e2,e3,?_,?_⟩
  ·refine h.swap (F':={F with au:=5,dead:=false}) h1 ?_ ?_ ⟨h3.aj,h3.ak,rfl,h3.am,?_,?_⟩
   ·simp[bE,cR,e4,h1]
   ·simp[bE,cR,e5,h3.aj]
   ·have:=h3.iff.2 (.inl h4);simp[this]
   have:=h3.iff.2 (.inl h4);simp[this]
  simp[nm,bE,cR,e4,h1]
 rw[e1,aW];exact .inr ⟨rfl,e2⟩
theorem JR(h:Rel (rest++[b]) s)(h0:er.1=0){F:PFr}(hF:s.ae.getLast?=some F):(∃s',lq ar s=.ok s'/\(bh ar b er b.ak.reverse).2=er/\(bh ar b er b.ak.reverse).1.l=[]/\¬(F.au=4/\b.aj≠b.ak)/\s'.ae=s.ae.dropLast/\s'.af=iU rest++b.ak) \/ (lq ar s=.error (7,ar)/\((bh ar b er b.ak.reverse).2=(7,ar)\/(bh ar b er b.ak.reverse).2=er/\((bh ar b er b.ak.reverse).1.l≠[]\/(F.au=4/\b.aj≠b.ak)))):=by
 obtain⟨fs,F',h1,h2,h3,uE,h5⟩:=h.top;rw[hF]at h5;cases h5;unfold lq;rcases wh (ar:=ar) h h0 hF with⟨s2,e1,e2,e3,e4,e5⟩|⟨e1,e2⟩
 ·rw[e1,aM];simp only;rw[h3.aj,h3.ak];by_cases hc:F.au=4/\b.aj≠b.ak
  ·rw[ajd hc];exact .inr ⟨rfl,.inr ⟨e2,.inr hc⟩⟩
  rw[ajc hc];refine .inl ⟨_,rfl,e2,e3,hc,?_,?_⟩
  ·split <;> simp[bE,setNext,e4]
  split <;> simp[bE,setNext,e5]
 rw[e1,aW];refine .inr ⟨rfl,?_⟩;rcases e2 with e2|⟨e2,e3⟩
 ·exact .inl e2
 exact .inr ⟨e2,.inl e3⟩
def l6(m:bf)(ai:List Nat)(f:ck)(d:Nat):Nat->LSt->Nat->Except Er (LSt×Nat)
 |0,s,p=>.ok (s,p)
 |k+1,s,p=>if p<f.code.length then bnd (dr m ai f s p) fun r=>if r.1.ae.length<d then .ok r else l6 m ai f d k r.1 r.2 else .error (5,f.ax+f.code.length)
def fC(m:bf)(ai:List Nat)(f:ck)(d:Nat)(s:LSt)(p:Nat):Except Er (LSt×Nat):=l6 m ai f d (f.code.length+1-p) s p
theorem jc{m:bf}{ai:List Nat}{f:ck}{r:LSt×Nat}(h:dr m ai f s p=.ok r):p<r.2/\r.2<=f.code.length:=by
 unfold dr at h;split at h
 ·cases h
 split at h
 ·cases h
 rename_i st cT;obtain⟨_,_,h⟩:=cd h;obtain⟨s1,_,h⟩:=cd h;cases h;exact⟨fB cT,im cT⟩
theorem pN{m:bf}{ai:List Nat}{f:ck}{d:Nat}:∀(k j:Nat) (s:LSt) (p:Nat),f.code.length<p+k->f.code.length<p+j->p<=f.code.length->l6 m ai f d k s p=l6 m ai f d j s p
 |0,j,s,p,hk,hj,hp=>by omega
 |k+1,0,s,p,hk,hj,hp=>by omega
 |k+1,j+1,s,p,hk,hj,hp=>by
  rw[l6,l6];split
  ·cases hx:dr m ai f s p with
   |error e=>rfl
   |ok r=>
    obtain⟨h1,h2⟩:=jc hx;rw[aM,aM];split
    ·rfl
    exact pN k j _ _ (by omega) (by omega) h2
  rfl
theorem ft{m:bf}{ai:List Nat}{f:ck}{d:Nat}(hp:p<=f.code.length):fC m ai f d s p=if p<f.code.length then bnd (dr m ai f s p) fun r=>if r.1.ae.length<d then .ok r else fC m ai f d r.1 r.2 else .error (5,f.ax+f.code.length):=by
 unfold fC;have e:f.code.length+1-p=(f.code.length-p)+1:=by omega
 rw[e,l6];split
 ·cases hx:dr m ai f s p with
  |error e=>rfl
  |ok r=>
   obtain⟨h1,h2⟩:=jc hx;rw[aM,aM];split
   ·rfl
   exact pN _ _ _ _ (by omega) (by omega) h2
 rfl
theorem gg{m:bf}{ai:List Nat}{f:ck}{r:LSt×Nat}(B:iG s)(h:dr m ai f s p=.ok r):iG r.1/\s.ae.length<=r.1.ae.length+1:=by
 unfold dr at h;split at h
 ·cases h
 rename_i ec;split at h
 ·cases h
 rename_i st cT;obtain⟨_,_,h⟩:=cd h;obtain⟨s1,yR,h⟩:=cd h;cases h;obtain⟨F,hF⟩:=il (s:=s) (by omega);have hh:F.am<=s.af.length:=B.below F (ajm hF);refine⟨B.next hF (jT B hF yR),?_⟩;rcases xt hF hh yR with⟨w,_⟩|⟨w,_⟩|⟨sig,_,⟨n,_,_,_,_,lN,_⟩,_⟩|⟨w,_⟩|⟨w,_⟩
 ·rw[w.1];omega
 ·rw[w.1];simp;omega
 ·rw[lN];simp;omega
 ·rw[w.2.1];simp;omega
 rw[w.1];simp;omega
theorem rp{m:bf}{ai:List Nat}{f:ck}{d:Nat}:∀(k:Nat) (s:LSt) (p:Nat),f.code.length<=p+k->p<=f.code.length->iG s->d+1<=s.ae.length->fC m ai f d s p=bnd (fC m ai f (d+1) s p) fun r=>fC m ai f d r.1 r.2
 |k,s,p,hk,hp,hB,hd=>by
  rw[ft hp,ft (d:=d+1) hp];by_cases bM:p<f.code.length
  ·rw[ajd bM,ajd bM];cases hx:dr m ai f s p with
   |error e=>rfl
   |ok r=>
    obtain⟨h1,h2⟩:=jc hx;obtain⟨b1,b2⟩:=gg hB hx;rw[aM,aM,ajc (by omega)];by_cases hr:r.1.ae.length<d+1
    ·rw[ajd hr,aM]
    rw[ajc hr]
    match k,hk with
    |0,hk=>omega
    |k+1,hk=>exact rp k r.1 r.2 (by omega) h2 b1 (by omega)
  rw[ajc bM,ajc bM,aW]
theorem tA{m:bf}{ai:List Nat}{f:ck}{d:Nat}:∀(k:Nat) (s:LSt) (p:Nat) {r:LSt×Nat},f.code.length<=p+k->p<=f.code.length->iG s->d<=s.ae.length->fC m ai f d s p=.ok r->p<r.2/\r.2<=f.code.length/\iG r.1/\r.1.ae.length+1=d
 |k,s,p,r,hk,hp,hB,hd,h=>by
  rw[ft hp]at h;by_cases bM:p<f.code.length
  ·rw[ajd bM]at h;cases hx:dr m ai f s p with
   |error e=>rw[hx]at h;cases h
   |ok r1=>
    obtain⟨h1,h2⟩:=jc hx;obtain⟨b1,b2⟩:=gg hB hx;rw[hx,aM]at h;by_cases hr:r1.1.ae.length<d
    ·rw[ajd hr]at h;cases h;exact⟨h1,h2,b1,by omega⟩
    rw[ajc hr]at h
    match k,hk with
    |0,hk=>omega
    |k+1,hk=>
     obtain⟨a1,a2,a3,a4⟩:=tA k r1.1 r1.2 (by omega) h2 b1 (by omega) h;exact⟨by omega,a2,a3,a4⟩
  rw[ajc bM]at h;cases h
theorem oy{m:bf}{ai:List Nat}{f:ck}:∀(k:Nat) (s:LSt) (p:Nat),f.code.length<p+k->p<=f.code.length->1<=s.ae.length->iG s->cS m ai f k s p=bnd (fC m ai f 1 s p) fun r=>if r.2<f.code.length then .error (5,f.ax+r.2) else .ok r.1
 |0,s,p,hk,hp,hd,hB=>by omega
 |k+1,s,p,hk,hp,hd,hB=>by
  rw[cS,ft hp];by_cases bM:p<f.code.length
  ·rw[ajd bM,ajd bM];cases hx:dr m ai f s p with
   |error e=>rfl
   |ok r=>
    obtain⟨h1,h2⟩:=jc hx;obtain⟨b1,b2⟩:=gg hB hx;rw[aM,aM];by_cases hr:r.1.ae.length<1
    ·rw[ajd hr,aM]
     match k,hk with
     |0,hk=>omega
     |k+1,hk=>
      rw[cS];by_cases jD:r.2<f.code.length
      ·rw[ajd jD,ajd jD];unfold dr;rw[ajd (by omega)];rfl
      rw[ajc jD,ajc jD,ajc (by omega)]
    rw[ajc hr];exact oy k r.1 r.2 (by omega) h2 (by omega) b1
  rw[ajc bM,ajc bM,ajd (by omega),aW]
structure cQ(b b':RB):Prop where
 aa:b'.aa=b.aa
 aj:b'.aj=b.aj
 ak:b'.ak=b.ak
theorem cQ.refl(b:RB):cQ b b:=⟨rfl,rfl,rfl⟩
theorem cQ.trans{b b' b'':RB}(h:cQ b b')(k:cQ b' b''):cQ b b'':=⟨k.aa.trans h.aa,k.aj.trans h.aj,k.ak.trans h.ak⟩
theorem cX(here:Nat)(b:RB)(er:Er)(t:Nat):cQ b (aU here b er t).2.1/\(aU here b er t).2.1.l.length<=b.l.length:=by
 unfold aU;split
 ·exact⟨cQ.refl b,nLr _⟩
 exact⟨⟨rfl,rfl,rfl⟩,by simp⟩
theorem fu(here:Nat):∀(l:List Nat) (b:RB) (er:Er),cQ b (bh here b er l).1/\(bh here b er l).1.l.length<=b.l.length
 | [],b,er=>⟨cQ.refl b,nLr _⟩
 |t::l,b,er=>by rw[bh];obtain⟨a1,a2⟩:=cX here b er t;obtain⟨c1,c2⟩:=fu here l (aU here b er t).2.1 (aU here b er t).2.2;exact⟨a1.trans c1,by omega⟩
theorem lC(here of:Nat):∀(k:Nat) (b:RB) (er:Er),cQ b (dl here of b er k).1/\(dl here of b er k).1.l.length<=b.l.length
 |0,b,er=>⟨cQ.refl b,nLr _⟩
 |k+1,b,er=>by rw[dl];obtain⟨a1,a2⟩:=cX here b er of;obtain⟨c1,c2⟩:=lC here of k (aU here b er of).2.1 (aU here b er of).2.2;exact⟨a1.trans c1,by omega⟩
theorem fv(b:RB)(l:List Nat):cQ b (cx b l)/\(cx b l).l.length=b.l.length+l.length:=⟨⟨rfl,rfl,rfl⟩,by simp[cx]⟩
theorem tB(here:Nat){P:List Nat->Prop}:∀(ws:List (List Nat)) (w:List Nat) (er:Er),P w->(∀x∈ws,P x)->P (fZ here w ws er).1
 | [],w,er,hw,_=>hw
 |x::l,w,er,hw,h=>by rw[fZ];exact tB here l x _ (h x (by simp)) (fun y hy=>h y (by simp[hy]))
theorem yY(here:Nat){fg:List Nat}(ox:fg.length<=6){bl:List RB}(BK:∀B∈bl,B.aj.length<=6/\B.ak.length<=6)(b:RB)(er:Er)(n:Nat)(idx:List Nat):cQ b (kc here fg bl b er n idx).1/\(kc here fg bl b er n idx).1.l.length<=b.l.length+6:=by
 have hw:∀i,(ce bl i).length<=6:=by
  intro i;unfold ce;split
  ·rename_i B hB;have:=BK B (gMo hB);unfold dB;split
   ·exact this.1
   exact this.2
  simp
 unfold kc;simp only;have h0:∀(q:RB×Er),q=(if n=8\/n=9 then (aU here b er 1).2 else (b,er))->cQ b q.1/\q.1.l.length<=b.l.length:=by
  rintro q rfl;split
  ·exact cX here b er 1
  exact⟨cQ.refl b,nLr _⟩
 generalize hq:(if n=8\/n=9 then (aU here b er 1).2 else (b,er))=q;obtain⟨q1,q2⟩:=h0 q hq.symm;have h1:(eS here (if n=10 then fg else []) (idx.map (ce bl)) q.2).1.length<=6:=by
  unfold eS;split
  ·split
   ·exact ox
   simp
  rename_i x l e;refine tB (P:=fun x=>x.length<=6) here l x q.2 ?_ ?_
  ·obtain⟨i,_,rfl⟩:=List.mem_map.1 (show x∈idx.map (ce bl) by rw[e];simp);exact hw i
  intro y hy;obtain⟨i,_,rfl⟩:=List.mem_map.1 (show y∈idx.map (ce bl) by rw[e];simp[hy]);exact hw i
 generalize eS here (if n=10 then fg else []) (idx.map (ce bl)) q.2=w at h1;obtain⟨t1,t2⟩:=fu here w.1.reverse q.1 w.2;split
 ·obtain⟨g1,g2⟩:=fv (bh here q.1 w.2 w.1.reverse).1 w.1;exact⟨(q1.trans t1).trans g1,by omega⟩
 exact⟨(q1.trans t1).trans ⟨rfl,rfl,rfl⟩,by simp[xq]⟩
theorem FO(here:Nat){m:bf}(hm:∀x∈m.sigs,x.1.length<=6/\x.2.length<=3)(ai:List Nat){fg:List Nat}(ox:fg.length<=6){bl:List RB}(BK:∀B∈bl,B.aj.length<=6/\B.ak.length<=6)(b:RB)(er:Er)(st:aX):cQ b (doR here m ai fg bl b er st).1/\(doR here m ai fg bl b er st).1.l.length<=b.l.length+6:=by
 unfold doR;simp only;split
 ·exact yY here ox BK b er _ _
 split
 ·have hs:(da m (st.idx.headD 0)).2.length<=3:=by
   unfold da;cases h1:m.funs[st.idx.headD 0]? with
   |none=>simp
   |some fn=>
    cases h2:m.sigs[fn.sig]? with
    |none=>simp[h2]
    |some g=>simpa [h2] using (hm g (gMo h2)).2
  obtain⟨t1,t2⟩:=fu here (da m (st.idx.headD 0)).1.reverse b er;obtain⟨g1,g2⟩:=fv (bh here b er (da m (st.idx.headD 0)).1.reverse).1 (da m (st.idx.headD 0)).2;exact⟨t1.trans g1,by simp only;omega⟩
 split
 ·obtain⟨a1,a2⟩:=cX here b er 0;exact⟨a1,by omega⟩
 split
 ·unfold vV;simp only;obtain⟨a1,a2⟩:=cX here b er 1;obtain⟨c1,c2⟩:=cX here (aU here b er 1).2.1 (aU here b er 1).2.2 0;obtain⟨d1,d2⟩:=cX here (aU here (aU here b er 1).2.1 (aU here b er 1).2.2 0).2.1 (aU here (aU here b er 1).2.1 (aU here b er 1).2.2 0).2.2 (aU here (aU here b er 1).2.1 (aU here b er 1).2.2 0).1;refine⟨((a1.trans c1).trans d1).trans (fv _ _).1,?_⟩;rw[(fv _ _).2];simp;omega
 split
 ·unfold i9;simp only;have h0:∀(q:RB×Er) (t:Nat),q=(if st.aa.au≠14 then (aU here b er t).2 else (b,er))->cQ b q.1/\q.1.l.length<=b.l.length:=by
   rintro q t rfl;split
   ·exact cX here b er t
   exact⟨cQ.refl b,nLr _⟩
  generalize ai[st.idx.headD 0]?.getD 0=t;generalize hq:(if st.aa.au≠14 then (aU here b er t).2 else (b,er))=q;obtain⟨q1,q2⟩:=h0 q t hq.symm;split
  ·obtain⟨g1,g2⟩:=fv q.1 [t];simp at g2;exact⟨q1.trans g1,by omega⟩
  exact⟨q1,by omega⟩
 split
 ·exact⟨cQ.refl b,by simp⟩
 unfold te;obtain⟨t1,t2⟩:=lC here st.aa.of st.aa.aj b er;obtain⟨g1,g2⟩:=fv (dl here st.aa.of b er st.aa.aj).1 [st.aa.ak];simp at g2;exact⟨t1.trans g1,by simp only;omega⟩
end
abbrev l7(t:Nat):Prop:=t=116\/t=124\/t=153\/t=151
structure Fr(az:Nat)(n:Option Nat)(w w':World):Prop where
 below:Below az w w'
 keep:∀g c t,¬l7 t->(t=157->some g≠n)->Blk w g c t->Blk w' g c t
theorem Fr.refl(az:Nat)(n:Option Nat)(w:World):Fr az n w w:=⟨Below.refl _ _,fun _ _ _ _ _ h=>h⟩
theorem Fr.trans{az:Nat}{n:Option Nat}{a b c:World}(h:Fr az n a b)(k:Fr az n b c):Fr az n a c:=⟨h.below.trans k.below,fun g c t h1 h2 hb=>k.keep g c t h1 h2 (h.keep g c t h1 h2 hb)⟩
theorem Fr.any{az:Nat}{n:Option Nat}{a b:World}(h:Fr az none a b):Fr az n a b:=⟨h.below,fun g c t h1 h2 hb=>h.keep g c t h1 (fun _=>by simp) hb⟩
theorem Fr.of{az:Nat}{n:Option Nat}{w w':World}(h:w.grownBy w' none)(hB:az<=w.heap.size):Fr az n w w':=⟨cY h hB (fun r e=>by cases e),fun g c t _ _ hb=>hb.grown h (by simp)⟩
theorem Fr.wrote{az:Nat}{n:Option Nat}{w w':World}{g t:Nat}{c:Array Value}(h:w.grownBy w' (some g))(hb:Blk w g c t)(ht:l7 t)(hB:az<=g):Fr az n w w':=⟨cY h (Nat.le_of_lt (ajH hB hb.lt)) (fun r e=>by cases e;exact hB),fun g' c' t' h1 h2 mn=>aF h hb mn (fun e=>h1 (e ▸ ht))⟩
theorem Fr.wroteNode{az:Nat}{w w':World}{g:Nat}{c:Array Value}(h:w.grownBy w' (some g))(hb:Blk w g c 157)(hB:az<=g):Fr az (some g) w w':=
 ⟨cY h (Nat.le_of_lt (ajH hB hb.lt)) (fun r e=>by cases e;exact hB),fun g' c' t' h1 h2 mn=>by
  by_cases e:t'=157
  ·exact mn.grown h (h2 e)
  exact aF h hb mn e⟩
theorem Fr.newRow{az:Nat}{n:Option Nat}{a w w':World}(k:Fr az n a w){row:Option Nat}(h:w.grownBy w' row)(hr:∀g,row=some g->a.heap.size<=g)(hB:az<=a.heap.size):Fr az n a w':=by have gy:=k.below.size;refine⟨k.below.trans (cY h (by omega) (fun r e=>by have:=hr r e;omega)),fun g c t h1 h2 hb=>(k.keep g c t h1 h2 hb).grown h (fun e=>?_)⟩;have:=hr g e.symm;have:=hb.lt;omega
theorem Fr.drewN{az:Nat}{n:Option Nat}{a w:World}(k:Fr az n a w)(j:Nat):Fr az n a (w.drewN j):=⟨⟨k.below.os,k.below.tape,k.below.output,k.below.size,k.below.block⟩,k.keep⟩
theorem Fr.drew{az:Nat}{n:Option Nat}{a w:World}(k:Fr az n a w):Fr az n a w.drew:=⟨⟨k.below.os,k.below.tape,k.below.output,k.below.size,k.below.block⟩,k.keep⟩
theorem Fr.row{az:Nat}{n:Option Nat}{a b:World}(h:Fr az n a b){v:Value}{l:List Nat}(hr:aR a v l):aR b v l:=hr.keep fun g c hb=>h.keep g c 3 (by decide) (fun e=>by cases e) hb
def Fx(w w':World):Prop:=∀g c t,t≠116->Blk w g c t->Blk w' g c t
theorem Fx.refl(w:World):Fx w w:=fun _ _ _ _ h=>h
theorem Fx.trans{a b c:World}(h:Fx a b)(k:Fx b c):Fx a c:=fun g c t ht hb=>k g c t ht (h g c t ht hb)
abbrev ptr(a:Nat):Value:=.pointer (some ⟨a,0,none⟩)
def mr(w:World)(a:Nat)(b:RB):Prop:=∃vt vg vl,Blk w a #[.int .i64 b.aa,vt,vg,vl,.bool b.dead] 153/\aR w vt b.aj/\aR w vg b.ak/\aR w vl b.l
structure Lk(az:Nat)(w:World)(c x m f:Nat)(s:ByteArray)(at_:Nat)(er:Er)(here:Nat)(ads:List Nat)(bl:List RB):Prop where
 sc:Sc w x s at_ er
 blk:∃v,Blk w c #[ptr x,ptr m,ptr f,.int .i64 here,v] 124/\w.ownsRow az 151 1 v bl.length (ads.map ptr)
 len:ads.length=bl.length
 nodup:ads.Nodup
 bls:∀(i a:Nat) (b:RB),ads[i]?=some a->bl[i]?=some b->mr w a b
 lowx:az<=x
 lowc:az<=c
 low:∀a∈ads,az<=a
 nb:bl.length<=20
section
variable {az c x m f:Nat}{w w':World}{s:ByteArray}{at_ here:Nat}{er:Er}{ads:List Nat}{a:Nat}{bl rest:List RB}{b b':RB}
theorem mr.keep(h:mr w a b)(k1:∀c,Blk w a c 153->Blk w' a c 153)(k2:∀g c,Blk w g c 3->Blk w' g c 3):mr w' a b:=by obtain⟨vt,vg,vl,h1,h2,h3,h4⟩:=h;exact⟨vt,vg,vl,k1 _ h1,h2.keep k2,h3.keep k2,h4.keep k2⟩
theorem Lk.size(h:Lk az w c x m f s at_ er here ads bl):az<=w.heap.size:=Nat.le_of_lt (ajH h.lowx (Blk.lt h.sc))
theorem Lk.kept(h:Lk az w c x m f s at_ er here ads bl)(k:∀g c t,t=116\/t=124\/t=153\/t=151\/t=3->Blk w g c t->Blk w' g c t):Lk az w' c x m f s at_ er here ads bl:=by obtain⟨v,h1,h2⟩:=h.blk;exact⟨k _ _ _ (by simp) h.sc,⟨v,k _ _ _ (by simp) h1,aJ h2 fun g c hb=>k g c 151 (by simp) hb⟩,h.len,h.nodup,fun i a b ha hb=>(h.bls i a b ha hb).keep (fun c hb=>k _ c 153 (by simp) hb) (fun g c hb=>k g c 3 (by simp) hb),h.lowx,h.lowc,h.low,h.nb⟩
theorem Lk.grown(h:Lk az w c x m f s at_ er here ads bl)(k:w.grownBy w' none):Lk az w' c x m f s at_ er here ads bl:=h.kept fun g c t _ hb=>hb.grown k (by simp)
theorem Lk.drew(h:Lk az w c x m f s at_ er here ads bl):Lk az w.drew c x m f s at_ er here ads bl:=h.kept fun g c t _ hb=>hb
theorem Lk.drewN(h:Lk az w c x m f s at_ er here ads bl)(n:Nat):Lk az (w.drewN n) c x m f s at_ er here ads bl:=h.kept fun g c t _ hb=>hb
theorem Lk.setSc(h:Lk az w c x m f s at_ er here ads bl){at2:Nat}{er2:Er}(k:w.grownBy w' (some x))(hs:Sc w' x s at2 er2):Lk az w' c x m f s at2 er2 here ads bl/\Fr az none w w':=by obtain⟨v,h1,h2⟩:=h.blk;have ko:∀t,t≠116->∀g c,Blk w g c t->Blk w' g c t:=fun t ht g c hb=>aF k h.sc hb ht;exact⟨⟨hs,⟨v,ko _ (by decide) _ _ h1,aJ h2 (ko _ (by decide))⟩,h.len,h.nodup,fun i a b ha hb=>(h.bls i a b ha hb).keep (ko _ (by decide) _) (ko _ (by decide)),h.lowx,h.lowc,h.low,h.nb⟩,Fr.wrote k h.sc (by decide) h.lowx⟩
theorem Lk.move(h:Lk az w c x m f s at_ er here ads bl){at2:Nat}{er2:Er}(k:∀g c t,t=124\/t=153\/t=151\/t=3->Blk w g c t->Blk w' g c t)(hs:Sc w' x s at2 er2):Lk az w' c x m f s at2 er2 here ads bl:=by obtain⟨v,h1,h2⟩:=h.blk;exact⟨hs,⟨v,k _ _ _ (by simp) h1,aJ h2 fun g c hb=>k g c 151 (by simp) hb⟩,h.len,h.nodup,fun i a b ha hb=>(h.bls i a b ha hb).keep (fun c hb=>k _ c 153 (by simp) hb) (fun g c hb=>k g c 3 (by simp) hb),h.lowx,h.lowc,h.low,h.nb⟩
theorem Lk.setHere(h:Lk az w c x m f s at_ er here ads bl)(n:Nat):Lk az (w.setCell ⟨c,3,none⟩ (.int .i64 n)) c x m f s at_ er n ads bl/\Fr az none w (w.setCell ⟨c,3,none⟩ (.int .i64 n)):=by obtain⟨v,h1,h2⟩:=h.blk;have k:=aD w c 3 (.int .i64 n);have ko:∀t,t≠124->∀g c',Blk w g c' t->Blk (w.setCell ⟨c,3,none⟩ (.int .i64 n)) g c' t:=fun t ht g c hb=>aF k h1 hb ht;have hb:=h1.set 3 (.int .i64 n);simp at hb;exact⟨⟨ko _ (by decide) _ _ h.sc,⟨v,hb,aJ h2 (ko _ (by decide))⟩,h.len,h.nodup,fun i a b ha hb=>(h.bls i a b ha hb).keep (ko _ (by decide) _) (ko _ (by decide)),h.lowx,h.lowc,h.low,h.nb⟩,Fr.wrote k h1 (by decide) h.lowc⟩
theorem Lk.top(h:Lk az w c x m f s at_ er here (ads++[a]) (rest++[b])):mr w a b/\ads.length=rest.length/\az<=a:=by have hl:=h.len;simp at hl;exact⟨h.bls ads.length a b (by simp) (by rw[hl];simp),hl,h.low a (by simp)⟩
theorem Lk.setTop(h:Lk az w c x m f s at_ er here (ads++[a]) (rest++[b]))(k:w.grownBy w' (some a))(hb:mr w' a b'):Lk az w' c x m f s at_ er here (ads++[a]) (rest++[b'])/\Fr az none w w':=by
 obtain⟨⟨vt,vg,vl,t1,t2,t3,t4⟩,hl,tC⟩:=h.top;obtain⟨v,h1,h2⟩:=h.blk;have ko:∀t,t≠153->∀g c',Blk w g c' t->Blk w' g c' t:=fun t ht g c hb=>aF k t1 hb ht;refine⟨⟨ko _ (by decide) _ _ h.sc,⟨v,ko _ (by decide) _ _ h1,?_⟩,by simp[hl],h.nodup,fun i a1 b1 rD iW=>?_,h.lowx,h.lowc,h.low,by simpa using h.nb⟩,Fr.wrote k t1 (by decide) tC⟩
 ·have:=aJ h2 (ko _ (by decide));simpa using this
 by_cases hi:i<rest.length
 ·rw[gAl (by omega)]at rD;rw[gAl hi]at iW;have ec:a1≠a:=by have hn:=h.nodup;rw[List.nodup_append]at hn;intro e;exact hn.2.2 a1 (gMo rD) a (by simp) e
  refine(h.bls i a1 b1 (by rw[gAl (by omega)];exact rD) (by rw[gAl hi];exact iW)).keep (fun c hb=>hb.grown k (by simpa using ec)) (ko _ (by decide))
 have jB:i=rest.length:=by have:=(gEs.1 iW).1;simp at this;omega
 subst jB;rw[<-hl]at rD;simp at rD iW;subst rD;subst iW;exact hb
end
section
variable {az c x m f:Nat}{w w':World}{s:ByteArray}{at_ here:Nat}{er:Er}{ads:List Nat}{a:Nat}{bl rest:List RB}{b b':RB}
theorem nr(h:Lk az w c x m f s at_ er here (ads++[a]) (rest++[b])):Calls prog 90 #[ptr c] w fun r w'=>r=.returned (ptr a)/\w.grownBy w' none:=by
 obtain⟨v,h1,h2⟩:=h.blk;obtain⟨_,hl,_⟩:=h.top;have sF:=h.nb;simp at sF;have c4:=h1.cell 4;simp at c4;obtain⟨g,cap,rfl⟩:=cu h2 (by simp);have hc:=(bK h2 (j:=rest.length) (by simp)).1;rw[<-hl]at hc;simp at hc;have aQ:(rest++[b]).length=ads.length+1:=by simp[hl]
 rw[aQ]at c4;obtain⟨k,hk⟩:=aja ads.length;rw[hk]at hc c4 hl;have rQ:(k:Int)<=20:=by omega
 have mO:=h1.lt;clear aQ hk hl h2;go_enter func90,ntmps90;go_wp2_with fail;go_quiet (fail)
 go_wp2_with fail;go_ret;exact⟨rfl,bd (aH _ _) _⟩
theorem FQ(h:Lk az w c x m f s at_ er here ads bl)(e:Nat):Calls prog 91 #[ptr c,.int .i64 e] w fun r w'=>r=.returned (.tuple #[])/\Fx w w'/\Fr az none w w'/\Lk az w' c x m f s at_ (noS er e here) here ads bl:=by
 obtain⟨v,h1,h2⟩:=h.blk;have c0:=h1.cell 0;have c3:=h1.cell 3;simp at c0 c3;have mO:=h1.lt;have hN:=fun W (hW:Sc W x s at_ er)=>i6 hW e here;go_enter func91,ntmps91;go_region_with (go_at_call 52;refine(hN w.drew h.sc).mono ?_;rintro e w2 ⟨rfl,aP,gY⟩)
 all_goals (go_wp2_with fail;go_end0;exact⟨rfl,fun g c t ht hb=>aF (bj aP) h.sc hb ht,(h.setSc (bj aP) gY).2,(h.setSc (bj aP) gY).1⟩)
theorem gG(h:Lk az w c x m f s at_ er here ads bl)(e:Nat):Calls prog 91 #[ptr c,.int .i64 e] w fun r w'=>r=.returned (.tuple #[])/\Fr az none w w'/\Lk az w' c x m f s at_ (noS er e here) here ads bl:=(FQ h e).mono fun r w' ⟨h1,_,h2,h3⟩=>⟨h1,h2,h3⟩
theorem mr.setL{vt vg vl v:Value}{l:List Nat}(t1:Blk w a #[.int .i64 b.aa,vt,vg,vl,.bool b.dead] 153)(t2:aR w vt b.aj)(t3:aR w vg b.ak)(t4:aR w v l):mr (w.setCell ⟨a,3,none⟩ v) a {b with l:=l}:=by have hk:∀g c,Blk w g c 3->Blk (w.setCell ⟨a,3,none⟩ v) g c 3:=fun g c hb=>aF (aD _ _ _ _) t1 hb (by decide);have hb:=t1.set 3 v;simp at hb;exact⟨vt,vg,v,hb,t2.keep hk,t3.keep hk,t4.keep hk⟩
theorem fJ(h:Lk az w c x m f s at_ er here (ads++[a]) (rest++[b]))(hn:b.l.length<=100000)(t:Nat):Calls prog 115 #[ptr c,.int .i64 t] w fun r w'=>r=.returned (.int .i64 (aU here b er t).1)/\Fr az none w w'/\Lk az w' c x m f s at_ (aU here b er t).2.2 here (ads++[a]) (rest++[(aU here b er t).2.1]):=by
 have hT:=nr h;obtain⟨⟨vt,vg,vl,t1,t2,t3,t4⟩,hl,tC⟩:=h.top;obtain⟨av,cv,rfl,yc,_⟩:=aG t4;rcases List.eq_nil_or_concat b.l with hb|⟨l,y,hb⟩
 ·rw[hb]at t1;simp only[ajv]at t1;cases hd:b.dead with
  |false=>
   have hR:aU here b er t=(t,b,noS er 7 here):=by unfold aU;rw[hb];simp[hd]
   rw[hR];rw[hd]at t1;clear hR hd hb yc t4;go_enter func115,ntmps115;go_wp2_with fail;refine hT.mono ?_;clear hT;rintro e w2 ⟨rfl,aP⟩;have h2:=h.grown aP;have u1:=t1.grown aP (by simp);have c3:=u1.cell 3;have c4:=u1.cell 4;simp at c3 c4;have hB:=gG h2 7;go_wp2_with fail;refine hB.mono ?_;clear hB;rintro e w3 ⟨rfl,et,h3⟩;go_wp2_with fail;go_ret;exact⟨rfl,(Fr.of aP h.size).trans et,h3⟩
  |true=>
   have hR:aU here b er t=(t,b,er):=by unfold aU;rw[hb];simp[hd]
   rw[hR];rw[hd]at t1;clear hR hd hb yc t4;go_enter func115,ntmps115;go_wp2_with fail;refine hT.mono ?_;clear hT;rintro e w2 ⟨rfl,aP⟩;have h2:=h.grown aP;have u1:=t1.grown aP (by simp);have c3:=u1.cell 3;have c4:=u1.cell 4;simp at c3 c4;go_wp2_with fail;go_ret;exact⟨rfl,Fr.of aP h.size,h2⟩
 simp only[List.concat_eq_append]at hb;have aQ:b.l.length=l.length+1:=by rw[hb];simp
 obtain⟨g,cap,hg⟩:=cu t4 (by omega);simp only[Value.slice.injEq]at hg;obtain⟨rfl,-,rfl⟩:=hg;rw[aQ]at t1;obtain⟨k,hk⟩:=aja l.length;rw[hk]at t1;have rQ:(k:Int)<=100000:=by omega
 have aap:(k:Int)+1<=(cv:Int):=by omega
 have HR:Hid (aU here b er t=(if y=0 then t else y,{b with l:=l},if y≠0/\t≠0/\y≠t then noS er 7 here else er)):=by show _=_;unfold aU;rw[hb];simp
 have ROW:Hid (∀W,(∀g c,Blk w g c 3->Blk W g c 3)->W.cell? ⟨g,k,none⟩=some (.int .i64 y)/\aR W (.slice (some ⟨g,0,none⟩) k cv) l):=by
  intro W hW;have t4':=t4.keep hW;have bC:=(bK t4' (j:=l.length) (by omega)).1;have hcut:=pw t4' (k:=l.length) (by omega);rw[hb]at bC hcut;have e:(aV (l++[y])).take (l.length*1)=aV l:=by simp[aV]
  rw[e,hk]at hcut;rw[hk]at bC;refine⟨?_,?_⟩
  ·rw[bC];simp[aV,<-hk]
  unfold aR;rw[hk];exact hcut
 clear aQ hk hb t4 hn yc;go_enter func115,ntmps115;go_wp2_with fail;refine hT.mono ?_;clear hT;rintro e w2 ⟨rfl,aP⟩;have h2:=h.grown aP;have u1:=t1.grown aP (by simp);have k3:∀g c,Blk w g c 3->Blk w2 g c 3:=fun g c hb=>hb.grown aP (by simp);have u2:=t2.keep k3;have u3:=t3.keep k3;obtain⟨bC,u4⟩:=ROW.out w2 k3;have c3:=u1.cell 3;have f3:=u1.frozen 3;simp at c3;clear ROW;go_wp2_with fail;go_quiet (fail)
 go_wp2_with fail;go_region
 obtain⟨h4,P7⟩:=(h2.drewN (nq+1)).setTop (aD (w2.drewN (nq+1)) a 3 (.slice (some ⟨g,0,none⟩) k cv)) (mr.setL (w:=w2.drewN (nq+1)) (b:=b) u1 u2 u3 u4);have fD:=((Fr.of (n:=none) aP h.size).drewN (nq+1)).trans P7;clear P7;generalize (w2.drewN (nq+1)).setCell ⟨a,3,none⟩ (.slice (some ⟨g,0,none⟩) k cv)=w4 at h4 fD ⊢;clear c3 f3 bC u1 u2 u3 u4 h2 aP k3 t1 t2 t3 h;by_cases y0:y=0
 ·subst y0;have e:=HR.out;rw[ajd rfl,ajc (by simp)]at e;have HE:Hid _:=e;clear e HR;go_wp2_with fail;go_ret;rw[HE.out];exact⟨rfl,fD,h4⟩
 have yb:((y:Int)==0)=false:=beqn (by omega);have yn:((y:Int) != 0)=true:=by simp only[bne,yb];rfl
 by_cases t0:t=0
 ·subst t0;have e:=HR.out;rw[ajc y0,ajc (by simp)]at e;have HE:Hid _:=e;clear e y0 HR;go_wp2_with fail;go_ret;rw[HE.out];exact⟨rfl,fD,h4⟩
 have tb:((t:Int)==0)=false:=beqn (by omega);have tn:((t:Int) != 0)=true:=by simp only[bne,tb];rfl
 by_cases yt:y=t
 ·subst yt;have e:=HR.out;rw[ajc y0,ajc (by simp)]at e;have HE:Hid _:=e;clear e y0 HR t0;go_wp2_with fail;go_ret;rw[HE.out];exact⟨rfl,fD,h4⟩
 have zb:((y:Int)==(t:Int))=false:=beqn (by omega);have zn:((y:Int) != (t:Int))=true:=by simp only[bne,zb];rfl
 have e:=HR.out;rw[ajc y0,ajd ⟨y0,t0,yt⟩]at e;have HE:Hid _:=e;clear e y0 HR t0 yt;have hB:=gG h4 7;go_wp2_with fail;refine hB.mono ?_;clear hB;rintro e w5 ⟨rfl,iv,h5⟩;go_wp2_with fail;go_ret;rw[HE.out];exact⟨rfl,fD.trans iv,h5⟩
theorem FT(h:Lk az w c x m f s at_ er here (ads++[a]) (rest++[b])):Calls prog 151 #[ptr c] w fun r w'=>r=.returned (.tuple #[])/\Fr az none w w'/\Lk az w' c x m f s at_ er here (ads++[a]) (rest++[xq b]):=by have hT:=nr h;obtain⟨⟨vt,vg,vl,t1,t2,t3,t4⟩,hl,tC⟩:=h.top;go_enter func151,ntmps151;go_wp2_with fail;refine hT.mono ?_;clear hT;rintro e w2 ⟨rfl,aP⟩;have h2:=h.grown aP;have u1:=t1.grown aP (by simp);have k3:∀g c,Blk w g c 3->Blk w2 g c 3:=fun g c hb=>hb.grown aP (by simp);have u2:=t2.keep k3;have u3:=t3.keep k3;have u4:=t4.keep k3;have c4:=u1.cell 4;have f4:=u1.frozen 4;simp at c4;have hk:∀g c,Blk w2 g c 3->Blk (w2.setCell ⟨a,4,none⟩ (.bool true)) g c 3:=fun g c hb=>aF (aD _ _ _ _) u1 hb (by decide);have v1:=u1.set 4 (.bool true);simp at v1;obtain⟨h3,et⟩:=h2.setTop (b':={b with dead:=true}) (aD w2 a 4 (.bool true)) ⟨vt,vg,vl,v1,u2.keep hk,u3.keep hk,u4.keep hk⟩;replace u2:=u2.keep hk;replace u3:=u3.keep hk;go_wp2_with fail;generalize w2.setCell ⟨a,4,none⟩ (.bool true)=w3 at h3 et v1 u2 u3 ⊢;have hT:=nr h3;refine hT.mono ?_;clear hT;rintro e w4 ⟨rfl,dv⟩;have h4:=h3.grown dv;have k4:∀g c,Blk w3 g c 3->Blk w4 g c 3:=fun g c hb=>hb.grown dv (by simp);replace u2:=u2.keep k4;replace u3:=u3.keep k4;have x1:=v1.grown dv (by simp);have c3:=x1.cell 3;have f3:=x1.frozen 3;simp at c3;obtain⟨h5,iv⟩:=h4.setTop (aD w4 a 3 (.slice none 0 0)) (mr.setL (b:={b with dead:=true}) (l:=[]) x1 u2 u3 (ajj _ _ _ _));go_wp2_with fail;go_end0;exact⟨rfl,(((Fr.of aP h.size).trans et).trans (Fr.of dv h3.size)).trans iv,h5⟩
theorem fk(h:Lk az w c x m f s at_ er here (ads++[a]) (rest++[b]))(hn:b.l.length<100000)(t:Nat):Calls prog 116 #[ptr c,.int .i64 t] w fun r w'=>r=.returned (.tuple #[])/\Fr az none w w'/\Lk az w' c x m f s at_ er here (ads++[a]) (rest++[cx b [t]]):=by
 have hT:=nr h;obtain⟨⟨vt,vg,vl,t1,t2,t3,t4⟩,hl,tC⟩:=h.top;obtain⟨i0,hi,fo,eP,eV⟩:=info_parts ml;obtain⟨av,cv,rfl,yc,_⟩:=aG t4;obtain⟨k,hk⟩:=aja b.l.length;rw[hk]at t1 t4;go_enter func116,ntmps116;go_wp2_with fail;refine hT.mono ?_;clear hT;rintro e w2 ⟨rfl,aP⟩;have h2:=h.grown aP;have u1:=t1.grown aP (by simp);have k3:∀g c,Blk w g c 3->Blk w2 g c 3:=fun g c hb=>hb.grown aP (by simp);have u2:=t2.keep k3;have u3:=t3.keep k3;have u4:=t4.keep k3;have c3:=u1.cell 3;simp at c3;have qa:=h2.size;have FIN:Hid (∀W v1 v2 W4,w2.grownBy W none->W.ownsRow w2.heap.size 3 1 v1 k (aV b.l)->W4.ownsRow w2.heap.size 3 1 v2 (k+1) (aV b.l++[.int .i64 t])->(W.alloc (.cells #[.int .i64 t] 3)).grownBy W4 v1.ownBlock ->
   Blk W4 a #[.int .i64 b.aa,vt,vg,.slice av k cv,.bool b.dead] 153/\Fr az none w (W4.setCell ⟨a,3,none⟩ v2)/\Lk az (W4.setCell ⟨a,3,none⟩ v2) c x m f s at_ er here (ads++[a]) (rest++[cx b [t]])):=by
  intro W v1 v2 W4 hg bn mY yZ;have lm:w2.grownBy (W.alloc (.cells #[.int .i64 t] 3)) none:=aB hg (aC _ _ _);have dv:w2.grownBy W4 none:=by
   cases i7:v1.ownBlock with
   |none=>rw[i7]at yZ;exact aB lm yZ
   |some q=>rw[i7]at yZ;exact aO lm (ba bn q i7).1 yZ
  have x1:=u1.grown dv (by simp);have k4:∀g c,Blk w2 g c 3->Blk W4 g c 3:=fun g c hb=>hb.grown dv (by simp);have hr:aR W4 v2 (b.l++[t]):=by unfold aR;rw[lW,ajb,hk];exact dj mY
  obtain⟨h5,iv⟩:=(h2.grown dv).setTop (aD W4 a 3 v2) (mr.setL x1 (u2.keep k4) (u3.keep k4) hr);exact⟨x1,((Fr.of aP h.size).trans (Fr.of dv qa)).trans iv,h5⟩
 rcases u4.cases with⟨hv,oH⟩|⟨gm,cm,hv,Um⟩
 ·simp only[Value.slice.injEq]at hv;obtain⟨rfl,rfl,rfl⟩:=hv;have j7:w2.ownsRow w2.heap.size 3 1 (.slice none 0 0) 0 (aV b.l):=by rw[oH];exact ajj _ _ _ _
  clear oH hk;go_upto_region 3 with(at_builtin;refine wpList_append_own_none rfl _ _ 44 rfl w2.heap.size 3 i0 1 underlying44 hi (.slice none 0 0) 0 [] rfl (ajj _ _ _ _) rfl ?_)
  go_wp2_with (at_builtin;refine wpList_append_own_at _ rfl _ _ 44 rfl w2.heap.size 3 i0 (.int .i64 0) 1 8 underlying44 hi fo eP eV rfl (by decide) (.slice none 0 0) 0 (aV b.l) rfl (World.ownsRow.alloc j7 _) ⟨w2.heap.size,0,none⟩ 1 1 [.int .i64 t] rfl rfl ?qa1 ?qa2 ?qa3 ?qa4 ?qa5 ?qa6)
  case qa1=>exact cell_one_new _ _ _
  case qa2=>simp[Value.oneCell']
  case qa3=>simp[maxLen]
  case qa4=>omega
  case qa5=>simp
  case qa6=>
   intro v2 w4 mY yZ _ _;obtain⟨jK,fD,FU⟩:=FIN.out w2 _ v2 w4 (aH w2 none) j7 mY yZ;obtain⟨a2,cap2,rfl,_,_⟩:=aG mY;have c3:=jK.cell 3;have f3:=jK.frozen 3;simp at c3;have h5:=FU;go_wp2_with fail;go_end0;exact⟨rfl,fD,h5⟩
 simp only[Value.slice.injEq]at hv;obtain⟨rfl,-,rfl⟩:=hv;have HK:Hid _:=hk;have EJ:k<100000:=by omega
 clear hk hn yc;go_upto_region 3 with(at_builtin;refine wpList_append_own_at _ rfl _ _ 44 rfl w2.heap.size 3 i0 (.int .i64 0) 1 8 underlying44 hi fo eP eV rfl (by decide) (.slice none 0 0) 0 [] rfl (ajj _ _ _ _) ⟨gm,0,none⟩ k _ (aV b.l) rfl ?pp1 ?pp2 ?pp3 ?pp4 ?pp5 ?pp6 ?pp7)
 case pp1=>simp[aV,HK.out]
 case pp2=>intro j u hj;rw[cJ,ajx];exact Um j u hj
 case pp3=>simp[aV,Value.oneCell']
 case pp4=>simp[maxLen];omega
 case pp5=>omega
 case pp6=>exact nLr _
 case pp7=>
  intro v3 w3 j7 Ur _ _;have FV:w3.ownsRow w2.heap.size 3 1 v3 k (aV b.l):=by simpa using j7
  replace j7:=FV;clear FV;have co:w2.grownBy w3 none:=Ur;obtain⟨a3,cap3,rfl,_,_⟩:=aG j7;have c3:=(u1.grown co (by simp)).cell 3;simp at c3;go_wp2_with (at_builtin;refine wpList_append_own_at _ rfl _ _ 44 rfl w2.heap.size 3 i0 (.int .i64 0) 1 8 underlying44 hi fo eP eV rfl (by decide) (.slice a3 k cap3) k (aV b.l) rfl (World.ownsRow.alloc j7 _) ⟨w3.heap.size,0,none⟩ 1 1 [.int .i64 t] rfl rfl ?qb1 ?qb2 ?qb3 ?qb4 ?qb5 ?qb6)
  case qb1=>exact cell_one_new _ _ _
  case qb2=>simp[Value.oneCell']
  case qb3=>simp[maxLen];omega
  case qb4=>omega
  case qb5=>have:=co.size;simp;omega
  case qb6=>
   intro v2 w4 mY yZ _ _;obtain⟨jK,fD,FU⟩:=FIN.out w3 _ v2 w4 co j7 mY yZ;obtain⟨a2,cap2,rfl,_,_⟩:=aG mY;have c3:=jK.cell 3;have f3:=jK.frozen 3;simp at c3;have h5:=FU;go_wp2_with fail;go_end0;exact⟨rfl,fD,h5⟩
end
