import Derived.Test.YtjbdgbdcnjopkaaGreatDoorS28
namespace Go.Proofs.YtjbdgbdcnjopkaaGreatDoor
open Go.RowKit Tryz
set_option linter.all false
set_option maxRecDepth 100000
set_option maxHeartbeats 4000000
structure Nc(m:bf)(ai:List Nat)(f:ck)(p:Nat)(s:LSt)(st:aX)(r:LSt):Prop where
 ae:0<s.ae.length
 read:bJ f.code p=some st
 find:iS (f.ax+p) m ai s st=.ok ()
 doit:doS (f.ax+p) m ai (ci s st) st=.ok r
def FG(m:bf)(ai:List Nat)(f:ck)(T:Nat->LSt)(R:Nat->aX)(P:Nat->Nat)(n:Nat):Prop:=
 ∀i,i<n->Nc m ai f (P i) (T i) (R i) (T (i+1))/\P (i+1)=(R i).next
def Nd(T:Nat->LSt)(k i d:Nat)(F:PFr):Prop:=
 ∃G,(T k).ae[d]?=some G/\cH F G/\(T k).ae.take d=(T i).ae.take d/\(T k).af.take F.am=(T i).af.take F.am
def tp(T:Nat->LSt)(k i d:Nat)(F:PFr):Prop:=
 (∀G∈(T k).ae,G.target≠F.target)/\∃j,j<=k/\(T k).ah[F.target]?=some (j,(aZ F).length,F.am)/\(T j).af=(T i).af.take F.am++aZ F /\
  (T j).ae=(T i).ae.take d++(if F.au=3 then [{F with dead:=false}] else [])
def xu(T:Nat->LSt)(k i:Nat):Prop:=
 ∃N G d,(T (i+1)).ae.getLast?=some N/\(T (i+1)).ae.length=d+1/\(T k).ae[d]?=some G/\cH N G/\G.au=4/\G.ao=(i:Int)/\(T k).ae.take d=(T (i+1)).ae.take d/\(T k).af.take N.am=(T (i+1)).af.take N.am
def qy(T:Nat->LSt)(k i:Nat):Prop:=
 (∀G∈(T k).ae,G.au=4->G.ao≠(i:Int))/\∃N x t j,(T (i+1)).ae.getLast?=some N/\(T k).ay[i]?=some x/\x.ah=[t]/\(∀G∈(T k).ae,G.target≠t) /\
  (T k).ah[t]?=some (j,N.aj.length,N.am)/\j<=k/\(T j).af=(T (i+1)).af.take N.am++N.aj/\∃l,(T j).ae=(T (i+1)).ae.dropLast++l/\∀G∈l,G.dead=false
def hgt(s:LSt)(d:Nat):Nat:=match s.ae[d]? with
 |some F=>F.am
 |none=>s.af.length
def NZ(s:LSt):Prop:=∀d,d<=s.ae.length->(∀e G,e<d->s.ae[e]?=some G->G.dead=false)->cI (s.af.take (hgt s d))
structure ni(m:bf)(ai:List Nat)(ak:List Nat)(T:Nat->LSt)(R:Nat->aX)(k:Nat):Prop where
 b:iG (T k)
 len:(T k).ay.length=k
 tg:∀F∈(T k).ae,∃nx,(T k).ah[F.target]?=some (nx,(aZ F).length,F.am)
 loops:∀d F,(T k).ae[d]?=some F->F.au=3->∃j,j<=k/\(T k).ah[F.target]?=some (j,F.aj.length,F.am)/\(T j).ae=(T k).ae.take d++[{F with dead:=false}]/\(T j).af=(T k).af.take F.am++F.aj
 begs:∀F∈(T k).ae,F.au=4->∃i:Nat,F.ao=(i:Int)/\i<k/\(R i).aa.au=4
 ay:∀i,i<k->∃x,(T k).ay[i]?=some x/\x.aa=(R i).aa/\x.index=(dP (T i) (R i)).index/\x.num=(R i).num /\
  ((R i).aa.au≠4->(R i).aa.au≠5->x.ah=(dP (T i) (R i)).ah)/\((R i).aa.au=5->∃F,(T i).ae.getLast?=some F/\F.au=4/\x.ah=[F.target])
 rel:∀i,i<=k->∀d F,(T i).ae[d]?=some F->Nd T k i d F\/tp T k i d F
 ifs:∀i,i<k->(R i).aa.au=4->xu T k i\/qy T k i
 nz:NZ (T k)
 pos:Pos m ai (T k)
 bottom:∀F,(T k).ae[0]?=some F->aZ F=ak/\F.ak=ak/\F.am=0
section
variable {m:bf}{ai ak:List Nat}{T:Nat->LSt}{R:Nat->aX}{k:Nat}{F:PFr}{s r:LSt}{st:aX}
theorem Lq{F G:PFr}(h:cH F G)(hn:F.au=3):({F with dead:=false}:PFr)={G with dead:=false}:=by have h3:=h.loop.2 hn;cases F;cases G;obtain⟨a1,a2,a3,a4,a5,a6,a7⟩:=h;simp at *;simp[*]
theorem jO{l:List PFr}{G:PFr}(h:G∈l):∃d:Nat,l[d]?=some G:=by obtain⟨d,hd,rfl⟩:=List.getElem_of_mem h;exact⟨d,gEg hd⟩
theorem nh.from(M:nh m F s r st){G':PFr}(h:G'∈r.ae):(∃G∈s.ae,cH G G'/\(G'=G\/G'.au=5\/G'={G with dead:=true}))\/(G'.target=s.ah.length/\G'.ao=(s.ay.length:Int)/\G'.au=st.aa.au/\st.aa.au≠5/\st.aa.au≠6):=by
 obtain⟨d,hd⟩:=jO h;rcases M.new d G' hd with⟨G,h1,h2,h3,h4⟩|⟨h1,h2,h3,h4,h5,h6,h7,h8,_⟩
 ·refine .inl ⟨G,gMo h1,h3,?_⟩;rcases h4 with h4|⟨_,h4,_⟩|⟨h4,_⟩
  ·exact .inl h4
  ·exact .inr (.inl h4)
  exact .inr (.inr h4)
 exact .inr ⟨h7,h6,h4,by omega,by omega⟩
theorem iG.next(B:iG s)(hf:s.ae.getLast?=some F)(M:nh m F s r st):iG r:=by
 have he:=eL hf;have qe:=ajm hf;have aQ:=M.len;have XH:∀F':PFr,cH F F'->∀{α:Type} (g:PFr->α),g F'=g F->(s.ae.dropLast++[F']).map g=s.ae.map g:=fun F' _ α g hg=>by
  conv=>rhs;rw[he]
  simp[hg]
 have below:∀G∈r.ae,G.am<=r.af.length:=fun G' B1=>by
  obtain⟨d,hd⟩:=jO B1;rcases M.new d G' hd with⟨G,h1,⟨G2,_,_,_,h5⟩,h3,_⟩|⟨h1,h2,h3,h4,h5,h6,h7,h8,h9,mG,mF,_⟩
  ·have hb:=B.below G (gMo h1);have:=congrArg List.length h5;simp only[ajq]at this;rw[h3.am];omega
  rw[h9];simp[ajq];omega
 have tl:∀G∈r.ae,G.target<r.ah.length:=fun G' B1=>by
  obtain⟨d,hd⟩:=jO B1;rcases M.new d G' hd with⟨G,h1,_,h3,_⟩|⟨h1,h2,h3,h4,h5,h6,h7,h8,_⟩
  ·have ht:=B.targlt G (gMo h1);rw[h3.target];rcases M.targ _ _ (gEg ht) with h|⟨_,_,_,h⟩
   ·exact(gEs.1 h).1
   exact(gEs.1 h).1
  exact(gEs.1 h8).1
 have bl:∀G∈r.ae,G.ao<r.ay.length:=fun G' B1=>by
  rcases M.from B1 with⟨G,h1,h2,_⟩|⟨_,h2,_⟩
  ·have:=B.beglt G h1;rw[h2.ao];omega
  omega
 have bi:∀G∈r.ae,G.au=4->0<=G.ao:=fun G' B1 h4=>by
  rcases M.from B1 with⟨G,h1,h2,h3⟩|⟨_,h2,_⟩
  ·rcases h3 with rfl|h3|rfl
   ·exact B.begif _ h1 h4
   ·omega
   exact B.begif G h1 h4
  omega
 by_cases n5:st.aa.au=5
 ·obtain⟨_,hr,_⟩:=M.turned n5;refine⟨below,?_,?_,tl,?_,bl,bi⟩
  ·rw[hr];have:(s.ae.dropLast++[{F with au:=5,dead:=false}]).map PFr.am=s.ae.map PFr.am:=by(conv=>rhs;rw[he]);simp
   rw[this];exact B.mono
  ·rw[hr];have:(s.ae.dropLast++[{F with au:=5,dead:=false}]).map PFr.target=s.ae.map PFr.target:=by(conv=>rhs;rw[he]);simp
   rw[this];exact B.targ
  rw[hr];have:(s.ae.dropLast++[{F with au:=5,dead:=false}]).map PFr.ao=s.ae.map PFr.ao:=by(conv=>rhs;rw[he]);simp
  rw[this];exact B.beg
 by_cases n6:st.aa.au=6
 ·obtain⟨hr,_⟩:=M.ended n6;refine⟨below,?_,?_,tl,?_,bl,bi⟩
  ·rw[hr];exact B.mono.sublist ((List.dropLast_sublist _).map _)
  ·rw[hr];exact B.targ.sublist ((List.dropLast_sublist _).map _)
  rw[hr];exact B.beg.sublist ((List.dropLast_sublist _).map _)
 by_cases n0:st.aa.au=0\/st.aa.au=7\/st.aa.au=9\/st.aa.au=10
 ·obtain⟨hr,_⟩:=M.died n0;refine⟨below,?_,?_,tl,?_,bl,bi⟩
  ·rw[hr];have:(s.ae.dropLast++[{F with dead:=true}]).map PFr.am=s.ae.map PFr.am:=by(conv=>rhs;rw[he]);simp
   rw[this];exact B.mono
  ·rw[hr];have:(s.ae.dropLast++[{F with dead:=true}]).map PFr.target=s.ae.map PFr.target:=by(conv=>rhs;rw[he]);simp
   rw[this];exact B.targ
  rw[hr];have:(s.ae.dropLast++[{F with dead:=true}]).map PFr.ao=s.ae.map PFr.ao:=by(conv=>rhs;rw[he]);simp
  rw[this];exact B.beg
 by_cases n2:st.aa.au=2\/st.aa.au=3\/st.aa.au=4
 ·obtain⟨N,hr,_,_,qX,hh1,hh2,_⟩:=M.opened n2;have hNt:N.target=s.ah.length:=by
   have hd:r.ae[s.ae.length]?=some N:=by rw[hr];simp
   rcases M.new _ _ hd with⟨G,h1,_⟩|⟨_,_,_,_,_,_,h7,_⟩
   ·rw[ajp (nLr _)]at h1;cases h1
   exact h7
  refine⟨below,?_,?_,tl,?_,bl,bi⟩
  ·rw[hr,List.map_append,List.pairwise_append];refine⟨B.mono,by simp,fun a ha c hc=>?_⟩;obtain⟨G,hG,rfl⟩:=List.mem_map.1 ha;simp at hc;have:=B.high hf hG;omega
  ·rw[hr,List.map_append,List.pairwise_append];refine⟨B.targ,by simp,fun a ha c hc=>?_⟩;obtain⟨G,hG,rfl⟩:=List.mem_map.1 ha;simp at hc;have:=B.targlt G hG;omega
  rw[hr,List.map_append,List.pairwise_append];refine⟨B.beg,by simp,fun a ha c hc=>?_⟩;obtain⟨G,hG,rfl⟩:=List.mem_map.1 ha;simp at hc;have:=B.beglt G hG;omega
 have hr:=M.plain n0 (by omega);exact⟨below,by rw[hr];exact B.mono,by rw[hr];exact B.targ,tl,by rw[hr];exact B.beg,bl,bi⟩
theorem Pos.next(p:Pos m ai s)(M:nh m F s r st):Pos m ai r:=by
 refine⟨p.sigs,p.ai,fun G' B1=>?_⟩;obtain⟨d,hd⟩:=jO B1;rcases M.new d G' hd with⟨G,h1,_,h3,_⟩|⟨_,_,_,_,_,_,_,_,_,_,_,dp⟩
 ·have:=p.ae G (gMo h1);rw[h3.aj,h3.ak];exact this
 exact p.sigs _ (gMo dp)
theorem pK{l:List Nat}{a b:Nat}{x:List Nat}(h:a<=b)(hb:b<=l.length):(l.take b++x).take a=l.take a:=by rw[aju (by rw[ajq];omega),List.take_take,Nat.min_eq_left h]
theorem NZ.next(z:NZ s)(B:iG s)(p:Pos m ai s)(hf:s.ae.getLast?=some F)(M:nh m F s r st)(ty:(∀G∈s.ae,G.dead=false)->¬(st.aa.au=0\/st.aa.au=7\/st.aa.au=9\/st.aa.au=10)->¬(2<=st.aa.au/\st.aa.au<=6)->cI r.af):NZ r:=by
 have he:=eL hf;have qe:=ajm hf;have j5:0<s.ae.length:=by rw[he];simp
 have pu:s.ae[s.ae.length-1]?=some F:=by rw[ajk]at hf;exact hf
 have FH:∀(d:Nat) (G:PFr),s.ae[d]?=some G->(∀(e:Nat) (H:PFr),e<d->s.ae[e]?=some H->H.dead=false)->cI (s.af.take G.am):=fun d G hd ha=>by have:=z d (by have:=(gEs.1 hd).1;omega) ha;unfold hgt at this;rw[hd]at this;exact this
 have XI:∀G∈s.ae,r.af.take G.am=s.af.take G.am\/st.aa.au=6:=fun G hG=>by
  obtain⟨d,hd⟩:=jO hG;rcases M.old d G hd with⟨_,_,_,_,h⟩|⟨h,_⟩
  ·exact .inl h
  exact .inr h
 have common:∀(d:Nat) (G':PFr),r.ae[d]?=some G'->d<s.ae.length->(∀(e:Nat) (G:PFr),e<d->r.ae[e]?=some G->G.dead=false)->cI (r.af.take G'.am):=fun d G' hd rO ha=>by
  rcases M.new d G' hd with⟨G,h1,⟨G2,q1,q2,q3,q4⟩,h3,_⟩|⟨h1,_⟩
  ·rw[h3.am,q4];refine FH d G h1 fun e H Ls hH=>?_;have hr:r.ae[e]?=some H:=by have:=congrArg (fun l=>l[e]?) q3;simp only[List.getElem?_take]at this;rw[ajd Ls,ajd Ls]at this;rw[this];exact hH
   exact ha e H Ls hr
  omega
 intro d hd ha;unfold hgt;cases nM:r.ae[d]? with
 |some G'=>
  simp only;by_cases rO:d<s.ae.length
  ·exact common d G' nM rO ha
  rcases M.new d G' nM with⟨G,h1,_⟩|⟨h1,h2,h3,h4,h5,h6,h7,h8,h9,mG,mF,_⟩
  ·exact absurd (gEs.1 h1).1 rO
  rw[h9,pK (nLr _) mF];have:=z s.ae.length (nLr _) (fun e H Ls hH=>ha e H (by omega) (by rw[h2,gAl Ls];exact hH));unfold hgt at this;rw[ajp (nLr _)]at this;simp only[List.take_length]at this;exact fun x hx=>this x (List.mem_of_mem_take hx)
 |none=>
  simp only[List.take_length];have pL:d=r.ae.length:=by have:=List.getElem?_eq_none_iff.1 nM;omega
  subst pL;have cL:∀G∈r.ae,G.dead=false:=fun G hG=>by obtain⟨e,he⟩:=jO hG;exact ha e G (gEs.1 he).1 he
  have FJ:(∀G∈s.ae.dropLast,G.dead=false)->cI (s.af.take F.am):=fun h=>by
   refine FH _ F pu fun e H Ls hH=>h H ?_;have:s.ae.dropLast[e]?=some H:=by rw[List.getElem?_dropLast,ajd Ls];exact hH
   exact gMo this
  by_cases n5:st.aa.au=5
  ·obtain⟨_,hr,hs⟩:=M.turned n5;rw[hs];exact(FJ fun G hG=>cL G (by rw[hr];simp[hG])).append (p.ae F qe).1
  by_cases n6:st.aa.au=6
  ·obtain⟨hr,hs,_⟩:=M.ended n6;rw[hs];exact(FJ fun G hG=>cL G (by rw[hr];exact hG)).append (p.ae F qe).2
  by_cases n0:st.aa.au=0\/st.aa.au=7\/st.aa.au=9\/st.aa.au=10
  ·obtain⟨hr,_⟩:=M.died n0;have:=cL {F with dead:=true} (by rw[hr];simp);cases this
  by_cases n2:st.aa.au=2\/st.aa.au=3\/st.aa.au=4
  ·obtain⟨N,hr,_,_,_,hh1,hh2,hs,dp⟩:=M.opened n2;have hz:=z s.ae.length (nLr _) (fun e H Ls hH=>cL H (by rw[hr];simp[gMo hH]));unfold hgt at hz;rw[ajp (nLr _)]at hz;simp only[List.take_length]at hz;rw[hs];exact cI.append (fun x hx=>hz x (List.mem_of_mem_take hx)) (p.sigs _ (gMo dp)).1
  have hr:=M.plain n0 (by omega);exact ty (fun G hG=>cL G (by rw[hr];exact hG)) n0 (by omega)
end
section
variable {m:bf}{ai ak:List Nat}{T:Nat->LSt}{R:Nat->aX}{k:Nat}{F:PFr}
theorem tp.next{i d:Nat}{G:PFr}(h:tp T k i d G)(hf:(T k).ae.getLast?=some F)(M:nh m F (T k) (T (k+1)) (R k)):tp T (k+1) i d G:=by
 obtain⟨h1,j,h2,h3,h4,h5⟩:=h;have bM:=(gEs.1 h3).1;refine⟨fun H hH=>?_,j,by omega,?_,h4,h5⟩
 ·rcases M.from hH with⟨H',q1,q2,_⟩|⟨q1,_⟩
  ·rw[q2.target];exact h1 H' q1
  omega
 rcases M.targ _ _ h3 with q|⟨_,_,q,_⟩
 ·exact q
 exact absurd q.symm (h1 F (ajm hf))
theorem qy.next{i:Nat}(h:qy T k i)(hi:i<k)(aQ:(T k).ay.length=k)(hf:(T k).ae.getLast?=some F)(M:nh m F (T k) (T (k+1)) (R k)):qy T (k+1) i:=by
 obtain⟨h0,N,x,t,j,h1,h2,h3,h4,h5,h6,h7,h8⟩:=h;have bM:=(gEs.1 h5).1;refine⟨fun G hG uE=>?_,N,x,t,j,h1,?_,h3,fun H hH=>?_,?_,by omega,h7,h8⟩
 ·rcases M.from hG with⟨G',q1,q2,q3⟩|⟨_,q2,_⟩
  ·rw[q2.ao];rcases q3 with rfl|q3|rfl
   ·exact h0 _ q1 uE
   ·omega
   exact h0 G' q1 uE
  rw[q2];omega
 ·rcases M.step _ _ h2 with q|⟨q1,_,q3,_⟩
  ·exact q
  exact absurd q3 (h0 F (ajm hf) q1)
 ·rcases M.from hH with⟨H',q1,q2,_⟩|⟨q1,_⟩
  ·rw[q2.target];exact h4 H' q1
  omega
 rcases M.targ _ _ h5 with q|⟨_,_,q,_⟩
 ·exact q
 exact absurd q.symm (h4 F (ajm hf))
theorem pM{l:List PFr}{d:Nat}(h:l.length=d+1):l.dropLast=l.take d:=by rw[List.dropLast_eq_take];congr 1;omega
theorem xu.next{i:Nat}(h:xu T k i)(hi:i<k)(I:ni m ai ak T R k)(hf:(T k).ae.getLast?=some F)(M:nh m F (T k) (T (k+1)) (R k)):xu T (k+1) i\/qy T (k+1) i:=by
 obtain⟨N,G,d,h1,h2,h3,h4,h5,h6,h7,h8⟩:=h;have aQ:=I.len;have qe:=ajm hf;have hmG:=gMo h3;have done:G=F->d+1=(T k).ae.length->((R k).aa.au=5\/(R k).aa.au=6)->qy T (k+1) i:=fun Uq hd rS=>by
  subst Uq;obtain⟨t,x,l1,l2,l3,l4⟩:=M.lead h5 rS i h6 (by omega);have rO:(T k).ae.dropLast=(T (i+1)).ae.dropLast:=by rw[pM hd.symm,pM h2];exact h7
  refine⟨fun H hH uE=>?_,N,x,t,k+1,h1,l1,l2,fun H hH=>?_,?_,nLr _,?_,?_⟩
  ·rcases rS with rS|rS
   ·obtain⟨_,hr,_⟩:=M.turned rS;rw[hr]at hH;rcases List.mem_append.1 hH with hH|hH
    ·have:=(I.b.targ_last hf hH).2;omega
    simp at hH;subst hH;simp at uE
   obtain⟨hr,_⟩:=M.ended rS;rw[hr]at hH;have:=(I.b.targ_last hf hH).2;omega
  ·rcases M.from hH with⟨H',q1,q2,_⟩|⟨q1,q2,q3,q4,q5⟩
   ·rw[q2.target];have:=I.b.targlt H' q1;omega
   omega
  ·rw[l4,h4.aj,h4.am,aQ]
  ·rcases rS with rS|rS
   ·obtain⟨_,_,hs⟩:=M.turned rS;rw[hs,h4.aj,h4.am,h8]
   obtain⟨_,hs,P5,_⟩:=M.ended rS;rw[hs,<-P5 h5,h4.aj,h4.am,h8]
  rcases rS with rS|rS
  ·obtain⟨_,hr,_⟩:=M.turned rS;exact⟨_,by rw[hr,rO],by simp⟩
  obtain⟨hr,_⟩:=M.ended rS;exact⟨[],by rw[hr,rO];simp,by simp⟩
 rcases M.old d G h3 with⟨G',q1,q2,q3,q4⟩|⟨q1,q2,q3,q4,q5⟩
 ·rcases M.new d G' q1 with⟨G2,w1,w2,w3,w4⟩|⟨w1,_⟩
  ·have cO:G2=G:=by rw[h3]at w1;exact(Option.some.inj w1).symm
   subst cO;rcases w4 with rfl|⟨w4,_,_,w5,w6⟩|⟨rfl,_⟩
   ·exact .inl ⟨N,G',d,h1,h2,q1,h4,h5,h6,q3.trans h7,by rw[<-h4.am,q4,h4.am];exact h8⟩
   ·exact .inr (done w6 w5 (.inl w4))
   exact .inl ⟨N,_,d,h1,h2,q1,h4.trans q2,h5,h6,q3.trans h7,by rw[<-h4.am,q4,h4.am];exact h8⟩
  have:=(gEs.1 h3).1;omega
 exact .inr (done q3 q2 (.inr q1))
theorem ni.next(I:ni m ai ak T R k)(lN:0<(T k).ae.length)(Fs:0<(R k).aa.aj->(R k).aa.of≠0){ar:Nat}(yR:doS ar m ai (ci (T k) (R k)) (R k)=.ok (T (k+1))):ni m ai ak T R (k+1):=by
 obtain⟨F,hf⟩:=il lN;have M:=jT I.b hf yR;have qe:=ajm hf;have aQ:=I.len;have hb:=I.b.next hf M;have he:=eL hf;refine⟨hb,by rw[M.len,aQ],fun G' B1=>?_,fun d G' hd h3=>?_,fun G' B1 h4=>?_,fun i hi=>?_,fun i hi d G hd=>?_,fun i hi h4=>?_,?_,I.pos.next M,fun G' hd=>?_⟩
 ·
  obtain⟨d,hd⟩:=jO B1;rcases M.new d G' hd with⟨G,h1,_,h3,_⟩|⟨h1,h2,h3,h4,h5,h6,h7,h8,_⟩
  ·obtain⟨nx,ph⟩:=I.tg G (gMo h1);rw[h3.target,h3.wants,h3.am];rcases M.targ _ _ ph with q|⟨_,_,_,q⟩
   ·exact⟨_,q⟩
   exact⟨_,q⟩
  exact⟨_,h8⟩
 ·
  rcases M.new d G' hd with⟨G,h1,⟨G2,q1,q2,q3,q4⟩,hs,hw⟩|⟨h1,h2,h4,h5,h6,h7,h8,h9,mG,mF,C9,_⟩
  ·have kF:G.au=3:=hs.loop.1 h3;obtain⟨j,j1,j2,j3,j4⟩:=I.loops d G h1 kF;refine⟨j,by omega,?_,?_,?_⟩
   ·rw[hs.target,hs.aj,hs.am];rcases M.targ _ _ j2 with q|⟨n6,f3,q,_⟩
    ·exact q
    exfalso;by_cases hl:d+1=(T k).ae.length
    ·have:G=F:=by
      have h':d=(T k).ae.length-1:=by omega
      rw[ajk,<-h',h1]at hf;exact Option.some.inj hf
     subst this;exact f3 kF
    have:G∈(T k).ae.dropLast:=by have rO:=(gEs.1 h1).1;exact gMo (i:=d) (by rw[List.getElem?_dropLast,ajd (by omega)];exact h1)
    have:=(I.b.targ_last hf this).1;omega
   ·rw[j3,q3,Lq hs kF]
   rw[j4,hs.am,hs.aj,q4]
  refine⟨k+1,nLr _,?_,?_,?_⟩
  ·rw[h9,aQ];simp[aZ,h3]
  ·rw[h2,h1];simp only[List.take_left']
   congr 1
   cases G';simp at h6;subst h6;rfl
  rw[mG,pK (nLr _) C9]
 ·
  obtain⟨d,hd⟩:=jO B1;rcases M.new d G' hd with⟨G,h1,_,h3,hw⟩|⟨h1,h2,h3,h5,h6,h7,_⟩
  ·have hm:=gMo h1;rcases hw with rfl|⟨_,hw,_⟩|⟨rfl,_⟩
   ·obtain⟨i,a,b,c⟩:=I.begs _ hm h4;exact⟨i,a,by omega,c⟩
   ·omega
   obtain⟨i,a,b,c⟩:=I.begs _ hm h4;exact⟨i,a,by omega,c⟩
  exact⟨k,by rw[h7,aQ],by omega,by omega⟩
 ·
  by_cases Et:i=k
  ·subst Et;obtain⟨y,y1,y2,y3,y4,y5,y6⟩:=M.last;rw[aQ]at y1;exact⟨y,y1,y2,y3,y4,fun _ h5=>y5 h5,fun h5=>⟨F,hf,(M.turned h5).1,y6 h5⟩⟩
  obtain⟨x,x1,x2,x3,x4,x5,x6⟩:=I.ay i (by omega);rcases M.step _ _ x1 with q|⟨f4,_,fb,t,q,_⟩
  ·exact⟨x,q,x2,x3,x4,x5,x6⟩
  obtain⟨i',a,b,c⟩:=I.begs F qe f4;have:i'=i:=by omega
  subst this;exact⟨_,q,x2,x3,x4,fun h=>absurd c h,fun h=>by omega⟩
 ·
  by_cases Et:i=k+1
  ·subst Et;exact .inl ⟨G,hd,cH.refl _,rfl,rfl⟩
  rcases I.rel i (by omega) d G hd with⟨H,h1,h2,h3,h4⟩|h
  ·rcases M.old d H h1 with⟨H',q1,q2,q3,q4⟩|⟨q1,q2,rfl,q4,q5⟩
   ·exact .inl ⟨H',q1,h2.trans q2,q3.trans h3,by rw[<-h2.am,q4,h2.am];exact h4⟩
   refine .inr ?_;obtain⟨e1,e2,e3,e4,e5⟩:=M.ended q1;refine⟨fun X hX=>?_,?_⟩
   ·rw[e1]at hX;have:=(I.b.targ_last hf hX).1;rw[h2.target]at this;omega
   by_cases Lt:G.au=3
   ·have Ss:=h2.loop.2 Lt;obtain⟨j,j1,j2,j3,j4⟩:=I.loops d H h1 Ss;refine⟨j,by omega,?_,?_,?_⟩
    ·rw[e4 Ss,<-h2.target,j2,h2.aj,h2.am];simp[aZ,Lt]
    ·rw[j4,h2.am,h4,h2.aj];simp[aZ,Lt]
    rw[j3,h3,ajd Lt,Lq h2 Lt]
   have Ss:H.au≠3:=fun h=>Lt (h2.loop.1 h);obtain⟨nx,ph⟩:=I.tg H qe;refine⟨k+1,nLr _,?_,?_,?_⟩
   ·have:=e5 Ss;rw[ph]at this;rw[<-h2.target,this,h2.wants,h2.am,aQ];simp
   ·rw[q5,h2.am,h4,h2.ak];simp[aZ,Lt]
   rw[q4,h3,ajc Lt];simp
  exact .inr (h.next hf M)
 ·
  by_cases Et:i=k
  ·subst Et;obtain⟨N,n1,n2,n3,n4,n5,n6,n7,_⟩:=M.opened (by omega);refine .inl ⟨N,N,(T i).ae.length,by rw[n1];simp,by rw[n1];simp,by rw[n1];simp,cH.refl _,by omega,by rw[n4,aQ],rfl,rfl⟩
  rcases I.ifs i (by omega) h4 with h|h
  ·exact h.next (by omega) I hf M
  exact .inr (h.next (by omega) aQ hf M)
 ·
  refine I.nz.next I.b I.pos hf M fun cL h1 h2=>?_;have hz:=I.nz (T k).ae.length (nLr _) (fun e G _ hG=>cL G (gMo hG));unfold hgt at hz;rw[ajp (nLr _)]at hz;simp only[List.take_length]at hz;have ty:=we I.pos Fs hf (I.b.below F qe) (cL F qe) hz yR;exact ty.nz (cL F qe) (by omega)
 
 rcases M.new 0 G' hd with⟨G,h1,_,h3,_⟩|⟨h1,_⟩
 ·have:=I.bottom G h1;rw[h3.wants,h3.ak,h3.am];exact this
 omega
theorem ni.ax{sig:Sig}(hT:T 0=dg {af:=[],ae:=[],ay:=[],ah:=[]} 2 sig)(hp:∀g∈m.sigs,cI g.1/\cI g.2)(hl:cI ai)(hs:cI sig.1/\cI sig.2):ni m ai sig.2 T R 0:=by
 have e:T 0={af:=[],ae:=[{au:=2,aj:=sig.1,ak:=sig.2,am:=0,dead:=false,ao:=-1,target:=0}],ay:=[],ah:=[(0,sig.2.length,0)]}:=by rw[hT];simp[dg]
 refine⟨?_,by rw[e];rfl,?_,?_,?_,fun i hi=>by omega,?_,fun i hi=>by omega,?_,?_,?_⟩
 ·rw[e];exact⟨by simp,by simp,by simp,by simp,by simp,by simp,by simp⟩
 ·rw[e];simp[aZ]
 ·rw[e];intro d F hd h3;have:=gMo hd;simp at this;subst this;simp at h3
 ·rw[e];intro F hF h4;simp at hF;subst hF;simp at h4
 ·intro i hi d F hd;have:i=0:=by omega
  subst this;exact .inl ⟨F,hd,cH.refl _,rfl,rfl⟩
 ·intro d hd _ x hx;rw[e]at hx;simp at hx
 ·refine⟨hp,hl,fun G hG=>?_⟩;rw[e]at hG;simp at hG;subst hG;exact hs
 rw[e];intro F hF;simp at hF;subst hF;simp[aZ]
theorem ni.all{f:ck}{P:Nat->Nat}{n:Nat}(tr:FG m ai f T R P n)(Fs:∀i,i<n->0<(R i).aa.aj->(R i).aa.of≠0)(h0:ni m ai ak T R 0):∀k,k<=n->ni m ai ak T R k
 |0,_=>h0
 |k+1,hk=>(ni.all tr Fs h0 k (by omega)).next (tr k hk).1.ae (Fs k hk) (tr k hk).1.doit
end
theorem tt:∀x∈dS,0<x.2.aj->x.2.of≠0:=by decide
theorem rn{b:Nat}{k:K5}:∀{l:List (Nat×K5)},l.lookup b=some k->∃a,(a,k)∈l
 | [],h=>by simp at h
 | (a,x)::l,h=>by
  rw[List.lookup_cons]at h;split at h
  ·cases h;exact⟨a,by simp⟩
  obtain⟨c,hc⟩:=rn h;exact⟨c,List.mem_cons_of_mem _ hc⟩
theorem ke{c:List UInt8}{p:Nat}{st:aX}(h:bJ c p=some st):∃b:Nat,(b,st.aa)∈dS:=by
 unfold bJ at h;split at h
 ·split at h
  ·cases h
  rename_i k hk;obtain⟨x,hx,rfl⟩:=Option.map_eq_some_iff.1 h;exact rn hk
 cases h
theorem xv{c:List UInt8}{p what:Nat}{x:List Nat×Int×Nat}(h:bq c p what=some x):p<=x.2.2:=by
 unfold bq at h;split at h
 ·obtain⟨y,_,rfl⟩:=Option.map_eq_some_iff.1 h;simp
 split at h
 ·split at h
  ·split at h
   ·cases h
   obtain⟨y,_,rfl⟩:=Option.map_eq_some_iff.1 h;simp;omega
  cases h
 split at h
 ·obtain⟨y,_,rfl⟩:=Option.map_eq_some_iff.1 h;simp
 split at h
 ·obtain⟨y,_,rfl⟩:=Option.map_eq_some_iff.1 h;simp
 cases h;simp
theorem iH{c l:List UInt8}{p k:Nat}(h:cn c p k=some l):p+k<=c.length:=by
 unfold cn at h;split at h
 ·cases h
 omega
theorem xw{c:List UInt8}{p what:Nat}{x:List Nat×Int×Nat}(h:bq c p what=some x)(hp:p<=c.length):x.2.2<=c.length:=by
 unfold bq at h;split at h
 ·obtain⟨y,hy,rfl⟩:=Option.map_eq_some_iff.1 h;exact iH hy
 split at h
 ·split at h
  ·split at h
   ·cases h
   obtain⟨y,hy,rfl⟩:=Option.map_eq_some_iff.1 h;exact iH hy
  cases h
 split at h
 ·obtain⟨y,hy,rfl⟩:=Option.map_eq_some_iff.1 h;exact iH hy
 split at h
 ·obtain⟨y,hy,rfl⟩:=Option.map_eq_some_iff.1 h;exact iH hy
 cases h;exact hp
theorem im{c:List UInt8}{p:Nat}{st:aX}(h:bJ c p=some st):st.next<=c.length:=by
 unfold bJ at h;split at h
 ·rename_i hq;have:=iH hq;split at h
  ·cases h
  obtain⟨x,hx,rfl⟩:=Option.map_eq_some_iff.1 h;exact xw hx (by omega)
 cases h
theorem fB{c:List UInt8}{p:Nat}{st:aX}(h:bJ c p=some st):p<st.next:=by
 unfold bJ at h;split at h
 ·split at h
  ·cases h
  obtain⟨x,hx,rfl⟩:=Option.map_eq_some_iff.1 h;have:=xv hx;simp only;omega
 cases h
theorem tu{m:bf}{ai:List Nat}{f:ck}:∀(gas p:Nat) (s r:LSt),p<=f.code.length->f.code.length<p+gas->cS m ai f gas s p=.ok r -> ∃(n:Nat) (T:Nat->LSt) (R:Nat->aX) (P:Nat->Nat),T 0=s/\P 0=p/\T n=r/\r.ae=[]/\f.code.length<=P n/\FG m ai f T R P n
 |0,p,s,r,hq,hg,h=>by omega
 |gas+1,p,s,r,hq,hg,h=>by
  unfold cS at h;split at h
  ·rename_i hp;obtain⟨x,hx,h⟩:=cd h;unfold dr at hx;split at hx
   ·cases hx
   rename_i lN;split at hx
   ·cases hx
   rename_i st cT;obtain⟨_,tx,hx⟩:=cd hx;obtain⟨s1,yR,hx⟩:=cd hx;cases hx;have ph:=fB cT;obtain⟨n,T,R,P,t0,p0,tn,hr,Is,tr⟩:=tu gas st.next s1 r (im cT) (by omega) h;refine⟨n+1,fun i=>if i=0 then s else T (i-1),fun i=>if i=0 then st else R (i-1),fun i=>if i=0 then p else P (i-1),rfl,rfl,by simpa using tn,hr,by simpa using Is,fun i hi=>?_⟩;by_cases h0:i=0
   ·subst h0;simp only[ajd,ajx,Nat.sub_self];refine⟨⟨by omega,cT,tx,?_⟩,by simpa using p0⟩;simp only[Nat.one_ne_zero,if_false,t0];exact yR
   have:=tr (i-1) (by omega);have e:i-1+1=i:=by omega
   rw[e]at this;simp only[ajc h0,show i+1≠0 by omega,if_false,Nat.add_sub_cancel];exact this
  rename_i hp;split at h
  ·cases h
  rename_i lN;cases h;exact⟨0,fun _=>s,fun _=>⟨⟨0,0,0,0,0⟩,[],0,0⟩,fun _=>p,rfl,rfl,rfl,List.length_eq_zero_iff.1 (by omega),by show f.code.length<=p;omega,fun i hi=>by omega⟩
def gd(s:LSt):Prop:=∀G∈s.ae,G.dead=false
structure bL(m:bf)(ai ak:List Nat)(f:ck)(T:Nat->LSt)(R:Nat->aX)(P:Nat->Nat)(n:Nat):Prop where
 trace:FG m ai f T R P n
 inv:∀k,k<=n->ni m ai ak T R k
 last:(T n).ae=[]
 ax:∃F,(T 0).ae=[F]/\F.dead=false/\F.au=2/\(T 0).af=[]
section
variable {m:bf}{ai ak:List Nat}{f:ck}{T:Nat->LSt}{R:Nat->aX}{P:Nat->Nat}{n:Nat}
theorem bL.done(L:bL m ai ak f T R P n){i d:Nat}{F:PFr}(hi:i<=n)(hd:(T i).ae[d]?=some F):tp T n i d F:=by
 rcases (L.inv n (nLr _)).rel i hi d F hd with⟨G,h,_⟩|h
 ·rw[L.last]at h;simp at h
 exact h
theorem bL.jump(L:bL m ai ak f T R P n){i d:Nat}{F:PFr}(hi:i<=n)(ha:gd (T i))(hd:(T i).ae[d]?=some F):∃j,j<=n/\(T n).ah[F.target]?=some (j,(aZ F).length,F.am)/\(T j).af=(T i).af.take F.am++aZ F/\gd (T j):=by
 obtain⟨_,j,h1,h2,h3,h4⟩:=L.done hi hd;refine⟨j,h1,h2,h3,fun G hG=>?_⟩;rw[h4]at hG;rcases List.mem_append.1 hG with q|q
 ·exact ha G (List.mem_of_mem_take q)
 split at q
 ·simp at q;subst q;rfl
 simp at q
theorem bL.lastStack(L:bL m ai ak f T R P n):(T n).af=ak/\gd (T n):=by
 refine⟨?_,fun G hG=>by rw[L.last]at hG;simp at hG⟩;obtain⟨F,h1,h2,h2n,h3⟩:=L.ax;have hd:(T 0).ae[0]?=some F:=by rw[h1];rfl
 obtain⟨b1,b2,b3⟩:=(L.inv 0 (ajl _)).bottom F hd;obtain⟨_,j,j1,j2,j3,j4⟩:=L.done (ajl _) hd;have JL:F.au≠3:=by omega
 rw[ajc JL]at j4;have hjn:j=n:=by
  rcases Nat.lt_or_ge j n with h|h
  ·have:=(L.trace j h).1.ae;rw[j4]at this;simp at this
  omega
 rw[hjn,b3,b1]at j3;simpa using j3
theorem bL.iff(L:bL m ai ak f T R P n){i:Nat}(hi:i<n)(ha:gd (T i))(h4:(R i).aa.au=4){az:List Nat}{sig:Sig}(dp:m.sigs[(R i).idx.headD 0]?=some sig)(cT:(T i).af=az++sig.1++[1])(hr:(T (i+1)).af=az++sig.1):∃x t j,(T n).ay[i]?=some x/\x.ah=[t]/\j<=n/\(T n).ah[t]?=some (j,sig.1.length,az.length)/\(T j).af=az++sig.1/\gd (T j):=by
 have S:=(L.trace i hi).1;obtain⟨F,hf⟩:=il S.ae;have I:=L.inv i (by omega);have M:=jT I.b hf S.doit;rcases (L.inv n (nLr _)).ifs i hi h4 with⟨_,_,_,_,_,h,_⟩|⟨_,N,x,t,j,h1,h2,h3,_,h5,h6,h7,l,h8,h9⟩
 ·rw[L.last]at h;simp at h
 obtain⟨N',n1,n2,n3,n4,n5,n6,n7,n8⟩:=M.opened (by omega);have hN:N'=N:=by rw[n1]at h1;simp at h1;exact h1
 subst hN;have iD:(N'.aj,N'.ak)=sig:=by rw[dp]at n8;exact(Option.some.inj n8).symm
 have BL:N'.aj=sig.1:=by rw[<-iD]
 have aQ:N'.am=az.length:=by have:=congrArg List.length (n7.symm.trans hr);simp only[ajb,ajq,BL]at this;omega
 refine⟨x,t,j,h2,h3,h6,by rw[h5,BL,aQ],?_,fun G hG=>?_⟩
 ·rw[h7,hr,aQ,BL];simp
 rw[h8,n1]at hG;rcases List.mem_append.1 hG with q|q
 ·simp at q;exact ha G q
 exact h9 G q
theorem bL.alive_next(L:bL m ai ak f T R P n){i:Nat}(hi:i<n)(ha:gd (T i))(hn:¬((R i).aa.au=0\/(R i).aa.au=7\/(R i).aa.au=9\/(R i).aa.au=10)):gd (T (i+1)):=by
 have S:=(L.trace i hi).1;obtain⟨F,hf⟩:=il S.ae;have he:=eL hf;have I:=L.inv i (by omega);have M:=jT I.b hf S.doit;have P6:∀G∈(T i).ae.dropLast,G.dead=false:=fun G hG=>ha G ((List.dropLast_sublist _).subset hG);intro G hG;by_cases n5:(R i).aa.au=5
 ·rw[(M.turned n5).2.1]at hG;rcases List.mem_append.1 hG with q|q
  ·exact P6 G q
  simp at q;subst q;rfl
 by_cases n6:(R i).aa.au=6
 ·rw[(M.ended n6).1]at hG;exact P6 G hG
 by_cases n2:(R i).aa.au=2\/(R i).aa.au=3\/(R i).aa.au=4
 ·obtain⟨N,n1,_,n3,_⟩:=M.opened n2;rw[n1]at hG;rcases List.mem_append.1 hG with q|q
  ·exact ha G q
  simp at q;subst q;exact n3
 rw[M.plain hn (by omega)]at hG;exact ha G hG
theorem bL.noZero(L:bL m ai ak f T R P n){i:Nat}(hi:i<=n)(ha:gd (T i)):cI (T i).af:=by have hz:=(L.inv i hi).nz (T i).ae.length (nLr _) (fun e G _ hG=>ha G (gMo hG));unfold hgt at hz;rw[ajp (nLr _)]at hz;simpa using hz
theorem bL.typed(L:bL m ai ak f T R P n){i:Nat}(hi:i<n)(ha:gd (T i)):∃F,(T i).ae.getLast?=some F/\nh m F (T i) (T (i+1)) (R i)/\Lo m ai F (T i) (T (i+1)) (R i)/\F.am<=(T i).af.length:=by have S:=(L.trace i hi).1;obtain⟨F,hf⟩:=il S.ae;have I:=L.inv i (by omega);have qe:=ajm hf;obtain⟨b,hb⟩:=ke S.read;exact⟨F,hf,jT I.b hf S.doit,we I.pos (tt _ hb) hf (I.b.below F qe) (ha F qe) (L.noZero (by omega) ha) S.doit,I.b.below F qe⟩
theorem bL.label(L:bL m ai ak f T R P n){i l:Nat}{F:PFr}(hi:i<n)(ha:gd (T i))(hl:bT (T i) l=some F):∃j,j<=n/\(T n).ah[F.target]?=some (j,(aZ F).length,F.am)/\(T j).af=(T i).af.take F.am++aZ F/\gd (T j):=by
 unfold bT at hl;split at hl
 ·exact L.jump (by omega) ha hl
 cases hl
theorem bL.high(L:bL m ai ak f T R P n){i l:Nat}{F G:PFr}(hi:i<n)(hf:(T i).ae.getLast?=some F)(hl:bT (T i) l=some G):G.am<=F.am:=by
 unfold bT at hl;split at hl
 ·exact(L.inv i (by omega)).b.high hf (gMo hl)
 cases hl
end
def FK(k:K5):Prop:=k.au<=32/\(k.au=1\/k.au=2\/k.au=3\/k.au=6->k.aj=0/\k.ak=0)/\(k.au=17->k.aj=0/\(k.ab=6/\k.ak=1\/k.ab=7/\k.ak=2))
def FL(k:K5):Prop:=18<=k.au->(k.aj=1/\30<=k.au/\(k.au=30->k.ak=1)/\(k.au=31->k.ak=1)/\(k.au=32->k.of=1/\k.ak=2))\/(k.aj=2/\k.au<=29/\(k.of=1/\k.ak=1\/k.of=2/\(k.au<28->k.ak=2)/\(28<=k.au->k.ak=1)))
def FM(k:K5):Prop:=(k.au=7\/k.au=8->k.ab=4)/\(k.au=9->k.ab=5)/\(k.au=0\/k.au=10->k.ab=0)/\(k.au=11->k.ab=2)/\(k.au=14\/k.au=15\/k.au=16->k.ab=3)
theorem JN:∀x∈dS,FK x.2:=by unfold FK;decide
theorem JO:∀x∈dS,FL x.2:=by unfold FL;decide
theorem JP:∀x∈dS,FM x.2:=by unfold FM;decide
theorem cC{c:List UInt8}{p:Nat}{st:aX}(h:bJ c p=some st):FK st.aa/\FL st.aa/\FM st.aa:=by obtain⟨b,hb⟩:=ke h;exact⟨JN _ hb,JO _ hb,JP _ hb⟩
theorem oX:∀(l:List UInt8) (a:Nat),l.foldl (fun n b=>256*n+b.toNat) a<256 ^ l.length*(a+1)
 | [],a=>by simp
 |b::l,a=>by have h:=oX l (256*a+b.toNat);have hb:=b.toNat_lt;simp only[List.foldl_cons,ajr];have:256 ^ l.length*(256*a+b.toNat+1)<=256 ^ l.length*(256*(a+1)):=Nat.mul_le_mul_left _ (by omega);rw[Nat.pow_succ,Nat.mul_assoc];omega
theorem wg{bits:Nat}(hb:0<bits){n:Nat}(h:n<2 ^ bits):-(2 ^ (bits-1):Int)<=signed bits n/\signed bits n<(2 ^ (bits-1):Int):=by
 have e:(2:Nat) ^ bits=2*2 ^ (bits-1):=by obtain⟨k,rfl⟩:∃k,bits=k+1:=⟨bits-1,by omega⟩;rw[Nat.pow_succ,ajC];rfl
 have e2:(2:Int) ^ bits=2*2 ^ (bits-1):=by have:=congrArg (fun n:Nat=>(n:Int)) e;simpa using this
 have e3:((2 ^ (bits-1):Nat):Int)=(2:Int) ^ (bits-1):=by simp
 unfold signed;generalize hq:(2:Nat) ^ (bits-1)=q at *;split
 ·omega
 rw[e2];omega
theorem Da{c:List UInt8}{p:Nat}{st:aX}(h:bJ c p=some st):(st.aa.ab=6 -> -2147483648<=st.num/\st.num<=2147483647)/\(st.aa.ab=7 -> -9223372036854775808<=st.num/\st.num<=9223372036854775807):=by
 unfold bJ at h;split at h
 ·split at h
  ·cases h
  rename_i k hk;obtain⟨x,hx,rfl⟩:=Option.map_eq_some_iff.1 h;simp only;refine⟨fun h6=>?_,fun h7=>?_⟩
  ·rw[h6]at hx;simp only[bq]at hx;simp at hx;obtain⟨l,hl,rfl⟩:=hx;have aQ:l.length=4:=by
    unfold cn at hl;split at hl
    ·cases hl
    cases hl;simp;omega
   have hb:=oX l 0;rw[aQ]at hb;have:=wg (bits:=32) (by decide) (n:=cy l) (by unfold cy;omega);simp only;omega
  rw[h7]at hx;simp only[bq]at hx;simp at hx;obtain⟨l,hl,rfl⟩:=hx;have aQ:l.length=8:=by
   unfold cn at hl;split at hl
   ·cases hl
   cases hl;simp;omega
  have hb:=oX l 0;rw[aQ]at hb;have:=wg (bits:=64) (by decide) (n:=cy l) (by unfold cy;omega);simp only;omega
 cases h
theorem nU{c:List UInt8}{p:Nat}{st:aX}(h:bJ c p=some st):(st.aa.ab=2\/st.aa.ab=3\/st.aa.ab=4\/st.aa.ab=5->∃i l,st.idx=i::l)/\(st.aa.ab=0->st.idx=[]):=by
 unfold bJ at h;split at h
 ·split at h
  ·cases h
  rename_i k hk;obtain⟨x,hx,rfl⟩:=Option.map_eq_some_iff.1 h;simp only;have ec:∀{l:List UInt8}{p k:Nat},cn c p (k+1)=some l->∃i r,l.map (·.toNat)=i::r:=fun {l p k} hl=>by
   unfold cn at hl;split at hl
   ·cases hl
   cases hl;cases hq:(c.drop p).take (k+1) with
   |nil=>
    have:=congrArg List.length hq;simp at this;omega
   |cons a b=>exact⟨_,_,rfl⟩
  refine⟨fun hb=>?_,fun h0=>?_⟩
  ·by_cases h5:k.ab=5
   ·rw[h5]at hx;simp only[bq]at hx;simp at hx;split at hx
    ·split at hx
     ·cases hx
     obtain⟨l,hl,rfl⟩:=Option.map_eq_some_iff.1 hx;exact ec hl
    cases hx
   have mn:k.ab=1\/k.ab=2\/k.ab=3\/k.ab=4:=by omega
   unfold bq at hx;rw[ajd mn]at hx;obtain⟨l,hl,rfl⟩:=Option.map_eq_some_iff.1 hx;exact ec hl
  rw[h0]at hx;simp[bq]at hx;rw[<-hx]
 cases h
