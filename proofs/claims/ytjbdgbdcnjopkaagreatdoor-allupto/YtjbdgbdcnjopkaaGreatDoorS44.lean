import Derived.Test.YtjbdgbdcnjopkaaGreatDoorS43
namespace Go.Proofs.YtjbdgbdcnjopkaaGreatDoor
open Go.RowKit Tryz
set_option linter.all false
set_option maxRecDepth 100000
set_option maxHeartbeats 4000000
def nJ(mm:bf)(fs:List bu)(aA:Nat)(N:Nat):Prop:=∀(az:Nat) (w:World) (c W f gl m:Nat) (ads:List Nat) (s:MSt) (lf:bu) (pf:ck) (ai:List Nat) (T:Nat->LSt) (R:Nat->aX) (P:Nat->Nat) (n k:Nat) (nodes:List Nat) (v:Value) (e J:Nat),
 bX az w c W f gl m ads mm fs aA s s.ay lf pf ai T R P n->aA-s.ay<=N->s.ay<=aA->fN w (fun g=>az<=g) v nodes->cB w mm T R n (fun g=>az<=g) k s.call.next nodes e->e<n->GU lf T R e J ->
 Calls prog 73 #[ptr c,v,.bool true] w fun r w'=>∃kk:Int,r=.returned (.int .i64 kk)/\cV w w' c W f gl m fs aA s lf ai T n s.call.next J kk
section
variable {az:Nat}{w w' wc:World}{c W f gl m a:Nat}{ads:List Nat}{mm:bf}{fs:List bu}{aA:Nat}{s s0:MSt}{ay:Nat}{lf:bu}{pf:ck}{ai:List Nat}{T:Nat->LSt}{R:Nat->aX}{P:Nat->Nat}{n:Nat}{num:Int}{vl vt vg vb ve:Value}{ew:Bool}
theorem bX.same(h:bX az w c W f gl m ads mm fs aA s ay lf pf ai T R P n)(k:∀g cs t,Blk w g cs t->Blk w' g cs t):bX az w' c W f gl m ads mm fs aA s ay lf pf ai T R P n:=⟨h.mod.keep fun g cs t _ _ _ hb=>k g cs t hb,h.fn,h.ad,h.call.keep fun g cs t _ hb=>k g cs t hb,k _ _ _ h.ma,h.st,h.deep⟩
structure mg(fs:List bu)(aA:Nat)(s s0:MSt):Prop where
 reach:dD fs aA s s0
 rest:s0.rest=s.rest
 fn:s0.call.fn=s.call.fn
 lt:s.ay<s0.ay
 le:s0.ay<=aA
theorem mg.ended(b:mg fs aA s s0)(h:eo w' c W m fs aA s0):eo w' c W m fs aA s:=by obtain⟨l,st,e,h1,h2,h3,h4⟩:=h;exact⟨l,st,e,h1,by rw[<-b.rest];exact h2,b.reach.ends h3,h4⟩
theorem mg.norm{J:Nat}(b:mg fs aA s s0)(h:iM w' c W f gl m fs aA s0 ai T J):iM w' c W f gl m fs aA s ai T J:=by obtain⟨s',h1,h2,h3,h4,h5,h6,h7,h8,h9⟩:=h;have:=b.lt;exact⟨s',b.reach.trans h1,h2.trans b.rest,h3.trans b.fn,h4,h5,by omega,h7,h8,by rw[<-b.rest];exact h9⟩
theorem mg.jump{i i0 k k0:Nat}(b:mg fs aA s s0)(hl:∀F',bT (T i0) k0=some F'->∃F,bT (T i) k=some F/\cH F F')(h:mw w' c W f gl m fs aA s0 lf ai T n i0 k0):mw w' c W f gl m fs aA s lf ai T n i k:=by obtain⟨F',tys,vs,ls,j,st,h1,Id,h2,h3,h4,h5,h6,h7⟩:=h;obtain⟨F,f1,f2⟩:=hl F' h1.lab;obtain⟨g1,g2⟩:=h1.same f1 f2;have:=b.lt;refine⟨F,tys,vs,ls,j,st,g1,Id,h2,?_,by omega,h5,h6,by rw[<-b.rest];exact h7⟩;rw[g2,<-b.rest,<-b.fn];exact b.reach.trans h3
theorem mg.home(b:mg fs aA s s0)(h:zA w' c W f gl m fs aA s0 lf ai):zA w' c W f gl m fs aA s lf ai:=by obtain⟨bt,x,y,ls,st,h1,h2,h3,Mz,h4,h5,h6,h7,h8⟩:=h;have:=b.lt;exact⟨bt,x,y,ls,st,h1,h2,h3,Mz,jy.after b.reach b.rest h4,by omega,h6,h7,by rw[<-b.rest];exact h8⟩
theorem mw.parts{i k:Nat}(h:mw w' c W f gl m fs aA s lf ai T n i k):∃F A B C ls j st,bT (T i) k=some F/\(∃x y,lf.ah[F.target]?=some (j,x,y))/\aI w' c W f gl (tv ai ls) (A++B++C)/\(A++B++C).length<=1000000/\A.length=F.am/\C.length=(aZ F).length/\bG ai ls/\s.ay<st/\st<=aA/\cE w' W m (aA-st) st false 0 s.rest.length /\ ∃vs,A++C=tv (T j).af vs/\bG (T j).af vs/\gd (T j)/\dD fs aA s {call:={fn:=s.call.fn,next:=j,ai:=ls,af:=vs},rest:=s.rest,ay:=st}:=by
 obtain⟨F,tys,vs,ls,j,st,h1,Id,h2,h3,h4,h5,h6,h7⟩:=h;obtain⟨b1,b2,x1,x2,x3,e1,e2,q1,q2,q3,q4,v1,v2,e3,e4⟩:=h1.parts;have hB:(tv b2 x2).length=b2.length:=by simp[tv,List.length_zip];omega
 have mE:tv tys vs=tv b1 x1++tv b2 x2++tv (aZ F) x3:=by rw[e1,e2,fK (by rw[ajb,ajb];omega),fK (by omega)]
 rw[mE]at h6;have l1:=fF v1;have l3:=fF v2;refine⟨F,tv b1 x1,tv b2 x2,tv (aZ F) x3,ls,j,st,h1.lab,⟨_,_,h1.tg⟩,h6,?_,by rw[l1,q1],l3,h2,h4,h5,h7,x1++x3,?_,?_,h1.alive,?_⟩
 ·rw[e1,ajb,ajb]at Id;rw[ajb,ajb,l1,hB,l3];omega
 ·rw[e3,fK (by omega)]
 ·rw[e3];exact v1.append v2
 rw[<-e4];exact h3
theorem zE(hp:Pu mm fs aA)(IH:∀N,N<aA-s.ay->nJ mm fs aA N)(h:bX az w c W f gl m ads mm fs aA s (s.ay+1) lf pf ai T R P n)(hi:s.call.next<n)(du:s.ay<aA)(hk:(R s.call.next).aa.au=2)(hn:bp w a 2 num vl vt vg vb ve ew){sig:Sig}{body:List Nat}{e1 k i':Nat}(dp:mm.sigs[(R s.call.next).idx.headD 0]?=some sig)(rt:aR w vt sig.1)(rg:aR w vg sig.2)(vO:fN w (fun g=>az<=g) vb body)(iA:cB w mm T R n (fun g=>az<=g) k (s.call.next+1) body e1)(he:e1<n){N:PFr}(hB:nI lf T R s.call.next (s.call.next+1) e1 i' N sig):Calls prog 122 #[ptr c,ptr a] w fun r w'=>∃kk:Int,r=.returned (.int .i64 kk)/\cV w w' c W f gl m fs aA s lf ai T n s.call.next i' kk:=by
 obtain⟨z1,z2,z3⟩:=nW h.fn.tr hi h.st (show s.ay≠aA by omega) (.inr (.inl hk));have bk:mg fs aA s {s with call:={s.call with next:=s.call.next+1},ay:=s.ay+1}:=⟨dD.step z1,rfl,rfl,Nat.lt_succ_self _,du⟩;have ku:bX az w c W f gl m ads mm fs aA {s with call:={s.call with next:=s.call.next+1},ay:=s.ay+1} (s.ay+1) lf pf ai T R P n:=⟨h.mod,h.fn,h.ad,by show aI w c W f gl (tv ai s.call.ai) (tv (T (s.call.next+1)).af s.call.af);rw[z2];exact h.call,h.ma,⟨h.st.loc,z3,by show bG (T (s.call.next+1)).af s.call.af;rw[z2];exact h.st.stk⟩,h.deep⟩;have k0:=Blk.cell hn 0;simp at k0;have k4:=Blk.cell hn 5;simp at k4;obtain⟨s0,oi⟩:∃s0:MSt,({s with call:={s.call with next:=s.call.next+1},ay:=s.ay+1}:MSt)=s0:=⟨_,rfl⟩;have oP:s0.ay=s.ay+1:=by rw[<-oi]
 have kC:s0.call.next=s.call.next+1:=by rw[<-oi]
 rw[oi]at bk ku;rw[<-oP]at ku;clear oi z1 z2 z3;have Cf:Fc c W gl w w:=Fc.refl;have nK:=ku.len hp (by rw[kC];omega);have xK:(tv (T s0.call.next).af s0.call.af).length=N.am+sig.1.length:=by rw[fF ku.st.stk,kC];exact hB.high
 have cL:=fun q=>IH (aA-s0.ay) (by omega) az (w.drewN q) c W f gl m ads s0 lf pf ai T R P n k body vb e1 i' (ku.same fun _ _ _ hb=>hb) (nLr _) bk.le ((show fN w (fun g=>az<=g) vb body from vO).keep fun _ _ ho hb=>⟨hb,ho⟩) (by rw[kC];exact cB.keep (w:=w) (w':=w.drewN q) (fun _ _ _ _ hb=>hb) _ _ _ _ iA) he hB.ends
 obtain⟨vL,vS,q1,q2,q3⟩:=id ku.call;have c3:=q1.cell 3;simp at c3;have iX:=q1.lt;have dW:=Blk.lt hn;obtain⟨aS,capS,zF⟩:∃aS capS,vS=.slice aS (N.am+sig.1.length) capS:=by
  rcases q3 with⟨e9,e8⟩|⟨g9,cap9,cs9,e9,_⟩
  ·have:N.am+sig.1.length=0:=by rw[<-xK,e8];rfl
   exact⟨none,0,by rw[e9,this]⟩
  exact⟨_,cap9,by rw[e9,xK]⟩
 rw[zF]at c3;obtain⟨at_,ct,oI,_,_⟩:=aG rt;obtain⟨ag,cg,rN,_,_⟩:=aG rg;have k3:=Blk.cell hn 3;have k5:=Blk.cell hn 4;simp at k3 k5;rw[oI]at k3;rw[rN]at k5;obtain⟨nt,ld⟩:=aja sig.1.length;obtain⟨ng,qN⟩:=aja sig.2.length;obtain⟨H,hH⟩:=aja N.am;rw[ld,hH]at c3;rw[ld]at k3;rw[qN]at k5;have Vq:(H:Int)+(nt:Int)<=2400:=by rw[xK,ld,hH]at nK;omega
 have iJ:Hid _:=cL;have HB:Hid (nI lf T R s.call.next (s.call.next+1) e1 i' N sig):=hB;have qQ:Hid (mg fs aA s s0):=bk;have DM:Hid (Fc c W gl w w):=Cf;have HN:Hid _:=hn;have xB:Hid (bX az w c W f gl m ads mm fs aA s0 s0.ay lf pf ai T R P n):=ku;have Iz:Hid _:=kC;have HH:Hid _:=hH;have vi:Hid _:=qN;have QR:Hid _:=rN;have X3:Hid _:=du;clear cL hB bk ku xK nK q1 q2 q3 zF ld qN hH oI rN hn h IH vO iA dp oP kC rt rg Cf hp hk;go_enter func122,ntmps122;go_wp2_with fail;go_quiet (fail)
 go_wp2_with fail;refine Calls.mono (iJ.out nq) ?_;rintro e9 w2 ⟨kk,rfl,hF,gL⟩;have dq:Fc c W gl w w2:=DM.out.trans ((Fc.none (bd (aH _ _) nq)).trans hF);have nN:Hid _:=dq;have Dt:Hid (bp w2 a _ num vl vt vg vb ve ew):=hF.types (w:=w.drewN nq) xB.out.call xB.out.ma HN.out (by decide) (by decide) (by decide);rcases gL with⟨rfl,hE⟩|⟨rfl,hE⟩|⟨k',rfl,zG,hE⟩|⟨rfl,hE⟩
 ·have HE:Hid _:=hE;clear hE hF dq iJ;go_wp2_with fail;go_ret;exact⟨_,rfl,nN.out,.inl ⟨rfl,qQ.out.ended HE.out⟩⟩
 ·have HE:Hid _:=hE;clear hE hF dq iJ;go_wp2_with fail;go_ret;exact⟨_,rfl,nN.out,.inr (.inl ⟨rfl,qQ.out.norm HE.out⟩)⟩
 ·cases k' with
  |zero=>
   rw[Iz.out]at hE;obtain⟨F,A,B,C,ls,j,st,p1,⟨px,py,p2⟩,p3,p4,p5,p6,p7,p8,p9,p10,vs,p11,p12,p13,p14⟩:=hE.parts;have NP:F=N:=by rw[HB.out.lab0]at p1;exact(Option.some.inj p1).symm
   subst NP;have CP:=HB.out.pin _ _ _ p2;subst CP;have lH:=aad p3 p4;rw[p5,p6,HB.out.wants,HH.out,vi.out]at lH;have c2:=Blk.cell Dt.out 4;simp at c2;rw[QR.out,vi.out]at c2;have NQ:=Blk.lt Dt.out;have ey:Hid (∀w3:World,w2.grownBy w3 (some c)->aI w3 c W f gl (tv ai ls) (A++C)->cV w w3 c W f gl m fs aA s lf ai T n s.call.next j (-1)):=fun w3 g3 c3=>⟨nN.out.trans (Fc.call g3),.inr (.inl ⟨rfl,qQ.out.norm ⟨_,p14,rfl,rfl,rfl,⟨p7,p13,p12⟩,p8,p9,by rw[p11]at c3;exact c3,p10.wroteC p3 g3⟩⟩)⟩;clear hE hF dq iJ p1 p2 p3 p4 p5 p6 p7 p8 p9 p10 p11 p12 p13 p14;go_wp2_with fail;refine lH.mono ?_;clear lH;rintro e8 w3 ⟨rfl,co,gz⟩;go_wp2_with fail;go_ret;exact⟨_,rfl,ey.out w3 co gz⟩
  |succ k'=>
   have rQ:((k'+1:Nat):Int)<=500:=by omega
   have b0:(((k'+1:Nat):Int)==0)=false:=beqn (by omega);have b1000:(((k'+1:Nat):Int)==1000)=false:=beqn (by omega);have b0':((k':Int)+1==0)=false:=beqn (by omega);have b1000':((k':Int)+1==1000)=false:=beqn (by omega);rw[Iz.out]at hE;have HJ:Hid (mw w2 c W f gl m fs aA s lf ai T n s.call.next k'):=qQ.out.jump (fun F' AB=>HB.out.labs k' F' AB) hE;clear hE hF dq iJ;go_wp2_with fail;go_ret;exact⟨(k':Int),by simp,nN.out,.inr (.inr (.inl ⟨k',rfl,by omega,HJ.out⟩))⟩
 have HE:Hid _:=hE;clear hE hF dq iJ;go_wp2_with fail;go_ret;exact⟨_,rfl,nN.out,.inr (.inr (.inr ⟨rfl,qQ.out.home HE.out⟩))⟩
theorem GV(hp:Pu mm fs aA)(IH:∀N,N<aA-s.ay->nJ mm fs aA N)(h:bX az w c W f gl m ads mm fs aA s (s.ay+1) lf pf ai T R P n)(hi:s.call.next<n)(du:s.ay<aA)(hk:(R s.call.next).aa.au=4)(hn:bp w a 4 num vl vt vg vb ve ew){sig:Sig}{body:List Nat}{e1 k i':Nat}(dp:mm.sigs[(R s.call.next).idx.headD 0]?=some sig)(rt:aR w vt sig.1)(rg:aR w vg sig.2)(vO:fN w (fun g=>az<=g) vb body)(iA:cB w mm T R n (fun g=>az<=g) k (s.call.next+1) body e1)(Gj:s.call.next<e1)(he:e1<n)(kJ:FSt (T (s.call.next+1)) (T e1))(hc:((R e1).aa.au=6/\ew=false/\i'=e1+1)\/((R e1).aa.au=5/\ew=true/\∃el e2,fN w (fun g=>az<=g) ve el/\cB w mm T R n (fun g=>az<=g) k (e1+1) el e2/\FSt (T (e1+1)) (T e2)/\e1<e2/\e2<n/\(R e2).aa.au=6/\i'=e2+1)):Calls prog 122 #[ptr c,ptr a] w fun r w'=>∃kk:Int,r=.returned (.int .i64 kk)/\cV w w' c W f gl m fs aA s lf ai T n s.call.next i' kk:=by
 obtain⟨bt,sig',vs,v,z1,z2,z3,z4,z5,z6,z7,z8⟩:=J8 h.fn.tr hi h.st (show s.ay≠aA by omega) hk;have Ag:sig'=sig:=by rw[dp]at z1;exact(Option.some.inj z1).symm
 subst Ag;have hC:=h.call;have aQ:=h.len hp (by omega);rw[z2,z3,dy z4]at hC aQ;have iV:=tM (t':=1) hC (.inr rfl) (by simp at aQ;omega);simp only[show ((1:Nat):Int)=1 from rfl]at iV
 obtain⟨x9,t9,y1,y2,y3,y4,y5⟩:=NO h.fn.tr hi h.st.alive hk dp z2 z6 Gj he kJ (hc.elim (fun q=>.inr q.1) (fun q=>.inl q.1));have ka:=Blk.cell hn 0;have kb:=Blk.cell hn 5;simp at ka kb;have NR:=Blk.lt hn;have xm:∀w1:World,w.grownBy w1 (some c)->aI w1 c W f gl (tv ai s.call.ai) (tv (bt++sig'.1) vs)->∀o:Obj,(∀g cs t,t≠132->Blk w g cs t->Blk (w1.alloc o) g cs t)/\Fc c W gl w (w1.alloc o)/\aI (w1.alloc o) c W f gl (tv ai s.call.ai) (tv (bt++sig'.1) vs)/\cE (w1.alloc o) W m (aA-(s.ay+1)) (s.ay+1) false 0 s.rest.length:=fun w1 g1 c1 o=>⟨fun g cs t ht hb=>(hC.wrote g1 hb ht).alloc o,(Fc.call g1).trans (Fc.none (aC _ _ _)),c1.grown (aC _ _ _),Blk.alloc (h.ma.wroteC hC g1) o⟩;by_cases hv:v=0
 ·have OW:=z8 hv x9 t9 (e1+1) y1 y2 y3;rcases hc with⟨h6,rfl,rfl⟩|⟨h5,rfl,el,e2,b1,b2,b3,b4,b5,b6,rfl⟩
  ·have ey:Hid (∀w1:World,w.grownBy w1 (some c)->aI w1 c W f gl (tv ai s.call.ai) (tv (bt++sig'.1) vs)->∀o:Obj,cV w (w1.alloc o) c W f gl m fs aA s lf ai T n s.call.next (e1+1) (-1)):=fun w1 g1 c1 o=>by obtain⟨p1,p2,p3,p4⟩:=xm w1 g1 c1 o;exact⟨p2,.inr (.inl ⟨rfl,_,dD.step OW,rfl,rfl,rfl,⟨h.st.loc,y5,by show bG (T (e1+1)).af vs;rw[y4];exact z4⟩,Nat.lt_succ_self _,du,by show aI (w1.alloc o) c W f gl (tv ai s.call.ai) (tv (T (e1+1)).af vs);rw[y4];exact p3,p4⟩)⟩
   have HG:Hid (∀w1:World,w.grownBy w1 (some c)->w1.cell? ⟨a,7,none⟩=some (.bool false)/\a<w1.heap.size):=fun w1 g1=>by have e1:=hC.wrote g1 hn (by decide);refine⟨?_,e1.lt⟩;rw[e1.cell];rfl
   subst hv;clear OW xm z7 z8 h hC hn vO iA kJ rt rg IH y1 y2 y3 y4 y5;go_enter func122,ntmps122;go_wp2_with fail;refine iV.mono ?_;clear iV;rintro e9 w1 ⟨rfl,eZ,NS⟩;obtain⟨u1,u2⟩:=HG.out w1 eZ;go_wp2_with fail;go_ret;exact⟨_,rfl,ey.out w1 eZ NS _⟩
  obtain⟨_,N,hB⟩:=zD h.fn.tr hi hk dp he kJ h5 b5 b3 b6;have bk:mg fs aA s {s with call:={s.call with next:=e1+1,af:=vs},ay:=s.ay+1}:=⟨dD.step OW,rfl,rfl,Nat.lt_succ_self _,du⟩;have HG:Hid (∀w1:World,w.grownBy w1 (some c)->w1.cell? ⟨a,7,none⟩=some (.bool true)/\w1.cell? ⟨a,6,none⟩=some ve/\a<w1.heap.size):=fun w1 g1=>by
   have e1:=hC.wrote g1 hn (by decide);refine⟨?_,?_,e1.lt⟩
   ·rw[e1.cell];rfl
   rw[e1.cell];rfl
  subst hv;go_enter func122,ntmps122;go_wp2_with fail;refine iV.mono ?_;clear iV;rintro e9 w1 ⟨rfl,eZ,NS⟩;obtain⟨u1,u2,u3⟩:=HG.out w1 eZ;go_wp2_with fail;obtain⟨p1,p2,p3,p4⟩:=xm w1 eZ NS (.cells #[.int .i64 1,.int .i64 0] 134);obtain⟨wc,QS⟩:=aja (w1.alloc (.cells #[.int .i64 1,.int .i64 0] 134));rw[QS]at p1 p2 p3 p4 ⊢;have ku:bX az wc c W f gl m ads mm fs aA {s with call:={s.call with next:=e1+1,af:=vs},ay:=s.ay+1} (s.ay+1) lf pf ai T R P n:=⟨h.mod.keep fun g cs t x1 _ _ hb=>p1 g cs t x1 hb,h.fn,h.ad,by show aI wc c W f gl (tv ai s.call.ai) (tv (T (e1+1)).af vs);rw[y4];exact p3,p4,⟨h.st.loc,y5,by show bG (T (e1+1)).af vs;rw[y4];exact z4⟩,h.deep⟩;replace hn:=p1 _ _ _ (by decide) hn;replace rt:=rt.keep fun g c hb=>p1 g c 3 (by decide) hb;replace rg:=rg.keep fun g c hb=>p1 g c 3 (by decide) hb;replace vO:=b1.keep (w':=wc) (ok':=fun g=>az<=g) fun g cs ho hb=>⟨p1 g cs 155 (by decide) hb,ho⟩;replace iA:=cB.keep (w':=wc) (fun g cs t ht hb=>p1 g cs t (by rcases ht with rfl|rfl|rfl <;> decide) hb) _ _ _ _ b2;have Cf:=p2;obtain⟨s0,oi⟩:∃s0:MSt,({s with call:={s.call with next:=e1+1,af:=vs},ay:=s.ay+1}:MSt)=s0:=⟨_,rfl⟩;have oP:s0.ay=s.ay+1:=by rw[<-oi]
  have kC:s0.call.next=e1+1:=by rw[<-oi]
  rw[oi]at bk ku;rw[<-oP]at ku;replace he:=b5;clear oi OW xm z7 z8 hC y1 y2 y3 y4 y5 p1 p2 p3 p4 QS NS eZ HG u1 u2 u3 b1 b2 b3 b5 b6 kJ h5 aQ ka kb NR;have nK:=ku.len hp (by rw[kC];omega);have xK:(tv (T s0.call.next).af s0.call.af).length=N.am+sig'.1.length:=by rw[fF ku.st.stk,kC];exact hB.high
  have cL:=fun q=>IH (aA-s0.ay) (by omega) az (wc.drewN q) c W f gl m ads s0 lf pf ai T R P n k el ve e2 (e2+1) (ku.same fun _ _ _ hb=>hb) (nLr _) bk.le ((show fN wc (fun g=>az<=g) ve el from vO).keep fun _ _ ho hb=>⟨hb,ho⟩) (by rw[kC];exact cB.keep (w:=wc) (w':=wc.drewN q) (fun _ _ _ _ hb=>hb) _ _ _ _ iA) he hB.ends
  obtain⟨vL,vS,q1,q2,q3⟩:=id ku.call;have c3:=q1.cell 3;simp at c3;have iX:=q1.lt;have dW:=Blk.lt hn;obtain⟨aS,capS,zF⟩:∃aS capS,vS=.slice aS (N.am+sig'.1.length) capS:=by
   rcases q3 with⟨e9,e8⟩|⟨g9,cap9,cs9,e9,_⟩
   ·have:N.am+sig'.1.length=0:=by rw[<-xK,e8];rfl
    exact⟨none,0,by rw[e9,this]⟩
   exact⟨_,cap9,by rw[e9,xK]⟩
  rw[zF]at c3;obtain⟨at_,ct,oI,_,_⟩:=aG rt;obtain⟨ag,cg,rN,_,_⟩:=aG rg;have k3:=Blk.cell hn 3;have k5:=Blk.cell hn 4;simp at k3 k5;rw[oI]at k3;rw[rN]at k5;obtain⟨nt,ld⟩:=aja sig'.1.length;obtain⟨ng,qN⟩:=aja sig'.2.length;obtain⟨H,hH⟩:=aja N.am;rw[ld,hH]at c3;rw[ld]at k3;rw[qN]at k5;have Vq:(H:Int)+(nt:Int)<=2400:=by rw[xK,ld,hH]at nK;omega
  have iJ:Hid _:=cL;have HB:Hid (nI lf T R s.call.next (e1+1) e2 (e2+1) N sig'):=hB;have qQ:Hid (mg fs aA s s0):=bk;have DM:Hid (Fc c W gl w wc):=Cf;have HN:Hid _:=hn;have xB:Hid (bX az wc c W f gl m ads mm fs aA s0 s0.ay lf pf ai T R P n):=ku;have Iz:Hid _:=kC;have HH:Hid _:=hH;have vi:Hid _:=qN;have QR:Hid _:=rN;have X3:Hid _:=du;clear cL hB bk ku xK nK q1 q2 q3 zF ld qN hH oI rN hn h IH vO iA dp oP kC rt rg Cf hp hk;go_wp2_with fail;go_quiet (fail)
  go_wp2_with fail;refine Calls.mono (iJ.out nq) ?_;rintro e9 w2 ⟨kk,rfl,hF,gL⟩;have dq:Fc c W gl w w2:=DM.out.trans ((Fc.none (bd (aH _ _) nq)).trans hF);have nN:Hid _:=dq;have Dt:Hid (bp w2 a _ num vl vt vg vb ve true):=hF.types (w:=wc.drewN nq) xB.out.call xB.out.ma HN.out (by decide) (by decide) (by decide);rcases gL with⟨rfl,hE⟩|⟨rfl,hE⟩|⟨k',rfl,zG,hE⟩|⟨rfl,hE⟩
  ·have HE:Hid _:=hE;clear hE hF dq iJ;go_wp2_with fail;go_ret;exact⟨_,rfl,nN.out,.inl ⟨rfl,qQ.out.ended HE.out⟩⟩
  ·have HE:Hid _:=hE;clear hE hF dq iJ;go_wp2_with fail;go_ret;exact⟨_,rfl,nN.out,.inr (.inl ⟨rfl,qQ.out.norm HE.out⟩)⟩
  ·cases k' with
   |zero=>
    rw[Iz.out]at hE;obtain⟨F,A,B,C,ls,j,st,p1,⟨px,py,p2⟩,p3,p4,p5,p6,p7,p8,p9,p10,vs,p11,p12,p13,p14⟩:=hE.parts;have NP:F=N:=by rw[HB.out.lab0]at p1;exact(Option.some.inj p1).symm
    subst NP;have CP:=HB.out.pin _ _ _ p2;subst CP;have lH:=aad p3 p4;rw[p5,p6,HB.out.wants,HH.out,vi.out]at lH;have c2:=Blk.cell Dt.out 4;simp at c2;rw[QR.out,vi.out]at c2;have NQ:=Blk.lt Dt.out;have ey:Hid (∀w3:World,w2.grownBy w3 (some c)->aI w3 c W f gl (tv ai ls) (A++C)->cV w w3 c W f gl m fs aA s lf ai T n s.call.next (e2+1) (-1)):=fun w3 g3 c3=>⟨nN.out.trans (Fc.call g3),.inr (.inl ⟨rfl,qQ.out.norm ⟨_,p14,rfl,rfl,rfl,⟨p7,p13,p12⟩,p8,p9,by rw[p11]at c3;exact c3,p10.wroteC p3 g3⟩⟩)⟩;clear hE hF dq iJ p1 p2 p3 p4 p5 p6 p7 p8 p9 p10 p11 p12 p13 p14;go_wp2_with fail;refine lH.mono ?_;clear lH;rintro e8 w3 ⟨rfl,co,gz⟩;go_wp2_with fail;go_ret;exact⟨_,rfl,ey.out w3 co gz⟩
   |succ k'=>
    have rQ:((k'+1:Nat):Int)<=500:=by omega
    have b0:(((k'+1:Nat):Int)==0)=false:=beqn (by omega);have b1000:(((k'+1:Nat):Int)==1000)=false:=beqn (by omega);have b0':((k':Int)+1==0)=false:=beqn (by omega);have b1000':((k':Int)+1==1000)=false:=beqn (by omega);rw[Iz.out]at hE;have HJ:Hid (mw w2 c W f gl m fs aA s lf ai T n s.call.next k'):=qQ.out.jump (fun F' AB=>HB.out.labs k' F' AB) hE;clear hE hF dq iJ;go_wp2_with fail;go_ret;exact⟨(k':Int),by simp,nN.out,.inr (.inr (.inl ⟨k',rfl,by omega,HJ.out⟩))⟩
  have HE:Hid _:=hE;clear hE hF dq iJ;go_wp2_with fail;go_ret;exact⟨_,rfl,nN.out,.inr (.inr (.inr ⟨rfl,qQ.out.home HE.out⟩))⟩
 have Ig:=z7 hv;have bv:(v==0)=false:=by rw[ajt];exact hv
 have GW:gd (T (s.call.next+1)):=h.fn.tr.look.alive_next hi h.st.alive (by omega);obtain⟨N,hB⟩:∃N,nI lf T R s.call.next (s.call.next+1) e1 i' N sig':=by
  rcases hc with⟨h6,_,rfl⟩|⟨h5,_,el,e2,b1,b2,b3,b4,b5,b6,rfl⟩
  ·exact zC h.fn.tr hi (.inr hk) dp he kJ h6
  exact(zD h.fn.tr hi hk dp he kJ h5 b5 b3 b6).1
 have bk:mg fs aA s {s with call:={s.call with next:=s.call.next+1,af:=vs},ay:=s.ay+1}:=⟨dD.step Ig,rfl,rfl,Nat.lt_succ_self _,du⟩;go_enter func122,ntmps122;go_wp2_with fail;refine iV.mono ?_;clear iV;rintro e9 w1 ⟨rfl,eZ,NS⟩;go_wp2_with fail;obtain⟨p1,p2,p3,p4⟩:=xm w1 eZ NS (.cells #[.int .i64 1,.int .i64 v] 134);obtain⟨wc,QS⟩:=aja (w1.alloc (.cells #[.int .i64 1,.int .i64 v] 134));rw[QS]at p1 p2 p3 p4 ⊢;have ku:bX az wc c W f gl m ads mm fs aA {s with call:={s.call with next:=s.call.next+1,af:=vs},ay:=s.ay+1} (s.ay+1) lf pf ai T R P n:=⟨h.mod.keep fun g cs t x1 _ _ hb=>p1 g cs t x1 hb,h.fn,h.ad,by show aI wc c W f gl (tv ai s.call.ai) (tv (T (s.call.next+1)).af vs);rw[z6];exact p3,p4,⟨h.st.loc,GW,by show bG (T (s.call.next+1)).af vs;rw[z6];exact z4⟩,h.deep⟩;replace hn:=p1 _ _ _ (by decide) hn;replace rt:=rt.keep fun g c hb=>p1 g c 3 (by decide) hb;replace rg:=rg.keep fun g c hb=>p1 g c 3 (by decide) hb;replace vO:=vO.keep (w':=wc) (ok':=fun g=>az<=g) fun g cs ho hb=>⟨p1 g cs 155 (by decide) hb,ho⟩;replace iA:=cB.keep (w':=wc) (fun g cs t ht hb=>p1 g cs t (by rcases ht with rfl|rfl|rfl <;> decide) hb) _ _ _ _ iA;have Cf:=p2;obtain⟨s0,oi⟩:∃s0:MSt,({s with call:={s.call with next:=s.call.next+1,af:=vs},ay:=s.ay+1}:MSt)=s0:=⟨_,rfl⟩;have oP:s0.ay=s.ay+1:=by rw[<-oi]
 have kC:s0.call.next=s.call.next+1:=by rw[<-oi]
 rw[oi]at bk ku;rw[<-oP]at ku;clear oi Ig xm z7 z8 hC y1 y2 y3 y4 y5 p1 p2 p3 p4 QS NS eZ kJ aQ ka kb NR hc GW;have nK:=ku.len hp (by rw[kC];omega);have xK:(tv (T s0.call.next).af s0.call.af).length=N.am+sig'.1.length:=by rw[fF ku.st.stk,kC];exact hB.high
 have cL:=fun q=>IH (aA-s0.ay) (by omega) az (wc.drewN q) c W f gl m ads s0 lf pf ai T R P n k body vb e1 i' (ku.same fun _ _ _ hb=>hb) (nLr _) bk.le ((show fN wc (fun g=>az<=g) vb body from vO).keep fun _ _ ho hb=>⟨hb,ho⟩) (by rw[kC];exact cB.keep (w:=wc) (w':=wc.drewN q) (fun _ _ _ _ hb=>hb) _ _ _ _ iA) he hB.ends
 obtain⟨vL,vS,q1,q2,q3⟩:=id ku.call;have c3:=q1.cell 3;simp at c3;have iX:=q1.lt;have dW:=Blk.lt hn;obtain⟨aS,capS,zF⟩:∃aS capS,vS=.slice aS (N.am+sig'.1.length) capS:=by
  rcases q3 with⟨e9,e8⟩|⟨g9,cap9,cs9,e9,_⟩
  ·have:N.am+sig'.1.length=0:=by rw[<-xK,e8];rfl
   exact⟨none,0,by rw[e9,this]⟩
  exact⟨_,cap9,by rw[e9,xK]⟩
 rw[zF]at c3;obtain⟨at_,ct,oI,_,_⟩:=aG rt;obtain⟨ag,cg,rN,_,_⟩:=aG rg;have k3:=Blk.cell hn 3;have k5:=Blk.cell hn 4;simp at k3 k5;rw[oI]at k3;rw[rN]at k5;obtain⟨nt,ld⟩:=aja sig'.1.length;obtain⟨ng,qN⟩:=aja sig'.2.length;obtain⟨H,hH⟩:=aja N.am;rw[ld,hH]at c3;rw[ld]at k3;rw[qN]at k5;have Vq:(H:Int)+(nt:Int)<=2400:=by rw[xK,ld,hH]at nK;omega
 have iJ:Hid _:=cL;have HB:Hid (nI lf T R s.call.next (s.call.next+1) e1 i' N sig'):=hB;have qQ:Hid (mg fs aA s s0):=bk;have DM:Hid (Fc c W gl w wc):=Cf;have HN:Hid _:=hn;have xB:Hid (bX az wc c W f gl m ads mm fs aA s0 s0.ay lf pf ai T R P n):=ku;have Iz:Hid _:=kC;have HH:Hid _:=hH;have vi:Hid _:=qN;have QR:Hid _:=rN;have X3:Hid _:=du;clear cL hB bk ku xK nK q1 q2 q3 zF ld qN hH oI rN hn h IH vO iA dp oP kC rt rg Cf hp hk;go_wp2_with fail;go_quiet (fail)
 go_wp2_with fail;refine Calls.mono (iJ.out nq) ?_;rintro e9 w2 ⟨kk,rfl,hF,gL⟩;have dq:Fc c W gl w w2:=DM.out.trans ((Fc.none (bd (aH _ _) nq)).trans hF);have nN:Hid _:=dq;have Dt:Hid (bp w2 a _ num vl vt vg vb ve ew):=hF.types (w:=wc.drewN nq) xB.out.call xB.out.ma HN.out (by decide) (by decide) (by decide);rcases gL with⟨rfl,hE⟩|⟨rfl,hE⟩|⟨k',rfl,zG,hE⟩|⟨rfl,hE⟩
 ·have HE:Hid _:=hE;clear hE hF dq iJ;go_wp2_with fail;go_ret;exact⟨_,rfl,nN.out,.inl ⟨rfl,qQ.out.ended HE.out⟩⟩
 ·have HE:Hid _:=hE;clear hE hF dq iJ;go_wp2_with fail;go_ret;exact⟨_,rfl,nN.out,.inr (.inl ⟨rfl,qQ.out.norm HE.out⟩)⟩
 ·cases k' with
  |zero=>
   rw[Iz.out]at hE;obtain⟨F,A,B,C,ls,j,st,p1,⟨px,py,p2⟩,p3,p4,p5,p6,p7,p8,p9,p10,vs,p11,p12,p13,p14⟩:=hE.parts;have NP:F=N:=by rw[HB.out.lab0]at p1;exact(Option.some.inj p1).symm
   subst NP;have CP:=HB.out.pin _ _ _ p2;subst CP;have lH:=aad p3 p4;rw[p5,p6,HB.out.wants,HH.out,vi.out]at lH;have c2:=Blk.cell Dt.out 4;simp at c2;rw[QR.out,vi.out]at c2;have NQ:=Blk.lt Dt.out;have ey:Hid (∀w3:World,w2.grownBy w3 (some c)->aI w3 c W f gl (tv ai ls) (A++C)->cV w w3 c W f gl m fs aA s lf ai T n s.call.next j (-1)):=fun w3 g3 c3=>⟨nN.out.trans (Fc.call g3),.inr (.inl ⟨rfl,qQ.out.norm ⟨_,p14,rfl,rfl,rfl,⟨p7,p13,p12⟩,p8,p9,by rw[p11]at c3;exact c3,p10.wroteC p3 g3⟩⟩)⟩;clear hE hF dq iJ p1 p2 p3 p4 p5 p6 p7 p8 p9 p10 p11 p12 p13 p14;go_wp2_with fail;refine lH.mono ?_;clear lH;rintro e8 w3 ⟨rfl,co,gz⟩;go_wp2_with fail;go_ret;exact⟨_,rfl,ey.out w3 co gz⟩
  |succ k'=>
   have rQ:((k'+1:Nat):Int)<=500:=by omega
   have b0:(((k'+1:Nat):Int)==0)=false:=beqn (by omega);have b1000:(((k'+1:Nat):Int)==1000)=false:=beqn (by omega);have b0':((k':Int)+1==0)=false:=beqn (by omega);have b1000':((k':Int)+1==1000)=false:=beqn (by omega);rw[Iz.out]at hE;have HJ:Hid (mw w2 c W f gl m fs aA s lf ai T n s.call.next k'):=qQ.out.jump (fun F' AB=>HB.out.labs k' F' AB) hE;clear hE hF dq iJ;go_wp2_with fail;go_ret;exact⟨(k':Int),by simp,nN.out,.inr (.inr (.inl ⟨k',rfl,by omega,HJ.out⟩))⟩
 have HE:Hid _:=hE;clear hE hF dq iJ;go_wp2_with fail;go_ret;exact⟨_,rfl,nN.out,.inr (.inr (.inr ⟨rfl,qQ.out.home HE.out⟩))⟩
end
def tU(w:World)(W:Nat):Nat:=(intOf ((w.cell? ⟨W,1,none⟩).getD (.int .i64 0))).toNat
section
variable {az:Nat}{w w' wc:World}{c W f gl m a:Nat}{ads:List Nat}{mm:bf}{fs:List bu}{aA:Nat}{s s0:MSt}{ay:Nat}{lf:bu}{pf:ck}{ai:List Nat}{T:Nat->LSt}{R:Nat->aX}{P:Nat->Nat}{n:Nat}{num:Int}{vl vt vg vb ve:Value}{ew:Bool}
theorem cE.left{left st e waits:Nat}{ended:Bool}(h:cE w W m left st ended e waits):tU w W=left:=by unfold tU;have:=Blk.cell h 1;simp at this;rw[this];simp[intOf]
theorem GX(hp:Pu mm fs aA)(IH:∀N,N<aA-s.ay->nJ mm fs aA N)(h:bX az w c W f gl m ads mm fs aA s (s.ay+1) lf pf ai T R P n)(hi:s.call.next<n)(du:s.ay<aA)(hk:(R s.call.next).aa.au=3)(hn:bp w a 3 num vl vt vg vb ve ew){sig:Sig}{body:List Nat}{e1 k:Nat}(dp:mm.sigs[(R s.call.next).idx.headD 0]?=some sig)(rt:aR w vt sig.1)(vO:fN w (fun g=>az<=g) vb body)(iA:cB w mm T R n (fun g=>az<=g) k (s.call.next+1) body e1)(he:e1<n)(h6:(R e1).aa.au=6):Calls prog 123 #[ptr c,ptr a] w fun r w'=>∃kk:Int,r=.returned (.int .i64 kk)/\cV w w' c W f gl m fs aA s lf ai T n s.call.next (e1+1) kk:=by
 obtain⟨z1,z2,z3⟩:=nW h.fn.tr hi h.st (show s.ay≠aA by omega) (.inr (.inr (.inl hk)));obtain⟨N,l0,ls,lp,lw,lh⟩:=DL h.fn.tr hi hk dp he h6;have bk:mg fs aA s {s with call:={s.call with next:=s.call.next+1},ay:=s.ay+1}:=⟨dD.step z1,rfl,rfl,Nat.lt_succ_self _,du⟩;have ku:bX az w c W f gl m ads mm fs aA {s with call:={s.call with next:=s.call.next+1},ay:=s.ay+1} (s.ay+1) lf pf ai T R P n:=⟨h.mod,h.fn,h.ad,by show aI w c W f gl (tv ai s.call.ai) (tv (T (s.call.next+1)).af s.call.af);rw[z2];exact h.call,h.ma,⟨h.st.loc,z3,by show bG (T (s.call.next+1)).af s.call.af;rw[z2];exact h.st.stk⟩,h.deep⟩;obtain⟨s0,oi⟩:∃s0:MSt,({s with call:={s.call with next:=s.call.next+1},ay:=s.ay+1}:MSt)=s0:=⟨_,rfl⟩;have oP:s0.ay=s.ay+1:=by rw[<-oi]
 have kC:s0.call.next=s.call.next+1:=by rw[<-oi]
 rw[oi]at bk ku;rw[<-oP]at ku;clear oi z1 z2 z3;have nK:=ku.len hp (by rw[kC];omega);have xK:(tv (T s0.call.next).af s0.call.af).length=N.am+sig.1.length:=by rw[fF ku.st.stk,kC];exact lh
 obtain⟨vL,vS,q1,q2,q3⟩:=id ku.call;have c3:=q1.cell 3;simp at c3;have iX:=q1.lt;have dW:=Blk.lt hn;obtain⟨aS,capS,zF⟩:∃aS capS,vS=.slice aS (N.am+sig.1.length) capS:=by
  rcases q3 with⟨e9,e8⟩|⟨g9,cap9,cs9,e9,_⟩
  ·have:N.am+sig.1.length=0:=by rw[<-xK,e8];rfl
   exact⟨none,0,by rw[e9,this]⟩
  exact⟨_,cap9,by rw[e9,xK]⟩
 rw[zF]at c3;obtain⟨at_,ct,oI,_,_⟩:=aG rt;have k3:=Blk.cell hn 3;simp at k3;rw[oI]at k3;obtain⟨nt,ld⟩:=aja sig.1.length;obtain⟨H,hH⟩:=aja N.am;rw[ld,hH]at c3;rw[ld]at k3;have Vq:(H:Int)+(nt:Int)<=2400:=by rw[xK,ld,hH]at nK;omega
 have qQ:Hid (mg fs aA s s0):=bk;have HN:Hid _:=hn;have xB:Hid (bX az w c W f gl m ads mm fs aA s0 s0.ay lf pf ai T R P n):=ku;have Iz:Hid _:=kC;have HH:Hid _:=hH;have QC:Hid _:=ld;have HVT:Hid _:=oI;have QT:Hid _:=IH;have HBD:Hid (fN w (fun g=>az<=g) vb body):=vO;have Vr:Hid _:=iA;have OY:Hid _:=l0;have HLS:Hid _:=ls;have Su:Hid _:=lp;have HLW:Hid _:=lw;clear bk ku xK nK q1 q2 q3 zF ld hH oI hn h IH vO iA dp oP kC rt hp hk l0 ls lp lw lh;go_enter func123,ntmps123;go_wp2_with fail;go_quiet (fail)
 go_wp2_with fail;go_loopw [] (fun wr=>∃sr:MSt,bX az wr c W f gl m ads mm fs aA sr sr.ay lf pf ai T R P n/\sr.call.next=s.call.next+1/\mg fs aA s sr/\Fc c W gl w wr/\bp wr a 3 num vl vt vg vb ve ew/\fN wr (fun g=>az<=g) vb body/\cB wr mm T R n (fun g=>az<=g) k (s.call.next+1) body e1) (fun wr=>tU wr W)
 case atStart=>exact⟨s0,xB.out.same fun _ _ _ hb=>hb,Iz.out,qQ.out,Fc.none (bd (aH _ _) nq),HN.out,HBD.out.keep fun _ _ ho hb=>⟨hb,ho⟩,cB.keep (w:=w) (w':=w.drewN nq) (fun _ _ _ _ hb=>hb) _ _ _ _ Vr.out⟩
 case round=>
  obtain⟨sr,pd,ph,bk,hF,hn,vO,iA⟩:=hrel;obtain⟨wr1,rfl⟩:∃z,z=wr:=⟨wr,rfl⟩;have bM:=bk.lt;have jM:=bk.le;have cL:=QT.out (aA-sr.ay) (by omega) az wr1 c W f gl m ads sr lf pf ai T R P n k body vb e1 (e1+1) pd (nLr _) jM vO (by rw[ph];exact iA) he (.inl ⟨h6,rfl⟩);have kb:=Blk.cell hn 5;simp at kb;have NR:=Blk.lt hn;have uw:Hid _:=pd;have GG:Hid (mg fs aA s sr):=bk;have Sk:Hid (Fc c W gl w wr1):=hF;have SC:Hid _:=hn;have Vs:Hid (fN wr1 (fun g=>az<=g) vb body):=vO;have Vt:Hid _:=iA;have QU:Hid _:=ph;clear pd ph bk hF hn vO iA;go_wp2_with fail;refine cL.mono ?_;clear cL;rintro e9 w2 ⟨kk,rfl,hF,gL⟩;have keep:∀g cs t,t≠132->t≠134->t≠128->Blk wr1 g cs t->Blk w2 g cs t:=fun g cs t h1 h2 h3 hb=>hF.types uw.out.call uw.out.ma hb h1 h2 h3;have HK:Hid _:=keep;have nN:Hid (Fc c W gl w w2):=Sk.out.trans hF;clear keep;rcases gL with⟨rfl,hE⟩|⟨rfl,hE⟩|⟨k',rfl,zG,hE⟩|⟨rfl,hE⟩
  ·have HE:Hid _:=hE;clear hE hF;go_wp2_with fail;go_ret;exact⟨_,rfl,nN.out,.inl ⟨rfl,GG.out.ended HE.out⟩⟩
  ·have HE:Hid _:=hE;clear hE hF;go_wp2_with fail;go_ret;exact⟨_,rfl,nN.out,.inr (.inl ⟨rfl,GG.out.norm HE.out⟩)⟩
  ·cases k' with
   |zero=>
    rw[QU.out]at hE;obtain⟨F,A,B,C,lls,j,st,p1,⟨px,py,p2⟩,p3,p4,p5,p6,p7,p8,p9,p10,vs,p11,p12,p13,p14⟩:=hE.parts;have NP:F=N:=by rw[OY.out]at p1;exact(Option.some.inj p1).symm
    subst NP;have CP:=Su.out _ _ _ p2;subst CP;have lH:=aad p3 p4;rw[p5,p6,HLW.out,HH.out,QC.out]at lH;have Dt:Hid (bp w2 a 3 num vl vt vg vb ve ew):=HK.out _ _ _ (by decide) (by decide) (by decide) SC.out;have c2:=Blk.cell Dt.out 3;simp at c2;rw[HVT.out,QC.out]at c2;have NQ:=Blk.lt Dt.out;have aa4:(H:Int)<=2400:=by omega
    have ey:Hid (∀w3:World,w2.grownBy w3 (some c)->aI w3 c W f gl (tv ai lls) (A++C)->(∃sq:MSt,bX az w3 c W f gl m ads mm fs aA sq sq.ay lf pf ai T R P n/\sq.call.next=s.call.next+1/\mg fs aA s sq/\Fc c W gl w w3/\bp w3 a 3 num vl vt vg vb ve ew/\fN w3 (fun g=>az<=g) vb body/\cB w3 mm T R n (fun g=>az<=g) k (s.call.next+1) body e1)/\tU w3 W<tU wr1 W/\w3.cell? ⟨c,0,none⟩=some (ptr W)/\w3.cell? ⟨W,3,none⟩=some (.bool false)/\c<w3.heap.size/\W<w3.heap.size):=fun w3 g3 c3=>by
     have md:=p10.wroteC p3 g3;have kk:∀g cs t,t≠132->t≠134->t≠128->Blk wr1 g cs t->Blk w3 g cs t:=fun g cs t h1 h2 h3 hb=>p3.wrote g3 (HK.out g cs t h1 h2 h3 hb) h1;have bM:=GG.out.lt;refine⟨⟨{call:={fn:=sr.call.fn,next:=s.call.next+1,ai:=lls,af:=vs},rest:=sr.rest,ay:=st},⟨uw.out.mod.keep kk,uw.out.fn,uw.out.ad,by rw[p11]at c3;exact c3,md,⟨p7,p13,p12⟩,uw.out.deep⟩,rfl,⟨GG.out.reach.trans p14,GG.out.rest,GG.out.fn,by show s.ay<st;omega,p9⟩,nN.out.trans (Fc.call g3),kk _ _ _ (by decide) (by decide) (by decide) SC.out,Vs.out.keep fun g cs ho hb=>⟨kk g cs 155 (by decide) (by decide) (by decide) hb,ho⟩,cB.keep (fun g cs t ht hb=>kk g cs t (by rcases ht with rfl|rfl|rfl <;> decide) (by rcases ht with rfl|rfl|rfl <;> decide) (by rcases ht with rfl|rfl|rfl <;> decide) hb) _ _ _ _ Vt.out⟩,?_,c3.machine,?_,c3.lt.1,Blk.lt md⟩
     ·rw[md.left,uw.out.ma.left];omega
     have:=Blk.cell md 3;simpa using this
    clear hE hF p1 p2 p3 p4 p5 p6 p7 p8 p9 p10 p11 p12 p13 p14;go_wp2_with fail;refine lH.mono ?_;clear lH;rintro e8 w3 ⟨rfl,co,gz⟩;obtain⟨u0,u1,u2,u3,u4,u5⟩:=ey.out w3 co gz;have HU0:Hid _:=u0;have SD:Hid _:=u1;clear u0 u1 gz co;go_wp2_with fail;go_roundw
    case rel=>exact HU0.out
    case measure=>exact SD.out
   |succ k'=>
    have rQ:((k'+1:Nat):Int)<=500:=by omega
    have b0:(((k'+1:Nat):Int)==0)=false:=beqn (by omega);have b1000:(((k'+1:Nat):Int)==1000)=false:=beqn (by omega);have b0':((k':Int)+1==0)=false:=beqn (by omega);have c0':((k':Int)+1 != 0)=true:=by rw[bne_iff_ne];omega
    have b1000':((k':Int)+1==1000)=false:=beqn (by omega);rw[QU.out]at hE;have HJ:Hid (mw w2 c W f gl m fs aA s lf ai T n s.call.next k'):=GG.out.jump (fun F' AB=>⟨F',HLS.out k' F' AB,cH.refl _⟩) hE;clear hE hF;go_wp2_with fail;go_ret;exact⟨(k':Int),by simp,nN.out,.inr (.inr (.inl ⟨k',rfl,by omega,HJ.out⟩))⟩
  have HE:Hid _:=hE;clear hE hF;go_wp2_with fail;go_ret;exact⟨_,rfl,nN.out,.inr (.inr (.inr ⟨rfl,GG.out.home HE.out⟩))⟩
end
