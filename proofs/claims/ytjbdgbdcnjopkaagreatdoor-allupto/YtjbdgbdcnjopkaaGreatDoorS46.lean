import Derived.Test.YtjbdgbdcnjopkaaGreatDoorS45
namespace Go.Proofs.YtjbdgbdcnjopkaaGreatDoor
open Go.RowKit Tryz
set_option linter.all false
set_option maxRecDepth 100000
set_option maxHeartbeats 4000000
theorem rz{c l:List UInt8}{p k:Nat}(h:cn c p k=some l):l.length<=k:=by
 unfold cn at h;split at h
 ·cases h
 cases h;rw[ajq];omega
theorem DQ{c:List UInt8}{p:Nat}{st:aX}(h:bJ c p=some st):st.idx.length<=11:=by
 unfold bJ at h;split at h
 ·split at h
  ·cases h
  obtain⟨y,hy,rfl⟩:=Option.map_eq_some_iff.1 h;show y.1.length<=11;unfold bq at hy;split at hy
  ·obtain⟨l,hl,rfl⟩:=Option.map_eq_some_iff.1 hy;have:=rz hl;simp only[List.length_map];omega
  split at hy
  ·split at hy
   ·split at hy
    ·cases hy
    obtain⟨l,hl,rfl⟩:=Option.map_eq_some_iff.1 hy;have:=rz hl;simp only[List.length_map];omega
   cases hy
  split at hy
  ·obtain⟨l,hl,rfl⟩:=Option.map_eq_some_iff.1 hy;simp
  split at hy
  ·obtain⟨l,hl,rfl⟩:=Option.map_eq_some_iff.1 hy;simp
  cases hy;simp
 cases h
section
variable {az lo:Nat}{w w' wc:World}{c d W f f2 gl m a:Nat}{ads:List Nat}{mm:bf}{fs:List bu}{aA:Nat}{s s0:MSt}{ay:Nat}{lf:bu}{pf:ck}{ai:List Nat}{T:Nat->LSt}{R:Nat->aX}{P:Nat->Nat}{n:Nat}{num:Int}{vl vt vg vb ve:Value}{ew:Bool}
theorem wH{op:Nat}{Q:Ending->World->Prop}(ho:op=2\/op=4)(hn:bp w a op num vl vt vg vb ve ew)(hB:Calls prog 122 #[ptr c,ptr a] w fun r w'=>∃kk:Int,r=.returned (.int .i64 kk)/\Q (.returned (.int .i64 kk)) w'):Calls prog 97 #[ptr c,ptr a] w fun r w'=>∃kk:Int,r=.returned (.int .i64 kk)/\Q (.returned (.int .i64 kk)) w':=by
 have k0:=Blk.cell hn 0;simp at k0;have dW:=Blk.lt hn;rcases ho with rfl|rfl;all_goals
  go_enter func97,ntmps97;go_wp2_with fail;refine hB.mono ?_;clear hB;rintro e w2 ⟨kk,rfl,hq⟩;go_wp2_with fail;go_ret;exact⟨kk,rfl,hq⟩
theorem Hg{Q:Ending->World->Prop}(hn:bp w a 3 num vl vt vg vb ve ew)(hB:Calls prog 123 #[ptr c,ptr a] w fun r w'=>∃kk:Int,r=.returned (.int .i64 kk)/\Q (.returned (.int .i64 kk)) w'):Calls prog 97 #[ptr c,ptr a] w fun r w'=>∃kk:Int,r=.returned (.int .i64 kk)/\Q (.returned (.int .i64 kk)) w':=by have k0:=Blk.cell hn 0;simp at k0;have dW:=Blk.lt hn;go_enter func97,ntmps97;go_wp2_with fail;refine hB.mono ?_;clear hB;rintro e w2 ⟨kk,rfl,hq⟩;go_wp2_with fail;go_ret;exact⟨kk,rfl,hq⟩
theorem Hh(hp:Pu mm fs aA)(IH:∀N,N<aA-s.ay->nJ mm fs aA N)(h:bX az w c W f gl m ads mm fs aA s (s.ay+1) lf pf ai T R P n)(hi:s.call.next<n)(du:s.ay<aA)(hk:(R s.call.next).aa.au=11)(hn:bp w a 11 num vl vt vg vb ve ew)(iz:eu (R s.call.next) num):Calls prog 97 #[ptr c,ptr a] w fun r w'=>∃kk:Int,r=.returned (.int .i64 kk)/\cV w w' c W f gl m fs aA s lf ai T n s.call.next (s.call.next+1) kk:=by
 obtain⟨z0,l2,bt,x,y,z1,-⟩:=wu h.fn.tr hp.all hi h.st (show s.ay≠aA by omega) hk;have dL:num=((R s.call.next).idx.headD 0:Nat):=by obtain⟨-,-,-,-,-,kc4,-⟩:=cC (h.fn.tr.look.trace _ hi).1.read;have oe:=kc4 hk;unfold eu at iz;rw[ajd (.inl oe)]at iz;exact iz
 obtain⟨q,hq⟩:=aja ((R s.call.next).idx.headD 0);have O4:q<mm.funs.length:=by have:=(gEs.1 z1).1;rw[hp.all.2,<-hq];exact this
 have hqa:q<ads.length:=by rw[h.mod.ga.len];exact O4
 obtain⟨f2,hZ⟩:=aja (ads[q]);have hZ?:ads[q]?=some f2:=by rw[gEg hqa,hZ]
 have hd:bX az w.drew c W f gl m ads mm fs aA s (s.ay+1) lf pf ai T R P n:=h.same fun _ _ _ hb=>hb;have hQ:Calls prog 125 #[ptr c,ptr f2] w.drew fun r w'=>r=.returned (.tuple #[])/\Fc c W gl w.drew w'/\(eo w' c W m fs aA s\/iM w' c W f gl m fs aA s ai T (s.call.next+1)):=by
  rcases Nat.lt_or_ge s.rest.length 40 with g|g
  ·exact DO hp IH hd hi du hk (by rw[hq];exact hZ?) g
  exact Bo hd g (z0 g)
 obtain⟨vs9,vf9,b1,b2,b3⟩:=h.mod.ga.mod;have j5:=h.mod.ga.pos;rcases b3.2 with⟨_,hz⟩|⟨gf,capf,cur,rfl,_,oJ,_⟩
 ·omega
 have Kt:Blk w gf cur 50:=oJ;obtain⟨NF,Ym⟩:=aja mm.funs.length;have cg:w.cell? ⟨gf,q,none⟩=some (ptr f2):=by rw[(bK b3 (j:=q) (by omega)).1];simp[hZ?]
 have k0:=Blk.cell hn 0;have k1:=Blk.cell hn 1;simp at k0 k1;rw[dL,hq]at k1;have c0:=h.call.machine;have w0:=Blk.cell h.ma 0;simp at w0;have m1:=b1.cell 1;simp at m1;rw[Ym]at m1 O4;have l1:=Blk.lt hn;have l2':=h.call.lt.1;have l3:=Blk.lt h.ma;have l4:=b1.lt;have l5:=Kt.lt;have TW:(q:Int)<(NF:Int):=by omega
 have abM:(NF:Int)<=20:=by have:=hp.count;omega
 have HC:Hid _:=hQ;have HS:Hid (∀w5:World,Fc c W gl w.drew w5->(eo w5 c W m fs aA s\/iM w5 c W f gl m fs aA s ai T (s.call.next+1))->w5.cell? ⟨c,0,none⟩=some (ptr W)/\w5.cell? ⟨W,0,none⟩=some (ptr m)/\w5.cell? ⟨m,1,none⟩=some (.slice (some ⟨gf,0,none⟩) NF capf)/\w5.cell? ⟨a,1,none⟩=some (.int .i64 q)/\w5.cell? ⟨gf,q,none⟩=some (ptr f2)):=fun w5 iv Rh=>by
  have y1:=iv.types hd.call hd.ma (show Blk w.drew m _ 38 from b1) (by decide) (by decide) (by decide)
  have y2:=iv.types hd.call hd.ma (show Blk w.drew a _ 157 from hn) (by decide) (by decide) (by decide)
  have y3:=iv.types hd.call hd.ma (show Blk w.drew gf _ 50 from Kt) (by decide) (by decide) (by decide)
  have y4:w5.cell? ⟨c,0,none⟩=some (ptr W)/\w5.cell? ⟨W,0,none⟩=some (ptr m):=by
   rcases Rh with⟨_,_,_,_,e1,_,e2,_⟩|⟨_,_,_,_,_,_,_,_,e1,e2⟩
   ·refine⟨e2,?_⟩;have:=Blk.cell e1 0;simpa using this
   refine⟨e1.machine,?_⟩;have:=Blk.cell e2 0;simpa using this
  refine⟨y4.1,y4.2,?_,?_,?_⟩
  ·rw[y1.cell,<-b1.cell];exact m1
  ·rw[y2.cell,<-Blk.cell hn];simpa using k1
  rw[y3.cell,<-Kt.cell];exact cg
 clear h hd hn b1 b2 b3 oJ Kt hQ z0 z1 dL iz hZ hZ? IH Ym hq;go_enter func97,ntmps97;go_wp2_with fail
 go_region_held (fun w5=>w5.cell? ⟨c,0,none⟩=some (ptr W)/\w5.cell? ⟨W,0,none⟩=some (ptr m)/\w5.cell? ⟨m,1,none⟩=some (.slice (some ⟨gf,0,none⟩) NF capf)/\w5.cell? ⟨a,1,none⟩=some (.int .i64 q)/\w5.cell? ⟨gf,q,none⟩=some (ptr f2)) (first|assumption|go_keep) ((go_at_call 125;refine Calls.mono HC.out ?_;rintro e1 w5 ⟨rfl,iv,Rh⟩;have BZ:=HS.out w5 iv Rh;have HF5:Hid _:=iv;have HP5:Hid _:=Rh;clear iv Rh))
 all_goals
  go_wp2_with fail;go_ret;refine⟨-1,rfl,(Fc.none (aE (aH w none))).trans HF5.out,?_⟩;rcases HP5.out with q|q
  ·exact .inl ⟨rfl,q⟩
  exact .inr (.inl ⟨rfl,q⟩)
theorem Hi(hp:Pu mm fs aA)(IH:∀N,N<aA-s.ay->nJ mm fs aA N)(h:bX az w c W f gl m ads mm fs aA s (s.ay+1) lf pf ai T R P n)(du:s.ay<aA){k e:Nat}{l:List Nat}(iA:cB w mm T R n (fun g=>az<=g) (k+1) s.call.next (a::l) e):∃i',FSt (T s.call.next) (T i')/\cB w mm T R n (fun g=>az<=g) k i' l e/\Calls prog 97 #[ptr c,ptr a] w fun r w'=>∃kk:Int,r=.returned (.int .i64 kk)/\cV w w' c W f gl m fs aA s lf ai T n s.call.next i' kk:=by
 obtain⟨op,num,vl,vt,vg,vb,ve,ew,i',e1,e2,e3,e4,e5,e6,e7,e8⟩:=iA;refine⟨i',e6,e8,?_⟩;have IW:=nY e2;have dL:op<=16->(R s.call.next).aa.au=op:=fun ho=>by
  rcases IW with q|q|q|q|q|q|q|q|q|q
  ·exact q.2
  all_goals omega
 rcases e7 with⟨a1,rfl⟩|⟨a1,a2,sig,body,q1,a3,a4,a5,a6,a7,a8,a9,a10,a11⟩
 ·have mG:(R s.call.next).idx.length<=10000:=by have:=DQ (h.fn.tr.look.trace _ e1).1.read;omega
  obtain h|h|h|h|h|h|h:op=0\/op=7\/op=8\/op=9\/op=10\/op=11\/(op=1\/12<=op):=by omega
  ·subst h;exact GR ‹_› e1 du (dL (by decide)) e3
  ·subst h;exact NN hp ‹_› e1 du (dL (by decide)) e3 e5
  ·subst h;exact GS hp ‹_› e1 du (dL (by decide)) e3 e5
  ·subst h;exact GT hp ‹_› e1 du (dL (by decide)) e3 e5 mG
  ·subst h;exact Bn ‹_› hp e1 du (dL (by decide)) e3
  ·subst h;exact Hh hp IH ‹_› e1 du (dL (by decide)) e3 e4
  exact DK hp ‹_› e1 du e2 h e3 e4
 have ex:op=2\/op=3\/op=4:=by omega
 rcases ex with ho|ho|ho
 ·subst ho;have BR:=dL (by decide);rcases a11 with⟨h6,rfl,rfl⟩|⟨h5,rfl,el,q2,_⟩
  ·obtain⟨N,hB⟩:=zC h.fn.tr e1 (.inl BR) a3 a10 a8 h6;exact wH (Q:=fun r w'=>∀kk:Int,r=.returned (.int .i64 kk)->cV w w' c W f gl m fs aA s lf ai T n s.call.next (q1+1) kk) (.inl rfl) e3 ((zE hp IH h e1 du BR e3 a3 a4 a5 a6 a7 a10 hB).mono fun r w' ⟨kk,x1,x2⟩=>⟨kk,x1,fun k2 lg=>by cases lg;exact x2⟩) |>.mono fun r w' ⟨kk,x1,x2⟩=>⟨kk,x1,x2 kk rfl⟩
  exfalso;obtain⟨F,hf,M,_⟩:=h.fn.tr.look.moves a10;obtain⟨t1,_⟩:=M.turned h5;obtain⟨F0,IM,M0,_⟩:=h.fn.tr.look.moves e1;obtain⟨N,n1,n2,_⟩:=M0.opened (.inl BR);have Kn:(T (s.call.next+1)).ae.getLast?=some N:=by rw[n1];simp
  obtain⟨G,g1,g2,g3⟩:=a8.last Kn;rw[hf]at g1;cases g1;omega
 ·subst ho;have JL:=dL (by decide);rcases a11 with⟨h6,rfl,rfl⟩|⟨h5,rfl,el,q2,_⟩
  ·exact Hg (Q:=fun r w'=>∀kk:Int,r=.returned (.int .i64 kk)->cV w w' c W f gl m fs aA s lf ai T n s.call.next (q1+1) kk) e3 ((GX hp IH h e1 du JL e3 a3 a4 a6 a7 a10 h6).mono fun r w' ⟨kk,x1,x2⟩=>⟨kk,x1,fun k2 lg=>by cases lg;exact x2⟩) |>.mono fun r w' ⟨kk,x1,x2⟩=>⟨kk,x1,x2 kk rfl⟩
  exfalso;obtain⟨F,hf,M,_⟩:=h.fn.tr.look.moves a10;obtain⟨t1,_⟩:=M.turned h5;obtain⟨F0,IM,M0,_⟩:=h.fn.tr.look.moves e1;obtain⟨N,n1,n2,_⟩:=M0.opened (.inr (.inl JL));have Kn:(T (s.call.next+1)).ae.getLast?=some N:=by rw[n1];simp
  obtain⟨G,g1,g2,g3⟩:=a8.last Kn;rw[hf]at g1;cases g1;omega
 subst ho;have I1:=dL (by decide);exact wH (Q:=fun r w'=>∀kk:Int,r=.returned (.int .i64 kk)->cV w w' c W f gl m fs aA s lf ai T n s.call.next i' kk) (.inr rfl) e3 ((GV hp IH h e1 du I1 e3 a3 a4 a5 a6 a7 a9 a10 a8 a11).mono fun r w' ⟨kk,x1,x2⟩=>⟨kk,x1,fun k2 lg=>by cases lg;exact x2⟩) |>.mono fun r w' ⟨kk,x1,x2⟩=>⟨kk,x1,x2 kk rfl⟩
structure Far(fs:List bu)(aA:Nat)(s s0:MSt):Prop where
 reach:dD fs aA s s0
 rest:s0.rest=s.rest
 fn:s0.call.fn=s.call.fn
 lt:s.ay<=s0.ay
 le:s0.ay<=aA
theorem Far.ended(b:Far fs aA s s0)(h:eo w' c W m fs aA s0):eo w' c W m fs aA s:=by obtain⟨l,st,e,h1,h2,h3,h4⟩:=h;exact⟨l,st,e,h1,by rw[<-b.rest];exact h2,b.reach.ends h3,h4⟩
theorem Far.norm{J:Nat}(b:Far fs aA s s0)(h:iM w' c W f gl m fs aA s0 ai T J):iM w' c W f gl m fs aA s ai T J:=by obtain⟨s',h1,h2,h3,h4,h5,h6,h7,h8,h9⟩:=h;have:=b.lt;exact⟨s',b.reach.trans h1,h2.trans b.rest,h3.trans b.fn,h4,h5,by omega,h7,h8,by rw[<-b.rest];exact h9⟩
theorem Far.jump{i i0 k k0:Nat}(b:Far fs aA s s0)(hl:∀F',bT (T i0) k0=some F'->∃F,bT (T i) k=some F/\cH F F')(h:mw w' c W f gl m fs aA s0 lf ai T n i0 k0):mw w' c W f gl m fs aA s lf ai T n i k:=by obtain⟨F',tys,vs,ls,j,st,h1,Id,h2,h3,h4,h5,h6,h7⟩:=h;obtain⟨F,f1,f2⟩:=hl F' h1.lab;obtain⟨g1,g2⟩:=h1.same f1 f2;have:=b.lt;refine⟨F,tys,vs,ls,j,st,g1,Id,h2,?_,by omega,h5,h6,by rw[<-b.rest];exact h7⟩;rw[g2,<-b.rest,<-b.fn];exact b.reach.trans h3
theorem Far.home(b:Far fs aA s s0)(h:zA w' c W f gl m fs aA s0 lf ai):zA w' c W f gl m fs aA s lf ai:=by obtain⟨bt,x,y,ls,st,h1,h2,h3,Mz,h4,h5,h6,h7,h8⟩:=h;have:=b.lt;exact⟨bt,x,y,ls,st,h1,h2,h3,Mz,jy.after b.reach b.rest h4,by omega,h6,h7,by rw[<-b.rest];exact h8⟩
end
theorem cB.count{w:World}{mm:bf}{T:Nat->LSt}{R:Nat->aX}{n:Nat}{ok:Nat->Prop}:∀(k i:Nat) (l:List Nat) (j:Nat),cB w mm T R n ok k i l j->i+l.length<=j
 |0,i,l,j,h=>h.elim
 |k+1,i,[],j,h=>by
  have e:i=j:=h;rw[e];simp
 |k+1,i,a::l,j,h=>by
  obtain⟨op,num,vl,vt,vg,vb,ve,ew,i',e1,e2,e3,e4,e5,e6,e7,e8⟩:=h;have ih:=cB.count k i' l j e8;have:i+1<=i':=by
   rcases e7 with⟨_,rfl⟩|⟨_,_,_,_,q1,_,_,_,_,_,_,a9,_,a11⟩
   ·exact nLr _
   rcases a11 with⟨_,_,rfl⟩|⟨_,_,el,q2,_,_,_,b4,_,_,rfl⟩ <;> omega
  simp only[ajr];omega
theorem Hj{mm:bf}{fs:List bu}{aA:Nat}(hp:Pu mm fs aA)(N0:Nat)(IH0:∀N,N<N0->nJ mm fs aA N):nJ mm fs aA N0:=by
 intro az w c W f gl m ads s lf pf ai T R P n k nodes v e J hr hN jM jm iA he IQ;have Yn:∀sr:MSt,s.ay<=sr.ay->∀N,N<aA-sr.ay->nJ mm fs aA N:=fun sr h1 N h2=>IH0 N (by omega);obtain⟨len,aQ⟩:=aja nodes.length;obtain⟨av,capv,hv⟩:∃av capv,v=.slice av len capv:=by
  rcases jm with⟨e1,e2⟩|⟨g,cap,cs,e1,_⟩
  ·subst e2;simp at aQ;subst aQ;exact⟨none,0,e1⟩
  exact⟨_,cap,by rw[e1,aQ]⟩
 have QT:Hid _:=Yn;have HR:Hid _:=hr;have V1:Hid _:=jm;have Vr:Hid _:=iA;have Ks:Hid _:=IQ;have HP:Hid _:=hp;have AZ:Hid _:=aQ;have HV:Hid _:=hv;have HLE:Hid _:=jM;have Ri:aA<=100000:=hp.aA;have In:(len:Int)<=9223372036854775807:=by have h1:=cB.count _ _ _ _ iA;have h2:=(hp.high hr.fn (ajl _)).2.1;omega
 rw[hv];clear hr jm iA IQ hp aQ hv jM Yn IH0 hN;go_enter func73,ntmps73;go_wp2_with fail;go_loopw [7] (fun i wr=>∃(r:Nat) (k':Nat) (sr:MSt),i=.int .i64 r/\r<=len/\bX az wr c W f gl m ads mm fs aA sr sr.ay lf pf ai T R P n/\cB wr mm T R n (fun g=>az<=g) k' sr.call.next (nodes.drop r) e/\Far fs aA s sr/\FSt (T s.call.next) (T sr.call.next)/\Fc c W gl w wr/\fN wr (fun g=>az<=g) v nodes) (fun i _=>len-(intOf i).toNat)
 case atStart=>exact⟨0,k,s,rfl,ajl _,HR.out,Vr.out,⟨dD.refl,rfl,rfl,nLr _,HLE.out⟩,FSt.refl _,Fc.refl,V1.out⟩
 case round=>
  obtain⟨r,k',sr,rfl,SJ,pd,tW,far,kJ,hF,SP⟩:=hrel;obtain⟨w1,rfl⟩:∃z,z=wr:=⟨wr,rfl⟩;have c0:=pd.call.machine;have iX:=pd.call.lt.1;have lv:=far.lt;have abQ:=far.le;by_cases hk:r<len
  ·have xZ:r<nodes.length:=by rw[AZ.out];exact hk
   obtain⟨an,V2⟩:=aja (nodes[r]);rw[List.drop_eq_getElem_cons xZ,V2]at tW;have rQ:(r:Int)<(len:Int):=by omega
   cases k' with
   |zero=>exact tW.elim
   |succ k'=>
    by_cases kx:aA-sr.ay=0
    ·have Bq:=pd.ma;rw[kx]at Bq;have hS:=wn Bq;have ou:sr.call.next<n:=by obtain⟨_,_,_,_,_,_,_,_,_,q,_⟩:=tW;exact q
     have ey:Hid (∀w2:World,w1.grownBy w2 (some W)->cE w2 W m 0 sr.ay true 4 sr.rest.length->cV w w2 c W f gl m fs aA s lf ai T n s.call.next J (-1)):=fun w2 g2 m2=>by have fc:=pd.call.wroteW pd.ma g2;exact⟨hF.trans (Fc.mach g2),.inl ⟨rfl,far.ended ⟨0,sr.ay,4,by decide,m2,gr.step (wm pd.fn.tr ou (by omega)),fc.machine,fc.lt.1⟩⟩⟩
     clear pd tW far kJ hF SP Bq kx;go_wp2_with fail;refine hS.mono ?_;clear hS;rintro e9 w2 ⟨rfl,aP,rL⟩;go_wp2_with fail;go_ret;exact⟨_,rfl,ey.out w2 aP rL⟩
    obtain⟨left,zJ⟩:∃left,aA-sr.ay=left+1:=⟨aA-sr.ay-1,by omega⟩;have Bq:=pd.ma;rw[zJ]at Bq;have hS:=tL Bq (by omega) (by omega);have du:sr.ay<aA:=by omega
    have tX:left=aA-(sr.ay+1):=by omega
    rcases SP with⟨_,oH⟩|⟨gp,capp,csp,SQ,Yo,ex,Ct⟩
    ·rw[oH]at xZ;simp at xZ
    have hav:av=some ⟨gp,0,none⟩:=by rw[HV.out]at SQ;cases SQ;rfl
    subst hav;have uw:Hid (bX az w1 c W f gl m ads mm fs aA sr sr.ay lf pf ai T R P n):=pd;have SC:Hid _:=tW;have zK:Hid (Far fs aA s sr):=far;have O5:Hid (FSt (T s.call.next) (T sr.call.next)):=kJ;have HF:Hid (Fc c W gl w w1):=hF;have Yp:Hid _:=Ct;have HVP:Hid _:=SQ;have HBP:Hid _:=Yo;have UK:Hid (az<=gp):=ex;have HAN:Hid _:=V2;have JT:Hid _:=tX;clear pd tW far kJ hF Bq kx Ct SQ Yo ex zJ V2 tX;go_wp2_with fail;refine hS.mono ?_;clear hS;rintro e9 w2 ⟨rfl,aP,rL⟩;have fc:=uw.out.call.wroteW uw.out.ma aP;have k2:∀g cs t,t≠128->Blk w1 g cs t->Blk w2 g cs t:=fun g cs t ht hb=>aF aP uw.out.ma hb ht;rw[JT.out]at rL;have lM:bX az w2 c W f gl m ads mm fs aA sr (sr.ay+1) lf pf ai T R P n:=⟨uw.out.mod.keep fun g cs t _ _ h3 hb=>k2 g cs t h3 hb,uw.out.fn,uw.out.ad,fc,rL,uw.out.st,uw.out.deep⟩;have BR:cB w2 mm T R n (fun g=>az<=g) (k'+1) sr.call.next (an::nodes.drop (r+1)) e:=cB.keep (fun g cs t ht hb=>k2 g cs t (by rcases ht with rfl|rfl|rfl <;> decide) hb) _ _ _ _ SC.out;obtain⟨i',o1,o2,o3⟩:=Hi HP.out (QT.out sr zK.out.lt) lM du BR;have N5:=k2 _ _ _ (by decide) HBP.out;have cp:w2.cell? ⟨gp,r,none⟩=some (ptr an):=by rw[N5.cell,Yp.out r xZ,HAN.out]
    have abV:=N5.lt;have HO1:Hid _:=o1;have V3:Hid _:=o2;have V4:Hid _:=o3;have Ku:Hid (bX az w2 c W f gl m ads mm fs aA sr (sr.ay+1) lf pf ai T R P n):=lM;have DR:Hid _:=aP;clear o1 o2 o3 lM BR aP rL fc k2;go_wp2_with fail;refine Calls.mono V4.out ?_;rintro e8 w3 ⟨kk,rfl,et,gL⟩;have Rj:∀g cs t,t≠132->t≠134->t≠128->Blk w2 g cs t->Blk w3 g cs t:=fun g cs t h1 h2 h3 hb=>et.types Ku.out.call Ku.out.ma hb h1 h2 h3;have Q0:Hid _:=Rj;have GB:Hid (Fc c W gl w w3):=(HF.out.trans (Fc.mach DR.out)).trans et;rcases gL with⟨rfl,hE⟩|⟨rfl,hE⟩|⟨k9,rfl,zG,hE⟩|⟨rfl,hE⟩
    ·obtain⟨x1,x2,x3,x4,x5,x6,x7,x8⟩:=id hE;have y3:=Blk.cell x5 3;simp at y3;have LO:=Blk.lt x5;have HE:Hid _:=hE;clear hE x5 x6 Rj et;go_wp2_with fail;go_ret;exact⟨_,rfl,GB.out,.inl ⟨rfl,zK.out.ended HE.out⟩⟩
    ·obtain⟨s',y1,y2,y4,y5,y6,y7,y8,y9,y10⟩:=hE;have y3:=Blk.cell y10 3;simp at y3;have LO:=Blk.lt y10;have x7:=y9.machine;have x8:=y9.lt.1;have N6:Hid (∃(r2:Nat) (k2:Nat) (sq:MSt),Value.int .i64 ((r:Int)+1)=.int .i64 r2/\r2<=len/\bX az w3 c W f gl m ads mm fs aA sq sq.ay lf pf ai T R P n/\cB w3 mm T R n (fun g=>az<=g) k2 sq.call.next (nodes.drop r2) e/\Far fs aA s sq/\FSt (T s.call.next) (T sq.call.next)/\Fc c W gl w w3/\fN w3 (fun g=>az<=g) v nodes):=by
      have abX:=zK.out.lt;refine⟨r+1,k',s',by simp,by omega,⟨Ku.out.mod.keep Q0.out,by rw[y4];exact uw.out.fn,by rw[y4];exact uw.out.ad,by rw[y5];exact y9,by rw[y2];exact y10,y6,by rw[y2];exact uw.out.deep⟩,?_,⟨zK.out.reach.trans y1,y2.trans zK.out.rest,y4.trans zK.out.fn,by omega,y8⟩,?_,GB.out,.inr ⟨gp,capp,csp,HVP.out,Q0.out _ _ _ (by decide) (by decide) (by decide) N5,UK.out,Yp.out⟩⟩
      ·rw[y5];exact cB.keep (fun g cs t ht hb=>Q0.out g cs t (by rcases ht with rfl|rfl|rfl <;> decide) (by rcases ht with rfl|rfl|rfl <;> decide) (by rcases ht with rfl|rfl|rfl <;> decide) hb) _ _ _ _ V3.out
      rw[y5];exact O5.out.trans HO1.out
     clear y1 y2 y4 y5 y6 y7 y8 y9 y10 Rj et;go_wp2_with fail;go_roundw
     case rel=>exact N6.out
     case measure=>simp[intOf];omega
    ·obtain⟨x1,x2,x3,x4,x5,x6,z1,z2,z3,z4,z5,z6,z7,z8⟩:=id hE;have y3:=Blk.cell z8 3;simp at y3;have LO:=Blk.lt z8;have x7:=z7.machine;have x8:=z7.lt.1;have HJ:Hid (mw w3 c W f gl m fs aA s lf ai T n s.call.next k9):=zK.out.jump (fun F' AB=>O5.out.label AB) hE;have Ef:0<=(k9:Int):=by omega
     clear hE z1 z2 z3 z4 z5 z6 z7 z8 Rj et;go_wp2_with fail;go_ret;exact⟨_,rfl,GB.out,.inr (.inr (.inl ⟨k9,rfl,zG,HJ.out⟩))⟩
    obtain⟨x1,x2,x3,x4,x5,x6,z1,z2,z2',z3,z4,z5,z6,z7⟩:=id hE;have y3:=Blk.cell z7 3;simp at y3;have LO:=Blk.lt z7;have x7:=z6.machine;have x8:=z6.lt.1;have HE:Hid _:=hE;clear hE z1 z2 z2' z3 z4 z5 z6 z7 x6 Rj et;go_wp2_with fail;go_ret;exact⟨_,rfl,GB.out,.inr (.inr (.inr ⟨rfl,zK.out.home HE.out⟩))⟩
  obtain rfl:r=len:=by omega
  have N4:nodes.drop r=[]:=List.drop_of_length_le (by rw[AZ.out];exact nLr _);rw[N4]at tW;have Gj:sr.call.next=e:=by
   cases k' with
   |zero=>exact tW.elim
   |succ k'=>exact tW
  by_cases kx:aA-sr.ay=0
  ·have Bq:=pd.ma;rw[kx]at Bq;have hS:=wn Bq;have ey:Hid (∀w2:World,w1.grownBy w2 (some W)->cE w2 W m 0 sr.ay true 4 sr.rest.length->cV w w2 c W f gl m fs aA s lf ai T n s.call.next J (-1)):=fun w2 g2 m2=>by have fc:=pd.call.wroteW pd.ma g2;exact⟨hF.trans (Fc.mach g2),.inl ⟨rfl,far.ended ⟨0,sr.ay,4,by decide,m2,gr.step (wm pd.fn.tr (by omega) (by omega)),fc.machine,fc.lt.1⟩⟩⟩
   clear pd tW far kJ hF SP Bq kx N4;go_wp2_with fail;refine hS.mono ?_;clear hS;rintro e9 w2 ⟨rfl,aP,rL⟩;go_wp2_with fail;go_ret;exact⟨_,rfl,ey.out w2 aP rL⟩
  obtain⟨left,zJ⟩:∃left,aA-sr.ay=left+1:=⟨aA-sr.ay-1,by omega⟩;have Bq:=pd.ma;rw[zJ]at Bq;have hS:=tL Bq (by omega) (by omega);have du:sr.ay<aA:=by omega
  have tX:left=aA-(sr.ay+1):=by omega
  have ey:Hid (∀w2:World,w1.grownBy w2 (some W)->cE w2 W m left (sr.ay+1) false 0 sr.rest.length->cV w w2 c W f gl m fs aA s lf ai T n s.call.next J (-1)):=fun w2 g2 m2=>by
   have fc:=pd.call.wroteW pd.ma g2;rw[tX]at m2;refine⟨hF.trans (Fc.mach g2),.inr (.inl ⟨rfl,far.norm ?_⟩)⟩;rcases Ks.out with⟨h6,rfl⟩|⟨h5,F9,rh,a9,b9,ht9⟩
   ·obtain⟨q1,q2,q3⟩:=nW pd.fn.tr (by omega) pd.st (show sr.ay≠aA by omega) (.inr (.inr (.inr (by rw[Gj];exact h6))));refine⟨_,dD.step q1,rfl,rfl,by show sr.call.next+1=e+1;rw[Gj],⟨pd.st.loc,q3,by show bG (T (sr.call.next+1)).af sr.call.af;rw[q2];exact pd.st.stk⟩,Nat.lt_succ_self _,du,?_,m2⟩;show aI w2 c W f gl (tv ai sr.call.ai) (tv (T (e+1)).af sr.call.af);rw[<-Gj,q2];exact fc
   obtain⟨F8,j8,q1,q2,q3,q4,q5,q6⟩:=DB pd.fn.tr (by omega) pd.st (show sr.ay≠aA by omega) (by rw[Gj];exact h5);have Vv:F8=F9:=by rw[Gj]at q1;rw[rh]at q1;exact(Option.some.inj q1).symm
   subst Vv;have hjJ:j8=J:=by rw[ht9]at q2;simp at q2;exact q2.1.symm
   subst hjJ;refine⟨_,dD.step q3,rfl,rfl,rfl,⟨pd.st.loc,q5,by show bG (T j8).af sr.call.af;rw[q4];exact pd.st.stk⟩,Nat.lt_succ_self _,du,?_,m2⟩;show aI w2 c W f gl (tv ai sr.call.ai) (tv (T j8).af sr.call.af);rw[q4];exact fc
  clear pd tW far kJ hF SP Bq kx N4 zJ tX;go_wp2_with fail;refine hS.mono ?_;clear hS;rintro e9 w2 ⟨rfl,aP,rL⟩;go_wp2_with fail;go_ret;exact⟨_,rfl,ey.out w2 aP rL⟩
theorem Kv{mm:bf}{fs:List bu}{aA:Nat}(hp:Pu mm fs aA)(N:Nat):nJ mm fs aA N:=Nat.strongRecOn N fun N IH=>Hj hp N IH
theorem pY{x:Int}:(x==IntKind.i32.wrap x)=true↔(-2147483648<=x/\x<2147483648):=by rw[ajh];unfold wrap32;simp;omega
theorem aba:∀{ts:List Nat}{xs:List Int},fj ts xs=true->(∀t∈ts,t=1\/t=2)->(∀x∈xs,dZ x)->bG ts xs
 | [],[],_,_,_=>trivial
 |t::ts,x::xs,h,h1,h2=>by
  simp only[fj,Bool.and_eq_true]at h;refine⟨?_,aba h.2 (fun t ht=>h1 t (by simp[ht])) (fun x hx=>h2 x (by simp[hx]))⟩;rcases h1 t (by simp) with rfl|rfl
  ·have h3:(x==IntKind.i32.wrap x)=true:=by simpa using h.1
   have:=pY.1 h3;exact .inl ⟨rfl,by unfold eX;omega⟩
  exact .inr ⟨rfl,h2 x (by simp)⟩
 |t::ts,[],h,_,_=>by simp[fj]at h
 | [],x::xs,h,_,_=>by simp[fj]at h
theorem DS{w:World}{f:Nat}{sg:Sig}{ai:List Nat}{st en cap:Nat}{sp:Option Addr}{xs:List Int}(hF:ky w f sg ai st en)(ha:dt w sp xs)(hl:sg.1.length<=6):Calls prog 57 #[ptr f,.slice sp xs.length cap] w fun e w'=>e=.returned (.bool (fj sg.1 xs))/\w'=w:=by
 obtain⟨vt,vg,vl,vb,h1,h2,_⟩:=hF;obtain⟨ts,Ao⟩:=aja sg.1;rw[Ao]at h2 hl ⊢;have c0:=h1.cell 0;simp at c0;have lv:=h1.lt;obtain⟨aq,capq,oI,_,_⟩:=aG h2;rw[oI]at c0;have BL:∀k (h:k<ts.length),∃gq,aq=some ⟨gq,0,none⟩/\w.cell? ⟨gq,k,none⟩=some (.int .i64 ts[k]):=fun k hk=>by
  rcases h2.cases with⟨_,e⟩|⟨gq,cp,e1,e2⟩
  ·rw[e]at hk;simp at hk
  rw[oI]at e1;cases e1;exact⟨gq,rfl,e2 k _ (by simp[aV,gEg hk])⟩
 by_cases aQ:ts.length=xs.length
 ·obtain⟨n,hn⟩:=aja ts.length;rw[<-aQ,hn];rw[hn]at c0;have HN:Hid _:=hn;have HX:Hid (xs.length=n):=by show _=_;omega
  have HT:Hid _:=BL;have HA:Hid _:=ha;have uJ:(n:Int)<=6:=by omega
  obtain⟨b,hb⟩:=aja (fj ts xs);rw[hb];have HB:Hid _:=hb;clear hn aQ BL ha h1 h2 oI Ao hb hl;go_enter func57,ntmps57;go_wp2_with fail;go_loopw [5] (fun i wr=>∃k:Nat,i=.int .i64 k/\k<=n/\wr=w/\fj (ts.drop k) (xs.drop k)=b) (fun i _=>n-(intOf i).toNat)
  case atStart=>exact⟨0,rfl,ajl _,rfl,by simpa using HB.out⟩
  case round=>
   obtain⟨k,rfl,hk,rfl,i7⟩:=hrel;by_cases bM:k<n
   ·have pB:(k:Int)<(n:Int):=by omega
    have ME:k<ts.length:=by rw[HN.out];exact bM
    have PV:k<xs.length:=by rw[HX.out];exact bM
    obtain⟨bA,o,rfl,BK,cZ⟩:=HA.out (by omega);obtain⟨gq,rfl,t2⟩:=HT.out k ME;have x1:=cZ k PV;rw[zL ME PV]at i7;obtain⟨t,ht⟩:=aja (ts[k]);obtain⟨x,hx⟩:=aja (xs[k]);rw[ht]at t2 i7;rw[hx]at x1 i7;have qQ:Hid _:=i7;clear cZ ht hx i7;by_cases h1:t=1
    ·subst h1;by_cases r1:x < -2147483648
     ·have hb:b=false:=by
       rw[<-qQ.out];have:(x==IntKind.i32.wrap x)=false:=by
        cases hq:(x==IntKind.i32.wrap x)
        ·rfl
        have:=pY.1 hq;omega
       simp[this]
      subst hb;go_wp2_with fail;go_ret;exact⟨rfl,rfl⟩
     by_cases r2:x<2147483648
     ·have hb:fj (ts.drop (k+1)) (xs.drop (k+1))=b:=by rw[<-qQ.out,pY.2 ⟨by omega,r2⟩];simp
      have LV:Hid _:=hb;clear hb;have r3:-2147483648<=x:=by omega
      go_wp2_with fail;go_roundw
      case rel=>exact⟨k+1,by simp,by omega,by trivial,LV.out⟩
      case measure=>simp[intOf];omega
     have hb:b=false:=by
      rw[<-qQ.out];have:(x==IntKind.i32.wrap x)=false:=by
       cases hq:(x==IntKind.i32.wrap x)
       ·rfl
       have:=pY.1 hq;omega
      simp[this]
     subst hb;have r3:2147483648<=x:=by omega
     have r4:-2147483648<=x:=by omega
     go_wp2_with fail;go_ret;exact⟨rfl,rfl⟩
    have b1:((t:Int)==1)=false:=beqn (by omega);have hb:fj (ts.drop (k+1)) (xs.drop (k+1))=b:=by
     rw[<-qQ.out];have:(t==1)=false:=by rw[ajt];exact h1
     rw[this];simp
    have LV:Hid _:=hb;clear h1 hb;go_wp2_with fail;go_roundw
    case rel=>exact⟨k+1,by simp,by omega,by trivial,LV.out⟩
    case measure=>simp[intOf];omega
   obtain rfl:k=n:=by omega
   rw[List.drop_of_length_le (by rw[HN.out];exact nLr _),List.drop_of_length_le (by rw[HX.out];exact nLr _)]at i7;have hb:b=true:=i7.symm;subst hb;clear i7;go_wp2_with fail;go_ret;exact⟨rfl,rfl⟩
 have C0:=tY aQ;rw[C0];have b1:((xs.length:Int)==(ts.length:Int))=false:=beqn (by omega);have b2:((xs.length:Int) != (ts.length:Int))=true:=by simp[bne,b1]
 obtain⟨nx,ph⟩:=aja xs.length;obtain⟨nt,ld⟩:=aja ts.length;rw[ph]at b1 b2 ⊢;rw[ld]at b1 b2 c0;clear C0 aQ BL ha h1 h2 oI Ao hl ph ld;go_enter func57,ntmps57;go_wp2_with fail;go_ret;exact⟨rfl,rfl⟩
def fH(w:World)(v:Value)(l:List Int):Prop:=∃a cap,v=.slice a l.length cap/\∀j (h:j<l.length),∃g o,a=some ⟨g,o,none⟩/\g<w.heap.size/\w.cell? ⟨g,o+j,none⟩=some (.int .i64 l[j])
theorem rA{w:World}{va vb:Value}{l:List Int}(ha:fH w va l)(hb:fH w vb l)(hl:l.length<=1000000):Calls prog 38 #[va,vb] w fun e w'=>e=.returned (.bool true)/\∃m,w'=w.drewN m:=by
 obtain⟨a,ca,rfl,ha⟩:=ha;obtain⟨b,cb,rfl,hb⟩:=hb;obtain⟨n,hn⟩:=aja l.length;rw[hn];have HN:Hid _:=hn;have HA:Hid _:=ha;have HB:Hid _:=hb;have In:(n:Int)<=1000000:=by omega
 clear hn ha hb hl;go_enter func38,ntmps38;go_wp2_with fail;go_loopw [5] (fun i wr=>∃k m:Nat,i=.int .i64 k/\k<=n/\wr=w.drewN m) (fun i _=>n-(intOf i).toNat)
 case atStart=>exact⟨0,0,rfl,ajl _,rfl⟩
 case round=>
  obtain⟨k,m,rfl,hk,rfl⟩:=hrel;by_cases bM:k<n
  ·have pB:(k:Int)<(n:Int):=by omega
   have jl:k<l.length:=by rw[HN.out];exact bM
   obtain⟨g1,o1,rfl,a1,a2⟩:=HA.out k jl;obtain⟨g2,o2,rfl,b1,b2⟩:=HB.out k jl;obtain⟨x,hx⟩:=aja (l[k]);rw[hx]at a2 b2;clear hx;go_wp2_with fail;go_quiet (fail)
   go_wp2_with fail;go_roundw
   case rel=>exact⟨k+1,_,by simp,by omega,rfl⟩
   case measure=>simp[intOf];omega
  obtain rfl:k=n:=by omega
  go_wp2_with fail;go_ret;exact⟨rfl,m,rfl⟩
theorem xL{w:World}{va vb:Value}{l:List Int}(ha:fH w va l)(hb:fH w vb l)(hl:l.length<=100000000):Calls prog 40 #[va,vb] w fun e w'=>e=.returned (.bool true)/\∃m,w'=w.drewN m:=by
 obtain⟨a,ca,rfl,ha⟩:=ha;obtain⟨b,cb,rfl,hb⟩:=hb;obtain⟨n,hn⟩:=aja l.length;rw[hn];have HN:Hid _:=hn;have HA:Hid _:=ha;have HB:Hid _:=hb;have In:(n:Int)<=100000000:=by omega
 clear hn ha hb hl;go_enter func40,ntmps40;go_wp2_with fail;go_loopw [5] (fun i wr=>∃k m:Nat,i=.int .i64 k/\k<=n/\wr=w.drewN m) (fun i _=>n-(intOf i).toNat)
 case atStart=>exact⟨0,0,rfl,ajl _,rfl⟩
 case round=>
  obtain⟨k,m,rfl,hk,rfl⟩:=hrel;by_cases bM:k<n
  ·have pB:(k:Int)<(n:Int):=by omega
   have jl:k<l.length:=by rw[HN.out];exact bM
   obtain⟨g1,o1,rfl,a1,a2⟩:=HA.out k jl;obtain⟨g2,o2,rfl,b1,b2⟩:=HB.out k jl;obtain⟨x,hx⟩:=aja (l[k]);rw[hx]at a2 b2;clear hx;go_wp2_with fail;go_quiet (fail)
   go_wp2_with fail;go_roundw
   case rel=>exact⟨k+1,_,by simp,by omega,rfl⟩
   case measure=>simp[intOf];omega
  obtain rfl:k=n:=by omega
  go_wp2_with fail;go_ret;exact⟨rfl,m,rfl⟩
