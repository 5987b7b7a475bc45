import Derived.Test.YtjbdgbdcnjopkaaGreatDoorS37
namespace Go.Proofs.YtjbdgbdcnjopkaaGreatDoor
open Go.RowKit Tryz
set_option linter.all false
set_option maxRecDepth 100000
set_option maxHeartbeats 4000000
section
variable {w w' w2:World}{c W f gl m left ay e waits a:Nat}{ended:Bool}{L S:List TV}{num:Int}{v2 v3 v4 v5 v6 v7:Value}
theorem pS.set2{cs:Array Value}{i t:Nat}{n:Int}(h:pS cs L)(hi:i<L.length):pS ((cs.setIfInBounds (i*2) (.int .i64 t)).setIfInBounds (i*2+1) (.int .i64 n)) (L.set i (t,n)):=by
 obtain⟨x1,x2⟩:=h i hi;have s1:=(Array.getElem?_eq_some_iff.1 x1).1;have s2:=(Array.getElem?_eq_some_iff.1 x2).1;intro j hj;simp only[List.length_set]at hj;by_cases e:j=i
 ·subst e;simp only[List.getElem_set_self];rw[aje (by omega),ajf s1,ajf (by simpa using s2)];exact⟨rfl,rfl⟩
 rw[List.getElem_set_ne (by omega)];rw[aje (by omega),aje (by omega),aje (by omega),aje (by omega)];exact h j hj
theorem aI.setL{i t:Nat}{n:Int}(h:aI w c W f gl L S)(hi:i<L.length):aI ((w.setCell ⟨gl,i*2,none⟩ (.int .i64 t)).setCell ⟨gl,i*2+1,none⟩ (.int .i64 n)) c W f gl (L.set i (t,n)) S/\w.grownBy ((w.setCell ⟨gl,i*2,none⟩ (.int .i64 t)).setCell ⟨gl,i*2+1,none⟩ (.int .i64 n)) (some gl):=by
 obtain⟨vL,vS,h1,h2,h3⟩:=h;have hg:=aB (aD w gl (i*2) (.int .i64 t)) (aD _ gl (i*2+1) (.int .i64 n));refine⟨?_,hg⟩;rcases h2 with⟨_,hh,_⟩|⟨cap,cs,rfl,q2,q3,q4⟩
 ·rw[hh]at hi;simp at hi
 refine⟨_,vS,aF hg q2 h1 (by decide),.inr ⟨cap,_,by rw[List.length_set],(q2.set _ _).set _ _,by simpa using q3,q4.set2 hi⟩,h3.keep fun g cs' ec hb=>hb.grown hg (by simpa using ec)⟩
theorem adw{op i t:Nat}(ho:op=15\/op=16){n:Int}{ai:List Nat}{ax stop:Nat}{sig:Sig}(hi:i<L.length)(bM:ai[i]?=some t)(xQ:ky w f sig ai ax stop)(hn:Blk w a #[.int .i64 op,.int .i64 i,v2,v3,v4,v5,v6,v7] 157)(hc:aI w c W f gl L (S++[(t,n)]))(hm:cE w W m left ay false e waits)(hS:S.length<=900000)(hL:L.length<=1000)(ol:ai.length<=1000):Calls prog 126 #[ptr c,ptr a] w fun r w'=>r=.returned (.tuple #[])/\nE w w' c W f gl (L.set i (t,n)) (if op=16 then S++[(t,n)] else S) m left ay e waits:=by
 obtain⟨v0,uG⟩:∃v0:Value,Value.int .i64 (op:Int)=v0:=⟨_,rfl⟩;rw[uG]at hn;have k0:=hn.cell 0;have k1:=hn.cell 1;simp at k0 k1;have HV0:Hid (v0=.int .i64 (op:Int)):=uG.symm;rw[<-uG]at k0;clear uG;have dW:=hn.lt;rcases ho with rfl|rfl;all_goals
  first|rw[ajd rfl]|rw[ajc (by decide)]
  first|simp only[show ((15:Nat):Int)=15 from rfl]at k0 HV0|simp only[show ((16:Nat):Int)=16 from rfl]at k0 HV0
  have hP:=lF (w:=w.drew) (t':=t) (show aI w.drew c W f gl L (S++[(t,n)]) from hc) (.inr rfl) (by omega)
  have HC:Hid (aI w c W f gl L (S++[(t,n)])):=hc;obtain⟨vL,vS,h1,h2,h3⟩:=hc;have H1:Hid _:=h1;have UO:Hid (∃g0 cap0,vS=.slice (some ⟨g0,0,none⟩) (S.length+1) cap0/\g0<w.heap.size):=by obtain⟨g,cap,e1,_,_,_,_,e2,_⟩:=h3.last;exact⟨g,cap,e1,e2⟩
  have iX:=h1.lt;obtain⟨vt,vg,vl,vb,g1,g2,g3,g4⟩:=xQ;have F1:=g1.cell 2;simp at F1;have lv:=g1.lt;have c1:=h1.cell 1;simp at c1;rcases g4.cases with⟨_,oH⟩|⟨gq,capq,rfl,Qt⟩
  ·rw[oH]at bM;simp at bM
  have lx:=(gEs.1 bM).1;have yq:=Qt i (.int .i64 t) (by simp[aV,bM]);obtain⟨NL,Ix⟩:=aja ai.length;obtain⟨csq,om⟩:∃cs,Blk w gq cs 3:=(ba g4 gq (by simp[Value.ownBlock])).2;have UP:=om.lt;rw[Ix]at F1 lx ol g1;have UQ:(i:Int)<(NL:Int):=by omega
  have HP:Hid _:=hP;have HN:Hid _:=hn;have HM:Hid _:=hm;have HG:Hid _:=g1;have HQ:Hid _:=om;have UR:Hid _:=hi;clear hP h1 h2 h3 g1 g2 g3 g4 Qt bM Ix hn hm om hi;have LE:Hid (cE (w.alloc (.cells #[.int .i64 0,.int .i64 0] 134)).drew W m left ay false e waits):=Blk.alloc HM.out _;have GA:Hid (Blk (w.alloc (.cells #[.int .i64 0,.int .i64 0] 134)).drew w.heap.size #[.int .i64 0,.int .i64 0] 134):=Blk.new _ _ _;have uZ:Hid (aI (w.alloc (.cells #[.int .i64 0,.int .i64 0] 134)).drew c W f gl L (S++[(t,n)])):=HC.out.grown (aE (aC _ _ _));have Qu:Hid _:=lF (t':=t) uZ.out (.inr rfl) (by omega);have Qv:Hid (∀w2:World,w.drew.grownBy w2 (some c)->w2.cell? ⟨c,1,none⟩=w.drew.cell? ⟨c,1,none⟩->(w2.cell? ⟨c,1,none⟩=some (ptr f)/\w2.cell? ⟨f,2,none⟩=some (.slice (some ⟨gq,0,none⟩) NL capq)/\w2.cell? ⟨a,1,none⟩=some (.int .i64 i)/\w2.cell? ⟨gq,i,none⟩=some (.int .i64 t))):=fun w2 aP mD=>⟨mD.trans c1,(((aI.wrote (w:=w.drew) HC.out aP (show Blk w.drew f _ 49 from HG.out) (by decide)).cell 2).trans (by simp)),(((aI.wrote (w:=w.drew) HC.out aP (show Blk w.drew a _ 157 from HN.out) (by decide)).cell 1).trans (by simp)),(((aI.wrote (w:=w.drew) HC.out aP (show Blk w.drew gq _ 3 from HQ.out) (by decide)).cell _).trans ((Blk.cell HQ.out _).symm.trans yq))⟩
  have Qw:Hid (∀w2:World,(w.alloc (.cells #[.int .i64 0,.int .i64 0] 134)).drew.grownBy w2 (some c)->w2.cell? ⟨c,1,none⟩=(w.alloc (.cells #[.int .i64 0,.int .i64 0] 134)).drew.cell? ⟨c,1,none⟩->(w2.cell? ⟨c,1,none⟩=some (ptr f)/\w2.cell? ⟨f,2,none⟩=some (.slice (some ⟨gq,0,none⟩) NL capq)/\w2.cell? ⟨a,1,none⟩=some (.int .i64 i)/\w2.cell? ⟨gq,i,none⟩=some (.int .i64 t))):=fun w2 aP mD=>⟨mD.trans (by
    obtain⟨vL,vS,q1,_⟩:=uZ.out
    have:=q1.cell 1
    simpa using this),(((aI.wrote uZ.out aP (show Blk (w.alloc (.cells #[.int .i64 0,.int .i64 0] 134)).drew f _ 49 from Blk.alloc HG.out _) (by decide)).cell 2).trans (by simp)),(((aI.wrote uZ.out aP (show Blk (w.alloc (.cells #[.int .i64 0,.int .i64 0] 134)).drew a _ 157 from Blk.alloc HN.out _) (by decide)).cell 1).trans (by simp)),(((aI.wrote uZ.out aP (show Blk (w.alloc (.cells #[.int .i64 0,.int .i64 0] 134)).drew gq _ 3 from Blk.alloc HQ.out _) (by decide)).cell _).trans ((Blk.cell HQ.out _).symm.trans yq))⟩
  have OI:Hid (∀w2:World,(w2.cell? ⟨c,1,none⟩=some (ptr f)/\w2.cell? ⟨f,2,none⟩=some (.slice (some ⟨gq,0,none⟩) NL capq)/\w2.cell? ⟨a,1,none⟩=some (.int .i64 i)/\w2.cell? ⟨gq,i,none⟩=some (.int .i64 t))->(((w2.setCell ⟨w.heap.size,0,none⟩ (.int .i64 t)).setCell ⟨w.heap.size,1,none⟩ (.int .i64 n)).cell? ⟨c,1,none⟩=some (ptr f)/\((w2.setCell ⟨w.heap.size,0,none⟩ (.int .i64 t)).setCell ⟨w.heap.size,1,none⟩ (.int .i64 n)).cell? ⟨f,2,none⟩=some (.slice (some ⟨gq,0,none⟩) NL capq)/\((w2.setCell ⟨w.heap.size,0,none⟩ (.int .i64 t)).setCell ⟨w.heap.size,1,none⟩ (.int .i64 n)).cell? ⟨a,1,none⟩=some (.int .i64 i)/\((w2.setCell ⟨w.heap.size,0,none⟩ (.int .i64 t)).setCell ⟨w.heap.size,1,none⟩ (.int .i64 n)).cell? ⟨gq,i,none⟩=some (.int .i64 t))):=fun w2 ⟨a1,a2,a3,a4⟩=>⟨by rw[World.cell?_setCell_far _ _ _ _ (by simp;omega),World.cell?_setCell_far _ _ _ _ (by simp;omega)];exact a1,by rw[World.cell?_setCell_far _ _ _ _ (by simp;omega),World.cell?_setCell_far _ _ _ _ (by simp;omega)];exact a2,by rw[World.cell?_setCell_far _ _ _ _ (by simp;omega),World.cell?_setCell_far _ _ _ _ (by simp;omega)];exact a3,by rw[World.cell?_setCell_far _ _ _ _ (by simp;omega),World.cell?_setCell_far _ _ _ _ (by simp;omega)];exact a4⟩;have Qx:Hid (∀w2:World,Blk w2 w.heap.size #[.int .i64 0,.int .i64 0] 134->Blk ((w2.setCell ⟨w.heap.size,0,none⟩ (.int .i64 t)).setCell ⟨w.heap.size,1,none⟩ (.int .i64 n)) w.heap.size #[.int .i64 t,.int .i64 n] 134):=fun w2 hb=>by have:=(hb.set 0 (.int .i64 t)).set 1 (.int .i64 n);simpa using this
  have Qy:Hid (∀w2:World,(w.alloc (.cells #[.int .i64 0,.int .i64 0] 134)).drew.grownBy w2 (some c)->aI w2 c W f gl L S->Blk w2 w.heap.size #[.int .i64 0,.int .i64 0] 134->(∀g cap,(w.alloc (.cells #[.int .i64 0,.int .i64 0] 134)).drew.cell? ⟨c,3,none⟩=some (.slice (some ⟨g,0,none⟩) (S.length+1) cap)->w2.cell? ⟨c,3,none⟩=some (.slice (some ⟨g,0,none⟩) S.length cap))->aI ((w2.setCell ⟨w.heap.size,0,none⟩ (.int .i64 t)).setCell ⟨w.heap.size,1,none⟩ (.int .i64 n)) c W f gl L S/\cE ((w2.setCell ⟨w.heap.size,0,none⟩ (.int .i64 t)).setCell ⟨w.heap.size,1,none⟩ (.int .i64 n)) W m left ay false e waits/\Fc c W gl w ((w2.setCell ⟨w.heap.size,0,none⟩ (.int .i64 t)).setCell ⟨w.heap.size,1,none⟩ (.int .i64 n))/\Blk ((w2.setCell ⟨w.heap.size,0,none⟩ (.int .i64 t)).setCell ⟨w.heap.size,1,none⟩ (.int .i64 n)) a #[v0,.int .i64 i,v2,v3,v4,v5,v6,v7] 157):=fun w2 aP fc df lj=>by
   have dU:=aB (aD w2 w.heap.size 0 (.int .i64 t)) (aD _ w.heap.size 1 (.int .i64 n));have qm:(w.alloc (.cells #[.int .i64 0,.int .i64 0] 134)).grownBy w2 (some c):=bj aP;have US:cE w2 W m left ay false e waits:=cE.wroteC LE.out uZ.out aP;have UT:=aI.wrote uZ.out aP (show Blk (w.alloc (.cells #[.int .i64 0,.int .i64 0] 134)).drew a _ 157 from Blk.alloc HN.out _) (by decide)
   refine⟨?_,aF dU df US (by decide),⟨?_,?_,?_,?_,?_⟩,aF dU df UT (by decide)⟩
   ·obtain⟨vL',vS',q1,q2,q3⟩:=fc;have xS:=HC.out.lt.2;obtain⟨g0,cap0,Sz⟩:=UO.out;have hz:=lj g0 cap0 (by
     obtain⟨u1,u2,u3,_⟩:=uZ.out
     rw[u3.cell]
     have u4:=(Blk.alloc H1.out (.cells #[.int .i64 0,.int .i64 0] 134)).symm.trans u3
     cases u4
     simpa using Sz.1)
    rw[q1.cell]at hz;simp at hz;subst hz;refine⟨vL',_,aF dU df q1 (by decide),q2.keep (fun cs hb=>hb.grown dU (by simp;omega)),?_⟩;rcases q3 with⟨e1,_⟩|⟨g',cap',cs,e1,e2,e3⟩
    ·cases e1
    cases e1;exact .inr ⟨g0,cap0,cs,rfl,e2.grown dU (by simp;omega),e3⟩
   ·exact dU.os.trans qm.os
   ·exact dU.tape.trans qm.tape
   ·exact dU.output.trans qm.output
   ·have:=dU.size;have:=qm.size;simp at this;omega
   intro j hj h1 h2 h3;have x1:=dU.block j (by have:=qm.size;simp at this;omega) (by simp;omega);have x2:=qm.block j (by simp;omega) (by simp;omega);have x3:=(aC w (.cells #[.int .i64 0,.int .i64 0] 134) none).block j hj (by simp);exact x1.trans (x2.trans x3)
  go_enter func126,ntmps126;go_upto_region 16 with fail
  go_cut [7] from 76 to 162 (fun s7 wc=>∃b7,s7=ptr b7/\Blk wc b7 #[.int .i64 t,.int .i64 n] 134/\w.heap.size<=b7/\aI wc c W f gl L S/\cE wc W m left ay false e waits/\Fc c W gl w wc/\Blk wc a #[v0,.int .i64 i,v2,v3,v4,v5,v6,v7] 157)
  case first=>
   go_region_held (fun w2=>w2.cell? ⟨c,1,none⟩=some (ptr f)/\w2.cell? ⟨f,2,none⟩=some (.slice (some ⟨gq,0,none⟩) NL capq)/\w2.cell? ⟨a,1,none⟩=some (.int .i64 i)/\w2.cell? ⟨gq,i,none⟩=some (.int .i64 t)) (first|assumption|exact OI.out _ (by assumption)|go_keep) ((first
    | (go_at_call 124;refine Calls.mono HP.out ?_;rintro e1 w2 ⟨rfl,aP,fc,lg,mD,lj⟩;have gY:w2.cell? ⟨c,1,none⟩=some (ptr f)/\w2.cell? ⟨f,2,none⟩=some (.slice (some ⟨gq,0,none⟩) NL capq)/\w2.cell? ⟨a,1,none⟩=some (.int .i64 i)/\w2.cell? ⟨gq,i,none⟩=some (.int .i64 t):=Qv.out w2 aP mD)
    | (go_at_call 124;refine Calls.mono Qu.out ?_;rintro e1 w2 ⟨rfl,aP,fc,lg,mD,lj⟩;have gY:w2.cell? ⟨c,1,none⟩=some (ptr f)/\w2.cell? ⟨f,2,none⟩=some (.slice (some ⟨gq,0,none⟩) NL capq)/\w2.cell? ⟨a,1,none⟩=some (.int .i64 i)/\w2.cell? ⟨gq,i,none⟩=some (.int .i64 t):=Qw.out w2 aP mD;have df:=aI.wrote (w:=(w.alloc (.cells #[.int .i64 0,.int .i64 0] 134)).drew) uZ.out aP GA.out (by decide);obtain⟨y1,y2,y3,y4,y5⟩:=gJ df)))
   all_goals
    go_wp2_with fail;go_meet
    first
     |exact⟨w2.heap.size,rfl,Blk.new _ _ _,by have:=aP.size;exact this,fc.grown (aC _ _ _),Blk.alloc (cE.wroteC (w:=w.drew) HM.out HC.out aP) _,(Fc.call (show w.grownBy w2 (some c) from bj aP)).trans (Fc.none (aC _ _ _)),(aI.wrote (w:=w.drew) HC.out aP (show Blk w.drew a _ 157 from HN.out) (by decide)).alloc _⟩
     |exact⟨w.heap.size,rfl,Qx.out _ df,nLr _,Qy.out w2 aP fc df lj⟩
  case rest=>
   obtain⟨w3,rfl⟩:∃z,z=wc:=⟨wc,rfl⟩;obtain⟨b7,rfl,rH,UU,gz,md,et,vB⟩:=hcut;have xS:=HC.out.lt.2;have H3:=gz;obtain⟨vL3,vS3,q1,q2,q3⟩:=H3;have o8:=UR.out;rcases q2 with⟨_,MK,_⟩|⟨cap3,cs3,rfl,q4,q5,q6⟩
   ·rw[MK]at o8;simp at o8
   obtain⟨N,hN⟩:=aja L.length;have Gb:Hid _:=hN;obtain⟨z1,z2⟩:=q6 i o8;rw[hN]at q1 q5 o8;have u1:=q4.cell (i*2);have u2:=q4.cell (i*2+1);rw[z1]at u1;rw[z2]at u2;have u3:=q4.frozen (i*2);have u4:=q4.frozen (i*2+1);have u5:=q4.lt;have c2:=q1.cell 2;simp at c2;have k0':=vB.cell 0;have k1':=vB.cell 1;simp at k0' k1';rw[HV0.out]at k0';obtain⟨p1,p2,p3,p4,p5⟩:=gJ rH;have ec:gl≠b7:=by omega
   have Ir:a≠gl:=jP vB q4 (by decide);have lm:gl≠a:=fun q=>Ir q.symm;have UV:b7≠gl:=by omega
   have UW:(i:Int)<(N:Int):=by omega
   have UX:=vB.lt;have JC:=q1.lt;have UY:Hid _:=gz;have UZ:Hid _:=md;have GB:Hid _:=et;have Nx:Hid _:=q4;have HA3:Hid _:=vB;have U0:Hid _:=rH;obtain⟨o1,ym⟩:∃o1:Value,Value.int IntKind.i64 ((L[i]'(by rw[Gb.out];exact o8)).1:Int)=o1:=⟨_,rfl⟩;obtain⟨o2,BJ⟩:∃o2:Value,Value.int IntKind.i64 (L[i]'(by rw[Gb.out];exact o8)).2=o2:=⟨_,rfl⟩;rw[ym]at u1;rw[BJ]at u2;clear hN z1 z2 q1 q3 q4 q6 gz md et vB rH k0 k1 c1 F1 yq ym BJ HP Qu Qv Qw OI Qx Qy GA uZ LE;go_wp2_with fail;go_region
   all_goals
    go_wp2_with fail;have bY:=aI.setL (t:=t) (n:=n) UY.out (by rw[Gb.out];exact o8);first
     | (go_end0;exact⟨rfl,(GB.out.trans (Fc.locs bY.2)).trans (Fc.none (aE (aH _ _))),bY.1,aF (aE bY.2) Nx.out UZ.out (by decide)⟩)
     | (have zr:cE ((w3.setCell ⟨gl,i*2,none⟩ (.int .i64 t)).setCell ⟨gl,i*2+1,none⟩ (.int .i64 n)).drew W m left ay false e waits:=aF (aE bY.2) Nx.out UZ.out (by decide);have Pz:aI ((w3.setCell ⟨gl,i*2,none⟩ (.int .i64 t)).setCell ⟨gl,i*2+1,none⟩ (.int .i64 n)).drew c W f gl (L.set i (t,n)) S:=bY.1;have og:=Ds (t:=t) (n:=n) Pz (by omega);refine og.mono ?_;clear og;rintro e5 w5 ⟨rfl,jA,pm⟩;have qn:=zr.wroteC Pz jA;have iv:=((GB.out.trans (Fc.locs bY.2)).trans (Fc.none (aE (aH _ _)))).trans (Fc.call jA);clear bY zr jA Pz;go_wp2_with fail;go_end0;exact⟨rfl,iv,pm,qn⟩)
end
