import Derived.Test.YtjbdgbdcnjopkaaGreatDoorS11
namespace Go.Proofs.YtjbdgbdcnjopkaaGreatDoor
open Go.RowKit Tryz
set_option linter.all false
set_option maxRecDepth 100000
set_option maxHeartbeats 4000000
section
variable {az l:Nat}{vm vloc:Value}{tb:List Nat}{ar:Nat}{vs vf vp:Value}{w:World}{s:LSt}{m:bf}{ai:List Nat}
structure db(s:LSt):Prop where
 ae:mP s
 stack2:∀t∈s.af,t<=2
 names:∀f∈s.ae,f.au<=40
 ao:∀f∈s.ae,f.au=4->∃k:Nat,f.ao=k/\k<s.ay.length
 below:∀f∈s.ae,f.am<=s.af.length
 mono:(s.ae.map (·.am)).Pairwise (·<=·)
structure fR(m:bf)(ai:List Nat)(s:LSt)(st:aX):Prop where
 aj:st.aa.aj<=2
 of:st.aa.of<=2
 ak:st.aa.ak<=2
 opens:st.aa.au=2\/st.aa.au=3\/st.aa.au=4->∃g,st.idx.head?=some g/\g<m.sigs.length
 jumps:st.aa.au=0\/st.aa.au=7\/st.aa.au=8\/st.aa.au=9\/st.aa.au=10->(∃x,dn s st.idx=some x)/\(∀i∈st.idx,i<s.ae.length)/\st.idx.length<=20
 calls:st.aa.au=11->∃f is,st.idx=f::is/\f<m.funs.length
 locs:st.aa.au=14\/st.aa.au=15\/st.aa.au=16->∃i is,st.idx=i::is/\i<ai.length
structure abc(az l:Nat)(vm vloc:Value)(tb:List Nat)(ar:Nat)(vs vf vp:Value)(w:World)(s:LSt)(m:bf)(ai:List Nat)(v:Value)(st:aX):Prop where
 h:LR az l vm vloc tb ar vs vf vp w s
 hm:dK az w vm m
 fQ:fM m
 hl:dG az w vloc ai
 mO:ai.length<=1000
 jD:∀t∈ai,t<=2
 hv:ef w v st
 inv:db s
 hi:0<s.ae.length
 cT:0<s.ay.length
 hn:s.af.length<=80000
 fnd:fR m ai s st
theorem abc.pre{v:Value}{st:aX}(D:abc az l vm vloc tb ar vs vf vp w s m ai v st):∃a n c W f,v=.agg #[.int .i64 st.aa.au,.int .i64 st.aa.ab,.int .i64 st.aa.aj,.int .i64 st.aa.of,.int .i64 st.aa.ak,.slice a n c,.int .i64 st.num,.int .i64 st.next]/\W=w.alloc (.cells #[.int .i64 st.aa.au,.int .i64 st.aa.ab,.int .i64 st.aa.aj,.int .i64 st.aa.of,.int .i64 st.aa.ak,.slice a n c,.int .i64 st.num,.int .i64 st.next] 202)/\az<=w.heap.size/\LR az l vm vloc tb ar vs vf vp W s/\bc az w W/\dK az W vm m/\dG az W vloc ai/\ef W v st/\s.ae.getLast?=some f:=by
 obtain⟨h,hm,fQ,hl,mO,jD,hv,inv,hi,cT,hn,fnd⟩:=D;obtain⟨a,n,c,rfl,jE⟩:=hv;have hB:=h.base_le;have dW:=aC w (.cells #[.int .i64 st.aa.au,.int .i64 st.aa.ab,.int .i64 st.aa.aj,.int .i64 st.aa.of,.int .i64 st.aa.ak,.slice a n c,.int .i64 st.num,.int .i64 st.next] 202) none;have L0:=h.kept dW;have W0:=bc.none dW hB;have Al:=hm.kept W0.below;have kx:=hl.kept W0.below;have uG:ef (w.alloc (.cells #[.int .i64 st.aa.au,.int .i64 st.aa.ab,.int .i64 st.aa.aj,.int .i64 st.aa.of,.int .i64 st.aa.ak,.slice a n c,.int .i64 st.num,.int .i64 st.next] 202)) (.agg #[.int .i64 st.aa.au,.int .i64 st.aa.ab,.int .i64 st.aa.aj,.int .i64 st.aa.of,.int .i64 st.aa.ak,.slice a n c,.int .i64 st.num,.int .i64 st.next]) st:=⟨a,n,c,rfl,jE.keptB fun g c hb=>hb.alloc _⟩;obtain⟨f,hf⟩:∃f,s.ae.getLast?=some f:=by rw[ajk,gEg (by omega)];exact⟨_,rfl⟩
 exact⟨a,n,c,_,f,rfl,rfl,hB,L0,W0,Al,kx,uG,hf⟩
abbrev aaL(az l:Nat)(vm vloc:Value)(ar:Nat)(w:World)(s:LSt)(m:bf)(ai:List Nat)(v:Value)(st:aX):Prop:=Calls prog 104 #[.pointer (some ⟨l,0,none⟩),v] w fun e w'=>bc az w w'/\fh (doS ar m ai s st) (fun r e w'=>e=.returned (.tuple #[])/\∃tb',iQ az l vm vloc tb' ar w' r) e w'
theorem EU{v:Value}{st:aX}(D:abc az l vm vloc tb ar vs vf vp w s m ai v st)(aN:st.aa.au=2\/st.aa.au=3\/st.aa.au=4):aaL az l vm vloc ar w s m ai v st:=by
 obtain⟨a,n,c,W,f,rfl,rfl,hB,L0,W0,Al,kx,uG,hf⟩:=D.pre;obtain⟨h,hm,fQ,hl,mO,jD,hv,inv,hi,cT,hn,fnd⟩:=D;have fm:=ajm hf;have hh:=inv.below f fm;have qX:=inv.ao f fm;have oo:=inv.names f fm;have dL:Hid _:=aN;have hD:Hid (doS ar m ai s st=de ar m.sigs s st):=by show _=_;unfold doS;simp only;rcases aN with e|e|e <;> simp[e]
 obtain⟨g,hg,iB⟩:=fnd.opens aN;rcases aN with e|e|e
 ·have b2:((st.aa.au:Int)==2)=true:=by rw[e];rfl
  have b3:=ai9 e;clear e;go_enter func104,ntmps104;go_wp2_with fail;refine(qp L0 Al fQ uG hi hn hg iB dL.out).mono ?_;rintro e w2 ⟨W2,cO⟩;cases hy:de ar m.sigs s st with
  |error er=>
   cases cO.err hy;have hr:Hid (doS ar m ai s st=.error er):=by show _=_;rw[hD.out,hy]
   clear cO hD;go_wp2_with fail;exact⟨rfl,W0.trans W2,aK hr.out rfl⟩
  |ok r=>
   obtain⟨rfl,tb2,L2⟩:=cO.ok hy;have hr:Hid (doS ar m ai s st=.ok r):=by show _=_;rw[hD.out,hy]
   clear cO hD;go_wp2_with fail;go_end0;exact⟨W0.trans W2,aY hr.out ⟨rfl,tb2,L2⟩⟩
 ·have b2:((st.aa.au:Int)==2)=false:=by rw[e];rfl
  have b3:=ai9 e;clear e;go_enter func104,ntmps104;go_wp2_with fail;refine(qp L0 Al fQ uG hi hn hg iB dL.out).mono ?_;rintro e w2 ⟨W2,cO⟩;cases hy:de ar m.sigs s st with
  |error er=>
   cases cO.err hy;have hr:Hid (doS ar m ai s st=.error er):=by show _=_;rw[hD.out,hy]
   clear cO hD;go_wp2_with fail;exact⟨rfl,W0.trans W2,aK hr.out rfl⟩
  |ok r=>
   obtain⟨rfl,tb2,L2⟩:=cO.ok hy;have hr:Hid (doS ar m ai s st=.ok r):=by show _=_;rw[hD.out,hy]
   clear cO hD;go_wp2_with fail;go_end0;exact⟨W0.trans W2,aY hr.out ⟨rfl,tb2,L2⟩⟩
 have b2:((st.aa.au:Int)==2)=false:=by rw[e];rfl
 have b3:=ai9 e;clear e;go_enter func104,ntmps104;go_wp2_with fail;refine(qp L0 Al fQ uG hi hn hg iB dL.out).mono ?_;rintro e w2 ⟨W2,cO⟩;cases hy:de ar m.sigs s st with
 |error er=>
  cases cO.err hy;have hr:Hid (doS ar m ai s st=.error er):=by show _=_;rw[hD.out,hy]
  clear cO hD;go_wp2_with fail;exact⟨rfl,W0.trans W2,aK hr.out rfl⟩
 |ok r=>
  obtain⟨rfl,tb2,L2⟩:=cO.ok hy;have hr:Hid (doS ar m ai s st=.ok r):=by show _=_;rw[hD.out,hy]
  clear cO hD;go_wp2_with fail;go_end0;exact⟨W0.trans W2,aY hr.out ⟨rfl,tb2,L2⟩⟩
theorem Ja{v:Value}{st:aX}(D:abc az l vm vloc tb ar vs vf vp w s m ai v st)(aN:st.aa.au=5):aaL az l vm vloc ar w s m ai v st:=by
 obtain⟨a,n,c,W,f,rfl,rfl,hB,L0,W0,Al,kx,uG,hf⟩:=D.pre;obtain⟨h,hm,fQ,hl,mO,jD,hv,inv,hi,cT,hn,fnd⟩:=D;have fm:=ajm hf;have hh:=inv.below f fm;have qX:=inv.ao f fm;have oo:=inv.names f fm;have dL:Hid _:=aN;have hD:Hid (doS ar m ai s st=gU ar s):=by show _=_;unfold doS;simp only;simp[aN]
 have b2:=ai9 aN;clear aN;go_enter func104,ntmps104;go_wp2_with fail;refine(EO L0 hf inv.ae hh hn qX oo cT).mono ?_;rintro e w2 ⟨W2,cO⟩;cases hy:gU ar s with
 |error er=>
  cases cO.err hy;have hr:Hid (doS ar m ai s st=.error er):=by show _=_;rw[hD.out,hy]
  clear cO hD;go_wp2_with fail;exact⟨rfl,W0.trans W2,aK hr.out rfl⟩
 |ok r=>
  obtain⟨rfl,tb2,L2⟩:=cO.ok hy;have hr:Hid (doS ar m ai s st=.ok r):=by show _=_;rw[hD.out,hy]
  clear cO hD;go_wp2_with fail;go_end0;exact⟨W0.trans W2,aY hr.out ⟨rfl,tb2,L2⟩⟩
theorem ML{v:Value}{st:aX}(D:abc az l vm vloc tb ar vs vf vp w s m ai v st)(aN:st.aa.au=6):aaL az l vm vloc ar w s m ai v st:=by
 obtain⟨a,n,c,W,f,rfl,rfl,hB,L0,W0,Al,kx,uG,hf⟩:=D.pre;obtain⟨h,hm,fQ,hl,mO,jD,hv,inv,hi,cT,hn,fnd⟩:=D;have fm:=ajm hf;have hh:=inv.below f fm;have qX:=inv.ao f fm;have oo:=inv.names f fm;have dL:Hid _:=aN;have hD:Hid (doS ar m ai s st=lq ar s):=by show _=_;unfold doS;simp only;simp[aN]
 have b2:=ai9 aN;clear aN;go_enter func104,ntmps104;go_wp2_with fail;refine(I3 L0 hf inv.ae hh hn qX oo).mono ?_;rintro e w2 ⟨W2,cO⟩;cases hy:lq ar s with
 |error er=>
  cases cO.err hy;have hr:Hid (doS ar m ai s st=.error er):=by show _=_;rw[hD.out,hy]
  clear cO hD;go_wp2_with fail;exact⟨rfl,W0.trans W2,aK hr.out rfl⟩
 |ok r=>
  obtain⟨rfl,tb2,L2⟩:=cO.ok hy;have hr:Hid (doS ar m ai s st=.ok r):=by show _=_;rw[hD.out,hy]
  clear cO hD;go_wp2_with fail;go_end0;exact⟨W0.trans W2,aY hr.out ⟨rfl,tb2,L2⟩⟩
theorem Jb{v:Value}{st:aX}(D:abc az l vm vloc tb ar vs vf vp w s m ai v st)(aN:st.aa.au=0\/st.aa.au=7\/st.aa.au=8\/st.aa.au=9\/st.aa.au=10):aaL az l vm vloc ar w s m ai v st:=by
 obtain⟨a,n,c,W,f,rfl,rfl,hB,L0,W0,Al,kx,uG,hf⟩:=D.pre;obtain⟨h,hm,fQ,hl,mO,jD,hv,inv,hi,cT,hn,fnd⟩:=D;have fm:=ajm hf;have hh:=inv.below f fm;have qX:=inv.ao f fm;have oo:=inv.names f fm;have dL:Hid _:=aN;have hD:Hid (doS ar m ai s st=eI ar s st):=by show _=_;unfold doS;simp only;rcases aN with e|e|e|e|e <;> simp[e]
 obtain⟨⟨x,hx⟩,eW,aQ⟩:=fnd.jumps aN;rcases aN with e|e|e|e|e
 ·have b2:((st.aa.au:Int)==2)=false:=by rw[e];rfl
  have b3:=ai9 e;clear e;go_enter func104,ntmps104;go_wp2_with fail;refine(mQ L0 uG hf hh inv.ae hn hx eW aQ dL.out).mono ?_;rintro e w2 ⟨W2,cO⟩;cases hy:eI ar s st with
  |error er=>
   cases cO.err hy;have hr:Hid (doS ar m ai s st=.error er):=by show _=_;rw[hD.out,hy]
   clear cO hD;go_wp2_with fail;exact⟨rfl,W0.trans W2,aK hr.out rfl⟩
  |ok r=>
   obtain⟨rfl,L2⟩:=cO.ok hy;have hr:Hid (doS ar m ai s st=.ok r):=by show _=_;rw[hD.out,hy]
   clear cO hD;go_wp2_with fail;go_end0;exact⟨W0.trans W2,aY hr.out ⟨rfl,tb,L2⟩⟩
 ·have b2:((st.aa.au:Int)==2)=false:=by rw[e];rfl
  have b3:=ai9 e;clear e;go_enter func104,ntmps104;go_wp2_with fail;refine(mQ L0 uG hf hh inv.ae hn hx eW aQ dL.out).mono ?_;rintro e w2 ⟨W2,cO⟩;cases hy:eI ar s st with
  |error er=>
   cases cO.err hy;have hr:Hid (doS ar m ai s st=.error er):=by show _=_;rw[hD.out,hy]
   clear cO hD;go_wp2_with fail;exact⟨rfl,W0.trans W2,aK hr.out rfl⟩
  |ok r=>
   obtain⟨rfl,L2⟩:=cO.ok hy;have hr:Hid (doS ar m ai s st=.ok r):=by show _=_;rw[hD.out,hy]
   clear cO hD;go_wp2_with fail;go_end0;exact⟨W0.trans W2,aY hr.out ⟨rfl,tb,L2⟩⟩
 ·have b2:((st.aa.au:Int)==2)=false:=by rw[e];rfl
  have b3:=ai9 e;clear e;go_enter func104,ntmps104;go_wp2_with fail;refine(mQ L0 uG hf hh inv.ae hn hx eW aQ dL.out).mono ?_;rintro e w2 ⟨W2,cO⟩;cases hy:eI ar s st with
  |error er=>
   cases cO.err hy;have hr:Hid (doS ar m ai s st=.error er):=by show _=_;rw[hD.out,hy]
   clear cO hD;go_wp2_with fail;exact⟨rfl,W0.trans W2,aK hr.out rfl⟩
  |ok r=>
   obtain⟨rfl,L2⟩:=cO.ok hy;have hr:Hid (doS ar m ai s st=.ok r):=by show _=_;rw[hD.out,hy]
   clear cO hD;go_wp2_with fail;go_end0;exact⟨W0.trans W2,aY hr.out ⟨rfl,tb,L2⟩⟩
 ·have b2:((st.aa.au:Int)==2)=false:=by rw[e];rfl
  have b3:=ai9 e;clear e;go_enter func104,ntmps104;go_wp2_with fail;refine(mQ L0 uG hf hh inv.ae hn hx eW aQ dL.out).mono ?_;rintro e w2 ⟨W2,cO⟩;cases hy:eI ar s st with
  |error er=>
   cases cO.err hy;have hr:Hid (doS ar m ai s st=.error er):=by show _=_;rw[hD.out,hy]
   clear cO hD;go_wp2_with fail;exact⟨rfl,W0.trans W2,aK hr.out rfl⟩
  |ok r=>
   obtain⟨rfl,L2⟩:=cO.ok hy;have hr:Hid (doS ar m ai s st=.ok r):=by show _=_;rw[hD.out,hy]
   clear cO hD;go_wp2_with fail;go_end0;exact⟨W0.trans W2,aY hr.out ⟨rfl,tb,L2⟩⟩
 have b2:((st.aa.au:Int)==2)=false:=by rw[e];rfl
 have b3:=ai9 e;clear e;go_enter func104,ntmps104;go_wp2_with fail;refine(mQ L0 uG hf hh inv.ae hn hx eW aQ dL.out).mono ?_;rintro e w2 ⟨W2,cO⟩;cases hy:eI ar s st with
 |error er=>
  cases cO.err hy;have hr:Hid (doS ar m ai s st=.error er):=by show _=_;rw[hD.out,hy]
  clear cO hD;go_wp2_with fail;exact⟨rfl,W0.trans W2,aK hr.out rfl⟩
 |ok r=>
  obtain⟨rfl,L2⟩:=cO.ok hy;have hr:Hid (doS ar m ai s st=.ok r):=by show _=_;rw[hD.out,hy]
  clear cO hD;go_wp2_with fail;go_end0;exact⟨W0.trans W2,aY hr.out ⟨rfl,tb,L2⟩⟩
theorem Jc{v:Value}{st:aX}(D:abc az l vm vloc tb ar vs vf vp w s m ai v st)(aN:st.aa.au=11):aaL az l vm vloc ar w s m ai v st:=by
 obtain⟨a,n,c,W,f,rfl,rfl,hB,L0,W0,Al,kx,uG,hf⟩:=D.pre;obtain⟨h,hm,fQ,hl,mO,jD,hv,inv,hi,cT,hn,fnd⟩:=D;have fm:=ajm hf;have hh:=inv.below f fm;have qX:=inv.ao f fm;have oo:=inv.names f fm;have dL:Hid _:=aN;have hD:Hid (doS ar m ai s st=mi ar m s (st.idx.headD 0)):=by show _=_;unfold doS;simp only;simp[aN]
 obtain⟨f0,is,eb,lv⟩:=fnd.calls aN;have aQ:0<st.idx.length:=by rw[eb];simp
 obtain⟨_,_,_,e9,jE⟩:=hv;cases e9;obtain⟨gi,rfl,To,MG⟩:=jE.get aQ;have rP:=jE.len;subst rP;have xf:st.idx[0]=f0:=by simp[eb]
 have Xd:st.idx.headD 0=f0:=by simp[eb]
 rw[xf]at MG;rw[Xd]at hD;have i5:(0:Int)<(st.idx.length:Int):=by omega
 clear xf Xd eb;have b2:((st.aa.au:Int)==2)=false:=by rw[aN];rfl
 have b3:=ai9 aN;clear aN;go_enter func104,ntmps104;go_wp2_with fail;refine(EK L0 Al fQ hi hn lv).mono ?_;rintro e w2 ⟨W2,cO⟩;cases hy:mi ar m s f0 with
 |error er=>
  cases cO.err hy;have hr:Hid (doS ar m ai s st=.error er):=by show _=_;rw[hD.out,hy]
  clear cO hD;go_wp2_with fail;exact⟨rfl,W0.trans W2,aK hr.out rfl⟩
 |ok r=>
  obtain⟨rfl,L2⟩:=cO.ok hy;have hr:Hid (doS ar m ai s st=.ok r):=by show _=_;rw[hD.out,hy]
  clear cO hD;go_wp2_with fail;go_end0;exact⟨W0.trans W2,aY hr.out ⟨rfl,tb,L2⟩⟩
theorem Jd{v:Value}{st:aX}(D:abc az l vm vloc tb ar vs vf vp w s m ai v st)(aN:st.aa.au=12):aaL az l vm vloc ar w s m ai v st:=by
 obtain⟨a,n,c,W,f,rfl,rfl,hB,L0,W0,Al,kx,uG,hf⟩:=D.pre;obtain⟨h,hm,fQ,hl,mO,jD,hv,inv,hi,cT,hn,fnd⟩:=D;have fm:=ajm hf;have hh:=inv.below f fm;have qX:=inv.ao f fm;have oo:=inv.names f fm;have dL:Hid _:=aN;have hD:Hid (doS ar m ai s st=bnd (bD ar s 0) fun r=>.ok r.2):=by show _=_;unfold doS;simp only;simp[aN]
 have b2:=ai9 aN;clear aN;go_enter func104,ntmps104;go_wp2_with fail;refine(dJ L0 hi 0 (by omega)).mono ?_;rintro e w2 ⟨aP,cO⟩;have W2:=L0.went aP;cases hy:bD ar s 0 with
 |error er=>
  cases cO.err hy;have hr:Hid (doS ar m ai s st=.error er):=by show _=_;rw[hD.out,hy];rfl
  clear cO hD;go_wp2_with fail;exact⟨rfl,W0.trans W2,aK hr.out rfl⟩
 |ok r=>
  obtain⟨rfl,vs2,L2⟩:=cO.ok hy;have hr:Hid (doS ar m ai s st=.ok r.2):=by show _=_;rw[hD.out,hy];rfl
  clear cO hD;go_wp2_with fail;go_end0;exact⟨W0.trans W2,aY hr.out ⟨rfl,tb,vs2,vf,vp,L2⟩⟩
theorem Je{v:Value}{st:aX}(D:abc az l vm vloc tb ar vs vf vp w s m ai v st)(aN:st.aa.au=13):aaL az l vm vloc ar w s m ai v st:=by
 obtain⟨a,n,c,W,f,rfl,rfl,hB,L0,W0,Al,kx,uG,hf⟩:=D.pre;obtain⟨h,hm,fQ,hl,mO,jD,hv,inv,hi,cT,hn,fnd⟩:=D;have fm:=ajm hf;have hh:=inv.below f fm;have qX:=inv.ao f fm;have oo:=inv.names f fm;have dL:Hid _:=aN;have hD:Hid (doS ar m ai s st=jk ar s):=by show _=_;unfold doS;simp only;simp[aN]
 have b2:=ai9 aN;clear aN;go_enter func104,ntmps104;go_wp2_with fail;refine(EI L0 hi inv.stack2 (by omega)).mono ?_;rintro e w2 ⟨W2,cO⟩;cases hy:jk ar s with
 |error er=>
  cases cO.err hy;have hr:Hid (doS ar m ai s st=.error er):=by show _=_;rw[hD.out,hy]
  clear cO hD;go_wp2_with fail;exact⟨rfl,W0.trans W2,aK hr.out rfl⟩
 |ok r=>
  obtain⟨rfl,L2⟩:=cO.ok hy;have hr:Hid (doS ar m ai s st=.ok r):=by show _=_;rw[hD.out,hy]
  clear cO hD;go_wp2_with fail;go_end0;exact⟨W0.trans W2,aY hr.out ⟨rfl,tb,L2⟩⟩
theorem EV{v:Value}{st:aX}(D:abc az l vm vloc tb ar vs vf vp w s m ai v st)(aN:st.aa.au=14\/st.aa.au=15\/st.aa.au=16):aaL az l vm vloc ar w s m ai v st:=by
 obtain⟨a,n,c,W,f,rfl,rfl,hB,L0,W0,Al,kx,uG,hf⟩:=D.pre;obtain⟨h,hm,fQ,hl,mO,jD,hv,inv,hi,cT,hn,fnd⟩:=D;have fm:=ajm hf;have hh:=inv.below f fm;have qX:=inv.ao f fm;have oo:=inv.names f fm;have dL:Hid _:=aN;have hD:Hid (doS ar m ai s st=fx ar ai s st):=by show _=_;unfold doS;simp only;rcases aN with e|e|e <;> simp[e]
 obtain⟨i,is,KZ,lx⟩:=fnd.locs aN;have eb:Hid _:=KZ;clear KZ;rcases aN with e|e|e
 ·have b2:((st.aa.au:Int)==2)=false:=by rw[e];rfl
  have b3:=ai9 e;clear e;go_enter func104,ntmps104;go_wp2_with fail;refine(qo L0 (kx.some (by omega)) uG hi (by omega) eb.out lx mO jD dL.out).mono ?_;rintro e w2 ⟨W2,cO⟩;cases hy:fx ar ai s st with
  |error er=>
   cases cO.err hy;have hr:Hid (doS ar m ai s st=.error er):=by show _=_;rw[hD.out,hy]
   clear cO hD;go_wp2_with fail;exact⟨rfl,W0.trans W2,aK hr.out rfl⟩
  |ok r=>
   obtain⟨rfl,L2⟩:=cO.ok hy;have hr:Hid (doS ar m ai s st=.ok r):=by show _=_;rw[hD.out,hy]
   clear cO hD;go_wp2_with fail;go_end0;exact⟨W0.trans W2,aY hr.out ⟨rfl,tb,L2⟩⟩
 ·have b2:((st.aa.au:Int)==2)=false:=by rw[e];rfl
  have b3:=ai9 e;clear e;go_enter func104,ntmps104;go_wp2_with fail;refine(qo L0 (kx.some (by omega)) uG hi (by omega) eb.out lx mO jD dL.out).mono ?_;rintro e w2 ⟨W2,cO⟩;cases hy:fx ar ai s st with
  |error er=>
   cases cO.err hy;have hr:Hid (doS ar m ai s st=.error er):=by show _=_;rw[hD.out,hy]
   clear cO hD;go_wp2_with fail;exact⟨rfl,W0.trans W2,aK hr.out rfl⟩
  |ok r=>
   obtain⟨rfl,L2⟩:=cO.ok hy;have hr:Hid (doS ar m ai s st=.ok r):=by show _=_;rw[hD.out,hy]
   clear cO hD;go_wp2_with fail;go_end0;exact⟨W0.trans W2,aY hr.out ⟨rfl,tb,L2⟩⟩
 have b2:((st.aa.au:Int)==2)=false:=by rw[e];rfl
 have b3:=ai9 e;clear e;go_enter func104,ntmps104;go_wp2_with fail;refine(qo L0 (kx.some (by omega)) uG hi (by omega) eb.out lx mO jD dL.out).mono ?_;rintro e w2 ⟨W2,cO⟩;cases hy:fx ar ai s st with
 |error er=>
  cases cO.err hy;have hr:Hid (doS ar m ai s st=.error er):=by show _=_;rw[hD.out,hy]
  clear cO hD;go_wp2_with fail;exact⟨rfl,W0.trans W2,aK hr.out rfl⟩
 |ok r=>
  obtain⟨rfl,L2⟩:=cO.ok hy;have hr:Hid (doS ar m ai s st=.ok r):=by show _=_;rw[hD.out,hy]
  clear cO hD;go_wp2_with fail;go_end0;exact⟨W0.trans W2,aY hr.out ⟨rfl,tb,L2⟩⟩
theorem EW{v:Value}{st:aX}(D:abc az l vm vloc tb ar vs vf vp w s m ai v st)(aN:st.aa.au≠2/\st.aa.au≠3/\st.aa.au≠4/\st.aa.au≠5/\st.aa.au≠6/\st.aa.au≠0/\st.aa.au≠7/\st.aa.au≠8/\st.aa.au≠9/\st.aa.au≠10/\st.aa.au≠11/\st.aa.au≠12/\st.aa.au≠13/\st.aa.au≠14/\st.aa.au≠15/\st.aa.au≠16):aaL az l vm vloc ar w s m ai v st:=by
 obtain⟨a,n,c,W,f,rfl,rfl,hB,L0,W0,Al,kx,uG,hf⟩:=D.pre;obtain⟨h,hm,fQ,hl,mO,jD,hv,inv,hi,cT,hn,fnd⟩:=D;have fm:=ajm hf;have hh:=inv.below f fm;have qX:=inv.ao f fm;have oo:=inv.names f fm;have dL:Hid _:=aN;have hD:Hid (doS ar m ai s st=fU ar s st.aa):=by show _=_;unfold doS;simp only;obtain⟨n0,n1,n2,n3,n4,n5,n6,n7,n8,n9,n10,n11,n12,n13,n14,n15⟩:=aN;simp[n0,n1,n2,n3,n4,n5,n6,n7,n8,n9,n10,n11,n12,n13,n14,n15]
 obtain⟨n2,n3,n4,n5,n6,n0,n7,n8,n9,n10,n11,n12,n13,n14,n15,n16⟩:=aN;have b2:((st.aa.au:Int)==2)=false:=by simp;omega
 have b3:((st.aa.au:Int)==3)=false:=by simp;omega
 have b4:((st.aa.au:Int)==4)=false:=by simp;omega
 have b5:((st.aa.au:Int)==5)=false:=by simp;omega
 have b6:((st.aa.au:Int)==6)=false:=by simp;omega
 have b0:((st.aa.au:Int)==0)=false:=by simp;omega
 have b7:((st.aa.au:Int)==7)=false:=by simp;omega
 have b8:((st.aa.au:Int)==8)=false:=by simp;omega
 have b9:((st.aa.au:Int)==9)=false:=by simp;omega
 have b10:((st.aa.au:Int)==10)=false:=by simp;omega
 have b11:((st.aa.au:Int)==11)=false:=by simp;omega
 have b12:((st.aa.au:Int)==12)=false:=by simp;omega
 have b13:((st.aa.au:Int)==13)=false:=by simp;omega
 have b14:((st.aa.au:Int)==14)=false:=by simp;omega
 have b15:((st.aa.au:Int)==15)=false:=by simp;omega
 have b16:((st.aa.au:Int)==16)=false:=by simp;omega
 clear n2 n3 n4 n5 n6 n0 n7 n8 n9 n10 n11 n12 n13 n14 n15 n16;go_enter func104,ntmps104;go_wp2_with fail;refine(CC L0 hi inv.stack2 (by omega) st.aa fnd.aj fnd.of fnd.ak).mono ?_;rintro e w2 ⟨W2,cO⟩;cases hy:fU ar s st.aa with
 |error er=>
  cases cO.err hy;have hr:Hid (doS ar m ai s st=.error er):=by show _=_;rw[hD.out,hy]
  clear cO hD;go_wp2_with fail;exact⟨rfl,W0.trans W2,aK hr.out rfl⟩
 |ok r=>
  obtain⟨rfl,L2⟩:=cO.ok hy;have hr:Hid (doS ar m ai s st=.ok r):=by show _=_;rw[hD.out,hy]
  clear cO hD;go_wp2_with fail;go_end0;exact⟨W0.trans W2,aY hr.out ⟨rfl,tb,L2⟩⟩
theorem MM(h:LR az l vm vloc tb ar vs vf vp w s)(hm:dK az w vm m)(fQ:fM m)(hl:dG az w vloc ai)(mO:ai.length<=1000)(jD:∀t∈ai,t<=2){v:Value}{st:aX}(hv:ef w v st)(inv:db s)(hi:0<s.ae.length)(cT:0<s.ay.length)(hn:s.af.length<=80000)(fnd:fR m ai s st):Calls prog 104 #[.pointer (some ⟨l,0,none⟩),v] w fun e w'=>bc az w w'/\fh (doS ar m ai s st) (fun r e w'=>e=.returned (.tuple #[])/\∃tb',iQ az l vm vloc tb' ar w' r) e w':=by
 have D:abc az l vm vloc tb ar vs vf vp w s m ai v st:=⟨h,hm,fQ,hl,mO,jD,hv,inv,hi,cT,hn,fnd⟩;by_cases c0:st.aa.au=2\/st.aa.au=3\/st.aa.au=4
 ·exact EU D c0
 by_cases c1:st.aa.au=5
 ·exact Ja D c1
 by_cases c2:st.aa.au=6
 ·exact ML D c2
 by_cases c3:st.aa.au=0\/st.aa.au=7\/st.aa.au=8\/st.aa.au=9\/st.aa.au=10
 ·exact Jb D c3
 by_cases c4:st.aa.au=11
 ·exact Jc D c4
 by_cases c5:st.aa.au=12
 ·exact Jd D c5
 by_cases c6:st.aa.au=13
 ·exact Je D c6
 by_cases c7:st.aa.au=14\/st.aa.au=15\/st.aa.au=16
 ·exact EV D c7
 exact EW D (by refine⟨?_,?_,?_,?_,?_,?_,?_,?_,?_,?_,?_,?_,?_,?_,?_,?_⟩ <;> omega)
end
