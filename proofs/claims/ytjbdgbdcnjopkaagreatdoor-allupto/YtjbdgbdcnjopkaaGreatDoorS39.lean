import Derived.Test.YtjbdgbdcnjopkaaGreatDoorS33
import Derived.BigRegion
namespace Go.Proofs.YtjbdgbdcnjopkaaGreatDoor
open Go.RowKit Tryz
set_option linter.all false
set_option maxRecDepth 100000
set_option maxHeartbeats 4000000
structure zv(az:Nat)(w:World)(c x m f:Nat)(s:ByteArray)(er:Er)(here:Nat)(ads:List Nat)(a:Nat)(rest:List RB)(b:RB)(mm:bf)(fn:ck)(sig:Sig)(S:LSt)(p:Nat):Prop where
 lk:Lk az w c x m f s (fn.ax+p) er here (ads++[a]) (rest++[b])
 e0:er.1=0
 ctx:Ctx w m f mm fn sig
 pc:la s mm fn sig
 rel:Rel (rest++[b]) S
 binv:iG S
 fg:((rest++[b]).head?).map dB=some sig.2
 h6:∀B∈rest++[b],B.aj.length<=6/\B.ak.length<=6
 ln:b.l.length<=20*p+20
 pl:p<=fn.code.length
def LF(w w':World)(er:Er)(rest:List RB)(b:RB)(mm:bf)(fn:ck)(S:LSt)(p:Nat)(ve:Value)(ew:Bool)(v:Value)(at2:Nat)(er2:Er)(b2:RB)(ve2:Value)(mf:Bool)(res:Except Er (LSt×Nat)):Prop:=
 match res with
 |.error e=>er2=e/\e.1≠0
 |.ok r=>er2=er/\at2=fn.ax+r.2/\b2.l=[]/\Rel rest {r.1 with af:=iU rest}/\r.1.af=iU rest++b.ak/\nm r.1=(nm S).dropLast/\iG r.1/\r.2<=fn.code.length/\∃body q k,fN w' (fun g=>w.heap.size<=g) v body/\bI w' mm fn.code (fun g=>w.heap.size<=g) k p body q /\
   ((fS fn.code q=some 6/\ve2=ve/\mf=ew/\r.2=q+1)\/(fS fn.code q=some 5/\(b.aa=4/\ew=false)/\mf=true/\∃el q2 k2,fN w' (fun g=>w.heap.size<=g) ve2 el/\bI w' mm fn.code (fun g=>w.heap.size<=g) k2 (q+1) el q2/\fS fn.code q2=some 6/\r.2=q2+1))
def GD(az:Nat)(w w':World)(c x m f:Nat)(s:ByteArray)(er:Er)(ads:List Nat)(rest:List RB)(b:RB)(mm:bf)(fn:ck)(sig:Sig)(S:LSt)(p nd op:Nat)(num:Int)(vl vt vg vb ve:Value)(ew:Bool)(v:Value):Prop:=
 (∃sa sn sc,v=.slice sa sn sc)/\Fr az (some nd) w w'/\∃at2 er2 ei b2 ve2 mf,Lk az w' c x m f s at2 er2 ei ads (rest++[b2])/\bp w' nd op num vl vt vg vb ve2 mf /\
  LF w w' er rest b mm fn S p ve ew v at2 er2 b2 ve2 mf (fC mm (sig.1++fn.ai) fn S.ae.length S p)
def kP(az c x m f:Nat)(s:ByteArray)(mm:bf)(fn:ck)(sig:Sig)(N:Nat):Prop:=
 ∀(w:World) (er:Er) (here:Nat) (ads:List Nat) (a:Nat) (rest:List RB) (b:RB) (S:LSt) (p nd op:Nat) (num:Int) (vl vt vg vb ve:Value) (ew:Bool),
  zv az w c x m f s er here ads a rest b mm fn sig S p->fn.code.length<=p+N->bp w nd op num vl vt vg vb ve ew->az<=nd->(∀F,S.ae.getLast?=some F->(F.au=5↔b.aa=4/\ew=true)) ->
  Calls prog 72 #[ptr c,ptr nd] w fun r w'=>∃v,r=.returned v/\GD az w w' c x m f s er (ads++[a]) rest b mm fn sig S p nd op num vl vt vg vb ve ew v
section
variable {az c x m f:Nat}{w w':World}{s:ByteArray}{at_ here:Nat}{er:Er}{ads:List Nat}{a:Nat}{bl rest:List RB}{b:RB}{mm:bf}{fn:ck}{sig:Sig}{p op n:Nat}{S:LSt}
theorem DD(h:Lk az w c x m f s at_ er here ads bl)(h0:er.1≠0)(n:Nat):Calls prog 72 #[ptr c,ptr n] w fun r w'=>r=.returned br/\w=w':=by
 have b0:((er.1:Int)==0)=false:=beqn (by omega);obtain⟨q0,q1,q2,q3,q4,q5⟩:=h.cells;clear h0;go_enter func72,ntmps72;go_wp2_with fail;go_loopw [5,6,7,8] (fun v5 v6 v7 v8 wr=>v5=br/\w=wr) (fun _ _ _ _ _=>0)
 case atStart=>exact⟨rfl,rfl⟩
 case round=>
  obtain⟨rfl,hw⟩:=hrel;subst hw;go_wp2_with fail;go_ret;exact⟨rfl,rfl⟩
theorem Lk.push(h:Lk az w c x m f s at_ er here ads bl){A:Nat}{B:RB}{v:Value}(k:∀g cs t,t=116\/t=153\/t=3->Blk w g cs t->Blk w' g cs t)(hb:Blk w' c #[ptr x,ptr m,ptr f,.int .i64 here,v] 124)(ho:w'.ownsRow az 151 1 v (bl.length+1) ((ads++[A]).map ptr))(hA:mr w' A B)(jW:w.heap.size<=A)(sF:bl.length+1<=20):Lk az w' c x m f s at_ er here (ads++[A]) (bl++[B]):=by
 have bM:∀g∈ads,g<w.heap.size:=by
  intro g hg;obtain⟨i,hi,rfl⟩:=List.mem_iff_getElem.1 hg;have jB:i<bl.length:=by rw[<-h.len];exact hi
  obtain⟨_,_,_,mn,_⟩:=h.bls i _ _ (gEg hi) (gEg jB);exact mn.lt
 refine⟨k _ _ _ (by simp) h.sc,⟨v,hb,by simpa using ho⟩,by simp[h.len],?_,fun i g B' hg ot=>?_,h.lowx,h.lowc,fun g hg=>?_,by simpa using sF⟩
 ·rw[List.nodup_append];refine⟨h.nodup,by simp,fun g hg g' xg=>?_⟩;simp at xg;have:=bM g hg;omega
 ·by_cases hi:i<ads.length
  ·rw[gAl hi]at hg;rw[gAl (by rw[<-h.len];exact hi)]at ot;exact(h.bls i g B' hg ot).keep (fun cs hb=>k _ cs 153 (by simp) hb) (fun g cs hb=>k g cs 3 (by simp) hb)
  have jB:i=ads.length:=by have:=(gEs.1 hg).1;simp at this;omega
  subst jB;simp at hg;rw[h.len]at ot;simp at ot;subst hg;subst ot;exact hA
 rcases List.mem_append.1 hg with hg|hg
 ·exact h.low g hg
 simp at hg;have:=h.size;omega
theorem Lk.pop(h:Lk az w c x m f s at_ er here (ads++[a]) (bl++[b])):∃g cap,w.cell? ⟨c,4,none⟩=some (.slice (some ⟨g,0,none⟩) (bl.length+1) cap)/\w.frozen? ⟨c,4,none⟩=false/\bl.length+1<=cap /\ Lk az (w.setCell ⟨c,4,none⟩ (.slice (some ⟨g,0,none⟩) bl.length cap)) c x m f s at_ er here ads bl/\Fr az none w (w.setCell ⟨c,4,none⟩ (.slice (some ⟨g,0,none⟩) bl.length cap)):=by
 obtain⟨v,h1,h2⟩:=h.blk;have hl:=h.len;simp at hl;have aQ:(bl++[b]).length=bl.length+1:=by simp
 rw[aQ]at h2;obtain⟨g,cap,rfl⟩:=cu h2 (by omega);have hcut:=kH h2 (k:=bl.length) (by omega);have kX:bl.length+1<=cap:=(dF h2).choose_spec.2.2;have c4:=h1.cell 4;simp at c4;have hk:=aD w c 4 (.slice (some ⟨g,0,none⟩) bl.length cap);have ko:∀t,t≠124->∀g' cs,Blk w g' cs t->Blk (w.setCell ⟨c,4,none⟩ (.slice (some ⟨g,0,none⟩) bl.length cap)) g' cs t:=fun t ht g' cs hb=>aF hk h1 hb ht;have hb:=h1.set 4 (.slice (some ⟨g,0,none⟩) bl.length cap);simp at hb;refine⟨g,cap,c4,h1.frozen 4,kX,⟨ko _ (by decide) _ _ h.sc,⟨_,hb,?_⟩,hl,?_,fun i g' B' hg ot=>?_,h.lowx,h.lowc,fun g' hg=>h.low g' (by simp[hg]),?_⟩,Fr.wrote hk h1 (by decide) h.lowc⟩
 ·have e:((ads++[a]).map ptr).take (bl.length*1)=ads.map ptr:=by simp[<-hl]
  rw[e]at hcut;exact aJ hcut (ko _ (by decide))
 ·exact(List.nodup_append.1 h.nodup).1
 ·have hi:=(gEs.1 hg).1;exact(h.bls i g' B' (by rw[gAl hi];exact hg) (by rw[gAl (by rw[<-hl];exact hi)];exact ot)).keep (ko _ (by decide) _) (ko _ (by decide))
 have:=h.nb;simp at this;omega
end
def NA(az:Nat)(w':World)(c x m f:Nat)(s:ByteArray)(er:Er)(ads:List Nat)(rest:List RB)(b:RB)(mm:bf)(fn:ck)(S:LSt)(p n:Nat)(res:Except Er (LSt×Nat)):Prop:=
 match res with
 |.error e=>e.1≠0/\∃at2 ei b2,Lk az w' c x m f s at2 e ei ads (rest++[b2])
 |.ok r=>∃ei b2,Lk az w' c x m f s (fn.ax+r.2) er ei ads (rest++[b2])/\Rel (rest++[b2]) r.1/\cQ b b2/\b2.l.length<=b.l.length+6/\nm r.1=nm S/\iG r.1/\p<r.2/\r.2<=fn.code.length/\∃k,bI w' mm fn.code (fun g=>n<=g) k p [n] r.2
theorem Ka:(prog.info? 151).map (fun i=>(i.zero,i.size,i.bytes))=some (some (.pointer none),1,8):=by kernel_rfl
theorem Kb:(prog.info? 155).map (fun i=>(i.zero,i.size,i.bytes))=some (some (.pointer none),1,8):=by kernel_rfl
section
variable {az c x m f:Nat}{w w':World}{s:ByteArray}{at_ here:Nat}{er:Er}{ads:List Nat}{a:Nat}{bl rest:List RB}{b:RB}{mm:bf}{fn:ck}{sig:Sig}{p op n:Nat}{S:LSt}
theorem Ctx.sig_len(hc:Ctx w m f mm fn sig):∃g cap,w.cell? ⟨m,0,none⟩=some (.slice (some ⟨g,0,none⟩) mm.sigs.length cap)/\m<w.heap.size:=by obtain⟨vs,vf,h1,⟨g,cap,cs,e1,e2,e3⟩,_⟩:=hc.mod;have c1:=h1.cell 0;simp at c1;rw[e1]at c1;exact⟨g,cap,c1,h1.lt⟩
theorem Ctx.sig_cells(hc:Ctx w m f mm fn sig){i:Nat}(hi:i<mm.sigs.length):∃g cap at1 ct1 ag1 cg1,w.cell? ⟨m,0,none⟩=some (.slice (some ⟨g,0,none⟩) mm.sigs.length cap)/\w.cell? ⟨g,2*i,none⟩=some (.slice at1 mm.sigs[i].1.length ct1)/\w.cell? ⟨g,2*i+1,none⟩=some (.slice ag1 mm.sigs[i].2.length cg1)/\aR w (.slice at1 mm.sigs[i].1.length ct1) mm.sigs[i].1/\aR w (.slice ag1 mm.sigs[i].2.length cg1) mm.sigs[i].2/\m<w.heap.size:=by obtain⟨vs,vf,h1,⟨g,cap,cs,e1,e2,e3⟩,_⟩:=hc.mod;obtain⟨vt,vg,q1,q2,q3,q4⟩:=e3 i hi;obtain⟨at1,ct1,rfl,_,_⟩:=aG q3;obtain⟨ag1,cg1,rfl,_,_⟩:=aG q4;have c1:=h1.cell 0;simp at c1;rw[e1]at c1;have c2:=e2.cell (2*i);have c3:=e2.cell (2*i+1);rw[q1]at c2;rw[q2]at c3;exact⟨g,cap,at1,ct1,ag1,cg1,c1,c2,c3,q3,q4,h1.lt⟩
theorem DE{N:Nat}(hU:kP az c x m f s mm fn sig N)(hN:fn.code.length<=p+2+N)(h:Lk az w c x m f s (fn.ax+p+1) er (fn.ax+p) (ads++[a]) (rest++[b]))(h0:er.1=0)(hc:Ctx w m f mm fn sig)(hp:la s mm fn sig)(oL:b.l.length<=20*p+20)(hrel:Rel (rest++[b]) S)(hB:iG S)(ox:((rest++[b]).head?).map dB=some sig.2)(h6:∀B∈rest++[b],B.aj.length<=6/\B.ak.length<=6)(jF:p<fn.code.length)(ex:fn.code[p].toNat=op)(dX:op=2\/op=3\/op=4)(ms:bp w n op 0 br br br br br false)(sF:az<=n):Calls prog 117 #[ptr c,ptr n] w fun r w'=>r=.returned (.tuple #[])/\Fr az (some n) w w'/\NA az w' c x m f s er (ads++[a]) rest b mm fn S p n (je mm (sig.1++fn.ai) fn S p):=by
 obtain⟨RES,tO⟩:=aja (je mm (sig.1++fn.ai) fn S p);rw[tO];have aQ:=hrel.len;simp at aQ;have hk:cr op=some ⟨op,1,0,0,0⟩:=by rcases dX with rfl|rfl|rfl <;> rfl
 obtain⟨LB,LC⟩:=tE jF ex hk (.inl rfl);have lD:=hp.stop;have gy:=hp.size;have Ad:=hp.sigs1;have U4:=hp.sigs20;have NB:=hp.len;have Lw:=h.nb;simp at Lw;have hI:=qB h hc.fn h0 (by omega) lD (by omega) mm.sigs.length (by omega);obtain⟨gm,cm,mc,XP⟩:=hc.sig_len;obtain⟨lc0,lc1,lc2,lx2,mO,OM⟩:=h.cells;obtain⟨nsg,KS⟩:=aja mm.sigs.length;rw[KS]at mc hI U4;have SB:Hid _:=KS;have aaN:(nsg:Int)<=20:=by omega
 have GE:Hid _:=tO;have F7:Hid _:=dX;clear KS tO dX;go_enter func117,ntmps117;go_wp2_with fail;refine hI.mono ?_;clear hI;rintro e w2 ⟨dq,fp⟩;have dY:bp w2 n op 0 br br br br br false:=dq.keep _ _ _ (by decide) (fun _=>by simp) ms;have sj:=hc.keep dq;rcases fp with⟨ju,rfl,h2⟩|⟨i,ou,kY,fp⟩
 ·obtain⟨q0,q1,q2,q3,q4,q5⟩:=h2.cells;simp only at q3;go_wp2_with fail;refine bodyPost_ret (results_none rfl _ _ _) rfl ?_;refine⟨rfl,dq.any,?_⟩;have hs:dr mm (sig.1++fn.ai) fn S p=.error (3,fn.ax+p):=by unfold dr;rw[ajc (by omega),LB (by omega)]
  have:=GE.out;unfold je at this;rw[hs,aW]at this;rw[<-this];exact⟨by simp,_,_,_,h2⟩
 have uW:p+1<fn.code.length:=by omega
 have jw:fn.code[p+1].toNat=i:=by
  have:=hp.code.get uW;have e:fn.ax+(p+1)=fn.ax+p+1:=by omega
  rw[e]at this;rw[this]at kY;simpa using kY
 have hR:=LC uW;rw[jw]at hR;have tx:iS (fn.ax+p) mm (sig.1++fn.ai) S {aa:=⟨op,1,0,0,0⟩,idx:=[i],num:=0,next:=p+2}=if i<nsg then .ok () else .error (4,fn.ax+p):=by unfold iS;simp only[dI,List.all_cons,List.all_nil,Bool.and_true,if_true];rw[SB.out];simp
 have dz:dr mm (sig.1++fn.ai) fn S p=bnd (if i<nsg then .ok () else .error (4,fn.ax+p)) fun _=>bnd (de (fn.ax+p) mm.sigs (ci S {aa:=⟨op,1,0,0,0⟩,idx:=[i],num:=0,next:=p+2}) {aa:=⟨op,1,0,0,0⟩,idx:=[i],num:=0,next:=p+2}) fun s1=>.ok (s1,p+2):=by
  unfold dr;rw[ajc (by omega),hR];simp only;rw[tx];have:∀S',doS (fn.ax+p) mm (sig.1++fn.ai) S' {aa:=⟨op,1,0,0,0⟩,idx:=[i],num:=0,next:=p+2}=de (fn.ax+p) mm.sigs S' {aa:=⟨op,1,0,0,0⟩,idx:=[i],num:=0,next:=p+2}:=by intro S';unfold doS;simp only;rw[ajd F7.out]
  rw[this]
 clear jw kY LB LC tx;have NC:Hid _:=dz;have HR:Hid _:=hR;clear dz hR;rcases fp with⟨uJ,rfl,h2⟩|⟨uJ,rfl,h2⟩
 ·obtain⟨q0,q1,q2,q3,q4,q5⟩:=h2.cells;simp only at q3;go_wp2_with fail;refine bodyPost_ret (results_none rfl _ _ _) rfl ?_;refine⟨rfl,dq.any,?_⟩;have hs:=NC.out;rw[ajc (by omega),aW]at hs;have:=GE.out;unfold je at this;rw[hs,aW]at this;rw[<-this];exact⟨by simp,_,_,_,h2⟩
 obtain⟨q0,q1,q2,q3,q4,q5⟩:=h2.cells;rw[h0]at q3;obtain⟨vv2,jG,l8⟩:=h2.blk;have cc4:=jG.cell 4;simp at cc4;obtain⟨nbl,ND⟩:=aja (rest.length+1);have pQ:(rest++[b]).length=nbl:=by simp;omega
 rw[pQ]at l8;obtain⟨g4,cap4,rfl⟩:=cu l8 (by omega);have DF:Hid _:=ND;have XW:(nbl:Int)<=20:=by omega
 by_cases C9:12<nbl
 ·have U5:(12:Int)<(nbl:Int):=by omega
  have gK:noS er 6 (fn.ax+p)=(6,fn.ax+p):=by unfold noS;rw[ajd h0]
  have AY:=gG h2 6;rw[gK]at AY;clear gK ND pQ;go_wp2_with fail;refine AY.mono ?_;clear AY;rintro e w3 ⟨rfl,et,h3⟩;obtain⟨q0,q1,q2,q3,q4,q5⟩:=h3.cells;simp only at q3;go_wp2_with fail;refine bodyPost_ret (results_none rfl _ _ _) rfl ?_;refine⟨rfl,(dq.trans et).any,?_⟩;have hs:=NC.out;have hb:de (fn.ax+p) mm.sigs (ci S {aa:=⟨op,1,0,0,0⟩,idx:=[i],num:=0,next:=p+2}) {aa:=⟨op,1,0,0,0⟩,idx:=[i],num:=0,next:=p+2}=.error (6,fn.ax+p):=by unfold de;rw[ajd (by have:=DF.out;show 12<S.ae.length;omega)]
  rw[ajd (by omega),aM,hb,aW]at hs;have:=GE.out;unfold je at this;rw[hs,aW]at this;rw[<-this];exact⟨by simp,_,_,_,h3⟩
 have U5:(nbl:Int)<=12:=by omega
 have lx:i<mm.sigs.length:=by have:=SB.out;omega
 obtain⟨g,cap,at1,ct1,ag1,cg1,y1,y2,y3,y4,y5,y6⟩:=sj.sig_cells lx;rw[SB.out]at y1;obtain⟨sg,iD⟩:=aja (mm.sigs[i]);rw[iD]at y2 y3 y4 y5;have iD?:mm.sigs[i]?=some sg:=by rw[gEg lx,iD]
 have GF:=hp.lens sg (gMo iD?);have U6:Hid _:=iD?;obtain⟨nt,ld⟩:=aja sg.1.length;obtain⟨ng,qN⟩:=aja sg.2.length;rw[ld]at y2 y4;rw[qN]at y3 y5;have QC:Hid _:=ld;have vi:Hid _:=qN;have n3:=Blk.cell dY 3;have n4:=Blk.cell dY 4;have m3:=Blk.frozen dY 3;have m4:=Blk.frozen dY 4;have I8:=Blk.lt dY;simp at n3 n4;have jE:(i:Int)<(nsg:Int):=by omega
 have Aj:(0:Int)<=(i:Int):=by omega
 have y2':w2.cell? ⟨g,i*2,none⟩=some (.slice at1 nt ct1):=by rw[ajC];exact y2
 have y3':w2.cell? ⟨g,i*2+1,none⟩=some (.slice ag1 ng cg1):=by rw[ajC i 2];exact y3
 clear ND pQ iD iD? ld qN C9 ms hc;go_upto_region 5 with fail
 have co:w2.grownBy ((w2.setCell ⟨n,3,none⟩ (.slice at1 nt ct1)).setCell ⟨n,4,none⟩ (.slice ag1 ng cg1)) (some n):=aB (aD _ _ _ _) (aD _ _ _ _);have bY:=(Blk.set dY 3 (.slice at1 nt ct1)).set 4 (.slice ag1 ng cg1);simp at bY;obtain⟨w3,xY⟩:=aja ((w2.setCell ⟨n,3,none⟩ (.slice at1 nt ct1)).setCell ⟨n,4,none⟩ (.slice ag1 ng cg1));rw[xY]at co bY ⊢;clear xY;have lj:∀g cs t,t≠157->Blk w2 g cs t->Blk w3 g cs t:=fun g cs t ht hb=>aF co dY hb ht;have h3:Lk az w3 c x m f s (fn.ax+p+1+1) er (fn.ax+p) (ads++[a]) (rest++[b]):=h2.kept fun g cs t ht hb=>lj g cs t (by rcases ht with rfl|rfl|rfl|rfl|rfl <;> decide) hb;have et:Fr az (some n) w w3:=dq.any.trans (Fr.wroteNode co dY sF);have yl:Ctx w3 m f mm fn sig:=sj.keep (Fr.wroteNode co dY sF);have z4:aR w3 (.slice at1 nt ct1) sg.1:=y4.keep fun g cs hb=>lj g cs 3 (by decide) hb;have z5:aR w3 (.slice ag1 ng cg1) sg.2:=y5.keep fun g cs hb=>lj g cs 3 (by decide) hb;have Kc:bp w3 n op 0 br (.slice at1 nt ct1) (.slice ag1 ng cg1) br br false:=bY;clear bY co lj dY n3 n4 m3 m4 I8 y1 y2 y3 y2' y3' y4 y5 y6 h2 sj jG l8 cc4 q0 q1 q2 q3 q4 q5 mc lc0 lc1 lc2 lx2 XP;obtain⟨r0,ku⟩:∃r0:RB×Er,(if op=4 then (aU (fn.ax+p) b er 1).2 else (b,er))=r0:=⟨_,rfl⟩;have xA:cQ b r0.1/\r0.1.l.length<=b.l.length:=by
  rw[<-ku];split
  ·exact cX _ b er 1
  exact⟨cQ.refl b,nLr _⟩
 have xB:Hid _:=ku;have n0:=Blk.cell Kc 0;have U7:=Blk.lt Kc;simp at n0;clear ku;go_upto_if 58 with fail
 go_cut [] from 5 to 120 (fun wc=>Fr az none w3 wc/\Lk az wc c x m f s (fn.ax+p+1+1) r0.2 (fn.ax+p) (ads++[a]) (rest++[r0.1]))
 case first=>
  by_cases e4:op=4
  ·have b4:((op:Int)==4)=true:=by rw[beq_iff_eq];omega
   have HE:Hid (r0=(aU (fn.ax+p) b er 1).2):=by show _=_;rw[<-xB.out,ajd e4]
   have hT:=fJ h3 (by omega) 1;clear e4;go_wp2_with fail;refine hT.mono ?_;rintro e w4 ⟨rfl,fD,h4⟩;go_wp2_with fail;go_meet
   exact⟨fD,by rw[HE.out];exact h4⟩
  have b4:((op:Int)==4)=false:=beqn (by omega);have HE:Hid (r0=(b,er)):=by show _=_;rw[<-xB.out,ajc e4]
  clear e4;go_wp2_with fail;go_meet
  exact⟨Fr.refl _ _ _,by rw[HE.out];exact h3⟩
 case rest=>
 obtain⟨w4,rfl⟩:∃z,z=wc:=⟨wc,rfl⟩;obtain⟨fD,h4⟩:=hcut;have Kd:bp w4 n op 0 br (.slice at1 nt ct1) (.slice ag1 ng cg1) br br false:=fD.keep _ _ _ (by decide) (fun _=>by simp) Kc;have z4:aR w4 (.slice at1 nt ct1) sg.1:=fD.row z4;have n3:=Blk.cell Kd 3;have U8:=Blk.lt Kd;simp at n3;have uV:=kf h4 z4 (by omega) (by omega);have Ad:=fu (fn.ax+p) sg.1.reverse r0.1 r0.2;have GG:Hid (qz (fn.ax+p) b er op sg=bh (fn.ax+p) r0.1 r0.2 sg.1.reverse):=by show _=_;unfold qz;simp only[xB.out]
 obtain⟨r1,mB⟩:=aja (bh (fn.ax+p) r0.1 r0.2 sg.1.reverse);rw[mB]at uV Ad GG;clear mB h3 n0 U7;go_wp2_with fail;refine uV.mono ?_;clear uV;rintro e w5 ⟨rfl,iv,h5⟩;have Ke:=fD.trans iv;have Bi:bp w5 n op 0 br (.slice at1 nt ct1) (.slice ag1 ng cg1) br br false:=iv.keep _ _ _ (by decide) (fun _=>by simp) Kd;have z4:aR w5 (.slice at1 nt ct1) sg.1:=iv.row z4;have z5:aR w5 (.slice ag1 ng cg1) sg.2:=Ke.row z5;have XX:=yl.keep Ke;have QD:=et.trans Ke.any;obtain⟨v5,Kf,GH⟩:=h5.blk;have pQ:(rest++[r1.1]).length=nbl:=by have:=DF.out;simp;omega
 rw[pQ]at GH;obtain⟨g5,cap5,rfl⟩:=cu GH (by have:=DF.out;omega);have n0:=Blk.cell Bi 0;have n3:=Blk.cell Bi 3;have n4:=Blk.cell Bi 4;have U9:=Blk.lt Bi;have k4:=Kf.cell 4;have Va:=Kf.lt;simp at n0 n3 n4 k4;obtain⟨i1,OC,fo,eP,eV⟩:=info_parts Ka;have zw:=World.ownsRow.alloc (World.ownsRow.alloc (show w5.drew.ownsRow az 151 1 (.slice (some ⟨g5,0,none⟩) nbl cap5) nbl ((ads++[a]).map ptr) from GH) (.cells #[.int .i64 op,.slice at1 nt ct1,.slice ag1 ng cg1,.slice none 0 0,.bool false] 153)) (.cells #[ptr w5.heap.size] 151)
 clear fD iv h4 Kc Kd U8 Ke yl et pQ;have q1:∀j u,([ptr w5.heap.size]:List Value)[j]?=some u->((w5.drew.alloc (.cells #[.int .i64 op,.slice at1 nt ct1,.slice ag1 ng cg1,.slice none 0 0,.bool false] 153)).alloc (.cells #[ptr w5.heap.size] 151)).cell? ((⟨w5.heap.size+1,0,none⟩:Addr).add j)=some u:=by have:=cell_one_new (w5.drew.alloc (.cells #[.int .i64 op,.slice at1 nt ct1,.slice ag1 ng cg1,.slice none 0 0,.bool false] 153)) (ptr w5.heap.size) 151;simpa using this
 have q2:∀u∈([ptr w5.heap.size]:List Value),u.oneCell'=true:=by simp[Value.oneCell']
 have q3:nbl+1<=maxLen:=by simp[maxLen];omega
 have q4:(nbl+1)*8<=140737488355328:=by omega
 have q5:az<=((w5.drew.alloc (.cells #[.int .i64 op,.slice at1 nt ct1,.slice ag1 ng cg1,.slice none 0 0,.bool false] 153)).alloc (.cells #[ptr w5.heap.size] 151)).heap.size:=by have:=h5.size;simp;omega
 have Q1:Hid _:=q1;have Q2:Hid _:=q2;have oO:∀W,((w5.drew.alloc (.cells #[.int .i64 op,.slice at1 nt ct1,.slice ag1 ng cg1,.slice none 0 0,.bool false] 153)).alloc (.cells #[ptr w5.heap.size] 151)).grownBy W (Value.slice (some ⟨g5,0,none⟩) nbl cap5).ownBlock->(∀g cs t,t≠151->Blk ((w5.drew.alloc (.cells #[.int .i64 op,.slice at1 nt ct1,.slice ag1 ng cg1,.slice none 0 0,.bool false] 153)).alloc (.cells #[ptr w5.heap.size] 151)) g cs t->Blk W g cs t):=by intro W bU g cs t ht hb;refine hb.grown bU (fun e=>?_);obtain⟨_,c',r2⟩:=ba zw g e.symm;have h3:=hb.symm.trans r2;cases h3;exact ht rfl
 have Kg:Hid _:=oO;clear q1 q2 oO;go_upto_region 8 with fail
 go_cut [] from 5 to 120 (fun wc=>Fr az none w5 wc/\Lk az wc c x m f s (fn.ax+p+1+1) r1.2 (fn.ax+p) (ads++[a]++[w5.heap.size]) (rest++[r1.1]++[{aa:=op,aj:=sg.1,ak:=sg.2,l:=[],dead:=false}]))
 case first=>
  go_region_law (refine bQ rfl _ _ 122 rfl az 151 i1 (.pointer none) 1 8 underlying122 OC fo eP eV rfl (by decide) (.slice (some ⟨g5,0,none⟩) nbl cap5) nbl ((ads++[a]).map ptr) rfl zw ⟨w5.heap.size+1,0,none⟩ 1 1 [ptr w5.heap.size] rfl rfl Q1.out Q2.out q3 q4 q5 ?_;intro v' w' cG cD;have Ec:=Kg.out w' cD _ _ _ (by decide) ((Kf.drew.alloc (.cells #[.int .i64 op,.slice at1 nt ct1,.slice ag1 ng cg1,.slice none 0 0,.bool false] 153)).alloc (.cells #[ptr w5.heap.size] 151));have k6:=Ec.cell 4;have f6:=Ec.frozen 4;simp at k6;obtain⟨a',cap',rfl,_⟩:=aG cG)
  all_goals
   go_wp2_with fail;go_meet
   have dU:=aD w' c 4 (.slice a' (nbl+1) cap');have qa:=Ec.set 4 (.slice a' (nbl+1) cap');simp at qa;obtain⟨cs5,Vb,QE,_⟩:=dF GH;have oa:w5.grownBy ((w5.drew.alloc (.cells #[.int .i64 op,.slice at1 nt ct1,.slice ag1 ng cg1,.slice none 0 0,.bool false] 153)).alloc (.cells #[ptr w5.heap.size] 151)) none:=aB (bj (aC w5.drew _ none)) (aC _ _ _);have KX:∀g cs t,t≠151->t≠124->Blk w5 g cs t->Blk (w'.setCell ⟨c,4,none⟩ (.slice a' (nbl+1) cap')) g cs t:=fun g cs t h1 h2 hb=>aF dU Ec (Kg.out w' cD g cs t h1 (hb.grown oa (by simp))) h2;have AH:Fr az none w5 w':=(Fr.of oa h5.size).trans (Fr.wrote (g:=g5) cD (Vb.grown oa (by simp)) (by decide) QE);refine⟨AH.trans (Fr.wrote dU Ec (by decide) h5.lowc),?_⟩;have hA:Blk (w'.setCell ⟨c,4,none⟩ (.slice a' (nbl+1) cap')) w5.heap.size #[.int .i64 op,.slice at1 nt ct1,.slice ag1 ng cg1,.slice none 0 0,.bool false] 153:=aF dU Ec (Kg.out w' cD _ _ _ (by decide) ((Blk.new w5.drew #[.int .i64 op,.slice at1 nt ct1,.slice ag1 ng cg1,.slice none 0 0,.bool false] 153).alloc (.cells #[ptr w5.heap.size] 151))) (by decide);have lj:∀g cs,Blk w5 g cs 3->Blk (w'.setCell ⟨c,4,none⟩ (.slice a' (nbl+1) cap')) g cs 3:=fun g cs hb=>KX g cs 3 (by decide) (by decide) hb;have LG:(rest++[r1.1]).length+1=nbl+1:=by have:=DF.out;simp;omega
   refine h5.push (fun g cs t ht hb=>KX g cs t (by rcases ht with rfl|rfl|rfl <;> decide) (by rcases ht with rfl|rfl|rfl <;> decide) hb) qa ?_ ⟨_,_,_,hA,z4.keep lj,z5.keep lj,ajj _ _ _ _⟩ (nLr _) (by rw[LG];omega);rw[LG];have:=aJ cG fun g cs hb=>aF dU Ec hb (by decide);simpa using this
 case rest=>
 obtain⟨w6,rfl⟩:∃z,z=wc:=⟨wc,rfl⟩;obtain⟨oQ,J9⟩:=hcut;have Kh:bp w6 n op 0 br (.slice at1 nt ct1) (.slice ag1 ng cg1) br br false:=oQ.keep _ _ _ (by decide) (fun _=>by simp) Bi;have z4:aR w6 (.slice at1 nt ct1) sg.1:=oQ.row z4;have z5:aR w6 (.slice ag1 ng cg1) sg.2:=oQ.row z5;have Sf:=XX.keep oQ;have QF:=QD.trans oQ.any;obtain⟨A,hA⟩:=aja w5.heap.size;rw[hA]at J9;have hG:=kg J9 z4 (by omega) (by simp);have uq:cx {aa:=op,aj:=sg.1,ak:=sg.2,l:=[],dead:=false} sg.1={aa:=op,aj:=sg.1,ak:=sg.2,l:=sg.1,dead:=false}:=rfl;rw[uq]at hG;have n3:=Blk.cell Kh 3;have Nk:=Blk.lt Kh;simp at n3;clear Bi oQ QD zw Kg Q1 Q2 q3 q4 q5 Kf GH n0 n4 U9 k4 Va OC fo eP eV XX hA J9 uq h5;go_wp2_with fail;refine hG.mono ?_;clear hG;rintro e w7 ⟨rfl,rf,h7⟩;have pP:bp w7 n op 0 br (.slice at1 nt ct1) (.slice ag1 ng cg1) br br false:=rf.keep _ _ _ (by decide) (fun _=>by simp) Kh;have z4:aR w7 (.slice at1 nt ct1) sg.1:=rf.row z4;have z5:aR w7 (.slice ag1 ng cg1) sg.2:=rf.row z5;have R4:=Sf.keep rf;have JU:=QF.trans rf.any;have Qc:=Blk.lt pP;have XY:Calls prog 72 #[ptr c,ptr n] w7 fun r w'=>∃sa sn sc at2 er2 ei b2 ve2 mf,r=.returned (.slice sa sn sc)/\Fr az (some n) w7 w'/\Lk az w' c x m f s at2 er2 ei (ads++[a]++[A]) (rest++[r1.1]++[b2])/\bp w' n op 0 br (.slice at1 nt ct1) (.slice ag1 ng cg1) br ve2 mf /\
   Hid ((er2.1≠0/\RES=.error er2)\/(∃r:LSt×Nat,RES=.ok r/\er2=er/\at2=fn.ax+r.2/\Rel (rest++[r1.1]) {r.1 with af:=iU (rest++[r1.1])}/\r.1.af=iU (rest++[r1.1])++sg.2/\nm r.1=nm S/\iG r.1/\p+2<=r.2/\r.2<=fn.code.length/\∃body q k,fN w' (fun g=>w7.heap.size<=g) (.slice sa sn sc) body/\bI w' mm fn.code (fun g=>w7.heap.size<=g) k (p+2) body q /\
    ((fS fn.code q=some 6/\mf=false/\r.2=q+1)\/(fS fn.code q=some 5/\mf=true/\∃el q2 k2,fN w' (fun g=>w7.heap.size<=g) ve2 el/\bI w' mm fn.code (fun g=>w7.heap.size<=g) k2 (q+1) el q2/\fS fn.code q2=some 6/\r.2=q2+1)))):=by
  have cT:=NC.out;rw[ajd (by have:=SB.out;omega),aM]at cT;have zx:Rel (rest++[b]) (ci S {aa:=⟨op,1,0,0,0⟩,idx:=[i],num:=0,next:=p+2}):=hrel.same rfl rfl;have Se:=Dc (ar:=fn.ax+p) (sigs:=mm.sigs) (st:={aa:=⟨op,1,0,0,0⟩,idx:=[i],num:=0,next:=p+2}) zx h0 (sig:=sg) U6.out F7.out (by have:=DF.out;show S.ae.length<=12;omega);simp only[GG.out]at Se;rcases Se with⟨S1,e1,e2,e3,e4⟩|⟨e1,e2⟩
  ·rw[e1,aM]at cT;obtain⟨iW,_⟩:=gg hB cT;have Mw:S1.ae.length=S.ae.length+1:=by have:=congrArg List.length e4;simpa [nm,ci] using this
   have dH:RES=fC mm (sig.1++fn.ai) fn S1.ae.length S1 (p+2):=by rw[<-GE.out];unfold je;rw[cT,aM];simp only;rw[ajd (by omega)]
   rw[e2]at h7;have Ki:zv az w7 c x m f s er (fn.ax+p) (ads++[a]) A (rest++[r1.1]) {aa:=op,aj:=sg.1,ak:=sg.2,l:=sg.1,dead:=false} mm fn sig S1 (p+2):=by
    refine⟨h7,h0,R4,hp,e3,iW,?_,?_,by simp only;omega,by omega⟩
    ·cases QG:rest with
     |nil=>
      rw[QG]at ox;simp only[List.nil_append,List.cons_append,List.head?_cons,Option.map_some]at ox ⊢;rw[<-ox];have hw:dB r1.1=dB b:=by unfold dB;rw[(xA.1.trans Ad.1).aa,(xA.1.trans Ad.1).aj,(xA.1.trans Ad.1).ak]
      rw[hw]
     |cons B l=>
      rw[QG]at ox;simpa using ox
    intro B ot;rcases List.mem_append.1 ot with ot|ot
    ·rcases List.mem_append.1 ot with ot|ot
     ·exact h6 B (by simp[ot])
     simp at ot;subst ot;rw[(xA.1.trans Ad.1).aj,(xA.1.trans Ad.1).ak];exact h6 b (by simp)
    simp at ot;subst ot;exact⟨GF.1,by have:=GF.2;simp only;omega⟩
   have aN:∀F,S1.ae.getLast?=some F->(F.au=5↔({aa:=op,aj:=sg.1,ak:=sg.2,l:=sg.1,dead:=false}:RB).aa=4/\false=true):=by
    intro F hF;have:(nm S1).getLast?=some F.au:=by unfold nm;rw[List.getLast?_map,hF];rfl
    rw[e4]at this;simp at this;have:=F7.out;simp;omega
   refine(hU w7 er (fn.ax+p) (ads++[a]) A (rest++[r1.1]) _ S1 (p+2) n op 0 br _ _ br br false Ki (by omega) pP sF aN).mono ?_;rintro r w' ⟨v,rfl,⟨sa,sn,sc,rfl⟩,uu,at2,er2,ei,b2,ve2,mf,hL,JS,xG⟩;refine⟨sa,sn,sc,at2,er2,ei,b2,ve2,mf,rfl,uu,hL,JS,?_⟩;rw[<-dH]at xG;show _\/_;cases QH:RES with
   |error e=>
    rw[QH]at xG;obtain⟨u1,u2⟩:=xG;exact .inl ⟨by rw[u1];exact u2,by rw[u1]⟩
   |ok rr=>
    rw[QH]at xG dH;obtain⟨u1,u2,u3,u4,u5,u6,u7,u8,body,q,k,u9,u10,u11⟩:=xG;obtain⟨v1,_,_,_⟩:=tA fn.code.length S1 (p+2) (by omega) (by omega) iW (nLr _) dH.symm;refine .inr ⟨rr,rfl,u1,u2,u4,u5,?_,u7,by omega,u8,body,q,k,u9,u10,?_⟩
    ·rw[u6,e4];simp[nm,ci]
    rcases u11 with⟨x1,x2,x3,x4⟩|x1
    ·exact .inl ⟨x1,x3,x4⟩
    exact .inr ⟨x1.1,x1.2.2⟩
  have dH:RES=.error (7,fn.ax+p):=by rw[e1,aW]at cT;rw[<-GE.out];unfold je;rw[cT,aW]
  refine(DD h7 (by rw[e2];simp) n).mono ?_;rintro r w' ⟨rfl,rfl⟩;exact⟨none,0,0,_,_,_,_,br,false,rfl,Fr.refl _ _ _,h7,pP,.inl ⟨by rw[e2];simp,by rw[dH,e2]⟩⟩
 clear Kh Sf QF Nk n3 h7 hU;go_wp2_with fail;refine XY.mono ?_;clear XY;rintro e w8 ⟨sa,sn,sc,at2,er2,ei,b2,ve2,mf,rfl,sU,h8,jd,HUR⟩;have Vc:Hid _:=jd;have n5:=Blk.cell jd 5;have m5:=Blk.frozen jd 5;have A7:=Blk.lt jd;simp at n5;have kw:=aD w8 n 5 (.slice sa sn sc);have bY:=Blk.set jd 5 (.slice sa sn sc);simp at bY;go_upto_region 11 with fail
 obtain⟨w9,Iy⟩:=aja (w8.setCell ⟨n,5,none⟩ (.slice sa sn sc));rw[Iy]at kw bY ⊢;clear Iy;have Ef:∀g cs t,t≠157->Blk w8 g cs t->Blk w9 g cs t:=fun g cs t ht hb=>aF kw jd hb ht;have h9:Lk az w9 c x m f s at2 er2 ei (ads++[a]++[A]) (rest++[r1.1]++[b2]):=h8.kept fun g cs t ht hb=>Ef g cs t (by rcases ht with rfl|rfl|rfl|rfl|rfl <;> decide) hb;have rh:Fr az (some n) w7 w9:=sU.trans (Fr.wroteNode kw jd sF);obtain⟨gp,capp,p1,p2,p3,p4,p5⟩:=h9.pop;replace p4:=p4.drew;replace p5:=p5.drew;have QI:(rest++[r1.1]).length=nbl:=by have:=DF.out;simp;omega
 rw[QI]at p1 p3 p4 p5;have p3':(nbl:Int)+1<=(capp:Int):=by omega
 have aaP:=h9.cells.2.2.2.2.1;have p1':w9.cell? ⟨c,4,none⟩=some (.slice (some ⟨gp,0,none⟩) (nbl+1) capp):=p1;have p2':w9.frozen? ⟨c,4,none⟩=false:=p2;clear jd n5 m5 A7 Ef h8 sU pP R4;go_region
 obtain⟨w10,QJ⟩:=aja ((w9.setCell ⟨c,4,none⟩ (.slice (some ⟨gp,0,none⟩) nbl capp)).drew);rw[QJ]at p4 p5 ⊢;clear QJ p1 p2 p1' p2';have ki:Fr az (some n) w7 w10:=rh.trans p5.any;have wv:bp w10 n op 0 br (.slice at1 nt ct1) (.slice ag1 ng cg1) (.slice sa sn sc) ve2 mf:=p5.keep _ _ _ (by decide) (fun _=>by simp) bY;have z4:aR w10 (.slice at1 nt ct1) sg.1:=ki.row z4;have z5:aR w10 (.slice ag1 ng cg1) sg.2:=ki.row z5;have hG:=kg p4 z5 (by omega) (by omega);have n4:=Blk.cell wv 4;have XZ:=Blk.lt wv;simp at n4;go_wp2_with fail;refine hG.mono ?_;clear hG;rintro e w11 ⟨rfl,kZ,mF⟩;go_wp2_with fail;go_end0;have QK:=ki.trans kZ.any;refine⟨rfl,JU.trans QK,?_⟩;have wy:bp w11 n op 0 br (.slice at1 nt ct1) (.slice ag1 ng cg1) (.slice sa sn sc) ve2 mf:=kZ.keep _ _ _ (by decide) (fun _=>by simp) wv;rcases HUR.out with⟨u1,u2⟩|⟨r,u1,u2,u3,u4,u5,u6,u7,u8,u9,body,q,k,u10,u11,u12⟩
 ·rw[u2];exact⟨u1,_,_,_,mF⟩
 rw[u1];rw[u2,u3]at mF;have dh:=xA.1.trans Ad.1;have K:∀g cs t,w7.heap.size<=g->t=157\/t=155->Blk w8 g cs t->Blk w11 g cs t/\n<=g:=by
  intro g cs t hg ht hb;have e1:Blk w9 g cs t:=hb.grown kw (by simp;omega);have ld:¬l7 t:=by rcases ht with rfl|rfl <;> decide
  exact⟨kZ.keep g cs t ld (fun _=>by simp) (p5.keep g cs t ld (fun _=>by simp) e1),by omega⟩
 have K3:∀g cs,Blk w8 g cs 3->Blk w11 g cs 3:=by
  intro g cs hb;by_cases Sx:g=n
  ·subst Sx;have e1:=(hb.symm.trans (show Blk w8 g _ 157 from Vc.out))
   cases e1
  have e1:Blk w9 g cs 3:=hb.grown kw (by simpa using Sx);exact kZ.keep g cs 3 (by decide) (fun _=>by simp) (p5.keep g cs 3 (by decide) (fun _=>by simp) e1)
 have KP:∀g cs,w7.heap.size<=g->Blk w8 g cs 155->Blk w11 g cs 155/\n<=g:=fun g cs h1 h2=>K g cs 155 h1 (.inr rfl) h2;have jw:fS fn.code p=some op:=by unfold fS;rw[gEg jF,<-ex];rfl
 have hc:=F7.out;refine⟨ei,cx r1.1 sg.2,mF,(lZ u4 sg.2).same rfl (by simp[bE,u5]),dh.trans (fv _ _).1,?_,u6,u7,by omega,u9,?_⟩
 ·rw[(fv _ _).2];omega
 rcases u12 with⟨x1,x2,x3⟩|⟨x1,x2,el,q2,k2,x3,x4,x5,x6⟩
 ·exact⟨k+1,_,op,0,br,_,_,_,ve2,mf,r.2,HR.out,jw,wy,nLr _,rfl,ajj _ _ _ _,.inr ⟨by omega,by omega,sg,body,q,U6.out,kZ.row z4,kZ.row z5,u10.keep KP,bI.keep K K3 _ _ _ _ u11,.inl ⟨x1,x2,x3⟩⟩,by cases k with|zero=>exact u11.elim|succ k=>rfl⟩
 exact⟨k+k2+1+1,_,op,0,br,_,_,_,ve2,mf,r.2,HR.out,jw,wy,nLr _,rfl,ajj _ _ _ _,.inr ⟨by omega,by omega,sg,body,q,U6.out,kZ.row z4,kZ.row z5,u10.keep KP,(bI.keep K K3 _ _ _ _ u11).le (by omega),.inr ⟨x1,x2,el,q2,x3.keep KP,(bI.keep K K3 _ _ _ _ x4).le (by omega),x5,x6⟩⟩,rfl⟩
end
