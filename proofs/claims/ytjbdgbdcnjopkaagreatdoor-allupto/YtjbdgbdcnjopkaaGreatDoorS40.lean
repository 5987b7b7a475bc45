import Derived.Test.YtjbdgbdcnjopkaaGreatDoorS39
namespace Go.Proofs.YtjbdgbdcnjopkaaGreatDoor
open Go.RowKit Tryz
set_option linter.all false
set_option maxRecDepth 100000
set_option maxHeartbeats 4000000
section
variable {az c x m f:Nat}{w w':World}{s:ByteArray}{er:Er}{ads:List Nat}{a:Nat}{rest:List RB}{b:RB}{mm:bf}{fn:ck}{sig:Sig}{p op:Nat}{S:LSt}
theorem DG{N:Nat}(hU:kP az c x m f s mm fn sig N)(hN:fn.code.length<=p+2+N)(h:Lk az w c x m f s (fn.ax+p+1) er (fn.ax+p) (ads++[a]) (rest++[b]))(h0:er.1=0)(hc:Ctx w m f mm fn sig)(hp:la s mm fn sig)(oL:b.l.length<=20*p+20)(hrel:Rel (rest++[b]) S)(hB:iG S)(ox:((rest++[b]).head?).map dB=some sig.2)(h6:∀B∈rest++[b],B.aj.length<=6/\B.ak.length<=6)(jF:p<fn.code.length)(ex:fn.code[p].toNat=op)(dX:op=2\/op=3\/op=4):Calls prog 95 #[ptr c,.int .i64 op] w fun r w'=>∃n,r=.returned (ptr n)/\w.heap.size<=n/\Fr az none w w'/\l9 az w w' c x m f s er (ads++[a]) rest b mm fn sig S p n:=by
 have h1:=fun o=>h.grown (aC w o none);have pj:=fun o=>Fr.of (n:=none) (aC w o none) h.size;have iA:=gh w op;have hb:=fun o (hn:bp (w.alloc o) w.heap.size op 0 br br br br br false)=>DE hU hN (h1 o) h0 (hc.keep (pj o)) hp oL hrel hB ox h6 jF ex dX hn h.size;have lo':(2:Int)<=(op:Int):=by omega
 have jB:(op:Int)<=4:=by omega
 clear dX ex hU;go_enter func95,ntmps95;go_wp2_with fail;refine(hb _ iA).mono ?_;clear hb;rintro e w2 ⟨rfl,dq,hP⟩;go_wp2_with fail;go_ret;refine⟨w.heap.size,rfl,nLr _,dq.fresh (aC _ _ _) (nLr _) h.size,?_⟩;unfold l9;cases hr:je mm (sig.1++fn.ai) fn S p with
 |error e=>rw[hr]at hP;exact hP
 |ok r=>rw[hr]at hP;exact hP
theorem Kj{N:Nat}(hU:kP az c x m f s mm fn sig N)(hN:fn.code.length<=p+2+N)(h:Lk az w c x m f s (fn.ax+p+1) er (fn.ax+p) (ads++[a]) (rest++[b]))(h0:er.1=0)(hc:Ctx w m f mm fn sig)(hp:la s mm fn sig)(oL:b.l.length<=20*p+20)(hrel:Rel (rest++[b]) S)(hB:iG S)(ox:((rest++[b]).head?).map dB=some sig.2)(h6:∀B∈rest++[b],B.aj.length<=6/\B.ak.length<=6)(jF:p<fn.code.length)(ex:fn.code[p].toNat=op)(rS:op≠5/\op≠6):Calls prog 95 #[ptr c,.int .i64 op] w fun r w'=>∃n,r=.returned (ptr n)/\w.heap.size<=n/\Fr az none w w'/\l9 az w w' c x m f s er (ads++[a]) rest b mm fn sig S p n:=by
 by_cases dX:op=2\/op=3\/op=4
 ·exact DG hU hN h h0 hc hp oL hrel hB ox h6 jF ex dX
 exact Gd h h0 hc hp (by have:=hp.len;omega) hrel hB ox h6 jF ex (by omega)
theorem xH{ai:List Nat}{d:Nat}(hB:iG S)(hd:S.ae.length=d)(OP:1<=d)(jF:p<fn.code.length)(ex:fn.code[p].toNat=op)(rS:op≠6):fC mm ai fn d S p=bnd (je mm ai fn S p) fun r=>fC mm ai fn d r.1 r.2:=by
 rw[ft (by omega),ajd jF];unfold je;cases hx:dr mm ai fn S p with
 |error e=>rfl
 |ok r=>
  rw[aM,aM];obtain⟨h1,h2⟩:=jc hx;obtain⟨b1,b2⟩:=gg hB hx;have fp:r.1.ae.length=d\/r.1.ae.length=d+1:=by
   unfold dr at hx;split at hx
   ·cases hx
   split at hx
   ·cases hx
   rename_i st cT;obtain⟨_,_,hx⟩:=cd hx;obtain⟨s1,yR,hx⟩:=cd hx;cases hx;have zh:=tF jF cT;rw[ex]at zh;have dL:st.aa.au≠6:=by
    have:∀y∈dS,y.1≠6->y.2.au≠6:=by decide
    exact this (op,st.aa) (kL zh) rS
   obtain⟨F,hF⟩:=il (s:=S) (by omega);rcases xt hF (hB.below F (ajm hF)) yR with⟨w,_⟩|⟨w,_⟩|⟨sig,_,⟨n,_,_,_,_,lN,_⟩,_⟩|⟨w,_⟩|⟨_,w⟩
   ·rw[w.1];exact .inl hd
   ·left;rw[w.1];simp;omega
   ·right;rw[lN];simp;omega
   ·left;rw[w.2.1];simp;omega
   exact absurd w dL
  rcases fp with hc|hc
  ·rw[ajc (by omega),ajc (by omega),aM]
  rw[ajc (by omega),ajd (by omega),hc];exact rp fn.code.length r.1 r.2 (by omega) h2 b1 (by omega)
theorem GI(hrel:Rel (rest++[b]) S)(h0:er.1=0)(jF:p<fn.code.length)(ex:fn.code[p].toNat=6){ai:List Nat}{F:PFr}(hF:S.ae.getLast?=some F):(∃S',dr mm ai fn S p=.ok (S',p+1)/\(bh (fn.ax+p) b er b.ak.reverse).2=er/\(bh (fn.ax+p) b er b.ak.reverse).1.l=[]/\¬(F.au=4/\b.aj≠b.ak)/\S'.ae=S.ae.dropLast/\S'.af=iU rest++b.ak) \/ (dr mm ai fn S p=.error (7,fn.ax+p)/\((bh (fn.ax+p) b er b.ak.reverse).2=(7,fn.ax+p)\/(bh (fn.ax+p) b er b.ak.reverse).2=er/\((bh (fn.ax+p) b er b.ak.reverse).1.l≠[]\/(F.au=4/\b.aj≠b.ak)))):=by
 have aQ:=hrel.len;simp at aQ;have hR:=jU jF ex (k:=⟨6,0,0,0,0⟩) rfl rfl;have hs:dr mm ai fn S p=bnd (lq (fn.ax+p) (ci S {aa:=⟨6,0,0,0,0⟩,idx:=[],num:=0,next:=p+1})) fun s1=>.ok (s1,p+1):=by unfold dr;rw[ajc (by omega),hR];rfl
 have zx:Rel (rest++[b]) (ci S {aa:=⟨6,0,0,0,0⟩,idx:=[],num:=0,next:=p+1}):=hrel.same rfl rfl;rcases JR (ar:=fn.ax+p) zx h0 (F:=F) hF with⟨S',e1,e2,e3,e4,e5,e6⟩|⟨e1,e2⟩
 ·exact .inl ⟨S',by rw[hs,e1];rfl,e2,e3,e4,e5,e6⟩
 exact .inr ⟨by rw[hs,e1];rfl,e2⟩
theorem DH(hrel:Rel (rest++[b]) S)(h0:er.1=0)(jF:p<fn.code.length)(ex:fn.code[p].toNat=5){ai:List Nat}{F:PFr}(hF:S.ae.getLast?=some F):(F.au≠4->dr mm ai fn S p=.error (5,fn.ax+p))/\(F.au=4 -> (∃S',dr mm ai fn S p=.ok (S',p+1)/\(bh (fn.ax+p) b er b.ak.reverse).2=er/\(bh (fn.ax+p) b er b.ak.reverse).1.l=[]/\Rel (rest++[{b with dead:=false,l:=b.aj}]) S'/\nm S'=(nm S).dropLast++[5]) \/ (dr mm ai fn S p=.error (7,fn.ax+p)/\((bh (fn.ax+p) b er b.ak.reverse).2=(7,fn.ax+p)\/(bh (fn.ax+p) b er b.ak.reverse).2=er/\(bh (fn.ax+p) b er b.ak.reverse).1.l≠[]))):=by
 have aQ:=hrel.len;simp at aQ;have hR:=jU jF ex (k:=⟨5,0,0,0,0⟩) rfl rfl;have hs:dr mm ai fn S p=bnd (gU (fn.ax+p) (ci S {aa:=⟨5,0,0,0,0⟩,idx:=[],num:=0,next:=p+1})) fun s1=>.ok (s1,p+1):=by unfold dr;rw[ajc (by omega),hR];rfl
 have zx:Rel (rest++[b]) (ci S {aa:=⟨5,0,0,0,0⟩,idx:=[],num:=0,next:=p+1}):=hrel.same rfl rfl;refine⟨fun ec=>?_,fun h4=>?_⟩
 ·rw[hs];have:gU (fn.ax+p) (ci S {aa:=⟨5,0,0,0,0⟩,idx:=[],num:=0,next:=p+1})=.error (5,fn.ax+p):=by unfold gU;have:(ci S {aa:=⟨5,0,0,0,0⟩,idx:=[],num:=0,next:=p+1}).ae.getLast?=some F:=hF;rw[this];simp only;rw[ajd ec]
  rw[this,aW]
 rcases FN (ar:=fn.ax+p) zx h0 (F:=F) hF h4 with⟨S',e1,e2,e3,e4,e5⟩|⟨e1,e2⟩
 ·exact .inl ⟨S',by rw[hs,e1];rfl,e2,e3,e4,e5⟩
 exact .inr ⟨by rw[hs,e1];rfl,e2⟩
end
def rX(az:Nat)(w w':World)(c x m f:Nat)(s:ByteArray)(er:Er)(ads:List Nat)(rest:List RB)(b:RB)(mm:bf)(fn:ck)(S:LSt)(p nd op:Nat)(num:Int)(vl vt vg vb ve:Value)(ew:Bool)(res:Except Er (LSt×Nat))(v:Value):Prop:=
 (∃sa sn sc,v=.slice sa sn sc)/\Fr az (some nd) w w'/\∃at2 er2 ei b2 ve2 mf,Lk az w' c x m f s at2 er2 ei ads (rest++[b2])/\bp w' nd op num vl vt vg vb ve2 mf /\
  LF w w' er rest b mm fn S p ve ew v at2 er2 b2 ve2 mf res
theorem fN.of{w:World}{az:Nat}{v:Value}{l:List Nat}(h:w.ownsRow az 155 1 v l.length (l.map ptr)):fN w (fun g=>az<=g) v l:=by
 rcases h.2 with⟨e1,e2⟩|⟨g,cap,cur,e1,e2,e3,e4,e5,e6,e7⟩
 ·exact .inl ⟨e1,List.length_eq_zero_iff.1 e2⟩
 refine .inr ⟨g,cap,cur,e1,e3,e2,fun i hi=>?_⟩;have h1:(cur.toList.take (l.length*1))[i]?=(l.map ptr)[i]?:=by rw[e7]
 rw[ajI (by omega),List.getElem?_map,gEg hi,Array.getElem?_toList]at h1;exact h1
section
variable {az c x m f:Nat}{w w5 W:World}{s:ByteArray}{er:Er}{ads:List Nat}{a:Nat}{rest:List RB}{b b2:RB}{mm:bf}{fn:ck}{sig:Sig}{S S2:LSt}{p p2 ei k nd op0:Nat}{num:Int}{vl vt vg vb ve v:Value}{ew:Bool}{ls:List Nat}{RES:Except Er (LSt×Nat)}
theorem wI(dL:nm S2=nm S)(dh:cQ b b2)(aN:∀F,S.ae.getLast?=some F->(F.au=5↔b.aa=4/\ew=true)){F2:PFr}(h2:S2.ae.getLast?=some F2):F2.au=5↔b2.aa=4/\ew=true:=by
 have h1:(nm S2).getLast?=some F2.au:=by unfold nm;rw[List.getLast?_map,h2];rfl
 rw[dL]at h1;unfold nm at h1;rw[List.getLast?_map]at h1;obtain⟨F,hF,e⟩:=Option.map_eq_some_iff.1 h1;rw[<-e,aN F hF,dh.aa]
theorem wJ(hrel:Rel (rest++[b2]) S2)(h5:∀F2,S2.ae.getLast?=some F2->(F2.au=5↔b2.aa=4/\ew=true)){F2:PFr}(h2:S2.ae.getLast?=some F2):F2.au=4↔b2.aa=4/\ew=false:=by
 obtain⟨fs,F,k1,k2,k3,k4,k5⟩:=hrel.top;rw[h2]at k5;cases k5;have Yq:=h5 F2 h2;have hi:=k3.iff;constructor
 ·intro e;have hk:b2.aa=4:=hi.2 (.inl e);refine⟨hk,?_⟩;cases hh:ew with
  |false=>rfl
  |true=>have:=Yq.2 ⟨hk,hh⟩;omega
 rintro⟨e1,e2⟩;rcases hi.1 e1 with e|e
 ·exact e
 have:=(Yq.1 e).2;rw[e2]at this;cases this
def lJ(here:Nat)(b2:RB)(er:Er)(bad:Bool):Er:=if bad then noS (bh here b2 er b2.ak.reverse).2 7 here else (bh here b2 er b2.ak.reverse).2
theorem N7(lO:zv az w5 c x m f s er ei ads a rest b2 mm fn sig S2 p2)(dH:RES=fC mm (sig.1++fn.ai) fn S.ae.length S2 p2)(dh:cQ b b2)(dL:nm S2=nm S)(bM:p2<fn.code.length)(ho:fn.code[p2].toNat=6)(aN:∀F,S.ae.getLast?=some F->(F.au=5↔b.aa=4/\ew=true))(zM:bI w5 mm fn.code (fun g=>w.heap.size<=g/\some g≠v.ownBlock) k p ls p2) (hF:Fr az none w5 W) (bn:W.ownsRow w.heap.size 155 1 v ls.length (ls.map ptr)) (hFw:Fr az none w W) (iA:bp W nd op0 num vl vt vg vb ve ew) {q:Bool} (hq:q=true↔((bh (fn.ax+p2) b2 er b2.ak.reverse).1.l≠[]\/(b2.aa=4/\ew=false/\b2.aj≠b2.ak)))(hL:Lk az W c x m f s (fn.ax+p2+1) (lJ (fn.ax+p2) b2 er q) (fn.ax+p2) (ads++[a]) (rest++[(bh (fn.ax+p2) b2 er b2.ak.reverse).1])):rX az w W c x m f s er (ads++[a]) rest b mm fn S p nd op0 num vl vt vg vb ve ew RES v:=by
 have Hk:=lO.e0;obtain⟨fs,F,k1,k2,k3,k4,k5⟩:=lO.rel.top;have h5:=fun F2 h2=>wI (F2:=F2) dL dh aN h2;have h4:=wJ lO.rel h5 k5;have zN:S.ae.length=S2.ae.length:=by have:=congrArg List.length dL;simpa [nm] using this.symm
 obtain⟨sa,cap,hv,_,_⟩:=aG bn;have cT:=GI (mm:=mm) (ai:=sig.1++fn.ai) lO.rel Hk bM ho k5;rw[ft lO.pl,ajd bM]at dH;refine⟨⟨_,_,_,hv⟩,hFw.any,_,_,_,_,ve,ew,hL,iA,?_⟩;rcases cT with⟨S',e1,e2,e3,e4,e5,e6⟩|⟨e1,e2⟩
 ·have hb:=(gg lO.binv e1).1;rw[e1,aM]at dH;have Af:S'.ae.length<S.ae.length:=by rw[e5,zN,k1];simp
  rw[ajd Af]at dH;rw[dH];have O4:q=false:=by
   cases B6:q with
   |false=>rfl
   |true=>
    rcases hq.1 B6 with h|⟨x1,x2,x3⟩
    ·exact absurd e3 h
    exact absurd ⟨h4.2 ⟨x1,x2⟩,x3⟩ e4
  refine⟨?_,rfl,e3,?_,?_,?_,hb,bM,ls,p2,k,fN.of bn,?_,.inl ⟨?_,rfl,rfl,rfl⟩⟩
  ·unfold lJ;rw[O4,e2];rfl
  ·exact lO.rel.pop (s':={S' with af:=iU rest}) e5 rfl
  ·rw[e6,dh.ak]
  ·show S'.ae.map (·.au)=(nm S).dropLast;rw[e5,List.map_dropLast];exact congrArg List.dropLast dL
  ·exact bI.keep (fun g cs t h1 ht hb=>⟨hF.keep g cs t (by rcases ht with rfl|rfl <;> decide) (fun _=>by simp) hb,h1.1⟩) (fun g cs hb=>hF.keep g cs 3 (by decide) (fun e=>by cases e) hb) _ _ _ _ zM
  unfold fS;rw[gEg bM,<-ho];rfl
 rw[e1,aW]at dH;rw[dH];refine⟨?_,by simp⟩;unfold lJ;rcases e2 with e2|⟨e2,e3⟩
 ·rw[e2,pJ (by simp)];simp
 have hqt:q=true:=hq.2 (by
  rcases e3 with e3|⟨x1,x2⟩
  ·exact .inl e3
  exact .inr ⟨(h4.1 x1).1,(h4.1 x1).2,x2⟩)
 rw[hqt,e2];simp only[if_true];unfold noS;rw[ajd Hk]
theorem Kw(lO:zv az w5 c x m f s er ei ads a rest b2 mm fn sig S2 p2)(dH:RES=fC mm (sig.1++fn.ai) fn S.ae.length S2 p2)(dh:cQ b b2)(dL:nm S2=nm S)(bM:p2<fn.code.length)(ho:fn.code[p2].toNat=5)(aN:∀F,S.ae.getLast?=some F->(F.au=5↔b.aa=4/\ew=true)):(¬(b2.aa=4/\ew=false)->RES=.error (5,fn.ax+p2)) /\ (b2.aa=4/\ew=false->∀{q:Bool},(q=true↔(bh (fn.ax+p2) b2 er b2.ak.reverse).1.l≠[]) -> ((lJ (fn.ax+p2) b2 er q).1≠0/\RES=.error (lJ (fn.ax+p2) b2 er q)) \/ (lJ (fn.ax+p2) b2 er q=er/\(bh (fn.ax+p2) b2 er b2.ak.reverse).1.l=[]/\∃S',Rel (rest++[{b2 with dead:=false,l:=b2.aj}]) S'/\iG S'/\nm S'=(nm S).dropLast++[5]/\S'.ae.length=S.ae.length/\RES=fC mm (sig.1++fn.ai) fn S'.ae.length S' (p2+1))):=by
 have Hk:=lO.e0;obtain⟨fs,F,k1,k2,k3,k4,k5⟩:=lO.rel.top;have h5:=fun F2 h2=>wI (F2:=F2) dL dh aN h2;have h4:=wJ lO.rel h5 k5;have zN:S.ae.length=S2.ae.length:=by have:=congrArg List.length dL;simpa [nm] using this.symm
 have cT:=DH (mm:=mm) (ai:=sig.1++fn.ai) lO.rel Hk bM ho k5;rw[ft lO.pl,ajd bM]at dH;refine⟨fun ec=>?_,fun hy q hq=>?_⟩
 ·rw[cT.1 (fun e=>ec (h4.1 e)),aW]at dH;exact dH
 rcases cT.2 (h4.2 hy) with⟨S',e1,e2,e3,e4,e5⟩|⟨e1,e2⟩
 ·have hb:=(gg lO.binv e1).1;have Af:S'.ae.length=S.ae.length:=by have:=congrArg List.length e5;simp[nm]at this;rw[zN,k1];rw[k1]at this;simp at this;simp;omega
  rw[e1,aM]at dH;simp only at dH;rw[ajc (by omega)]at dH;have O4:q=false:=by
   cases B6:q with
   |false=>rfl
   |true=>exact absurd e3 (hq.1 B6)
  refine .inr ⟨?_,e3,S',e4,hb,by rw[e5,dL],Af,by rw[dH,Af]⟩;unfold lJ;rw[O4,e2];rfl
 rw[e1,aW]at dH;have hE:lJ (fn.ax+p2) b2 er q=(7,fn.ax+p2):=by
  unfold lJ;rcases e2 with e2|⟨e2,e3⟩
  ·rw[e2,pJ (by simp)];simp
  rw[hq.2 e3,e2];simp only[if_true];unfold noS;rw[ajd Hk]
 exact .inl ⟨by rw[hE];simp,by rw[hE,dH]⟩
end
theorem Kx{w:World}{v v2:Value}{l l2:List Nat}(h1:aR w v l)(h2:aR w v2 l2)(hl:l.length<=1000)(jD:l2.length<=1000):Calls prog 93 #[v,v2] w fun r w'=>r=.returned (.bool (decide (l=l2)))/\∃m,w'=w.drewN m:=by
 obtain⟨a1,k1,rfl,_,_⟩:=aG h1;obtain⟨a2,k2,rfl,_,_⟩:=aG h2;by_cases jM:l.length=l2.length
 ·have hg:l.length≠0->∃g1 g2,a1=some ⟨g1,0,none⟩/\a2=some ⟨g2,0,none⟩:=by intro ec;obtain⟨g1,_,e1⟩:=cu h1 (by omega);obtain⟨g2,_,e2⟩:=cu h2 (by omega);simp at e1 e2;exact⟨g1,g2,e1.1,e2.1⟩
  obtain⟨n,hN⟩:=aja l.length;have JS:l2.length=n:=by omega
  rw[hN]at h1 hg ⊢;rw[JS]at h2 ⊢;have uJ:(n:Int)<=1000:=by omega
  go_enter func93,ntmps93;go_wp2_with fail;go_loopw [5] (fun i wr=>∃(k nn:Nat),i=.int .i64 (k:Int)/\k<=n/\Hid (l.take k=l2.take k)/\wr=w.drewN nn) (fun i _=>(n-intOf i).toNat)
  case atStart=>exact⟨0,0,rfl,ajl _,(by show _=_;simp),rfl⟩
  case round=>
   obtain⟨k,nn,rfl,xZ,HE,hG⟩:=hrel;subst hG;by_cases hk:k=n
   ·subst hk;have hd:decide (l=l2)=true:=by rw[decide_eq_true_iff];have:=HE.out;rw[<-hN,List.take_length]at this;rw[this,hN,<-JS,List.take_length]
    have HD:Hid _:=hd;clear HE hd;go_wp2_with fail;go_ret;rw[HD.out];exact⟨rfl,nn,rfl⟩
   obtain⟨g1,g2,rfl,rfl⟩:=hg (by omega);have mD:k<l.length:=by omega
   have lg:k<l2.length:=by omega
   have r1:=h1;have r2:=h2;have c1:w.cell? ⟨g1,k,none⟩=some (.int .i64 (l[k]:Nat)):=by unfold aR at r1;rw[hN]at r1;rw[(bK r1 (j:=k) (by omega)).1];simp[aV,gEg mD]
   have c2:w.cell? ⟨g2,k,none⟩=some (.int .i64 (l2[k]:Nat)):=by unfold aR at r2;rw[JS]at r2;rw[(bK r2 (j:=k) (by omega)).1];simp[aV,gEg lg]
   have CP:(k:Int)<(n:Int):=by omega
   have Lu:(0:Int)<=(k:Int):=by omega
   obtain⟨t1,qY⟩:∃t,l[k]=t:=⟨_,rfl⟩;obtain⟨t2,oc⟩:∃t,l2[k]=t:=⟨_,rfl⟩;rw[qY]at c1;rw[oc]at c2;clear r1 r2;by_cases ht:t1=t2
   ·have kK:Hid (l.take (k+1)=l2.take (k+1)):=by show _=_;rw[List.take_add_one,List.take_add_one,HE.out,gEg mD,gEg lg,qY,oc,ht]
    subst ht;clear HE qY oc h1 h2;go_wp2_with fail;go_quiet (fail)
    go_wp2_with fail;go_roundw
    case rel=>exact⟨k+1,nn+nq,by simp,by omega,kK,by simp only[World.drewN,Nat.add_assoc]⟩
    case measure=>simp[intOf];omega
   have hd:decide (l=l2)=false:=by rw[decide_eq_false_iff_not];rintro rfl;exact ht (qY.symm.trans oc)
   have HD:Hid _:=hd;have tb:((t1:Int)==(t2:Int))=false:=beqn (by omega);have tn:((t1:Int) != (t2:Int))=true:=by simp only[bne,tb];rfl
   clear HE qY oc h1 h2 ht hd;go_wp2_with fail;go_quiet (fail)
   go_wp2_with fail;go_ret;rw[HD.out];exact⟨rfl,nn+nq,by simp only[World.drewN,Nat.add_assoc]⟩
 have hd:decide (l=l2)=false:=by rw[decide_eq_false_iff_not];rintro rfl;exact jM rfl
 rw[hd];have tb:((l.length:Int)==(l2.length:Int))=false:=beqn (by omega);have tn:((l.length:Int) != (l2.length:Int))=true:=by simp only[bne,tb];rfl
 clear hd jM;go_enter func93,ntmps93;go_wp2_with fail;go_ret;exact⟨rfl,0,rfl⟩
def fP(sig:Sig):LSt:=dg {af:=[],ae:=[],ay:=[],ah:=[]} 2 sig
theorem rx(sig:Sig):iG (fP sig):=by refine⟨?_,?_,?_,?_,?_,?_,?_⟩ <;> simp[fP,dg]
theorem Bj(sig:Sig):Rel ([]++[({aa:=6,aj:=sig.1,ak:=sig.2,l:=[],dead:=false}:RB)]) (fP sig):=by
 refine⟨rfl,rfl,fun i b F hb hF=>?_⟩;cases i with
 |zero=>
  simp at hb;simp[fP,dg]at hF;subst hb;subst hF;exact⟨rfl,rfl,rfl,rfl,by simp,by simp⟩
 |succ i=>simp at hb
def QL(w w':World)(x:Nat)(s:ByteArray)(er:Er)(mm:bf)(fn:ck)(vb:Value)(res:Except Er LSt):Prop:=
 match res with
 |.error e=>e.1≠0/\∃at2,Sc w' x s at2 e
 |.ok _=>(∃at2,Sc w' x s at2 er)/\∃body k q,fN w' (fun g=>w.heap.size<=g) vb body/\bI w' mm fn.code (fun g=>w.heap.size<=g) k 0 body q/\fS fn.code q=some 6/\q+1=fn.code.length
section
variable {az c x m f:Nat}{w w':World}{s:ByteArray}{at_:Nat}{er:Er}{mm:bf}{fn:ck}{sig:Sig}
theorem Bk(hU:∀N,kP az c x m f s mm fn sig N)(hs:Sc w x s at_ er)(h0:er.1=0)(Am:Blk w c #[ptr x,ptr m,ptr f,.int .i64 0,br] 124)(hc:Ctx w m f mm fn sig)(hp:la s mm fn sig)(hx:az<=x)(iX:az<=c)(lv:az<=f):Calls prog 56 #[ptr c] w fun r w'=>r=.returned (.tuple #[])/\Below az w w'/\(∀g cs t,¬l7 t->g≠f->Blk w g cs t->Blk w' g cs t)/\∃vt vg vl vb,Blk w' f #[vt,vg,vl,.int .i64 fn.ax,.int .i64 ((fn.ax+fn.code.length:Nat):Int),vb] 49/\aR w' vt sig.1/\aR w' vg sig.2/\aR w' vl (sig.1++fn.ai)/\QL w w' x s er mm fn vb (cS mm (sig.1++fn.ai) fn (fn.code.length+1) (fP sig) 0):=by
 obtain⟨RES,tO⟩:=aja (cS mm (sig.1++fn.ai) fn (fn.code.length+1) (fP sig) 0);rw[tO];have NE:=oy (m:=mm) (ai:=sig.1++fn.ai) (f:=fn) (fn.code.length+1) (fP sig) 0 (by omega) (by omega) (by simp[fP,dg]) (rx sig);rw[tO]at NE;have Vd:Hid _:=NE;clear tO NE;obtain⟨d0,d1,d2,d3⟩:=hs.cells;obtain⟨vt,vg,vl,vb,f1,f2,f3,f4⟩:=hc.fn;have c0:=Am.cell 0;have c2:=Am.cell 2;have p3:=f1.cell 3;have gx1:=Blk.frozen hs 1;simp at c0 c2 p3;have mO:=Am.lt;have OM:=Blk.lt hs;have Jr:=f1.lt;go_enter func56,ntmps56;go_upto_region 1 with fail
 go_region
 go_upto_region 2 with fail
 obtain⟨w2,xa⟩:=aja ((w.setCell ⟨x,1,none⟩ (.int .i64 (fn.ax:Int))).drew);have rC:Sc (w.setCell ⟨x,1,none⟩ (.int .i64 (fn.ax:Int))).drew x s fn.ax er:=hs.setAt fn.ax;have lg:∀g cs t,t≠116->Blk w g cs t->Blk (w.setCell ⟨x,1,none⟩ (.int .i64 (fn.ax:Int))).drew g cs t:=fun g cs t ht hb=>aF (aE (aD w x 1 (.int .i64 (fn.ax:Int)))) hs hb ht;have dq:Fr az none w (w.setCell ⟨x,1,none⟩ (.int .i64 (fn.ax:Int))).drew:=(Fr.wrote (aD w x 1 (.int .i64 (fn.ax:Int))) hs (by decide) hx).drew;rw[xa]at rC lg dq ⊢;clear xa c0 c2 p3 gx1 mO OM Jr d0 d1 d2 d3;have Bl:=lg _ _ _ (by decide) Am;have f12:=lg _ _ _ (by decide) f1;obtain⟨at1,ct1,rfl,_,_⟩:=aG f2;obtain⟨ag1,cg1,rfl,_,_⟩:=aG f3;have k0:=f12.cell 0;have k1:=f12.cell 1;have k4:=Bl.cell 4;have g4:=Bl.frozen 4;simp at k0 k1 k4;have xx:=Bl.lt;have Ve:=f12.lt;have yr:az<=w2.heap.size:=by omega
 have sk:=aD w2 c 4 (.slice (some ⟨w2.heap.size+1,0,none⟩) 1 1);have Ce:=Bl.set 4 (.slice (some ⟨w2.heap.size+1,0,none⟩) 1 1);simp at Ce;have Vf:Fr az none w2 (w2.setCell ⟨c,4,none⟩ (.slice (some ⟨w2.heap.size+1,0,none⟩) 1 1)):=Fr.wrote sk Bl (by decide) iX;have Vg:∀g cs t,t≠124->Blk w2 g cs t->Blk (w2.setCell ⟨c,4,none⟩ (.slice (some ⟨w2.heap.size+1,0,none⟩) 1 1)) g cs t:=fun g cs t ht hb=>aF sk Bl hb ht;have Kk:(w2.setCell ⟨c,4,none⟩ (.slice (some ⟨w2.heap.size+1,0,none⟩) 1 1)).heap.size=w2.heap.size:=by simp
 go_upto_region 3 with fail
 obtain⟨wS,X0⟩:=aja (w2.setCell ⟨c,4,none⟩ (.slice (some ⟨w2.heap.size+1,0,none⟩) 1 1));rw[X0]at Ce Vf Vg Kk ⊢;clear X0 sk;have qm:wS.grownBy ((wS.alloc (.cells #[.int .i64 6,.slice at1 sig.1.length ct1,.slice ag1 sig.2.length cg1,.slice none 0 0,.bool false] 153)).alloc (.cells #[ptr w2.heap.size] 151)) none:=aB (aC _ _ _) (aC _ _ _);have eF:Blk ((wS.alloc (.cells #[.int .i64 6,.slice at1 sig.1.length ct1,.slice ag1 sig.2.length cg1,.slice none 0 0,.bool false] 153)).alloc (.cells #[ptr w2.heap.size] 151)) w2.heap.size #[.int .i64 6,.slice at1 sig.1.length ct1,.slice ag1 sig.2.length cg1,.slice none 0 0,.bool false] 153:=by have:=(Blk.new wS #[.int .i64 6,.slice at1 sig.1.length ct1,.slice ag1 sig.2.length cg1,.slice none 0 0,.bool false] 153).alloc (.cells #[ptr w2.heap.size] 151);rw[Kk]at this;exact this
 have jm:Blk ((wS.alloc (.cells #[.int .i64 6,.slice at1 sig.1.length ct1,.slice ag1 sig.2.length cg1,.slice none 0 0,.bool false] 153)).alloc (.cells #[ptr w2.heap.size] 151)) (w2.heap.size+1) #[ptr w2.heap.size] 151:=by have:=Blk.new (wS.alloc (.cells #[.int .i64 6,.slice at1 sig.1.length ct1,.slice ag1 sig.2.length cg1,.slice none 0 0,.bool false] 153)) #[ptr w2.heap.size] 151;simpa [Kk] using this
 have et:=(dq.trans Vf).trans (Fr.of qm (by omega));have bY:=Ce.grown qm (by simp);have IG:Sc _ x s fn.ax er:=Blk.grown (Vg _ _ _ (by decide) rC) qm (by simp);obtain⟨w3,xY⟩:=aja ((wS.alloc (.cells #[.int .i64 6,.slice at1 sig.1.length ct1,.slice ag1 sig.2.length cg1,.slice none 0 0,.bool false] 153)).alloc (.cells #[ptr w2.heap.size] 151));rw[xY]at bY et eF jm IG ⊢;clear xY k0 k1 k4 g4;have h3:Lk az w3 c x m f s (fn.ax+0) er 0 ([]++[w2.heap.size]) ([]++[({aa:=6,aj:=sig.1,ak:=sig.2,l:=[],dead:=false}:RB)]):=by
  refine⟨IG,⟨_,bY,⟨by simp,.inr ⟨w2.heap.size+1,1,#[ptr w2.heap.size],rfl,by omega,jm,by simp,by simp[maxLen],by simp,by simp⟩⟩⟩,rfl,by simp,fun i g B hg hB=>?_,hx,iX,fun g hg=>?_,by simp⟩
  ·cases i with
   |zero=>
    simp at hg hB;subst hg;subst hB;exact⟨_,_,_,eF,et.row f2,et.row f3,ajj _ _ _ _⟩
   |succ i=>simp at hg
  simp at hg;subst hg;exact yr
 have yl:=hc.keep et;have f13:=et.keep _ _ _ (by decide) (fun e=>by cases e) f1;have kv:=h3.size;have iA:=gh w3 0;have aaQ:=bY;clear bY eF jm Vg qm Bl f12 xx Ve rC lg Ce Vf Kk IG;have Ki:∀o,zv az (w3.alloc o) c x m f s er 0 [] w2.heap.size [] {aa:=6,aj:=sig.1,ak:=sig.2,l:=[],dead:=false} mm fn sig (fP sig) 0:=by intro o;have h6:=hp.sig6;refine⟨h3.grown (aC _ _ _),h0,yl.keep (Fr.of (n:=none) (aC w3 o none) kv),hp,Bj sig,rx sig,by simp[dB],?_,by simp,ajl _⟩;intro B hB;simp at hB;subst hB;exact⟨h6.1,by have:=h6.2;simp only;omega⟩
 have hI:=fun o (hn:bp (w3.alloc o) w3.heap.size 0 0 br br br br br false)=>hU fn.code.length (w3.alloc o) er 0 [] w2.heap.size [] {aa:=6,aj:=sig.1,ak:=sig.2,l:=[],dead:=false} (fP sig) 0 w3.heap.size 0 0 br br br br br false (Ki o) (by omega) hn kv (by
  intro F hF
  simp[fP,dg]at hF
  subst hF
  simp)
 clear Ki hU;go_wp2_with fail;refine(hI _ iA).mono ?_;clear hI;rintro e w5 ⟨v5,rfl,⟨sa,sn,sc,rfl⟩,iv,at5,er5,GJ,b5,ve5,QM,h5,Bi,xG⟩;have f14:Blk (w3.alloc (.cells #[.int .i64 0,.int .i64 0,.slice none 0 0,.slice none 0 0,.slice none 0 0,.slice none 0 0,.slice none 0 0,.bool false] 157)) f _ 49:=f13.alloc _;have f15:=iv.keep _ _ _ (by decide) (fun e=>by cases e) f14;have n5:=f15.cell 5;have g5:=f15.frozen 5;have Vh:=f15.lt;simp at n5;have tP:=f15.set 5 (.slice sa sn sc);simp at tP;have oM:=aD w5 f 5 (.slice sa sn sc);have AP:=et.below.size;have Vi:=iv.below.size;simp at Vi;have KA:∀g cs t,¬l7 t->g≠f->Blk w g cs t->Blk (w5.setCell ⟨f,5,none⟩ (.slice sa sn sc)) g cs t:=by intro g cs t h1 h2 hb;have:=hb.lt;exact(iv.keep g cs t h1 (fun _ e=>by simp at e;omega) ((et.keep g cs t h1 (fun _=>by simp) hb).alloc _)).grown oM (by simpa using h2)
 have KB:Below az w (w5.setCell ⟨f,5,none⟩ (.slice sa sn sc)):=(et.below.trans ((Fr.of (n:=none) (aC w3 (.cells #[.int .i64 0,.int .i64 0,.slice none 0 0,.slice none 0 0,.slice none 0 0,.slice none 0 0,.slice none 0 0,.bool false] 157) none) kv).below.trans iv.below)).trans (cY oM (by omega) (fun r e=>by cases e;exact lv));have h6:Lk az (w5.setCell ⟨f,5,none⟩ (.slice sa sn sc)) c x m f s at5 er5 GJ ([]++[w2.heap.size]) ([]++[b5]):=h5.kept fun g cs t ht hb=>aF oM f15 hb (by rcases ht with rfl|rfl|rfl|rfl|rfl <;> decide);have K16:∀g cs t,(w3.alloc (.cells #[.int .i64 0,.int .i64 0,.slice none 0 0,.slice none 0 0,.slice none 0 0,.slice none 0 0,.slice none 0 0,.bool false] 157)).heap.size<=g->t=157\/t=155->Blk w5 g cs t->Blk (w5.setCell ⟨f,5,none⟩ (.slice sa sn sc)) g cs t/\w.heap.size<=g:=by intro g cs t h1 ht hb;simp at h1;exact⟨aF oM f15 hb (by rcases ht with rfl|rfl <;> decide),by omega⟩
 have K163:∀g cs,Blk w5 g cs 3->Blk (w5.setCell ⟨f,5,none⟩ (.slice sa sn sc)) g cs 3:=fun g cs hb=>aF oM f15 hb (by decide);have NH:Hid _:=K16;have LH:Hid _:=K163;have OX:Hid _:=KA;clear K16 K163 KA;go_upto_region 4 with fail
 have oC:Hid (aR (w5.setCell ⟨f,5,none⟩ (.slice sa sn sc)) (.slice at1 sig.1.length ct1) sig.1/\aR (w5.setCell ⟨f,5,none⟩ (.slice sa sn sc)) (.slice ag1 sig.2.length cg1) sig.2/\aR (w5.setCell ⟨f,5,none⟩ (.slice sa sn sc)) vl (sig.1++fn.ai)):=by
  have kk:∀g cs,Blk w g cs 3->Blk (w5.setCell ⟨f,5,none⟩ (.slice sa sn sc)) g cs 3:=fun g cs hb=>OX.out g cs 3 (by decide) (fun e=>by
   subst e
   have:=hb.symm.trans f1
   cases this) hb
  exact⟨f2.keep kk,f3.keep kk,f4.keep kk⟩
 have QN:=xG;obtain⟨w6,J4⟩:=aja (w5.setCell ⟨f,5,none⟩ (.slice sa sn sc));rw[J4]at tP oM KB h6 NH LH OX oC ⊢;clear J4 n5 g5 Vh f14 f15;obtain⟨q0,q1,q2,q3,q4,q5⟩:=h6.cells;obtain⟨d0,d1,d2,d3⟩:=h6.sc.cells;have p4:=tP.cell 4;have aaR:=tP.lt;simp at p4;have lD:=hp.stop;have gy:=hp.size;have e1:(fP sig).ae.length=1:=rfl;rw[e1]at xG;cases hq:fC mm (sig.1++fn.ai) fn 1 (fP sig) 0 with
 |error e=>
  rw[hq]at xG;obtain⟨rfl,he⟩:=xG;have LI:Hid (RES=.error er5):=by show _=_;have:=Vd.out;rw[hq,aW]at this;exact this
  have b0:((er5.1:Int)==0)=false:=beqn (by omega);have HE:Hid _:=he;clear hq he QN e1;go_quiet (fail)
  go_wp2_with fail;go_end0;refine⟨rfl,⟨KB.os,KB.tape,KB.output,KB.size,KB.block⟩,OX.out,_,_,_,_,tP,oC.out.1,oC.out.2.1,oC.out.2.2,?_⟩;rw[LI.out];exact⟨HE.out,_,h6.sc⟩
 |ok r=>
  rw[hq]at xG;obtain⟨rfl,rfl,y3,y4,y5,y6,y7,y8,body,qq,kk,y9,y10,y11⟩:=xG;rw[h0]at q3 d2;have HY:Hid (r.2=qq+1/\fS fn.code qq=some 6):=by
   rcases y11 with⟨z1,_,_,z4⟩|⟨_,⟨z2,_⟩,_⟩
   ·exact⟨z4,z1⟩
   simp at z2
  have QO:Hid (RES=if r.2<fn.code.length then .error (5,fn.ax+r.2) else .ok r.1):=by show _=_;have:=Vd.out;rw[hq,aM]at this;exact this
  have HP:Hid (fN w5 (fun g=>(w3.alloc (.cells #[.int .i64 0,.int .i64 0,.slice none 0 0,.slice none 0 0,.slice none 0 0,.slice none 0 0,.slice none 0 0,.bool false] 157)).heap.size<=g) (.slice sa sn sc) body):=y9;have HN:Hid _:=y10;clear hq QN e1 y3 y4 y5 y6 y7 y9 y10 y11 Vd;obtain⟨at6,Kl⟩:=aja (fn.ax+r.2);rw[Kl]at d1 h6;have NI:Hid _:=Kl;have Vj:(at6:Int)<=4000:=by omega
  have Ng:(fn.ax:Int)+(fn.code.length:Int)<=4000:=by omega
  by_cases bM:r.2<fn.code.length
  ·have Ae:(at6:Int)<(fn.ax:Int)+(fn.code.length:Int):=by omega
   have hd:decide ((at6:Int)<(fn.ax:Int)+(fn.code.length:Int))=true:=by rw[decide_eq_true_iff];exact Ae
   have hN:=fun W (hW:Sc W x s at6 er5)=>i6 hW 5 at6;have gK:noS er5 5 at6=(5,at6):=by unfold noS;rw[ajd h0]
   rw[gK]at hN;have LI:Hid (RES=.error (5,at6)):=by show _=_;rw[QO.out,ajd bM,NI.out]
   clear gK Kl bM;go_quiet (fail)
   go_wp2_with fail;go_region_with (go_at_call 52;refine(hN _ (show Sc (w6.drewN (nq+1)) x s at6 er5 from h6.sc)).mono ?_;rintro e w7 ⟨rfl,rI,qd⟩)
   all_goals
    go_wp2_with fail;go_end0;have Py:∀g cs t,t≠116->Blk w6 g cs t->Blk w7 g cs t:=fun g cs t ht hb=>aF rI (show Sc (w6.drewN (nq+1)) x s at6 er5 from h6.sc) (show Blk (w6.drewN (nq+1)) g cs t from hb) ht
    have k37:∀g cs,Blk w6 g cs 3->Blk w7 g cs 3:=fun g cs hb=>Py g cs 3 (by decide) hb;refine⟨rfl,?_,fun g cs t h1 h2 hb=>Py g cs t (fun e=>h1 (.inl e)) (OX.out g cs t h1 h2 hb),_,_,_,_,Py _ _ _ (by decide) tP,oC.out.1.keep k37,oC.out.2.1.keep k37,oC.out.2.2.keep k37,?_⟩
    ·have rH:=cY (B:=az) rI (show az<=(w6.drewN (nq+1)).heap.size from Nat.le_of_lt (ajH hx (Blk.lt h6.sc))) (fun r e=>by cases e;exact hx)
     exact KB.trans ⟨rH.os,rH.tape,rH.output,rH.size,rH.block⟩
    rw[LI.out];exact⟨by simp,_,qd⟩
  have Ae:(fn.ax:Int)+(fn.code.length:Int)<=(at6:Int):=by omega
  have hd:decide ((at6:Int)<(fn.ax:Int)+(fn.code.length:Int))=false:=by rw[decide_eq_false_iff_not];omega
  have X1:Hid (¬r.2<fn.code.length):=bM;clear Kl bM;go_quiet (fail)
  go_wp2_with fail;go_end0;refine⟨rfl,⟨KB.os,KB.tape,KB.output,KB.size,KB.block⟩,(by first|exact OX.out|exact fun g cs t a1 a2 a3 a4 a5 hb=>OX.out g cs t (by rintro(h|h|h|h) <;> contradiction) a5 hb),_,_,_,_,tP,oC.out.1,oC.out.2.1,oC.out.2.2,?_⟩;rw[QO.out,ajc X1.out];have h1:=HY.out.1;have h2:=X1.out;exact⟨⟨_,h6.sc⟩,body,kk,qq,fN.keep (w':=w6.drewN nq) HP.out (fun g cs h1 h2=>NH.out g cs 155 h1 (.inr rfl) h2),bI.keep (w':=w6.drewN nq) (ok':=fun g=>w.heap.size<=g) (fun g cs t h1 ht hb=>NH.out g cs t h1 ht hb) (fun g cs hb=>LH.out g cs hb) _ _ _ _ HN.out,HY.out.2,by omega⟩
end
