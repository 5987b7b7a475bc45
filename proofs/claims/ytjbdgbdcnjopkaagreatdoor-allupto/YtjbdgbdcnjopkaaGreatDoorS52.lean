import Derived.Test.YtjbdgbdcnjopkaaGreatDoorS51
import Derived.Test.YtjbdgbdcnjopkaaGreatDoorS50
import Derived.Lib.BufferWrite
namespace Go.Proofs.YtjbdgbdcnjopkaaGreatDoor
open Go.RowKit Tryz
set_option linter.all false
set_option maxRecDepth 100000
set_option maxHeartbeats 4000000
def aa3(lo:Nat)(w:World)(k:Nat)(v:Value)(own:Option Nat)(nv:Nat):Prop:=
 ∃a n cap,v=.slice a n cap/\n<=1000000000/\∀i,i<n->∃g o c,a=some ⟨g,o,none⟩/\lo<=g/\Blk w g c 70/\(∃a' cap',c[o+i*2]?=some (.slice a' (1+k) cap')/\c[o+i*2+1]?=some (.slice none 0 0))/\(own=some g->o+i*2+1<nv*2)
theorem aa3.step{lo:Nat}{w w':World}{k:Nat}{v:Value}{own own':Option Nat}{nv nv':Nat}(h:aa3 lo w k v own nv)(hk:∀g c,Blk w g c 70->∃c',Blk w' g c' 70/\∀j,(own=some g->j<nv*2)->c'[j]?=c[j]?)(ho:∀g,own'=some g->own=some g\/w.heap.size<=g)(hn:nv<=nv'):aa3 lo w' k v own' nv':=by
 obtain⟨a,n,cap,e,hc,h⟩:=h;refine⟨a,n,cap,e,hc,fun i hi=>?_⟩;obtain⟨g,o,c,h1,h2,h3,⟨a',cap',h4,uE⟩,h5⟩:=h i hi;obtain⟨c',k1,k2⟩:=hk g c h3;refine⟨g,o,c',h1,h2,k1,⟨a',cap',by rw[k2 _ (fun e=>by have:=h5 e;omega)];exact h4,by rw[k2 _ h5];exact uE⟩,fun e=>?_⟩;rcases ho g e with h6|h6
 ·have:=h5 h6;omega
 have:=h3.lt;omega
theorem aa3.free{lo:Nat}{w:World}{k:Nat}{v:Value}{own:Option Nat}{nv:Nat}(h:aa3 lo w k v own nv):aa3 lo w k v none 0:=by obtain⟨a,n,cap,e,hc,h⟩:=h;refine⟨a,n,cap,e,hc,fun i hi=>?_⟩;obtain⟨g,o,c,h1,h2,h3,h4,h5⟩:=h i hi;exact⟨g,o,c,h1,h2,h3,h4,(fun e=>by cases e)⟩
theorem aa3.keep{lo:Nat}{w w':World}{k:Nat}{v:Value}(h:aa3 lo w k v none 0)(hk:∀g c,Blk w g c 70->Blk w' g c 70):aa3 lo w' k v none 0:=h.step (fun g c hb=>⟨c,hk g c hb,fun _ _=>rfl⟩) (fun g e=>by cases e) (nLr _)
theorem MkL.keep{lo t:Nat}{B:Nat->Prop}{w w':World}{k:Nat}{v:Value}(h:MkL lo t B w k v none 0)(hk:∀g c,B g->Blk w g c t->Blk w' g c t):MkL lo t B w' k v none 0:=by obtain⟨a,n,cap,e,hc,h⟩:=h;refine⟨a,n,cap,e,hc,fun i hi=>?_⟩;obtain⟨g,o,c,h1,h2,h3,h4,h5,h6⟩:=h i hi;exact⟨g,o,c,h1,h2,hk g c h6 h3,h4,h5,h6⟩
theorem MkL.mono{lo t:Nat}{B B':Nat->Prop}{w:World}{k:Nat}{v:Value}{own:Option Nat}{nv:Nat}(h:MkL lo t B w k v own nv)(hb:∀g,B g->B' g):MkL lo t B' w k v own nv:=by obtain⟨a,n,cap,e,hc,h⟩:=h;refine⟨a,n,cap,e,hc,fun i hi=>?_⟩;obtain⟨g,o,c,h1,h2,h3,h4,h5,h6⟩:=h i hi;exact⟨g,o,c,h1,h2,h3,h4,h5,hb g h6⟩
theorem aas{b b' n m:Nat}(h:(Value.slice (some ⟨b,0,none⟩) n m).ownBlock=some b'):b=b':=by simpa [Value.ownBlock] using h
theorem abR{lo g:Nat}{w:World}{l:List Nat}(hb:Blk w g (iO l).toArray 3)(hg:lo<=g)(hl:l.length<=1000):w.ownsRow lo 3 1 (.slice (some ⟨g,0,none⟩) l.length l.length) l.length (iO l):=by
 have h:=aaK (n:=l.length) (cap:=l.length) (size:=1) hb hg (nLr _) (by simp[maxLen];omega) (by simp[jQ]);have e:(iO l).toArray.toList.take (l.length*1)=iO l:=by rw[Nat.mul_one];simp only[List.toList_toArray];rw[ajB (by rw[jQ];exact nLr _)]
 rw[e]at h;exact h
theorem abL{lo s:Nat}{w:World}{W:Nat}{ms bs ws is fs:List Value}(h:Wd lo w W ms bs ws is fs){g:Nat}{c:Array Value}{bt bg:Nat->Nat}{l:List bu}(hb:Blk w g c 70)(hc:c.size=l.length*2)(hT:uh (g+1) w g c bt bg l)(hs:lo<=s)(iD:s<=g)(Ud:W<s)(aQ:l.length<=20)(Uk:∀f∈l,f.aj.length<=100/\f.ak.length<=100)(hi:is.length<=800000000)(hf:fs.length<=900000000):Calls prog 43 #[ptr W,.slice (some ⟨g,0,none⟩) l.length l.length] w fun e w'=>e=.returned (.tuple #[])/\∃newI newF:List Value,newI.length=l.length*10/\newF.length=5/\Wd lo w' W ms bs ws (is++newI) (fs++newF)/\Fm lo (s<=·) w w'/\(∀k (hk:k<newI.length),MkL lo 3 (s<=·) w' (is.length+k) newI[k] none 0)/\∀k (hk:k<newF.length),aa3 lo w' (fs.length+k) newF[k] none 0:=by
 obtain⟨i0,Aj,fo,eP,eV⟩:=info_parts Oi;obtain⟨ni,uJ⟩:∃n,is.length=n:=⟨_,rfl⟩;obtain⟨nf,Ai⟩:∃n,fs.length=n:=⟨_,rfl⟩;obtain⟨n,hn⟩:=aja l.length;have aaJ:lo<=w.heap.size:=by have:=hb.lt;omega
 have HW:Hid (Wd lo w W ms bs ws is fs):=h;have HB:Hid _:=hb;have HC:Hid (c.size=n*2):=by rw[<-hn];exact hc
 have HT:Hid (uh (g+1) w g c bt bg l):=hT;have HN:Hid _:=hn;have HNI:Hid _:=uJ;have Qm:Hid _:=Ai;have HS:Hid (lo<=s/\s<=g/\W<s/\lo<=w.heap.size):=⟨hs,iD,Ud,aaJ⟩;have aeU:Hid _:=Uk;have Pe:n<=20:=by omega
 have agA:ni<=800000000:=by omega
 have agB:nf<=900000000:=by omega
 have hnI:(n:Int)<=20:=by omega
 rw[hn];clear h hb hc hT hn uJ Ai hs iD Ud Uk aQ hi hf aaJ;go_enter func43,ntmps43;go_wp2_with fail;go_loopw [4] (fun i wr=>∃(k:Nat) (new:List Value),i=.int .i64 k/\k<=n/\new.length=k*10/\Wd lo wr W ms bs ws (is++new) fs/\Fm lo (s<=·) w wr/\Blk wr g c 70/\(∀j (h:j<l.length),k<=j->Blk wr (bt j) (iO l[j].aj).toArray 3/\Blk wr (bg j) (iO l[j].ak).toArray 3)/\∀q (hq:q<new.length),MkL lo 3 (fun b=>s<=b/\∀j,k<=j->j<n->b≠bt j/\b≠bg j) wr (ni+q) new[q] none 0) (fun i _=>n-(intOf i).toNat)
 case atStart=>
  exact⟨0,[],rfl,ajl _,rfl,by rw[List.append_nil];exact HW.out,Fm.refl _ _ _,HB.out,fun j h _=>⟨(HT.out.aj j h).2,(HT.out.ak j h).2⟩,fun q hq=>by simp at hq⟩
 case round=>
  obtain⟨k,new,rfl,hk,jW,hWr,hF,Ta,hto,um⟩:=hrel;obtain⟨w5,rfl⟩:∃x,x=wr:=⟨wr,rfl⟩;have GA:Hid _:=jW;have Sa:Hid (Wd lo w5 W ms bs ws (is++new) fs):=hWr;have HF:Hid (Fm lo (s<=·) w w5):=hF;have GG:Hid (Blk w5 g c 70):=Ta;have HTO:Hid _:=hto;have HMK:Hid _:=um;clear jW hWr hF hto um;by_cases xZ:k<n
  ·have rQ:(k:Int)<(n:Int):=by omega
   have jl:k<l.length:=by rw[HN.out];exact xZ
   have jN:=aeU.out _ (ajw jl);obtain⟨c0,c1⟩:=HT.out.cells k jl;obtain⟨b1,b2⟩:=HTO.out k jl (nLr _);have x0:=Ta.cell (2*k);have x1:=Ta.cell (2*k+1);rw[c0]at x0;rw[c1]at x1;rw[ajC]at x0 x1;have iB:=Ta.lt;have aeW:=(HT.out.aj k jl).1;have aeX:=(HT.out.ak k jl).1;have acS:(is++new).length=ni+k*10:=by rw[ajb,HNI.out,GA.out]
   have hO1:=aa9 Sa.out (abR b1 (by have:=HS.out;omega) (by omega)) (by omega) (by rw[acS];omega);rw[acS]at hO1;have HO1:Hid _:=hO1;have aeY:Hid (Blk w5 (bt k) (iO l[k].aj).toArray 3/\Blk w5 (bg k) (iO l[k].ak).toArray 3):=⟨b1,b2⟩;have HFK:Hid _:=jN;have HX1:Hid _:=x1;clear hO1 b1 b2 acS jN c0 c1 x1 Ta aeW aeX;go_wp2_with fail;refine Calls.mono HO1.out ?_;rintro e w6 ⟨rfl,new1,vz,xd,oQ,Ry⟩;have aea:g+1<=bt k/\g+1<=bg k:=⟨(HT.out.aj k jl).1,(HT.out.ak k jl).1⟩;have ec:bt k≠bg k:=(HT.out.apart k jl).1;have adf:Blk w6 g c 70:=oQ.keep g c 70 (by decide) (fun e=>by have:=aas e;omega) GG.out;have aeb:Blk w6 (bg k) (iO l[k].ak).toArray 3:=oQ.keep _ _ 3 (by decide) (fun e=>ec (aas e)) aeY.out.2;have Ff:(is++new++new1).length=ni+k*10+5:=by rw[ajb,ajb,HNI.out,GA.out,vz]
   have hO2:=aa9 xd (abR aeb (by have:=HS.out;omega) (by have:=HFK.out;omega)) (by have:=HFK.out;omega) (by rw[Ff];omega);rw[Ff]at hO2;have y1:=adf.cell (k*2+1);rw[<-GG.out.cell (k*2+1),HX1.out]at y1;have aec:=adf.lt;have V3:Hid _:=hO2;have HN1:Hid _:=vz;have HF6:Hid (Fm lo (fun b=>(Value.slice (some ⟨bt k,0,none⟩) l[k].aj.length l[k].aj.length).ownBlock=some b) w5 w6):=oQ;have HM6:Hid _:=Ry;have ae0:Hid _:=adf;have HNE:Hid (bt k≠bg k/\g+1<=bt k/\g+1<=bg k):=⟨ec,aea⟩;clear hO2 vz oQ Ry adf aeb Ff xd ec aea HO1 HX1 x0 iB;go_wp2_with fail;refine Calls.mono V3.out ?_;rintro e w7 ⟨rfl,new2,BR,CB,rf,An⟩;have HW7:Hid _:=CB;have Dt:Hid _:=BR;have Qy:Hid (Fm lo (fun b=>(Value.slice (some ⟨bg k,0,none⟩) l[k].ak.length l[k].ak.length).ownBlock=some b) w6 w7):=rf;have HM7:Hid _:=An;clear V3 BR rf An CB y1 aec;go_wp2_with fail;go_roundw
   case rel=>
    obtain⟨n1,n2,n3⟩:=HNE.out;have hs:=HS.out;have hw5:=HF.out.below.size;have J4:=HF6.out.below.size;have xS:=Blk.lt HB.out;have k6:∀b c' t,abj t->b≠bt k->Blk w5 b c' t->Blk w6 b c' t:=fun b c' t ht ec hb=>HF6.out.keep b c' t ht (fun e=>ec (aas e).symm) hb;have k7:∀b c' t,abj t->b≠bg k->Blk w6 b c' t->Blk w7 b c' t:=fun b c' t ht ec hb=>Qy.out.keep b c' t ht (fun e=>ec (aas e).symm) hb;have ZN:∀j (h:j<l.length),k<j->bt k<bt j/\bt k<bg j/\bg k<bt j/\bg k<bg j:=fun j h hj=>(HT.out.apart j h).2 k hj;have acC:∀j (h:j<l.length),k<=j->bt j<w5.heap.size/\bg j<w5.heap.size:=fun j h hj=>⟨(HTO.out j h hj).1.lt,(HTO.out j h hj).2.lt⟩;refine⟨k+1,new++new1++new2,by simp,by omega,by rw[ajb,ajb,GA.out,HN1.out,Dt.out];omega,by rw[<-List.append_assoc,<-List.append_assoc];exact HW7.out,(HF.out.trans (HF6.out.mono fun b e=>.inl ?_)).trans (Qy.out.mono fun b e=>.inl ?_),k7 _ _ _ (by decide) (by omega) ae0.out,fun j h hj=>?_,fun q hq=>?_⟩
    ·have:bt k=b:=aas e;show s<=b;omega
    ·have:bg k=b:=aas e;show s<=b;omega
    ·obtain⟨t1,t2⟩:=HTO.out j h (by omega);obtain⟨a1,a2,a3,a4⟩:=ZN j h (by omega);exact⟨k7 _ _ _ (by decide) (by omega) (k6 _ _ _ (by decide) (by omega) t1),k7 _ _ _ (by decide) (by omega) (k6 _ _ _ (by decide) (by omega) t2)⟩
    by_cases SA:q<new.length
    ·rw[ajn (by rw[ajb];omega),ajn SA];refine((HMK.out q SA).keep fun b c' hB hb=>?_).mono fun b hB=>⟨hB.1,fun j h1 h2=>hB.2 j (by omega) h2⟩;have:=hB.2 k (nLr _) xZ;exact k7 _ _ _ (by decide) this.2 (k6 _ _ _ (by decide) this.1 hb)
    by_cases Pt:q<new.length+new1.length
    ·rw[ajn (by rw[ajb];omega),ajo (by omega)];have hm:=HM6.out (q-new.length) (by omega);have e1:ni+k*10+(q-new.length)=ni+q:=by have:=GA.out;omega
     rw[e1]at hm;refine(hm.keep fun b c' hB hb=>?_).mono fun b hB=>?_
     ·refine k7 _ _ _ (by decide) ?_ hb;have:=(acC k jl (nLr _)).2;rcases hB with e|e
      ·have:bt k=b:=aas e;omega
      omega
     rcases hB with e|e
     ·have e2:bt k=b:=aas e;refine⟨by omega,fun j h1 h2=>?_⟩;have:=ZN j (by rw[HN.out];exact h2) (by omega);omega
     refine⟨by omega,fun j h1 h2=>?_⟩;have:=acC j (by rw[HN.out];exact h2) (by omega);omega
    rw[ajo (by rw[ajb];omega)];have hm:=HM7.out (q-(new++new1).length) (by rw[ajb,ajb]at hq;rw[ajb];omega);have e1:ni+k*10+5+(q-(new++new1).length)=ni+q:=by have:=GA.out;have:=HN1.out;rw[ajb];omega
    rw[e1]at hm;refine hm.mono fun b hB=>?_;rcases hB with e|e
    ·have e2:bg k=b:=aas e;refine⟨by omega,fun j h1 h2=>?_⟩;have:=ZN j (by rw[HN.out];exact h2) (by omega);omega
    refine⟨by omega,fun j h1 h2=>?_⟩;have:=acC j (by rw[HN.out];exact h2) (by omega);omega
   case measure=>simp[intOf];omega
  obtain rfl:k=n:=by omega
  have hs:=HS.out;have hM:=aaX (row:=some g) (c:=c) (o:=0) (n:=k) (cap:=k) (a:=some ⟨g,0,none⟩) Sa.out (.inr ⟨g,rfl,rfl,by omega,GG.out,by have:=HC.out;omega⟩) (by omega) (by rw[Qm.out];omega);rw[Qm.out]at hM;have HMM:Hid _:=hM;clear hM hs Ta;go_wp2_with fail;refine Calls.mono HMM.out ?_;rintro e w6 ⟨rfl,xd,oQ,Ec⟩;obtain⟨c6,Ec,lv⟩:=Ec g rfl;have hs:=HS.out;have HW6:Hid _:=xd;have HF6:Hid (Fm lo (s<=·) w w6):=HF.out.trans (oQ.mono fun b e=>.inl (by cases e;exact hs.2.1));have V9:Hid (w6.ownsRow lo 70 2 (.slice (some ⟨g,0,none⟩) k k) k (c6.toList.take (k*2))):=aaK Ec (by omega) (nLr _) (by simp[maxLen];omega) (by rw[lv.size];exact HC.out);have HK6:Hid (aa3 lo w6 nf (.slice (some ⟨g,0,none⟩) k k) (some g) k):=⟨_,k,k,rfl,by omega,fun i hi=>⟨g,0,c6,rfl,by omega,Ec,lv.in_ i hi,fun _=>by omega⟩⟩;have Uf:Hid (∀q (hq:q<new.length),MkL lo 3 (s<=·) w6 (ni+q) new[q] none 0):=fun q hq=>((HMK.out q hq).keep fun b c' _ hb=>oQ.keep b c' 3 (by decide) (fun e=>by
   cases e
   have h3:=hb.symm.trans GG.out
   cases h3) hb).mono fun b hB=>hB.1
  clear HMM xd oQ Ec lv hs HMK HTO Sa GG HF;go_wp2_with fail;go_loopw [1,5] (fun v i wr=>∃(j:Nat) (av:Option Addr) (nv capv:Nat) (xv newF:List Value),v=.slice av nv capv/\i=.int .i64 j/\j<=4/\nv=k+j/\newF.length=j+1/\Wd lo wr W ms bs ws (is++new) (fs++newF)/\wr.ownsRow lo 70 2 (.slice av nv capv) nv xv/\Fm lo (s<=·) w wr/\(∀g,(Value.slice av nv capv).ownBlock=some g->s<=g)/\(∀q (hq:q<newF.length),aa3 lo wr (nf+q) newF[q] (Value.slice av nv capv).ownBlock nv)/\∀q (hq:q<new.length),MkL lo 3 (s<=·) wr (ni+q) new[q] none 0) (fun _ i _=>4-(intOf i).toNat)
  case atStart=>
   exact⟨0,_,k,k,_,[.slice (some ⟨g,0,none⟩) k k],rfl,rfl,by omega,by omega,rfl,HW6.out,V9.out,HF6.out,fun g' e=>by have:=aas e;have:=HS.out;omega,fun q hq=>by
    have:q=0:=by simp at hq;exact hq
    subst this
    exact HK6.out,Uf.out⟩
  case round=>
   obtain⟨j,av,nv,capv,xv,newF,rfl,rfl,hj,hnv,jW,hWr,hO,hF,qm,um,hmi⟩:=hrel;obtain⟨w7,rfl⟩:∃x,x=wr:=⟨wr,rfl⟩;have HNV:Hid (nv=k+j):=hnv;have acb:Hid _:=jW;have Sa:Hid (Wd lo w7 W ms bs ws (is++new) (fs++newF)):=hWr;have HO:Hid _:=hO;have HF:Hid (Fm lo (s<=·) w w7):=hF;have G6:Hid _:=qm;have HMK:Hid _:=um;have HMI:Hid _:=hmi;have acv:(nv:Int)<=24:=by omega
   have ad4:nv<=24:=by omega
   clear jW hWr hO hF qm um hmi hnv HW6 HF6 V9 HK6 Uf;by_cases hj4:j<4
   ·have ad5:(j:Int)<4:=by omega
    go_wp2_with (at_builtin;refine aar rfl _ _ 27 rfl lo 70 i0 (.agg #[.slice none 0 0,.slice none 0 0]) 2 48 underlying27 Aj fo eP eV rfl (by decide) (.slice av nv capv) nv xv rfl (World.ownsRow.alloc HO.out _) ⟨w7.heap.size,0,none⟩ 1 1 [.slice none 0 0,.slice none 0 0] rfl rfl ?q2 ?q3 ?q4 ?q5 ?q6 ?q7)
    case q2=>exact gE w7 [.slice none 0 0,.slice none 0 0] 70
    case q3=>simp[Value.oneCell']
    case q4=>simp[maxLen];omega
    case q5=>omega
    case q6=>have h1:=HS.out;have h2:=HF.out.below.size;simp;omega
    case q7=>
     intro v' w8 aaV aaT hob Hy;obtain⟨g6,c6,rfl⟩:=cu aaV (by omega);obtain⟨hlg,AO,Ry,cc,Ec,hs6⟩:=aa0 aaV;obtain⟨own,bn⟩:=aja ((Value.slice av nv capv).ownBlock);rw[bn]at aaT hob Hy;have jm:∀r,own=some r->lo<=r/\∃c,Blk w7 r c 70:=fun r e=>ba HO.out r (by rw[bn];exact e);have hw5:w.heap.size<=w7.heap.size:=HF.out.below.size;have xd:Wd lo w8 W ms bs ws (is++new) (fs++newF):=Sa.out.keep fun g c t ht hb=>by refine(hb.alloc _).grown aaT (fun e=>?_);obtain⟨_,c2,h2⟩:=jm g e.symm;have h3:=hb.symm.trans h2;cases h3;exact ht (by decide)
     have hK8:∀g c t,t≠70->Blk w7 g c t->Blk w8 g c t:=fun g c t ht hb=>by refine(hb.alloc _).grown aaT (fun e=>?_);obtain⟨_,c2,h2⟩:=jm g e.symm;have h3:=hb.symm.trans h2;cases h3;exact ht rfl
     have oQ:Fm lo (s<=·) w w8:=by have hs:=HS.out;refine⟨HF.out.below.trans ((cY (aC w7 _ none) (by omega) (by simp)).trans (cY aaT (by simp;omega) (fun r e=>(jm r e).1))),fun g c t ht ha hb=>?_⟩;refine((HF.out.keep g c t ht ha hb).alloc _).grown aaT (fun e=>?_);exact ha (G6.out g (by rw[bn];exact e.symm))
     have oM:own=some g6\/w7.heap.size<=g6:=by
      rcases hob with h1|h1
      ·exact .inl (by rw[<-h1];rfl)
      refine .inr ?_;have:g6=(w7.alloc (.cells #[.slice none 0 0,.slice none 0 0] 70)).heap.size:=by simpa [Value.ownBlock] using h1
      rw[this];simp
     have hA6:s<=g6:=by
      rcases oM with h1|h1
      ·exact G6.out g6 (by rw[bn];exact h1)
      have:=Blk.lt HB.out;have:=HS.out;omega
     have D9:∀g c,Blk w7 g c 70->∃c',Blk w8 g c' 70/\∀j,(own=some g->j<nv*2)->c'[j]?=c[j]?:=fun g c hb=>by obtain⟨c',h1,_,h2⟩:=Hy g c (hb.alloc _);exact⟨c',h1,h2⟩
     have rP:(fs++newF).length=nf+(j+1):=by rw[ajb,Qm.out,acb.out]
     have hM:=aaX (row:=some g6) (c:=cc) (o:=nv*2) (n:=1) (cap:=c6-nv) (a:=some ⟨g6,nv*2,none⟩) xd (.inr ⟨g6,rfl,rfl,hlg,Ec,by omega⟩) (by omega) (by rw[rP];omega);rw[rP]at hM;have HM:Hid _:=hM;have HK8:Hid _:=hK8;have HK6:Hid _:=D9;have HG6:Hid _:=oM;have HA6:Hid (s<=g6):=hA6;have HF6:Hid (Fm lo (s<=·) w w8):=oQ;have SG:Hid (lo<=g6/\c6<=maxLen/\cc.size=c6*2/\Blk w8 g6 cc 70):=⟨hlg,Ry,hs6,Ec⟩;have zw:Hid _:=bn;have ad6:(nv:Int)+1<=(c6:Int):=by omega
     have ad7:=Ec.lt;clear hM D9 oM hA6 oQ xd aaT hob Hy aaV bn jm Ec hs6 rP hw5 hlg Ry hK8;go_wp2_with fail;refine Calls.mono HM.out ?_;rintro e w9 ⟨rfl,CB,rf,rH⟩;obtain⟨c9,sG,lv⟩:=rH g6 rfl;have HW7:Hid _:=CB;have Qy:Hid (Fm lo (some g6=some ·) w8 w9):=rf;have LL:Hid (Blk w9 g6 c9 70/\aaH cc c9 (nv*2) 1 (nf+(j+1))):=⟨sG,lv⟩;clear HM CB rf rH sG lv;go_wp2_with fail;go_roundw
     case rel=>
      have hX:=SG.out;obtain⟨sG,lv⟩:=LL.out;have gy:=lv.size;have Py:∀g c,Blk w7 g c 70->∃c',Blk w9 g c' 70/\∀j,(own=some g->j<nv*2)->c'[j]?=c[j]?:=fun g c hb=>by
       obtain⟨c1,h1,h2⟩:=HK6.out g c hb;by_cases hg:g=g6
       ·subst hg;have od:c1=cc:=by have:=h1.symm.trans hX.2.2.2;cases this;rfl
        subst od;refine⟨_,sG,fun i hi=>?_⟩;have ho:own=some g:=HG6.out.resolve_right (fun h=>by have:=hb.lt;omega);rw[lv.out_ _ (.inl (hi ho))];exact h2 i hi
       exact⟨c1,Qy.out.keep g c1 70 (by decide) (fun e=>hg (Option.some.inj e).symm) h1,h2⟩
      refine⟨j+1,some ⟨g6,0,none⟩,nv+1,c6,_,newF++[.slice (some ⟨g6,nv*2,none⟩) 1 (c6-nv)],rfl,by simp,by omega,by have:=HNV.out;omega,by rw[ajb,acb.out];rfl,by rw[<-List.append_assoc];exact HW7.out,aaK sG hX.1 (by omega) hX.2.1 (by omega),HF6.out.trans (Qy.out.mono fun b e=>.inl (by cases e;exact HA6.out)),fun g e=>?_,fun q hq=>?_,fun q hq=>(HMI.out q hq).keep fun b c' _ hb=>Qy.out.keep b c' 3 (by decide) (fun e=>?_) (HK8.out b c' 3 (by decide) hb)⟩
      ·have e1:=aas e;rw[<-e1];exact HA6.out
      ·by_cases aed:q<newF.length
       ·rw[ajn aed];refine(HMK.out q aed).step (by rw[zw.out];exact Py) (fun g e=>?_) (by omega);have e1:=aas e;rw[<-e1,zw.out];exact HG6.out
       have TB:q=j+1:=by rw[ajb,acb.out]at hq;have:=acb.out;simp at hq;omega
       subst TB;rw[ajo (by rw[acb.out];exact nLr _)];simp only[acb.out,Nat.sub_self,List.getElem_cons_zero];exact⟨some ⟨g6,nv*2,none⟩,1,c6-nv,rfl,by omega,fun i hi=>⟨g6,nv*2,_,rfl,hX.1,sG,lv.in_ i hi,fun _=>by omega⟩⟩
      cases e;have h3:=(HK8.out _ _ _ (by decide) hb).symm.trans hX.2.2.2;cases h3
     case measure=>simp[intOf];omega
   obtain rfl:j=4:=by omega
   go_wp2_with fail;go_end0;exact⟨rfl,new,newF,GA.out,acb.out,Sa.out,HF.out,by rw[HNI.out];exact HMI.out,fun q hq=>by rw[Qm.out];exact(HMK.out q hq).free⟩
def acT(lo:Nat)(w:World)(k:Nat)(v:Value):Prop:=
 ∃a n cap,v=.slice a n cap/\n<=1000000000/\∀i,i<n->∃g o c,a=some ⟨g,o,none⟩/\lo<=g/\Blk w g c 5/\c[o+i]?=some (.int .u8 (aaG k i))
theorem abn{w:World}{lo e n:Nat}{v:Value}{xs:List Value}(h:w.ownsRow lo e 1 v n xs){k:Nat}(hk:k<xs.length):∃g cap,v=.slice (some ⟨g,0,none⟩) n cap/\g<w.heap.size/\w.cell? ⟨g,k,none⟩=some xs[k]:=by
 have hn:xs.length=n:=by rw[h.1,Nat.mul_one]
 obtain⟨g,cap,rfl⟩:=cu h (by omega);have h1:=(bK h (j:=k) (by omega)).1;rw[gEg hk]at h1;exact⟨g,cap,rfl,World.block_lt_of_cell? w _ h1,h1⟩
theorem acV{lo:Nat}{B:Nat->Prop}{w:World}{W:Nat}{ms bs ws is fs:List Value}(h:Wd lo w W ms bs ws is fs)(hb:∀k (h:k<bs.length),acT lo w k bs[k])(hw:∀k (h:k<ws.length),MkL lo 2 B w k ws[k] none 0)(hi:∀k (h:k<is.length),MkL lo 3 B w k is[k] none 0)(l1:bs.length<=1000000000)(l2:ws.length<=1000000000)(l3:is.length<=1000000000):Calls prog 45 #[ptr W] w fun e w'=>e=.returned (.bool true)/\∃m,w'=w.drewN m:=by
 obtain⟨v0,v1,v2,v3,v4,hW,r0,r1,r2,r3,r4⟩:=h.row;obtain⟨a1,c1,e1,_,_⟩:=aG r1;obtain⟨a2,c2,e2,_,_⟩:=aG r2;obtain⟨a3,c3,e3,_,_⟩:=aG r3;subst e1 e2 e3;obtain⟨nb,sF⟩:∃n,bs.length=n:=⟨_,rfl⟩;obtain⟨nw,Ts⟩:∃n,ws.length=n:=⟨_,rfl⟩;obtain⟨ni,uJ⟩:∃n,is.length=n:=⟨_,rfl⟩;rw[sF,Ts,uJ]at hW;rw[sF]at r1;rw[Ts]at r2;rw[uJ]at r3;have x1:=hW.cell 1;have x2:=hW.cell 2;have x3:=hW.cell 3;simp at x1 x2 x3;have LO:=hW.lt;have YH:Hid _:=r1;have Ku:Hid _:=r2;have HR3:Hid _:=r3;have HB:Hid _:=hb;have HWS:Hid _:=hw;have HIS:Hid _:=hi;have Uw:Hid _:=sF;have HNW:Hid _:=Ts;have HNI:Hid _:=uJ;have i1:(nb:Int)<=1000000000:=by omega
 have i2:(nw:Int)<=1000000000:=by omega
 have i3:(ni:Int)<=1000000000:=by omega
 clear h hb hw hi l1 l2 l3 hW r0 r1 r2 r3 r4 sF Ts uJ;go_enter func45,ntmps45;go_wp2_with fail;go_loopw [3] (fun i wr=>∃k m:Nat,i=.int .i64 k/\k<=nb/\wr=w.drewN m) (fun i _=>nb-(intOf i).toNat)
 case atStart=>exact⟨0,0,rfl,ajl _,rfl⟩
 case round=>
  obtain⟨k,m,rfl,hk,rfl⟩:=hrel;by_cases bM:k<nb
  ·have pB:(k:Int)<(nb:Int):=by omega
   have jl:k<bs.length:=by rw[Uw.out];exact bM
   obtain⟨g,cap,eg,iB,qb⟩:=abn YH.out jl;cases eg;obtain⟨av,nv,cv,ev,hnv,ou⟩:=HB.out k jl;rw[ev]at qb;have HIN:Hid _:=ou;have acv:(nv:Int)<=1000000000:=by omega
   clear ou ev;go_wp2_with fail;go_loopw [4] (fun i wr=>∃j m:Nat,i=.int .i64 j/\j<=nv/\wr=w.drewN m) (fun i _=>nv-(intOf i).toNat)
   case atStart=>exact⟨0,m,rfl,ajl _,rfl⟩
   case round=>
    obtain⟨j,m',rfl,hj,rfl⟩:=hrel;by_cases qc:j<nv
    ·have adI:(j:Int)<(nv:Int):=by omega
     obtain⟨gb,o,c,rfl,_,i7,yc⟩:=HIN.out j qc;have y:=i7.cell (o+j);rw[yc]at y;have adJ:=i7.lt;have hD:∀W2:World,_:=fun W2=>abE (w:=W2) (n:=k) (i:=j) (by omega) (by omega);have rO:=act k j;obtain⟨d,hd⟩:=aja (aaG k j);rw[hd]at y rO hD;have HD:Hid _:=hD;clear i7 yc hd hD;go_wp2_with fail;go_quiet (first|(go_at_call 64;exact Calls.mono (HD.out _) (fun _ _ h=>⟨h.1,_,h.2⟩)))
     go_wp2_with fail;go_roundw
     case rel=>exact⟨j+1,_,by simp,by omega,rfl⟩
     case measure=>simp[intOf];omega
    obtain rfl:j=nv:=by omega
    go_wp2_with fail;go_roundw
    case rel=>exact⟨k+1,m',by simp,by omega,rfl⟩
    case measure=>simp[intOf];omega
  obtain rfl:k=nb:=by omega
  go_wp2_with fail;go_loopw [5] (fun i wr=>∃k m:Nat,i=.int .i64 k/\k<=nw/\wr=w.drewN m) (fun i _=>nw-(intOf i).toNat)
  case atStart=>exact⟨0,_,rfl,ajl _,rfl⟩
  case round=>
   obtain⟨k,m,rfl,hk,rfl⟩:=hrel;by_cases bM:k<nw
   ·have pB:(k:Int)<(nw:Int):=by omega
    have jl:k<ws.length:=by rw[HNW.out];exact bM
    obtain⟨g,cap,eg,iB,qb⟩:=abn Ku.out jl;cases eg;obtain⟨av,nv,cv,ev,hnv,ou⟩:=HWS.out k jl;rw[ev]at qb;have HIN:Hid _:=ou;have acv:(nv:Int)<=1000000000:=by omega
    clear ou ev;go_wp2_with fail;go_loopw [6] (fun i wr=>∃j m:Nat,i=.int .i64 j/\j<=nv/\wr=w.drewN m) (fun i _=>nv-(intOf i).toNat)
    case atStart=>exact⟨0,m,rfl,ajl _,rfl⟩
    case round=>
     obtain⟨j,m',rfl,hj,rfl⟩:=hrel;by_cases qc:j<nv
     ·have adI:(j:Int)<(nv:Int):=by omega
      obtain⟨gb,o,c,rfl,_,i7,yc,_⟩:=HIN.out j qc;have y:=i7.cell (o+j);rw[yc]at y;have adJ:=i7.lt;have z1:-9223372036854775808 <= -1-(k:Int):=by omega
      have z2:-1-(k:Int)<=9223372036854775807:=by omega
      clear i7 yc;go_wp2_with fail;go_roundw
      case rel=>exact⟨j+1,m',by simp,by omega,rfl⟩
      case measure=>simp[intOf];omega
     obtain rfl:j=nv:=by omega
     go_wp2_with fail;go_roundw
     case rel=>exact⟨k+1,m',by simp,by omega,rfl⟩
     case measure=>simp[intOf];omega
   obtain rfl:k=nw:=by omega
   go_wp2_with fail;go_loopw [7] (fun i wr=>∃k m:Nat,i=.int .i64 k/\k<=ni/\wr=w.drewN m) (fun i _=>ni-(intOf i).toNat)
   case atStart=>exact⟨0,_,rfl,ajl _,rfl⟩
   case round=>
    obtain⟨k,m,rfl,hk,rfl⟩:=hrel;by_cases bM:k<ni
    ·have pB:(k:Int)<(ni:Int):=by omega
     have jl:k<is.length:=by rw[HNI.out];exact bM
     obtain⟨g,cap,eg,iB,qb⟩:=abn HR3.out jl;cases eg;obtain⟨av,nv,cv,ev,hnv,ou⟩:=HIS.out k jl;rw[ev]at qb;have HIN:Hid _:=ou;have acv:(nv:Int)<=1000000000:=by omega
     clear ou ev;go_wp2_with fail;go_loopw [8] (fun i wr=>∃j m:Nat,i=.int .i64 j/\j<=nv/\wr=w.drewN m) (fun i _=>nv-(intOf i).toNat)
     case atStart=>exact⟨0,m,rfl,ajl _,rfl⟩
     case round=>
      obtain⟨j,m',rfl,hj,rfl⟩:=hrel;by_cases qc:j<nv
      ·have adI:(j:Int)<(nv:Int):=by omega
       obtain⟨gb,o,c,rfl,_,i7,yc,_⟩:=HIN.out j qc;have y:=i7.cell (o+j);rw[yc]at y;have adJ:=i7.lt;have z1:-9223372036854775808 <= -1-(k:Int):=by omega
       have z2:-1-(k:Int)<=9223372036854775807:=by omega
       clear i7 yc;go_wp2_with fail;go_roundw
       case rel=>exact⟨j+1,m',by simp,by omega,rfl⟩
       case measure=>simp[intOf];omega
      obtain rfl:j=nv:=by omega
      go_wp2_with fail;go_roundw
      case rel=>exact⟨k+1,m',by simp,by omega,rfl⟩
      case measure=>simp[intOf];omega
    obtain rfl:k=ni:=by omega
    go_wp2_with fail;go_ret;exact⟨rfl,m,rfl⟩
structure Mkd(lo:Nat)(w:World)(bs ws is fs:List Value):Prop where
 by_:∀k (h:k<bs.length),acT lo w k bs[k]
 wd_:∀k (h:k<ws.length),MkL lo 2 (fun _=>True) w k ws[k] none 0
 it_:∀k (h:k<is.length),MkL lo 3 (fun _=>True) w k is[k] none 0
 fn_:∀k (h:k<fs.length),aa3 lo w k fs[k] none 0
theorem acT.keep{lo:Nat}{w w':World}{k:Nat}{v:Value}(h:acT lo w k v)(hk:∀g c,Blk w g c 5->Blk w' g c 5):acT lo w' k v:=by obtain⟨a,n,cap,e,hc,h⟩:=h;refine⟨a,n,cap,e,hc,fun i hi=>?_⟩;obtain⟨g,o,c,h1,h2,h3,h4⟩:=h i hi;exact⟨g,o,c,h1,h2,hk g c h3,h4⟩
theorem Mkd.keep{lo:Nat}{w w':World}{bs ws is fs:List Value}(h:Mkd lo w bs ws is fs)(hk:∀g c t,abj t->Blk w g c t->Blk w' g c t):Mkd lo w' bs ws is fs:=⟨fun k hl=>(h.by_ k hl).keep fun g c=>hk g c 5 (by decide),fun k hl=>(h.wd_ k hl).keep fun g c _=>hk g c 2 (by decide),fun k hl=>(h.it_ k hl).keep fun g c _=>hk g c 3 (by decide),fun k hl=>(h.fn_ k hl).keep fun g c=>hk g c 70 (by decide)⟩
theorem Wd.grown{lo:Nat}{w w':World}{W:Nat}{ms bs ws is fs:List Value}(h:Wd lo w W ms bs ws is fs)(k:w.grownBy w' none):Wd lo w' W ms bs ws is fs:=h.keep fun g c t _ hb=>hb.grown k (by simp)
theorem acw{lo:Nat}{w:World}{W:Nat}{ms bs ws is fs:List Value}(h:Wd lo w W ms bs ws is fs)(hm:Mkd lo w bs ws is fs)(l1:bs.length<=1000000000)(l2:ws.length<=1000000000)(l3:is.length<=1000000000)(l4:fs.length<=1000000000):Calls prog 19 #[ptr W] w fun e w'=>e=.returned (.bool true)/\w.grownBy w' none:=by
 have HW:Hid (Wd lo w W ms bs ws is fs):=h;have HM:Hid (Mkd lo w bs ws is fs):=hm;have HL:Hid (bs.length<=1000000000/\ws.length<=1000000000/\is.length<=1000000000):=⟨l1,l2,l3⟩;obtain⟨v0,v1,v2,v3,v4,hW,r0,r1,r2,r3,r4⟩:=h.row;obtain⟨a4,c4,e4,_,_⟩:=aG r4;subst e4;obtain⟨nf,Ai⟩:∃n,fs.length=n:=⟨_,rfl⟩;rw[Ai]at hW r4;have Qm:Hid _:=Ai;have HWB:Hid (Blk w W #[v0,v1,v2,v3,.slice a4 nf c4] 60):=hW;have HR:Hid _:=r4;have i4:(nf:Int)<=1000000000:=by omega
 clear h hm l1 l2 l3 l4 hW r0 r1 r2 r3 r4 Ai;go_enter func19,ntmps19;go_wp2_with fail;go_loopw [3] (fun i wr=>∃k:Nat,i=.int .i64 k/\k<=nf/\w.grownBy wr none) (fun i _=>nf-(intOf i).toNat)
 case atStart=>exact⟨0,rfl,ajl _,aH _ _⟩
 case round=>
  obtain⟨k,rfl,hk,bU⟩:=hrel;obtain⟨w5,rfl⟩:∃x,x=wr:=⟨wr,rfl⟩;have pF:=Blk.grown HWB.out bU (by simp);have x4:=pF.cell 4;simp at x4;have LO:=pF.lt;have Og:Hid _:=bU;by_cases bM:k<nf
  ·have pB:(k:Int)<(nf:Int):=by omega
   have jl:k<fs.length:=by rw[Qm.out];exact bM
   obtain⟨g,cap,eg,iB,qb⟩:=abn HR.out jl;cases eg;obtain⟨av,nv,cv,ev,hnv,ou⟩:=HM.out.fn_ k jl;rw[ev]at qb;have ae2:=bU.cell qb (by simp);have adK:g<w5.heap.size:=by have:=bU.size;omega
   have HIN:Hid _:=ou;have HGC:Hid _:=qb;have HGL:Hid _:=iB;have acv:(nv:Int)<=1000000000:=by omega
   clear ou ev qb iB bU pF;go_wp2_with fail;clear x4 LO ae2 adK;go_loopw [4] (fun i wr=>∃j:Nat,i=.int .i64 j/\j<=nv/\w.grownBy wr none) (fun i _=>nv-(intOf i).toNat)
   case atStart=>exact⟨0,rfl,ajl _,Og.out⟩
   case round=>
    obtain⟨j,rfl,hj,bU⟩:=hrel;obtain⟨w6,rfl⟩:∃x,x=wr:=⟨wr,rfl⟩;have xd:=Blk.grown HWB.out bU (by simp);have x4:=xd.cell 4;simp at x4;have LO:=xd.lt;have agI:=bU.cell HGC.out (by simp);have aec:g<w6.heap.size:=by have:=bU.size;have:=HGL.out;omega
    by_cases qc:j<nv
    ·have adI:(j:Int)<(nv:Int):=by omega
     obtain⟨gb,o,c,rfl,_,i7,⟨a',cap',Ae,sj⟩,_⟩:=HIN.out j qc;have Ec:=i7.grown bU (by simp);have y0:=Ec.cell (o+j*2);have y1:=Ec.cell (o+j*2+1);rw[Ae]at y0;rw[sj]at y1;have adJ:=Ec.lt;have HG6:Hid (w.grownBy w6 none):=bU;clear i7 Ae sj Ec bU xd;go_wp2_with fail;refine⟨⟨j+1,by simp,by omega,aB HG6.out (aC _ _ _)⟩,?_⟩;simp[intOf];omega
    obtain rfl:j=nv:=by omega
    have HG6:Hid (w.grownBy w6 none):=bU;clear bU xd;go_wp2_with fail;go_roundw
    case rel=>exact⟨k+1,by simp,by omega,HG6.out⟩
    case measure=>simp[intOf];omega
  obtain rfl:k=nf:=by omega
  have hF:=acV (HW.out.grown bU) (HM.out.keep fun g c t _ hb=>hb.grown bU (by simp)).by_ (HM.out.keep fun g c t _ hb=>hb.grown bU (by simp)).wd_ (HM.out.keep fun g c t _ hb=>hb.grown bU (by simp)).it_ HL.out.1 HL.out.2.1 HL.out.2.2;have HFU:Hid _:=hF;clear hF bU pF;go_wp2_with fail;refine Calls.mono HFU.out ?_;rintro e w7 ⟨rfl,m,rfl⟩;clear HFU;go_wp2_with fail;go_ret;exact⟨rfl,bd Og.out _⟩
theorem pV.keepW{az:Nat}{w w':World}{m:Nat}{mm:bf}{ads:List Nat}(h:pV az w m mm ads)(k:∀g cs t,abj t->t≠5->Blk w g cs t->Blk w' g cs t):pV az w' m mm ads:=by have k3:∀g c,Blk w g c 3->Blk w' g c 3:=fun g c hb=>k g c 3 (by decide) (by decide) hb;refine⟨?_,h.tr.keep fun g c t ht hb=>k g c t (by rcases ht with rfl|rfl|rfl|rfl <;> decide) (by rcases ht with rfl|rfl|rfl|rfl <;> decide) hb⟩;obtain⟨vs,vf,h1,⟨g,cap,c,e1,e2,e3⟩,h3⟩:=h.ga.mod;refine⟨⟨vs,vf,k _ _ _ (by decide) (by decide) h1,⟨g,cap,c,e1,k _ _ _ (by decide) (by decide) e2,fun j hj=>?_⟩,aJ h3 (fun g c hb=>k g c 50 (by decide) (by decide) hb)⟩,h.ga.len,h.ga.nodup,h.ga.low,h.ga.pos,fun j hj a ha=>(h.ga.fns j hj a ha).kept (fun c hb=>k _ _ _ (by decide) (by decide) hb) k3⟩;obtain⟨vt,vg,a1,a2,a3,a4⟩:=e3 j hj;exact⟨vt,vg,a1,a2,a3.keep k3,a4.keep k3⟩
theorem mh.keepW{w w':World}{x:Nat}{fs:List bu}{mm:bf}(h:mh w x fs mm)(k:∀g cs t,abj t->t≠5->Blk w g cs t->Blk w' g cs t):mh w' x fs mm:=by obtain⟨b,r,ads,az,h1,⟨gF,h2,g,c,e,h3,h4⟩,h5⟩:=h;refine⟨b,r,ads,az,k _ _ _ (by decide) (by decide) h1,⟨gF,k _ _ _ (by decide) (by decide) h2,g,c,e,k _ _ _ (by decide) (by decide) h3,fun i hi=>?_⟩,h5.keepW k⟩;obtain⟨v0,v1,v2,v3,y0,y1,y2,y3,vt,vg,vp,tb,cs,y4,z1,z2,z3,z4,z5⟩:=h4 i hi;exact⟨v0,v1,v2,v3,y0,y1,y2,y3,vt,vg,vp,tb,cs,y4,z1.top fun g c hb=>k g c 3 (by decide) (by decide) hb,z2.top fun g c hb=>k g c 3 (by decide) (by decide) hb,aJ z3 fun g c hb=>k g c 186 (by decide) (by decide) hb,z4.kept fun g c hb=>k g c 215 (by decide) (by decide) hb,z5.kept fun g c hb=>k g c 220 (by decide) (by decide) hb⟩
def abZ(w:World)(v:Value):Prop:=∃x fs mm bs,v=ptr x/\mh w x fs mm/\eD bs=.ok mm/\bR mm mm.funs=.ok fs
theorem abZ.keep{w w':World}{v:Value}(h:abZ w v)(k:∀g cs t,abj t->Blk w g cs t->Blk w' g cs t):abZ w' v:=by obtain⟨x,fs,mm,bs,h1,h2,h3⟩:=h;exact⟨x,fs,mm,bs,h1,h2.keepW fun g cs t ht _ hb=>k g cs t ht hb,h3⟩
structure Ws(lo:Nat)(w:World)(W n:Nat)(ms bs ws is fs:List Value):Prop where
 wd:Wd lo w W ms bs ws is fs
 mkd:Mkd lo w bs ws is fs
 md:∀v∈ms,abZ w v
 pos:0<ms.length
 nm:ms.length<=n+1
 nb:bs.length<=n
 nw:ws.length<=n*6
 ni:is.length<=n*200
 nf:fs.length<=n*5
theorem Ws.keep{lo:Nat}{w w':World}{W n:Nat}{ms bs ws is fs:List Value}(h:Ws lo w W n ms bs ws is fs)(k:w.grownBy w' none):Ws lo w' W n ms bs ws is fs:=⟨h.wd.grown k,h.mkd.keep fun g c t _ hb=>hb.grown k (by simp),fun v hv=>(h.md v hv).keep fun g c t _ hb=>hb.grown k (by simp),h.pos,h.nm,h.nb,h.nw,h.ni,h.nf⟩
theorem Ws.more{lo:Nat}{w:World}{W n:Nat}{ms bs ws is fs:List Value}(h:Ws lo w W n ms bs ws is fs):Ws lo w W (n+1) ms bs ws is fs:=⟨h.wd,h.mkd,h.md,h.pos,by have:=h.nm;omega,by have:=h.nb;omega,by have:=h.nw;omega,by have:=h.ni;omega,by have:=h.nf;omega⟩
def abu(lo:Nat)(w w':World)(W n:Nat):Prop:=Below lo w w'/\∃ms bs ws is fs,Ws lo w' W n ms bs ws is fs
theorem Vi:(prog.info? 5).map (·.size)=some 1:=by kernel_rfl
theorem acB(w:World)(s:ByteArray)(hs:s.size<=1000000000):∃W1 W2 c,(Instr.makeSlice 26 (.int .i64 ((s.size:Int)+8)) (.int .i64 ((s.size:Int)+8))).run prog w=.ok (.slice (some ⟨w.heap.size,0,none⟩) (s.size+8) (s.size+8)) W1 /\ (Builtin.copy_ #[26,9] 3 #[.slice (some ⟨w.heap.size,0,none⟩) (s.size+8) (s.size+8),.string s]).run prog W1=.ok (.int .i64 s.size) W2/\w.grownBy W2 none/\Blk W2 w.heap.size c 5/\c.size=s.size+8/\∀i (h:i<s.data.toList.length),c[i]?=some (.int .u8 s.data.toList[i].toNat):=by
 have aQ:s.data.toList.length=s.size:=by rw[ajF];rfl
 have um:=run_make_row' (P:=prog) 26 5 (.int .u8 0) 1 underlying26 Pc rfl .i64 .i64 (s.size+8) (by omega) (by omega) w;rw[show ((s.size+8:Nat):Int)=(s.size:Int)+8 by omega]at um;have hb:=Blk.new w (madeCells #[.int .u8 0] (s.size+8)) 5;have gy:(madeCells #[Value.int .u8 0] (s.size+8)).size=s.size+8:=size_madeCells _ _;have Ct:=Lib.run_copy_row_string (P:=prog) (w.alloc (.cells (madeCells #[.int .u8 0] (s.size+8)) 5)) 26 9 3 5 w.heap.size 0 (s.size+8) (s.size+8) s (madeCells #[.int .u8 0] (s.size+8)) 5 underlying26 Vi hb (by omega) (by omega);refine⟨_,_,_,um,Ct,?_,setRow_heap _ _ _ _ _ _ hb,?_,fun i hi=>?_⟩
 ·exact aO (aC w _ none) (nLr _) ⟨rfl,rfl,rfl,by simp,fun k _ hk=>setRow_other _ _ k _ (fun e=>hk (by simp[e]))⟩
 ·have h9:(Lib.byteCells s.data.toList).length=s.size:=(Lib.byteCells_length _).trans aQ;rw[List.size_toArray,ajb,ajb,ajq,List.length_drop,ajF,h9,gy];omega
 have h1:=Lib.byteCells_length s.data.toList;simp only[List.take_zero,List.nil_append,List.getElem?_toArray];rw[gAl (by omega)];simp[Lib.byteCells,gEg hi]
theorem Fm.then{lo:Nat}{A B:Nat->Prop}{w w' w'':World}(h:Fm lo A w w')(k:Fm lo B w' w'')(hs:∀g,B g->A g\/w.heap.size<=g):Fm lo A w w'':=⟨h.below.trans k.below,fun g c t ht ha hb=>k.keep g c t ht (fun hB=>(hs g hB).elim ha fun h2=>by have:=hb.lt;omega) (h.keep g c t ht ha hb)⟩
theorem Wd.pushM{lo:Nat}{w w':World}{W:Nat}{ms bs ws is fs:List Value}{v v1 v2 v3 v4:Value}{a0 a':Option Addr}{n c0 c':Nat}(hl:lo<=W)(hW:Blk w W #[.slice a0 n c0,v1,v2,v3,v4] 60)(r0:w.ownsRow lo 22 1 (.slice a0 n c0) n ms)(r1:w.ownsRow lo 26 1 v1 bs.length bs)(r2:w.ownsRow lo 31 1 v2 ws.length ws)(r3:w.ownsRow lo 44 1 v3 is.length is)(r4:w.ownsRow lo 27 1 v4 fs.length fs)(bn:w'.ownsRow lo 22 1 (.slice a' (n+1) c') (n+1) (ms++[v])) (bU:(w.alloc (.cells #[v] 22)).grownBy w' (Value.slice a0 n c0).ownBlock):Wd lo (w'.setCell ⟨W,0,none⟩ (.slice a' (n+1) c')) W (ms++[v]) bs ws is fs/\Fm lo (fun _=>False) w (w'.setCell ⟨W,0,none⟩ (.slice a' (n+1) c')):=by
 have jm:∀r,(Value.slice a0 n c0).ownBlock=some r->lo<=r/\∃cc,Blk w r cc 22:=ba r0;have k1:∀g' c' t,t≠22->Blk w g' c' t->Blk w' g' c' t:=fun g' c' t ht mn=>by refine(mn.alloc _).grown bU (fun e=>?_);obtain⟨_,cc,h2⟩:=jm g' e.symm;have h3:=mn.symm.trans h2;cases h3;exact ht rfl
 have Y8:=k1 _ _ _ (by decide) hW;have bY:=aD w' W 0 (.slice a' (n+1) c');have Ij:=Blk.set Y8 0 (.slice a' (n+1) c');simp at Ij;have k2:∀g' c'' t,t≠60->Blk w' g' c'' t->Blk (w'.setCell ⟨W,0,none⟩ (.slice a' (n+1) c')) g' c'' t:=fun g' c'' t ht mn=>aF bY Y8 mn ht;have k3:∀g' c'' t,t≠60->t≠22->Blk w g' c'' t->Blk (w'.setCell ⟨W,0,none⟩ (.slice a' (n+1) c')) g' c'' t:=fun g' c'' t h1 h2 mn=>k2 _ _ _ h1 (k1 _ _ _ h2 mn);have hn:(ms++[v]).length=n+1:=by have:=bn.1;omega
 have LO:=hW.lt;have gy:=bU.size;simp at gy;refine⟨⟨⟨_,_,_,_,_,Ij,?_,aJ r1 fun g' c'' mn=>k3 _ _ _ (by decide) (by decide) mn,aJ r2 fun g' c'' mn=>k3 _ _ _ (by decide) (by decide) mn,aJ r3 fun g' c'' mn=>k3 _ _ _ (by decide) (by decide) mn,aJ r4 fun g' c'' mn=>k3 _ _ _ (by decide) (by decide) mn⟩,hl⟩,⟨?_,fun g' c'' t ht _ mn=>k3 _ _ _ ht.1 ht.2.1 mn⟩⟩
 ·rw[hn];exact aJ bn fun g' c'' mn=>k2 _ _ _ (by decide) mn
 exact((cY (aC w _ none) (by omega) (by simp)).trans (cY bU (by simp;omega) (fun r e=>(jm r e).1))).trans (cY bY (by omega) (fun r e=>by cases e;exact hl))
theorem acE{lo B:Nat}{w:World}{W n:Nat}{ms bs ws is fs:List Value}(h:Ws lo w W n ms bs ws is fs)(hK:iu B w)(hB:B<=lo){s:ByteArray}(hs:s.size<=100000000)(hn:n<=2000000):Calls prog 42 #[ptr W,.string s] w fun e w'=>e=.returned (.bool true)/\abu lo w w' W (n+1):=by
 obtain⟨W1,W2,c,um,Ct,aP,df,sj,Bc⟩:=acB w s (by omega);have aQ:s.data.toList.length=s.size:=by rw[ajF];rfl
 obtain⟨g,hg⟩:=aja w.heap.size;rw[hg]at um Ct df;obtain⟨m,hm⟩:=aja s.size;rw[hm]at um Ct sj;have nO:lo<=w.heap.size:=by obtain⟨v0,v1,v2,v3,v4,hW,_⟩:=h.wd.row;have:=hW.lt;have:=h.wd.low;omega
 have HWS:Hid (Ws lo w W n ms bs ws is fs):=h;have HK:Hid (iu B w):=hK;have HB:Hid (B<=lo/\lo<=w.heap.size):=⟨hB,nO⟩;have HG:Hid _:=hg;have HM:Hid (s.size=m):=hm;have DR:Hid _:=aP;have LV:Hid _:=df;have HC2:Hid _:=sj;have Q3:Hid _:=Bc;have AZ:Hid _:=aQ;have hmi:(m:Int)<=100000000:=by omega
 have BA:m<=100000000:=by omega
 have gy:(s.size:Int)=(m:Int):=by omega
 clear h hK hB nO hg aP df sj Bc aQ hs;go_enter func42,ntmps42;go_wp2_with fail;go_loopw [7] (fun i wr=>∃(k:Nat) (ck:Array Value),i=.int .i64 ((m:Int)+k)/\k<=8/\w.grownBy wr none/\Blk wr g ck 5/\ck.size=m+8/\(∀j,j<m->ck[j]?=c[j]?)/\∀j,j<k->ck[m+j]?=some (.int .u8 7)) (fun i _=>m+8-(intOf i).toNat)
 case atStart=>exact⟨0,c,by simp,by omega,DR.out,LV.out,HC2.out,fun _ _=>rfl,fun j hj=>by omega⟩
 case round=>
  obtain⟨k,ck,rfl,hk,bU,i7,Wy,ou,h7⟩:=hrel;by_cases Sw:k<8
  ·have afb:(k:Int)<8:=by omega
   have x:=i7.cell (m+k);have xf:=i7.frozen (m+k);have iB:=i7.lt;obtain⟨u,hu⟩:∃u,ck[m+k]?=some u:=⟨_,Array.getElem?_eq_getElem (by omega)⟩;rw[hu]at x;have HX:Hid (w.grownBy wr none/\Blk wr g ck 5/\ck.size=m+8/\(∀j,j<m->ck[j]?=c[j]?)/\∀j,j<k->ck[m+j]?=some (.int .u8 7)):=⟨bU,i7,Wy,ou,h7⟩;have e1:((m+k:Nat):Int)=(m:Int)+k:=by omega
   clear bU i7 Wy ou h7 hu um Ct;go_wp2_with fail;obtain⟨bU,i7,Wy,ou,h7⟩:=HX.out;refine⟨⟨k+1,_,by congr 1,by omega,aO bU (by have:=HG.out;omega) (aD _ _ _ _),Blk.set i7 (m+k) _,by simp[Wy],fun j hj=>?_,fun j hj=>?_⟩,by simp[intOf];omega⟩
   ·rw[aje (by omega)];exact ou j hj
   by_cases e:j=k
   ·subst e;rw[ajf (by omega)]
   rw[aje (by omega)];exact h7 j (by omega)
  obtain rfl:k=8:=by omega
  have bC:∀i (h:i<s.data.toList.length),wr.cell? ⟨g,0+i,none⟩=some (.int .u8 s.data.toList[i].toNat):=fun i hi=>by have hl:=AZ.out;rw[ajx,i7.cell,ou i (by omega)];exact Q3.out i hi
  have hL:=ue (w:=wr) (g:=g) (o:=0) (cap:=m+8) (s:=s) (HK.out.grown bU (by have:=HB.out;omega) (by simp)) (by have:=HB.out;have:=bU.size;omega) bC (by omega) (by omega);rw[HM.out]at hL;have HL:Hid _:=hL;have HX:Hid (w.grownBy wr none/\Blk wr g ck 5/\ck.size=m+8/\∀j,j<8->ck[m+j]?=some (.int .u8 7)):=⟨bU,i7,Wy,h7⟩;have Vy:Hid _:=bC;have iB:=i7.lt;clear hL bC bU i7 Wy ou h7 um Ct;go_wp2_with fail;refine Calls.mono HL.out ?_;rintro e w3 ⟨co,gL⟩;obtain⟨bU,i7,Wy,h7⟩:=HX.out;have yc:=run_convert_bytes_back (P:=prog) w3 26 9 5 ⟨g,0,none⟩ (m+8) s.data.toList underlying26 underlying5 underlying9 (fun j hj=>by rw[cJ];exact co.cell (Vy.out j hj) (by simp));rw[AZ.out,HM.out]at yc;have M2:(⟨s.data.toList.toArray⟩:ByteArray)=s:=by simp
  rw[M2]at yc;have kv:Blk w3 g ck 5:=i7.grown co (by simp);have aia:=kv.lt;have HB3:Hid (Blk w3 g ck 5):=kv;have YT:Hid _:=Wy;have H7:Hid _:=h7;have RM:Hid (w.grownBy w3 none):=aB bU co;have HPO:Hid _:=gL;obtain⟨px,hpx⟩:∃px,e=.returned (.tuple #[px,.bool true]):=by
   rcases gL with⟨er,_,rfl⟩|⟨y,fs',mm,_,_,_,rfl,_⟩
   ·exact⟨_,rfl⟩
   exact⟨_,rfl⟩
  subst hpx;clear bU i7 Wy h7 co kv M2 HL gL iB;go_wp2_with fail;clear yc;go_loopw [10,11] (fun v i wr=>∃k:Nat,v=.bool true/\i=.int .i64 ((m:Int)+k)/\k<=8/\wr=w3) (fun _ i _=>m+8-(intOf i).toNat)
  case atStart=>exact⟨0,rfl,by simp,by omega,rfl⟩
  case round=>
   obtain⟨k,rfl,rfl,hk,rfl⟩:=hrel;by_cases Sw:k<8
   ·have afb:(k:Int)<8:=by omega
    have x:=HB3.out.cell (m+k);rw[H7.out k Sw]at x;have e1:((m+k:Nat):Int)=(m:Int)+k:=by omega
    go_wp2_with fail;exact⟨⟨k+1,by trivial,by congr 1,by omega,by trivial⟩,by simp[intOf];omega⟩
   obtain rfl:k=8:=by omega
   have hMk:=acO (a:=some ⟨g,0,none⟩) (n:=m+8) (cap:=m+8) (g:=g) (o:=0) (c:=ck) (HWS.out.wd.grown RM.out) (fun _=>rfl) (by have:=HB.out;have:=HG.out;omega) HB3.out (by have:=YT.out;omega) (by omega) (by have:=HWS.out.nb;omega);have HMk:Hid _:=hMk;clear hMk;go_wp2_with fail;refine Calls.mono HMk.out ?_;rintro e w4 ⟨rfl,JB,fD,jK⟩;have xS:w.heap.size<=g:=by have:=HG.out;omega
   have P7:Fm lo (fun _=>False) w w4:=(Fm.grown RM.out HB.out.2).then fD (fun b e=>.inr (by rw[e];exact xS));have hkp:∀b c t,abj t->Blk w b c t->Blk w4 b c t:=fun b c t ht hb=>P7.keep b c t ht (fun h=>h) hb;have ael:Mkd lo w4 (bs++[.slice (some ⟨g,0,none⟩) (m+8) (m+8)]) ws is fs:=by
    have hm:=HWS.out.mkd.keep hkp;refine⟨fun k hk=>?_,hm.wd_,hm.it_,hm.fn_⟩;by_cases jl:k<bs.length
    ·rw[ajn jl];exact hm.by_ k jl
    have:k=bs.length:=by rw[ajb,List.length_singleton]at hk;omega
    subst this;rw[ajo (nLr _)];simp only[Nat.sub_self,List.getElem_cons_zero];exact⟨_,m+8,m+8,rfl,by omega,fun i hi=>⟨g,0,_,rfl,by have:=HB.out;omega,jK,abP _ _ _ _ _ hi (by have:=YT.out;omega)⟩⟩
   have HW4:Hid (Wd lo w4 W ms (bs++[.slice (some ⟨g,0,none⟩) (m+8) (m+8)]) ws is fs):=JB;have HF4:Hid (Fm lo (fun _=>False) w w4):=P7;have HM4:Hid _:=ael;have aff:Hid (Fm lo (fun x=>x=g) wr w4):=fD;have hws:=HWS.out;have dL:=hws.nm;have sF:=hws.nb;have Ts:=hws.nw;have uJ:=hws.ni;have Ai:=hws.nf;have j5:=hws.pos;have O8:Hid (ms.length<=n+1/\bs.length<=n/\ws.length<=n*6/\is.length<=n*200/\fs.length<=n*5/\0<ms.length):=⟨dL,sF,Ts,uJ,Ai,j5⟩;have HMD:Hid (∀v∈ms,abZ w4 v):=fun v hv=>(hws.md v hv).keep hkp;clear JB fD P7 ael hkp jK HMk hws dL sF Ts uJ Ai j5 xS;rcases HPO.out with⟨er,_,e⟩|⟨y,fs',mm,p1,p2,p3,e,p4⟩
   ·cases e;clear HPO;go_wp2_with fail;go_ret;obtain⟨n1,n2,n3,n4,n5,n6⟩:=O8.out;exact⟨rfl,HF4.out.below,ms,_,ws,is,fs,HW4.out,HM4.out,HMD.out,n6,by omega,by simp;omega,by omega,by omega,by omega⟩
   cases e;have hy:abZ w4 (ptr y):=⟨y,fs',mm,s.data.toList,rfl,p4.keepW fun b c' t ht h5 hb=>aff.out.keep b c' t ht (fun e=>by
    subst e
    have h3:=hb.symm.trans HB3.out
    cases h3;exact h5 rfl) hb,p1,p2⟩
   obtain⟨v0,v1,v2,v3,v4,hW,r0,r1,r2,r3,r4⟩:=HW4.out.row;obtain⟨a0,c0,e0,_,_⟩:=aG r0;subst e0;obtain⟨j0,Lu,Lp,WC,WD⟩:=info_parts acL;obtain⟨nm,dL⟩:=aja ms.length;rw[dL]at hW r0;have x0:=hW.cell 0;have LO:=hW.lt;simp at x0;have HY:Hid (abZ w4 (ptr y)):=hy;have V7:Hid _:=dL;have HWB:Hid (Blk w4 W #[.slice a0 nm c0,v1,v2,v3,v4] 60):=hW;have HR:Hid (w4.ownsRow lo 22 1 (.slice a0 nm c0) nm ms/\w4.ownsRow lo 26 1 v1 (bs++[Value.slice (some ⟨g,0,none⟩) (m+8) (m+8)]).length (bs++[Value.slice (some ⟨g,0,none⟩) (m+8) (m+8)])/\w4.ownsRow lo 31 1 v2 ws.length ws/\w4.ownsRow lo 44 1 v3 is.length is/\w4.ownsRow lo 27 1 v4 fs.length fs):=⟨r0,r1,r2,r3,r4⟩;have afg:nm<=3000000:=by have:=O8.out;omega
   clear HPO p1 p2 p3 p4 hy hW r0 r1 r2 r3 r4 dL;go_wp2_with (at_builtin;refine wpList_append_own_at _ rfl _ _ 54 rfl lo 22 j0 (.pointer none) 1 8 underlying54 Lu Lp WC WD rfl (by decide) (.slice a0 nm c0) nm ms rfl ?q1 ⟨w4.heap.size,0,none⟩ 1 1 [ptr y] rfl rfl ?q2 ?q3 ?q4 ?q5 ?q6 ?q7)
   case q1=>exact World.ownsRow.alloc HR.out.1 _
   case q2=>exact cell_one_new _ _ _
   case q3=>simp[Value.oneCell']
   case q4=>simp[maxLen];omega
   case q5=>omega
   case q6=>have h1:=HB.out.2;have h2:=HF4.out.below.size;simp;omega
   case q7=>
    intro v' w5 cG cD _ _;obtain⟨a',c',rfl,_,_⟩:=aG cG;obtain⟨r0,r1,r2,r3,r4⟩:=HR.out;obtain⟨pF,iv⟩:=Wd.pushM HWS.out.wd.low HWB.out r0 r1 r2 r3 r4 cG cD;have hWx:Blk w5 W #[.slice a0 nm c0,v1,v2,v3,v4] 60:=(Blk.alloc HWB.out _).grown cD (fun e=>by
     obtain⟨_,cc,h2⟩:=ba r0 W e.symm
     have h3:=HWB.out.symm.trans h2
     cases h3)
    have y0:=hWx.cell 0;have y0f:=hWx.frozen 0;have aic:=hWx.lt;simp at y0;have HW5:Hid _:=pF;have HF5:Hid _:=iv;clear pF iv cG cD r0 r1 r2 r3 r4 x0 LO hWx;go_wp2_with fail;go_ret;obtain⟨n1,n2,n3,n4,n5,n6⟩:=O8.out;have k5:=fun b c t ht hb=>HF5.out.keep b c t ht (fun h=>h) hb;refine⟨rfl,HF4.out.below.trans HF5.out.below,ms++[ptr y],_,ws,is,fs,HW5.out,HM4.out.keep k5,fun v hv=>?_,by simp,by simp;omega,by simp;omega,by omega,by omega,by omega⟩;rcases List.mem_append.1 hv with h1|h1
    ·exact(HMD.out v h1).keep k5
    have:v=ptr y:=by simpa using h1
    subst this;exact HY.out.keep k5
