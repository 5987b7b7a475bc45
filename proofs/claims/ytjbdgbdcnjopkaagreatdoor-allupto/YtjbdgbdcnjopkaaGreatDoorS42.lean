import Derived.Test.YtjbdgbdcnjopkaaGreatDoorS40
namespace Go.Proofs.YtjbdgbdcnjopkaaGreatDoor
open Go.RowKit Tryz
set_option linter.all false
set_option maxRecDepth 100000
set_option maxHeartbeats 4000000
def kQ(bs:List UInt8):List Nat->Nat->Nat->Er->Nat×Er
 | [],_,at_,er=>(at_,er)
 |c::l,i,at_,er=>kQ bs l (i+1) (dN bs at_ er).2.1 (if (dN bs at_ er).2.2.1=0/\(dN bs at_ er).1≠c then (2,i) else (dN bs at_ er).2.2)
def vj(bs:List UInt8)(at_:Nat)(er:Er):Sig×Nat×Er:=
 (((dO bs at_ er 6).1,(dO bs (dO bs at_ er 6).2.1 (dO bs at_ er 6).2.2 3).1),(dO bs (dO bs at_ er 6).2.1 (dO bs at_ er 6).2.2 3).2)
def mu(bs:List UInt8):Nat->Nat->Er->List Sig->List Sig×Nat×Er
 |0,at_,er,l=>(l,at_,er)
 |n+1,at_,er,l=>if er.1=0 then mu bs n (vj bs at_ er).2.1 (vj bs at_ er).2.2 (l++[(vj bs at_ er).1]) else (l,at_,er)
def mv(bs:List UInt8)(nsig:Nat):Nat->Nat->Er->List pI->List pI×Nat×Er
 |0,at_,er,l=>(l,at_,er)
 |n+1,at_,er,l=>if er.1=0 then mv bs nsig n (cK bs nsig at_ er).2.1 (cK bs nsig at_ er).2.2 (l++[(cK bs nsig at_ er).1]) else (l,at_,er)
def zy(f:ck):pI:={sig:=f.sig,more:=f.ai,ax:=f.ax,stop:=f.ax+f.code.length}
section
variable {bs:List UInt8}{er e:Er}
theorem qO(h:er.1≠0):∀(l:List Nat) (i at_:Nat),(kQ bs l i at_ er).2=er
 | [],i,at_=>rfl
 |c::l,i,at_=>by rw[kQ,i8 h,ajc (fun c=>h c.1)];exact qO h l _ _
theorem wz(h:er.1=0):∀(l:List Nat) (p:Nat),(fT bs l p=.ok ()->kQ bs l p p er=(p+l.length,er))/\(∀e,fT bs l p=.error e->(kQ bs l p p er).2=e/\e.1=2)
 | [],p=>⟨fun _=>rfl,fun e he=>by cases he⟩
 |c::l,p=>by
  rw[fT,kQ];unfold bN;cases hx:fe bs p with
  |error e'=>
   obtain⟨a1,a2⟩:=nQ h hx;rw[a1];simp only[aW];rw[ajc (show ¬(e'.1=0/\0≠c) by omega)];refine⟨fun h=>(by cases h),fun e he=>?_⟩;cases he;exact⟨qO (by omega) _ _ _,a2⟩
  |ok n=>
   rw[j9 h hx];simp only[aM];by_cases hc:n=c
   ·rw[ajc (show ¬(n<c\/c<n) by omega),ajc (show ¬(er.1=0/\n≠c) by omega)];obtain⟨a,b⟩:=wz h l (p+1);refine⟨fun h=>?_,fun e he=>b e he⟩;rw[a h];simp only[ajr]
    congr 1
    omega
   rw[ajd (show n<c\/c<n by omega),ajd ⟨h,hc⟩];refine⟨fun h=>(by cases h),fun e he=>?_⟩;cases he;exact⟨qO (by simp) _ _ _,rfl⟩
theorem GK(h:er.1=0)(p:Nat):(∀r,rZ bs p=.ok r->vj bs p er=(r.1,r.2,er)/\r.1.1.length<=6/\r.1.2.length<=3)/\(∀e,rZ bs p=.error e->(vj bs p er).2.2=e/\e.1=2):=by
 unfold rZ vj;cases h1:eO bs p 6 with
 |error e'=>
  obtain⟨a,b⟩:=oU h h1;refine⟨fun r hr=>(by cases hr),fun e he=>?_⟩;cases he;rw[a,s8 (er:=e') (by omega)];exact⟨rfl,b⟩
 |ok ts=>
  obtain⟨a,b⟩:=nR h h1;rw[a];simp only[aM];cases h2:eO bs (p+1+ts.length) 3 with
  |error e'=>
   obtain⟨c,d⟩:=oU h h2;refine⟨fun r hr=>(by cases hr),fun e he=>?_⟩;cases he;exact⟨c,d⟩
  |ok gs=>
   obtain⟨c,d⟩:=nR h h2;refine⟨fun r hr=>?_,fun e he=>by cases he⟩;cases hr;rw[c];exact⟨rfl,b,d⟩
theorem nZ(h:er.1≠0)(n at_:Nat)(l:List Sig):mu bs n at_ er l=(l,at_,er):=by
 cases n with
 |zero=>rfl
 |succ n=>rw[mu,ajc h]
theorem wE(h:er.1=0):∀(k p:Nat) (acc:List Sig),(∀r,di bs k p=.ok r->mu bs k p er acc=(acc++r.1,r.2,er)/\r.1.length=k/\∀x∈r.1,x.1.length<=6/\x.2.length<=3)/\(∀e,di bs k p=.error e->(mu bs k p er acc).2.2=e/\e.1=2)
 |0,p,acc=>⟨fun r hr=>by cases hr;simp[mu],fun e he=>by cases he⟩
 |k+1,p,acc=>by
  rw[di,mu,ajd h];obtain⟨a,b⟩:=GK (bs:=bs) h p;cases h1:rZ bs p with
  |error e'=>
   obtain⟨c,d⟩:=b e' h1;refine⟨fun r hr=>(by cases hr),fun e he=>?_⟩;cases he;rw[c,nZ (by omega)];exact⟨rfl,d⟩
  |ok x=>
   obtain⟨c,c1,c2⟩:=a x h1;rw[c];simp only[aM];obtain⟨i,j⟩:=wE h k x.2 (acc++[x.1]);cases h2:di bs k x.2 with
   |error e'=>
    refine⟨fun r hr=>(by cases hr),fun e he=>?_⟩;cases he;exact j _ h2
   |ok y=>
    obtain⟨i1,i2,i3⟩:=i y h2;refine⟨fun r hr=>?_,fun e he=>by cases he⟩;cases hr;refine⟨by rw[i1];simp,by simp[i2],fun z hz=>?_⟩;rcases List.mem_cons.1 hz with rfl|hz
    ·exact⟨c1,c2⟩
    exact i3 z hz
theorem jV(h:er.1≠0)(nsig n at_:Nat)(l:List pI):mv bs nsig n at_ er l=(l,at_,er):=by
 cases n with
 |zero=>rfl
 |succ n=>rw[mv,ajc h]
theorem wF(h:er.1=0)(nsig:Nat):∀(k p:Nat) (acc:List pI),(∀r,d9 bs nsig k p=.ok r->mv bs nsig k p er acc=(acc++r.1.map zy,r.2,er)/\r.1.length=k/\∀f∈r.1,f.sig<=nsig-1/\f.ai.length<=8/\f.ax+f.code.length<=bs.length/\f.code=(bs.drop f.ax).take f.code.length/\1<=f.code.length/\f.code.length<=400)/\(∀e,d9 bs nsig k p=.error e->(mv bs nsig k p er acc).2.2=e/\e.1=2)
 |0,p,acc=>⟨fun r hr=>by cases hr;simp[mv],fun e he=>by cases he⟩
 |k+1,p,acc=>by
  rw[d9,mv,ajd h];cases h1:lP bs nsig p with
  |error e'=>
   obtain⟨c,d⟩:=uP h h1;refine⟨fun r hr=>(by cases hr),fun e he=>?_⟩;cases he;rw[c,jV (by omega)];exact⟨rfl,d⟩
  |ok x=>
   obtain⟨f,q⟩:=x;obtain⟨c,c1,c2,c3,c4,c5,c6,c7⟩:=xp h h1;rw[c];simp only[aM];obtain⟨i,j⟩:=wF h nsig k q (acc++[{sig:=f.sig,more:=f.ai,ax:=f.ax,stop:=q}]);cases h2:d9 bs nsig k q with
   |error e'=>
    refine⟨fun r hr=>(by cases hr),fun e he=>?_⟩;cases he;exact j _ h2
   |ok y=>
    obtain⟨i1,i2,i3⟩:=i y h2;refine⟨fun r hr=>?_,fun e he=>by cases he⟩;cases hr;refine⟨by rw[i1];simp[zy,c3],by simp[i2],fun z hz=>?_⟩;rcases List.mem_cons.1 hz with rfl|hz
    ·exact⟨c1,c2,by omega,c4,c6,c7⟩
    exact i3 z hz
structure GM where
 sigs:List Sig
 funs:List pI
 er:Er
def tQ(bs:List UInt8):GM:=
 let h:=kQ bs [84,82,1] 0 0 (0,0)
 let n:=bH bs h.1 h.2 1 20
 let s:=mu bs n.1 n.2.1 n.2.2 []
 let k:=bH bs s.2.1 s.2.2 1 20
 let f:=mv bs s.1.length k.1 k.2.1 k.2.2 []
 {sigs:=s.1,funs:=f.1,er:=if f.2.2.1=0/\f.2.1<bs.length then (2,f.2.1) else f.2.2}
theorem tR(hl:bs.length<=4000):(∀m,eD bs=.ok m->tQ bs={sigs:=m.sigs,funs:=m.funs.map zy,er:=(0,0)}/\1<=m.sigs.length/\m.sigs.length<=20/\1<=m.funs.length/\m.funs.length<=20/\(∀x∈m.sigs,x.1.length<=6/\x.2.length<=3)/\(∀f∈m.funs,f.sig<=m.sigs.length-1/\f.ai.length<=8/\f.ax+f.code.length<=bs.length/\f.code=(bs.drop f.ax).take f.code.length/\1<=f.code.length/\f.code.length<=400)) /\ (∀e,eD bs=.error e->(tQ bs).er=e/\e.1≠0):=by
 unfold eD tQ;rw[ajc (by omega)];obtain⟨a,b⟩:=wz (bs:=bs) (er:=(0,0)) rfl [84,82,1] 0;have off:∀(e':Er) (q:Nat),e'.1=2->(if e'.1=0/\q<bs.length then ((2,q):Er) else e')=e':=fun e' q h=>ajc (by omega);cases h1:fT bs [84,82,1] 0 with
 |error e'=>
  obtain⟨c,d⟩:=b e' h1;refine⟨fun m hm=>(by cases hm),fun e he=>?_⟩;cases he;simp only[c];rw[iw (er:=e') (by omega)];simp only;rw[nZ (er:=e') (by omega)];simp only;rw[iw (er:=e') (by omega)];simp only;rw[jV (er:=e') (by omega)];exact⟨off _ _ d,by omega⟩
 |ok u=>
  rw[a h1];simp only[aM,ajr,ajv,ajx];cases h2:bN bs 3 1 20 with
  |error e'=>
   obtain⟨c,d,d2⟩:=js (er:=(0,0)) rfl h2;refine⟨fun m hm=>(by cases hm),fun e he=>?_⟩;cases he;simp only[d];rw[nZ (er:=e') (by omega)];simp only;rw[iw (er:=e') (by omega)];simp only;rw[jV (er:=e') (by omega)];exact⟨off _ _ d2,by omega⟩
  |ok n=>
   obtain⟨c,c1,c2⟩:=fY (er:=(0,0)) rfl h2;rw[c];simp only[aM];obtain⟨i,j⟩:=wE (bs:=bs) (er:=(0,0)) rfl n 4 [];cases h3:di bs n 4 with
   |error e'=>
    obtain⟨d,d2⟩:=j e' h3;refine⟨fun m hm=>(by cases hm),fun e he=>?_⟩;cases he;simp only[d];rw[iw (er:=e') (by omega)];simp only;rw[jV (er:=e') (by omega)];exact⟨off _ _ d2,by omega⟩
   |ok sg=>
    obtain⟨i1,i2,i3⟩:=i sg h3;rw[i1];simp only[aM,List.nil_append];cases h4:bN bs sg.2 1 20 with
    |error e'=>
     obtain⟨_,d,d2⟩:=js (er:=(0,0)) rfl h4;refine⟨fun m hm=>(by cases hm),fun e he=>?_⟩;cases he;simp only[d];rw[jV (er:=e') (by omega)];exact⟨off _ _ d2,by omega⟩
    |ok k=>
     obtain⟨k1,k2,k3⟩:=fY (er:=(0,0)) rfl h4;rw[k1];simp only[aM];obtain⟨u1,u2⟩:=wF (bs:=bs) (er:=(0,0)) rfl sg.1.length k (sg.2+1) [];cases h5:d9 bs sg.1.length k (sg.2+1) with
     |error e'=>
      obtain⟨d,d2⟩:=u2 e' h5;refine⟨fun m hm=>(by cases hm),fun e he=>?_⟩;cases he;simp only[d];exact⟨off _ _ d2,by omega⟩
     |ok fs=>
      obtain⟨v1,v2,v3⟩:=u1 fs h5;rw[v1];simp only[aM,List.nil_append];by_cases bM:fs.2<bs.length
      ·rw[ajd bM];refine⟨fun m hm=>(by cases hm),fun e he=>?_⟩;cases he;rw[ajd ⟨trivial,bM⟩];exact⟨rfl,by simp⟩
      rw[ajc bM];refine⟨fun m hm=>?_,fun e he=>by cases he⟩;cases hm;rw[ajc (fun c=>bM c.2)];exact⟨rfl,by simp only;omega,by simp only;omega,by simp only;omega,by simp only;omega,i3,v3⟩
end
section
variable {m:bf}{f:ck}{sig:Sig}
theorem zz(h:m.sigs[f.sig]?=some sig){r:LSt}(hr:cS m (sig.1++f.ai) f (f.code.length+1) (fP sig) 0=.ok r):∃x,cz m f=.ok x:=by unfold cz;rw[h];simp only;have e:dg {af:=[],ae:=[],ay:=[],ah:=[]} 2 sig=fP sig:=rfl;rw[e,hr,aM];exact⟨_,rfl⟩
theorem xI(h:m.sigs[f.sig]?=some sig){e:Er}(hr:cS m (sig.1++f.ai) f (f.code.length+1) (fP sig) 0=.error e):cz m f=.error e:=by unfold cz;rw[h];simp only;have e':dg {af:=[],ae:=[],ay:=[],ah:=[]} 2 sig=fP sig:=rfl;rw[e',hr,aW]
theorem lG:∀(l:List ck) (i:Nat) (hi:i<l.length) {e:Er},(∀(j:Nat) (h:j<l.length),j<i->∃x,cz m l[j]=.ok x)->cz m l[i]=.error e->bR m l=.error e
 | [],i,hi,e,_,_=>by simp at hi
 |f::l,0,hi,e,_,h=>by
  rw[bR];have h':cz m f=.error e:=h;rw[h',aW]
 |f::l,i+1,hi,e,ho,h=>by rw[bR];obtain⟨x,hx⟩:=ho 0 (by simp) (by omega);have OV:cz m f=.ok x:=hx;rw[OV,aM,lG l i (by simpa using hi) (fun j hj CP=>ho (j+1) (by simpa using hj) (by omega)) h,aW]
theorem nH:∀(l:List ck),(∀f∈l,∃x,cz m f=.ok x)->∃r,bR m l=.ok r
 | [],_=>⟨[],rfl⟩
 |f::l,h=>by obtain⟨x,hx⟩:=h f (by simp);obtain⟨r,hr⟩:=nH l (fun g hg=>h g (by simp[hg]));exact⟨x::r,by rw[bR,hx,aM,hr,aM]⟩
end
def ev(az:Nat)(w:World)(v:Value)(l:List Sig):Prop:=
 ∃xs,w.ownsRow az 46 2 v l.length xs/\∀i (h:i<l.length),∃vt vg,xs[2*i]?=some vt/\xs[2*i+1]?=some vg/\aR w vt l[i].1/\aR w vg l[i].2
structure fG(az:Nat)(w:World)(v:Value)(sigs:List Sig)(ads:List Nat)(l:List pI):Prop where
 row:w.ownsRow az 50 1 v l.length (ads.map ptr)
 len:ads.length=l.length
 nodup:ads.Nodup
 low:∀a∈ads,az<=a
 fns:∀(i a:Nat) (f:pI),ads[i]?=some a->l[i]?=some f->∃sg,sigs[f.sig]?=some sg/\ky w a sg (sg.1++f.more) f.ax f.stop
theorem ky.kept{w w':World}{f:Nat}{sig:Sig}{ai:List Nat}{ax stop:Nat}(h:ky w f sig ai ax stop)(k1:∀c,Blk w f c 49->Blk w' f c 49)(k3:∀g c,Blk w g c 3->Blk w' g c 3):ky w' f sig ai ax stop:=by obtain⟨vt,vg,vl,vb,h1,h2,h3,h4⟩:=h;exact⟨vt,vg,vl,vb,k1 _ h1,h2.keep k3,h3.keep k3,h4.keep k3⟩
theorem GN{w:World}{g g' t t':Nat}{c c':Array Value}(h:Blk w g c t)(h':Blk w g' c' t')(ec:t≠t'):g≠g':=by intro e;subst e;have h2:=h.symm.trans h';cases h2;exact ec rfl
section
variable {az:Nat}{w w':World}{v:Value}{l:List Sig}{sigs:List Sig}{ads:List Nat}{fl:List pI}
theorem ev.none:ev az w (.slice none 0 0) []:=⟨[],ajj _ _ _ _,fun i h=>by simp at h⟩
theorem ev.keep(h:ev az w v l)(k:∀g c t,t=46\/t=3->Blk w g c t->Blk w' g c t):ev az w' v l:=by obtain⟨xs,ho,hr⟩:=h;refine⟨xs,aJ ho (fun g c hb=>k g c 46 (.inl rfl) hb),fun i hi=>?_⟩;obtain⟨vt,vg,a1,a2,a3,a4⟩:=hr i hi;exact⟨vt,vg,a1,a2,a3.keep (fun g c hb=>k g c 3 (.inr rfl) hb),a4.keep (fun g c hb=>k g c 3 (.inr rfl) hb)⟩
theorem ev.rsigs(h:ev az w v l)(ec:0<l.length):BY w v l:=by
 obtain⟨xs,ho,hr⟩:=h;rcases ho.2 with⟨_,h0⟩|⟨g,cap,cur,rfl,_,hb,_⟩
 ·omega
 refine⟨g,cap,cur,rfl,hb,fun i hi=>?_⟩;obtain⟨vt,vg,a1,a2,a3,a4⟩:=hr i hi;have c1:=(bK ho (j:=2*i) (by omega)).1;have c2:=(bK ho (j:=2*i+1) (by omega)).1;have mn:Blk w g cur 46:=hb;rw[mn.cell]at c1 c2;exact⟨vt,vg,c1.trans a1,c2.trans a2,a3,a4⟩
theorem ev.snoc{xs:List Value}{v' vt vg:Value}{sg:Sig}(hr:∀i (h:i<l.length),∃vt vg,xs[2*i]?=some vt/\xs[2*i+1]?=some vg/\aR w vt l[i].1/\aR w vg l[i].2)(hl:xs.length=l.length*2)(ho:w'.ownsRow az 46 2 v' (l.length+1) (xs++[vt,vg])) (k:∀g c,Blk w g c 3->Blk w' g c 3) (h1:aR w' vt sg.1) (h2:aR w' vg sg.2):ev az w' v' (l++[sg]):=by
 refine⟨xs++[vt,vg],by simpa using ho,fun i hi=>?_⟩;simp only[ajb,ajr,ajv]at hi;by_cases e:i<l.length
 ·obtain⟨vt',vg',a1,a2,a3,a4⟩:=hr i e;refine⟨vt',vg',?_,?_,?_,?_⟩
  ·rw[gAl (by omega)];exact a1
  ·rw[gAl (by omega)];exact a2
  ·rw[ajn e];exact a3.keep k
  rw[ajn e];exact a4.keep k
 obtain rfl:i=l.length:=by omega
 refine⟨vt,vg,?_,?_,?_,?_⟩
 ·rw[ajs (by omega)];have e2:2*l.length-xs.length=0:=by omega
  rw[e2];rfl
 ·rw[ajs (by omega)];have e2:2*l.length+1-xs.length=1:=by omega
  rw[e2];rfl
 ·rw[ajo (by omega)];simpa using h1
 rw[ajo (by omega)];simpa using h2
theorem fG.none:fG az w (.slice none 0 0) sigs [] []:=⟨ajj _ _ _ _,rfl,List.nodup_nil,fun a h=>by simp at h,fun i a f h=>by simp at h⟩
theorem fG.keep(h:fG az w v sigs ads fl)(k:∀g c t,t=50\/t=49\/t=3->Blk w g c t->Blk w' g c t):fG az w' v sigs ads fl:=
 ⟨aJ h.row (fun g c hb=>k g c 50 (.inl rfl) hb),h.len,h.nodup,h.low,fun i a f ha hf=>by
  obtain⟨sg,a1,a2⟩:=h.fns i a f ha hf
  exact⟨sg,a1,a2.kept (fun c hb=>k _ c 49 (.inr (.inl rfl)) hb) (fun g c hb=>k g c 3 (.inr (.inr rfl)) hb)⟩⟩
theorem fG.snoc{v':Value}{a:Nat}{f:pI}{sg:Sig}(h:fG az w v sigs ads fl)(ho:w'.ownsRow az 50 1 v' (fl.length+1) (ads.map ptr++[ptr a]))(k:∀g c t,t=49\/t=3->Blk w g c t->Blk w' g c t)(hn:∀b∈ads,b<a)(tC:az<=a)(iD:sigs[f.sig]?=some sg)(hf:ky w' a sg (sg.1++f.more) f.ax f.stop):fG az w' v' sigs (ads++[a]) (fl++[f]):=by
 refine⟨by simpa using ho,by simp[h.len],?_,?_,?_⟩
 ·rw[List.nodup_append];refine⟨h.nodup,by simp,fun b hb c hc=>?_⟩;simp at hc;subst hc;have:=hn b hb;omega
 ·intro b hb;rcases List.mem_append.1 hb with hb|hb
  ·exact h.low b hb
  simp at hb;subst hb;exact tC
 intro i b g hb hg;by_cases e:i<fl.length
 ·rw[gAl (by rw[h.len];exact e)]at hb;rw[gAl e]at hg;obtain⟨sg',a1,a2⟩:=h.fns i b g hb hg;exact⟨sg',a1,a2.kept (fun c hb=>k _ c 49 (.inl rfl) hb) (fun g c hb=>k g c 3 (.inr rfl) hb)⟩
 have hi:=(gEs.1 hg).1;simp at hi;obtain rfl:i=fl.length:=by omega
 rw[ajs (by rw[h.len];omega),h.len]at hb;rw[ajs (by omega)]at hg;simp at hb hg;subst hb;subst hg;exact⟨sg,iD,hf⟩
theorem fG.used(h:fG az w v sigs ads fl):∀b∈ads,b<w.heap.size:=by
 intro b hb;obtain⟨i,hi,rfl⟩:=List.getElem_of_mem hb;have Ln:i<fl.length:=by rw[<-h.len];exact hi
 obtain⟨sg,_,vt,vg,vl,vb,h1,_⟩:=h.fns i ads[i] fl[i] (gEg hi) (gEg Ln);exact h1.lt
end
structure o9(az:Nat)(w:World)(m:Nat)(mm:bf)(ads:List Nat):Prop where
 mod:∃vs vf,Blk w m #[vs,vf] 38/\BY w vs mm.sigs/\w.ownsRow az 50 1 vf mm.funs.length (ads.map ptr)
 len:ads.length=mm.funs.length
 nodup:ads.Nodup
 low:∀a∈ads,az<=a
 pos:0<mm.funs.length
 fns:∀i (h:i<mm.funs.length) (a:Nat),ads[i]?=some a->ky w a (da mm i) ((da mm i).1++mm.funs[i].ai) mm.funs[i].ax (mm.funs[i].ax+mm.funs[i].code.length)
def qP(az:Nat)(w:World)(mm:bf)(a:Nat)(sig:Sig)(fn:ck):Prop:=
 ∃vt vg vl vb body k q,Blk w a #[vt,vg,vl,.int .i64 fn.ax,.int .i64 ((fn.ax+fn.code.length:Nat):Int),vb] 49/\aR w vt sig.1/\aR w vg sig.2/\aR w vl (sig.1++fn.ai)/\fN w (fun g=>az<=g) vb body/\bI w mm fn.code (fun g=>az<=g) k 0 body q/\fS fn.code q=some 6/\q+1=fn.code.length
section
variable {az m:Nat}{w w':World}{mm:bf}{ads:List Nat}
theorem qP.keep{a:Nat}{sig:Sig}{fn:ck}(h:qP az w mm a sig fn)(k1:∀c,Blk w a c 49->Blk w' a c 49)(k:∀g c t,t=157\/t=155\/t=3->Blk w g c t->Blk w' g c t):qP az w' mm a sig fn:=by obtain⟨vt,vg,vl,vb,body,n,q,h1,h2,h3,h4,h5,h6,h7,h8⟩:=h;have k3:∀g c,Blk w g c 3->Blk w' g c 3:=fun g c hb=>k g c 3 (.inr (.inr rfl)) hb;refine⟨vt,vg,vl,vb,body,n,q,k1 _ h1,h2.keep k3,h3.keep k3,h4.keep k3,h5.keep (fun g cs ho hb=>⟨k g cs 155 (.inr (.inl rfl)) hb,ho⟩),bI.keep (fun g cs t ho ht hb=>⟨k g cs t (by rcases ht with rfl|rfl <;> simp) hb,ho⟩) k3 _ _ _ _ h6,h7,h8⟩
theorem jz{i:Nat}(h:i<mm.funs.length){sg:Sig}(hs:mm.sigs[mm.funs[i].sig]?=some sg):da mm i=sg:=by unfold da;rw[gEg h];simp[hs]
theorem o9.of{vs vf:Value}{fl:List pI}(hm:Blk w m #[vs,vf] 38)(hs:ev az w vs mm.sigs)(hf:fG az w vf mm.sigs ads fl)(he:fl=mm.funs.map zy)(h1:0<mm.sigs.length)(h2:0<mm.funs.length):o9 az w m mm ads:=by subst he;have hr:=hf.row;have hl:=hf.len;simp only[List.length_map]at hr hl;refine⟨⟨vs,vf,hm,hs.rsigs h1,hr⟩,hl,hf.nodup,hf.low,h2,fun i hi a ha=>?_⟩;obtain⟨sg,a1,a2⟩:=hf.fns i a (zy mm.funs[i]) ha (by simp[gEg hi]);have a1':mm.sigs[mm.funs[i].sig]?=some sg:=a1;rw[jz hi a1'];exact a2
theorem o9.ctx(h:o9 az w m mm ads){i a:Nat}(hi:i<mm.funs.length)(ha:ads[i]?=some a):Ctx w m a mm mm.funs[i] (da mm i):=by
 obtain⟨vs,vf,h1,h2,h3⟩:=h.mod;refine⟨⟨vs,vf,h1,h2,?_⟩,h.fns i hi a ha⟩;have hp:=h.pos;rcases h3.2 with⟨_,h0⟩|⟨g,cap,cur,rfl,_,hb,_⟩
 ·omega
 refine⟨g,cap,cur,rfl,hb,fun j hj=>?_⟩;have It:j<ads.length:=by rw[h.len];exact hj
 have c1:=(bK h3 (j:=j) (by omega)).1;have mn:Blk w g cur 50:=hb;rw[mn.cell]at c1;refine⟨ads[j],by rw[c1];simp[gEg It],h.fns j hj _ (gEg It)⟩
theorem o9.looked(h:o9 az w m mm ads){i f:Nat}(hi:i<mm.funs.length)(hf:ads[i]?=some f)(k:∀g cs t,¬l7 t->g≠f->Blk w g cs t->Blk w' g cs t)(hn:ky w' f (da mm i) ((da mm i).1++mm.funs[i].ai) mm.funs[i].ax (mm.funs[i].ax+mm.funs[i].code.length)):o9 az w' m mm ads:=by
 obtain⟨vt0,vg0,vl0,vb0,Ev,_⟩:=h.fns i hi f hf;have kk:∀g cs t,¬l7 t->t≠49->Blk w g cs t->Blk w' g cs t:=fun g cs t h1 h2 hb=>k g cs t h1 (GN hb Ev h2) hb;have k3:∀g c,Blk w g c 3->Blk w' g c 3:=fun g c hb=>kk g c 3 (by decide) (by decide) hb;obtain⟨vs,vf,h1,⟨g,cap,c,e1,e2,e3⟩,h3⟩:=h.mod;refine⟨⟨vs,vf,kk _ _ _ (by decide) (by decide) h1,⟨g,cap,c,e1,kk _ _ _ (by decide) (by decide) e2,fun j hj=>?_⟩,aJ h3 (fun g c hb=>kk g c 50 (by decide) (by decide) hb)⟩,h.len,h.nodup,h.low,h.pos,fun j hj a ha=>?_⟩
 ·obtain⟨vt,vg,a1,a2,a3,a4⟩:=e3 j hj;exact⟨vt,vg,a1,a2,a3.keep k3,a4.keep k3⟩
 by_cases e:j=i
 ·subst e;have:a=f:=by rw[hf]at ha;cases ha;rfl
  subst this;exact hn
 have ec:a≠f:=by intro e2;subst e2;exact e ((List.getElem?_inj (gEs.1 ha).1 h.nodup).1 (ha.trans hf.symm))
 exact(h.fns j hj a ha).kept (fun c hb=>k _ _ _ (by decide) ec hb) k3
def ia(az:Nat)(w:World)(mm:bf)(ads:List Nat)(n:Nat):Prop:=∀i (h:i<mm.funs.length) (a:Nat),i<n->ads[i]?=some a->qP az w mm a (da mm i) mm.funs[i]/\∃x,cz mm mm.funs[i]=.ok x
theorem ia.keep{n:Nat}(h:ia az w mm ads n)(k:∀g c t,t=49\/t=157\/t=155\/t=3->Blk w g c t->Blk w' g c t):ia az w' mm ads n:=fun i hi a hn ha=>⟨(h i hi a hn ha).1.keep (fun c hb=>k _ c 49 (.inl rfl) hb) (fun g c t ht hb=>k g c t (.inr ht) hb),(h i hi a hn ha).2⟩
theorem ia.looked{n f:Nat}(h:ia az w mm ads n)(hg:o9 az w m mm ads)(hi:n<mm.funs.length)(hf:ads[n]?=some f)(k:∀g cs t,¬l7 t->g≠f->Blk w g cs t->Blk w' g cs t)(hn:qP az w' mm f (da mm n) mm.funs[n])(hx:∃x,cz mm mm.funs[n]=.ok x):ia az w' mm ads (n+1):=by
 intro i Ln a ou ha;obtain⟨vt0,vg0,vl0,vb0,Ev,_⟩:=hg.fns n hi f hf;by_cases e:i=n
 ·subst e;have:a=f:=by rw[hf]at ha;cases ha;rfl
  subst this;exact⟨hn,hx⟩
 obtain⟨t1,t2⟩:=h i Ln a (by omega) ha;have ec:a≠f:=by intro e2;subst e2;exact e ((List.getElem?_inj (gEs.1 ha).1 hg.nodup).1 (ha.trans hf.symm))
 refine⟨t1.keep (fun c hb=>k _ _ _ (by decide) ec hb) (fun g c t ht hb=>k g c t ?_ (GN hb Ev ?_) hb),t2⟩
 ·rcases ht with rfl|rfl|rfl <;> decide
 rcases ht with rfl|rfl|rfl <;> decide
end
def GO(az:Nat)(w':World)(bs:List UInt8)(r:Ending):Prop:=
 (∃e:Er,eU bs=.error e/\r=.returned (.tuple #[.pointer none,.int .i64 e.1,.int .i64 e.2])) \/
 (∃mm l m ads,eD bs=.ok mm/\bR mm mm.funs=.ok l/\az<=m/\r=.returned (.tuple #[ptr m,.int .i64 0,.int .i64 0])/\o9 az w' m mm ads/\ia az w' mm ads mm.funs.length)
