import Derived.Test.YtjbdgbdcnjopkaaGreatDoorS04
import Derived.Deep.Cut
import Derived.BigRegionIn
namespace Go.Proofs.YtjbdgbdcnjopkaaGreatDoor
open Go.RowKit Tryz
set_option linter.all false
set_option maxRecDepth 100000
set_option maxHeartbeats 4000000
structure PFr where
 au:Nat
 aj:List Nat
 ak:List Nat
 am:Nat
 dead:Bool
 ao:Int
 target:Nat
structure PSt where
 aa:K5
 index:Nat
 num:Int
 ah:List Nat
structure LSt where
 af:List Nat
 ae:List PFr
 ay:List PSt
 ah:List (Nat×Nat×Nat)
def aZ(f:PFr):List Nat:=if f.au=3 then f.aj else f.ak
def bT(s:LSt)(i:Nat):Option PFr:=if i<s.ae.length then s.ae[s.ae.length-1-i]? else none
def bD(ar:Nat)(s:LSt)(asked:Nat):Except Er (Nat×LSt):=
 match s.ae.getLast? with
 |none=>.error (2,0)
 |some f=>
  if s.af.length<=f.am then
   if f.dead then .ok (0,s) else .error (7,ar)
  else
   match s.af.getLast? with
   |none=>.error (2,0)
   |some got=>if got≠asked/\got≠0/\asked≠0 then .error (7,ar) else .ok (got,{s with af:=s.af.dropLast})
def bw(ar:Nat):LSt->List Nat->Except Er LSt
 |s,[]=>.ok s
 |s,t::l=>bnd (bD ar s t) fun r=>bw ar r.2 l
def ez(s:LSt)(t:Nat):LSt:={s with af:=s.af++[t]}
def bE(s:LSt)(l:List Nat):LSt:={s with af:=s.af++l}
def dg(s:LSt)(au:Nat)(sig:Sig):LSt:=
 {s with
  ae:=s.ae++[{au:=au,aj:=sig.1,ak:=sig.2,am:=s.af.length,dead:=false,ao:=(s.ay.length:Int)-1,target:=s.ah.length}]
  ah:=s.ah++[(s.ay.length,(if au=3 then sig.1 else sig.2).length,s.af.length)]}
def cR(s:LSt)(i:Nat)(t:Nat):LSt:=
 {s with ay:=s.ay.modify i fun st=>{st with ah:=[t]}}
def dT(ar:Nat)(s:LSt):Except Er (PFr×LSt):=
 match s.ae.getLast? with
 |none=>.error (2,0)
 |some f=>
  bnd (bw ar s f.ak.reverse) fun s1=>
   if s1.af.length≠f.am then .error (7,ar) else
   let s2:=if f.au=4 then cR {s1 with ah:=s1.ah++[(s1.ay.length,f.aj.length,f.am)]} f.ao.toNat s1.ah.length else s1
   .ok (f,{s2 with ae:=s2.ae.dropLast})
def gU(ar:Nat)(s:LSt):Except Er LSt:=
 match s.ae.getLast? with
 |none=>.error (2,0)
 |some f=>
  if f.au≠4 then .error (5,ar) else
  bnd (dT ar s) fun r=>
   let s1:=cR r.2 (r.2.ay.length-1) r.1.target
   .ok (bE {s1 with ae:=s1.ae++[{r.1 with au:=5,dead:=false}]} r.1.aj)
def setNext(s:LSt)(t:Nat)(n:Nat):LSt:={s with ah:=s.ah.modify t fun x=>(n,x.2)}
def lq(ar:Nat)(s:LSt):Except Er LSt:=
 bnd (dT ar s) fun r=>
  if r.1.au=4/\r.1.aj≠r.1.ak then .error (7,ar) else
  let s1:=if r.1.au≠3 then setNext r.2 r.1.target r.2.ay.length else r.2
  .ok (bE s1 r.1.ak)
def iy(s:LSt):LSt:=
 match s.ae.getLast? with
 |none=>s
 |some f=>{s with ae:=s.ae.dropLast++[{f with dead:=true}],af:=s.af.take f.am}
def dn(s:LSt)(idx:List Nat):Option (List Nat):=
 match idx with
 | []=>(s.ae.head?).map aZ
 |i::_=>(bT s i).map aZ
def gM(ar:Nat)(s:LSt)(wants:List Nat):List Nat->Except Er Unit
 | []=>.ok ()
 |i::l=>if (bT s i).map aZ=some wants then gM ar s wants l else .error (7,ar)
def eI(ar:Nat)(s:LSt)(st:aX):Except Er LSt:=
 match dn s st.idx with
 |none=>.error (2,0)
 |some wants=>
  if st.aa.au=8 then bnd (bD ar s 1) fun r=>bnd (bw ar r.2 wants.reverse) fun s1=>.ok (bE s1 wants)
  else if st.aa.au=9 then bnd (gM ar s wants st.idx) fun _=>bnd (bD ar s 1) fun r=>bnd (bw ar r.2 wants.reverse) fun s1=>.ok (iy s1)
  else if st.aa.au=7\/st.aa.au=10 then bnd (bw ar s wants.reverse) fun s1=>.ok (iy s1)
  else .ok (iy s)
def de(ar:Nat)(sigs:List Sig)(s:LSt)(st:aX):Except Er LSt:=
 if 12<s.ae.length then .error (6,ar) else
 match sigs[st.idx.headD 0]? with
 |none=>.error (2,0)
 |some sig=>
  bnd (if st.aa.au=4 then bnd (bD ar s 1) fun r=>.ok r.2 else .ok s) fun s0=>
  bnd (bw ar s0 sig.1.reverse) fun s1=>.ok (bE (dg s1 st.aa.au sig) sig.1)
def mi(ar:Nat)(m:bf)(s:LSt)(f:Nat):Except Er LSt:=
 match m.funs[f]? with
 |none=>.error (2,0)
 |some fn=>
  match m.sigs[fn.sig]? with
  |none=>.error (2,0)
  |some sig=>bnd (bw ar s sig.1.reverse) fun s1=>.ok (bE s1 sig.2)
def jk(ar:Nat)(s:LSt):Except Er LSt:=
 bnd (bD ar s 1) fun r=>bnd (bD ar r.2 0) fun second=>bnd (bD ar second.2 second.1) fun first=>
  .ok (ez first.2 (if second.1=0 then first.1 else second.1))
def fx(ar:Nat)(ai:List Nat)(s:LSt)(st:aX):Except Er LSt:=
 match ai[st.idx.headD 0]? with
 |none=>.error (2,0)
 |some t=>
  if st.aa.au=15 then bnd (bD ar s t) fun r=>.ok r.2
  else if st.aa.au=16 then bnd (bD ar s t) fun r=>.ok (ez r.2 t)
  else .ok (ez s t)
def plainTakes(ar:Nat)(of:Nat):LSt->Nat->Except Er LSt
 |s,0=>.ok s
 |s,k+1=>bnd (bD ar s of) fun r=>plainTakes ar of r.2 k
def fU(ar:Nat)(s:LSt)(k:K5):Except Er LSt:=
 bnd (plainTakes ar k.of s k.aj) fun s1=>.ok (if k.ak≠0 then ez s1 k.ak else s1)
def dI(m:bf)(ai:List Nat)(s:LSt)(what:Nat):Nat:=
 if what=1 then m.sigs.length else if what=2 then m.funs.length else if what=3 then ai.length else s.ae.length
def iS(ar:Nat)(m:bf)(ai:List Nat)(s:LSt)(st:aX):Except Er Unit:=
 if st.idx.all fun i=>i<dI m ai s st.aa.ab then .ok () else .error (4,ar)
def ci(s:LSt)(st:aX):LSt:=
 {s with ay:=s.ay++[{
   aa:=st.aa
   index:=if st.aa.ab=2\/st.aa.ab=3 then st.idx.headD 0 else 0
   num:=st.num
   ah:=if st.aa.ab=4\/st.aa.ab=5 then st.idx.map fun i=>((bT s i).map (·.target)).getD 0 else []}]}
def doS(ar:Nat)(m:bf)(ai:List Nat)(s:LSt)(st:aX):Except Er LSt:=
 let n:=st.aa.au
 if n=2\/n=3\/n=4 then de ar m.sigs s st
 else if n=5 then gU ar s
 else if n=6 then lq ar s
 else if n=0\/n=7\/n=8\/n=9\/n=10 then eI ar s st
 else if n=11 then mi ar m s (st.idx.headD 0)
 else if n=12 then bnd (bD ar s 0) fun r=>.ok r.2
 else if n=13 then jk ar s
 else if n=14\/n=15\/n=16 then fx ar ai s st
 else fU ar s st.aa
def dr(m:bf)(ai:List Nat)(f:ck)(s:LSt)(p:Nat):Except Er (LSt×Nat):=
 if s.ae.length=0 then .error (5,f.ax+p) else
 match bJ f.code p with
 |none=>.error (3,f.ax+p)
 |some st=>bnd (iS (f.ax+p) m ai s st) fun _=>bnd (doS (f.ax+p) m ai (ci s st) st) fun s1=>.ok (s1,st.next)
def cS(m:bf)(ai:List Nat)(f:ck):Nat->LSt->Nat->Except Er LSt
 |0,s,_=>.ok s
 |k+1,s,p=>
  if p<f.code.length then bnd (dr m ai f s p) fun r=>cS m ai f k r.1 r.2
  else if 0<s.ae.length then .error (5,f.ax+f.code.length) else .ok s
structure bu where
 aj:List Nat
 ak:List Nat
 ai:Nat
 ay:List PSt
 ah:List (Nat×Nat×Nat)
def cz(m:bf)(f:ck):Except Er bu:=
 match m.sigs[f.sig]? with
 |none=>.error (2,0)
 |some sig=>
  bnd (cS m (sig.1++f.ai) f (f.code.length+1) (dg {af:=[],ae:=[],ay:=[],ah:=[]} 2 sig) 0) fun s=>
   .ok {aj:=sig.1,ak:=sig.2,ai:=sig.1.length+f.ai.length,ay:=s.ay,ah:=s.ah}
def bR(m:bf):List ck->Except Er (List bu)
 | []=>.ok []
 |f::l=>bnd (cz m f) fun x=>bnd (bR m l) fun r=>.ok (x::r)
def eU(bs:List UInt8):Except Er (List bu):=bnd (eD bs) fun m=>bR m m.funs
abbrev Ew(t:Nat):Prop:=t≠198/\t≠3/\t≠217/\t≠186/\t≠220
structure bc(az:Nat)(w w':World):Prop where
 below:Below az w w'
 others:KeepsOthers w w'
 boxes:∀g c t,Ew t->Blk w g c t->Blk w' g c t
theorem bc.refl(az:Nat)(w:World):bc az w w:=⟨Below.refl _ _,KeepsOthers.refl _,fun _ _ _ _ h=>h⟩
theorem bc.trans{az:Nat}{a b c:World}(h:bc az a b)(k:bc az b c):bc az a c:=⟨h.below.trans k.below,h.others.trans k.others,fun g c t ht hb=>k.boxes g c t ht (h.boxes g c t ht hb)⟩
theorem cY{B:Nat}{w w':World}{row:Option Nat}(h:w.grownBy w' row)(hB:B<=w.heap.size)(hr:∀r,row=some r->B<=r):Below B w w':=⟨h.os,h.tape,h.output,h.size,fun k hk=>h.block k (by omega) (fun e=>by have:=hr k e.symm;omega)⟩
theorem bc.grown{az:Nat}{w w':World}{row:Option Nat}(h:w.grownBy w' row)(hB:az<=w.heap.size)(hr:∀r,row=some r->az<=r/\∃c t,Blk w r c t/\¬Ew t):bc az w w':=
 ⟨cY h hB fun r e=>(hr r e).1,KeepsOthers.of_grownBy h (fun j o e ho=>by
  obtain⟨_,c,t,hb,_⟩:=hr j e
  rw[hb]at ho;cases ho;rfl),fun g c t ht hb=>hb.grown h (fun e=>by
  obtain⟨_,c',t',mn,hn⟩:=hr g e.symm
  have h2:=hb.symm.trans mn
  cases h2;exact hn ht)⟩
theorem bc.none{az:Nat}{w w':World}(h:w.grownBy w' none)(hB:az<=w.heap.size):bc az w w':=bc.grown h hB (fun r e=>by cases e)
def bO(az:Nat)(w:World)(v:Value)(xs:List Nat):Prop:=
 ∃g cap c,v=.slice (some ⟨g,0,none⟩) xs.length cap/\g<az/\Blk w g c 3/\∀i (h:i<xs.length),c[i]?=some (.int .i64 xs[i])
theorem bO.kept{az:Nat}{w w':World}{v:Value}{xs:List Nat}(h:bO az w v xs)(k:Below az w w'):bO az w' v xs:=by obtain⟨g,cap,c,e,hg,hb,hc⟩:=h;exact⟨g,cap,c,e,hg,(k.block g hg).trans hb,hc⟩
theorem bO.isSlice{az:Nat}{w:World}{v:Value}{xs:List Nat}(h:bO az w v xs):∃a n c,v=.slice a n c:=by obtain⟨g,cap,c,rfl,_⟩:=h;exact⟨_,_,_,rfl⟩
def rE(f:PFr)(vt vg:Value)(b:Nat):List Value:=[.int .i64 f.au,vt,vg,.int .i64 f.am,.bool f.dead,.int .i64 f.ao,.pointer (some ⟨b,0,none⟩)]
def iT(az:Nat)(w:World)(tb:List Nat)(fs:List PFr)(cs:List Value):Prop:=
 ∀i (h:i<fs.length),∃vt vg b,(∀j,j<7->cs[i*7+j]?=(rE fs[i] vt vg b)[j]?)/\tb[fs[i].target]?=some b/\bO az w vt fs[i].aj/\bO az w vg fs[i].ak
def jC(az:Nat)(w:World)(tb:List Nat)(v:Value)(ts:List Nat):Prop:=
 (v=.slice none 0 0/\ts=[])\/∃g cap c,v=.slice (some ⟨g,0,none⟩) ts.length cap/\az<=g/\Blk w g c 215/\∀i (h:i<ts.length),∃b,tb[ts[i]]?=some b/\c[i]?=some (.pointer (some ⟨b,0,none⟩))
def wV(st:PSt)(v:Value):List Value:=[.int .i64 st.aa.au,.int .i64 st.aa.ab,.int .i64 st.aa.aj,.int .i64 st.aa.of,.int .i64 st.aa.ak,.int .i64 st.index,.int .i64 st.num,v]
def gV(az:Nat)(w:World)(tb:List Nat)(ss:List PSt)(cs:List Value):Prop:=
 ∀i (h:i<ss.length),∃v,(∀j,j<8->cs[i*8+j]?=(wV ss[i] v)[j]?)/\jC az w tb v ss[i].ah
def oj(az:Nat)(w:World)(tb:List Nat)(ts:List (Nat×Nat×Nat)):Prop:=
 tb.length=ts.length/\tb.Nodup/\∀i (h:i<ts.length),∃b,tb[i]?=some b/\az<=b/\Blk w b #[.int .i64 ts[i].1,.int .i64 ts[i].2.1,.int .i64 ts[i].2.2] 220
structure LR(az l:Nat)(vm vloc:Value)(tb:List Nat)(ar:Nat)(vs vf vp:Value)(w:World)(s:LSt):Prop where
 blk:Blk w l #[vm,vloc,vs,vf,vp,.int .i64 ar] 198
 low:az<=l
 stk:w.ownsRow az 3 1 vs s.af.length (s.af.map fun t:Nat=>.int .i64 (t:Int))
 frm:∃cs,w.ownsRow az 217 7 vf s.ae.length cs/\iT az w tb s.ae cs
 stp:∃cs,w.ownsRow az 186 8 vp s.ay.length cs/\gV az w tb s.ay cs
 tgt:oj az w tb s.ah
 ns:s.af.length<=100000
 nf:s.ae.length<=20
 np:s.ay.length<=1000
def iQ(az l:Nat)(vm vloc:Value)(tb:List Nat)(ar:Nat)(w:World)(s:LSt):Prop:=∃vs vf vp,LR az l vm vloc tb ar vs vf vp w s
def LRs(az l:Nat)(vm vloc:Value)(tb:List Nat)(ar:Nat)(vf vp:Value)(w:World)(s:LSt):Prop:=∃vs,LR az l vm vloc tb ar vs vf vp w s
theorem fX{w:World}{az e size n g t:Nat}{v:Value}{xs:List Value}{c:Array Value}(h:w.ownsRow az e size v n xs)(b:Blk w g c t)(ec:t≠e):v.ownBlock=none\/v.ownBlock≠some g:=by
 rcases h.2 with⟨rfl,_⟩|⟨g',cap,cur,rfl,_,hg,_⟩
 ·exact .inl rfl
 refine .inr ?_;intro e';simp[Value.ownBlock]at e';subst e';have b':=hg.symm.trans b;cases b';exact ec rfl
theorem kH{w:World}{az e size n k g cap:Nat}{xs:List Value}(h:w.ownsRow az e size (.slice (some ⟨g,0,none⟩) n cap) n xs)(hk:k<=n):w.ownsRow az e size (.slice (some ⟨g,0,none⟩) k cap) k (xs.take (k*size)):=by
 obtain⟨h1,h2⟩:=h;refine⟨by rw[ajq,h1];exact Nat.min_eq_left (Nat.mul_le_mul_right _ hk),?_⟩;rcases h2 with⟨h2,_⟩|⟨g',cap',cur,h2,hb,hg,hn,hm,hs,ht⟩
 ·cases h2
 cases h2;refine .inr ⟨g,cap,cur,rfl,hb,hg,by omega,hm,hs,?_⟩;rw[<-ht,List.take_take,Nat.min_eq_left (Nat.mul_le_mul_right _ hk)]
theorem bK{w:World}{az e size n g cap j:Nat}{xs:List Value}(h:w.ownsRow az e size (.slice (some ⟨g,0,none⟩) n cap) n xs)(hj:j<n*size):w.cell? ⟨g,j,none⟩=xs[j]?/\w.frozen? ⟨g,j,none⟩=false:=by
 obtain⟨h1,h2⟩:=h;rcases h2 with⟨h2,_⟩|⟨g',cap',cur,h2,hb,hg,hn,hm,hs,ht⟩
 ·cases h2
 cases h2;refine⟨?_,by simp[World.frozen?,hg]⟩;rw[cell_of_row w g j cur e (0,0) hg,<-ht,ajI hj];simp
theorem dF{w:World}{az e size n g cap:Nat}{xs:List Value}(h:w.ownsRow az e size (.slice (some ⟨g,0,none⟩) n cap) n xs):∃c,Blk w g c e/\az<=g/\n<=cap:=by
 rcases h.2 with⟨h2,_⟩|⟨g',cap',cur,h2,hb,hg,hn,hm,hs,ht⟩
 ·cases h2
 cases h2;exact⟨cur,hg,hb,hn⟩
theorem cu{w:World}{az e size n:Nat}{v:Value}{xs:List Value}(h:w.ownsRow az e size v n xs)(hn:0<n):∃g cap,v=.slice (some ⟨g,0,none⟩) n cap:=by
 rcases h.2 with⟨_,h2⟩|⟨g',cap',cur,h2,hb,hg,hn,hm,hs,ht⟩
 ·omega
 exact⟨g',cap',h2⟩
theorem aG{w:World}{az e size n:Nat}{v:Value}{xs:List Value}(h:w.ownsRow az e size v n xs):∃a cap,v=.slice a n cap/\n<=cap/\(a=none\/∃g,a=some ⟨g,0,none⟩):=by
 rcases h.2 with⟨h2,h3⟩|⟨g',cap',cur,h2,hb,hg,hn,hm,hs,ht⟩
 ·exact⟨none,0,by rw[h3];exact h2,by omega,.inl rfl⟩
 exact⟨_,cap',h2,hn,.inr ⟨g',rfl⟩⟩
theorem wW{w:World}{az e size n g cap j:Nat}{xs:List Value}(h:w.ownsRow az e size (.slice (some ⟨g,0,none⟩) n cap) n xs)(v:Value):(w.setCell ⟨g,j,none⟩ v).ownsRow az e size (.slice (some ⟨g,0,none⟩) n cap) n (xs.set j v):=by
 obtain⟨h1,h2⟩:=h;refine⟨by simp[h1],?_⟩;rcases h2 with⟨h2,_⟩|⟨g',cap',cur,h2,hb,hg,hn,hm,hs,ht⟩
 ·cases h2
 cases h2;refine .inr ⟨g,cap,cur.setIfInBounds j v,rfl,hb,Blk.set hg j v,hn,hm,by simp[hs],?_⟩;rw[Array.toList_setIfInBounds,List.take_set,ht]
theorem iT.kept{az:Nat}{w w':World}{tb:List Nat}{fs:List PFr}{cs:List Value}(h:iT az w tb fs cs)(k:Below az w w'):iT az w' tb fs cs:=fun i hi=>by obtain⟨vt,vg,b,h1,h2,h3,h4⟩:=h i hi;exact⟨vt,vg,b,h1,h2,h3.kept k,h4.kept k⟩
theorem jC.kept{az:Nat}{w w':World}{tb:List Nat}{v:Value}{ts:List Nat}(h:jC az w tb v ts)(k:∀g c,Blk w g c 215->Blk w' g c 215):jC az w' tb v ts:=by
 rcases h with h|⟨g,cap,c,h1,h2,h3,h4⟩
 ·exact .inl h
 exact .inr ⟨g,cap,c,h1,h2,k _ _ h3,h4⟩
theorem gV.kept{az:Nat}{w w':World}{tb:List Nat}{ss:List PSt}{cs:List Value}(h:gV az w tb ss cs)(k:∀g c,Blk w g c 215->Blk w' g c 215):gV az w' tb ss cs:=fun i hi=>by obtain⟨v,h1,h2⟩:=h i hi;exact⟨v,h1,h2.kept k⟩
theorem oj.kept{az:Nat}{w w':World}{tb:List Nat}{ts:List (Nat×Nat×Nat)}(h:oj az w tb ts)(k:∀g c,Blk w g c 220->Blk w' g c 220):oj az w' tb ts:=⟨h.1,h.2.1,fun i hi=>by obtain⟨b,h1,h2,h3⟩:=h.2.2 i hi;exact⟨b,h1,h2,k _ _ h3⟩⟩
theorem aF{w w':World}{g g' t t':Nat}{c c':Array Value}(hg:w.grownBy w' (some g'))(h':Blk w g' c' t')(h:Blk w g c t)(ec:t≠t'):Blk w' g c t:=h.grown hg (by intro e;cases e;have h2:=h.symm.trans h';cases h2;exact ec rfl)
theorem LR.kept{az l:Nat}{vm vloc:Value}{tb:List Nat}{ar:Nat}{vs vf vp:Value}{w w':World}{s:LSt}(h:LR az l vm vloc tb ar vs vf vp w s)(k:w.grownBy w' none):LR az l vm vloc tb ar vs vf vp w' s:=by
 have hB:az<=w.heap.size:=Nat.le_of_lt (ajH h.low h.blk.lt);have kB:Below az w w':=(bc.none k hB).below;have kk:∀t g c,Blk w g c t->Blk w' g c t:=fun t g c hb=>hb.grown k (by simp);obtain⟨cf,ie,hZ⟩:=h.frm;obtain⟨cp,ir,qj⟩:=h.stp;have nn:∀v:Value,v.ownBlock=none\/v.ownBlock≠none:=fun v=>by cases v.ownBlock <;> simp
 exact⟨kk _ _ _ h.blk,h.low,h.stk.kept k (nn _),⟨cf,ie.kept k (nn _),hZ.kept kB⟩,⟨cp,ir.kept k (nn _),qj.kept (kk _)⟩,h.tgt.kept (kk _),h.ns,h.nf,h.np⟩
theorem LR.base_le{az l:Nat}{vm vloc:Value}{tb:List Nat}{ar:Nat}{vs vf vp:Value}{w:World}{s:LSt}(h:LR az l vm vloc tb ar vs vf vp w s):az<=w.heap.size:=Nat.le_of_lt (ajH h.low h.blk.lt)
section
variable {az l:Nat}{vm vloc:Value}{tb:List Nat}{ar:Nat}{vs vf vp:Value}{w:World}{s:LSt}
theorem jR(h:LR az l vm vloc tb ar vs vf vp w s):Calls prog 128 #[.pointer (some ⟨l,0,none⟩)] w fun e w'=>e=.returned (.int .i64 s.ay.length)/\w'=w:=by obtain⟨cp,ir,_⟩:=h.stp;obtain⟨a,cap,rfl,_⟩:=aG ir;have c4:=h.blk.cell 4;simp at c4;go_enter func128,ntmps128;go_wp2;go_ret;exact⟨rfl,rfl⟩
theorem ed(h:LR az l vm vloc tb ar vs vf vp w s)(e0:Nat):Calls prog 100 #[.pointer (some ⟨l,0,none⟩),.int .i64 e0] w fun e w'=>e=ep (e0,ar)/\w'=w:=by have c5:=h.blk.cell 5;simp at c5;go_enter func100,ntmps100;go_wp2;exact⟨rfl,rfl,rfl⟩
theorem dV{B:Nat}{w w':World}{row:Option Nat}(h:w.grownBy w' row)(hB:B<=w.heap.size)(hr:∀r,row=some r->B<=r):Below B w w':=⟨h.os,h.tape,h.output,h.size,fun k hk=>h.block k (by omega) (fun e=>by have:=hr k e.symm;omega)⟩
def pr(az:Nat)(w:World)(tb:List Nat)(v:Value)(f:PFr):Prop:=
 ∃at1 nt1 ct1 at2 nt2 ct2 b,v=.agg #[.int .i64 f.au,.slice at1 nt1 ct1,.slice at2 nt2 ct2,.int .i64 f.am,.bool f.dead,.int .i64 f.ao,.pointer (some ⟨b,0,none⟩)]/\tb[f.target]?=some b /\
  bO az w (.slice at1 nt1 ct1) f.aj/\bO az w (.slice at2 nt2 ct2) f.ak
theorem lu(h:LR az l vm vloc tb ar vs vf vp w s){i:Nat}(hi:i<s.ae.length):Calls prog 133 #[.pointer (some ⟨l,0,none⟩),.int .i64 i] w fun e w'=>∃v,e=.returned v/\w.grownBy w' none/\pr az w' tb v (s.ae[s.ae.length-1-i]'(by omega)):=by
 obtain⟨cf,ie,hZ⟩:=h.frm;obtain⟨g,cap,rfl⟩:=cu ie (by omega);have c3:=h.blk.cell 3;simp at c3;obtain⟨k,hk⟩:∃k,k=s.ae.length-1-i:=⟨_,rfl⟩;obtain⟨vt,vg,b,he,hb,ht,uq⟩:=hZ k (by omega);obtain⟨at1,nt1,ct1,rfl⟩:=ht.isSlice;obtain⟨at2,nt2,ct2,rfl⟩:=uq.isSlice;have cells:∀j,j<7->w.cell? ⟨g,k*7+j,none⟩=(rE s.ae[k] (.slice at1 nt1 ct1) (.slice at2 nt2 ct2) b)[j]?:=fun j hj=>by rw[(bK ie (by omega)).1,he j hj]
 have x0:=cells 0 (by omega);have x1:=cells 1 (by omega);have x2:=cells 2 (by omega);have x3:=cells 3 (by omega);have x4:=cells 4 (by omega);have x5:=cells 5 (by omega);have x6:=cells 6 (by omega);simp[rE]at x0 x1 x2 x3 x4 x5 x6;have hn:=h.nf;have e1:(s.ae.length:Int)-1-(i:Int)=(k:Int):=by omega
 have e2:(i:Int)<=20:=by omega
 have e3:(s.ae.length:Int)<=20:=by omega
 have jl:k<s.ae.length:=by omega
 have iB:g<w.heap.size:=by obtain⟨c,hc,_⟩:=dF ie;exact hc.lt
 have ol:l<w.heap.size:=h.blk.lt;clear cells he ie hZ;subst hk;go_enter func133,ntmps133;go_wp2;go_region
 go_wp2;have bU:w.grownBy (w.alloc (.cells #[.int .i64 (s.ae[s.ae.length-1-i]).au,.slice at1 nt1 ct1,.slice at2 nt2 ct2,.int .i64 (s.ae[s.ae.length-1-i]).am,.bool (s.ae[s.ae.length-1-i]).dead,.int .i64 (s.ae[s.ae.length-1-i]).ao,.pointer (some ⟨b,0,none⟩)] 217)).drew none:=aE (aC _ _ _);have hW:=(bc.none bU h.base_le).below;exact bodyPost_ret (v:=.agg #[.int .i64 (s.ae[s.ae.length-1-i]).au,.slice at1 nt1 ct1,.slice at2 nt2 ct2,.int .i64 (s.ae[s.ae.length-1-i]).am,.bool (s.ae[s.ae.length-1-i]).dead,.int .i64 (s.ae[s.ae.length-1-i]).ao,.pointer (some ⟨b,0,none⟩)])
  (by simp[results,results133,go_sem]) rfl ⟨_,rfl,bU,at1,nt1,ct1,at2,nt2,ct2,b,rfl,hb,ht.kept hW,uq.kept hW⟩
theorem pr.kept{w':World}{v:Value}{f:PFr}(h:pr az w tb v f)(k:Below az w w'):pr az w' tb v f:=by obtain⟨at1,nt1,ct1,at2,nt2,ct2,b,h1,h2,h3,h4⟩:=h;exact⟨at1,nt1,ct1,at2,nt2,ct2,b,h1,h2,h3.kept k,h4.kept k⟩
def mx(w:World)(b:Nat)(v0 v1 v2 v3 v4 v5 v6:Value):World:=
 (((((((w.setCell ⟨b,0,none⟩ v0).setCell ⟨b,1,none⟩ v1).setCell ⟨b,2,none⟩ v2).setCell ⟨b,3,none⟩ v3).setCell ⟨b,4,none⟩ v4).setCell ⟨b,5,none⟩ v5).setCell ⟨b,6,none⟩ v6)
theorem lR(w:World)(b:Nat)(v0 v1 v2 v3 v4 v5 v6:Value):w.grownBy (mx w b v0 v1 v2 v3 v4 v5 v6) (some b):=aB (aB (aB (aB (aB (aB (aD _ _ _ _) (aD _ _ _ _)) (aD _ _ _ _)) (aD _ _ _ _)) (aD _ _ _ _)) (aD _ _ _ _)) (aD _ _ _ _)
theorem pt{w:World}{b t:Nat}{u0 u1 u2 u3 u4 u5 u6:Value}(h:Blk w b #[u0,u1,u2,u3,u4,u5,u6] t)(v0 v1 v2 v3 v4 v5 v6:Value):Blk (mx w b v0 v1 v2 v3 v4 v5 v6) b #[v0,v1,v2,v3,v4,v5,v6] t:=by have:=((((((h.set 0 v0).set 1 v1).set 2 v2).set 3 v3).set 4 v4).set 5 v5).set 6 v6;simp at this;exact this
theorem kW(h:LR az l vm vloc tb ar vs vf vp w s)(hi:0<s.ae.length):Calls prog 162 #[.pointer (some ⟨l,0,none⟩)] w fun e w'=>∃v,e=.returned v/\w.grownBy w' none/\pr az w' tb v (s.ae[s.ae.length-1]'(by omega)):=by
 go_enter func162,ntmps162;go_wp2_with fail;refine(lu (i:=0) (h.kept (aC _ _ _)) hi).mono ?_;rintro e w1 ⟨v,rfl,hg,at1,nt1,ct1,at2,nt2,ct2,b,rfl,hb,h3,h4⟩;simp only[Nat.sub_zero]at hb h3 h4 ⊢;have kI:=(Blk.new w #[.int .i64 0,.slice none 0 0,.slice none 0 0,.int .i64 0,.bool false,.int .i64 0,.pointer none] 217).grown hg (by simp);have k0:=kI.cell 0;have k1:=kI.cell 1;have k2:=kI.cell 2;have k3:=kI.cell 3;have k4:=kI.cell 4;have k5:=kI.cell 5;have k6:=kI.cell 6;have f0:=kI.frozen 0;have f1:=kI.frozen 1;have f2:=kI.frozen 2;have f3:=kI.frozen 3;have f4:=kI.frozen 4;have f5:=kI.frozen 5;have f6:=kI.frozen 6;simp at k0 k1 k2 k3 k4 k5 k6;obtain⟨f,hf⟩:∃f,f=s.ae[s.ae.length-1]:=⟨_,rfl⟩;simp only[<-hf]at hb h3 h4 ⊢;have HF:Hid _:=hf;clear hf;go_wp2_with fail;show bodyPost _ _ _ _ _ (mx w1 w.heap.size _ _ _ _ _ _ _);have g7:=lR w1 w.heap.size (.int .i64 f.au) (.slice at1 nt1 ct1) (.slice at2 nt2 ct2) (.int .i64 f.am) (.bool f.dead) (.int .i64 f.ao) (.pointer (some ⟨b,0,none⟩));have b7:=pt kI (.int .i64 f.au) (.slice at1 nt1 ct1) (.slice at2 nt2 ct2) (.int .i64 f.am) (.bool f.dead) (.int .i64 f.ao) (.pointer (some ⟨b,0,none⟩));have q0:=b7.cell 0;have q1:=b7.cell 1;have q2:=b7.cell 2;have q3:=b7.cell 3;have q4:=b7.cell 4;have q5:=b7.cell 5;have q6:=b7.cell 6;simp at q0 q1 q2 q3 q4 q5 q6;have oa:w.grownBy (mx w1 w.heap.size (.int .i64 f.au) (.slice at1 nt1 ct1) (.slice at2 nt2 ct2) (.int .i64 f.am) (.bool f.dead) (.int .i64 f.ao) (.pointer (some ⟨b,0,none⟩))) none:=
  aO (aB (aC _ _ _) hg) (nLr _) g7
 have hW:Below az w1 _:=dV g7 (by have:=hg.size;have:=h.base_le;simp at *;omega) (by intro r e;cases e;exact h.base_le);exact bodyPost_ret (v:=.agg #[.int .i64 f.au,.slice at1 nt1 ct1,.slice at2 nt2 ct2,.int .i64 f.am,.bool f.dead,.int .i64 f.ao,.pointer (some ⟨b,0,none⟩)])
  (by simp[results,results162,go_sem,q0,q1,q2,q3,q4,q5,q6]) rfl ⟨_,rfl,oa,by rw[<-HF.out];exact⟨at1,nt1,ct1,at2,nt2,ct2,b,rfl,hb,h3.kept hW,h4.kept hW⟩⟩
theorem qk{v:Value}{f:PFr}(hv:pr az w tb v f)(hB:az<=w.heap.size):Calls prog 129 #[v] w fun e w'=>∃x,e=.returned x/\w.grownBy w' none/\bO az w' x (aZ f):=by
 obtain⟨at1,nt1,ct1,at2,nt2,ct2,b,rfl,hb,h3,h4⟩:=hv;have bU:∀o,w.grownBy (w.alloc o) none:=fun o=>aC _ _ _;by_cases hn:f.au=3
 ·have e1:(f.au:Int)=3:=by omega
  go_enter func129,ntmps129;go_wp2;go_ret;exact⟨_,rfl,bU _,by simp only[aZ,hn,if_true];exact h3.kept (bc.none (bU _) hB).below⟩
 have e1:((f.au:Int)==3)=false:=by simp;omega
 go_enter func129,ntmps129;go_wp2;go_ret;exact⟨_,rfl,bU _,by simp only[aZ,hn,if_false];exact h4.kept (bc.none (bU _) hB).below⟩
end
section
variable {az l:Nat}{vm vloc:Value}{tb:List Nat}{ar:Nat}{vs vf vp:Value}{w:World}{s:LSt}
theorem LR.setStack(h:LR az l vm vloc tb ar vs vf vp w s){vs':Value}{st:List Nat}(cT:w.ownsRow az 3 1 vs' st.length (st.map fun t:Nat=>.int .i64 (t:Int)))(hn:st.length<=100000):LR az l vm vloc tb ar vs' vf vp (w.setCell ⟨l,2,none⟩ vs') {s with af:=st}:=by
 have hg:=aD w l 2 vs';have hB:=h.base_le;have kB:Below az w (w.setCell ⟨l,2,none⟩ vs'):=dV hg hB (by intro r e;cases e;exact h.low);obtain⟨cf,ie,hZ⟩:=h.frm;obtain⟨cp,ir,qj⟩:=h.stp;have hb:=h.blk.set 2 vs';simp at hb;exact⟨hb,h.low,cT.kept hg (fX cT h.blk (by decide)),⟨cf,ie.kept hg (fX ie h.blk (by decide)),hZ.kept kB⟩,⟨cp,ir.kept hg (fX ir h.blk (by decide)),qj.kept fun g c hb=>aF hg h.blk hb (by decide)⟩,
  h.tgt.kept fun g c hb=>aF hg h.blk hb (by decide),hn,h.nf,h.np⟩
theorem LR.went{w':World}(h:LR az l vm vloc tb ar vs vf vp w s)(k:w.grownBy w' (some l)):bc az w w':=bc.grown k h.base_le (fun r e=>by cases e;exact⟨h.low,_,_,h.blk,by decide⟩)
theorem LR.went_set(h:LR az l vm vloc tb ar vs vf vp w s)(i:Nat)(v:Value):bc az w (w.setCell ⟨l,i,none⟩ v):=bc.grown (aD w l i v) h.base_le (fun r e=>by cases e;exact⟨h.low,_,_,h.blk,by decide⟩)
theorem dJ(h:LR az l vm vloc tb ar vs vf vp w s)(hi:0<s.ae.length)(asked:Nat)(ha:asked<=2):Calls prog 139 #[.pointer (some ⟨l,0,none⟩),.int .i64 asked] w fun e w'=>w.grownBy w' (some l) /\ fh (bD ar s asked) (fun r e w'=>e=.returned (.int .i64 r.1)/\LRs az l vm vloc tb ar vf vp w' r.2) e w':=by
 have pu:s.ae.getLast?=some (s.ae[s.ae.length-1]):=by rw[ajk,gEg (by omega)]
 have Zd:(asked:Int)<=2:=by omega
 have yr:=h.base_le;go_enter func139,ntmps139;go_wp2_with fail;refine(kW h hi).mono ?_;rintro e w1 ⟨v,rfl,hg,at1,nt1,ct1,at2,nt2,ct2,b,rfl,hb,h3,h4⟩;have h1:=h.kept hg;obtain⟨f,hf⟩:∃f,f=s.ae[s.ae.length-1]:=⟨_,rfl⟩;rw[<-hf]at pu;simp only[<-hf]at hb h3 h4 ⊢;clear hf;clear h;obtain⟨sa,cap,rfl,kX,ew⟩:=aG h1.stk;have c2:=h1.blk.cell 2;simp at c2;have KS:=h1.ns;have ol:=h1.blk.lt;have HL:Hid _:=pu;have W1:w.grownBy w1 (some l):=ic hg _;clear pu;have dW:∀o,w1.grownBy (w1.alloc o) none:=fun o=>aC _ _ _;by_cases jM:s.af.length<=f.am
 ·have e1:(s.af.length:Int)-1<(f.am:Int):=by omega
  by_cases hd:f.dead=true
  ·have hr:bD ar s asked=.ok (0,s):=by simp only[bD,HL.out,ajd jM,hd,if_true]
   go_wp2_with fail;go_ret;exact⟨aB W1 (aC _ _ _),aY hr ⟨rfl,_,h1.kept (dW _)⟩⟩
  have hr:bD ar s asked=.error (7,ar):=by simp only[bD,HL.out,ajd jM,hd];rfl
  have Ms:f.dead=false:=by simpa using hd
  go_wp2_with (go_at_call 100;refine(ed (h1.kept (dW _)) 7).mono ?_;rintro e w2 ⟨rfl,rfl⟩)
  exact⟨rfl,aB W1 (aC _ _ _),aK hr rfl⟩
 have e1:(f.am:Int)<=(s.af.length:Int)-1:=by omega
 have yk:0<s.af.length:=by omega
 obtain⟨g,rfl⟩:∃g,sa=some ⟨g,0,none⟩:=by obtain⟨g,c,e⟩:=cu h1.stk yk;cases e;exact⟨g,rfl⟩
 have iB:g<w1.heap.size:=by obtain⟨c,hc,_⟩:=dF h1.stk;exact hc.lt
 have bC:=(bK h1.stk (j:=s.af.length-1) (by omega)).1;have wY:s.af.getLast?=some (s.af[s.af.length-1]):=by rw[ajk,gEg (by omega)]
 have rO:s.af.dropLast.length=s.af.length-1:=by simp
 simp only[List.getElem?_map,gEg (show s.af.length-1<s.af.length by omega),Option.map_some]at bC;obtain⟨got,hgt⟩:∃got,got=s.af[s.af.length-1]:=⟨_,rfl⟩;rw[<-hgt]at bC wY;clear hgt;have hT:Hid (bD ar s asked=if got≠asked/\got≠0/\asked≠0 then .error (7,ar) else .ok (got,{s with af:=s.af.dropLast})):=by show _=_;simp only[bD,HL.out,ajc jM,wY]
 have e2:(s.af.length:Int)-1=((s.af.length-1:Nat):Int):=by omega
 have e3:((s.af.length-1:Nat):Int)<=(cap:Int):=by omega
 have hcut:w1.ownsRow az 3 1 (.slice (some ⟨g,0,none⟩) (s.af.length-1) cap) s.af.dropLast.length (s.af.dropLast.map fun t:Nat=>.int .i64 (t:Int)):=by have:=kH h1.stk (k:=s.af.length-1) (by omega);rw[rO];simpa [List.map_dropLast,List.dropLast_eq_take] using this
 have Ex:s.af.dropLast.length<=100000:=by omega
 have S9:=h1.setStack hcut Ex;have d8:∀o,LR az l vm vloc tb ar (.slice (some ⟨g,0,none⟩) (s.af.length-1) cap) vf vp ((w1.setCell ⟨l,2,none⟩ (.slice (some ⟨g,0,none⟩) (s.af.length-1) cap)).alloc o) {s with af:=s.af.dropLast}:=fun o=>S9.kept (aC _ _ _);have hW:∀o,w.grownBy ((w1.setCell ⟨l,2,none⟩ (.slice (some ⟨g,0,none⟩) (s.af.length-1) cap)).alloc o) (some l):=fun o=>aB (aB W1 (aD _ _ _ _)) (aC _ _ _);have f2:=h1.blk.frozen 2;have n1:¬s.af.length-1<f.am:=by omega
 clear wY hcut rO Ex;by_cases hc:got≠asked/\got≠0/\asked≠0
 ·have b1:((got:Int) != (asked:Int))=true:=by simp;omega
  have b2:((got:Int) != 0)=true:=by simp;omega
  have b3:((asked:Int) != 0)=true:=by simp;omega
  have n2:¬got=asked:=hc.1;have n3:¬got=0:=hc.2.1;have n4:¬asked=0:=hc.2.2;have HC:Hid _:=hc;clear hc;go_wp2_with (go_at_call 100;refine(ed (d8 _) 7).mono ?_;rintro e w2 ⟨rfl,rfl⟩)
  exact⟨rfl,hW _,aK (hT.out.trans (ajd HC.out)) rfl⟩
 have Pg:=hT.out.trans (ajc hc);have HT:Hid _:=Pg;have HC:Hid _:=hc;clear Pg hT hc;by_cases n2:got=asked
 ·subst n2;go_wp2_with fail;go_ret;exact⟨hW _,aY HT.out ⟨rfl,_,d8 _⟩⟩
 have b1:((got:Int) != (asked:Int))=true:=by simp;omega
 by_cases n3:got=0
 ·subst n3;go_wp2_with fail;go_ret;exact⟨hW _,aY HT.out ⟨rfl,_,d8 _⟩⟩
 have b2:((got:Int) != 0)=true:=by simp;omega
 have n4:asked=0:=Classical.byContradiction fun n4=>HC.out ⟨n2,n3,n4⟩;subst n4;go_wp2_with fail;go_ret;exact⟨hW _,aY HT.out ⟨rfl,_,d8 _⟩⟩
end
abbrev FP:Fence:=Fence.list [100,133,139,160,162,176,186] none
section
variable {n:Nat}{az l:Nat}{vm vloc:Value}{tb:List Nat}{ar:Nat}{vs vf vp:Value}{w:World}{s:LSt}
theorem sB(h:LR az l vm vloc tb ar vs vf vp w s)(e0:Nat):CallsIn FP n prog 100 #[.pointer (some ⟨l,0,none⟩),.int .i64 e0] w fun e w'=>e=ep (e0,ar)/\w'=w:=by
 have c5:=h.blk.cell 5;simp at c5
 gi_enter func100,ntmps100
 gi_wp2
 exact⟨rfl,rfl,rfl⟩
theorem EB(h:LR az l vm vloc tb ar vs vf vp w s){i:Nat}(hi:i<s.ae.length):CallsIn FP n prog 133 #[.pointer (some ⟨l,0,none⟩),.int .i64 i] w fun e w'=>∃v,e=.returned v/\w.grownBy w' none/\pr az w' tb v (s.ae[s.ae.length-1-i]'(by omega)):=by
 obtain⟨cf,ie,hZ⟩:=h.frm;obtain⟨g,cap,rfl⟩:=cu ie (by omega);have c3:=h.blk.cell 3;simp at c3;obtain⟨k,hk⟩:∃k,k=s.ae.length-1-i:=⟨_,rfl⟩;obtain⟨vt,vg,b,he,hb,ht,uq⟩:=hZ k (by omega);obtain⟨at1,nt1,ct1,rfl⟩:=ht.isSlice;obtain⟨at2,nt2,ct2,rfl⟩:=uq.isSlice;have cells:∀j,j<7->w.cell? ⟨g,k*7+j,none⟩=(rE s.ae[k] (.slice at1 nt1 ct1) (.slice at2 nt2 ct2) b)[j]?:=fun j hj=>by rw[(bK ie (by omega)).1,he j hj]
 have x0:=cells 0 (by omega);have x1:=cells 1 (by omega);have x2:=cells 2 (by omega);have x3:=cells 3 (by omega);have x4:=cells 4 (by omega);have x5:=cells 5 (by omega);have x6:=cells 6 (by omega);simp[rE]at x0 x1 x2 x3 x4 x5 x6;have hn:=h.nf;have e1:(s.ae.length:Int)-1-(i:Int)=(k:Int):=by omega
 have e2:(i:Int)<=20:=by omega
 have e3:(s.ae.length:Int)<=20:=by omega
 have jl:k<s.ae.length:=by omega
 have iB:g<w.heap.size:=by obtain⟨c,hc,_⟩:=dF ie;exact hc.lt
 have ol:l<w.heap.size:=h.blk.lt;clear cells he ie hZ;subst hk
 gi_enter func133,ntmps133
 gi_wp2
 gi_region
 gi_wp2
 have bU:w.grownBy (w.alloc (.cells #[.int .i64 (s.ae[s.ae.length-1-i]).au,.slice at1 nt1 ct1,.slice at2 nt2 ct2,.int .i64 (s.ae[s.ae.length-1-i]).am,.bool (s.ae[s.ae.length-1-i]).dead,.int .i64 (s.ae[s.ae.length-1-i]).ao,.pointer (some ⟨b,0,none⟩)] 217)).drew none:=aE (aC _ _ _);have hW:=(bc.none bU h.base_le).below;exact bodyPost_ret (v:=.agg #[.int .i64 (s.ae[s.ae.length-1-i]).au,.slice at1 nt1 ct1,.slice at2 nt2 ct2,.int .i64 (s.ae[s.ae.length-1-i]).am,.bool (s.ae[s.ae.length-1-i]).dead,.int .i64 (s.ae[s.ae.length-1-i]).ao,.pointer (some ⟨b,0,none⟩)])
  (by simp[results,results133,go_sem]) rfl ⟨_,rfl,bU,at1,nt1,ct1,at2,nt2,ct2,b,rfl,hb,ht.kept hW,uq.kept hW⟩
theorem wZ(h:LR az l vm vloc tb ar vs vf vp w s)(hi:0<s.ae.length):CallsIn FP n prog 162 #[.pointer (some ⟨l,0,none⟩)] w fun e w'=>∃v,e=.returned v/\w.grownBy w' none/\pr az w' tb v (s.ae[s.ae.length-1]'(by omega)):=by
 gi_enter func162,ntmps162
 gi_wp2_with fail
 refine(EB (i:=0) (n:=_) (h.kept (aC _ _ _)) hi).mono ?_;rintro e w1 ⟨v,rfl,hg,at1,nt1,ct1,at2,nt2,ct2,b,rfl,hb,h3,h4⟩;simp only[Nat.sub_zero]at hb h3 h4 ⊢;have kI:=(Blk.new w #[.int .i64 0,.slice none 0 0,.slice none 0 0,.int .i64 0,.bool false,.int .i64 0,.pointer none] 217).grown hg (by simp);have k0:=kI.cell 0;have k1:=kI.cell 1;have k2:=kI.cell 2;have k3:=kI.cell 3;have k4:=kI.cell 4;have k5:=kI.cell 5;have k6:=kI.cell 6;have f0:=kI.frozen 0;have f1:=kI.frozen 1;have f2:=kI.frozen 2;have f3:=kI.frozen 3;have f4:=kI.frozen 4;have f5:=kI.frozen 5;have f6:=kI.frozen 6;simp at k0 k1 k2 k3 k4 k5 k6;obtain⟨f,hf⟩:∃f,f=s.ae[s.ae.length-1]:=⟨_,rfl⟩;simp only[<-hf]at hb h3 h4 ⊢;have HF:Hid _:=hf;clear hf
 gi_wp2_with fail
 show bodyPost _ _ _ _ _ (mx w1 w.heap.size _ _ _ _ _ _ _);have g7:=lR w1 w.heap.size (.int .i64 f.au) (.slice at1 nt1 ct1) (.slice at2 nt2 ct2) (.int .i64 f.am) (.bool f.dead) (.int .i64 f.ao) (.pointer (some ⟨b,0,none⟩));have b7:=pt kI (.int .i64 f.au) (.slice at1 nt1 ct1) (.slice at2 nt2 ct2) (.int .i64 f.am) (.bool f.dead) (.int .i64 f.ao) (.pointer (some ⟨b,0,none⟩));have q0:=b7.cell 0;have q1:=b7.cell 1;have q2:=b7.cell 2;have q3:=b7.cell 3;have q4:=b7.cell 4;have q5:=b7.cell 5;have q6:=b7.cell 6;simp at q0 q1 q2 q3 q4 q5 q6;have oa:w.grownBy (mx w1 w.heap.size (.int .i64 f.au) (.slice at1 nt1 ct1) (.slice at2 nt2 ct2) (.int .i64 f.am) (.bool f.dead) (.int .i64 f.ao) (.pointer (some ⟨b,0,none⟩))) none:=
  aO (aB (aC _ _ _) hg) (nLr _) g7
 have hW:Below az w1 _:=dV g7 (by have:=hg.size;have:=h.base_le;simp at *;omega) (by intro r e;cases e;exact h.base_le);exact bodyPost_ret (v:=.agg #[.int .i64 f.au,.slice at1 nt1 ct1,.slice at2 nt2 ct2,.int .i64 f.am,.bool f.dead,.int .i64 f.ao,.pointer (some ⟨b,0,none⟩)])
  (by simp[results,results162,go_sem,q0,q1,q2,q3,q4,q5,q6]) rfl ⟨_,rfl,oa,by rw[<-HF.out];exact⟨at1,nt1,ct1,at2,nt2,ct2,b,rfl,hb,h3.kept hW,h4.kept hW⟩⟩
theorem IS(h:LR az l vm vloc tb ar vs vf vp w s)(hi:0<s.ae.length)(asked:Nat)(ha:asked<=2):CallsIn FP n prog 139 #[.pointer (some ⟨l,0,none⟩),.int .i64 asked] w fun e w'=>w.grownBy w' (some l) /\ fh (bD ar s asked) (fun r e w'=>e=.returned (.int .i64 r.1)/\LRs az l vm vloc tb ar vf vp w' r.2) e w':=by
 have pu:s.ae.getLast?=some (s.ae[s.ae.length-1]):=by rw[ajk,gEg (by omega)]
 have Zd:(asked:Int)<=2:=by omega
 have yr:=h.base_le
 gi_enter func139,ntmps139
 gi_wp2_with fail
 refine(wZ h hi).mono ?_;rintro e w1 ⟨v,rfl,hg,at1,nt1,ct1,at2,nt2,ct2,b,rfl,hb,h3,h4⟩;have h1:=h.kept hg;obtain⟨f,hf⟩:∃f,f=s.ae[s.ae.length-1]:=⟨_,rfl⟩;rw[<-hf]at pu;simp only[<-hf]at hb h3 h4 ⊢;clear hf;clear h;obtain⟨sa,cap,rfl,kX,ew⟩:=aG h1.stk;have c2:=h1.blk.cell 2;simp at c2;have KS:=h1.ns;have ol:=h1.blk.lt;have HL:Hid _:=pu;have W1:w.grownBy w1 (some l):=ic hg _;clear pu;have dW:∀o,w1.grownBy (w1.alloc o) none:=fun o=>aC _ _ _;by_cases jM:s.af.length<=f.am
 ·have e1:(s.af.length:Int)-1<(f.am:Int):=by omega
  by_cases hd:f.dead=true
  ·have hr:bD ar s asked=.ok (0,s):=by simp only[bD,HL.out,ajd jM,hd,if_true]
   gi_wp2_with fail
   go_ret;exact⟨aB W1 (aC _ _ _),aY hr ⟨rfl,_,h1.kept (dW _)⟩⟩
  have hr:bD ar s asked=.error (7,ar):=by simp only[bD,HL.out,ajd jM,hd];rfl
  have Ms:f.dead=false:=by simpa using hd
  gi_wp2_with (gi_at_call 100;refine(sB (h1.kept (dW _)) 7).mono ?_;rintro e w2 ⟨rfl,rfl⟩)
  exact⟨rfl,aB W1 (aC _ _ _),aK hr rfl⟩
 have e1:(f.am:Int)<=(s.af.length:Int)-1:=by omega
 have yk:0<s.af.length:=by omega
 obtain⟨g,rfl⟩:∃g,sa=some ⟨g,0,none⟩:=by obtain⟨g,c,e⟩:=cu h1.stk yk;cases e;exact⟨g,rfl⟩
 have iB:g<w1.heap.size:=by obtain⟨c,hc,_⟩:=dF h1.stk;exact hc.lt
 have bC:=(bK h1.stk (j:=s.af.length-1) (by omega)).1;have wY:s.af.getLast?=some (s.af[s.af.length-1]):=by rw[ajk,gEg (by omega)]
 have rO:s.af.dropLast.length=s.af.length-1:=by simp
 simp only[List.getElem?_map,gEg (show s.af.length-1<s.af.length by omega),Option.map_some]at bC;obtain⟨got,hgt⟩:∃got,got=s.af[s.af.length-1]:=⟨_,rfl⟩;rw[<-hgt]at bC wY;clear hgt;have hT:Hid (bD ar s asked=if got≠asked/\got≠0/\asked≠0 then .error (7,ar) else .ok (got,{s with af:=s.af.dropLast})):=by show _=_;simp only[bD,HL.out,ajc jM,wY]
 have e2:(s.af.length:Int)-1=((s.af.length-1:Nat):Int):=by omega
 have e3:((s.af.length-1:Nat):Int)<=(cap:Int):=by omega
 have hcut:w1.ownsRow az 3 1 (.slice (some ⟨g,0,none⟩) (s.af.length-1) cap) s.af.dropLast.length (s.af.dropLast.map fun t:Nat=>.int .i64 (t:Int)):=by have:=kH h1.stk (k:=s.af.length-1) (by omega);rw[rO];simpa [List.map_dropLast,List.dropLast_eq_take] using this
 have Ex:s.af.dropLast.length<=100000:=by omega
 have S9:=h1.setStack hcut Ex;have d8:∀o,LR az l vm vloc tb ar (.slice (some ⟨g,0,none⟩) (s.af.length-1) cap) vf vp ((w1.setCell ⟨l,2,none⟩ (.slice (some ⟨g,0,none⟩) (s.af.length-1) cap)).alloc o) {s with af:=s.af.dropLast}:=fun o=>S9.kept (aC _ _ _);have hW:∀o,w.grownBy ((w1.setCell ⟨l,2,none⟩ (.slice (some ⟨g,0,none⟩) (s.af.length-1) cap)).alloc o) (some l):=fun o=>aB (aB W1 (aD _ _ _ _)) (aC _ _ _);have f2:=h1.blk.frozen 2;have n1:¬s.af.length-1<f.am:=by omega
 clear wY hcut rO Ex;by_cases hc:got≠asked/\got≠0/\asked≠0
 ·have b1:((got:Int) != (asked:Int))=true:=by simp;omega
  have b2:((got:Int) != 0)=true:=by simp;omega
  have b3:((asked:Int) != 0)=true:=by simp;omega
  have n2:¬got=asked:=hc.1;have n3:¬got=0:=hc.2.1;have n4:¬asked=0:=hc.2.2;have HC:Hid _:=hc;clear hc
  gi_wp2_with (gi_at_call 100;refine(sB (d8 _) 7).mono ?_;rintro e w2 ⟨rfl,rfl⟩)
  exact⟨rfl,hW _,aK (hT.out.trans (ajd HC.out)) rfl⟩
 have Pg:=hT.out.trans (ajc hc);have HT:Hid _:=Pg;have HC:Hid _:=hc;clear Pg hT hc;by_cases n2:got=asked
 ·subst n2
  gi_wp2_with fail
  go_ret;exact⟨hW _,aY HT.out ⟨rfl,_,d8 _⟩⟩
 have b1:((got:Int) != (asked:Int))=true:=by simp;omega
 by_cases n3:got=0
 ·subst n3
  gi_wp2_with fail
  go_ret;exact⟨hW _,aY HT.out ⟨rfl,_,d8 _⟩⟩
 have b2:((got:Int) != 0)=true:=by simp;omega
 have n4:asked=0:=Classical.byContradiction fun n4=>HC.out ⟨n2,n3,n4⟩;subst n4
 gi_wp2_with fail
 go_ret;exact⟨hW _,aY HT.out ⟨rfl,_,d8 _⟩⟩
end
section
open Go.RowKit Go.Shelf
attribute [local go_sem] Oper.semAt_some
theorem EC(n:Nat)(hn:1<=n)(l Bs g cap:Nat)(zs:List Nat)(hz:zs.length<=1000)(J:Nat->World->Prop)(Jp:List PanicEntry->World->Prop)(hJ:∀k W,J k W->W.cell? ⟨Bs,0,none⟩=some (.slice (some ⟨g,0,none⟩) zs.length cap)/\∀j (h:j<zs.length),W.cell? ⟨g,j,none⟩=some (.int .i64 zs[j]))(hY:∀k W (h:k<zs.length),J (k+1) W->YieldAt FP (n-1) prog l #[.int .i64 k,.int .i64 zs[k]] W fun e W'=> (e=.returned (.bool true)/\J k W')\/(∃ch,e=.panicked ch/\Jp ch W'))(W:World) (h0:J zs.length W):CallsIn FP n prog 186 #[.func (.yield l) #[] #[],.pointer (some ⟨Bs,0,none⟩)] W fun e W'=> (∃v,e=.returned v/\J 0 W')\/(∃ch,e=.panicked ch/\Jp ch W'):=by
 have IT:(zs.length:Int)<=1000:=by omega
 have IU:=(hJ _ _ h0).1;refine callsIn_of_wp func186 rfl (by simp) ?_ rfl;simp only[ntmps186,List.size_toArray,ajr,ajv,Nat.reduceAdd,Nat.reduceSub,Array.replicate_succ,Array.replicate_zero,List.push_toArray,List.append_toArray,List.nil_append,List.cons_append]
 gi_wp2
 gi_loopw [3] (fun i wr=>∃k:Nat,k<=zs.length/\i=.int .i64 ((k:Int)-1)/\J k wr) (fun i _=>(intOf i+1).toNat)
 case atStart=>exact⟨zs.length,nLr _,rfl,h0⟩
 case round=>
  obtain⟨k,hk,rfl,Te⟩:=hrel;obtain⟨hB,hC⟩:=hJ _ _ Te;cases k with
  |zero=>
   gi_wp2
   go_end0;exact .inl ⟨_,rfl,Te⟩
  |succ k=>
   have bM:k<zs.length:=by omega
   have hc:=hC k bM;obtain⟨fn,tmps,assign,body,hy,hR⟩:=hY k wr bM Te;have HC:Hid _:=hC;clear hC;have e1:((k+1:Nat):Int)-1=(k:Int):=by omega
   have e2:(k:Int)<=1000:=by omega
   gi_wp2
   refine hR.mono ?_;rintro e W3 (⟨rfl,Zi⟩|⟨ch,rfl,hp⟩)
   ·gi_wp2
    go_roundw
    case rel=>exact⟨k,by omega,by simp,Zi⟩
    case measure=>simp[intOf]
   gi_wp2
   exact⟨rfl,.inr ⟨ch,rfl,hp⟩⟩
theorem IV(n:Nat)(a:Option Addr)(len cap:Nat)(w:World):CallsIn FP n prog 176 #[.slice a len cap] w fun e w'=>e=.returned (.func (.func 186) #[] #[.pointer (some ⟨w.heap.size,0,none⟩)])/\w'=w.alloc (.cells #[.slice a len cap] 44):=by
 refine callsIn_of_wp func176 rfl (by simp) ?_ rfl;simp only[ntmps176,List.size_toArray,ajr,ajv,Nat.reduceAdd,Nat.reduceSub,Array.replicate_succ,Array.replicate_zero,List.push_toArray,List.append_toArray,List.nil_append,List.cons_append]
 gi_wp2
 go_ret;exact⟨rfl,rfl⟩
section
variable {az l:Nat}{vm vloc:Value}{tb:List Nat}{ar:Nat}{vs vf vp:Value}{w:World}{s:LSt}
theorem iC{t:Nat}{r:Nat×LSt}(h:bD ar s t=.ok r):r.2.ae=s.ae:=by
 unfold bD at h;split at h
 ·cases h
 split at h
 ·split at h
  ·cases h;rfl
  cases h
 split at h
 ·cases h
 split at h
 ·cases h
 cases h;rfl
theorem aJ{w w':World}{b e size n:Nat}{v:Value}{xs:List Value}(h:w.ownsRow b e size v n xs)(hk:∀g c,Blk w g c e->Blk w' g c e):w'.ownsRow b e size v n xs:=by
 obtain⟨h1,h2⟩:=h;refine⟨h1,?_⟩;rcases h2 with h2|⟨g,cap,cur,h2,hb,hg,r⟩
 ·exact .inl h2
 exact .inr ⟨g,cap,cur,h2,hb,hk _ _ hg,r⟩
theorem LR.keptAll{w':World}(h:LR az l vm vloc tb ar vs vf vp w s)(hk:∀g c t,Blk w g c t->Blk w' g c t):LR az l vm vloc tb ar vs vf vp w' s:=by obtain⟨cf,ie,hZ⟩:=h.frm;obtain⟨cp,ir,qj⟩:=h.stp;refine⟨hk _ _ _ h.blk,h.low,aJ h.stk fun g c=>hk g c _,⟨cf,aJ ie fun g c=>hk g c _,fun i hi=>?_⟩,⟨cp,aJ ir fun g c=>hk g c _,qj.kept fun g c=>hk g c _⟩,h.tgt.kept fun g c=>hk g c _,h.ns,h.nf,h.np⟩;obtain⟨vt,vg,b,h1,h2,⟨g1,k1,c1,e1,l1,b1,x1⟩,⟨g2,k2,c2,e2,l2,b2,x2⟩⟩:=hZ i hi;exact⟨vt,vg,b,h1,h2,⟨g1,k1,c1,e1,l1,hk _ _ _ b1,x1⟩,⟨g2,k2,c2,e2,l2,hk _ _ _ b2,x2⟩⟩
theorem sC{W:World}{r:Nat}{o o':Obj}(ho:W.heap[r]?=some o)(hc:o.isCells=false):∀g c t,Blk W g c t->Blk (W.putObj r o') g c t:=fun g c t hb=>by
 have ec:g≠r:=by intro e;subst e;have h2:=hb.symm.trans ho;cases h2;simp[Obj.isCells]at hc
 exact(World.putObj_heap_other ec).trans hb
theorem dk(h:LR az l vm vloc tb ar vs vf vp w s)(hi:0<s.ae.length){v:Value}{zs:List Nat}(hv:bO az w v zs)(hz:zs.length<=6)(eV:∀t∈zs,t<=2):Calls prog 160 #[.pointer (some ⟨l,0,none⟩),v] w fun e w'=>w.grownBy w' (some l) /\ fh (bw ar s zs.reverse) (fun r e w'=>e=.returned (.tuple #[])/\LRs az l vm vloc tb ar vf vp w' r) e w':=by
 obtain⟨g,cap,c,rfl,If,hb,hc⟩:=hv;refine CallsIn.calls (F:=FP) (n:=3) ?_ (fun k d hd=>by cases hd);refine callsIn_of_wp_marks func160 rfl (by simp) ?_ rfl;simp only[ntmps160,List.size_toArray,ajr,ajv,Nat.reduceAdd,Nat.reduceSub,Array.replicate_succ,Array.replicate_zero,List.push_toArray,List.append_toArray,List.nil_append,List.cons_append]
 gi_wp2_with (gi_at_call 176;refine(IV _ _ _ _ _).mono ?_;rintro e w' ⟨rfl,rfl⟩)
 obtain⟨w2,xa⟩:=aja ((w.alloc (.cells #[.pointer (some ⟨l,0,none⟩)] 194)).alloc (.cells #[.slice (some ⟨g,0,none⟩) zs.length cap] 44));rw[xa];have xS:w.grownBy w2 none:=by rw[<-xa];exact aB (aC _ _ _) (aC _ _ _)
 have gy:w2.heap.size=w.heap.size+1+1:=by rw[<-xa];simp
 have om:Blk w2 w.heap.size #[.pointer (some ⟨l,0,none⟩)] 194:=by rw[<-xa];exact(Blk.new _ _ _).alloc _
 have qa:Blk w2 (w.heap.size+1) #[.slice (some ⟨g,0,none⟩) zs.length cap] 44:=by rw[<-xa];have:=Blk.new (w.alloc (.cells #[.pointer (some ⟨l,0,none⟩)] 194)) #[.slice (some ⟨g,0,none⟩) zs.length cap] 44;rwa [ajz]at this
 have ol:l<w.heap.size:=h.blk.lt;have hlg:g<l:=ajA If h.low;clear xa;have keep:∀{W:World},w2.grownBy W (some l)->Blk W w.heap.size #[.pointer (some ⟨l,0,none⟩)] 194/\Blk W (w.heap.size+1) #[.slice (some ⟨g,0,none⟩) zs.length cap] 44/\Blk W g c 3:=fun hk=>
  ⟨om.grown hk (by simp;omega),qa.grown hk (by simp;omega),(hb.grown xS (by simp)).grown hk (by simp;omega)⟩
 refine rF rfl (by omega) (gf:=186) (lb:=#[.pointer (some ⟨w.heap.size+1,0,none⟩)]) rfl (by simp) (enters_of func186 (by kernel_rfl) rfl)
  (N:=zs.length) (encs:=fun k=>#[.int .i64 k,.int .i64 (zs[k]?.getD 0)]) (fun _=>rfl)
  (fun k W=>w2.grownBy W (some l)/\∃s',LRs az l vm vloc tb ar vf vp W s'/\s'.ae=s.ae/\bw ar s zs.reverse=bw ar s' (zs.take k).reverse)
  (fun ch W=>w2.grownBy W (some l)/\∃er,ch=[{v:=.iface 161 (.agg #[.int .i64 er.1,.int .i64 er.2]),recovered:=false}]/\bw ar s zs.reverse=.error (er:Er))
  ?iter ?put ?zero (fun k=>{tmps:=#[.pointer (some ⟨l,0,none⟩),.slice (some ⟨g,0,none⟩) zs.length cap,.pointer (some ⟨w.heap.size,0,none⟩),undef,undef,.int .i64 (zs[k]?.getD 0),.slice (some ⟨g,0,none⟩) zs.length cap,.func (.func 186) #[] #[.pointer (some ⟨w.heap.size+1,0,none⟩)],.int .i64 k,.int .i64 (zs[k]?.getD 0),undef,undef,undef],defers:=[]}) ?assign ?body ?done ?pan ?fns
 case iter=>
  intro L J Jp W hJ hY Zj;refine EC _ (by omega) L (w.heap.size+1) g cap zs (by omega) J Jp (fun k W hk=>?_) (fun k W hk hj=>?_) W Zj
  ·obtain⟨k1,k2,k3⟩:=keep (hJ k W hk).1;refine⟨by have:=k2.cell 0;simpa using this,fun j hj=>?_⟩;rw[k3.cell j];exact hc j hj
  have:=hY k W hk hj;simpa [gEg hk] using this
 case put=>
  rintro k W r o o' ⟨hk,s',⟨vs',D8⟩,he,ht⟩ hr ho cZ;exact⟨aO hk hr (grownBy_putObj' W r o'),s',⟨_,D8.keptAll (sC ho cZ)⟩,he,ht⟩
 case zero=>
  intro o o';have Ig:w2.grownBy ((w2.alloc o).alloc o') none:=aB (aC _ _ _) (aC _ _ _);exact⟨ic Ig _,s,⟨_,(h.kept xS).kept Ig⟩,rfl,by rw[ajB (nLr _)]⟩
 case assign=>
  intro L k W K hK
  gi_wp2
  exact hK
 case body=>
  rintro L k W hk ⟨hg,s',⟨vs',D8⟩,he,ht⟩;obtain⟨k1,k2,k3⟩:=keep hg;have q0:=k1.cell 0;simp at q0;have yv:zs[k]?.getD 0=zs[k]:=by simp[hk]
  have hT:=IS (n:=1-1) D8 (by rw[he];exact hi) zs[k] (eV _ (ajw hk));have dz:bw ar s zs.reverse=bnd (bD ar s' zs[k]) fun r=>bw ar r.2 (zs.take k).reverse:=by rw[ht,List.take_succ_eq_append_getElem hk,List.reverse_append];rfl
  rw[yv];have HS:Hid _:=dz;have HT:Hid _:=ht;clear dz ht yv;have IW:KeepsOthers W W->∀W3,W.grownBy W3 (some l)->KeepsOthers W W3:=fun _ W3 co=>(D8.went co).others;cases hx:bD ar s' zs[k] with
  |error er=>
   have hr:Hid (bw ar s zs.reverse=.error er):=by show _=_;rw[HS.out,hx];rfl
   gi_wp2_with (gi_at_call 139;refine(CallsIn.inRound L hT).mono ?_;rintro e W3 ⟨co,kF⟩;cases kF.err hx)
   exact⟨(D8.went co).others,rfl,aB hg co,er,rfl,hr.out⟩
  |ok x=>
   have hr:Hid (bw ar s zs.reverse=bw ar x.2 (zs.take k).reverse):=by show _=_;rw[HS.out,hx];rfl
   have lN:=iC hx
   gi_wp2_with (gi_at_call 139;refine(CallsIn.inRound L hT).mono ?_;rintro e W3 ⟨co,kF⟩;obtain⟨rfl,Tf⟩:=kF.ok hx)
   exact⟨(D8.went co).others,aB hg co,x.2,Tf,lN.trans he,hr.out⟩
 case done=>
  rintro D W hD ⟨hg,s',⟨vs',D8⟩,he,ht⟩ hK;have hr:bw ar s zs.reverse=.ok s':=by rw[ht];rfl
  gi_wp2
  refine⟨by simp,.inl ⟨_,_,rfl,run_takeDeferred hK,?_⟩⟩;refine⟨_,results_none rfl _ _ _,aB (ic xS _) (aO hg hD (grownBy_putObj' W D _)),aY hr ⟨rfl,_,D8.keptAll (sC hK rfl)⟩⟩
 case pan=>
  rintro D ch W hD ⟨hg,er,rfl,hr⟩ hK
  gi_wp2
  refine⟨by simp,.inl ⟨_,_,rfl,run_takeDeferred hK,?_⟩⟩;exact⟨aB (ic xS _) (aO hg hD (grownBy_putObj' W D _)),aK hr rfl⟩
 case fns=>
  intro fn xQ;simp at xQ;rcases xQ with rfl|rfl|rfl|rfl|rfl|rfl|rfl
  ·exact⟨_,func100⟩
  ·exact⟨_,func133⟩
  ·exact⟨_,func139⟩
  ·exact⟨_,func160⟩
  ·exact⟨_,func162⟩
  ·exact⟨_,func176⟩
  exact⟨_,func186⟩
end
end
