import Derived.Test.YtjbdgbdcnjopkaaGreatDoorS02
import Derived.Maps.AppendAt
import Derived.Lib.SliceRun
import Derived.Laws.MakeOwn
namespace Go.Proofs.YtjbdgbdcnjopkaaGreatDoor
open Go.RowKit Tryz
set_option linter.all false
set_option maxRecDepth 100000
set_option maxHeartbeats 4000000
def eY(lo:Nat)(w:World)(v:Value)(xs:List UInt8):Prop:=
 ∃g cap c,v=.slice (some ⟨g,0,none⟩) xs.length cap/\lo<=g/\Blk w g c 5/\(∀i (h:i<xs.length),c[i]?=some (.int .u8 xs[i].toNat))/\xs.length<=cap
theorem eY.kept{lo:Nat}{w w':World}{v:Value}{xs:List UInt8}(h:eY lo w v xs)(k:dC lo w w'):eY lo w' v xs:=by obtain⟨g,cap,c,rfl,hg,hb,hc⟩:=h;exact⟨g,cap,c,rfl,hg,(k g hg hb.lt).trans hb,hc⟩
theorem eY.mono{lo lo':Nat}{w:World}{v:Value}{xs:List UInt8}(h:eY lo w v xs)(k:lo'<=lo):eY lo' w v xs:=by obtain⟨g,cap,c,rfl,hg,hb,hc⟩:=h;exact⟨g,cap,c,rfl,ajE k hg,hb,hc⟩
theorem Pc:(prog.info? 5).map (fun i=>(i.zero,i.size,i.bytes))=some (some (.int .u8 0),1,1):=by kernel_rfl
theorem cJ(b o j:Nat):(⟨b,o,none⟩:Addr).add j=⟨b,o+j,none⟩:=by unfold Addr.add;split <;> simp_all
theorem eY.of_own{az:Nat}{w:World}{v:Value}{xs:List UInt8}(h:w.ownsRow az 5 1 v xs.length (xs.map fun c=>.int .u8 c.toNat))(h0:0<xs.length):eY az w v xs:=by
 rcases h.2 with⟨_,h2⟩|⟨g,cap,cur,rfl,hb,hg,hn,hm,hs,ht⟩
 ·omega
 refine⟨g,cap,cur,rfl,hb,hg,fun i hi=>?_,hn⟩;have h1:(cur.toList.take (xs.length*1))[i]?=some (.int .u8 xs[i].toNat):=by rw[ht,List.getElem?_map,gEg hi];rfl
 rw[ajI (by omega)]at h1;simpa using h1
theorem yj{w:World}{b o cap:Nat}{xs:List UInt8}(hx:∀i (h:i<xs.length),w.cell? ⟨b,o+i,none⟩=some (.int .u8 xs[i].toNat))(h0:0<xs.length)(hs:xs.length<=4000):Calls prog 170 #[.slice (some ⟨b,o,none⟩) xs.length cap] w fun e w'=>∃v,e=.returned v/\w.grownBy w' none/\eY w.heap.size w' v xs:=by
 obtain⟨i0,hi,fo,eP,eV⟩:=info_parts Pc;have HX:Hid _:=hx;clear hx;have oH:=fun (w:World)=>Lib.run_eql_slice_nil (P:=prog) w 26 5 (some ⟨b,o,none⟩) xs.length cap 0 0 underlying26;go_enter func170,ntmps170;go_wp2_with (at_builtin;refine wpList_append_own_at _ rfl _ _ 26 rfl w.heap.size 5 i0 (.int .u8 0) 1 1 underlying26 hi fo eP eV rfl (by decide) _ 0 [] rfl ?q1 ⟨b,o,none⟩ xs.length cap (xs.map fun c=>.int .u8 c.toNat) rfl (by simp) ?q2 ?q3 ?q4 ?q5 ?q6 ?q7)
 case q1=>exact World.ownsRow_made w #[] 0 (nLr _) (by simp[maxLen]) rfl
 case q2=>
  intro j u hj;rw[List.getElem?_map]at hj;obtain⟨c,hc,rfl⟩:=Option.map_eq_some_iff.1 hj;obtain⟨bM,rfl⟩:=gEs.1 hc;have h1:=HX.out j bM;rw[World.cell?_alloc_lt _ _ _ (by rw[cJ];exact World.block_lt_of_cell? w _ h1),cJ];exact h1
 case q3=>simp[Value.oneCell']
 case q4=>simp[maxLen];omega
 case q5=>omega
 case q6=>simp
 case q7=>
  intro v' w' bn bU _ _;go_wp2;go_ret;refine⟨v',rfl,?_,eY.of_own (by simpa using bn) h0⟩;exact aO (aC w _ none) (nLr _) bU
theorem Eo{w:World}{b o n cap:Nat}{xs:List UInt8}(hx:∀i (h:i<xs.length),w.cell? ⟨b,o+i,none⟩=some (.int .u8 xs[i].toNat))(h0:0<xs.length)(hs:xs.length<=4000)(hn:n=xs.length):Calls prog 170 #[.slice (some ⟨b,o,none⟩) n cap] w fun e w'=>∃v,e=.returned v/\w.grownBy w' none/\eY w.heap.size w' v xs:=by subst hn;exact yj hx h0 hs
theorem ic{a b:World}(h:a.grownBy b none)(row:Option Nat):a.grownBy b row:=⟨h.os,h.tape,h.output,h.size,fun k hk _=>h.block k hk (by simp)⟩
theorem IE{w:World}{r:Nat}{a:Option Addr}{cap:Nat}{bs:List UInt8}{p len:Nat}(h:Rd w r a cap bs p)(h0:0<len)(hp:p+len<=bs.length):Calls prog 145 #[.pointer (some ⟨r,0,none⟩),.int .i64 len] w fun e w'=>w.grownBy w' (some r)/\∃v,e=.returned v/\eY w.heap.size w' v ((bs.drop p).take len)/\Rd w' r a cap bs (p+len):=by
 have c0:=h.blk.cell 0;have c1:=h.blk.cell 1;have f1:=h.blk.frozen 1;have hs:=h.small;obtain⟨b,o,rfl,bM,hc⟩:=h.bytes p (by omega);simp at c0 c1;clear hc;have Za:=h.room;have ec:¬r=b:=by omega
 have e1:(p:Int)+(len:Int)<=(cap:Int):=by omega
 have e2:(p:Int)<=(p:Int)+(len:Int):=by omega
 have Ct:¬cap=p:=by omega
 have e3:(len:Int)<=(bs.length:Int)-(p:Int):=by omega
 go_enter func145,ntmps145;go_wp2;go_region
 go_wp2;have cZ:∀i (hi:i<((bs.drop p).take len).length),(w.setCell ⟨r,1,none⟩ (.int .i64 (↑p + ↑len))).drew.drew.cell? ⟨b,o+p+i,none⟩=some (.int .u8 ((bs.drop p).take len)[i].toNat):=by
  intro i hi;have jB:i<len:=by simp at hi;omega
  obtain⟨b',o',e,_,hc⟩:=h.bytes (p+i) (by omega);cases e;rw[show (w.setCell ⟨r,1,none⟩ (.int .i64 (↑p + ↑len))).drew.drew.cell? ⟨b,o+p+i,none⟩=(w.setCell ⟨r,1,none⟩ (.int .i64 (↑p + ↑len))).cell? ⟨b,o+p+i,none⟩ from rfl,
   ajK (w:=w) (Below.heap_setCell w _ _ b (by simpa using Ne.symm ec)),Nat.add_assoc,hc]
  simp
 have hl:((bs.drop p).take len).length=len:=by simp;omega
 have HC:Hid _:=cZ;clear cZ;go_region_with (go_at_call 170;refine(Eo HC.out (by omega) (by omega) (by omega)).mono ?_;rintro e w' ⟨v,rfl,aP,df⟩)
 all_goals
  go_wp2;go_ret;have dU:w.grownBy (w.setCell ⟨r,1,none⟩ (.int .i64 (↑p + ↑len))).drew.drew (some r):=aE (aE (aD _ _ _ _));have nM:Rd (w.setCell ⟨r,1,none⟩ (.int .i64 (↑p + ↑len))).drew.drew r (some ⟨b,o,none⟩) cap bs (p+len):=
   h.moved dU (Blk.drew (Blk.drew (by have:=h.blk.set 1 (.int .i64 (↑p + ↑len));simpa using this))) (by omega)
  refine⟨aB dU (ic aP _),v,rfl,df.mono ?_,nM.moved (ic aP _) (nM.blk.grown aP (by simp)) (by omega)⟩;exact ajJ (by simp)
theorem Ep{w:World}{r:Nat}{a:Option Addr}{cap:Nat}{bs:List UInt8}{p len:Nat}(h:Rd w r a cap bs p)(hp:bs.length<p+len)(hl:len<=400):Calls prog 145 #[.pointer (some ⟨r,0,none⟩),.int .i64 len] w fun e w'=>w.grownBy w' (some r)/\e=ep (2,bs.length):=by
 have c0:=h.blk.cell 0;have c1:=h.blk.cell 1;have hs:=h.small;have hi:=h.inside;simp at c0 c1;have e3:(bs.length:Int)-(p:Int)<(len:Int):=by omega
 go_enter func145,ntmps145;go_wp2;go_region
 go_wp2_with (go_at_call 108;refine(ib _ _ _).mono ?_;rintro e w' ⟨rfl,rfl⟩)
 exact⟨rfl,aE (aH _ _),rfl⟩
theorem Rd.alloc{w:World}{r:Nat}{a:Option Addr}{cap:Nat}{bs:List UInt8}{p:Nat}(h:Rd w r a cap bs p)(o:Obj):Rd (w.alloc o) r a cap bs p:=h.moved (aC _ _ _) (h.blk.alloc _) h.inside
def Mr(lo:Nat)(w:World)(v:Value)(f:ck):Prop:=
 ∃vl vc,v=.agg #[.int .i64 f.sig,vl,.int .i64 f.ax,vc]/\gN lo w vl f.ai/\eY lo w vc f.code/\(∃a n c,vl=.slice a n c)/\∃a n c,vc=.slice a n c
theorem gN.isSlice{lo:Nat}{w:World}{v:Value}{xs:List Nat}(h:gN lo w v xs):∃a n c,v=.slice a n c:=by obtain⟨g,cap,c,rfl,_⟩:=h;exact⟨_,_,_,rfl⟩
theorem eY.isSlice{lo:Nat}{w:World}{v:Value}{xs:List UInt8}(h:eY lo w v xs):∃a n c,v=.slice a n c:=by obtain⟨g,cap,c,rfl,_⟩:=h;exact⟨_,_,_,rfl⟩
theorem wR{bs:List UInt8}{p lo hi n:Nat}(h:eH bs p lo hi=.ok n):lo<=n/\n<=hi:=by
 simp only[eH,fe]at h;split at h
 ·simp only[aM]at h;split at h
  ·simp only[aM]at h;split at h
   ·cases h
   cases h;omega
  simp at h
 simp at h
theorem mI{bs:List UInt8}{p lo hi n:Nat}(h:bN bs p lo hi=.ok n):lo<=n/\n<=hi:=by
 simp only[bN,fe]at h;split at h
 ·simp only[aM]at h;split at h
  ·cases h
  cases h;omega
 simp at h
theorem pp{w:World}{r:Nat}{a:Option Addr}{cap:Nat}{bs:List UInt8}{p nsig:Nat}(h:Rd w r a cap bs p)(yk:1<=nsig)(vz:nsig<=20):Calls prog 107 #[.pointer (some ⟨r,0,none⟩),.int .i64 nsig] w fun e w'=>w.grownBy w' (some r) /\ fh (lP bs nsig p) (fun f e w'=>∃v,e=.returned v/\Mr w.heap.size w' v f.1/\Rd w' r a cap bs f.2) e w':=by
 have IF:some w.heap.size≠some r:=by have:=h.blk.lt;simp;omega
 have hN:Hid (1<=nsig/\nsig<=20):=⟨yk,vz⟩;have g0:1<=(nsig:Int):=by omega
 have g1:(nsig:Int)<=20:=by omega
 clear yk vz;cases h1:bN bs p 0 (nsig-1) with
 |error er=>
  have hf:lP bs nsig p=.error er:=by simp[lP,h1]
  go_enter func107,ntmps107;go_wp2_with (go_at_call 105;refine(ji (h.alloc _) 0 (nsig-1) h1 rfl (by have:=hN.out;omega)).mono ?_;rintro e w1 ⟨rfl,eZ⟩)
  exact⟨rfl,aB (aC _ _ _) eZ,aK hf rfl⟩
 |ok s=>
  cases h2:eO bs (p+1) 8 with
  |error er=>
   have hf:lP bs nsig p=.error er:=by simp[lP,h1,h2]
   go_enter func107,ntmps107;go_wp2_with (first|(go_at_call 105;refine(fz (h.alloc _) 0 (nsig-1) h1 rfl (by have:=hN.out;omega)).mono ?_;rintro e w1 ⟨rfl,eZ,mB⟩)|(go_at_call 106;refine(gB mB (most:=8)).mono ?_;rintro e w2 ⟨aP,hG⟩;cases hG.err h2))
   exact⟨rfl,aB (aB (aC _ _ _) eZ) aP,aK hf rfl⟩
  |ok ls=>
   cases h3:eH bs (p+1+1+ls.length) 1 400 with
   |error er=>
    have hf:lP bs nsig p=.error er:=by simp[lP,h1,h2,h3]
    go_enter func107,ntmps107;go_wp2_with (first|(go_at_call 105;refine(fz (h.alloc _) 0 (nsig-1) h1 rfl (by have:=hN.out;omega)).mono ?_;rintro e w1 ⟨rfl,eZ,mB⟩)|(go_at_call 106;refine(gB mB (most:=8)).mono ?_;rintro e w2 ⟨aP,hG⟩;obtain⟨vl,rfl,Ac,lM⟩:=hG.ok h2)|(go_at_call 144;refine(yg lM h3).mono ?_;rintro e w3 ⟨rfl,co⟩))
    exact⟨rfl,aB (aB (aB (aC _ _ _) eZ) aP) co,aK hf rfl⟩
   |ok len=>
    have kv:=wR h3;by_cases h4:bs.length-(p+1+1+ls.length+2)<len
    ·have hf:lP bs nsig p=.error (2,bs.length):=by simp[lP,h1,h2,h3,vx,h4]
     go_enter func107,ntmps107;go_wp2_with (first|(go_at_call 105;refine(fz (h.alloc _) 0 (nsig-1) h1 rfl (by have:=hN.out;omega)).mono ?_;rintro e w1 ⟨rfl,eZ,mB⟩)|(go_at_call 106;refine(gB mB (most:=8)).mono ?_;rintro e w2 ⟨aP,hG⟩;obtain⟨vl,rfl,Ac,lM⟩:=hG.ok h2;obtain⟨al,nl,cl,rfl⟩:=Ac.isSlice)|(go_at_call 144;refine(si lM h3).mono ?_;rintro e w3 ⟨rfl,co,mC⟩;have yl:=mC.blk.cell 1;simp at yl)|(go_at_call 145;refine(Ep mC (by have:=mC.inside;omega) (by omega)).mono ?_;rintro e w4 ⟨dv,rfl⟩))
     exact⟨rfl,aB (aB (aB (aB (aC _ _ _) eZ) aP) co) dv,aK hf rfl⟩
    have hf:lP bs nsig p=.ok ({sig:=s,ai:=ls,ax:=p+1+1+ls.length+2,code:=(bs.drop (p+1+1+ls.length+2)).take len},p+1+1+ls.length+2+len):=by simp[lP,h1,h2,h3,vx,h4]
    go_enter func107,ntmps107;go_wp2_with (first|(go_at_call 105;refine(fz (h.alloc _) 0 (nsig-1) h1 rfl (by have:=hN.out;omega)).mono ?_;rintro e w1 ⟨rfl,eZ,mB⟩)|(go_at_call 106;refine(gB mB (most:=8)).mono ?_;rintro e w2 ⟨aP,hG⟩;obtain⟨vl,rfl,Ac,lM⟩:=hG.ok h2;obtain⟨al,nl,cl,rfl⟩:=Ac.isSlice)|(go_at_call 144;refine(si lM h3).mono ?_;rintro e w3 ⟨rfl,co,mC⟩;have yl:=mC.blk.cell 1;simp at yl)|(go_at_call 145;refine(IE mC (by omega) (by have:=mC.inside;omega)).mono ?_;rintro e w4 ⟨dv,vc,rfl,R0,Pd⟩;obtain⟨ac,nc,cc,rfl⟩:=R0.isSlice;have uo:=((((Blk.new w #[.int .i64 0,.slice none 0 0,.int .i64 0,.slice none 0 0] 168).grown eZ IF).grown aP IF).grown co IF).grown dv IF;have k0:=uo.cell 0;have k1:=uo.cell 1;have k2:=uo.cell 2;have k3:=uo.cell 3;simp at k0 k1 k2 k3;have f0:=uo.frozen 0;have f1:=uo.frozen 1;have f2:=uo.frozen 2;have f3:=uo.frozen 3))
    have Ay:=(((uo.set 0 (.int .i64 s)).set 1 (.slice al nl cl)).set 2 (.int .i64 (↑p+1+1 + ↑ls.length+1+1))).set 3 (.slice ac nc cc);simp at Ay;have sk:=aB (aB (aB (aD w4 w.heap.size 0 (.int .i64 s)) (aD _ w.heap.size 1 (.slice al nl cl))) (aD _ w.heap.size 2 (.int .i64 (↑p+1+1 + ↑ls.length+1+1)))) (aD _ w.heap.size 3 (.slice ac nc cc));have q0:=Ay.cell 0;have q1:=Ay.cell 1;have q2:=Ay.cell 2;have q3:=Ay.cell 3;have S4:=aB (aB (aB (aB (aC w _ (some r)) eZ) aP) co) dv;simp at q0 q1 q2 q3;refine bodyPost_ret (v:=.agg #[.int .i64 s,.slice al nl cl,.int .i64 (↑p+1+1 + ↑ls.length+1+1),.slice ac nc cc]) (by simp[results,results107,go_sem,q0,q1,q2,q3]) rfl ⟨aO S4 (nLr _) sk,aY hf ?_⟩;have Ad:w.heap.size+1<=w1.heap.size:=by have:=eZ.size;simpa using this
    have rC:=aP.size;have IG:=co.size;have a34:dC (w.heap.size+1) w2 w4:=(dC.of_grown co (by intro b e;cases e;have:=h.blk.lt;omega)).trans (dC.of_grown dv (by intro b e;cases e;have:=h.blk.lt;omega)) co.size;have aS:dC (w.heap.size+1) w4 _:=dC.of_grown sk (by intro b e;cases e;omega);refine⟨_,rfl,⟨_,_,by simp;omega,((Ac.mono Ad).kept a34 |>.kept aS).mono (by omega),((R0.mono (by omega)).kept aS).mono (by omega),⟨_,_,_,rfl⟩,⟨_,_,_,rfl⟩⟩,?_⟩;exact Pd.moved' sk h.blk.lt
def sm(w:World)(g:Nat)(c:Array Value)(sigs:List Sig):Prop:=
 ∀i (h:i<sigs.length),∃vt vg,c[2*i]?=some vt/\c[2*i+1]?=some vg/\gN (g+1) w vt sigs[i].1/\gN (g+1) w vg sigs[i].2
theorem sm.kept{w w':World}{g:Nat}{c:Array Value}{sigs:List Sig}(h:sm w g c sigs)(k:dC (g+1) w w'):sm w' g c sigs:=fun i hi=>by obtain⟨vt,vg,h1,h2,h3,h4⟩:=h i hi;exact⟨vt,vg,h1,h2,h3.kept k,h4.kept k⟩
def mJ(lo:Nat)(w:World)(v:Value)(sigs:List Sig):Prop:=
 ∃g c,v=.slice (some ⟨g,0,none⟩) sigs.length sigs.length/\lo<=g/\Blk w g c 107/\sm w g c sigs
theorem mJ.kept{lo:Nat}{w w':World}{v:Value}{sigs:List Sig}(h:mJ lo w v sigs)(k:dC lo w w'):mJ lo w' v sigs:=by obtain⟨g,c,rfl,hg,hb,hs⟩:=h;exact⟨g,c,rfl,hg,(k g hg hb.lt).trans hb,hs.kept fun i hi hl=>k i (by omega) hl⟩
theorem mJ.mono{lo lo':Nat}{w:World}{v:Value}{sigs:List Sig}(h:mJ lo w v sigs)(k:lo'<=lo):mJ lo' w v sigs:=by obtain⟨g,c,rfl,hg,hb,hs⟩:=h;exact⟨g,c,rfl,ajE k hg,hb,hs⟩
def oh(bs:List UInt8)(p:Nat):Except Er (List Sig×Nat):=bnd (bN bs p 1 20) fun n=>di bs n (p+1)
theorem IJ:(prog.info? 107).map (fun i=>(i.zero,i.size,i.bytes))=some (some (.agg #[.slice none 0 0,.slice none 0 0]),2,48):=by kernel_rfl
def cU{α:Type}(l:List α)(x:Except Er (List α×Nat)):Except Er (List α×Nat):=bnd x fun y=>.ok (l++y.1,y.2)
theorem wT{bs:List UInt8}{l:List Sig}{k p:Nat}{s:Sig×Nat}(h:rZ bs p=.ok s):cU l (di bs (k+1) p)=cU (l++[s.1]) (di bs k s.2):=by simp only[di,h,aM,cU];cases di bs k s.2 <;> simp
theorem IK{c:Array Value}{k n:Nat}{vt vg:Value}(gy:c.size=n*2)(hk:k<n):∀i,(i<k->((c.setIfInBounds (k*2) vt).setIfInBounds (k*2+1) vg)[2*i]?=c[2*i]?/\((c.setIfInBounds (k*2) vt).setIfInBounds (k*2+1) vg)[2*i+1]?=c[2*i+1]?) /\ (i=k->((c.setIfInBounds (k*2) vt).setIfInBounds (k*2+1) vg)[2*i]?=some vt/\((c.setIfInBounds (k*2) vt).setIfInBounds (k*2+1) vg)[2*i+1]?=some vg):=by
 intro i;refine⟨fun h=>⟨?_,?_⟩,fun h=>⟨?_,?_⟩⟩
 ·rw[aje (by omega),aje (by omega)]
 ·rw[aje (by omega),aje (by omega)]
 ·subst h;rw[aje (by omega),ajC 2 i,ajf (by omega)]
 subst h;rw[ajC 2 i,ajf (by simp;omega)]
theorem so{w:World}{r:Nat}{a:Option Addr}{cap:Nat}{bs:List UInt8}{p:Nat}(h:Rd w r a cap bs p):Calls prog 79 #[.pointer (some ⟨r,0,none⟩)] w fun e w'=>w.grownBy w' (some r) /\ fh (oh bs p) (fun l e w'=>∃v,e=.returned v/\mJ w.heap.size w' v l.1/\Rd w' r a cap bs l.2) e w':=by
 cases hn:bN bs p 1 20 with
 |error er=>
  have ht:oh bs p=.error er:=by simp[oh,hn]
  go_enter func79,ntmps79;go_wp2_with (go_at_call 105;refine(ji h 1 20 hn rfl rfl).mono ?_;rintro e w' ⟨rfl,hg⟩)
  exact⟨rfl,hg,aK ht rfl⟩
 |ok n=>
  have ht:oh bs p=cU [] (di bs n (p+1)):=by simp[oh,hn,cU];cases di bs n (p+1) <;> rfl
  rw[ht];clear ht;have Pe:=(mI hn).2;obtain⟨i0,hi,fo,eP,eV⟩:=info_parts IJ;have um:=fun (w:World)=>run_make (P:=prog) w 163 107 i0 _ underlying163 hi fo .i64 .i64 n n (by omega) (by omega) (by rw[eV];omega) (by omega);rw[eP]at um;simp only[Int.toNat_natCast]at um;clear hi fo eP eV;go_enter func79,ntmps79;go_wp2_with (go_at_call 105;refine(fz h 1 20 hn rfl rfl).mono ?_;rintro e w1 ⟨rfl,hg,hr⟩)
  have Pb:r<w1.heap.size:=hr.blk.lt;have S5:r<w.heap.size:=h.blk.lt;go_loopw [12] (fun i wr=>∃(k:Nat) (l:List Sig) (q:Nat) (c:Array Value),i=.int .i64 k/\k<=n/\l.length=k/\Hid (cU [] (di bs n (p+1))=cU l (di bs (n-k) q)) /\
    w1.grownBy wr (some r)/\Rd wr r a cap bs q/\Blk wr w1.heap.size c 107/\c.size=n*2/\sm wr w1.heap.size c l) (fun i _=>n-(intOf i).toNat)
  case atStart=>
   exact⟨0,[],p+1,_,rfl,ajl _,rfl,rfl,aC _ _ _,hr.alloc _,Blk.new _ _ _,by simp[madeCells],fun i h=>by simp at h⟩
  case round=>
   obtain⟨k,l,q,c,rfl,hk,hl,HE,bU,nM,eF,gy,hc⟩:=hrel;have ec:some w1.heap.size≠some r:=by simp;omega
   by_cases bM:k<n
   ·obtain⟨m,hm⟩:∃m,n-k=m+1:=⟨n-k-1,by omega⟩;have hE:=HE.out;rw[hm]at hE;clear HE;cases hx:eO bs q 6 with
    |error er=>
     have d8:Hid (cU [] (di bs n (p+1))=.error er):=by show _=_;rw[hE];simp[di,rZ,hx,cU]
     clear hE hm;go_wp2_with (go_at_call 106;refine(gB nM (most:=6)).mono ?_;rintro e w2 ⟨aP,hG⟩;cases hG.err hx)
     exact⟨rfl,aB hg (aB bU aP),aK d8.out rfl⟩
    |ok ts=>
     cases hy:eO bs (q+1+ts.length) 3 with
     |error er=>
      have d8:Hid (cU [] (di bs n (p+1))=.error er):=by show _=_;rw[hE];simp[di,rZ,hx,hy,cU]
      clear hE hm;go_wp2_with fail;refine(gB nM (most:=6)).mono ?_;rintro e w2 ⟨aP,hG⟩;obtain⟨vt,rfl,oI,lM⟩:=hG.ok hx;go_wp2_with fail;refine(gB lM (most:=3)).mono ?_;rintro e w3 ⟨co,kF⟩;cases kF.err hy;go_wp2_with fail;exact⟨rfl,aB hg (aB (aB bU aP) co),aK d8.out rfl⟩
     |ok gs=>
      have hS:rZ bs q=.ok ((ts,gs),q+1+ts.length+1+gs.length):=by simp[rZ,hx,hy]
      have d8:Hid (cU [] (di bs n (p+1))=cU (l++[(ts,gs)]) (di bs m (q+1+ts.length+1+gs.length))):=hE.trans (wT hS);clear hE;have HM:Hid _:=hm;clear hm;go_wp2_with fail;refine(gB nM (most:=6)).mono ?_;rintro e w2 ⟨aP,hG⟩;obtain⟨vt,rfl,oI,lM⟩:=hG.ok hx;obtain⟨at1,nt1,ct1,rfl⟩:=oI.isSlice;go_wp2_with fail;refine(gB lM (most:=3)).mono ?_;rintro e w3 ⟨co,kF⟩;obtain⟨vg,rfl,rN,mC⟩:=kF.ok hy;obtain⟨at2,nt2,ct2,rfl⟩:=rN.isSlice;clear hG kF;have kv:=(eF.grown aP ec).grown co ec;have D6:(c[k*2]?).isSome=true:=by simp[gy];omega
      have rD:(c[k*2+1]?).isSome=true:=by simp[gy];omega
      obtain⟨old0,IL⟩:=Option.isSome_iff_exists.1 D6;obtain⟨old1,ym⟩:=Option.isSome_iff_exists.1 rD;have Ow:=(kv.cell (k*2)).trans IL;have Ae:=(kv.cell (k*2+1)).trans ym;have IM:=kv.frozen (k*2);have ie:=kv.frozen (k*2+1);clear D6 rD;go_wp2_with fail;have sk:=aB (aD w3 w1.heap.size (k*2) (.slice at1 nt1 ct1)) (aD _ w1.heap.size (k*2+1) (.slice at2 nt2 ct2));have Es:=(kv.set (k*2) (.slice at1 nt1 ct1)).set (k*2+1) (.slice at2 nt2 ct2);have jM:w1.heap.size+1<=wr.heap.size:=eF.lt;have a23:dC (w1.heap.size+1) w2 w3:=dC.of_grown co (by intro b e;cases e;omega);have ar3:dC (w1.heap.size+1) wr w3:=(dC.of_grown aP (by intro b e;cases e;omega)).trans a23 aP.size;have aS:=dC.of_grown (lo:=w1.heap.size+1) sk (by intro b e;cases e;omega);have tw:=IK (c:=c) (vt:=.slice at1 nt1 ct1) (vg:=.slice at2 nt2 ct2) gy bM;go_roundw
      case rel=>
       refine⟨k+1,l++[(ts,gs)],q+1+ts.length+1+gs.length,_,by simp,by omega,by simp[hl],?_,aO (aB (aB bU aP) co) (nLr _) sk,mC.moved' sk Pb,Es,by simp[gy],?_⟩
       ·have e1:n-(k+1)=m:=by have:=HM.out;omega
        show _=_;rw[d8.out,e1]
       intro i hi;by_cases e:i=k
       ·subst e;obtain⟨t1,t2⟩:=(tw i).2 rfl;refine⟨_,_,t1,t2,?_,?_⟩
        ·simp only[ajo (ajJ hl),hl,Nat.sub_self,List.getElem_cons_zero];exact((oI.mono jM).kept a23).kept aS
        simp only[ajo (ajJ hl),hl,Nat.sub_self,List.getElem_cons_zero];exact(rN.mono (by have:=aP.size;omega)).kept aS
       have Et:i<k:=by simp at hi;omega
       obtain⟨vt,vg,h1,h2,h3,h4⟩:=hc i (by omega);obtain⟨t1,t2⟩:=(tw i).1 Et;refine⟨vt,vg,t1.trans h1,t2.trans h2,?_,?_⟩
       ·rw[ajn (by omega)];exact(h3.kept ar3).kept aS
       rw[ajn (by omega)];exact(h4.kept ar3).kept aS
      case measure=>simp[intOf];omega
   obtain rfl:k=n:=by omega
   have d8:cU [] (di bs k (p+1))=.ok (l,q):=by rw[HE.out];simp[di,cU]
   go_wp2_with fail;go_ret;refine⟨aB hg bU,aY d8 ?_⟩;exact⟨_,rfl,⟨w1.heap.size,c,by rw[hl];rfl,hg.size,eF,hc⟩,nM⟩
def su(w:World)(g:Nat)(c:Array Value)(fs:List ck):Prop:=
 ∀i (h:i<fs.length),∃vl vc,c[4*i]?=some (.int .i64 fs[i].sig)/\c[4*i+1]?=some vl/\c[4*i+2]?=some (.int .i64 fs[i].ax)/\c[4*i+3]?=some vc/\gN (g+1) w vl fs[i].ai/\eY (g+1) w vc fs[i].code
theorem su.kept{w w':World}{g:Nat}{c:Array Value}{fs:List ck}(h:su w g c fs)(k:dC (g+1) w w'):su w' g c fs:=fun i hi=>by obtain⟨vl,vc,h1,h2,h3,h4,h5,h6⟩:=h i hi;exact⟨vl,vc,h1,h2,h3,h4,h5.kept k,h6.kept k⟩
def mK(lo:Nat)(w:World)(v:Value)(fs:List ck):Prop:=
 ∃g c,v=.slice (some ⟨g,0,none⟩) fs.length fs.length/\lo<=g/\Blk w g c 168/\su w g c fs
theorem mK.kept{lo:Nat}{w w':World}{v:Value}{fs:List ck}(h:mK lo w v fs)(k:dC lo w w'):mK lo w' v fs:=by obtain⟨g,c,rfl,hg,hb,hs⟩:=h;exact⟨g,c,rfl,hg,(k g hg hb.lt).trans hb,hs.kept fun i hi hl=>k i (by omega) hl⟩
theorem mK.mono{lo lo':Nat}{w:World}{v:Value}{fs:List ck}(h:mK lo w v fs)(k:lo'<=lo):mK lo' w v fs:=by obtain⟨g,c,rfl,hg,hb,hs⟩:=h;exact⟨g,c,rfl,ajE k hg,hb,hs⟩
def qU(bs:List UInt8)(nsig p:Nat):Except Er (List ck×Nat):=bnd (bN bs p 1 20) fun n=>d9 bs nsig n (p+1)
theorem IN:(prog.info? 168).map (fun i=>(i.zero,i.size,i.bytes))=some (some (.agg #[.int .i64 0,.slice none 0 0,.int .i64 0,.slice none 0 0]),4,64):=by kernel_rfl
theorem wU{bs:List UInt8}{nsig:Nat}{l:List ck}{k p:Nat}{s:ck×Nat}(h:lP bs nsig p=.ok s):cU l (d9 bs nsig (k+1) p)=cU (l++[s.1]) (d9 bs nsig k s.2):=by simp only[d9,h,aM,cU];cases d9 bs nsig k s.2 <;> simp
def sv(c:Array Value)(k:Nat)(v0 v1 v2 v3:Value):Array Value:=(((c.setIfInBounds k v0).setIfInBounds (k+1) v1).setIfInBounds (k+2) v2).setIfInBounds (k+3) v3
theorem vA(c:Array Value)(k:Nat)(v0 v1 v2 v3:Value):(sv c k v0 v1 v2 v3).size=c.size:=by simp[sv]
theorem fV(c:Array Value)(k:Nat)(v0 v1 v2 v3:Value){i:Nat}(h:i<k\/k+3<i):(sv c k v0 v1 v2 v3)[i]?=c[i]?:=by unfold sv;rw[aje (by omega),aje (by omega),aje (by omega),aje (by omega)]
theorem BI(c:Array Value)(k:Nat)(v0 v1 v2 v3:Value)(h:k+3<c.size):(sv c k v0 v1 v2 v3)[k]?=some v0/\(sv c k v0 v1 v2 v3)[k+1]?=some v1/\(sv c k v0 v1 v2 v3)[k+2]?=some v2/\(sv c k v0 v1 v2 v3)[k+3]?=some v3:=by
 unfold sv;refine⟨?_,?_,?_,?_⟩
 ·rw[aje (by omega),aje (by omega),aje (by omega),ajf (by omega)]
 ·rw[aje (by omega),aje (by omega),ajf (by simp;omega)]
 ·rw[aje (by omega),ajf (by simp;omega)]
 rw[ajf (by simp;omega)]
theorem uz{w:World}{r:Nat}{a:Option Addr}{cap:Nat}{bs:List UInt8}{p nsig:Nat}(h:Rd w r a cap bs p)(yk:1<=nsig)(vz:nsig<=20):Calls prog 80 #[.pointer (some ⟨r,0,none⟩),.int .i64 nsig] w fun e w'=>w.grownBy w' (some r) /\ fh (qU bs nsig p) (fun l e w'=>∃v,e=.returned v/\mK w.heap.size w' v l.1/\Rd w' r a cap bs l.2) e w':=by
 cases hn:bN bs p 1 20 with
 |error er=>
  have ht:qU bs nsig p=.error er:=by simp[qU,hn]
  go_enter func80,ntmps80;go_wp2_with (go_at_call 105;refine(ji h 1 20 hn rfl rfl).mono ?_;rintro e w' ⟨rfl,hg⟩)
  exact⟨rfl,hg,aK ht rfl⟩
 |ok n=>
  have ht:qU bs nsig p=cU [] (d9 bs nsig n (p+1)):=by simp[qU,hn,cU];cases d9 bs nsig n (p+1) <;> rfl
  rw[ht];clear ht;have Pe:=(mI hn).2;obtain⟨i0,hi,fo,eP,eV⟩:=info_parts IN;have um:=fun (w:World)=>run_make (P:=prog) w 164 168 i0 _ underlying164 hi fo .i64 .i64 n n (by omega) (by omega) (by rw[eV];omega) (by omega);rw[eP]at um;simp only[Int.toNat_natCast]at um;clear hi fo eP eV;go_enter func80,ntmps80;go_wp2_with (go_at_call 105;refine(fz h 1 20 hn rfl rfl).mono ?_;rintro e w1 ⟨rfl,hg,hr⟩)
  have Pb:r<w1.heap.size:=hr.blk.lt;have S5:r<w.heap.size:=h.blk.lt;go_loopw [12] (fun i wr=>∃(k:Nat) (l:List ck) (q:Nat) (c:Array Value),i=.int .i64 k/\k<=n/\l.length=k/\Hid (cU [] (d9 bs nsig n (p+1))=cU l (d9 bs nsig (n-k) q)) /\
    w1.grownBy wr (some r)/\Rd wr r a cap bs q/\Blk wr w1.heap.size c 168/\c.size=n*4/\su wr w1.heap.size c l) (fun i _=>n-(intOf i).toNat)
  case atStart=>
   exact⟨0,[],p+1,_,rfl,ajl _,rfl,rfl,aC _ _ _,hr.alloc _,Blk.new _ _ _,by simp[madeCells],fun i h=>by simp at h⟩
  case round=>
   obtain⟨k,l,q,c,rfl,hk,hl,HE,bU,nM,eF,gy,hc⟩:=hrel;have ec:some w1.heap.size≠some r:=by simp;omega
   by_cases bM:k<n
   ·obtain⟨m,hm⟩:∃m,n-k=m+1:=⟨n-k-1,by omega⟩;have hE:=HE.out;rw[hm]at hE;clear HE;cases hx:lP bs nsig q with
    |error er=>
     have d8:Hid (cU [] (d9 bs nsig n (p+1))=.error er):=by show _=_;rw[hE];simp[d9,hx,cU]
     clear hE hm;go_wp2_with (go_at_call 107;refine(pp nM yk vz).mono ?_;rintro e w2 ⟨aP,hG⟩;cases hG.err hx)
     exact⟨rfl,aB hg (aB bU aP),aK d8.out rfl⟩
    |ok f=>
     have d8:Hid (cU [] (d9 bs nsig n (p+1))=cU (l++[f.1]) (d9 bs nsig m f.2)):=hE.trans (wU hx);clear hE;have HM:Hid _:=hm;clear hm;go_wp2_with fail;refine(pp nM yk vz).mono ?_;rintro e w2 ⟨aP,hG⟩;obtain⟨v,rfl,⟨vl,vc,rfl,Ac,R0,⟨a1,n1,c1,rfl⟩,⟨a2,n2,c2,rfl⟩⟩,lM⟩:=hG.ok hx;clear hG;have kv:=eF.grown aP ec;have D6:(c[k*4]?).isSome=true:=by simp[gy];omega
     have rD:(c[k*4+1]?).isSome=true:=by simp[gy];omega
     have KR:(c[k*4+2]?).isSome=true:=by simp[gy];omega
     have vB:(c[k*4+3]?).isSome=true:=by simp[gy];omega
     obtain⟨old0,IL⟩:=Option.isSome_iff_exists.1 D6;obtain⟨old1,ym⟩:=Option.isSome_iff_exists.1 rD;obtain⟨old2,BJ⟩:=Option.isSome_iff_exists.1 KR;obtain⟨old3,Ie⟩:=Option.isSome_iff_exists.1 vB;have Ow:=(kv.cell (k*4)).trans IL;have Ae:=(kv.cell (k*4+1)).trans ym;have sj:=(kv.cell (k*4+2)).trans BJ;have yl:=(kv.cell (k*4+3)).trans Ie;have IM:=kv.frozen (k*4);have ie:=kv.frozen (k*4+1);have hZ:=kv.frozen (k*4+2);have Zb:=kv.frozen (k*4+3);clear D6 rD KR vB IL ym BJ Ie;go_wp2_with fail;have sk:=aB (aB (aB (aD w2 w1.heap.size (k*4) (.int .i64 f.1.sig)) (aD _ w1.heap.size (k*4+1) (.slice a1 n1 c1))) (aD _ w1.heap.size (k*4+2) (.int .i64 f.1.ax))) (aD _ w1.heap.size (k*4+3) (.slice a2 n2 c2));have Es:Blk _ w1.heap.size (sv c (k*4) (.int .i64 f.1.sig) (.slice a1 n1 c1) (.int .i64 f.1.ax) (.slice a2 n2 c2)) 168:=(((kv.set (k*4) (.int .i64 f.1.sig)).set (k*4+1) (.slice a1 n1 c1)).set (k*4+2) (.int .i64 f.1.ax)).set (k*4+3) (.slice a2 n2 c2);have jM:w1.heap.size+1<=wr.heap.size:=eF.lt;have ar2:dC (w1.heap.size+1) wr w2:=dC.of_grown aP (by intro b e;cases e;omega);have aS:=dC.of_grown (lo:=w1.heap.size+1) sk (by intro b e;cases e;omega);have tw:=BI c (k*4) (.int .i64 f.1.sig) (.slice a1 n1 c1) (.int .i64 f.1.ax) (.slice a2 n2 c2) (by omega);go_roundw
     case rel=>
      refine⟨k+1,l++[f.1],f.2,_,by simp,by omega,by simp[hl],?_,aO (aB bU aP) (nLr _) sk,lM.moved' sk Pb,Es,by simp[vA,gy],?_⟩
      ·have e1:n-(k+1)=m:=by have:=HM.out;omega
       show _=_;rw[d8.out,e1]
      intro i hi;by_cases e:i=k
      ·subst e;obtain⟨t0,t1,t2,t3⟩:=tw;simp only[ajo (ajJ hl),hl,Nat.sub_self,List.getElem_cons_zero];rw[ajC 4 i];exact⟨_,_,t0,t1,t2,t3,(Ac.mono jM).kept aS,(R0.mono jM).kept aS⟩
      have Et:i<k:=by simp at hi;omega
      obtain⟨vl,vc,h1,h2,h3,h4,h5,h6⟩:=hc i (by omega);rw[fV _ _ _ _ _ _ (by omega),fV _ _ _ _ _ _ (by omega),fV _ _ _ _ _ _ (by omega),fV _ _ _ _ _ _ (by omega),ajn (by omega)];exact⟨vl,vc,h1,h2,h3,h4,(h5.kept ar2).kept aS,(h6.kept ar2).kept aS⟩
     case measure=>simp[intOf];omega
   obtain rfl:k=n:=by omega
   have d8:cU [] (d9 bs nsig k (p+1))=.ok (l,q):=by rw[HE.out];simp[d9,cU]
   go_wp2_with fail;go_ret;refine⟨aB hg bU,aY d8 ?_⟩;exact⟨_,rfl,⟨w1.heap.size,c,by rw[hl];rfl,hg.size,eF,hc⟩,nM⟩
def sw(lo:Nat)(w:World)(v:Value)(m:bf):Prop:=
 ∃b vs vf,v=.pointer (some ⟨b,0,none⟩)/\lo<=b/\Blk w b #[vs,vf] 166/\mJ lo w vs m.sigs/\mK lo w vf m.funs
theorem Cu{w:World}{a:Option Addr}{n cap:Nat}(h:4000<n)(hn:n<=9223372036854775807):Calls prog 68 #[.slice a n cap] w fun e w'=>w.grownBy w' none/\e=ep (1,0):=by
 have h':(4000:Int)<(n:Int):=by omega
 go_enter func68,ntmps68;go_wp2_with fail;exact⟨rfl,aH _ _,rfl⟩
theorem Cv(bs:List UInt8):eD bs=if 4000<bs.length then .error (1,0) else bnd (fT bs [84,82,1] 0) fun _=>bnd (oh bs 3) fun s=>bnd (qU bs s.1.length s.2) fun f=> if f.2<bs.length then .error (2,f.2) else .ok {sigs:=s.1,funs:=f.1}:=by
 unfold eD oh qU;split
 ·rfl
 cases fT bs [84,82,1] 0 with
 |error e=>rfl
 |ok u=>
  simp only[aM];cases bN bs 3 1 20 with
  |error e=>rfl
  |ok n=>
   simp only[aM];cases di bs n (3+1) with
   |error e=>rfl
   |ok s=>
    simp only[aM];cases bN bs s.2 1 20 with
    |error e=>rfl
    |ok k=>rfl
theorem sx{bs:List UInt8}:∀{k p:Nat}{l:List Sig×Nat},di bs k p=.ok l->l.1.length=k
 |0,p,l,h=>by simp[di]at h;subst h;rfl
 |k+1,p,l,h=>by
  simp only[di]at h;cases hx:rZ bs p with
  |error e=>simp[hx]at h
  |ok t=>
   cases hy:di bs k t.2 with
   |error e=>simp[hx,hy]at h
   |ok l'=>
    simp[hx,hy]at h;subst h;simp[sx hy]
theorem Cw{bs:List UInt8}{p:Nat}{s:List Sig×Nat}(h:oh bs p=.ok s):1<=s.1.length/\s.1.length<=20:=by
 simp only[oh]at h;cases hn:bN bs p 1 20 with
 |error e=>simp[hn]at h
 |ok n=>
  simp only[hn,aM]at h;rw[sx h];exact mI hn
theorem Eu{w:World}{a:Option Addr}{cap:Nat}{bs:List UInt8}(hb:∀i (h:i<bs.length),∃b o,a=some ⟨b,o,none⟩/\w.cell? ⟨b,o+i,none⟩=some (.int .u8 bs[i].toNat))(hc:bs.length<=cap)(hn:bs.length<=9223372036854775807):Calls prog 68 #[.slice a bs.length cap] w fun e w'=>w.grownBy w' none/\fh (eD bs) (fun m e w'=>∃v,e=.returned v/\sw w.heap.size w' v m) e w':=by
 rw[Cv];by_cases hl:4000<bs.length
 ·rw[ajd hl];exact(Cu hl hn).mono fun e w' ⟨hg,he⟩=>⟨hg,aK rfl he⟩
 rw[ajc hl];have Af:(bs.length:Int)<=4000:=by omega
 have S6:Rd (w.alloc (.cells #[.slice a bs.length cap,.int .i64 0] 172)) w.heap.size a cap bs 0:=
  ⟨Blk.new w _ _,fun i hi=>by
   obtain⟨b,o,e,h1⟩:=hb i hi
   have bM:=World.block_lt_of_cell? w _ h1
   exact⟨b,o,e,bM,by rw[World.cell?_alloc_lt _ _ _ bM];exact h1⟩,by omega,hc,by omega⟩
 have HB:Hid _:=hb;clear hb;have ga:w.grownBy (w.alloc (.cells #[.slice a bs.length cap,.int .i64 0] 172)) none:=aC _ _ _;have gn:∀{x:World},(w.alloc (.cells #[.slice a bs.length cap,.int .i64 0] 172)).grownBy x (some w.heap.size)->w.grownBy x none:=fun h=>aO ga (nLr _) h;go_enter func68,ntmps68;go_wp2_with fail;refine(En S6).mono ?_;rintro e w1 ⟨eZ,up⟩;cases h1:fT bs [84,82,1] 0 with
 |error er=>
  cases up.err h1;go_wp2_with fail;exact⟨rfl,gn eZ,aK (by rw[h1];rfl) rfl⟩
 |ok u=>
  obtain⟨rfl,mB⟩:=up.ok h1;go_wp2_with fail;refine(so mB).mono ?_;rintro e w2 ⟨aP,cO⟩;cases h2:oh bs 3 with
  |error er=>
   cases cO.err h2;go_wp2_with fail;exact⟨rfl,gn (aB eZ aP),aK (by rw[h1,aM,h2];rfl) rfl⟩
  |ok s=>
   obtain⟨vs,rfl,WK,lM⟩:=cO.ok h2;have S7:=WK;obtain⟨gs,cs,rfl,dU,qa,Ag⟩:=S7;have WM:=Cw h2;go_wp2_with fail;refine(uz lM WM.1 WM.2).mono ?_;rintro e w3 ⟨co,kF⟩;cases h3:qU bs s.1.length s.2 with
   |error er=>
    cases kF.err h3;go_wp2_with fail;exact⟨rfl,gn (aB (aB eZ aP) co),aK (by rw[h1,aM,h2,aM,h3];rfl) rfl⟩
   |ok f=>
    obtain⟨vf,rfl,WN,mC⟩:=kF.ok h3;have S8:=WN;obtain⟨gf,cf,rfl,Zc,oJ,D7⟩:=S8;by_cases h4:f.2<bs.length
    ·go_wp2_with (go_at_call 81;refine(Ax mC h4).mono ?_;rintro e w4 ⟨rfl,dv⟩)
     exact⟨rfl,gn (aB (aB (aB eZ aP) co) dv),aK (by rw[h1,aM,h2,aM,h3,aM,ajd h4]) rfl⟩
    go_wp2_with (go_at_call 81;refine(Cq mC h4).mono ?_;rintro e w4 ⟨rfl,dv⟩)
    go_ret;have oi:w.heap.size+1<=w1.heap.size:=by have:=eZ.size;simpa using this
    have Ad:w.heap.size+1<=w2.heap.size:=ajE oi aP.size;have rC:w.heap.size<=w4.heap.size:=by have:=co.size;have:=dv.size;omega
    have A3:dC (w.heap.size+1) w2 w3:=dC.of_grown co (by intro b e;cases e;omega);have A4:dC (w.heap.size+1) w3 w4:=dC.of_grown dv (by intro b e;cases e;omega);have A5:∀o,dC (w.heap.size+1) w4 (w4.alloc o):=fun o=>dC.of_grown (aC w4 o none) (by intro b e;cases e);exact⟨aB (gn (aB (aB (aB eZ aP) co) dv)) (aC _ _ _),aY (by rw[h1,aM,h2,aM,h3,aM,ajc h4]) ⟨_,rfl,_,_,_,rfl,rC,Blk.new _ _ _,
     ((((WK.mono oi).kept A3).kept A4).kept (A5 _)).mono (Nat.le_succ _),(((WN.mono Ad).kept A4).kept (A5 _)).mono (Nat.le_succ _)⟩⟩
