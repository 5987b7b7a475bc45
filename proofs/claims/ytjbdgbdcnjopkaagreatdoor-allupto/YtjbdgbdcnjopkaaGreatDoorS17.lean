import Derived.Test.YtjbdgbdcnjopkaaGreatDoorS16
import Derived.Defers
import Derived.Recover
namespace Go.Proofs.YtjbdgbdcnjopkaaGreatDoor
open Go.RowKit Tryz
set_option linter.all false
set_option maxRecDepth 100000
set_option maxHeartbeats 4000000
theorem Jo:(prog.info? 110).map (fun i=>(i.zero,i.size,i.bytes))=some (some (.agg #[.slice none 0 0,.slice none 0 0,.int .i64 0,.slice none 0 0]),4,80):=by kernel_rfl
theorem pD.keptT{w W:World}{v:Value}{r:bu}(h:pD w v r)(k:∀g c t,t≠110->Blk w g c t->Blk W g c t):pD W v r:=by obtain⟨vt,vg,vp,tb,cs,rfl,h1,h2,h3,h4,h5⟩:=h;exact⟨vt,vg,vp,tb,cs,rfl,h1.top fun g c hb=>k g c 3 (by decide) hb,h2.top fun g c hb=>k g c 3 (by decide) hb,aJ h3 fun g c hb=>k g c 186 (by decide) hb,h4.kept fun g c hb=>k g c 215 (by decide) hb,h5.kept fun g c hb=>k g c 220 (by decide) hb⟩
def BU(w:World)(c:Array Value)(l:List bu):Prop:=
 ∀i (h:i<l.length),∃v0 v1 v2 v3,c[4*i]?=some v0/\c[4*i+1]?=some v1/\c[4*i+2]?=some v2/\c[4*i+3]?=some v3/\pD w (.agg #[v0,v1,v2,v3]) l[i]
def dM(w:World)(v:Value)(l:List bu):Prop:=∃g c,v=.slice (some ⟨g,0,none⟩) l.length l.length/\Blk w g c 110/\BU w c l
theorem yG{w:World}{vm:Value}{m:bf}{B:Nat}(hK:iu B w)(hB:B<=w.heap.size)(hm:dK w.heap.size w vm m)(fQ:fM m)(Ea:∀f∈m.funs,E3 m f):Calls prog 67 #[vm] w fun e w'=>w.grownBy w' none/\fh (bR m m.funs) (fun l e w'=>∃v,e=.returned v/\dM w' v l) e w':=by
 obtain⟨b,gs,gf,cs,cf,rfl,iW,df,kv,m0,m1,qa,oJ,Ag,D7⟩:=hm.parts;have ok2:=fQ.2.1;obtain⟨n,hn⟩:=aja m.funs.length;rw[hn]at m1 ok2;obtain⟨i0,hi,fo,eP,eV⟩:=info_parts Jo;have um:=fun (w:World)=>run_make (P:=prog) w 104 110 i0 _ underlying104 hi fo .i64 .i64 n n (by omega) (by omega) (by rw[eV];omega) (by omega);rw[eP]at um;simp only[Int.toNat_natCast]at um;clear hi fo eP eV;have uJ:(n:Int)<=20:=by omega
 have HN:Hid _:=hn;have MA:Hid _:=D7;have ZL:Hid _:=Ea;clear hn D7 Ea Ag m0;go_enter func67,ntmps67;go_wp2_with fail;go_loopw [17] (fun i wr=>∃(k:Nat) (l:List bu) (c:Array Value),i=.int .i64 k/\k<=n/\l.length=k/\Hid (bR m m.funs=bnd (bR m (m.funs.drop k)) fun r=>.ok (l++r)) /\
   w.grownBy wr none/\Blk wr w.heap.size c 110/\c.size=n*4/\BU wr c l) (fun i _=>n-(intOf i).toNat)
 case atStart=>
  refine⟨0,[],_,rfl,ajl _,rfl,?_,aC _ _ _,Blk.new _ _ _,by simp[madeCells],fun i h=>by simp at h⟩;show _=_;rw[List.drop_zero];cases bR m m.funs <;> rfl
 case round=>
  obtain⟨k,l,c,rfl,hk,hl,HE,bU,eF,gy,hc⟩:=hrel;have Jq:=oJ.grown bU (by simp);by_cases bM:k<n
  ·have pB:(k:Int)<(n:Int):=by omega
   have vI:k<m.funs.length:=by rw[HN.out];exact bM
   obtain⟨vl,vc,h0,h1,h2,h3,Ac,g,cap,cc,rfl,iB,If,qb,La⟩:=MA.out k vI;have jN:=ZL.out _ (ajw vI);have hE:=HE.out;rw[List.drop_eq_getElem_cons vI]at hE;obtain⟨f,hf⟩:=aja (m.funs[k]);rw[hf]at h0 h2 h3 Ac qb La jN hE;simp only[bR]at hE;obtain⟨al,nl,cl,rfl⟩:=Ac.isSlice;have z0:wr.cell? ⟨gf,k*4,none⟩=some (.int .i64 f.sig):=by rw[Jq.cell,ajC];exact h0
   have z1:wr.cell? ⟨gf,k*4+1,none⟩=some (.slice al nl cl):=by rw[Jq.cell,ajC];exact h1
   have z2:wr.cell? ⟨gf,k*4+2,none⟩=some (.int .i64 f.ax):=by rw[Jq.cell,ajC];exact h2
   have z3:wr.cell? ⟨gf,k*4+3,none⟩=some (.slice (some ⟨g,0,none⟩) f.code.length cap):=by rw[Jq.cell,ajC];exact h3
   have aP:=aB bU (aC wr (.cells #[.int .i64 f.sig,.slice al nl cl,.int .i64 f.ax,.slice (some ⟨g,0,none⟩) f.code.length cap] 168) none);have df:Below w.heap.size w (wr.alloc (.cells #[.int .i64 f.sig,.slice al nl cl,.int .i64 f.ax,.slice (some ⟨g,0,none⟩) f.code.length cap] 168)):=(bc.none aP (nLr _)).below;have MY:=yF (hK.kept (df.mono hB)) (ajE hB aP.size) ((hm.kept df).mono aP.size) fQ jN ((Ac.kept df).mono aP.size) (If.grown aP (by simp)) qb La;have Im:Hid _:=hE;have HF:Hid _:=hf;clear hE HE h0 h1 h2 h3;go_wp2_with fail;refine MY.mono ?_;rintro e w3 ⟨co,kF⟩;have xl:=aB aP co;cases hx:cz m f with
   |error er=>
    cases kF.err hx;have hr:Hid (bR m m.funs=.error er):=by show _=_;rw[Im.out,hx];rfl
    clear kF MY;go_wp2_with fail;exact⟨rfl,xl,aK hr.out rfl⟩
   |ok r=>
    obtain⟨v3,rfl,et⟩:=kF.ok hx;have AQ:=et;obtain⟨vt,vg,vp,tb,cs3,rfl,ZM,TS,Ie,_⟩:=AQ;obtain⟨at1,nt1,ct1,rfl⟩:=ZM.isSlice;obtain⟨at2,nt2,ct2,rfl⟩:=TS.isSlice;obtain⟨pa,pcap,rfl,_,_⟩:=aG Ie;have d8:Hid (bR m m.funs=bnd (bR m (m.funs.drop (k+1))) fun r'=>.ok ((l++[r])++r')):=by show _=_;rw[Im.out,hx];cases bR m (m.funs.drop (k+1)) <;> simp
    have kv:Blk w3 w.heap.size c 110:=(eF.alloc _).grown co (by simp);have D6:(c[k*4]?).isSome=true:=by simp[gy];omega
    have rD:(c[k*4+1]?).isSome=true:=by simp[gy];omega
    have KR:(c[k*4+2]?).isSome=true:=by simp[gy];omega
    have vB:(c[k*4+3]?).isSome=true:=by simp[gy];omega
    obtain⟨old0,IL⟩:=Option.isSome_iff_exists.1 D6;obtain⟨old1,ym⟩:=Option.isSome_iff_exists.1 rD;obtain⟨old2,BJ⟩:=Option.isSome_iff_exists.1 KR;obtain⟨old3,PD⟩:=Option.isSome_iff_exists.1 vB;have Ow:=(kv.cell (k*4)).trans IL;have Ae:=(kv.cell (k*4+1)).trans ym;have sj:=(kv.cell (k*4+2)).trans BJ;have yl:=(kv.cell (k*4+3)).trans PD;have IM:=kv.frozen (k*4);have ie:=kv.frozen (k*4+1);have hZ:=kv.frozen (k*4+2);have Zb:=kv.frozen (k*4+3);clear D6 rD KR vB IL ym BJ PD kF MY;go_wp2_with fail;have sk:=aB (aB (aB (aD w3 w.heap.size (k*4) (.slice at1 nt1 ct1)) (aD _ w.heap.size (k*4+1) (.slice at2 nt2 ct2))) (aD _ w.heap.size (k*4+2) (.int .i64 r.ai))) (aD _ w.heap.size (k*4+3) (.slice pa r.ay.length pcap));have Es:Blk _ w.heap.size (sv c (k*4) (.slice at1 nt1 ct1) (.slice at2 nt2 ct2) (.int .i64 r.ai) (.slice pa r.ay.length pcap)) 110:=(((kv.set (k*4) (.slice at1 nt1 ct1)).set (k*4+1) (.slice at2 nt2 ct2)).set (k*4+2) (.int .i64 r.ai)).set (k*4+3) (.slice pa r.ay.length pcap);have kS:=fun g c' t (ht:t≠110) (hb:Blk w3 g c' t)=>aF sk kv hb ht;have tw:=BI c (k*4) (.slice at1 nt1 ct1) (.slice at2 nt2 ct2) (.int .i64 r.ai) (.slice pa r.ay.length pcap) (by omega);go_roundw
    case rel=>
     refine⟨k+1,l++[r],_,by simp,by omega,by simp[hl],d8,aO xl (nLr _) sk,Es,by simp[vA,gy],?_⟩;intro i hi;by_cases e:i=k
     ·subst e;obtain⟨t0,t1,t2,t3⟩:=tw;simp only[ajo (ajJ hl),hl,Nat.sub_self,List.getElem_cons_zero];rw[ajC 4 i];exact⟨_,_,_,_,t0,t1,t2,t3,et.keptT kS⟩
     have Et:i<k:=by simp at hi;omega
     obtain⟨v0,v1,v2,v3,y0,y1,y2,y3,y4⟩:=hc i (by omega);rw[fV _ _ _ _ _ _ (by omega),fV _ _ _ _ _ _ (by omega),fV _ _ _ _ _ _ (by omega),fV _ _ _ _ _ _ (by omega),ajn (by omega)];exact⟨v0,v1,v2,v3,y0,y1,y2,y3,(y4.keptT fun g c' t _ hb=>(hb.alloc _).grown co (by simp)).keptT kS⟩
    case measure=>simp[intOf];omega
  obtain rfl:k=n:=by omega
  have d8:bR m m.funs=.ok l:=by rw[HE.out,<-HN.out,List.drop_length];simp[bR]
  go_wp2_with fail;go_ret;exact⟨bU,aY d8 ⟨_,rfl,w.heap.size,c,by rw[hl];rfl,eF,hc⟩⟩
theorem jZ{bs:List UInt8}{p lo hi n:Nat}(h:bN bs p lo hi=.ok n):lo<=n/\n<=hi:=by
 obtain⟨x,_,h⟩:=bV h;split at h
 ·cases h
 cases h;omega
theorem sL{bs:List UInt8}:∀(k p:Nat) {l:List Nat},dm bs k p=.ok l->l.length=k/\∀t∈l,t<=2
 |0,p,l,h=>by cases h;simp
 |k+1,p,l,h=>by
  obtain⟨t,ht,h⟩:=bV h;obtain⟨r,hr,h⟩:=bV h;cases h;obtain⟨h1,h2⟩:=sL k _ hr;have:=jZ ht;refine⟨by simp[h1],fun x hx=>?_⟩;rcases List.mem_cons.1 hx with rfl|hx
  ·omega
  exact h2 x hx
theorem qr{bs:List UInt8}{p most:Nat}{l:List Nat}(h:eO bs p most=.ok l):l.length<=most/\∀t∈l,t<=2:=by obtain⟨k,hk,h⟩:=bV h;obtain⟨h1,h2⟩:=sL _ _ h;have:=jZ hk;exact⟨by omega,h2⟩
theorem vJ{bs:List UInt8}:∀(k p:Nat) {r:List Sig×Nat},di bs k p=.ok r->r.1.length=k/\∀g∈r.1,g.1.length<=6/\g.2.length<=6/\(∀t∈g.1,t<=2)/\∀t∈g.2,t<=2
 |0,p,r,h=>by cases h;simp
 |k+1,p,r,h=>by
  obtain⟨s,hs,h⟩:=bV h;obtain⟨l,hl,h⟩:=bV h;cases h;obtain⟨h1,h2⟩:=vJ k _ hl;refine⟨by simp[h1],fun x hx=>?_⟩;rcases List.mem_cons.1 hx with rfl|hx
  ·obtain⟨ts,Ao,hs⟩:=bV hs;obtain⟨gs,dU,hs⟩:=bV hs;cases hs;obtain⟨a1,a2⟩:=qr Ao;obtain⟨b1,b2⟩:=qr dU;exact⟨a1,by simp only;omega,a2,b2⟩
  exact h2 x hx
theorem vK{bs:List UInt8}{nsig:Nat}(hb:bs.length<=4000)(hn:0<nsig):∀(k p:Nat) {r:List ck×Nat},d9 bs nsig k p=.ok r->r.1.length=k/\∀f∈r.1,f.sig<nsig/\f.ai.length<=8/\(∀t∈f.ai,t<=2)/\f.code.length<=400/\f.ax<=4000
 |0,p,r,h=>by cases h;simp
 |k+1,p,r,h=>by
  obtain⟨s,hs,h⟩:=bV h;obtain⟨l,hl,h⟩:=bV h;cases h;obtain⟨h1,h2⟩:=vK hb hn k _ hl;refine⟨by simp[h1],fun x hx=>?_⟩;rcases List.mem_cons.1 hx with rfl|hx
  ·obtain⟨n,EJ,hs⟩:=bV hs;obtain⟨ls,Sh,hs⟩:=bV hs;obtain⟨len,aQ,hs⟩:=bV hs;obtain⟨c,hc,hs⟩:=bV hs;cases hs;obtain⟨a1,a2⟩:=qr Sh;have n1:=jZ EJ;have n2:1<=len/\len<=400:=by
    obtain⟨x,_,aQ⟩:=bV aQ;obtain⟨y,_,aQ⟩:=bV aQ;split at aQ
    ·cases aQ
    cases aQ;omega
   unfold vx at hc;split at hc
   ·cases hc
   cases hc;refine⟨by simp only;omega,a1,a2,by simp;omega,by simp only;omega⟩
  exact h2 x hx
theorem sM{bs:List UInt8}{m:bf}(h:eD bs=.ok m):fM m/\(∀f∈m.funs,E3 m f)/\0<m.funs.length/\0<m.sigs.length:=by
 unfold eD at h;split at h
 ·cases h
 obtain⟨_,_,h⟩:=bV h;obtain⟨n,hn,h⟩:=bV h;obtain⟨s,hs,h⟩:=bV h;obtain⟨k,hk,h⟩:=bV h;obtain⟨f,hf,h⟩:=bV h;split at h
 ·cases h
 cases h;have n1:=jZ hn;have n2:=jZ hk;obtain⟨s1,s2⟩:=vJ _ _ hs;obtain⟨f1,f2⟩:=vK (by omega) (by omega) _ _ hf;exact⟨⟨by simp only;omega,by simp only;omega,fun x hx=>(f2 x hx).1,s2⟩,f2,by simp only;omega,by simp only;omega⟩
theorem CM(a b:Value)(w:World):(Instr.typeAssert (.iface 161 (.agg #[a,b])) 20 161 true).run prog w=.ok (.tuple #[.agg #[a,b],.bool true]) w:=by kernel_rfl
theorem yH(e p:Nat)(w:World):Calls prog 66 #[.iface 161 (.agg #[.int .i64 e,.int .i64 p])] w fun ee w'=> ee=.returned (.tuple #[.int .i64 e,.int .i64 p])/\w.grownBy w' none:=by
 have hta:=CM (.int .i64 e) (.int .i64 p);go_enter func66,ntmps66;go_wp2_with fail;go_region
 go_wp2_with fail;exact bodyPost_ret (v:=.tuple #[.int .i64 e,.int .i64 p]) (by simp[results,results66,go_sem]) rfl ⟨rfl,aE (aC _ _ _)⟩
theorem AR(p q r:Addr)(w:World):CallsD prog 65 #[.pointer (some p),.pointer (some q),.pointer (some r)] .returning w fun e u' w'=>e=.returned (.tuple #[])/\u'=.returning/\w'=w:=by
 refine callsD_of_wpS func65 rfl fun c₀ cs hu=>?_;apply wpS_seq;apply wpS_region;simp[wpOpsS,go_sem,recoverD,hu,ntmps65,Exit.thenS];have MK:∀w:World,(binOp BinOp.neq 20 .nilIface .nilIface).run prog w=.ok (.bool false) w:=fun _=>by kernel_rfl
 refine wpS_of_wp ?_;simp only[Array.replicate];go_wp2;cases c₀;simp_all [bodyPostS,results,results65]
theorem mo(p q r:Nat)(e0 p0:Nat)(older:List PanicEntry)(w:World)(b0:Blk w p #[.pointer none] 39)(b1:Blk w q #[.int .i64 0] 66)(b2:Blk w r #[.int .i64 0] 3):CallsD prog 65 #[.pointer (some ⟨p,0,none⟩),.pointer (some ⟨q,0,none⟩),.pointer (some ⟨r,0,none⟩)] (.panicking ({v:=.iface 161 (.agg #[.int .i64 e0,.int .i64 p0]),recovered:=false}::older)) w fun e u' w'=> e=.returned (.tuple #[])/\u'=.panicking ({v:=.iface 161 (.agg #[.int .i64 e0,.int .i64 p0]),recovered:=true}::older)/\∃w1,(w.setCell ⟨p,0,none⟩ (.pointer none)).grownBy w1 none/\w'=(w1.setCell ⟨q,0,none⟩ (.int .i64 e0)).setCell ⟨r,0,none⟩ (.int .i64 p0):=by
 refine callsD_of_wpS func65 rfl fun c₀ cs hu=>?_;apply wpS_seq;apply wpS_region;simp[wpOpsS,go_sem,recoverD,hu,ntmps65,Exit.thenS];have MK:∀w:World,(binOp BinOp.neq 20 (.iface 161 (.agg #[.int .i64 e0,.int .i64 p0])) .nilIface).run prog w=.ok (.bool true) w:=fun _=>by kernel_rfl
 refine wpS_of_wp ?_;simp only[Array.replicate];have c0:=b0.cell 0;have f0:=b0.frozen 0;simp at c0;have b1':=b1.setOther (a:=⟨p,0,none⟩) (.pointer none) (by intro e;subst e;have:=b0.symm.trans b1;cases this);have b2':=b2.setOther (a:=⟨p,0,none⟩) (.pointer none) (by intro e;subst e;have:=b0.symm.trans b2;cases this);go_wp2_with (go_at_call 66;refine(yH e0 p0 _).mono ?_;rintro e w1 ⟨rfl,eZ⟩;have d1:=b1'.grown eZ (by simp);have d2:=(b2'.grown eZ (by simp)).setOther (a:=⟨q,0,none⟩) (.int .i64 e0) (by intro e;subst e;have:=b1.symm.trans b2;cases this);have x1:=d1.cell 0;have y1:=d1.frozen 0;have x2:=d2.cell 0;have y2:=d2.frozen 0;simp at x1 x2)
 cases c₀;simp_all [bodyPostS,results,results65];exact⟨_,eZ,rfl⟩
theorem sw.low{lo:Nat}{w:World}{v:Value}{m:bf}(h:sw lo w v m):dK w.heap.size w v m:=by obtain⟨b,vs,vf,rfl,_,h1,h2,h3⟩:=h;exact⟨w,nLr _,⟨b,vs,vf,rfl,ajl _,h1,h2.mono (ajl _),h3.mono (ajl _)⟩,Below.refl _ _⟩
theorem pD.kept39{w W:World}{v:Value}{r:bu}(h:pD w v r)(k:∀g c t,t≠39->Blk w g c t->Blk W g c t):pD W v r:=by obtain⟨vt,vg,vp,tb,cs,rfl,h1,h2,h3,h4,h5⟩:=h;exact⟨vt,vg,vp,tb,cs,rfl,h1.top fun g c hb=>k g c 3 (by decide) hb,h2.top fun g c hb=>k g c 3 (by decide) hb,aJ h3 fun g c hb=>k g c 186 (by decide) hb,h4.kept fun g c hb=>k g c 215 (by decide) hb,h5.kept fun g c hb=>k g c 220 (by decide) hb⟩
theorem dM.kept39{w W:World}{v:Value}{l:List bu}(h:dM w v l)(k:∀g c t,t≠39->Blk w g c t->Blk W g c t):dM W v l:=by obtain⟨g,c,rfl,h1,h2⟩:=h;exact⟨g,c,rfl,k g c 110 (by decide) h1,fun i hi=>by obtain⟨v0,v1,v2,v3,y0,y1,y2,y3,y4⟩:=h2 i hi;exact⟨v0,v1,v2,v3,y0,y1,y2,y3,y4.kept39 k⟩⟩
theorem jo{w:World}{q tq g t:Nat}{u:Value}{c:Array Value}(hq:Blk w q #[u] tq)(hb:Blk w g c t):Blk (w.setCell ⟨q,0,none⟩ u) g c t:=by
 by_cases e:g=q
 ·subst e;have h2:=hb.symm.trans hq;cases h2;have:=hq.set 0 u;simp at this;exact this
 exact hb.setOther (a:=⟨q,0,none⟩) u (by simpa using fun h=>e h)
def vM(w':World)(x:Except Er (List bu))(v:Value)(er:Er):Prop:=
 match x with
 |.ok l=>er=(0,0)/\∃b vf,v=.pointer (some ⟨b,0,none⟩)/\Blk w' b #[vf] 106/\dM w' vf l
 |.error e=>er=e/\v=.pointer none
theorem E6{w:World}{B:Nat}{a:Option Addr}{cap:Nat}{bs:List UInt8}(hK:iu B w)(hB:B<=w.heap.size)(hb:∀i (h:i<bs.length),∃b o,a=some ⟨b,o,none⟩/\w.cell? ⟨b,o+i,none⟩=some (.int .u8 bs[i].toNat))(hc:bs.length<=cap)(hn:bs.length<=9223372036854775807):Calls prog 46 #[.slice a bs.length cap] w fun e w'=>w.grownBy w' none/\∃v er,e=.returned (.tuple #[v,.int .i64 (er:Er).1,.int .i64 er.2])/\vM w' (eU bs) v er:=by
 have hmf:∀(fn:Fn) (first cap:Array Value) (w:World),(Instr.makeFunc fn first cap).run prog w=.ok (.func fn first cap) w:=fun _ _ _ _=>rfl;have oa:w.grownBy (((w.alloc (.cells #[.pointer none] 39)).alloc (.cells #[.int .i64 0] 66)).alloc (.cells #[.int .i64 0] 3)) none:=aB (aB (aC _ _ _) (aC _ _ _)) (aC _ _ _);have hR:=Eu (w:=((w.alloc (.cells #[.pointer none] 39)).alloc (.cells #[.int .i64 0] 66)).alloc (.cells #[.int .i64 0] 3)) (a:=a) (cap:=cap) (bs:=bs) (fun i hi=>by
  obtain⟨b,o,h1,h2⟩:=hb i hi
  exact⟨b,o,h1,(ajK (w:=w) (oa.block b (World.block_lt_of_cell? w _ h2) (by simp))).trans h2⟩) hc hn
 have q0:Blk (((w.alloc (.cells #[.pointer none] 39)).alloc (.cells #[.int .i64 0] 66)).alloc (.cells #[.int .i64 0] 3)) w.heap.size #[.pointer none] 39:=((Blk.new w _ _).alloc _).alloc _;have q1:Blk (((w.alloc (.cells #[.pointer none] 39)).alloc (.cells #[.int .i64 0] 66)).alloc (.cells #[.int .i64 0] 3)) (w.heap.size+1) #[.int .i64 0] 66:=by have:=Blk.new (w.alloc (.cells #[.pointer none] 39)) #[.int .i64 0] 66;rw[ajz]at this;exact this.alloc _
 have q2:Blk (((w.alloc (.cells #[.pointer none] 39)).alloc (.cells #[.int .i64 0] 66)).alloc (.cells #[.int .i64 0] 3)) (w.heap.size+1+1) #[.int .i64 0] 3:=by have:=Blk.new ((w.alloc (.cells #[.pointer none] 39)).alloc (.cells #[.int .i64 0] 66)) #[.int .i64 0] 3;rw[ajz,ajz]at this;exact this
 obtain⟨w3,xY⟩:=aja ((((w.alloc (.cells #[.pointer none] 39)).alloc (.cells #[.int .i64 0] 66)).alloc (.cells #[.int .i64 0] 3)));rw[xY]at oa hR q0 q1 q2
 go_enter_defers func46,ntmps46
 go_wp2_with fail;refine hR.mono ?_;rintro e w1 ⟨eZ,up⟩;cases hx:eD bs with
 |error er=>
  cases up.err hx;go_wp2_with fail;have b0:=q0.grown eZ (by simp);have b1:=q1.grown eZ (by simp);have b2:=q2.grown eZ (by simp);refine leaves_cons (f:=65) (args:=#[.pointer (some ⟨w.heap.size,0,none⟩),.pointer (some ⟨w.heap.size+1,0,none⟩),.pointer (some ⟨w.heap.size+1+1,0,none⟩)]) (by simp) (by simp[go_sem]) ?_;refine(mo w.heap.size (w.heap.size+1) (w.heap.size+1+1) er.1 er.2 [] w1 b0 b1 b2).mono ?_;rintro e u' w'' ⟨rfl,rfl,w9,kw,rfl⟩;have g1:w.grownBy (w1.setCell ⟨w.heap.size,0,none⟩ (.pointer none)) none:=aO (aB oa eZ) (nLr _) (aD _ _ _ _);have g2:=aO (aB g1 kw) (Nat.le_succ w.heap.size) (aD w9 (w.heap.size+1) 0 (.int .i64 er.1));have g3:=aO g2 (show w.heap.size<=w.heap.size+1+1 by omega) (aD _ (w.heap.size+1+1) 0 (.int .i64 er.2));have k0:=(b0.set 0 (.pointer none)).grown kw (by simp);have k1:=(b1.setOther (a:=⟨w.heap.size,0,none⟩) (.pointer none) (by simp)).grown kw (by simp);have k2:=(b2.setOther (a:=⟨w.heap.size,0,none⟩) (.pointer none) (by simp;omega)).grown kw (by simp);have l0:=((k0.setOther (a:=⟨w.heap.size+1,0,none⟩) (.int .i64 er.1) (by simp)).setOther (a:=⟨w.heap.size+1+1,0,none⟩) (.int .i64 er.2) (by simp;omega)).cell 0;have l1:=((k1.set 0 (.int .i64 er.1)).setOther (a:=⟨w.heap.size+1+1,0,none⟩) (.int .i64 er.2) (by simp)).cell 0;have l2:=((k2.setOther (a:=⟨w.heap.size+1,0,none⟩) (.int .i64 er.1) (by simp)).set 0 (.int .i64 er.2)).cell 0;simp at l0 l1 l2;obtain⟨WF,E5⟩:=aja (((w9.setCell ⟨w.heap.size+1,0,none⟩ (.int .i64 er.1)).setCell ⟨w.heap.size+1+1,0,none⟩ (.int .i64 er.2)));rw[E5]at g3 l0 l1 l2 ⊢;clear E5;simp[Leaves,settle,results,results46,go_sem,l0,l1,l2];refine⟨g3,.pointer none,er.1,er.2,⟨rfl,rfl,rfl⟩,?_⟩;rw[(show eU bs=.error er by simp[eU,hx])];exact⟨rfl,rfl⟩
 |ok m=>
  obtain⟨v1,rfl,Xr⟩:=up.ok hx;obtain⟨sok,fok,_,_⟩:=sM hx;have PE:=aB oa eZ;have MY:=yG (hK.kept (bc.none PE hB).below) (ajE hB PE.size) Xr.low sok fok;obtain⟨bm,vsm,vfm,rfl,_⟩:=Xr;clear xY up hR;go_wp2_with fail;refine MY.mono ?_;rintro e w2 ⟨aP,cO⟩;have yI:=aB eZ aP;cases hy:bR m m.funs with
  |error er=>
   cases cO.err hy;clear cO MY;go_wp2_with fail;have b0:=q0.grown yI (by simp);have b1:=q1.grown yI (by simp);have b2:=q2.grown yI (by simp);refine leaves_cons (f:=65) (args:=#[.pointer (some ⟨w.heap.size,0,none⟩),.pointer (some ⟨w.heap.size+1,0,none⟩),.pointer (some ⟨w.heap.size+1+1,0,none⟩)]) (by simp) (by simp[go_sem]) ?_;refine(mo w.heap.size (w.heap.size+1) (w.heap.size+1+1) er.1 er.2 [] w2 b0 b1 b2).mono ?_;rintro e u' w'' ⟨rfl,rfl,w9,kw,rfl⟩;have g1:w.grownBy (w2.setCell ⟨w.heap.size,0,none⟩ (.pointer none)) none:=aO (aB oa yI) (nLr _) (aD _ _ _ _);have g2:=aO (aB g1 kw) (Nat.le_succ w.heap.size) (aD w9 (w.heap.size+1) 0 (.int .i64 er.1));have g3:=aO g2 (show w.heap.size<=w.heap.size+1+1 by omega) (aD _ (w.heap.size+1+1) 0 (.int .i64 er.2));have k0:=(b0.set 0 (.pointer none)).grown kw (by simp);have k1:=(b1.setOther (a:=⟨w.heap.size,0,none⟩) (.pointer none) (by simp)).grown kw (by simp);have k2:=(b2.setOther (a:=⟨w.heap.size,0,none⟩) (.pointer none) (by simp;omega)).grown kw (by simp);have l0:=((k0.setOther (a:=⟨w.heap.size+1,0,none⟩) (.int .i64 er.1) (by simp)).setOther (a:=⟨w.heap.size+1+1,0,none⟩) (.int .i64 er.2) (by simp;omega)).cell 0;have l1:=((k1.set 0 (.int .i64 er.1)).setOther (a:=⟨w.heap.size+1+1,0,none⟩) (.int .i64 er.2) (by simp)).cell 0;have l2:=((k2.setOther (a:=⟨w.heap.size+1,0,none⟩) (.int .i64 er.1) (by simp)).set 0 (.int .i64 er.2)).cell 0;simp at l0 l1 l2;obtain⟨WF,E5⟩:=aja (((w9.setCell ⟨w.heap.size+1,0,none⟩ (.int .i64 er.1)).setCell ⟨w.heap.size+1+1,0,none⟩ (.int .i64 er.2)));rw[E5]at g3 l0 l1 l2 ⊢;clear E5;simp[Leaves,settle,results,results46,go_sem,l0,l1,l2];refine⟨g3,.pointer none,er.1,er.2,⟨rfl,rfl,rfl⟩,?_⟩;rw[(show eU bs=.error er by simp[eU,hx,hy])];exact⟨rfl,rfl⟩
  |ok l=>
   obtain⟨v2,rfl,g2,c2,rfl,Eg,Jr⟩:=cO.ok hy;clear cO MY;have b0:=q0.grown yI (by simp);have b1:=q1.grown yI (by simp);have b2:=q2.grown yI (by simp);have x0:=b0.cell 0;have x1:=b1.cell 0;have x2:=b2.cell 0;have y0:=b0.frozen 0;have y1:=b1.frozen 0;have y2:=b2.frozen 0;simp at x0 x1 x2;have z0:=b0.lt;have z1:=b1.lt;have z2:=b2.lt;go_wp2_with fail;have d1:=b1.setOther (a:=⟨w.heap.size,0,none⟩) (.pointer (some ⟨w2.heap.size,0,none⟩)) (by simp);have d2:=jo d1 (b2.setOther (a:=⟨w.heap.size,0,none⟩) (.pointer (some ⟨w2.heap.size,0,none⟩)) (by simp;omega));have PF:=jo d2 (jo d1 (b0.set 0 (.pointer (some ⟨w2.heap.size,0,none⟩))));simp at PF;have PG:=jo d2 (jo d1 d1);have gY:=jo d2 d2;have kT:∀g c t,t≠39->Blk w2 g c t->Blk ((((w2.setCell ⟨w.heap.size,0,none⟩ (.pointer (some ⟨w2.heap.size,0,none⟩))).setCell ⟨w.heap.size+1,0,none⟩ (.int .i64 0)).setCell ⟨w.heap.size+1+1,0,none⟩ (.int .i64 0)).alloc (.cells #[.slice (some ⟨g2,0,none⟩) l.length l.length] 106)) g c t:=fun g c t ht hb=>
    (jo d2 (jo d1 (aF (aD w2 w.heap.size 0 _) b0 hb ht))).alloc _
   have hN:Blk ((((w2.setCell ⟨w.heap.size,0,none⟩ (.pointer (some ⟨w2.heap.size,0,none⟩))).setCell ⟨w.heap.size+1,0,none⟩ (.int .i64 0)).setCell ⟨w.heap.size+1+1,0,none⟩ (.int .i64 0)).alloc (.cells #[.slice (some ⟨g2,0,none⟩) l.length l.length] 106)) w2.heap.size #[.slice (some ⟨g2,0,none⟩) l.length l.length] 106:=by
    have:=Blk.new (((w2.setCell ⟨w.heap.size,0,none⟩ (.pointer (some ⟨w2.heap.size,0,none⟩))).setCell ⟨w.heap.size+1,0,none⟩ (.int .i64 0)).setCell ⟨w.heap.size+1+1,0,none⟩ (.int .i64 0)) #[.slice (some ⟨g2,0,none⟩) l.length l.length] 106;have gy:(((w2.setCell ⟨w.heap.size,0,none⟩ (.pointer (some ⟨w2.heap.size,0,none⟩))).setCell ⟨w.heap.size+1,0,none⟩ (.int .i64 0)).setCell ⟨w.heap.size+1+1,0,none⟩ (.int .i64 0)).heap.size=w2.heap.size:=by simp[World.setCell]
    rwa [gy]at this
   have gF:w.grownBy ((((w2.setCell ⟨w.heap.size,0,none⟩ (.pointer (some ⟨w2.heap.size,0,none⟩))).setCell ⟨w.heap.size+1,0,none⟩ (.int .i64 0)).setCell ⟨w.heap.size+1+1,0,none⟩ (.int .i64 0)).alloc (.cells #[.slice (some ⟨g2,0,none⟩) l.length l.length] 106)) none:=by refine aB (b:=(((w2.setCell ⟨w.heap.size,0,none⟩ (.pointer (some ⟨w2.heap.size,0,none⟩))).setCell ⟨w.heap.size+1,0,none⟩ (.int .i64 0)).setCell ⟨w.heap.size+1+1,0,none⟩ (.int .i64 0))) ?_ (aC _ _ _);exact aO (aO (aO (aB oa yI) (nLr _) (aD _ _ _ _)) (Nat.le_succ _) (aD _ _ _ _)) (show w.heap.size<=w.heap.size+1+1 by omega) (aD _ _ _ _)
   have Xs:dM ((((w2.setCell ⟨w.heap.size,0,none⟩ (.pointer (some ⟨w2.heap.size,0,none⟩))).setCell ⟨w.heap.size+1,0,none⟩ (.int .i64 0)).setCell ⟨w.heap.size+1+1,0,none⟩ (.int .i64 0)).alloc (.cells #[.slice (some ⟨g2,0,none⟩) l.length l.length] 106)) (.slice (some ⟨g2,0,none⟩) l.length l.length) l:=dM.kept39 ⟨g2,c2,rfl,Eg,Jr⟩ kT;have l0:=(PF.alloc (.cells #[.slice (some ⟨g2,0,none⟩) l.length l.length] 106)).cell 0;have l1:=(PG.alloc (.cells #[.slice (some ⟨g2,0,none⟩) l.length l.length] 106)).cell 0;have l2:=(gY.alloc (.cells #[.slice (some ⟨g2,0,none⟩) l.length l.length] 106)).cell 0;simp at l0 l1 l2;obtain⟨WF,E5⟩:=aja (((((w2.setCell ⟨w.heap.size,0,none⟩ (.pointer (some ⟨w2.heap.size,0,none⟩))).setCell ⟨w.heap.size+1,0,none⟩ (.int .i64 0)).setCell ⟨w.heap.size+1+1,0,none⟩ (.int .i64 0)).alloc (.cells #[.slice (some ⟨g2,0,none⟩) l.length l.length] 106)));rw[E5]at hN gF Xs l0 l1 l2 ⊢;clear E5 kT;refine leaves_cons (f:=65) (args:=#[.pointer (some ⟨w.heap.size,0,none⟩),.pointer (some ⟨w.heap.size+1,0,none⟩),.pointer (some ⟨w.heap.size+1+1,0,none⟩)]) (by simp) (by simp[go_sem]) ?_;refine(AR _ _ _ WF).mono ?_;rintro e u' w'' ⟨rfl,rfl,rfl⟩;simp[Leaves,settle,results,results46,go_sem,l0,l1,l2];refine⟨gF,.pointer (some ⟨w2.heap.size,0,none⟩),0,0,⟨rfl,rfl,rfl⟩,?_⟩;rw[show eU bs=.ok l by simp[eU,hx,hy]];exact⟨rfl,_,_,rfl,hN,Xs⟩
