import Derived.Test.YtjbdgbdcnjopkaaGreatDoorS46
import Derived.Deep.Quiet
namespace Go.Proofs.YtjbdgbdcnjopkaaGreatDoor
open Go.RowKit Tryz
set_option linter.all false
set_option maxRecDepth 100000
set_option maxHeartbeats 4000000
theorem pZ{fn:Func}{t u v x:Tmp}(h:fn.results=#[.tmp t,.tmp u,.tmp v,.tmp x])(tmps:Array Value)(P:Program)(w:World):(results fn tmps).run P w=.ok (.tuple #[tmps.getD t undef,tmps.getD u undef,tmps.getD v undef,tmps.getD x undef]) w:=by simp[results,h]
theorem uj:∀{ts:List Nat}{xs:List Int},bG ts xs->fj ts xs=true
 | [],[],_=>rfl
 |t::ts,x::xs,h=>by
  simp only[fj,uj h.2,Bool.and_true];rcases h.1 with⟨rfl,h1⟩|⟨rfl,_⟩
  ·unfold eX at h1;rw[pY.2 ⟨h1.1,by omega⟩];rfl
  rfl
 | [],x::xs,h=>False.elim h
 |t::ts,[],h=>False.elim h
theorem DZ{l:List Int}{k:Nat}(h:k<l.length):cA (l.take (k+1))=cA (l.take k)++[.int .i64 l[k]]:=by rw[lI h];unfold cA;rw[List.map_append];rfl
section
variable {az:Nat}{w:World}{m:Nat}{ads:List Nat}{mm:bf}{fs:List bu}{aA:Nat}
theorem pV.fn(h:pV az w m mm ads){i:Nat}(hi:i<mm.funs.length):∃vs gF capF f cs1 cs2,Blk w m #[vs,.slice (some ⟨gF,0,none⟩) mm.funs.length capF] 38/\ads[i]?=some f/\w.cell? ⟨gF,i,none⟩=some (ptr f)/\Blk w gF cs1 50/\Blk w f cs2 49:=by
 obtain⟨vs,vf,h1,h2,h3⟩:=h.ga.mod;have WB:i<ads.length:=by rw[h.ga.len];exact hi
 obtain⟨vt,vg,vl,vb,hb,_⟩:=h.ga.fns i hi ads[i] (gEg WB);rcases h3.2 with⟨_,h0⟩|⟨g,cap,cur,rfl,_,df,_⟩
 ·omega
 have c1:=(bK h3 (j:=i) (by omega)).1;exact⟨vs,g,cap,ads[i],cur,_,h1,gEg WB,by rw[c1];simp[gEg WB],df,hb⟩
theorem KJ(hp:Pu mm fs aA)(mA:pV az w m mm ads){i:Nat}{lf:bu}(hf:fs[i]?=some lf){sp:Option Addr}{cap:Nat}{args:List Int}(ha:dt w sp args)(hv:bG lf.aj args){o:Out}(hr:wQ fs i args aA=some o):Calls prog 39 #[ptr m,.int .i64 i,.slice sp args.length cap,.int .i64 aA] w fun e w'=>w.grownBy w' none/\∃vv,e=.returned (.tuple #[.int .i64 o.ends,.int .i64 o.ay,vv,.int .i64 0])/\w'.ownsRow w.heap.size 2 1 vv o.values.length (cA o.values):=by
 obtain⟨pf,ai,T,R,P,n,hF⟩:=hp.fns i lf hf;have bM:=(gEs.1 hF.tr.fn).1;have vh:mm.funs[i]'bM=pf:=by have:=hF.tr.fn;rw[gEg bM]at this;exact Option.some.inj this
 have iD:da mm i=(lf.aj,lf.ak):=jz bM (by rw[vh];exact hF.tr.sig);have co:=(hp.high hF (ajl _)).2.2.2.1;have YW:lf.aj.length<=6:=by have:=hp.sigs _ (gMo hF.tr.sig);exact this.1
 obtain⟨vs,gF,capF,f,cs1,cs2,b1,Ci,cF,b2,b3⟩:=mA.fn bM;have xJ:=mA.ga.fns i bM f Ci;rw[iD]at xJ;have KK:=DS (cap:=cap) xJ ha YW;rw[uj hv]at KK;obtain⟨vt,vg,vl,vb,t1,t2,t3,t4⟩:=xJ;simp only at t2 t3;have F0:=t1.cell 0;simp at F0;obtain⟨aq,capq,oI,_,_⟩:=aG t2;rw[oI]at F0;obtain⟨na,uv⟩:=aja args.length;have ld:lf.aj.length=na:=by rw[hv.len,uv]
 rw[ld]at F0;have zI:∀k,k<na->∃gq t v bA oA,aq=some ⟨gq,0,none⟩/\sp=some ⟨bA,oA,none⟩/\bA<w.heap.size/\w.cell? ⟨bA,oA+k,none⟩=some (.int .i64 v)/\lf.aj[k]?=some t/\args[k]?=some v/\w.cell? ⟨gq,k,none⟩=some (.int .i64 t)/\∃cs,Blk w gq cs 3:=fun k hk=>by
  have jl:k<lf.aj.length:=by omega
  have SH:k<args.length:=by omega
  obtain⟨bA,oA,a1,a2,a3⟩:=ha (by omega);rcases t2.cases with⟨_,e⟩|⟨gq,cp,e1,e2⟩
  ·rw[e]at jl;simp at jl
  rw[oI]at e1;cases e1;obtain⟨_,cc,od⟩:=ba t2 gq (by rw[oI];simp[Value.ownBlock]);exact⟨gq,lf.aj[k],args[k],bA,oA,rfl,a1,a2,a3 k SH,gEg jl,gEg SH,e2 k _ (by simp[aV,gEg jl]),cc,od⟩
 obtain⟨L0,Iq⟩:=aja (tv lf.aj args);have YX:L0.length=na:=by rw[<-Iq,fF hv,ld]
 have m1:=b1.cell 1;simp at m1;have LY:=b1.lt;have hgF:=b2.lt;obtain⟨nf,Ai⟩:=aja mm.funs.length;rw[Ai]at m1;have jE:(i:Int)<(nf:Int):=by omega
 have acH:(nf:Int)<=20:=by have:=hp.count;omega
 have du:(aA:Int)<=100000:=by have:=hp.aA;omega
 have Un:(na:Int)<=6:=by omega
 have nL:gr fs aA {call:=fL lf i args,rest:=[],ay:=0} o:=by unfold wQ at hr;rw[hf]at hr;exact⟨_,hr⟩
 obtain⟨i0,Aj,fo,eP,eV⟩:=info_parts pT;obtain⟨j0,Lu,Lp,WC,WD⟩:=info_parts sN;obtain⟨lo,nO⟩:=aja w.heap.size;have WE:=(Blk.new w #[ptr m,.int .i64 aA,.int .i64 0,.bool false,.int .i64 0,.int .i64 0] 128).alloc (.cells #[ptr lo,ptr f,.slice none 0 0,.slice none 0 0] 132);have E9:=Blk.new (w.alloc (.cells #[ptr m,.int .i64 aA,.int .i64 0,.bool false,.int .i64 0,.int .i64 0] 128)) #[ptr lo,ptr f,.slice none 0 0,.slice none 0 0] 132;have gy:(w.alloc (.cells #[ptr m,.int .i64 aA,.int .i64 0,.bool false,.int .i64 0,.int .i64 0] 128)).heap.size=lo+1:=by simp[nO]
 rw[gy]at E9;rw[nO]at WE;have OS:Hid _:=WE;have HD0:Hid _:=E9;have vo:Hid _:=t1;have VI:Hid _:=zI;have OY:Hid _:=Iq;have YY:Hid _:=YX;have HP:Hid _:=hp;have HF:Hid _:=hF;have NV:Hid _:=mA;have HAD:Hid _:=Ci;have HV:Hid _:=hv;have YZ:Hid _:=nL;have zl:Hid _:=nO;have RM:Hid _:=co;have OU:Hid _:=uv;have lv:=t1.lt;rw[nO]at LY hgF lv;rw[uv]at KK ⊢;clear WE E9 gy t1 t2 t3 t4 zI Iq YX hp hF mA Ci hv nL co uv hr hf b1 b2 b3 oI ld vh iD YW ha Ai;go_enter func39,ntmps39;go_wp2_with fail;refine KK.mono ?_;clear KK;rintro e w2 ⟨rfl,xa⟩;replace xa:=xa.symm;subst xa;go_wp2_with fail;clear nO;go_loopw [15] (fun i wr=>∃(k:Nat) (aL:Option Addr) (capL:Nat),i=.int .i64 k/\k<=na/\Blk wr (lo+1) #[ptr lo,ptr f,.slice aL k capL,.slice none 0 0] 132/\wr.ownsRow lo 134 2 (.slice aL k capL) k (bo (L0.take k))/\cE wr lo m aA 0 false 0 0/\iq lo lo w wr/\Hid (∀g cs t,t≠132->t≠134->Blk w g cs t->Blk wr g cs t)) (fun i _=>na-(intOf i).toNat)
 case atStart=>
  have nO:=zl.out;refine⟨0,none,0,rfl,ajl _,HD0.out,ajj _ _ _ _,OS.out,(iq.grown (row:=none) (aC _ _ _) (by omega) (by simp)).trans (iq.grown (row:=none) (aC _ _ _) (by simp;omega) (by simp)),fun g cs t _ _ hb=>(hb.alloc _).alloc _⟩
 case round=>
  obtain⟨k,aL2,capL2,rfl,X6,pL,oF,wG,yz,HK⟩:=hrel;obtain⟨w1,rfl⟩:∃z,z=wr:=⟨wr,rfl⟩;have r1:=pL.cell 1;have r2:=pL.cell 2;have r2f:=pL.frozen 2;simp at r1 r2;have NW:=pL.lt;have ya:=HK.out _ _ _ (by decide) (by decide) vo.out;have G0:=ya.cell 0;have MJ:=ya.lt;rw[<-(Blk.cell vo.out 0),F0]at G0;have DN:lo<=w1.heap.size:=by have:=yz.size;have:=zl.out;omega
  clear ya;by_cases hk:k<na
  ·obtain⟨gq,t,v,bA,oA,rfl,rfl,Y0,WG,ht,hv,bC,cq,om⟩:=VI.out k hk;have tV:=HK.out _ _ _ (by decide) (by decide) om;have SA:w1.cell? ⟨gq,k,none⟩=some (.int .i64 t):=by rw[tV.cell,<-om.cell];exact bC
   have QY:=tV.lt;have hqA:w1.cell? ⟨bA,oA+k,none⟩=some (.int .i64 v):=by have e1:=yz.block bA (by rw[<-zl.out];exact Y0) (by have:=zl.out;omega);unfold World.cell? at WG ⊢;rw[e1];exact WG
   have acK:bA<w1.heap.size:=ajA Y0 yz.size;have rQ:(k:Int)<(na:Int):=by omega
   have jl:k<L0.length:=by rw[YY.out];exact hk
   have cZ:bo (L0.take (k+1))=bo (L0.take k)++[.int .i64 t,.int .i64 v]:=by rw[lI jl,gu];have hz:=pb ht hv;rw[OY.out,gEg jl]at hz;rw[Option.some.inj hz];rfl
   have Vy:Hid _:=cZ;have cG:(w1.alloc (.cells #[.int .i64 t,.int .i64 v] 134)).drew.ownsRow lo 134 2 (.slice aL2 k capL2) k (bo (L0.take k)):=aJ oF fun g c hb=>hb.alloc _;have q4:∀j u,([.int .i64 t,.int .i64 v]:List Value)[j]?=some u->(w1.alloc (.cells #[.int .i64 t,.int .i64 v] 134)).drew.cell? ((⟨w1.heap.size,0,none⟩:Addr).add j)=some u:=mb w1 _ _ _;have q5:k+1<=maxLen:=by simp[maxLen];omega
   have q6:(k+1)*16<=140737488355328:=by omega
   have q7:lo<=(w1.alloc (.cells #[.int .i64 t,.int .i64 v] 134)).drew.heap.size:=by simp;omega
   have Nx:Hid _:=q4;have Vz:Hid _:=pL;have HM1:Hid _:=wG;have DM:Hid _:=yz;have VA:Hid (∀w2:World,(w1.alloc (.cells #[.int .i64 t,.int .i64 v] 134)).drew.grownBy w2 (Value.slice aL2 k capL2).ownBlock->Blk w2 (lo+1) #[ptr lo,ptr f,.slice aL2 k capL2,.slice none 0 0] 132/\cE w2 lo m aA 0 false 0 0/\iq lo lo w w2/\∀g cs t',t'≠132->t'≠134->Blk w g cs t'->Blk w2 g cs t'):=fun w2 hg=>by
    have keep:∀g cs t',t'≠134->Blk w1 g cs t'->Blk w2 g cs t':=fun g cs t' Mu hb=>by
     cases i7:(Value.slice aL2 k capL2).ownBlock with
     |none=>rw[i7]at hg;exact Blk.grown (hb.alloc (.cells #[.int .i64 t,.int .i64 v] 134)).drew hg (by simp)
     |some q=>
      rw[i7]at hg;obtain⟨_,c',kt⟩:=ba cG q i7;exact aF hg kt (hb.alloc (.cells #[.int .i64 t,.int .i64 v] 134)).drew Mu
    refine⟨keep _ _ _ (by decide) Vz.out,keep _ _ _ (by decide) HM1.out,DM.out.trans ?_,fun g cs t' h1 h2 hb=>keep g cs t' h2 (HK.out g cs t' h1 h2 hb)⟩;refine(iq.grown (row:=none) (aE (aC w1 _ none)) DN (by simp)).trans (iq.grown hg (by simp;omega) fun g yf=>.inl (ba cG g yf).1)
   have G7:∀u∈([.int .i64 t,.int .i64 v]:List Value),u.oneCell'=true:=by simp[Value.oneCell']
   have zm:Hid _:=G7;clear q4 G7 cZ bC om tV ht hv WG pL yz oF wG;go_wp2_with fail
   go_region_law (refine bQ rfl _ _ 130 rfl lo 134 i0 _ 2 16 underlying130 Aj fo eP eV rfl (by decide) (.slice aL2 k capL2) k (bo (L0.take k)) rfl cG ⟨w1.heap.size,0,none⟩ 1 1 [.int .i64 t,.int .i64 v] rfl rfl Nx.out zm.out q5 q6 q7 ?_;intro v' w' kr cD;obtain⟨a',cap',rfl,_⟩:=aG kr;obtain⟨sG,Il,G8,Ef⟩:=VA.out _ cD;have u1:=sG.cell 2;have u2:=sG.frozen 2;have u3:=sG.lt;simp at u1;have QZ:Hid _:=kr;have LL:Hid _:=sG;have HM9:Hid _:=Il;have G9:Hid _:=G8;have VB:Hid _:=Ef;clear kr sG Il G8 Ef)
   all_goals
    go_wp2_with fail;go_roundw
    case rel=>
     have dU:=aD w' (lo+1) 2 (.slice a' (k+1) cap');have bY:=Blk.set LL.out 2 (.slice a' (k+1) cap');simp at bY;refine⟨k+1,a',cap',by simp,by omega,bY,?_,aF dU LL.out HM9.out (by decide),G9.out.trans (iq.grown dU (by have:=G9.out.size;omega) (fun g hg=>by cases hg;exact .inl (Nat.le_succ _))),fun g cs t' h1 h2 hb=>aF dU LL.out (VB.out g cs t' h1 h2 hb) h1⟩;rw[Vy.out];exact aJ QZ.out fun g c hb=>aF dU LL.out hb (by decide)
    case measure=>simp[intOf];omega
  obtain rfl:k=na:=by omega
  have ry:L0.take k=L0:=ajB (by rw[YY.out];exact nLr _);rw[ry]at oF;have Hc:=Ch (lo:=lo) (d:=lo+1) (W:=lo) (s:={call:=fL lf i args,rest:=[],ay:=0}) HP.out (Kv HP.out _) (ajl _) (NV.out.keep fun g cs t h1 h2 h3 hb=>HK.out g cs t h1 h2 hb) HF.out HAD.out HV.out rfl pL (by rw[OU.out,OY.out];exact oF) DN (Nat.le_succ _) wG (by simp);have DP:Hid _:=Hc;have DM:Hid _:=yz;have Yj:Hid _:=wG;clear Hc ry oF pL yz wG r1 r2 r2f G0;go_wp2_with fail;refine Calls.mono DP.out ?_;rintro e9 w2 ⟨rfl,qR,gL⟩;have bU:w.grownBy w2 none:=by have h9:=DM.out.trans qR;have nO:=zl.out;exact⟨h9.os,h9.tape,h9.output,h9.size,fun j hj _=>h9.block j (by omega) (by omega)⟩
  have Og:Hid _:=bU;clear bU qR DP;rcases gL with hE|hE
  ·obtain⟨left,st,e',Oz,ta,nL,_⟩:=hE;have ho:=gr.only YZ.out nL;subst ho;have w2c:=Blk.cell ta 2;have w3c:=Blk.cell ta 3;have w4c:=Blk.cell ta 4;simp at w2c w3c w4c;have N2:=Blk.lt ta;clear ta nL;go_wp2_with fail;go_quiet (fail)
   go_wp2_with fail;refine bodyPost_ret (pZ rfl _ _ _) rfl ?_;exact⟨bd Og.out _,.slice none 0 0,rfl,ajj _ _ _ _⟩
  obtain⟨gl,vals,ls,st,x1,x2,x3,x4,x5,x6⟩:=hE;have ho:=gr.only YZ.out x3;subst ho;have w2c:=Blk.cell x6 2;have w3c:=Blk.cell x6 3;simp at w2c w3c;have N2:=Blk.lt x6;obtain⟨G,hG⟩:=aja (tv lf.ak vals);obtain⟨ng,qN⟩:=aja vals.length;have O1:G.length=ng:=by rw[<-hG,fF x2,x2.len,qN]
  have acN:ng<=3:=by have:=RM.out;have:=x2.len;omega
  have VH:(ng:Int)<=3:=by omega
  rw[hG]at x1;obtain⟨vL,vS,u1,u2,u3⟩:=x1;have v3:=u1.cell 3;simp at v3;obtain⟨aS,capS,zF,LQ⟩:∃aS capS,vS=.slice aS ng capS/\∀k (h:k<vals.length),∃gS cs,aS=some ⟨gS,0,none⟩/\Blk w2 gS cs 134/\w2.cell? ⟨gS,k*2+1,none⟩=some (.int .i64 vals[k]):=by
   rcases u3 with⟨z1,z2⟩|⟨gS,capS,csS,z1,z2,z3,z4,z5⟩
   ·have:ng=0:=by rw[<-O1,z2];rfl
    exact⟨none,0,by rw[z1,this],fun k hk=>by omega⟩
   refine⟨some ⟨gS,0,none⟩,capS,by rw[z1,O1],fun k hk=>⟨gS,csS,rfl,z2,?_⟩⟩;obtain⟨_,z6⟩:=z5 k (by omega);rw[z2.cell,z6];have M9:k<lf.ak.length:=by rw[x2.len];exact hk
   have h9:=pb (gEg M9) (gEg hk);rw[hG,gEg (by omega)]at h9;rw[Option.some.inj h9]
  rw[zF]at v3;have Q3:Hid _:=LQ;have SD:Hid _:=u1;have SG:Hid _:=x6;have vi:Hid _:=qN;clear x2 x3 x4 x5 x6 u1 u2 u3 LQ zF hG qN O1;go_wp2_with fail;go_loopw [16,17] (fun v i wr=>∃(k:Nat) (a:Option Addr) (cp:Nat),v=.slice a k cp/\i=.int .i64 k/\k<=ng/\wr.ownsRow lo 2 1 (.slice a k cp) k (cA (vals.take k))/\w.grownBy wr none/\Hid (∀g cs t,t≠2->Blk w2 g cs t->Blk wr g cs t)) (fun _ i _=>ng-(intOf i).toNat)
  case atStart=>exact⟨0,none,0,rfl,rfl,ajl _,ajj _ _ _ _,Og.out,fun _ _ _ _ hb=>hb⟩
  case round=>
   obtain⟨k,a,cp,rfl,rfl,xZ,oF,bU,IA⟩:=hrel;obtain⟨w3,rfl⟩:∃z,z=wr:=⟨wr,rfl⟩;have hu:=IA.out _ _ _ (by decide) SD.out;have y3:=hu.cell 3;rw[<-(Blk.cell SD.out 3),v3]at y3;have hul:=hu.lt;have hx:=IA.out _ _ _ (by decide) SG.out;have z2:=Blk.cell hx 2;rw[<-(Blk.cell SG.out 2),w2c]at z2;have xV:=Blk.lt hx;clear hu hx;by_cases hk:k<ng
   ·have Px:k<vals.length:=by rw[vi.out];exact hk
    have rQ:(k:Int)<(ng:Int):=by omega
    obtain⟨gS,csS,rfl,Es,LQ⟩:=Q3.out k Px;obtain⟨v,hv⟩:=aja (vals[k]);have Ol:=IA.out _ _ _ (by decide) Es;have IG:w3.cell? ⟨gS,k*2+1,none⟩=some (.int .i64 v):=by rw[Ol.cell,<-Es.cell,LQ,hv]
    have sk:=Ol.lt;have Nh:=DZ Px;rw[hv]at Nh;have JW:Hid _:=Nh;have O3:Hid (w3.ownsRow lo 2 1 (.slice a k cp) k (cA (vals.take k))):=oF;have SV:Hid (w.grownBy w3 none):=bU;clear Es LQ Ol Nh hv oF bU;go_wp2_with (at_builtin;refine wpList_append_own_at _ rfl _ _ 31 rfl lo 2 j0 (.int .i64 0) 1 8 underlying31 Lu Lp WC WD rfl (by decide) (.slice a k cp) k (cA (vals.take k)) rfl (O3.out.alloc _) ⟨w3.heap.size,0,none⟩ 1 1 [.int .i64 v] rfl rfl ?q2 ?q3 ?q4 ?q5 ?q6 ?q7)
    case q2=>exact cell_one_new _ _ _
    case q3=>simp[Value.oneCell']
    case q4=>simp[maxLen];omega
    case q5=>omega
    case q6=>have:=SV.out.size;have:=zl.out;simp;omega
    case q7=>
     intro v' w' cG cD _ _;obtain⟨a',cap',rfl,_,_⟩:=aG cG;have Me:w.grownBy w' none/\∀g cs t,t≠2->Blk w2 g cs t->Blk w' g cs t:=by
      have g0:=aB SV.out (aC w3 (.cells #[.int .i64 v] 2) none);cases i7:(Value.slice a k cp).ownBlock with
      |none=>
       rw[i7]at cD;exact⟨aB g0 cD,fun g cs t ht hb=>Blk.grown ((IA.out g cs t ht hb).alloc (.cells #[.int .i64 v] 2)) cD (by simp)⟩
      |some g=>
       rw[i7]at cD;obtain⟨e1,c',kt⟩:=ba (O3.out.alloc (.cells #[.int .i64 v] 2)) g i7;exact⟨aO g0 (by rw[zl.out];exact e1) cD,fun g cs t ht hb=>aF cD kt ((IA.out g cs t ht hb).alloc (.cells #[.int .i64 v] 2)) ht⟩
     have Ku:Hid _:=Me;have V3:Hid _:=cG;clear Me cG cD;go_wp2_with fail;go_roundw
     case rel=>exact⟨k+1,a',cap',rfl,by simp,by omega,by rw[JW.out];exact V3.out,Ku.out.1,Ku.out.2⟩
     case measure=>simp[intOf];omega
   obtain rfl:k=ng:=by omega
   have cL:vals.take k=vals:=ajB (by rw[vi.out];exact nLr _);rw[cL]at oF;have O3:Hid (w3.ownsRow lo 2 1 (.slice a k cp) k (cA vals)):=oF;have SV:Hid (w.grownBy w3 none):=bU;clear oF bU cL;go_wp2_with fail;go_quiet (fail)
   go_wp2_with fail;refine bodyPost_ret (pZ rfl _ _ _) rfl ?_;exact⟨bd SV.out _,.slice a k cp,rfl,by rw[zl.out,vi.out];exact aJ O3.out fun g c hb=>hb⟩
end
