/- For every script of bulk at most 1048576 (its values and letters together) the law All returns true: every call, in every order, over several Modules in turns, answers as the document has it, leaves what is handed in as it was, and shares no memory with what came out before; the condition: the table of kinds lies as the program's text lays it (the card ties that). -/
import Derived.Test.YtjbdgbdcnjopkaaGreatDoorS52
import Derived.Test.YtjbdgbdcnjopkaaGreatDoorS25
import Derived.Test.YtjbdgbdcnjopkaaGreatDoorCards
import Derived.Test.YtjbdgbdcnjopkaaGreatDoorTie
import Derived.SevenTiedAt
import Derived.WideKeyArgs
import Derived.JoinedCond
namespace Go.Proofs.YtjbdgbdcnjopkaaGreatDoor
open Go.RowKit Go.Proofs.Tryz
set_option linter.all false
set_option maxRecDepth 100000
set_option maxHeartbeats 4000000
theorem dt.nums{w:World}{sp:Option Addr}{cap:Nat}{l:List Int}(h:dt w sp l):fH w (.slice sp l.length cap) l:=by refine⟨sp,cap,rfl,fun j hj=>?_⟩;obtain⟨b,o,e1,e2,e3⟩:=h (by omega);exact⟨b,o,e1,e2,e3 j hj⟩
theorem mh.fn{w:World}{x:Nat}{fs:List bu}{mm:bf}{bs:List UInt8}(hx:mh w x fs mm)(hm:eD bs=.ok mm)(ht:bR mm mm.funs=.ok fs):∃r vb gF nf capF,0<nf/\nf<=20/\nf=fs.length/\Blk w x #[vb,ptr r] 42/\(∃vs,Blk w r #[vs,.slice (some ⟨gF,0,none⟩) nf capF] 38)/\∀k (hk:k<fs.length),∃ff aq capq c1,w.cell? ⟨gF,k,none⟩=some (ptr ff)/\(∃cg,Blk w gF cg 50)/\Blk w ff c1 49/\c1[0]?=some (.slice aq fs[k].aj.length capq)/\aR w (.slice aq fs[k].aj.length capq) fs[k].aj:=by
 have hp:=RP (aA:=0) hm ht (by omega);have A6:eU bs=.ok fs:=by unfold eU;rw[hm];exact ht
 have j5:=(wP A6).2;have cL:=hp.all.2;have Nz:=hp.count;obtain⟨b,r,ads,az,b1,_,mA⟩:=hx;obtain⟨vs0,gF0,capF,f0,cs1,cs2,m1,_,_,mb,_⟩:=mA.fn (i:=0) (by omega);rw[cL]at m1;refine⟨r,ptr b,gF0,fs.length,capF,j5,by omega,rfl,b1,⟨vs0,m1⟩,fun k hk=>?_⟩;have bM:k<mm.funs.length:=by omega
 have jN:=gEg hk;obtain⟨pf,ai,T,R,P,n,hF⟩:=hp.fns k _ jN;have vh:mm.funs[k]'bM=pf:=by have:=hF.tr.fn;rw[gEg bM]at this;exact Option.some.inj this
 have iD:da mm k=(fs[k].aj,fs[k].ak):=jz bM (by rw[vh];exact hF.tr.sig);obtain⟨vs',gF,capF',ff,cs1',cs2',b1',Ci,cF,b2,b3⟩:=pV.fn mA bM;have xJ:=mA.ga.fns k bM ff Ci;rw[iD]at xJ;obtain⟨vt,vg,vl,vb,t1,t2,t3,t4⟩:=xJ;simp only at t2;rw[cL]at b1';have e1:=b1'.symm.trans m1;cases e1;obtain⟨aq,capq,oI,_,_⟩:=aG t2;subst oI;exact⟨ff,aq,capq,_,cF,⟨_,b2⟩,t1,rfl,t2⟩
theorem ac1{lo:Nat}{w:World}{W n:Nat}{ms bs ws is fs:List Value}(h:Ws lo w W n ms bs ws is fs){x:Nat}{ls:List bu}{mm:bf}{tx:List UInt8}(hx:mh w x ls mm)(hm:eD tx=.ok mm)(ht:bR mm mm.funs=.ok ls){kd kk A Bf:Int}{vt:ByteArray}{sp:Option Addr}{cap:Nat}{raw:List Int}(ha:dt w sp raw)(kX:sp=none->cap=0)(h64:∀x∈raw,dZ x)(hA:dZ A)(hBf:dZ Bf)(hr:raw.length<=100000000)(hn:n<=2000000):Calls prog 44 #[ptr W,ptr x,.agg #[.int .i64 kd,.int .i64 kk,.int .i64 A,.int .i64 Bf,.string vt,.slice sp raw.length cap]] w fun e w'=>e=.returned (.bool true)/\abu lo w w' W (n+1):=by
 obtain⟨r,vb,gF,nf,capF,aen,afU,Ai,bx,⟨vs,br⟩,xQ⟩:=hx.fn hm ht;obtain⟨K,hK⟩:=aja (abS A nf);have hKn:K<nf:=by rw[<-hK];exact Nat.mod_lt _ aen
 obtain⟨ff,aq,capq,c1,cF,⟨cg,bg⟩,bff,Ae,jm⟩:=xQ K (by omega);have lg:=(abY hm ht (gEg (show K<ls.length by omega)));obtain⟨ts,Ao⟩:=aja ((ls[K]'(by omega)).aj);rw[Ao]at Ae jm lg;obtain⟨nt,ld⟩:=aja ts.length;obtain⟨rl,SJ⟩:=aja raw.length;obtain⟨q,hq⟩:=aja w.heap.size;have lm:=aC w (.cells #[.int .i64 kd,.int .i64 kk,.int .i64 A,.int .i64 Bf,.string vt,.slice sp rl cap] 63) none;have om:=Blk.new w #[.int .i64 kd,.int .i64 kk,.int .i64 A,.int .i64 Bf,.string vt,.slice sp rl cap] 63;obtain⟨w1,M8⟩:∃z,w.alloc (.cells #[.int .i64 kd,.int .i64 kk,.int .i64 A,.int .i64 Bf,.string vt,.slice sp rl cap] 63)=z:=⟨_,rfl⟩;rw[M8]at lm om;rw[hq]at om;have q2:=om.cell 2;have q3:=om.cell 3;have q5:=om.cell 5;simp at q2 q3 q5;have T3:=om.lt;have X1:=(bx.grown lm (by simp)).cell 1;have R1:=(br.grown lm (by simp)).cell 1;have FK:=lm.cell cF (by simp);have F0:=((bff.grown lm (by simp)).cell 0).trans Ae;rw[ld]at F0;simp at X1 R1;have OM:=(bx.grown lm (by simp)).lt;have PH:=(br.grown lm (by simp)).lt;have hlg:=(bg.grown lm (by simp)).lt;have Jr:=(bff.grown lm (by simp)).lt;have adB:aR w1 (.slice aq ts.length capq) ts:=jm.keep fun g c hb=>hb.grown lm (by simp);have rD:dt w1 sp raw:=ha.kept lm;have hSh:=acd (w:=w1.drew) (cap:=cap) (show aR w1.drew (.slice aq ts.length capq) ts from adB) lg.2.1 (show dt w1.drew sp raw from rD) h64 (by omega)
 rw[ld,SJ]at hSh;have hPk:=fun W2:World=>abo (w:=W2) hA.1 hA.2 aen (by omega);rw[hK]at hPk;have HSh:Hid _:=hSh;have HPk:Hid _:=hPk;have HWS:Hid (Ws lo w W n ms bs ws is fs):=h;have HX:Hid _:=hx;have HM:Hid _:=hm;have HT:Hid _:=ht;have HAR:Hid _:=ha;have HC:Hid _:=kX;have H64:Hid _:=h64;have G6:Hid _:=lm;have HRL:Hid _:=SJ;have LN:Hid ((∀t∈ts,t=1\/t=2)/\ts.length<=6):=⟨lg.1,lg.2.1⟩;have QC:Hid _:=ld;have HAB:Hid (dZ A/\dZ Bf):=⟨hA,hBf⟩;have HQ:Hid _:=hq;have UJ:(nf:Int)<=20:=by omega
 have hKi:(K:Int)<(nf:Int):=by omega
 have afi:(rl:Int)<=100000000:=by omega
 have afj:=M8;rw[SJ];clear h hx hm ht ha kX h64 hSh hPk om bx br xQ cF bg bff Ae jm adB lg Ao ld hK Ai lm hA hBf hr;go_enter func44,ntmps44;go_upto_if 20 with fail
 go_cut [7] from 16 to 115 (fun v wc=>∃(sp':Option Addr) (cap':Nat) (raw':List Int),v=.slice sp' raw'.length cap'/\dt wc sp' raw'/\(sp'=none->cap'=0)/\(∀x∈raw',dZ x)/\raw'.length<=100000000/\w1.grownBy wc none)
 case first=>
  by_cases CO:Bf<0
  ·have HS5:Hid (∀w5:World,w1.drew.grownBy w5 none->w5.cell? ⟨x,1,none⟩=some (ptr r)/\w5.cell? ⟨r,1,none⟩=some (.slice (some ⟨gF,0,none⟩) nf capF)/\w5.cell? ⟨q,2,none⟩=some (.int .i64 A)/\w5.cell? ⟨gF,K,none⟩=some (ptr ff)/\w5.cell? ⟨ff,0,none⟩=some (.slice aq nt capq)):=fun w5 jA=>⟨jA.cell (show w1.drew.cell? _=_ from X1) (by simp),jA.cell (show w1.drew.cell? _=_ from R1) (by simp),jA.cell (show w1.drew.cell? _=_ from q2) (by simp),jA.cell (show w1.drew.cell? _=_ from FK) (by simp),jA.cell (show w1.drew.cell? _=_ from F0) (by simp)⟩
   go_wp2_with fail
   go_region_held (fun w5=>w5.cell? ⟨x,1,none⟩=some (ptr r)/\w5.cell? ⟨r,1,none⟩=some (.slice (some ⟨gF,0,none⟩) nf capF)/\w5.cell? ⟨q,2,none⟩=some (.int .i64 A)/\w5.cell? ⟨gF,K,none⟩=some (ptr ff)/\w5.cell? ⟨ff,0,none⟩=some (.slice aq nt capq)) (first|assumption|go_keep) (first|(go_at_call 16;refine Calls.mono (HPk.out _) ?_;rintro e1 w4 ⟨rfl,rfl⟩)|(go_at_call 17;refine Calls.mono HSh.out ?_;rintro e1 w5 ⟨jA,a5,c5,rfl,ha5,XX⟩;have BZ:=HS5.out w5 jA))
   all_goals
    go_wp2_with fail;go_meet
    have hv:bG ts (aaz raw ts nt):=by have:=abb H64.out LN.out.1 (by have:=LN.out.2;omega) ts.length (nLr _);rw[ajB (nLr _)]at this;rw[<-QC.out];exact this
    exact⟨a5,c5,aaz raw ts nt,by rw[aaZ],ha5,XX,abH hv,by rw[aaZ];have:=LN.out.2;have:=QC.out;omega,bj jA⟩
  go_wp2_with fail;go_meet
  exact⟨sp,cap,raw,by rw[HRL.out],dt.kept HAR.out G6.out,HC.out,H64.out,by rw[HRL.out];omega,aH _ _⟩
 case rest=>
  obtain⟨sp',cap',raw',rfl,Zd,kt,aep,Ph,xg⟩:=hcut;obtain⟨w2,rfl⟩:∃z,z=wc:=⟨wc,rfl⟩;obtain⟨rl',acg⟩:∃z,raw'.length=z:=⟨_,rfl⟩;rw[acg];have p2:=xg.cell q2 (by simp);have p3:=xg.cell q3 (by simp);have P1:=xg.cell X1 (by simp);have P2:=xg.cell R1 (by simp);have hqs:=xg.size;have l1:q<w2.heap.size:=by omega
  have l2:x<w2.heap.size:=by omega
  have l3:r<w2.heap.size:=by omega
  have DR:Hid (w.grownBy w2 none):=aB G6.out xg;have HA2:Hid _:=Zd;have HC2:Hid _:=kt;have afk:Hid _:=aep;have ab0:Hid _:=acg;have Zr:rl'<=100000000:=by omega
  have hPB:=fun W2:World=>abo (w:=W2) (n:=2001) HAB.out.2.1 HAB.out.2.2 (by decide) (by decide);have HPB:Hid _:=hPB;clear q2 q3 q5 X1 R1 FK F0 OM PH hlg Jr T3 Zd kt aep Ph xg acg HSh hqs hPB M8 afj HAR HC H64 SJ afi;go_upto_if 53 with fail
  go_cut [8,9] from 16 to 115 (fun v8 v9 wd=>∃(f aA:Int) (m:Nat),v8=.int .i64 f/\v9=.int .i64 aA/\wd=w2.drewN m)
  case first=>
   by_cases CO:Bf<0
   ·go_wp2_with fail;go_quiet (first|(go_at_call 16;exact Calls.mono (HPk.out _) (fun _ _ h=>⟨h.1,_,h.2⟩)))
    go_wp2_with (go_at_call 16;refine Calls.mono (HPB.out _) ?_;rintro e1 w4 ⟨rfl,rfl⟩)
    go_meet
    exact⟨_,_,_,rfl,rfl,rfl⟩
   go_wp2_with fail;go_meet
   exact⟨_,_,0,rfl,rfl,rfl⟩
  case rest=>
   obtain⟨f,aA,m,rfl,rfl,Xa⟩:=hcut;obtain⟨w3,rfl⟩:∃z,z=wc:=⟨wc,rfl⟩;have RM:Hid (w.grownBy w3 none):=by show w.grownBy w3 none;rw[Xa];exact bd DR.out _
   have HA3:Hid (dt w3 sp' raw'):=by show dt w3 sp' raw';rw[Xa];exact HA2.out
   clear Xa p2 p3 P1 P2 l1 l2 l3 HA2 DR HPk HPB;obtain⟨q3,Sz⟩:∃z,w3.heap.size=z:=⟨_,rfl⟩;have HL3:Hid (q3<=w3.heap.size):=by show q3<=w3.heap.size;omega
   have HQ3:Hid (w3.heap.size=q3/\q<=q3):=⟨Sz,by have:=RM.out.size;have:=HQ.out;omega⟩;clear Sz;go_upto_region 12 with(at_builtin;refine zT rfl _ _ rfl q3 rfl ab0.out rfl HA3.out HC2.out (by omega) HL3.out ?aq5;intro ac capc w4 mY Y2 yZ)
   have HO4:Hid _:=mY;have HG4:Hid (w3.grownBy w4 none):=yZ;clear mY Y2 yZ HL3;obtain⟨j0,Lu,Lp,WC,WD⟩:=info_parts sN;go_upto_region 13 with(at_builtin;refine wpList_append_own_at _ rfl _ _ 31 rfl q3 2 j0 (.int .i64 0) 1 8 underlying31 Lu Lp WC WD rfl (by decide) (.slice ac rl' capc) rl' (cA raw') rfl (World.ownsRow.alloc HO4.out _) ⟨w4.heap.size,0,none⟩ 3 3 [.int .i64 7,.int .i64 7,.int .i64 7] rfl rfl ?e2 ?e3 ?e4 ?e5 ?e6 ?e7)
   case e2=>exact gE w4 [.int .i64 7,.int .i64 7,.int .i64 7] 2
   case e3=>simp[Value.oneCell']
   case e4=>simp[maxLen];omega
   case e5=>omega
   case e6=>have h1:=HG4.out.size;have h2:=HQ3.out;simp;omega
   case e7=>
    intro v' w5 ab1 ac2 _ _;obtain⟨g2,c2,rfl⟩:=cu ab1 (by omega);obtain⟨hqg,BR,rL,cc,vG,hs5⟩:=aa0 ab1;have hi7:cA raw'++[.int .i64 7,.int .i64 7,.int .i64 7]=cA (raw'++[7,7,7]):=by simp[cA]
    rw[hi7]at ab1;have bC:∀j,j<rl'+3->cc[j]?=(cA (raw'++[7,7,7]))[j]?:=fun j hj=>by have h1:=(bK ab1 (j:=j) (by omega)).1;rw[<-h1,vG.cell]
    have adO:w3.grownBy w5 none:=by
     have h0:=aB HG4.out (aC w4 (.cells #[.int .i64 7,.int .i64 7,.int .i64 7] 2) none);cases i7:(Value.slice ac rl' capc).ownBlock with
     |none=>rw[i7]at ac2;exact aB h0 ac2
     |some gg=>rw[i7]at ac2;exact aO h0 (by have:=(ba HO4.out gg i7).1;have:=HQ3.out;omega) ac2
    have jA:w.grownBy w5 none:=aB RM.out adO;have ha5:dt w5 sp' raw':=dt.kept HA3.out adO;have hL5:dt w5 (some ⟨g2,0,none⟩) raw':=fun h0=>⟨g2,0,rfl,vG.lt,fun j hj=>by
     have h1:j<rl':=by have:=ab0.out;omega
     rw[ajx,vG.cell,bC j (by omega),ly (show j<(raw'++[7,7,7]).length by simp;omega),ajn hj]⟩
    have adP:=adk (f:=f) (aA:=aA) (cap:=c2) (mh.kept HX.out jA) HM.out HT.out hL5 (fun e=>by cases e) (by have:=ab0.out;omega) afk.out;rw[ab0.out]at adP;have aer:Hid _:=adP;have Y6:Hid _:=jA;have HA5:Hid _:=ha5;have HL5:Hid _:=hL5;have HB5:Hid (Blk w5 g2 cc 2/\cc.size=c2/\rl'+3<=c2/\q<=g2):=⟨vG,by omega,by omega,by have:=HQ3.out;omega⟩;have Vy:Hid (∀j,j<3->cc[rl'+j]?=some (.int .i64 7)):=fun j hj=>by
     have h1:=ab0.out;rw[bC (rl'+j) (by omega),ly (show rl'+j<(raw'++[7,7,7]).length by simp;omega),ajo (by omega)];have:rl'+j-raw'.length=j:=by omega
     simp only[this]
     match j,hj with
     |0,_=>rfl
     | 1,_=>rfl
     | 2,_=>rfl
    have aij:(rl':Int)+3<=(c2:Int):=by omega
    clear adP jA ha5 hL5 vG bC adO ac2 ab1 hi7 hs5 rL hqg RM HG4 HA3 HO4;go_wp2_with fail;refine Calls.mono aer.out ?_;rintro e w6 ⟨oM,vv,vls,rfl,adQ⟩;have vz:fH w6 (.slice (some ⟨g2,0,none⟩) rl' c2) raw':=by rw[<-ab0.out];exact(dt.kept HL5.out oM).nums
    have BR:fH w6 (.slice sp' rl' cap') raw':=by rw[<-ab0.out];exact(dt.kept HA5.out oM).nums
    have hSw:=xL vz BR (by rw[ab0.out];exact Zr);have HSw:Hid _:=hSw;have HG6:Hid (w.grownBy w6 none):=aB Y6.out oM;have YN:Hid (Blk w6 g2 cc 2):=HB5.out.1.grown oM (by simp);have aes:Hid _:=adQ;obtain⟨va,vn,vc,rfl⟩:∃a n c,vv=.slice a n c:=by
     rcases adQ.2 with⟨rfl,_⟩|⟨g,rfl,_⟩
     ·exact⟨_,_,_,rfl⟩
     exact⟨_,_,_,rfl⟩
    clear hSw vz BR oM adQ aer HL5 HA5 Y6;go_wp2_with fail;refine Calls.mono HSw.out ?_;rintro e w7 ⟨rfl,m7,Yu⟩;have HG7:Hid (w.grownBy w7 none):=by show w.grownBy w7 none;rw[Yu];exact bd HG6.out _
    have Qx:Hid (Blk w7 g2 cc 2):=by show Blk w7 g2 cc 2;rw[Yu];exact YN.out
    have HO7:Hid (abN w5 w7 (.slice va vn vc) vls):=by show abN _ w7 _ _;rw[Yu];exact aes.out
    clear Yu HSw HG6 YN aes;go_wp2_with fail;go_loopw [14,15] (fun v i wr=>∃k:Nat,v=.bool true/\i=.int .i64 ((rl':Int)+k)/\k<=3/\wr=w7) (fun _ i _=>rl'+3-(intOf i).toNat)
    case atStart=>exact⟨0,rfl,by simp,by omega,rfl⟩
    case round=>
     obtain⟨k,rfl,rfl,hk,vF⟩:=hrel;replace vF:=vF.symm;subst vF;by_cases lj:k<3
     ·have ail:(k:Int)<3:=by omega
      have x7:=Qx.out.cell (rl'+k);rw[Vy.out k lj]at x7;have aim:=Blk.lt Qx.out;have e1:((rl'+k:Nat):Int)=(rl':Int)+k:=by omega
      go_wp2_with fail;exact⟨⟨k+1,by trivial,by congr 1,by omega,by trivial⟩,by simp[intOf];omega⟩
     obtain rfl:k=3:=by omega
     have hlq:lo<=q:=by obtain⟨v0,v1,v2,v3,v4,hW,_⟩:=HWS.out.wd.row;have:=hW.lt;have:=HWS.out.wd.low;have:=HQ.out;omega
     have hb:=HB5.out;have hMk:=aaB (row:=some g2) (c:=cc) (o:=0) (n:=rl'+3) (cap:=c2) (a:=some ⟨g2,0,none⟩) (HWS.out.wd.grown HG7.out) (.inr ⟨g2,rfl,rfl,by omega,Qx.out,by omega⟩) (by omega) (by have:=HWS.out.nw;omega);have HMk:Hid _:=hMk;have HLQ:Hid (lo<=q):=hlq;clear hMk hlq hb;go_wp2_with fail;refine Calls.mono HMk.out ?_;rintro e w8 ⟨rfl,xU,sU,xo⟩;have aet:=xo g2 rfl;have hlq:=HLQ.out;have hq:=HQ.out;have vG:=HB5.out;obtain⟨WT,JD⟩:=HO7.out;obtain⟨xs,hOw,hvn,Ig⟩:∃xs,w8.ownsRow lo 2 1 (.slice va vn vc) vn xs/\vn<=3/\∀g,(Value.slice va vn vc).ownBlock=some g->q<=g/\g≠g2:=by
      rcases JD with⟨e,_⟩|⟨g,e,hg,hb⟩
      ·cases e;exact⟨[],ajj _ _ _ _,by omega,fun g e=>by simp[Value.ownBlock]at e⟩
      cases e;have h1:=vG.1.lt;have h2:Blk w8 g (cA vls).toArray 2:=sU.keep g _ 2 (by decide) (fun e=>by cases e;omega) hb;exact⟨_,aaK h2 (by omega) (nLr _) (by simp[maxLen];omega) (by simp[dw]),by omega,fun g' e=>by have:=aas e;omega⟩
     have rP:(ws++[Value.slice (some ⟨g2,0,none⟩) (rl'+3) c2]).length=ws.length+1:=by simp
     have hOW:=abK xU hOw (by omega) (by rw[rP];have:=HWS.out.nw;omega);rw[rP]at hOW;have HOW:Hid _:=hOW;have HF8:Hid (Fm lo (fun _=>False) w w8):=(Fm.grown HG7.out (by omega)).then sU (fun b e=>.inr (by cases e;omega));have HL8:Hid (MkL lo 2 (fun b=>b=g2) w8 ws.length (.slice (some ⟨g2,0,none⟩) (rl'+3) c2) none 0):=⟨_,_,_,rfl,by omega,fun i hi=>⟨g2,0,_,rfl,by omega,aet,aaI _ _ _ _ _ hi (by omega),fun e=>(by cases e),rfl⟩⟩;have HGO:Hid _:=Ig;clear hOW xU sU xo aet hlq hq vG WT JD hOw hvn Ig rP HMk;go_wp2_with fail;refine Calls.mono HOW.out ?_;rintro e w9 ⟨rfl,new,jW,Ll,rh,Il⟩;have hF:Fm lo (fun _=>False) w w9:=HF8.out.then rh (fun b e=>.inr (by have:=HGO.out b e;have:=HQ.out;omega));have hkp:∀b c t,abj t->Blk w b c t->Blk w9 b c t:=fun b c t ht hb=>hF.keep b c t ht (fun h=>h) hb;have um:=HWS.out.mkd.keep hkp;have hl9:=HL8.out.keep (w':=w9) fun b c hB hb=>rh.keep b c 2 (by decide) (fun e=>(HGO.out b e).2 hB) hb;have HW9:Hid (Ws lo w9 W (n+1) ms bs (ws++[Value.slice (some ⟨g2,0,none⟩) (rl'+3) c2]++new) is fs):=by
      have h1:=HWS.out;refine⟨Ll,⟨um.by_,fun k hk=>?_,um.it_,um.fn_⟩,fun v hv=>(h1.md v hv).keep hkp,h1.pos,by have:=h1.nm;omega,by have:=h1.nb;omega,by have:=h1.nw;simp;omega,by have:=h1.ni;omega,by have:=h1.nf;omega⟩;by_cases k1:k<ws.length
      ·rw[ajn (by simp;omega),ajn k1];exact um.wd_ k k1
      by_cases k2:k=ws.length
      ·subst k2;rw[ajn (by simp),ajo (nLr _)];simp only[Nat.sub_self,List.getElem_cons_zero];exact hl9.mono fun _ _=>trivial
      rw[ajo (by simp;omega)];have jl:k-(ws++[Value.slice (some ⟨g2,0,none⟩) (rl'+3) c2]).length<new.length:=by rw[ajb]at hk;simp at hk ⊢;omega
      have:=Il _ jl;have e1:ws.length+1+(k-(ws++[Value.slice (some ⟨g2,0,none⟩) (rl'+3) c2]).length)=k:=by simp;omega
      rw[e1]at this;exact this.mono fun _ _=>trivial
     have HF:Hid (Below lo w w9):=hF.below;clear hF hkp um hl9 Ll rh Il HOW jW;go_wp2_with fail;go_ret;exact⟨rfl,HF.out,_,_,_,_,_,HW9.out⟩
theorem acF{lo B:Nat}{w:World}{W n:Nat}{ms bs ws is fs:List Value}(h:Ws lo w W n ms bs ws is fs)(hK:iu B w)(hB:B<=lo){kd kk A Bf:Int}{vt:ByteArray}{sp:Option Addr}{cap:Nat}{raw:List Int}(ha:dt w sp raw)(kX:sp=none->cap=0)(h64:∀x∈raw,dZ x)(hk:dZ kk)(hA:dZ A)(hBf:dZ Bf)(hr:raw.length<=100000000)(hs:vt.size<=100000000)(hn:n<=2000000):Calls prog 18 #[ptr W,.agg #[.int .i64 kd,.int .i64 kk,.int .i64 A,.int .i64 Bf,.string vt,.slice sp raw.length cap]] w fun e w'=>e=.returned (.bool true)/\abu lo w w' W (n+1):=by
 obtain⟨rl,SJ⟩:=aja raw.length;obtain⟨q,hq⟩:=aja w.heap.size;have lm:=aC w (.cells #[.int .i64 kd,.int .i64 kk,.int .i64 A,.int .i64 Bf,.string vt,.slice sp rl cap] 63) none;have om:=Blk.new w #[.int .i64 kd,.int .i64 kk,.int .i64 A,.int .i64 Bf,.string vt,.slice sp rl cap] 63;obtain⟨w1,M8⟩:∃z,w.alloc (.cells #[.int .i64 kd,.int .i64 kk,.int .i64 A,.int .i64 Bf,.string vt,.slice sp rl cap] 63)=z:=⟨_,rfl⟩;rw[M8]at lm om;rw[hq]at om;have q0:=om.cell 0;have q1:=om.cell 1;have q2:=om.cell 2;have q3:=om.cell 3;have q4:=om.cell 4;have q5:=om.cell 5;simp at q0 q1 q2 q3 q4 q5;have T3:=om.lt;have nO:lo<=w.heap.size:=by obtain⟨v0,v1,v2,v3,v4,hW,_⟩:=h.wd.row;have:=hW.lt;have:=h.wd.low;omega
 have Zf:iu B w1:=hK.grown lm (by omega) (by simp);have h1:=h.keep lm;have hBe:Below lo w w1:=cY lm nO (by simp);have HWS:Hid (Ws lo w1 W n ms bs ws is fs):=h1;have HBE:Hid (Below lo w w1):=hBe;have HA1:Hid (dt w1 sp raw):=ha.kept lm;have HC:Hid _:=kX;have H64:Hid _:=h64;have HRL:Hid _:=SJ;have HI:Hid (dZ kk/\dZ A/\dZ Bf):=⟨hk,hA,hBf⟩;have uw:Hid _:=hr;rw[SJ];by_cases k1:kd=1
 ·have hL:=acE h1 Zf hB hs hn;have HL:Hid _:=hL;subst k1;clear hL h1 h hK Zf lm om ha kX h64 hk hA hBf hr hs nO hBe SJ;go_enter func18,ntmps18;go_wp2_with fail;refine Calls.mono HL.out ?_;rintro e w2 ⟨rfl,df,qj⟩;have rM:Hid (abu lo w w2 W (n+1)):=⟨HBE.out.trans df,qj⟩;clear HL df qj;go_wp2_with fail;go_ret;exact⟨rfl,rM.out⟩
 have b1:(kd==1)=false:=by rw[ajt];exact k1
 obtain⟨v0,v1,v2,v3,v4,hW,r0,r1,r2,r3,r4⟩:=h1.wd.row;obtain⟨nm,dL⟩:=aja ms.length;have j5:=h1.pos;have aeu:=h1.nm;rw[dL]at r0 j5 aeu;obtain⟨K,hKK⟩:=aja (abS kk nm);have hKn:K<nm:=by rw[<-hKK];exact Nat.mod_lt _ j5
 obtain⟨g0,c0,e0,iB,qb⟩:=abn r0 (k:=K) (by omega);subst e0;obtain⟨x,ls,mm,tx,ex,hx,hm,ht⟩:=h1.md _ (ajw (show K<ms.length by omega));rw[ex]at qb;have x0:=hW.cell 0;simp at x0;have LO:=hW.lt;have hPk:=fun W2:World=>abo (w:=W2) hk.1 hk.2 j5 (by omega);rw[hKK]at hPk;have HPk:Hid _:=hPk;have HX:Hid _:=hx;have HM:Hid _:=hm;have HT:Hid _:=ht;have afg:(nm:Int)<=3000000:=by omega
 have hKi:(K:Int)<(nm:Int):=by omega
 have HWl:Hid _:=LO;clear h1 h hK Zf lm om ha kX h64 hk hA hBf hr hs nO hBe SJ k1 hW r0 r1 r2 r3 r4 dL j5 aeu hKK ex hx hm ht hPk;have HQ5:Hid (w1.cell? ⟨q,0,none⟩=some (.int .i64 kd)/\w1.cell? ⟨q,1,none⟩=some (.int .i64 kk)/\w1.cell? ⟨q,2,none⟩=some (.int .i64 A)/\w1.cell? ⟨q,3,none⟩=some (.int .i64 Bf)/\w1.cell? ⟨q,4,none⟩=some (.string vt)/\w1.cell? ⟨q,5,none⟩=some (.slice sp rl cap)):=⟨q0,q1,q2,q3,q4,q5⟩;go_enter func18,ntmps18;go_wp2_with fail;clear M8;go_quiet (first|(go_at_call 16;exact Calls.mono (HPk.out _) (fun _ _ h=>⟨h.1,_,h.2⟩)))
 have us:w1.grownBy (w1.drewN nq) none:=bd (aH _ _) _;obtain⟨w2,xa⟩:∃z,w1.drewN nq=z:=⟨_,rfl⟩;rw[xa]at us ⊢;have ac3:Hid (Ws lo w2 W n ms bs ws is fs):=HWS.out.keep us;have Yi:Hid (mh w2 x ls mm):=mh.kept HX.out us;have HA2:Hid (dt w2 sp raw):=dt.kept HA1.out us;have adR:Hid (Below lo w w2):=HBE.out.trans (cY us (by have:=HWl.out;have:=HWS.out.wd.low;omega) (by simp));have aev:Hid (W<w2.heap.size):=by have h1:=HWl.out;have h2:=us.size;show W<w2.heap.size;omega
 obtain⟨t0,t1,t2,t3,t4,t5⟩:=HQ5.out;have p0:=us.cell t0 (by simp);have p1:=us.cell t1 (by simp);have p2:=us.cell t2 (by simp);have p3:=us.cell t3 (by simp);have p4:=us.cell t4 (by simp);have p5:=us.cell t5 (by simp);have afr:q<w2.heap.size:=by have:=us.size;omega
 clear us xa q0 q1 q2 q3 q4 q5 t0 t1 t2 t3 t4 t5 HQ5 HWS HX HA1 HBE HWl HPk iB qb x0 LO T3;by_cases k2:kd=2
 ·subst k2;have hT:=H6 Yi.out HM.out HT.out;have HTo:Hid _:=hT;clear hT;go_wp2_with fail;refine Calls.mono HTo.out ?_;rintro e w3 ⟨co,c,bt,bg,rfl,kv,yl,Nn⟩;have A6:eU tx=.ok ls:=by unfold eU;rw[HM.out];exact HT.out
  have fQ:=(wP A6).1;have hpu:=RP (aA:=0) HM.out HT.out (by omega);have Jz:=ac3.out.keep co;have ED:ls.length<=20:=by have:=hpu.count;have:=hpu.all.2;omega
  have adS:lo<=w2.heap.size:=by have:=aev.out;have:=ac3.out.wd.low;omega
  have hOF:=abL (s:=w2.heap.size) Jz.wd kv yl Nn adS (nLr _) aev.out ED (fun f hf=>⟨(fQ.2 f hf).1,(fQ.2 f hf).2.1⟩) (by have:=Jz.ni;omega) (by have:=Jz.nf;omega);have HOF:Hid _:=hOF;have RM:Hid (w2.grownBy w3 none):=co;have UL:Hid _:=Jz;have HL3:Hid (ls.length<=20/\lo<=w2.heap.size):=⟨ED,adS⟩;clear hOF co Jz kv yl Nn A6 fQ hpu ED adS HTo p0 p1 p2 p3 p4 p5 afr;go_wp2_with fail;refine Calls.mono HOF.out ?_;rintro e w4 ⟨rfl,newI,newF,hnI,hnF,JB,fD,zr,hf4⟩;have hF:Fm lo (fun _=>False) w2 w4:=(Fm.grown RM.out HL3.out.2).then fD (fun b e=>.inr e);have hkp:∀b c t,abj t->Blk w2 b c t->Blk w4 b c t:=fun b c t ht hb=>hF.keep b c t ht (fun h=>h) hb;have h2:=ac3.out;have um:=h2.mkd.keep hkp;have HW4:Hid (Ws lo w4 W (n+1) ms bs ws (is++newI) (fs++newF)):=by
   refine⟨JB,⟨um.by_,um.wd_,fun k hk=>?_,fun k hk=>?_⟩,fun v hv=>(h2.md v hv).keep hkp,h2.pos,by have:=h2.nm;omega,by have:=h2.nb;omega,by have:=h2.nw;omega,by have:=h2.ni;have:=HL3.out.1;rw[ajb,hnI];omega,by have:=h2.nf;rw[ajb,hnF];omega⟩
   ·by_cases k1:k<is.length
    ·rw[ajn k1];exact um.it_ k k1
    rw[ajo (by omega)];have:=zr (k-is.length) (by rw[ajb]at hk;omega);rw[show is.length+(k-is.length)=k by omega]at this;exact this.mono fun _ _=>trivial
   by_cases k1:k<fs.length
   ·rw[ajn k1];exact um.fn_ k k1
   rw[ajo (by omega)];have:=hf4 (k-fs.length) (by rw[ajb]at hk;omega);rw[show fs.length+(k-fs.length)=k by omega]at this;exact this
  have HB4:Hid (Below lo w w4):=adR.out.trans hF.below;clear hF hkp h2 um JB fD zr hf4 hnI hnF HOF;go_wp2_with fail;go_ret;exact⟨rfl,HB4.out,_,_,_,_,_,HW4.out⟩
 have b2:(kd==2)=false:=by rw[ajt];exact k2
 clear k2;by_cases k3:kd=3
 ·subst k3;have hR:=ac1 (kd:=3) (kk:=kk) (vt:=vt) ac3.out Yi.out HM.out HT.out HA2.out HC.out H64.out HI.out.2.1 HI.out.2.2 uw.out hn;rw[HRL.out]at hR;have HR:Hid _:=hR;clear hR;go_wp2_with fail;refine Calls.mono HR.out ?_;rintro e w3 ⟨rfl,kv,hp3⟩;have Nu:Hid (abu lo w w3 W (n+1)):=⟨adR.out.trans kv,hp3⟩;clear HR kv hp3;go_wp2_with fail;go_ret;exact⟨rfl,Nu.out⟩
 have b3:(kd==3)=false:=by rw[ajt];exact k3
 clear k3;go_wp2_with fail;go_ret;exact⟨rfl,adR.out,_,_,_,_,_,ac3.out.more⟩
def adn(w:World)(g o:Nat):Prop:=
 ∃kd kk A Bf vt sp raw cap,w.cell? ⟨g,o,none⟩=some (.int .i64 kd)/\w.cell? ⟨g,o+1,none⟩=some (.int .i64 kk)/\w.cell? ⟨g,o+2,none⟩=some (.int .i64 A)/\w.cell? ⟨g,o+3,none⟩=some (.int .i64 Bf)/\w.cell? ⟨g,o+4,none⟩=some (.string vt)/\w.cell? ⟨g,o+5,none⟩=some (.slice sp (raw:List Int).length cap) /\
  dt w sp raw/\(sp=none->cap=0)/\(∀x∈raw,dZ x)/\dZ kk/\dZ A/\dZ Bf/\raw.length<=100000000/\ByteArray.size vt<=100000000
theorem ado{w:World}{B:Nat}(hK:iu B w)(hB:B<=w.heap.size){a:Option Addr}{N cap:Nat}(hN:N<=1500000)(hs:∀i,i<N->∃g o,a=some ⟨g,o,none⟩/\adn w g (o+i*6)):Calls prog 5 #[.slice a N cap] w fun e w'=>e=.returned (.bool true)/\w.grownBy w' none:=by
 obtain⟨lo,nO⟩:=aja w.heap.size;have lm:=aC w (.cells #[.slice none 0 0,.slice none 0 0,.slice none 0 0,.slice none 0 0,.slice none 0 0] 60) none;have hbW:=Blk.new w #[.slice none 0 0,.slice none 0 0,.slice none 0 0,.slice none 0 0,.slice none 0 0] 60;obtain⟨w1,M8⟩:∃z,w.alloc (.cells #[.slice none 0 0,.slice none 0 0,.slice none 0 0,.slice none 0 0,.slice none 0 0] 60)=z:=⟨_,rfl⟩;rw[M8]at lm hbW;rw[nO]at hbW;have RT:=D2 (hK.grown lm hB (by simp)) (ajE hB lm.size);have RU:Hid _:=RT;have HK:Hid (iu B w):=hK;have zl:Hid (w.heap.size=lo/\B<=lo):=⟨nO,by omega⟩;have HS:Hid _:=hs;have G6:Hid _:=lm;have HBW:Hid _:=hbW;have XR:(N:Int)<=1500000:=by omega
 obtain⟨j0,Lu,Lp,WC,WD⟩:=info_parts acL;clear hK hB hs lm hbW RT;go_enter func5,ntmps5;go_wp2_with fail;refine Calls.mono RU.out ?_;rintro e w2 ⟨aP,x,rfl,ls,mm,hx,hm,ht⟩;have hbW:=Blk.grown HBW.out aP (by simp);have x0:=hbW.cell 0;simp at x0;have LO:=hbW.lt;have adT:Hid _:=hbW;have HMD:Hid (abZ w2 (ptr x)):=⟨x,ls,mm,_,rfl,hx,hm,ht⟩;have DR:Hid (w.grownBy w2 none):=aB G6.out aP;clear aP hx hm ht hbW RU HBW G6 M8;go_wp2_with (at_builtin;refine wpList_append_own_at _ rfl _ _ 54 rfl lo 22 j0 (.pointer none) 1 8 underlying54 Lu Lp WC WD rfl (by decide) (.slice none 0 0) 0 [] rfl (ajj _ _ _ _) ⟨w2.heap.size,0,none⟩ 1 1 [ptr x] rfl rfl ?q2 ?q3 ?q4 ?q5 ?q6 ?q7)
 case q2=>exact cell_one_new _ _ _
 case q3=>simp[Value.oneCell']
 case q4=>simp[maxLen]
 case q5=>omega
 case q6=>have h1:=zl.out.1;have h2:=DR.out.size;simp;omega
 case q7=>
  intro v' w3 cG cD _ _;obtain⟨a',c',rfl,_,_⟩:=aG cG;obtain⟨Jz,et⟩:=Wd.pushM (ms:=[]) (bs:=[]) (ws:=[]) (is:=[]) (fs:=[]) (n:=0) (nLr _) adT.out (ajj _ _ _ _) (ajj _ _ _ _) (ajj _ _ _ _) (ajj _ _ _ _) (ajj _ _ _ _) cG cD;have hWx:Blk w3 lo #[.slice none 0 0,.slice none 0 0,.slice none 0 0,.slice none 0 0,.slice none 0 0] 60:=(Blk.alloc adT.out _).grown cD (by simp[Value.ownBlock]);have y0:=hWx.cell 0;have y0f:=hWx.frozen 0;have ais:=hWx.lt;simp at y0;obtain⟨w4,ye⟩:∃z,w3.setCell ⟨lo,0,none⟩ (.slice a' (0+1) c')=z:=⟨_,rfl⟩;rw[ye]at Jz et;have HWS:Hid (Ws lo w4 lo 0 [ptr x] [] [] [] []):=⟨Jz,⟨fun k h=>by simp at h,fun k h=>by simp at h,fun k h=>by simp at h,fun k h=>by simp at h⟩,fun v hv=>by
   have:v=ptr x:=by simpa using hv
   subst this
   exact HMD.out.keep fun b c t ht hb=>et.keep b c t ht (fun h=>h) hb,by simp,by simp,by simp,by simp,by simp,by simp⟩
  have HBE:Hid (Below lo w w4):=(cY DR.out (by have:=zl.out;omega) (by simp)).trans et.below;clear Jz et cG cD hWx x0 LO HMD adT DR;go_wp2_with fail;go_loopw [5] (fun i wr=>∃(k:Nat) (ms bs ws is fs:List Value),i=.int .i64 k/\k<=N/\Ws lo wr lo k ms bs ws is fs/\Below lo w wr) (fun i _=>N-(intOf i).toNat)
  case atStart=>
   first
    |exact⟨0,_,_,_,_,_,rfl,ajl _,HWS.out,HBE.out⟩
    | (have aew:=ye;simp only[ajx]at aew;rw[aew];exact⟨0,_,_,_,_,_,rfl,ajl _,HWS.out,HBE.out⟩)
  case round=>
   obtain⟨k,ms,bs,ws,is,fs,rfl,hk,Ud,hBe⟩:=hrel;obtain⟨w5,rfl⟩:∃z,z=wr:=⟨wr,rfl⟩;have HW5:Hid _:=Ud;have HB5:Hid (Below lo w w5):=hBe;by_cases X6:k<N
   ·have ait:(k:Int)<(N:Int):=by omega
    obtain⟨g,o,rfl,kd,kk,A,Bf,vt,sp,raw,cp,c0,c1,c2,c3,c4,c5,hra,hrc,aex,KX,hA,hBf,SJ,Ac⟩:=HS.out k X6;have iB:g<lo:=by have h1:g<w.heap.size:=World.block_lt_of_cell? w _ c0;have:=zl.out.1;omega
    have adK:g<w5.heap.size:=by have:=hBe.size;have:=zl.out.1;omega
    have d0:=(hBe.cell (p:=⟨g,o+k*6,none⟩) iB).trans c0;have d1:=(hBe.cell (p:=⟨g,o+k*6+1,none⟩) iB).trans c1;have d2:=(hBe.cell (p:=⟨g,o+k*6+2,none⟩) iB).trans c2;have d3:=(hBe.cell (p:=⟨g,o+k*6+3,none⟩) iB).trans c3;have d4:=(hBe.cell (p:=⟨g,o+k*6+4,none⟩) iB).trans c4;have d5:=(hBe.cell (p:=⟨g,o+k*6+5,none⟩) iB).trans c5;have aey:dt w5 sp raw:=fun h0=>by obtain⟨b,o',e1,e2,e3⟩:=hra h0;exact⟨b,o',e1,by have:=hBe.size;omega,fun j hj=>(hBe.cell (p:=⟨b,o'+j,none⟩) (by have:=zl.out.1;show b<lo;omega)).trans (e3 j hj)⟩
    have hK5:iu B w5:=HK.out.kept ⟨hBe.os,hBe.tape,hBe.output,hBe.size,fun j hj=>hBe.block j (by have:=zl.out.2;omega)⟩;have hSt:=acF (kd:=kd) Ud hK5 zl.out.2 aey hrc aex KX hA hBf SJ Ac (by omega);obtain⟨rl,Zr⟩:∃z,raw.length=z:=⟨_,rfl⟩;rw[Zr]at d5 hSt;have HSt:Hid _:=hSt;clear hSt c0 c1 c2 c3 c4 c5 hra hrc aex KX hA hBf SJ Ac aey hK5 Ud hBe Zr ye;go_wp2_with fail;refine Calls.mono HSt.out ?_;rintro e w6 ⟨rfl,Ec,ms',bs',ws',is',fs',xd⟩;have hL:=acw xd.wd xd.mkd (by have:=xd.nb;omega) (by have:=xd.nw;omega) (by have:=xd.ni;omega) (by have:=xd.nf;omega);have HL:Hid _:=hL;have HW6:Hid (Ws lo w6 lo (k+1) ms' bs' ws' is' fs'):=xd;have YN:Hid (Below lo w w6):=HB5.out.trans Ec;clear hL xd Ec HSt d0 d1 d2 d3 d4 d5 iB adK;go_wp2_with fail;refine Calls.mono HL.out ?_;rintro e w7 ⟨rfl,rI⟩;have HW7:Hid (Ws lo w7 lo (k+1) ms' bs' ws' is' fs'):=HW6.out.keep rI;have Qx:Hid (Below lo w w7):=YN.out.trans (cY rI (by have:=YN.out.size;have:=zl.out.1;omega) (by simp));clear rI HL;go_wp2_with fail;go_roundw
    case rel=>exact⟨k+1,_,_,_,_,_,by simp,by omega,HW7.out,Qx.out⟩
    case measure=>simp[intOf];omega
   obtain rfl:k=N:=by omega
   clear Ud hBe ye;go_wp2_with fail;go_ret;exact⟨rfl,yT (by rw[zl.out.1];exact HB5.out)⟩
section
open Go.ChangeShapes Go.WideShapes Go.ChangeAt Go.WideMaps Go.WideElems Go.RowKit
theorem abO{n:Int}(h:(Lit.int .i64 n).wf=true):-9223372036854775808<=n/\n<=9223372036854775807:=by
 simp only[Lit.wf,Bool.and_eq_true,decide_eq_true_eq,show IntKind.i64.min = -9223372036854775808 from rfl,show IntKind.i64.max=9223372036854775807 from rfl]at h
 exact h
theorem ac4:laidOutB prog=true:=by kernel_rfl
theorem afv:prog.cellsOf 2=1:=by kernel_rfl
theorem afw:prog.cellsOf 3=1:=by kernel_rfl
theorem afx:prog.cellsOf 9=1:=by kernel_rfl
theorem aez:prog.cellsOf 31=1:=by kernel_rfl
theorem aeA:prog.cellsOf 63=6:=by kernel_rfl
section
variable {H:Type}{enc:TypeId×Value->H}{W:World}
theorem ac5(d:DataW H):1<=Rows.uptoBulk d:=by cases d <;> first|(simp[Rows.uptoBulk];done)|(rename_i l;cases l <;> simp[Rows.uptoBulk])
theorem abv:∀l:List (DataW H),l.length<=Rows.uptoBulkAll l
 | []=>by simp
 |d::r=>by have:=abv r;have:=ac5 d;simp only[Rows.uptoBulkAll,ajr];omega
theorem abw:∀{l:List (DataW H)}{d:DataW H},d∈l->Rows.uptoBulk d<=Rows.uptoBulkAll l
 |x::r,d,h=>by
  simp only[Rows.uptoBulkAll];rcases List.mem_cons.1 h with rfl|h
  ·omega
  have:=abw h;omega
theorem ac6{aA:Nat}{cs:List Value}{x:DataW H×List MemPlace}(hf:DataW.trod enc prog W 0 (fun _=>true) true aA 31 cs=some x):∃sp raw cap,cs=[.slice sp (raw:List Int).length cap]/\dt W sp raw/\(∀x∈raw,dZ x)/\(sp=none->cap=0)/\raw.length<=Rows.uptoBulk x.1:=by
 rcases open_ints underlying31 underlying2 afv hf with⟨Bc,hx⟩|⟨a,len,cap,zs,Bc,_,jM,afy,cL,hx,bC,hwf⟩
 ·exact⟨none,[],0,Bc,fun h=>by simp at h,fun x hx=>by simp at hx,fun _=>rfl,by simp⟩
 simp only[if_true]at cL;have bM:(zs.take len).length=len:=by rw[ajq];omega
 refine⟨some a,zs.take len,cap,by rw[bM];exact Bc,fun hp=>?_,fun x hx=>?_,(fun e=>by cases e),?_⟩
 ·obtain⟨b,off,rfl,od⟩:=ints_at bC (by omega);refine⟨b,off,rfl,World.block_lt_of_cell? W _ (od 0 (by omega)),fun j hj=>?_⟩;rw[bM]at hj;have:=od j (by omega);rw[this];simp[List.getD,show j<zs.length by omega]
 ·exact abO (hwf x (List.mem_of_mem_take hx))
 rw[hx,bM];have:=abv (H:=H) (lits .i64 (zs.take len));simp only[Rows.uptoBulk];simp only[lits,List.length_map]at this ⊢;omega
theorem aa5{cs:List Value}{i:Nat}{v:Value}(h:(cs.drop i).take 1=[v]):cs[i]?=some v:=by
 have h1:((cs.drop i).take 1)[0]?=some v:=by rw[h];rfl
 rw[ajI (by omega),List.getElem?_drop]at h1;simpa using h1
theorem aeB{n:Nat}{a:Addr}{y:DataW H×List MemPlace}(h:(W.cells? 0 a 6).bind (DataW.trod enc prog W 0 (fun _=>true) true n 63)=some y)(hb:Rows.uptoBulk y.1<=1048576):∃g o,a=⟨g,o,none⟩/\adn W g o:=by
 obtain⟨cs,Bc,hf⟩:=Option.bind_eq_some_iff.1 h;obtain⟨_,hl,hc⟩:=World.cells?_some Bc;obtain⟨xs,n',_,rfl,_,xV,hx⟩:=DataW.trod_struct underlying63 hf;have BQ:xs.length=6:=xV;have gx:∀i (h:i<6),xs[i]?=some xs[i]:=fun i hi=>gEg (by omega);have e0:DataW.trod enc prog W 0 (fun _=>true) true n' 3 ((cs.drop 0).take (prog.cellsOf 3))=some xs[0]:=(hx 0 _ rfl).trans (gx 0 (by omega));have e1:DataW.trod enc prog W 0 (fun _=>true) true n' 3 ((cs.drop 1).take (prog.cellsOf 3))=some xs[1]:=(hx 1 _ rfl).trans (gx 1 (by omega));have e2:DataW.trod enc prog W 0 (fun _=>true) true n' 3 ((cs.drop 2).take (prog.cellsOf 3))=some xs[2]:=(hx 2 _ rfl).trans (gx 2 (by omega));have e3:DataW.trod enc prog W 0 (fun _=>true) true n' 3 ((cs.drop 3).take (prog.cellsOf 3))=some xs[3]:=(hx 3 _ rfl).trans (gx 3 (by omega));have e4:DataW.trod enc prog W 0 (fun _=>true) true n' 9 ((cs.drop 4).take (prog.cellsOf 9))=some xs[4]:=(hx 4 _ rfl).trans (gx 4 (by omega));have e5:DataW.trod enc prog W 0 (fun _=>true) true n' 31 ((cs.drop 5).take (prog.cellsOf 31))=some xs[5]:=(hx 5 _ rfl).trans (gx 5 (by omega));rw[afw]at e0 e1 e2 e3;rw[afx]at e4;rw[aez]at e5;obtain⟨k0,i0,_,f0⟩:=DataW.trod_int underlying3 e0;obtain⟨k1,i1,_,f1⟩:=DataW.trod_int underlying3 e1;obtain⟨k2,i2,_,f2⟩:=DataW.trod_int underlying3 e2;obtain⟨k3,i3,_,f3⟩:=DataW.trod_int underlying3 e3;obtain⟨s,i4,f4,_⟩:=DataW.trod_string underlying9 e4;obtain⟨sp,raw,cap,i5,ha,h64,kX,SJ⟩:=ac6 e5;have Se:∀i (h:i<6),Rows.uptoBulk (xs[i]).1<=1048576:=fun i hi=>by have h1:=abw (List.mem_map_of_mem (f:=(·.1)) (ajw (show i<xs.length by omega)));simp only[Rows.uptoBulk]at hb;omega
 have hs:s.size<=1048576:=by have h1:=Se 4 (by omega);rw[f4]at h1;simp only[Rows.uptoBulk,ajF]at h1;have:s.size=s.data.size:=rfl;omega
 have hr:=Se 5 (by omega);have c0:=(hc 0 (by omega)).trans (aa5 i0);have c1:=(hc 1 (by omega)).trans (aa5 i1);have c2:=(hc 2 (by omega)).trans (aa5 i2);have c3:=(hc 3 (by omega)).trans (aa5 i3);have c4:=(hc 4 (by omega)).trans (aa5 i4);have c5:=(hc 5 (by omega)).trans (aa5 i5);obtain⟨b,off,spot⟩:=a;have aeC:spot=none:=by simpa [Addr.add] using World.cell?_spot c0
 subst aeC;simp only[add_plain]at c0 c1 c2 c3 c4 c5;exact⟨b,off,rfl,k0,k1,k2,k3,s,sp,raw,cap,c0,c1,c2,c3,c4,c5,ha,kX,h64,abO f1,abO f2,abO f3,by omega,by omega⟩
theorem ab5{az:Nat}{v:Value}{d:DataW H}{ps:List MemPlace}(hv:Value.okWide prog W .any az 52 v)(hd:DataW.Trod enc prog W 0 (fun _=>true) true 52 v d ps)(hb:Rows.uptoBulk d<=1048576):∃a N cap,v=.slice a N cap/\N<=1500000/\∀i,i<N->∃g o,a=some ⟨g,o,none⟩/\adn W g (o+i*6):=by
 obtain⟨a0,len,cap,rfl⟩:=okWide_slice underlying52 hv;obtain⟨aA,hf⟩:=hd;rcases DataW.trod_slice underlying52 hf with⟨Bc,_⟩|⟨a,len',cap',elems,rest,n,_,Bc,hx,_,jM,afy,Jx,kY,_,_⟩
 ·simp[Value.cells]at Bc;obtain⟨rfl,rfl,rfl⟩:=Bc;exact⟨none,0,0,rfl,by omega,fun i hi=>by omega⟩
 simp[Value.cells]at Bc;obtain⟨rfl,rfl,rfl⟩:=Bc;have hd:d=.slice (elems.map (·.1)) (rest.map (·.1)):=(Prod.mk.inj hx).1;rw[hd]at hb;simp only[Rows.uptoBulk]at hb;have hl:=abv (elems.map (·.1));rw[List.length_map]at hl;have ex:∀i,i<len->∃g o,a.add (i*6)=⟨g,o,none⟩/\adn W g o:=fun i hi=>by
  have h1:=kY i hi;have lx:i<elems.length:=by omega
  rw[aeA,gEg lx]at h1;have h2:=abw (List.mem_map_of_mem (f:=(·.1)) (ajw lx));exact aeB h1 (by omega)
 refine⟨some a,len,cap,rfl,by omega,fun i hi=>?_⟩;obtain⟨g0,o0,e0,_⟩:=ex 0 (by omega);have ea:a=⟨g0,o0,none⟩:=by simpa [Addr.add] using e0
 obtain⟨g,o,e,ho⟩:=ex i hi;rw[ea,add_plain]at e;cases e;exact⟨_,o0,by rw[ea],ho⟩
end
theorem aci(os:Os)(started:os.Started)(H:Type)(enc:TypeId×Value->H)(F:Stop.Interp):ReturnsInHanded {} Tryz.checked os 5 .any (fun w args=>((Rows.OpenSpec.upto Rows.allSpec).pre enc prog Tryz.f5 [] false w args/\laidMetH prog zX w)/\sizedMet enc prog Tryz.f5 (Rows.OpenSpec.upto Rows.allSpec) false w args) (((Rows.OpenSpec.upto Rows.allSpec).at F).post enc prog Tryz.f5 false true false false):=by
 refine returnsInHanded_of_calls WI started (by kernel_rfl)
  ⟨World.doorLaid prog 400 os,fun _ _=>0,⟨#[],#[.slice none 0 0],[]⟩,rfl,World.shaped_of_RefB (by kernel_rfl) (by kernel_rfl),rfl,(Input.okWide_of_okWideB (by kernel_rfl)).2,
   ⟨⟨(OpenSpec.pre_some rfl [] false _ _).2 ⟨[.nil],[],[],DataW.Whole_of_whole (x:=([.nil],[],[])) (fuel:=8) (by kernel_rfl),rfl,by kernel_rfl⟩,Ic os _⟩,sizedMet_of_sizedB (fuel:=8) (by kernel_rfl)⟩,by
    simp only[Assume.holds]
    exact⟨by simp,by simp,fun _=>Modest.zero,by simp,by simp⟩⟩ ?_
 intro w tape i _ _ _ fQ adU afz;obtain⟨_,_,_,fn',adi,_,_,_,_,Mh⟩:=fQ;have e:fn'=Tryz.f5:=Option.some.inj (adi.symm.trans func5);subst e;obtain⟨⟨adU,Iq⟩,_⟩:=adU;obtain⟨ds,gs,before,hw,_,KX⟩:=(OpenSpec.pre_some rfl [] false _ _).1 adU;have hW:=DataW.Whole.of_heap (w':=w.forCall tape i) (by rfl) hw;obtain⟨W,hWW⟩:=aja (w.forCall tape i);have hL:laidMetH prog zX W:=by rw[<-hWW];exact Iq.of_heap (by rfl)
 rw[hWW]at hW Mh ⊢;obtain⟨args,ov⟩:∃args,i.args=args:=⟨_,rfl⟩;rw[ov]at hW Mh ⊢;have hC:Calls prog 5 args W fun e W'=>∃v,e=.returned v/\((Rows.OpenSpec.upto Rows.allSpec).at F).post enc prog Tryz.f5 false true false false W args v W':=by
  have qA:∀(j:Nat) t v,Tryz.f5.params[j]?=some t->args[j]?=some v->Value.okWide prog W .any w.heap.size t v:=Mh;have Y8:=hW;obtain⟨p,q,Y9,hV,rfl,Ee,iA⟩:=hW;have hA:DataW.TrodAll enc prog W 0 (fun _=>true) true Tryz.f5.params.toList args.toList ds p:=Y9;rw[params5]at hA qA;obtain⟨v0,d0,rfl,rfl,h0⟩:=trodAll_one hA;obtain⟨rfl,rfl⟩:=trodVars_none hV;have i7:Rows.uptoBulk d0<=1048576:=by have h1:Rows.uptoBulkAll ([d0]++[])<=1048576:=of_decide_eq_true KX;simp only[List.append_nil,Rows.uptoBulkAll]at h1;omega
  obtain⟨a,N,cap,rfl,hN,afA⟩:=ab5 (qA 0 52 v0 rfl rfl) h0 i7;clear Y9 Mh;simp only[List.append_nil]at Y8;have bM:∀x∈p,x.block<W.heap.size:=fun x hx=>Y8.lt x hx;refine(ado (vw hL) (nLr _) hN afA).mono fun e W' ⟨he,hg⟩=>?_;subst he;have hb:=(bc.none hg (nLr _)).below;exact⟨_,rfl,z9 (pa:=p) (pv:=[]) Y8 (fun _ _ _=>trodAll_mk1 (shut_bool underlying4 _)) (fun sp mE=>trodAll_mk1 (Trod_stays ac4 (by kernel_rfl) (of_decide_eq_true (by kernel_rfl)) h0 (fun x hx=>hb.same (bM x hx)) (fun x hx=>mE x hx))) (fun _ _=>rfl) (by simp) hg (ok_one (by kernel_rfl) rfl (okWide_bool_mk underlying4 _))⟩
 refine hC.mono fun e W' ⟨v,he,hp⟩=>?_;subst he;exact ChangeSpec.post_blind hp
theorem abB:Rows.AllUptoSaid:=
 OpenClaim.holds_of_cond 5 Tryz.f5 rfl rfl rfl rfl rfl rfl rfl ⟨rfl,rfl,rfl,rfl,rfl⟩ rfl rfl rfl rfl rfl (by kernel_rfl) func5 (by kernel_rfl)
  (of_decide_eq_true (by kernel_rfl)) (by unfold Func.isWrapper;first|(rw[ajd (by decide +kernel)];kernel_rfl)|(rw[ajc (by decide +kernel)];exact⟨rfl,rfl⟩))
  (fun os started H enc _ F=>aci os started H enc F)
theorem all_upto_card_holds:Rows.AllUptoCardSaid:=
 Claim7.holds_tied_plain_at .later [] [.mapped] true (true,"0a3b0f7d220781ef1cc98c4034ab829f152bc18808da4a2a94eea988817bde76") true
  abB (fun _ h=>by cases h) (by kernel_rfl) (fun _ h=>by cases h) allUpto_row_tie rfl ⟨rfl,rfl⟩ (by kernel_rfl) rfl
  (fun f fn hf xQ=>by
   obtain rfl:f=5:=Option.some.inj ((show prog.funcNamed Tryz.f5.name=some 5 by kernel_rfl).symm.trans hf) |>.symm
   obtain rfl:fn=Tryz.f5:=(Option.some.inj (func5.symm.trans xQ)).symm
   exact⟨by kernel_rfl,fun j t ht=>by
    rw[params5]at ht
    have hm:t∈[52]:=by simpa using Array.mem_of_getElem? ht
    have cL:([52].all fun u=>!prog.wantsStandIn u)=true:=by kernel_rfl
    exact(show prog.wantsStandIn t=false by simpa using List.all_eq_true.1 cL t hm)⟩)
  (by kernel_rfl)
#print axioms all_upto_card_holds
end
