import Derived.Test.YtjbdgbdcnjopkaaGreatDoorS41
import Derived.Test.YtjbdgbdcnjopkaaGreatDoorS42
import Derived.Test.YtjbdgbdcnjopkaaGreatDoorS16
import Derived.Deep.CutBlock
namespace Go.Proofs.YtjbdgbdcnjopkaaGreatDoor
open Go.RowKit Tryz
set_option linter.all false
set_option maxRecDepth 100000
set_option maxHeartbeats 4000000
theorem DU(az c x m f:Nat)(s:ByteArray)(mm:bf)(fn:ck)(sig:Sig)(N:Nat):kP az c x m f s mm fn sig N:=Nat.strongRecOn N fun _ IH=>Bt IH
section
variable {az c x m f:Nat}{w:World}{s:ByteArray}{at_:Nat}{er:Er}{mm:bf}{fn:ck}{sig:Sig}
end
theorem By{w:World}{s:ByteArray}(hs:s.size<=9223372036854775807)(hl:4000<s.size):Calls prog 36 #[.string s] w fun r w'=>r=.returned (.tuple #[.pointer none,.int .i64 1,.int .i64 0])/\w=w':=by
 have h1:(4000:Int)<(s.size:Int):=by omega
 have h2:(s.size:Int)<=9223372036854775807:=by omega
 go_enter func36,ntmps36;go_wp2_with fail;go_ret3;exact⟨rfl,rfl⟩
theorem Od:(prog.info? 46).map (fun i=>(i.zero,i.size,i.bytes))=some (some (.agg #[.slice none 0 0,.slice none 0 0]),2,48):=by kernel_rfl
theorem Oe:(prog.info? 50).map (fun i=>(i.zero,i.size,i.bytes))=some (some (.pointer none),1,8):=by kernel_rfl
theorem vq(w:World)(x y:Value)(t:TypeId):∀j u,[x,y][j]?=some u->(w.alloc (.cells #[x,y] t)).cell? ((⟨w.heap.size,0,none⟩:Addr).add j)=some u:=by
 intro j u hj;have hb:Blk (w.alloc (.cells #[x,y] t)) w.heap.size #[x,y] t:=Blk.new _ _ _;rw[cJ,ajx,hb.cell]
 match j,hj with
 |0,hj=>simpa using hj
 | 1,hj=>simpa using hj
theorem wN{W w':World}{az e size n:Nat}{v:Value}{xs:List Value}(bn:W.ownsRow az e size v n xs)(bU:W.grownBy w' v.ownBlock){g t:Nat}{cs:Array Value}(hb:Blk W g cs t)(ht:t≠e):Blk w' g cs t:=by
 cases i7:v.ownBlock with
 |none=>rw[i7]at bU;exact hb.grown bU (by simp)
 |some q=>
  rw[i7]at bU;obtain⟨_,c',kt⟩:=ba bn q i7;exact aF bU kt hb ht
theorem wO{w W w':World}{az e size n:Nat}{v:Value}{xs:List Value}(h:w.grownBy W none)(bn:W.ownsRow az e size v n xs)(bU:W.grownBy w' v.ownBlock)(hB:w.heap.size<=az):w.grownBy w' none:=by
 cases i7:v.ownBlock with
 |none=>rw[i7]at bU;exact aB h bU
 |some q=>
  rw[i7]at bU;exact aO h (ajE hB (ba bn q i7).1) bU
theorem Bz{bs:List UInt8}{at_:Nat}{er:Er}{lo hi:Nat}:lo<=(bH bs at_ er lo hi).1:=by
 unfold bH;simp only;generalize dN bs at_ er=r;by_cases h1:r.2.2.1=0/\(r.1<lo\/hi<r.1)
 ·rw[ajd h1];simp
 rw[ajc h1];by_cases h2:r.2.2.1=0
 ·rw[ajd h2];omega
 rw[ajc h2];exact nLr _
theorem xM{bs:List UInt8}{nsig at_:Nat}{er:Er}(h:(cK bs nsig at_ er).2.2.1=0):(cK bs nsig at_ er).2.1<=bs.length:=by
 unfold cK at h ⊢;simp only at h ⊢;generalize bH bs at_ er 0 (nsig-1)=k at h ⊢;generalize dO bs k.2.1 k.2.2 8=t at h ⊢;generalize dN bs t.2.1 t.2.2=a at h ⊢;generalize dN bs a.2.1 a.2.2=b at h ⊢;generalize 256*a.1+b.1=n at h ⊢;generalize (if b.2.2.1=0/\(n<1\/400<n) then ((2,t.2.1):Er) else b.2.2)=e at h;by_cases hl:bs.length<b.2.1+n
 ·by_cases he:e.1=0
  ·rw[ajd ⟨he,hl⟩]at h;simp at h
  rw[ajc (fun q=>he q.1)]at h;exact absurd h he
 omega
section
variable {w:World}{s:ByteArray}
theorem zR(hU:∀az c x m f s mm fn sig N,kP az c x m f s mm fn sig N)(hs:s.size<=4000):Calls prog 36 #[.string s] w fun r w'=>w.grownBy w' none/\GO w.heap.size w' s.data.toList r:=by
 have h1:(s.size:Int)<=4000:=by omega
 have oi:s.size<=9223372036854775807:=by omega
 obtain⟨x,hx⟩:=aja w.heap.size;have PF:Sc (w.alloc (.cells #[.string s,.int .i64 0,.int .i64 0,.int .i64 0] 116)) x s 0 (0,0):=by rw[<-hx];exact Blk.new _ _ _
 have YF:w.grownBy (w.alloc (.cells #[.string s,.int .i64 0,.int .i64 0,.int .i64 0] 116)) none:=aC _ _ _;have HX:Hid _:=hx;obtain⟨H0,YG⟩:=aja (kQ s.data.toList [84,82,1] 0 0 (0,0));have Wo:Hid _:=YG;clear YG;have HUU:Hid _:=hU;clear hU;go_enter func36,ntmps36
 go_upto_block 0 with fail
 go_cut [6,7] from 21 to 41 (fun v6 v7 wc=>∃(at_:Nat) (er:Er),w.grownBy wc none/\Sc wc x s at_ er/\at_<=3/\Hid (H0=(at_,er)))
 case first=>
  as_aux_lemma=>
  go_wp2_with fail;go_loopw [6] (fun i wr=>∃(at_:Nat) (er:Er),w.grownBy wr none/\Sc wr x s at_ er/\((i=.int .i64 0/\at_<=0/\Hid (H0=kQ s.data.toList [84,82,1] 0 at_ er))\/(i=.int .i64 1/\at_<=1/\Hid (H0=kQ s.data.toList [82,1] 1 at_ er))\/(i=.int .i64 2/\at_<=2/\Hid (H0=kQ s.data.toList [1] 2 at_ er))\/(i=.int .i64 3/\at_<=3/\Hid (H0=(at_,er))))) (fun i _=>(3-intOf i).toNat)
  case atStart=>exact⟨0,(0,0),YF,PF,.inl ⟨rfl,nLr _,Wo.out.symm⟩⟩
  case round=>
   obtain⟨at_,er,bU,pk,fp⟩:=hrel;obtain⟨w1,rfl⟩:∃z,z=wr:=⟨wr,rfl⟩;have hB:=pH pk oi (by rcases fp with h|h|h|h <;> omega);have jM:=mX (at_:=at_) (er:=er) (bs:=s.data.toList);rcases fp with⟨rfl,ha,HE⟩|⟨rfl,ha,HE⟩|⟨rfl,ha,HE⟩|⟨rfl,ha,HE⟩
   ·have Rw:wrap64 (((⟨#[84,82,1]⟩:ByteArray)[0]'(by decide)).toNat:Int)=84:=by show wrap64 ((84:Nat):Int)=84;exact IntWalk.wrap64_in _ (by omega)
    have kK:=HE.out;rw[kQ]at kK;obtain⟨r,hr⟩:=aja (dN s.data.toList at_ er);rw[hr]at hB jM kK;obtain⟨b,at1,er1⟩:=r;simp only at hB jM kK;have rY:Hid _:=kK;obtain⟨Rx,ri⟩:=jM;clear HE kK hr;go_wp2_with fail;refine hB.mono ?_;clear hB;rintro e w2 ⟨rfl,aP,gY⟩;have cO:w.grownBy w2 none:=aO bU (ajJ HX.out) aP;obtain⟨d0,d1,d2,d3⟩:=gY.cells;have xV:=Blk.lt gY;by_cases h0:er1.1=0
    ·rw[h0]at d2;by_cases oO:b=84
     ·have zS:Hid _:=(rY.out.trans (by rw[ajc (fun q=>q.2 oO)]));clear rY h0;have Ns:((b:Int) != 84)=false:=by rw[oO];rfl
      clear oO;go_wp2_with fail;go_roundw
      case rel=>exact⟨at1,er1,cO,gY,.inr (.inl ⟨rfl,by omega,zS⟩)⟩
      case measure=>simp[intOf]
     have zS:Hid _:=(rY.out.trans (by rw[ajd ⟨h0,oO⟩]));have hN:=i6 gY 2 0;have gK:noS er1 2 0=(2,0):=by unfold noS;rw[ajd h0]
     rw[gK]at hN;simp only[show ((2:Nat):Int)=2 from rfl,show ((0:Nat):Int)=0 from rfl]at hN
     have Ns:((b:Int) != 84)=true:=by rw[bne_iff_ne];omega
     clear oO gK rY h0;go_wp2_with fail;refine hN.mono ?_;clear hN;rintro e w3 ⟨rfl,co,vQ⟩;have kF:w.grownBy w3 none:=aO cO (ajJ HX.out) co;go_wp2_with fail;go_roundw
     case rel=>exact⟨at1,(2,0),kF,vQ,.inr (.inl ⟨rfl,by omega,zS⟩)⟩
     case measure=>simp[intOf]
    have zS:Hid _:=(rY.out.trans (by rw[ajc (fun q=>h0 q.1)]));have e0:((er1.1:Int)==0)=false:=beqn (by omega);clear rY h0;go_wp2_with fail;go_roundw
    case rel=>exact⟨at1,er1,cO,gY,.inr (.inl ⟨rfl,by omega,zS⟩)⟩
    case measure=>simp[intOf]
   ·have Rw:wrap64 (((⟨#[84,82,1]⟩:ByteArray)[1]'(by decide)).toNat:Int)=82:=by show wrap64 ((82:Nat):Int)=82;exact IntWalk.wrap64_in _ (by omega)
    have kK:=HE.out;rw[kQ]at kK;obtain⟨r,hr⟩:=aja (dN s.data.toList at_ er);rw[hr]at hB jM kK;obtain⟨b,at1,er1⟩:=r;simp only at hB jM kK;have rY:Hid _:=kK;obtain⟨Rx,ri⟩:=jM;clear HE kK hr;go_wp2_with fail;refine hB.mono ?_;clear hB;rintro e w2 ⟨rfl,aP,gY⟩;have cO:w.grownBy w2 none:=aO bU (ajJ HX.out) aP;obtain⟨d0,d1,d2,d3⟩:=gY.cells;have xV:=Blk.lt gY;by_cases h0:er1.1=0
    ·rw[h0]at d2;by_cases oO:b=82
     ·have zS:Hid _:=(rY.out.trans (by rw[ajc (fun q=>q.2 oO)]));clear rY h0;have Ns:((b:Int) != 82)=false:=by rw[oO];rfl
      clear oO;go_wp2_with fail;go_roundw
      case rel=>exact⟨at1,er1,cO,gY,.inr (.inr (.inl ⟨rfl,by omega,zS⟩))⟩
      case measure=>simp[intOf]
     have zS:Hid _:=(rY.out.trans (by rw[ajd ⟨h0,oO⟩]));have hN:=i6 gY 2 1;have gK:noS er1 2 1=(2,1):=by unfold noS;rw[ajd h0]
     rw[gK]at hN;simp only[show ((2:Nat):Int)=2 from rfl,show ((1:Nat):Int)=1 from rfl]at hN
     have Ns:((b:Int) != 82)=true:=by rw[bne_iff_ne];omega
     clear oO gK rY h0;go_wp2_with fail;refine hN.mono ?_;clear hN;rintro e w3 ⟨rfl,co,vQ⟩;have kF:w.grownBy w3 none:=aO cO (ajJ HX.out) co;go_wp2_with fail;go_roundw
     case rel=>exact⟨at1,(2,1),kF,vQ,.inr (.inr (.inl ⟨rfl,by omega,zS⟩))⟩
     case measure=>simp[intOf]
    have zS:Hid _:=(rY.out.trans (by rw[ajc (fun q=>h0 q.1)]));have e0:((er1.1:Int)==0)=false:=beqn (by omega);clear rY h0;go_wp2_with fail;go_roundw
    case rel=>exact⟨at1,er1,cO,gY,.inr (.inr (.inl ⟨rfl,by omega,zS⟩))⟩
    case measure=>simp[intOf]
   ·have Rw:wrap64 (((⟨#[84,82,1]⟩:ByteArray)[2]'(by decide)).toNat:Int)=1:=by show wrap64 ((1:Nat):Int)=1;exact IntWalk.wrap64_in _ (by omega)
    have kK:=HE.out;rw[kQ]at kK;obtain⟨r,hr⟩:=aja (dN s.data.toList at_ er);rw[hr]at hB jM kK;obtain⟨b,at1,er1⟩:=r;simp only at hB jM kK;have rY:Hid _:=kK;obtain⟨Rx,ri⟩:=jM;clear HE kK hr;go_wp2_with fail;refine hB.mono ?_;clear hB;rintro e w2 ⟨rfl,aP,gY⟩;have cO:w.grownBy w2 none:=aO bU (ajJ HX.out) aP;obtain⟨d0,d1,d2,d3⟩:=gY.cells;have xV:=Blk.lt gY;by_cases h0:er1.1=0
    ·rw[h0]at d2;by_cases oO:b=1
     ·have zS:Hid _:=(rY.out.trans (by rw[ajc (fun q=>q.2 oO)]));clear rY h0;have Ns:((b:Int) != 1)=false:=by rw[oO];rfl
      clear oO;go_wp2_with fail;go_roundw
      case rel=>exact⟨at1,er1,cO,gY,.inr (.inr (.inr ⟨rfl,by omega,zS⟩))⟩
      case measure=>simp[intOf]
     have zS:Hid _:=(rY.out.trans (by rw[ajd ⟨h0,oO⟩]));have hN:=i6 gY 2 2;have gK:noS er1 2 2=(2,2):=by unfold noS;rw[ajd h0]
     rw[gK]at hN;simp only[show ((2:Nat):Int)=2 from rfl,show ((2:Nat):Int)=2 from rfl]at hN
     have Ns:((b:Int) != 1)=true:=by rw[bne_iff_ne];omega
     clear oO gK rY h0;go_wp2_with fail;refine hN.mono ?_;clear hN;rintro e w3 ⟨rfl,co,vQ⟩;have kF:w.grownBy w3 none:=aO cO (ajJ HX.out) co;go_wp2_with fail;go_roundw
     case rel=>exact⟨at1,(2,2),kF,vQ,.inr (.inr (.inr ⟨rfl,by omega,zS⟩))⟩
     case measure=>simp[intOf]
    have zS:Hid _:=(rY.out.trans (by rw[ajc (fun q=>h0 q.1)]));have e0:((er1.1:Int)==0)=false:=beqn (by omega);clear rY h0;go_wp2_with fail;go_roundw
    case rel=>exact⟨at1,er1,cO,gY,.inr (.inr (.inr ⟨rfl,by omega,zS⟩))⟩
    case measure=>simp[intOf]
   clear hB jM;go_wp2_with fail;go_meet
   exact⟨at_,er,bU,pk,ha,HE⟩
 case rest=>
  obtain⟨w3,rfl⟩:∃z,z=wc:=⟨wc,rfl⟩;obtain⟨at0,er0,kF,vQ,ack,IC⟩:=hcut;have Wp:Hid (H0.1=at0/\H0.2=er0):=by show _/\_;rw[IC.out];exact⟨rfl,rfl⟩
  clear IC PF YF;have Iv:Sc (w3.alloc (.cells #[.slice none 0 0,.slice none 0 0] 38)) x s at0 er0:=Blk.alloc vQ _;have Al:=Blk.new w3 #[.slice none 0 0,.slice none 0 0] 38;have Pv:=aB kF (aC w3 (.cells #[.slice none 0 0,.slice none 0 0] 38) none);have hN:=jr Iv oi (by omega) 1 20 (by decide) (by decide);have n1:=(ij (at_:=at0) (er:=er0) (bs:=s.data.toList) (lo:=1) (hi:=20)).1;have n0:=Bz (at_:=at0) (er:=er0) (bs:=s.data.toList) (lo:=1) (hi:=20);have n2:=lX (at_:=at0) (er:=er0) (bs:=s.data.toList) (lo:=1) (hi:=20) (by decide);obtain⟨r,hr⟩:=aja (bH s.data.toList at0 er0 1 20);rw[hr]at hN n0 n1 n2;obtain⟨n,at1,er1⟩:=r;simp only at hN n0 n1 n2;have YH:Hid _:=hr;simp only[show ((1:Nat):Int)=1 from rfl,show ((20:Nat):Int)=20 from rfl]at hN
  clear hr;obtain⟨m,hm⟩:=aja w3.heap.size;have hmx:x<=m:=by have:=kF.size;have:=HX.out;omega
  rw[hm]at Al;go_wp2_with fail;refine hN.mono ?_;clear hN;rintro e w4 ⟨rfl,dv,Fw⟩;have zr:Blk w4 m #[.slice none 0 0,.slice none 0 0] 38:=aF dv Iv Al (by decide);have BP:w.grownBy w4 none:=aO Pv (ajJ HX.out) dv;try rw[hm]
  clear Iv Al Pv dv vQ kF hm;obtain⟨H1,YI⟩:=aja (mu s.data.toList n at1 er1 []);have Wq:Hid _:=YI;clear YI;obtain⟨i0,hi,fo,eP,eV⟩:=info_parts Od
  go_upto_block 2 with fail
  go_cut [9,10,11] from 46 to 72 (fun v9 v10 v11 wc=>∃(at_:Nat) (er:Er) (l:List Sig) (vs:Value),w.grownBy wc none/\Sc wc x s at_ er/\at_<=4+11*l.length/\l.length<=20/\Blk wc m #[vs,.slice none 0 0] 38/\ev x wc vs l/\(∀q∈l,q.1.length<=6/\q.2.length<=3)/\(er.1=0->0<l.length)/\Hid (H1=(l,at_,er)))
  case first=>
   as_aux_lemma=>
   go_wp2_with fail;go_loopw [9] (fun i wr=>∃(k at2:Nat) (er2:Er) (l:List Sig) (vs:Value),i=.int .i64 k/\k+l.length=n/\at2<=at1+11*l.length/\Hid (H1=mu s.data.toList k at2 er2 l)/\w.grownBy wr none/\Sc wr x s at2 er2/\Blk wr m #[vs,.slice none 0 0] 38/\ev x wr vs l/\(∀q∈l,q.1.length<=6/\q.2.length<=3)) (fun i _=>(intOf i).toNat)
   case atStart=>exact⟨n,at1,er1,[],_,rfl,rfl,nLr _,Wq.out.symm,BP,Fw,zr,ev.none,fun q hq=>by simp at hq⟩
   case round=>
    obtain⟨k,at2,er2,l,vs,rfl,jl,KR,HE,bU,pk,KC,dp,aQ⟩:=hrel;obtain⟨w5,rfl⟩:∃z,z=wr:=⟨wr,rfl⟩;obtain⟨xs,bn,Hw⟩:=dp;obtain⟨av,capv,rfl,BX,_⟩:=aG bn;obtain⟨d0,d1,d2,d3⟩:=pk.cells;have rQ:(k:Int)<=20:=by omega
    have xV:=Blk.lt pk;by_cases h0:er2.1=0
    ·rw[h0]at d2;cases k with
     |zero=>
      have HF:Hid (H1=(l,at2,er2)):=HE.out;clear HE h0;go_wp2_with fail;go_meet
      exact⟨at2,er2,l,_,bU,pk,by omega,by omega,KC,⟨xs,bn,Hw⟩,aQ,fun _=>by omega,HF⟩
     |succ k=>
      have ya:=oS pk oi (by omega) 6 (by decide);have t1:=qu (at_:=at2) (er:=er2) (bs:=s.data.toList) (most:=6);have kK:H1=mu s.data.toList k (vj s.data.toList at2 er2).2.1 (vj s.data.toList at2 er2).2.2 (l++[(vj s.data.toList at2 er2).1]):=by rw[HE.out,mu,ajd h0]
      unfold vj at kK;obtain⟨r,hr⟩:=aja (dO s.data.toList at2 er2 6);rw[hr]at ya t1 kK;obtain⟨ts,at3,er3⟩:=r;simp only at ya t1 kK;have yd:=fun (W2:World) (h2:Sc W2 x s at3 er3)=>oS h2 oi (by omega) 3 (by decide);have t2:=qu (at_:=at3) (er:=er3) (bs:=s.data.toList) (most:=3);obtain⟨r,lM⟩:=aja (dO s.data.toList at3 er3 3);rw[lM]at yd t2 kK;obtain⟨gs,at4,er4⟩:=r;simp only at yd t2 kK;have rY:Hid _:=kK;have LN:Hid _:=yd;have mD:0<((k+1:Nat):Int):=by omega
      simp only[show ((6:Nat):Int)=6 from rfl]at ya
      simp only[show ((3:Nat):Int)=3 from rfl]at LN
      clear HE kK h0 hr lM yd;go_wp2_with fail;refine ya.mono ?_;clear ya;rintro e w6 ⟨v1,rfl,oM,Wr,Ek⟩;have Ry:=aF oM pk KC (by decide);have BT:w.grownBy w6 none:=aO bU (ajJ HX.out) oM;have k6:∀g c t,t≠116->Blk w5 g c t->Blk w6 g c t:=fun g c t ht hb=>aF oM pk hb ht;go_wp2_with fail;refine(LN.out w6 Ek).mono ?_;rintro e w7 ⟨v2,rfl,rI,JI,qd⟩;have An:=aF rI Ek Ry (by decide);have KD:w.grownBy w7 none:=aO BT (ajJ HX.out) rI;have k7:∀g c t,t≠116->Blk w6 g c t->Blk w7 g c t:=fun g c t ht hb=>aF rI Ek hb ht;have r1:aR w7 v1 ts:=(show aR w6 v1 ts from dj Wr).keep fun g c hb=>k7 g c 3 (by decide) hb
      have r2:aR w7 v2 gs:=dj JI;obtain⟨a1,c1,rfl,_,_⟩:=aG Wr;obtain⟨a2,c2,rfl,_,_⟩:=aG JI;have wi:w7.ownsRow x 46 2 (.slice av l.length capv) l.length xs:=aJ bn fun g c hb=>k7 g c 46 (by decide) (k6 g c 46 (by decide) hb);have m0:=An.cell 0;have f0:=An.frozen 0;simp at m0;have LY:=An.lt;have acm:=KD.size;have Ws:=HX.out;have q6:x<=w7.heap.size+1:=by omega
      clear Ws Ry Ek oM rI LN Wr JI BT;go_wp2_with (at_builtin;refine wpList_append_own_at _ rfl _ _ 35 rfl x 46 i0 _ 2 48 underlying35 hi fo eP eV rfl (by decide) (.slice av l.length capv) l.length xs rfl (wi.alloc _) ⟨w7.heap.size,0,none⟩ 1 1 [.slice a1 ts.length c1,.slice a2 gs.length c2] rfl rfl ?q2 ?q3 ?q4 ?q5 ?q6 ?q7)
      case q2=>exact vq _ _ _ _
      case q3=>simp[Value.oneCell']
      case q4=>simp[maxLen];omega
      case q5=>omega
      case q6=>simpa using q6
      case q7=>
       intro v' w' cG cD _ _;obtain⟨a',cap',rfl,_,_⟩:=aG cG;have EG:xs.length=l.length*2:=bn.1;have Wt:=aB KD (aC w7 (.cells #[.slice a1 ts.length c1,.slice a2 gs.length c2] 46) none);have Jm:w.grownBy w' none:=wO Wt (wi.alloc _) cD (ajJ HX.out);have k8:∀g c t,t≠46->Blk w7 g c t->Blk w' g c t:=fun g c t ht hb=>wN (wi.alloc _) cD (hb.alloc _) ht;have BA:=k8 _ _ _ (by decide) An;have td:Sc w' x s at4 er4:=k8 _ _ _ (by decide) qd;have m8:=BA.cell 0;have f8:=BA.frozen 0;simp at m8;have acn:=BA.lt;clear m0 f0 LY An qd;go_wp2_with fail;go_roundw
       case rel=>
        have dU:=aD w' m 0 (.slice a' (l.length+1) cap');have ks:∀g c t,t≠38->Blk w' g c t->Blk (w'.setCell ⟨m,0,none⟩ (.slice a' (l.length+1) cap')) g c t:=fun g c t ht hb=>aF dU BA hb ht;have bY:=BA.set 0 (.slice a' (l.length+1) cap');simp at bY;refine⟨k,at4,er4,l++[(ts,gs)],.slice a' (l.length+1) cap',by simp,by simp;omega,by simp;omega,rY,aO Jm (by have:=HX.out;omega) dU,ks _ _ _ (by decide) td,bY,?_,?_⟩
        ·exact ev.snoc (w:=w5) Hw EG (aJ cG (fun g c hb=>ks g c 46 (by decide) hb)) (fun g c hb=>ks g c 3 (by decide) (k8 g c 3 (by decide) (k7 g c 3 (by decide) (k6 g c 3 (by decide) hb)))) (r1.keep fun g c hb=>ks g c 3 (by decide) (k8 g c 3 (by decide) hb)) (r2.keep fun g c hb=>ks g c 3 (by decide) (k8 g c 3 (by decide) hb))
        intro q hq;rcases List.mem_append.1 hq with hq|hq
        ·exact aQ q hq
        simp at hq;subst hq;exact⟨t1.2,t2.2⟩
       case measure=>simp[intOf]
    have HF:Hid (H1=(l,at2,er2)):=by show _=_;rw[HE.out,nZ h0]
    have e0:((er2.1:Int)==0)=false:=beqn (by omega);clear HE;have d8:∃(at_:Nat) (er:Er) (l:List Sig) (vs:Value),w.grownBy w5 none/\Sc w5 x s at_ er/\at_<=4+11*l.length/\l.length<=20/\Blk w5 m #[vs,.slice none 0 0] 38/\ev x w5 vs l/\(∀q∈l,q.1.length<=6/\q.2.length<=3)/\(er.1=0->0<l.length)/\Hid (H1=(l,at_,er)):=⟨at2,er2,l,_,bU,pk,by omega,by omega,KC,⟨xs,bn,Hw⟩,aQ,fun q=>absurd q h0,HF⟩;have ey:Hid _:=d8;clear d8 h0;by_cases uH:k=0
    ·subst uH;go_wp2_with fail;go_meet
     exact ey.out
    have mD:0<(k:Int):=by omega
    go_wp2_with fail;go_meet
    exact ey.out
  case rest=>
   obtain⟨w5,rfl⟩:∃z,z=wc:=⟨wc,rfl⟩;obtain⟨at2,er2,l,vs,YJ,BZ,Bu,ED,qn,Rz,aQ,j5,SF⟩:=hcut;clear zr BP Fw hi fo eP eV i0;have hN:=jr BZ oi (by omega) 1 20 (by decide) (by decide);have p1:=(ij (at_:=at2) (er:=er2) (bs:=s.data.toList) (lo:=1) (hi:=20)).1;have p2:=lX (at_:=at2) (er:=er2) (bs:=s.data.toList) (lo:=1) (hi:=20) (by decide);have p3:(bH s.data.toList at2 er2 1 20).2.2.1=0->er2.1=0:=fun h=>by
    by_cases h0:er2.1=0
    ·exact h0
    rw[iw h0]at h;exact h
   obtain⟨r,hr⟩:=aja (bH s.data.toList at2 er2 1 20);rw[hr]at hN p1 p2 p3;obtain⟨n',at3,er3⟩:=r;simp only at hN p1 p2 p3;have Ku:Hid _:=hr;simp only[show ((1:Nat):Int)=1 from rfl,show ((20:Nat):Int)=20 from rfl]at hN
   have Nu:Hid _:=p3;have RA:Hid _:=j5;have AZ:Hid _:=aQ;clear hr p3 j5 aQ;go_wp2_with fail;refine hN.mono ?_;clear hN;rintro e w6 ⟨rfl,oM,Ek⟩;have Ry:=aF oM BZ qn (by decide);have BT:w.grownBy w6 none:=aO YJ (ajJ HX.out) oM;have GF:ev x w6 vs l:=Rz.keep fun g c t ht hb=>aF oM BZ hb (by rcases ht with rfl|rfl <;> decide);clear oM BZ YJ qn Rz;obtain⟨H2,YK⟩:=aja (mv s.data.toList l.length n' at3 er3 []);have Wu:Hid _:=YK;clear YK;obtain⟨i0,hi,fo,eP,eV⟩:=info_parts Oe;have LZ:s.data.toList.length=s.size:=by rw[ajF];rfl
   have O7:Hid _:=LZ;clear LZ
   go_upto_block 4 with fail
   go_cut [9,12] from 75 to 98 (fun v9 v12 wc=>∃(at_:Nat) (er:Er) (fl:List pI) (ads:List Nat) (vf:Value),w.grownBy wc none/\Sc wc x s at_ er/\fl.length<=20/\Blk wc m #[vs,vf] 38/\ev x wc vs l/\fG x wc vf l ads fl/\Hid (H2=(fl,at_,er)))
   case first=>
    as_aux_lemma=>
    go_wp2_with fail;go_loopw [9] (fun i wr=>∃(k at4:Nat) (er4:Er) (fl:List pI) (ads:List Nat) (vf:Value),i=.int .i64 k/\k+fl.length=n'/\Hid (er4.1=0->at4<=4000/\er3.1=0)/\Hid (H2=mv s.data.toList l.length k at4 er4 fl)/\w.grownBy wr none/\Sc wr x s at4 er4/\Blk wr m #[vs,vf] 38/\ev x wr vs l/\fG x wr vf l ads fl) (fun i _=>(intOf i).toNat)
    case atStart=>exact⟨n',at3,er3,[],[],_,rfl,rfl,fun h=>⟨by omega,h⟩,Wu.out.symm,BT,Ek,Ry,GF,fG.none⟩
    case round=>
     obtain⟨k,at4,er4,fl,ads,vf,rfl,jl,NI,HE,bU,pk,KC,RD,lN⟩:=hrel;obtain⟨w7,rfl⟩:∃z,z=wr:=⟨wr,rfl⟩;have bn:=lN.row;obtain⟨av,capv,rfl,BX,_⟩:=aG bn;obtain⟨d0,d1,d2,d3⟩:=pk.cells;have rQ:(k:Int)<=20:=by omega
     have xV:=Blk.lt pk;by_cases h0:er4.1=0
     ·rw[h0]at d2;cases k with
      |zero=>
       have HF:Hid (H2=(fl,at4,er4)):=HE.out;clear HE h0;go_wp2_with fail;go_meet
       exact⟨at4,er4,fl,ads,_,bU,pk,by omega,KC,RD,lN,HF⟩
      |succ k=>
       obtain⟨ha4,Co⟩:=NI.out h0;have A6:0<l.length:=RA.out (Nu.out Co);have xJ:=uQ pk oi (by omega) KC (RD.rsigs A6) A6 ED (fun q hq=>by have:=(AZ.out q hq).1;omega);have kK:H2=mv s.data.toList l.length k (cK s.data.toList l.length at4 er4).2.1 (cK s.data.toList l.length at4 er4).2.2 (fl++[(cK s.data.toList l.length at4 er4).1]):=by rw[HE.out,mv,ajd h0]
       have KE:=xM (bs:=s.data.toList) (nsig:=l.length) (at_:=at4) (er:=er4);obtain⟨r,hr⟩:=aja (cK s.data.toList l.length at4 er4);rw[hr]at xJ kK KE;obtain⟨fs,at5,er5⟩:=r;simp only at xJ kK KE;have rY:Hid _:=kK;have HFA:Hid _:=KE;have mD:0<((k+1:Nat):Int):=by omega
       clear HE kK h0 hr KE;go_wp2_with fail;refine xJ.mono ?_;clear xJ;rintro e w8 ⟨f,vt,vg,vl,sg,rfl,lv,mS,td,Fv,oJ,rt,rg,rl⟩;have k8:∀g c t,t≠116->Blk w7 g c t->Blk w8 g c t:=fun g c t ht hb=>aF mS pk hb ht;have BA:=k8 _ _ _ (by decide) KC;have Jm:w.grownBy w8 none:=aO bU (ajJ HX.out) mS;have oz:w8.ownsRow x 50 1 (.slice av fl.length capv) fl.length (ads.map ptr):=aJ bn fun g c hb=>k8 g c 50 (by decide) hb;have m0:=BA.cell 1;have f0:=BA.frozen 1;simp at m0;have LY:=BA.lt;have acp:=Jm.size;have Ws:=HX.out;have q6:x<=w8.heap.size+1:=by omega
       have I0:x<=f:=by have:=bU.size;omega
       clear Ws mS;go_wp2_with (at_builtin;refine wpList_append_own_at _ rfl _ _ 36 rfl x 50 i0 _ 1 8 underlying36 hi fo eP eV rfl (by decide) (.slice av fl.length capv) fl.length (ads.map ptr) rfl (oz.alloc _) ⟨w8.heap.size,0,none⟩ 1 1 [.pointer (some ⟨f,0,none⟩)] rfl rfl ?q2 ?q3 ?q4 ?q5 ?q6 ?q7)
       case q2=>exact cell_one_new _ _ _
       case q3=>simp[Value.oneCell']
       case q4=>simp[maxLen];omega
       case q5=>omega
       case q6=>simpa using q6
       case q7=>
        intro v' w' cG cD _ _;obtain⟨a',cap',rfl,_,_⟩:=aG cG;have Wt:=aB Jm (aC w8 (.cells #[.pointer (some ⟨f,0,none⟩)] 50) none);have hG9:w.grownBy w' none:=wO Wt (oz.alloc _) cD (ajJ HX.out);have k9:∀g c t,t≠50->Blk w8 g c t->Blk w' g c t:=fun g c t ht hb=>wN (oz.alloc _) cD (hb.alloc _) ht;have Il:=k9 _ _ _ (by decide) BA;have SS:Sc w' x s at5 er5:=k9 _ _ _ (by decide) td;have m9:=Il.cell 1;have f9:=Il.frozen 1;simp at m9;have acr:=Il.lt;clear m0 f0 LY BA td;go_wp2_with fail;go_roundw
        case rel=>
         have dU:=aD w' m 1 (.slice a' (fl.length+1) cap');have ks:∀g c t,t≠38->Blk w' g c t->Blk (w'.setCell ⟨m,1,none⟩ (.slice a' (fl.length+1) cap')) g c t:=fun g c t ht hb=>aF dU Il hb ht;have bY:=Il.set 1 (.slice a' (fl.length+1) cap');simp at bY;have k3:∀g c t,t≠38->t≠50->Blk w8 g c t->Blk (w'.setCell ⟨m,1,none⟩ (.slice a' (fl.length+1) cap')) g c t:=fun g c t h1 h2 hb=>ks g c t h1 (k9 g c t h2 hb);refine⟨k,at5,er5,fl++[fs],ads++[f],.slice a' (fl.length+1) cap',by simp,by simp;omega,fun h5=>⟨by have:=HFA.out h5;have:=O7.out;omega,Co⟩,rY,aO hG9 (by have:=HX.out;omega) dU,ks _ _ _ (by decide) SS,bY,?_,?_⟩
         ·exact RD.keep fun g c t ht hb=>k3 g c t (by rcases ht with rfl|rfl <;> decide) (by rcases ht with rfl|rfl <;> decide) (k8 g c t (by rcases ht with rfl|rfl <;> decide) hb)
         refine fG.snoc lN (aJ cG (fun g c hb=>ks g c 50 (by decide) hb)) (fun g c t ht hb=>k3 g c t (by rcases ht with rfl|rfl <;> decide) (by rcases ht with rfl|rfl <;> decide) (k8 g c t (by rcases ht with rfl|rfl <;> decide) hb)) (fun b hb=>by have:=lN.used b hb;omega) I0 Fv ⟨vt,vg,vl,_,k3 _ _ _ (by decide) (by decide) oJ,rt.keep fun g c hb=>k3 g c 3 (by decide) (by decide) hb,rg.keep fun g c hb=>k3 g c 3 (by decide) (by decide) hb,rl.keep fun g c hb=>k3 g c 3 (by decide) (by decide) hb⟩
        case measure=>simp[intOf]
     have HF:Hid (H2=(fl,at4,er4)):=by show _=_;rw[HE.out,jV h0]
     have e0:((er4.1:Int)==0)=false:=beqn (by omega);clear HE h0;by_cases uH:k=0
     ·subst uH;go_wp2_with fail;go_meet
      exact⟨at4,er4,fl,ads,_,bU,pk,by omega,KC,RD,lN,HF⟩
     have mD:0<(k:Int):=by omega
     go_wp2_with fail;go_meet
     exact⟨at4,er4,fl,ads,_,bU,pk,by omega,KC,RD,lN,HF⟩
   case rest=>
    obtain⟨w7,rfl⟩:∃z,z=wc:=⟨wc,rfl⟩;obtain⟨at5,er5,fl,ads,vf,KD,qd,Ma,An,KF,Hx,kK⟩:=hcut;clear BT Ek Ry GF hi fo eP eV i0;have BK:s.data.toList.length<=4000:=by rw[O7.out];exact hs
    have YL:Hid (tQ s.data.toList={sigs:=l,funs:=fl,er:=if er5.1=0/\at5<s.size then (2,at5) else er5}):=by show _=_;unfold tQ;simp only[Wo.out,Wp.out.1,Wp.out.2,YH.out,Wq.out,SF.out,Ku.out,Wu.out,kK.out,O7.out]
    obtain⟨met1,met2⟩:=tR (bs:=s.data.toList) BK;rw[YL.out]at met1 met2;obtain⟨d0,d1,d2,d3⟩:=qd.cells;have xV:=Blk.lt qd;have bn:=Hx.row;obtain⟨av,capv,rfl,BX,_⟩:=aG bn;have HRX:Hid (w.heap.size=x):=HX.out;cases mE:eD s.data.toList with
    |error e=>
     obtain⟨me1,me2⟩:=met2 e mE;simp only at me1;have BB:Hid (eU s.data.toList=.error e):=by show _=_;unfold eU;rw[mE,aW]
     obtain⟨nf,Ai⟩:=aja fl.length;rw[Ai]at An Ma;have UJ:(nf:Int)<=20:=by omega
     have Uz:((e.1:Int) != 0)=true:=by rw[bne_iff_ne];omega
     have Wv:((e.1:Int)==0)=false:=beqn (by omega);by_cases h0:er5.1=0
     ·by_cases bM:at5<s.size
      ·rw[ajd ⟨h0,bM⟩]at me1;have ST:=i6 qd 2 at5;have gK:noS er5 2 at5=e:=by unfold noS;rw[ajd h0];exact me1
       rw[gK]at ST;rw[h0]at d2;have acs:(at5:Int)<(s.size:Int):=by omega
       simp only[show ((2:Nat):Int)=2 from rfl]at ST
       have HM7:Hid _:=An;have HS7:Hid _:=qd;have HG7:Hid _:=KD;clear h0 bM gK me1 me2 met1 met2 mE KF Hx bn Ai An KD qd;go_wp2_with fail;refine ST.mono ?_;clear ST;rintro e9 w8 ⟨rfl,mS,td⟩;have BA:=aF mS HS7.out HM7.out (by decide);have Mb:Hid (w.grownBy w8 none):=aO HG7.out (ajJ HX.out) mS;obtain⟨d0,d1,d2,d3⟩:=td.cells;have xV:=Blk.lt td;have m1:=Blk.cell BA 1;simp at m1;have LY:=Blk.lt BA;clear mS BA td;go_wp2_with fail;go_loopw [13] (fun i wr=>i=.int .i64 0/\wr=w8) (fun _ _=>0)
       case atStart=>exact⟨rfl,rfl⟩
       case round=>
        obtain⟨rfl,vF⟩:=hrel;subst vF;by_cases yk:nf=0
        ·subst yk;go_wp2_with fail;go_quiet (fail)
         go_wp2_with fail;go_ret3;exact⟨bd Mb.out nq,.inl ⟨_,BB.out,rfl⟩⟩
        have vz:0<(nf:Int):=by omega
        clear yk;go_wp2_with fail;go_quiet (fail)
        go_wp2_with fail;go_ret3;exact⟨bd Mb.out nq,.inl ⟨_,BB.out,rfl⟩⟩
      rw[ajc (fun q=>bM q.2)]at me1;rw[<-me1]at me2;exact absurd h0 me2
     rw[ajc (fun q=>h0 q.1)]at me1;rw[me1]at d2 d3;have m1:=Blk.cell An 1;simp at m1;have LY:=Blk.lt An;have Mb:Hid _:=KD;clear h0 me1 me2 met1 met2 mE KF Hx bn Ai An KD qd;go_wp2_with fail;go_loopw [13] (fun i wr=>i=.int .i64 0/\wr=w7) (fun _ _=>0)
     case atStart=>exact⟨rfl,rfl⟩
     case round=>
      obtain⟨rfl,vF⟩:=hrel;subst vF;by_cases yk:nf=0
      ·subst yk;go_wp2_with fail;go_quiet (fail)
       go_wp2_with fail;go_ret3;exact⟨bd Mb.out nq,.inl ⟨_,BB.out,rfl⟩⟩
      have vz:0<(nf:Int):=by omega
      clear yk;go_wp2_with fail;go_quiet (fail)
      go_wp2_with fail;go_ret3;exact⟨bd Mb.out nq,.inl ⟨_,BB.out,rfl⟩⟩
    |ok mm=>
     obtain⟨me1,b1,b2,b3,b4,b5,b6⟩:=met1 mm mE;simp only[GM.mk.injEq]at me1;obtain⟨rfl,rfl,me3⟩:=me1;have h50:er5=(0,0)/\¬at5<s.size:=by
      by_cases h0:er5.1=0/\at5<s.size
      ·rw[ajd h0]at me3;simp at me3
      rw[ajc h0]at me3;subst me3;exact⟨rfl,fun q=>h0 ⟨rfl,q⟩⟩
     obtain⟨rfl,Ww⟩:=h50;have xf:(s.size:Int)<=(at5:Int):=by omega
     have dge:decide (at5<s.size)=false:=by simp;omega
     have RE:o9 x w7 m mm ads:=o9.of An KF Hx rfl (by omega) (by omega);have YM:Hid _:=mE;have HB5:Hid _:=b5;have YN:Hid _:=b6;have Wx:Hid _:=b1;have LV:Hid _:=b2;simp only at d2 d3;clear me3 Ww met1 met2 mE b5 b6 Hx KF An bn YL kK Wu Ku SF Wq YH Wp Wo Nu RA AZ BX ED Ma;obtain⟨N,hN⟩:=aja mm.funs.length;have O8:Hid _:=hN;rw[hN]at b3 b4;clear hN;go_wp2_with fail;go_loopw [13] (fun i wr=>∃(k at2:Nat) (er2:Er),i=.int .i64 k/\k<=N/\w.grownBy wr none/\Sc wr x s at2 er2/\o9 x wr m mm ads/\Hid ((er2=(0,0)/\ia x wr mm ads k)\/(er2.1≠0/\eU s.data.toList=.error er2))) (fun i _=>N-(intOf i).toNat)
     case atStart=>exact⟨0,at5,(0,0),rfl,ajl _,KD,qd,RE,.inl ⟨rfl,fun i hi a hn=>by omega⟩⟩
     case round=>
      obtain⟨k,at2,er2,rfl,X6,bU,pk,lm,HT⟩:=hrel;obtain⟨w8,rfl⟩:∃z,z=wr:=⟨wr,rfl⟩;obtain⟨vs8,vf8,q1,q2,q3⟩:=lm.mod;have q3':=q3;rw[O8.out]at q3';rcases q3'.2 with⟨_,hz⟩|⟨gf,capf,cur,rfl,_,Of,YO,_⟩
      ·omega
      obtain⟨d0,d1,d2,d3⟩:=pk.cells;have xV:=Blk.lt pk;have m1:=q1.cell 1;simp at m1;have LY:=q1.lt;have acy:gf<w8.heap.size:=Blk.lt Of;have XR:(N:Int)<=20:=by omega
      clear q2 KD qd RE;by_cases h0:er2.1=0
      ·rcases HT.out with⟨rfl,RF⟩|⟨ec,_⟩
       ·simp only at d2 d3;by_cases hk:k<N
        ·have YP:k<ads.length:=by rw[lm.len,O8.out];exact hk
         obtain⟨a,ha⟩:=aja (ads[k]);have ha?:ads[k]?=some a:=by rw[gEg YP,ha]
         have bC:w8.cell? ⟨gf,k,none⟩=some (.pointer (some ⟨a,0,none⟩)):=by rw[(bK q3' (j:=k) (by omega)).1];simp[ha?]
         have vI:k<mm.funs.length:=by rw[O8.out];exact hk
         have rQ:(k:Int)<(N:Int):=by omega
         have hO:w8.grownBy (w8.alloc (.cells #[.pointer (some ⟨x,0,none⟩),.pointer (some ⟨m,0,none⟩),.pointer (some ⟨a,0,none⟩),.int .i64 0,.slice none 0 0] 124)) none:=aC _ _ _;obtain⟨W9,Ll⟩:=aja (w8.alloc (.cells #[.pointer (some ⟨x,0,none⟩),.pointer (some ⟨m,0,none⟩),.pointer (some ⟨a,0,none⟩),.int .i64 0,.slice none 0 0] 124));have Am:Blk W9 w8.heap.size #[ptr x,ptr m,ptr a,.int .i64 0,br] 124:=by rw[<-Ll];exact Blk.new _ _ _
         rw[Ll]at hO;have kO:∀g c t,Blk w8 g c t->Blk W9 g c t:=fun g c t hb=>hb.grown hO (by simp);have SS:Sc W9 x s at2 (0,0):=kO _ _ _ pk;have KG:o9 x W9 m mm ads:=by obtain⟨u1,u2,u3,⟨g,cap,cc,u4,u5,u6⟩,u7⟩:=lm.mod;refine⟨⟨u1,u2,kO _ _ _ u3,⟨g,cap,cc,u4,kO _ _ _ u5,fun j hj=>?_⟩,aJ u7 (fun g c hb=>kO g c 50 hb)⟩,lm.len,lm.nodup,lm.low,lm.pos,fun j hj b hb=>(lm.fns j hj b hb).kept (fun c hx=>kO _ _ _ hx) (fun g c hx=>kO _ _ _ hx)⟩;obtain⟨vt,vg,z1,z2,z3,z4⟩:=u6 j hj;exact⟨vt,vg,z1,z2,z3.keep fun g c hx=>kO g c 3 hx,z4.keep fun g c hx=>kO g c 3 hx⟩
         have RG:ia x W9 mm ads k:=RF.keep fun g c t _ hb=>kO g c t hb;have O9:=YN.out mm.funs[k] (ajw vI);have Wy:mm.sigs[mm.funs[k].sig]?=some (da mm k):=by
          have bM:mm.funs[k].sig<mm.sigs.length:=by have:=O9.1;have:=Wx.out;omega
          rw[gEg bM,jz vI (gEg bM)]
         have IB:la s mm mm.funs[k] (da mm k):=⟨hs,Wx.out,LV.out,by rw[O8.out];omega,HB5.out,fun g hg=>by have:=(YN.out g hg).1;have:=Wx.out;omega,Wy,O9.2.1,⟨O9.2.2.2.1,O9.2.2.1⟩,O9.2.2.2.2.2⟩;have hxw:x<=w8.heap.size:=by have:=bU.size;have:=HX.out;omega
         have QA:=Bk (HUU.out x w8.heap.size x m a s mm mm.funs[k] (da mm k)) SS rfl Am (KG.ctx vI ha?) IB (nLr _) hxw (KG.low a (gMo ha?));have YQ:Hid _:=QA;have G6:Hid _:=KG;have YR:Hid _:=RG;have Og:Hid (w.grownBy W9 none):=aB bU hO;have YS:Hid _:=ha?;have YT:Hid _:=Wy;have iJ:Hid (∀(j:Nat) (h:j<mm.funs.length),j<k->∃x,cz mm mm.funs[j]=.ok x):=fun j hj Xx=>by
          have It:j<ads.length:=by rw[lm.len];exact hj
          exact(RF j hj ads[j] Xx (gEg It)).2
         clear QA KG RG ha? ha YP Am kO SS hO lm pk RF IB O9 Wy q1 q3 q3' Of HT bU;go_upto_region 28 with fail
         try rw[Ll]
         clear Ll;go_wp2_with fail;refine Calls.mono YQ.out ?_;rintro e9 w9 ⟨rfl,RH,Hy,vt,vg,vl,vb,oJ,rt,rg,rl,dH⟩;have RI:=o9.looked G6.out vI YS.out Hy ⟨vt,vg,vl,vb,oJ,rt,rg,rl⟩;have qC:w.grownBy w9 none:=mR Og.out RH (ajJ HX.out);have N6:Hid (∃(at3:Nat) (er3:Er),Sc w9 x s at3 er3/\((er3=(0,0)/\ia x w9 mm ads (k+1))\/(er3.1≠0/\eU s.data.toList=.error er3))):=by
          show ∃at3 er3,_;cases SU:cS mm ((da mm k).1++mm.funs[k].ai) mm.funs[k] (mm.funs[k].code.length+1) (fP (da mm k)) 0 with
          |error e=>
           rw[SU]at dH;obtain⟨z1,at3,z2⟩:=dH;refine⟨at3,e,z2,.inr ⟨z1,?_⟩⟩;unfold eU;rw[YM.out,aM];exact lG mm.funs k vI iJ.out (xI YT.out SU)
          |ok r=>
           rw[SU]at dH;obtain⟨⟨at3,z2⟩,body,kk,q,z3,z4,z5,z6⟩:=dH;refine⟨at3,(0,0),z2,.inl ⟨rfl,?_⟩⟩;refine ia.looked YR.out G6.out vI YS.out Hy ⟨vt,vg,vl,vb,body,kk,q,oJ,rt,rg,rl,z3.keep (fun g cs ho hb=>⟨hb,by have:=Og.out.size;have:=HX.out;omega⟩),bI.keep (fun g cs t ho _ hb=>⟨hb,by have:=Og.out.size;have:=HX.out;omega⟩) (fun _ _ hb=>hb) _ _ _ _ z4,z5,z6⟩ (zz YT.out SU)
         clear dH Hy RH oJ rt rg rl YQ YR Og iJ;go_wp2_with fail;go_roundw
         case rel=>
          obtain⟨at3,er3,y1,y2⟩:=N6.out;exact⟨k+1,at3,er3,by simp,by omega,qC,y1,RI,y2⟩
         case measure=>simp[intOf];omega
        obtain rfl:k=N:=by omega
        have LN:Hid _:=RF;have G6:Hid _:=lm;clear h0 HT RF lm q1 q3 q3';go_wp2_with fail;go_ret3;have cL:∀f∈mm.funs,∃x,cz mm f=.ok x:=fun f hf=>by
         obtain⟨j,hj,rfl⟩:=List.getElem_of_mem hf;have It:j<ads.length:=by rw[G6.out.len];exact hj
         exact(LN.out j hj ads[j] (by rw[<-O8.out];exact hj) (gEg It)).2
        obtain⟨r,hr⟩:=nH mm.funs cL;have ht:=LN.out;rw[<-O8.out]at ht;refine⟨bU,.inr ⟨mm,r,m,ads,YM.out,hr,?_,rfl,?_,?_⟩⟩
        ·rw[HX.out];exact hmx
        ·rw[HX.out];exact G6.out
        rw[HX.out];exact ht
       exact absurd h0 ec
      rcases HT.out with⟨rfl,_⟩|⟨_,RJ⟩
      ·exact absurd rfl h0
      have BB:Hid _:=RJ;have Mb:Hid _:=bU;have Uz:((er2.1:Int) != 0)=true:=by rw[bne_iff_ne];omega
      have Wv:((er2.1:Int)==0)=false:=beqn (by omega);clear h0 HT RJ bU lm q1 q3 q3' Of;by_cases hk:k<N
      ·have rQ:(k:Int)<(N:Int):=by omega
       go_wp2_with fail;go_quiet (fail)
       go_wp2_with fail;go_ret3;exact⟨bd Mb.out nq,.inl ⟨_,BB.out,rfl⟩⟩
      have rQ:(N:Int)<=(k:Int):=by omega
      go_wp2_with fail;go_quiet (fail)
      go_wp2_with fail;go_ret3;exact⟨bd Mb.out nq,.inl ⟨_,BB.out,rfl⟩⟩
end
