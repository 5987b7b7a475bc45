import Derived.Test.YtjbdgbdcnjopkaaGreatDoorS30
namespace Go.Proofs.YtjbdgbdcnjopkaaGreatDoor
open Go.RowKit Tryz
set_option linter.all false
set_option maxRecDepth 100000
set_option maxHeartbeats 4000000
section
variable {az c x m f:Nat}{w w':World}{s:ByteArray}{at_ here:Nat}{er:Er}{ads:List Nat}{a:Nat}{bl rest:List RB}{b b':RB}{v:Value}{l:List Nat}
theorem uU{l:List Nat}{j:Nat}(h:j<l.length):(l.take (j+1)).reverse=l[j]::(l.take j).reverse:=by rw[List.take_add_one,gEg h];simp
theorem kf(h:Lk az w c x m f s at_ er here (ads++[a]) (rest++[b]))(hr:aR w v l)(hl:l.length<=1000)(hn:b.l.length<=100000):Calls prog 92 #[ptr c,v] w fun r w'=>r=.returned (.tuple #[])/\Fr az none w w'/\Lk az w' c x m f s at_ (bh here b er l.reverse).2 here (ads++[a]) (rest++[(bh here b er l.reverse).1]):=by
 rcases hr.cases with⟨rfl,rfl⟩|⟨g,cap,rfl,_⟩
 ·go_enter func92,ntmps92;go_wp2_with fail;go_loopw [4] (fun i wr=>i=.int .i64 (-1)/\wr=w) (fun i _=>0)
  case atStart=>exact⟨rfl,rfl⟩
  case round=>
   obtain⟨rfl,rfl⟩:=hrel;go_wp2_with fail;go_end0;exact⟨rfl,Fr.refl _ _ _,h⟩
 obtain⟨n,hN⟩:=aja l.length;rw[hN]at hr ⊢;have uJ:(n:Int)<=1000:=by omega
 go_enter func92,ntmps92;go_wp2_with fail;go_loopw [4] (fun i wr=>∃(k:Nat) (er2:Er) (b2:RB),i=.int .i64 ((k:Int)-1)/\k<=n/\Hid (bh here b er l.reverse=bh here b2 er2 (l.take k).reverse)/\b2.l.length<=100000/\Fr az none w wr/\Lk az wr c x m f s at_ er2 here (ads++[a]) (rest++[b2])) (fun i _=>(intOf i+1).toNat)
 case atStart=>exact⟨n,er,b,rfl,nLr _,by show _=_;rw[<-hN,List.take_length],hn,Fr.refl _ _ _,h⟩
 case round=>
  obtain⟨k,er2,b2,rfl,xZ,HE,BR,hF,hL⟩:=hrel;cases k with
  |zero=>
   have HF:Hid (bh here b er l.reverse=(b2,er2)):=by show _=_;rw[HE.out];rfl
   clear HE;go_wp2_with fail;go_end0;rw[HF.out];exact⟨rfl,hF,hL⟩
  |succ j=>
   have qc:j<l.length:=by omega
   have jm:aR wr (.slice (some ⟨g,0,none⟩) n cap) l:=hF.row hr;have bC:wr.cell? ⟨g,j,none⟩=some (.int .i64 (l[j]:Nat)):=by unfold aR at jm;rw[hN]at jm;rw[(bK jm (j:=j) (by omega)).1];simp[aV,gEg qc]
   have kK:Hid (bh here b er l.reverse=bh here (aU here b2 er2 l[j]).2.1 (aU here b2 er2 l[j]).2.2 (l.take j).reverse):=by show _=_;rw[HE.out,uU qc];rfl
   have hT:=fJ hL BR l[j];have hS:=(cX here b2 er2 l[j]).2;obtain⟨t,ht⟩:=aja (l[j]);rw[ht]at bC kK hT hS;have jt:(((j+1:Nat):Int)-1)=(j:Int):=by omega
   rw[jt];have CP:(j:Int)<(n:Int):=by omega
   have Lu:(0:Int)<=(j:Int):=by omega
   obtain⟨w5,rfl⟩:∃z,z=wr:=⟨wr,rfl⟩;clear HE ht jt;go_wp2_with fail;refine hT.mono ?_;clear hT;rintro e w6 ⟨rfl,oQ,Nf⟩;go_wp2_with fail;go_roundw
   case rel=>exact⟨j,_,_,rfl,by omega,kK,by omega,hF.trans oQ,Nf⟩
   case measure=>simp[intOf]
theorem kg(h:Lk az w c x m f s at_ er here (ads++[a]) (rest++[b]))(hr:aR w v l)(hl:l.length<=1000)(hn:b.l.length<=90000):Calls prog 94 #[ptr c,v] w fun r w'=>r=.returned (.tuple #[])/\Fr az none w w'/\Lk az w' c x m f s at_ er here (ads++[a]) (rest++[cx b l]):=by
 rcases hr.cases with⟨rfl,rfl⟩|⟨g,cap,rfl,_⟩
 ·have e0:cx b []=b:=by simp[cx]
  rw[e0];clear e0;go_enter func94,ntmps94;go_wp2_with fail;go_loopw [4] (fun i wr=>i=.int .i64 0/\wr=w) (fun i _=>0)
  case atStart=>exact⟨rfl,rfl⟩
  case round=>
   obtain⟨rfl,rfl⟩:=hrel;go_wp2_with fail;go_end0;exact⟨rfl,Fr.refl _ _ _,h⟩
 obtain⟨n,hN⟩:=aja l.length;rw[hN]at hr ⊢;have uJ:(n:Int)<=1000:=by omega
 go_enter func94,ntmps94;go_wp2_with fail;go_loopw [4] (fun i wr=>∃(k:Nat),i=.int .i64 (k:Int)/\k<=n/\Fr az none w wr/\Lk az wr c x m f s at_ er here (ads++[a]) (rest++[cx b (l.take k)])) (fun i _=>(n-intOf i).toNat)
 case atStart=>exact⟨0,rfl,ajl _,Fr.refl _ _ _,by simpa [cx] using h⟩
 case round=>
  obtain⟨k,rfl,xZ,hF,hL⟩:=hrel;by_cases hk:k=n
  ·rw[hk]at hL ⊢;rw[<-hN,List.take_length]at hL;go_wp2_with fail;go_end0;exact⟨rfl,hF,hL⟩
  have qc:k<l.length:=by omega
  have jm:aR wr (.slice (some ⟨g,0,none⟩) n cap) l:=hF.row hr;have bC:wr.cell? ⟨g,k,none⟩=some (.int .i64 (l[k]:Nat)):=by unfold aR at jm;rw[hN]at jm;rw[(bK jm (j:=k) (by omega)).1];simp[aV,gEg qc]
  have hT:=fk hL (by simp[cx];omega) l[k];have hS:cx (cx b (l.take k)) [l[k]]=cx b (l.take (k+1)):=by rw[List.take_add_one,gEg qc];simp[cx]
  rw[hS]at hT;obtain⟨t,ht⟩:=aja (l[k]);rw[ht]at bC hT;have CP:(k:Int)<(n:Int):=by omega
  have Lu:(0:Int)<=(k:Int):=by omega
  obtain⟨w5,rfl⟩:∃z,z=wr:=⟨wr,rfl⟩;clear ht hS;go_wp2_with fail;refine hT.mono ?_;clear hT;rintro e w6 ⟨rfl,oQ,Nf⟩;go_wp2_with fail;go_roundw
  case rel=>exact⟨k+1,by simp,by omega,hF.trans oQ,Nf⟩
  case measure=>simp[intOf];omega
theorem Dd{v2:Value}{l2:List Nat}(h1:aR w v l)(h2:aR w v2 l2)(hl:l.length<=1000)(jD:l2.length<=1000):Calls prog 93 #[v,v2] w fun r w'=>r=.returned (.bool (decide (l=l2)))/\w.grownBy w' none:=by
 obtain⟨a1,k1,rfl,_,_⟩:=aG h1;obtain⟨a2,k2,rfl,_,_⟩:=aG h2;by_cases jM:l.length=l2.length
 ·have hg:l.length≠0->∃g1 g2,a1=some ⟨g1,0,none⟩/\a2=some ⟨g2,0,none⟩:=by intro ec;obtain⟨g1,_,e1⟩:=cu h1 (by omega);obtain⟨g2,_,e2⟩:=cu h2 (by omega);simp at e1 e2;exact⟨g1,g2,e1.1,e2.1⟩
  obtain⟨n,hN⟩:=aja l.length;have JS:l2.length=n:=by omega
  rw[hN]at h1 hg ⊢;rw[JS]at h2 ⊢;have uJ:(n:Int)<=1000:=by omega
  go_enter func93,ntmps93;go_wp2_with fail;go_loopw [5] (fun i wr=>∃(k:Nat),i=.int .i64 (k:Int)/\k<=n/\Hid (l.take k=l2.take k)/\w.grownBy wr none) (fun i _=>(n-intOf i).toNat)
  case atStart=>exact⟨0,rfl,ajl _,(by show _=_;simp),aH _ _⟩
  case round=>
   obtain⟨k,rfl,xZ,HE,hG⟩:=hrel;by_cases hk:k=n
   ·subst hk;have hd:decide (l=l2)=true:=by rw[decide_eq_true_iff];have:=HE.out;rw[<-hN,List.take_length]at this;rw[this,hN,<-JS,List.take_length]
    have HD:Hid _:=hd;clear HE hd;go_wp2_with fail;go_ret;rw[HD.out];exact⟨rfl,hG⟩
   obtain⟨g1,g2,rfl,rfl⟩:=hg (by omega);have mD:k<l.length:=by omega
   have lg:k<l2.length:=by omega
   have r1:=aR.keep h1 (w':=wr) fun g c hb=>hb.grown hG (by simp);have r2:=aR.keep h2 (w':=wr) fun g c hb=>hb.grown hG (by simp);have c1:wr.cell? ⟨g1,k,none⟩=some (.int .i64 (l[k]:Nat)):=by unfold aR at r1;rw[hN]at r1;rw[(bK r1 (j:=k) (by omega)).1];simp[aV,gEg mD]
   have c2:wr.cell? ⟨g2,k,none⟩=some (.int .i64 (l2[k]:Nat)):=by unfold aR at r2;rw[JS]at r2;rw[(bK r2 (j:=k) (by omega)).1];simp[aV,gEg lg]
   have CP:(k:Int)<(n:Int):=by omega
   have Lu:(0:Int)<=(k:Int):=by omega
   obtain⟨w5,rfl⟩:∃z,z=wr:=⟨wr,rfl⟩;obtain⟨t1,qY⟩:∃t,l[k]=t:=⟨_,rfl⟩;obtain⟨t2,oc⟩:∃t,l2[k]=t:=⟨_,rfl⟩;rw[qY]at c1;rw[oc]at c2;clear r1 r2;by_cases ht:t1=t2
   ·have kK:Hid (l.take (k+1)=l2.take (k+1)):=by show _=_;rw[List.take_add_one,List.take_add_one,HE.out,gEg mD,gEg lg,qY,oc,ht]
    subst ht;clear HE qY oc h1 h2;go_wp2_with fail;go_quiet (fail)
    go_wp2_with fail;go_roundw
    case rel=>exact⟨k+1,by simp,by omega,kK,bd hG _⟩
    case measure=>simp[intOf];omega
   have hd:decide (l=l2)=false:=by rw[decide_eq_false_iff_not];rintro rfl;exact ht (qY.symm.trans oc)
   have HD:Hid _:=hd;have tb:((t1:Int)==(t2:Int))=false:=beqn (by omega);have tn:((t1:Int) != (t2:Int))=true:=by simp only[bne,tb];rfl
   clear HE qY oc h1 h2 ht hd;go_wp2_with fail;go_quiet (fail)
   go_wp2_with fail;go_ret;rw[HD.out];exact⟨rfl,bd hG _⟩
 have hd:decide (l=l2)=false:=by rw[decide_eq_false_iff_not];rintro rfl;exact jM rfl
 rw[hd];have tb:((l.length:Int)==(l2.length:Int))=false:=beqn (by omega);have tn:((l.length:Int) != (l2.length:Int))=true:=by simp only[bne,tb];rfl
 clear hd jM;go_enter func93,ntmps93;go_wp2_with fail;go_ret;exact⟨rfl,aH _ _⟩
theorem A0(h:Lk az w c x m f s at_ er here ads bl){i:Nat}(hi:i<bl.length):Calls prog 150 #[ptr c,.int .i64 i] w fun r w'=>∃v,r=.returned v/\w.grownBy w' none/\aR w' v (ce bl i):=by
 obtain⟨v,h1,h2⟩:=h.blk;have hl:=h.len;have sF:=h.nb;have c4:=h1.cell 4;simp at c4;obtain⟨g,cap,rfl⟩:=cu h2 (by omega);have hj:bl.length-1-i<bl.length:=by omega
 have It:bl.length-1-i<ads.length:=by omega
 obtain⟨vt,vg,vl,t1,t2,t3,t4⟩:=h.bls (bl.length-1-i) _ _ (gEg It) (gEg hj);have eW:ce bl i=dB bl[bl.length-1-i]:=by unfold ce;rw[gEg hj]
 rw[eW];have hc:=(bK h2 (j:=bl.length-1-i) (by omega)).1;rw[List.getElem?_map,gEg It,Option.map_some]at hc;obtain⟨A,hA⟩:=aja (ads[bl.length-1-i]);obtain⟨B,hB⟩:=aja (bl[bl.length-1-i]);rw[hA]at hc t1;rw[hB]at t1 t2 t3 t4 ⊢;obtain⟨q,hq⟩:=aja (bl.length-1-i);rw[hq]at hc;obtain⟨n,hn⟩:=aja bl.length;rw[hn]at c4 hi hq;have jt:(n:Int)-1-(i:Int)=(q:Int):=by omega
 have uJ:(n:Int)<=20:=by omega
 have jE:(i:Int)<(n:Int):=by omega
 have hqn:(q:Int)<(n:Int):=by omega
 have mO:=h1.lt;have k0:=t1.cell 0;have k1:=t1.cell 1;have k2:=t1.cell 2;simp at k0 k1 k2;obtain⟨at1,ct1,rfl,_,_⟩:=aG t2;obtain⟨ag1,cg1,rfl,_,_⟩:=aG t3;have OL:dB B=if B.aa=3 then B.aj else B.ak:=rfl;rw[OL];clear hA hB hq hn eW h2 OL hj It t4;by_cases h3:B.aa=3
 ·rw[ajd h3];rw[h3]at k0;clear h3 t1;go_enter func150,ntmps150;go_wp2_with fail;go_quiet (fail)
  go_wp2_with fail;go_ret;exact⟨_,rfl,bd (aH _ _) _,t2⟩
 rw[ajc h3];have tb:((B.aa:Int)==3)=false:=beqn (by omega);clear h3 t1;go_enter func150,ntmps150;go_wp2_with fail;go_quiet (fail)
 go_wp2_with fail;go_ret;exact⟨_,rfl,bd (aH _ _) _,t3⟩
end
def ky(w:World)(f:Nat)(sig:Sig)(ai:List Nat)(ax stop:Nat):Prop:=∃vt vg vl vb,Blk w f #[vt,vg,vl,.int .i64 ax,.int .i64 stop,vb] 49/\aR w vt sig.1/\aR w vg sig.2/\aR w vl ai
theorem ky.keep{w w':World}{f:Nat}{sig:Sig}{ai:List Nat}{ax stop:Nat}{az:Nat}{n:Option Nat}(h:ky w f sig ai ax stop)(k:Fr az n w w'):ky w' f sig ai ax stop:=by obtain⟨vt,vg,vl,vb,h1,h2,h3,h4⟩:=h;exact⟨vt,vg,vl,vb,k.keep _ _ _ (by decide) (fun e=>by cases e) h1,k.row h2,k.row h3,k.row h4⟩
def imV(bs:List UInt8)(at_ n:Nat):Int:=if n=8 then signed 64 (cy ((bs.drop at_).take 8)) else (cy ((bs.drop at_).take n):Nat)
theorem za{q v:Nat}(hq:q<72057594037927936)(hv:v<256):wrap64 (wrap64 (256*(q:Int))+(v:Int))=signed 64 (256*q+v):=by unfold signed wrap64;simp only[Nat.reducePow,Nat.reduceSub];split <;> omega
theorem A1{q v:Nat}(hq:q<281474976710656)(hv:v<256):wrap64 (wrap64 (256*(q:Int))+(v:Int))=((256*q+v:Nat):Int):=by rw[IntWalk.wrap64_in (256*(q:Int)) (by omega),IntWalk.wrap64_in _ (by omega)];omega
section
variable {az c x m f:Nat}{w w':World}{s:ByteArray}{at_ here:Nat}{er:Er}{ads:List Nat}{a:Nat}{bl rest:List RB}{b b':RB}{sig:Sig}{ai:List Nat}{ax stop:Nat}
theorem Lv(h:Lk az w c x m f s at_ er here ads bl)(hf:ky w f sig ai ax stop)(h0:er.1=0)(hs:s.size<=5000)(cT:stop<=s.size)(ha:at_<=9000)(n:Nat)(hn:n<=8):Calls prog 120 #[ptr c,.int .i64 n] w fun r w'=>Fx w w'/\Fr az none w w'/\((stop<at_+n/\r=.returned (.int .i64 0)/\Lk az w' c x m f s at_ (3,here) here ads bl)\/(at_+n<=stop/\r=.returned (.int .i64 (imV s.data.toList at_ n))/\Lk az w' c x m f s (at_+n) er here ads bl)):=by
 obtain⟨vv,iW,df⟩:=h.blk;obtain⟨vt,vg,vl,vb,f1,f2,f3,f4⟩:=hf;obtain⟨d0,d1,d2,d3⟩:=h.sc.cells;rw[h0]at d2;have c0:=iW.cell 0;have c2:=iW.cell 2;have p4:=f1.cell 4;simp at c0 c2 p4;have PX:(at_:Int)<=9000:=by omega
 have uJ:(n:Int)<=8:=by omega
 have Ng:(stop:Int)<=5000:=by omega
 have mO:=iW.lt;have OM:=Blk.lt h.sc;have Jr:=f1.lt;by_cases ju:stop<at_+n
 ·have Af:(stop:Int)<(at_:Int)+(n:Int):=by omega
  have hd:decide ((stop:Int)<(at_:Int)+(n:Int))=true:=by simpa using Af
  have gK:noS er 3 here=(3,here):=by unfold noS;rw[ajd h0]
  have hB:=fun W (hW:Lk az W c x m f s at_ er here ads bl)=>FQ hW 3;rw[gK]at hB;clear gK h0;go_enter func120,ntmps120;go_wp2_with fail;go_quiet (fail)
  go_wp2_with fail;refine(hB _ (h.drewN nq)).mono ?_;clear hB;rintro e w2 ⟨rfl,ON,dq,h2⟩;obtain⟨vv2,jG,l8⟩:=h2.blk;obtain⟨e0,e1,e2,e3⟩:=h2.sc.cells;simp only at e2;have cc0:=jG.cell 0;simp at cc0;have xx:=jG.lt;have A2:=Blk.lt h2.sc;go_wp2_with fail;go_ret;exact⟨ON,((Fr.refl _ _ _).drewN nq).trans dq,.inl ⟨ju,rfl,h2⟩⟩
 have Af:(at_:Int)+(n:Int)<=(stop:Int):=by omega
 have hd:decide ((stop:Int)<(at_:Int)+(n:Int))=false:=by simpa using Af
 have jM:at_+n<=stop:=by omega
 clear f2 f3 f4 df d3;go_enter func120,ntmps120;go_wp2_with fail;go_quiet (fail)
 go_wp2_with fail;go_loopw [5,6] (fun v i wr=>∃(k:Nat),i=.int .i64 (k:Int)/\k<=n/\v=.int .i64 (imV s.data.toList at_ k)/\Fx w wr/\Fr az none w wr/\Lk az wr c x m f s (at_+k) er here ads bl) (fun _ i _=>(n-intOf i).toNat)
 case atStart=>exact⟨0,rfl,ajl _,rfl,Fx.refl _,(Fr.refl _ _ _).drewN nq,h.drewN nq⟩
 case round=>
  obtain⟨k,rfl,xZ,rfl,hX,hF,hL⟩:=hrel;by_cases hk:k=n
  ·rw[hk]at hL ⊢;go_wp2_with fail;go_ret;exact⟨hX,hF,.inr ⟨jM,rfl,hL⟩⟩
  have Us:k<n:=by omega
  have aQ:s.data.toList.length=s.size:=by rw[ajF];rfl
  have bM:at_+k<s.size:=by omega
  have hV:imV s.data.toList at_ k=((cy ((s.data.toList.drop at_).take k):Nat):Int):=by unfold imV;rw[ajc (by omega)]
  rw[hV];have hb:s.data.toList[at_+k]'(by omega)=s[at_+k]:=by rw[Array.getElem_toList];rfl
  have Nh:(s.data.toList.drop at_).take (k+1)=(s.data.toList.drop at_).take k++[s[at_+k]]:=by rw[List.take_add_one,List.getElem?_drop,gEg (by omega),hb];rfl
  have St:imV s.data.toList at_ (k+1)=if k+1=8 then signed 64 (256*cy ((s.data.toList.drop at_).take k)+(s[at_+k]).toNat) else ((256*cy ((s.data.toList.drop at_).take k)+(s[at_+k]).toNat:Nat):Int):=by
   unfold imV;by_cases h8:k+1=8
   ·rw[ajd h8,ajd h8,<-h8,Nh,kG]
   rw[ajc h8,ajc h8,Nh,kG]
  have oe:=lr ((s.data.toList.drop at_).take k);have MZ:((s.data.toList.drop at_).take k).length=k:=by simp;omega
  rw[MZ]at oe;have ri:=(s[at_+k]).toNat_lt;obtain⟨v,hv⟩:∃v:Nat,(s[at_+k]).toNat=v:=⟨_,rfl⟩;rw[hv]at ri St;obtain⟨q,hq⟩:∃q:Nat,cy ((s.data.toList.drop at_).take k)=q:=⟨_,rfl⟩;rw[hq]at oe St ⊢;have XJ:Hid _:=St;have OK:wrap64 (v:Int)=(v:Int):=IntWalk.wrap64_in _ (by omega);have HQ:Hid (k+1≠8->q<281474976710656):=fun h8=>ajA oe (by
   have:(256:Nat) ^ k<=256 ^ 6:=Nat.pow_le_pow_right (by decide) (by omega)
   exact this)
  have P8:q<72057594037927936:=ajA oe (by
   have:(256:Nat) ^ k<=256 ^ 7:=Nat.pow_le_pow_right (by decide) (by omega)
   exact this)
  have TW:(q:Int)<72057594037927936:=by omega
  obtain⟨vv2,jG,l8⟩:=hL.blk;obtain⟨e0,e1,e2,e3⟩:=hL.sc.cells;have cc0:=jG.cell 0;simp at cc0;have y1:=Blk.frozen hL.sc 1;have xx:=jG.lt;have A2:=Blk.lt hL.sc;have pB:((at_+k:Nat):Int)<(s.size:Int):=by omega
  have hak:((at_+k:Nat):Int)<=5000:=by omega
  obtain⟨p,hp⟩:=aja (at_+k);have HP:Hid _:=hp;rw[hp]at e1 bM pB hak;have hv':(s[p]'(by omega)).toNat=v:=by subst hp;exact hv
  have rQ:(k:Int)<(n:Int):=by omega
  obtain⟨w5,rfl⟩:∃z,z=wr:=⟨wr,rfl⟩;clear hV hb Nh St oe MZ hq hp hv h0 d0 d1 d2 c0 c2 p4 iW f1 mO OM Jr hd Af l8 e3 PX Ng e2;go_wp2_with fail;go_quiet (fail)
  generalize eP:wrap64 (256*(q:Int))=z1;generalize eV:wrap64 (z1+(v:Int))=z2;have XK:Hid _:=eP;have XL:Hid _:=eV;clear eP eV TW OK hv';go_wp2_with fail;have Fl:=Sc.setAt (w:=w5.drewN nq) (x:=x) (s:=s) (at_:=at_+k) (er:=er) hL.sc (p+1);obtain⟨Nf,oQ⟩:=(hL.drewN nq).setSc (aD _ _ _ _) Fl;have qA:z2=imV s.data.toList at_ (k+1):=by
   rw[XJ.out,<-XL.out,<-XK.out];by_cases h8:k+1=8
   ·rw[ajd h8];exact za P8 ri
   rw[ajc h8];exact A1 (HQ.out h8) ri
  have e:at_+(k+1)=p+1:=by have:=HP.out;omega
  refine⟨⟨k+1,rfl,Us,by rw[qA],(fun g c t ht hb=>aF (aD (w5.drewN nq) x 1 _) (show Sc (w5.drewN nq) x s (at_+k) er from hL.sc) (hX g c t ht hb) ht),(hF.drewN nq).trans oQ,by rw[e];exact Nf⟩,?_⟩
  show ((n:Int)-((k:Int)+1)).toNat<((n:Int)-(k:Int)).toNat;clear P8 qA XJ XK XL HQ;omega
theorem xy(h:Lk az w c x m f s at_ er here ads bl)(hf:ky w f sig ai ax stop)(h0:er.1=0)(hs:s.size<=5000)(cT:stop<=s.size)(ha:at_<=9000)(n:Nat)(hn:n<=8):Calls prog 120 #[ptr c,.int .i64 n] w fun r w'=>Fr az none w w'/\((stop<at_+n/\r=.returned (.int .i64 0)/\Lk az w' c x m f s at_ (3,here) here ads bl)\/(at_+n<=stop/\r=.returned (.int .i64 (imV s.data.toList at_ n))/\Lk az w' c x m f s (at_+n) er here ads bl)):=(Lv h hf h0 hs cT ha n hn).mono fun r w' hh=>hh.2
theorem B2(h:Lk az w c x m f s at_ er here ads bl)(hf:ky w f sig ai ax stop)(h0:er.1=0)(hs:s.size<=5000)(cT:stop<=s.size)(ha:at_<=9000)(n:Nat)(hn:n<=1000):Calls prog 119 #[ptr c,.int .i64 n] w fun r w'=>Fx w w'/\Fr az none w w'/\((stop<at_+1/\r=.returned (.int .i64 0)/\Lk az w' c x m f s at_ (3,here) here ads bl)\/(∃i:Nat,at_+1<=stop/\s.data.toList[at_]?.map (·.toNat)=some i/\((n<=i/\r=.returned (.int .i64 0)/\Lk az w' c x m f s (at_+1) (4,here) here ads bl)\/(i<n/\r=.returned (.int .i64 i)/\Lk az w' c x m f s (at_+1) er here ads bl)))):=by
 have hI:=Lv h hf h0 hs cT ha 1 (by decide);have uJ:(n:Int)<=1000:=by omega
 by_cases ju:stop<at_+1
 ·go_enter func119,ntmps119;go_wp2_with fail;refine hI.mono ?_;clear hI;rintro e w2 ⟨ON,dq,⟨_,rfl,h2⟩|⟨hc,_⟩⟩
  ·obtain⟨vv2,jG,l8⟩:=h2.blk;obtain⟨e0,e1,e2,e3⟩:=h2.sc.cells;simp only at e2;have cc0:=jG.cell 0;simp at cc0;have xx:=jG.lt;have A2:=Blk.lt h2.sc;clear l8 e1 e3 e0;go_wp2_with fail;go_ret;exact⟨ON,dq,.inl ⟨ju,rfl,h2⟩⟩
  omega
 have aQ:s.data.toList.length=s.size:=by rw[ajF];rfl
 have bM:at_<s.data.toList.length:=by omega
 have kY:s.data.toList[at_]?.map (·.toNat)=some (s.data.toList[at_]).toNat:=by rw[gEg bM];rfl
 have hV:imV s.data.toList at_ 1=((s.data.toList[at_]).toNat:Int):=by unfold imV;rw[ajc (by decide),List.take_one,List.head?_drop,gEg bM];simp[cy]
 have FW:=(s.data.toList[at_]).toNat_lt;obtain⟨i,hi⟩:=aja ((s.data.toList[at_]).toNat);rw[hi]at kY hV FW;have jE:(i:Int)<256:=by omega
 rw[hV]at hI;have HG:Hid _:=kY;clear kY hV hi aQ bM;go_enter func119,ntmps119;go_wp2_with fail;refine hI.mono ?_;clear hI;rintro e w2 ⟨ON,dq,⟨hc,_⟩|⟨_,rfl,h2⟩⟩
 ·omega
 obtain⟨vv2,jG,l8⟩:=h2.blk;obtain⟨e0,e1,e2,e3⟩:=h2.sc.cells;rw[h0]at e2;have cc0:=jG.cell 0;simp at cc0;have xx:=jG.lt;have A2:=Blk.lt h2.sc;clear l8 e1 e3 e0;by_cases ou:n<=i
 ·have Ut:(n:Int)<=(i:Int):=by omega
  have gK:noS er 4 here=(4,here):=by unfold noS;rw[ajd h0]
  have hB:=FQ h2 4;rw[gK]at hB;clear gK h0;go_wp2_with fail;refine hB.mono ?_;clear hB;rintro e w3 ⟨rfl,hX3,et,h3⟩;obtain⟨vv3,P9,Uu⟩:=h3.blk;obtain⟨e0,e1,e2,e3⟩:=h3.sc.cells;simp only at e2;have cc0:=P9.cell 0;simp at cc0;have aat:=P9.lt;have aau:=Blk.lt h3.sc;clear Uu e1 e3 e0;go_wp2_with fail;go_ret;exact⟨ON.trans hX3,dq.trans et,.inr ⟨i,by omega,HG.out,.inl ⟨ou,rfl,h3⟩⟩⟩
 have Ut:(i:Int)<(n:Int):=by omega
 clear h0;go_wp2_with fail;go_ret;exact⟨ON,dq,.inr ⟨i,by omega,HG.out,.inr ⟨by omega,rfl,h2⟩⟩⟩
theorem qB(h:Lk az w c x m f s at_ er here ads bl)(hf:ky w f sig ai ax stop)(h0:er.1=0)(hs:s.size<=5000)(cT:stop<=s.size)(ha:at_<=9000)(n:Nat)(hn:n<=1000):Calls prog 119 #[ptr c,.int .i64 n] w fun r w'=>Fr az none w w'/\((stop<at_+1/\r=.returned (.int .i64 0)/\Lk az w' c x m f s at_ (3,here) here ads bl)\/(∃i:Nat,at_+1<=stop/\s.data.toList[at_]?.map (·.toNat)=some i/\((n<=i/\r=.returned (.int .i64 0)/\Lk az w' c x m f s (at_+1) (4,here) here ads bl)\/(i<n/\r=.returned (.int .i64 i)/\Lk az w' c x m f s (at_+1) er here ads bl)))):=(B2 h hf h0 hs cT ha n hn).mono fun r w' hh=>hh.2
end
def jH(op:Nat):Option (Nat×Nat×Nat):=
 if (30<=op/\op<=39) then some (2,1,1) else if (50<=op/\op<=59) then some (2,2,2) else if op=40\/op=41 then some (2,1,1) else if op=60\/op=61 then some (2,2,1) else if op=42 then some (1,1,1) else if op=62\/op=70 then some (1,2,1) else if op=71 then some (1,1,2) else none
def mz(here:Nat)(b:RB)(er:Er)(op:Nat):RB×Er:=match jH op with
 |some k=>(cx (dl here k.2.1 b er k.1).1 [k.2.2],(dl here k.2.1 b er k.1).2)
 |none=>(b,noS er 3 here)
section
variable {az c x m f:Nat}{w w':World}{s:ByteArray}{at_ here:Nat}{er:Er}{ads:List Nat}{a:Nat}{bl rest:List RB}{b b':RB}
theorem zc(h:Lk az w c x m f s at_ er here (ads++[a]) (rest++[b]))(hn:b.l.length<=90000)(op:Nat)(ex:op<256):Calls prog 121 #[ptr c,.int .i64 op] w fun r w'=>r=.returned (.tuple #[])/\Fr az none w w'/\Lk az w' c x m f s at_ (mz here b er op).2 here (ads++[a]) (rest++[(mz here b er op).1]):=by
 have aav:(op:Int)<256:=by omega
 have two:∀(of g:Nat),jH op=some (2,of,g)->mz here b er op=(cx (aU here (aU here b er of).2.1 (aU here b er of).2.2 of).2.1 [g],(aU here (aU here b er of).2.1 (aU here b er of).2.2 of).2.2):=by intro of g hk;unfold mz;rw[hk];rfl
 have one:∀(of g:Nat),jH op=some (1,of,g)->mz here b er op=(cx (aU here b er of).2.1 [g],(aU here b er of).2.2):=by intro of g hk;unfold mz;rw[hk];rfl
 have T1:∀of:Nat,Calls prog 115 #[ptr c,.int .i64 of] w fun r w'=>∃z:Nat,r=.returned (.int .i64 z)/\Fr az none w w'/\Lk az w' c x m f s at_ (aU here b er of).2.2 here (ads++[a]) (rest++[(aU here b er of).2.1]):=fun of=>(fJ h (by omega) of).mono fun r w' ⟨h1,h2,h3⟩=>⟨_,h1,h2,h3⟩;have L1:=fun of=>(cX here b er of).2;have T2:∀(of:Nat) (W:World),Lk az W c x m f s at_ (aU here b er of).2.2 here (ads++[a]) (rest++[(aU here b er of).2.1])->Calls prog 115 #[ptr c,.int .i64 of] W fun r w'=>∃z:Nat,r=.returned (.int .i64 z)/\Fr az none W w'/\Lk az w' c x m f s at_ (aU here (aU here b er of).2.1 (aU here b er of).2.2 of).2.2 here (ads++[a]) (rest++[(aU here (aU here b er of).2.1 (aU here b er of).2.2 of).2.1]):=
  fun of W hW=>(fJ hW (by have:=L1 of;omega) of).mono fun r w' ⟨h1,h2,h3⟩=>⟨_,h1,h2,h3⟩
 have L2:=fun of=>(cX here (aU here b er of).2.1 (aU here b er of).2.2 of).2;have G1:∀(of g:Nat) (W:World),Lk az W c x m f s at_ (aU here b er of).2.2 here (ads++[a]) (rest++[(aU here b er of).2.1])->Calls prog 116 #[ptr c,.int .i64 g] W fun r w'=>r=.returned (.tuple #[])/\Fr az none W w'/\Lk az w' c x m f s at_ (aU here b er of).2.2 here (ads++[a]) (rest++[cx (aU here b er of).2.1 [g]]):=
  fun of g W hW=>fk hW (by have:=L1 of;omega) g
 have G2:∀(of g:Nat) (W:World),Lk az W c x m f s at_ (aU here (aU here b er of).2.1 (aU here b er of).2.2 of).2.2 here (ads++[a]) (rest++[(aU here (aU here b er of).2.1 (aU here b er of).2.2 of).2.1])->Calls prog 116 #[ptr c,.int .i64 g] W fun r w'=>r=.returned (.tuple #[])/\Fr az none W w'/\Lk az w' c x m f s at_ (aU here (aU here b er of).2.1 (aU here b er of).2.2 of).2.2 here (ads++[a]) (rest++[cx (aU here (aU here b er of).2.1 (aU here b er of).2.2 of).2.1 [g]]):=
  fun of g W hW=>fk hW (by have:=L1 of;have:=L2 of;omega) g
 clear L1 L2;by_cases r1:30<=op/\op<=39
 ·have hk:jH op=some (2,1,1):=by unfold jH;repeat' (first|rw[ajd (by omega)]|rw[ajc (by omega)])
  have HR:Hid _:=two _ _ hk;have lo':(30:Int)<=(op:Int):=by omega
  have jB:(op:Int)<=39:=by omega
  clear hk two one G1;go_enter func121,ntmps121;go_wp2_with fail;refine(T1 1).mono ?_;clear T1;rintro e w2 ⟨z,rfl,dq,h2⟩;go_wp2_with fail;refine(T2 1 w2 h2).mono ?_;clear T2;rintro e w3 ⟨z3,rfl,et,h3⟩;go_wp2_with fail;refine(G2 1 1 w3 h3).mono ?_;clear G2;rintro e w4 ⟨rfl,fD,h4⟩;go_wp2_with fail;go_end0;rw[HR.out];exact⟨rfl,(dq.trans et).trans fD,h4⟩
 by_cases r2:50<=op/\op<=59
 ·have hk:jH op=some (2,2,2):=by unfold jH;repeat' (first|rw[ajd (by omega)]|rw[ajc (by omega)])
  have HR:Hid _:=two _ _ hk;have lo':(50:Int)<=(op:Int):=by omega
  have jB:(op:Int)<=59:=by omega
  have n71:((op:Int)==71)=false:=beqn (by omega);have m71:((op:Int) != 71)=true:=by simp only[bne,n71];rfl
  clear hk two one G1;go_enter func121,ntmps121;go_wp2_with fail;refine(T1 2).mono ?_;clear T1;rintro e w2 ⟨z,rfl,dq,h2⟩;go_wp2_with fail;refine(T2 2 w2 h2).mono ?_;clear T2;rintro e w3 ⟨z3,rfl,et,h3⟩;go_wp2_with fail;refine(G2 2 2 w3 h3).mono ?_;clear G2;rintro e w4 ⟨rfl,fD,h4⟩;go_wp2_with fail;go_end0;rw[HR.out];exact⟨rfl,(dq.trans et).trans fD,h4⟩
 by_cases e40:op=40
 ·subst e40;have hk:jH 40=some (2,1,1):=by decide
  have HR:Hid _:=two _ _ hk;clear hk two one G1;go_enter func121,ntmps121;go_wp2_with fail;refine(T1 1).mono ?_;clear T1;rintro e w2 ⟨z,rfl,dq,h2⟩;go_wp2_with fail;refine(T2 1 w2 h2).mono ?_;clear T2;rintro e w3 ⟨z3,rfl,et,h3⟩;go_wp2_with fail;refine(G2 1 1 w3 h3).mono ?_;clear G2;rintro e w4 ⟨rfl,fD,h4⟩;go_wp2_with fail;go_end0;rw[HR.out];exact⟨rfl,(dq.trans et).trans fD,h4⟩
 by_cases e41:op=41
 ·subst e41;have hk:jH 41=some (2,1,1):=by decide
  have HR:Hid _:=two _ _ hk;clear hk two one G1;go_enter func121,ntmps121;go_wp2_with fail;refine(T1 1).mono ?_;clear T1;rintro e w2 ⟨z,rfl,dq,h2⟩;go_wp2_with fail;refine(T2 1 w2 h2).mono ?_;clear T2;rintro e w3 ⟨z3,rfl,et,h3⟩;go_wp2_with fail;refine(G2 1 1 w3 h3).mono ?_;clear G2;rintro e w4 ⟨rfl,fD,h4⟩;go_wp2_with fail;go_end0;rw[HR.out];exact⟨rfl,(dq.trans et).trans fD,h4⟩
 by_cases e60:op=60
 ·subst e60;have hk:jH 60=some (2,2,1):=by decide
  have HR:Hid _:=two _ _ hk;clear hk two one G1;go_enter func121,ntmps121;go_wp2_with fail;refine(T1 2).mono ?_;clear T1;rintro e w2 ⟨z,rfl,dq,h2⟩;go_wp2_with fail;refine(T2 2 w2 h2).mono ?_;clear T2;rintro e w3 ⟨z3,rfl,et,h3⟩;go_wp2_with fail;refine(G2 2 1 w3 h3).mono ?_;clear G2;rintro e w4 ⟨rfl,fD,h4⟩;go_wp2_with fail;go_end0;rw[HR.out];exact⟨rfl,(dq.trans et).trans fD,h4⟩
 by_cases e61:op=61
 ·subst e61;have hk:jH 61=some (2,2,1):=by decide
  have HR:Hid _:=two _ _ hk;clear hk two one G1;go_enter func121,ntmps121;go_wp2_with fail;refine(T1 2).mono ?_;clear T1;rintro e w2 ⟨z,rfl,dq,h2⟩;go_wp2_with fail;refine(T2 2 w2 h2).mono ?_;clear T2;rintro e w3 ⟨z3,rfl,et,h3⟩;go_wp2_with fail;refine(G2 2 1 w3 h3).mono ?_;clear G2;rintro e w4 ⟨rfl,fD,h4⟩;go_wp2_with fail;go_end0;rw[HR.out];exact⟨rfl,(dq.trans et).trans fD,h4⟩
 by_cases e42:op=42
 ·subst e42;have hk:jH 42=some (1,1,1):=by decide
  have HR:Hid _:=one _ _ hk;clear hk two one G2 T2;go_enter func121,ntmps121;go_wp2_with fail;refine(T1 1).mono ?_;clear T1;rintro e w2 ⟨z,rfl,dq,h2⟩;go_wp2_with fail;refine(G1 1 1 w2 h2).mono ?_;clear G1;rintro e w4 ⟨rfl,fD,h4⟩;go_wp2_with fail;go_end0;rw[HR.out];exact⟨rfl,dq.trans fD,h4⟩
 by_cases e62:op=62
 ·subst e62;have hk:jH 62=some (1,2,1):=by decide
  have HR:Hid _:=one _ _ hk;clear hk two one G2 T2;go_enter func121,ntmps121;go_wp2_with fail;refine(T1 2).mono ?_;clear T1;rintro e w2 ⟨z,rfl,dq,h2⟩;go_wp2_with fail;refine(G1 2 1 w2 h2).mono ?_;clear G1;rintro e w4 ⟨rfl,fD,h4⟩;go_wp2_with fail;go_end0;rw[HR.out];exact⟨rfl,dq.trans fD,h4⟩
 by_cases e70:op=70
 ·subst e70;have hk:jH 70=some (1,2,1):=by decide
  have HR:Hid _:=one _ _ hk;clear hk two one G2 T2;go_enter func121,ntmps121;go_wp2_with fail;refine(T1 2).mono ?_;clear T1;rintro e w2 ⟨z,rfl,dq,h2⟩;go_wp2_with fail;refine(G1 2 1 w2 h2).mono ?_;clear G1;rintro e w4 ⟨rfl,fD,h4⟩;go_wp2_with fail;go_end0;rw[HR.out];exact⟨rfl,dq.trans fD,h4⟩
 by_cases e71:op=71
 ·subst e71;have hk:jH 71=some (1,1,2):=by decide
  have HR:Hid _:=one _ _ hk;clear hk two one G2 T2;go_enter func121,ntmps121;go_wp2_with fail;refine(T1 1).mono ?_;clear T1;rintro e w2 ⟨z,rfl,dq,h2⟩;go_wp2_with fail;refine(G1 1 2 w2 h2).mono ?_;clear G1;rintro e w4 ⟨rfl,fD,h4⟩;go_wp2_with fail;go_end0;rw[HR.out];exact⟨rfl,dq.trans fD,h4⟩
 by_cases r3:op<30
 ·have hk:jH op=none:=by unfold jH;repeat' (first|rw[ajd (by omega)]|rw[ajc (by omega)])
  have HR:Hid (mz here b er op=(b,noS er 3 here)):=by show _=_;unfold mz;rw[hk]
  have jB:(op:Int)<=29:=by omega
  have n40:((op:Int)==40)=false:=beqn (by omega);have m40:((op:Int) != 40)=true:=by simp only[bne,n40];rfl
  have n41:((op:Int)==41)=false:=beqn (by omega);have m41:((op:Int) != 41)=true:=by simp only[bne,n41];rfl
  have n42:((op:Int)==42)=false:=beqn (by omega);have m42:((op:Int) != 42)=true:=by simp only[bne,n42];rfl
  have n60:((op:Int)==60)=false:=beqn (by omega);have m60:((op:Int) != 60)=true:=by simp only[bne,n60];rfl
  have n61:((op:Int)==61)=false:=beqn (by omega);have m61:((op:Int) != 61)=true:=by simp only[bne,n61];rfl
  have n62:((op:Int)==62)=false:=beqn (by omega);have m62:((op:Int) != 62)=true:=by simp only[bne,n62];rfl
  have n70:((op:Int)==70)=false:=beqn (by omega);have m70:((op:Int) != 70)=true:=by simp only[bne,n70];rfl
  have n71:((op:Int)==71)=false:=beqn (by omega);have m71:((op:Int) != 71)=true:=by simp only[bne,n71];rfl
  clear hk two one G1 G2 T1 T2;have hB:=gG h 3;go_enter func121,ntmps121;go_wp2_with fail;refine hB.mono ?_;clear hB;rintro e w2 ⟨rfl,dq,h2⟩;go_wp2_with fail;go_end0;rw[HR.out];exact⟨rfl,dq,h2⟩
 by_cases r4:op<50
 ·have hk:jH op=none:=by unfold jH;repeat' (first|rw[ajd (by omega)]|rw[ajc (by omega)])
  have HR:Hid (mz here b er op=(b,noS er 3 here)):=by show _=_;unfold mz;rw[hk]
  have lo':(43:Int)<=(op:Int):=by omega
  have jB:(op:Int)<=49:=by omega
  have n40:((op:Int)==40)=false:=beqn (by omega);have m40:((op:Int) != 40)=true:=by simp only[bne,n40];rfl
  have n41:((op:Int)==41)=false:=beqn (by omega);have m41:((op:Int) != 41)=true:=by simp only[bne,n41];rfl
  have n42:((op:Int)==42)=false:=beqn (by omega);have m42:((op:Int) != 42)=true:=by simp only[bne,n42];rfl
  have n60:((op:Int)==60)=false:=beqn (by omega);have m60:((op:Int) != 60)=true:=by simp only[bne,n60];rfl
  have n61:((op:Int)==61)=false:=beqn (by omega);have m61:((op:Int) != 61)=true:=by simp only[bne,n61];rfl
  have n62:((op:Int)==62)=false:=beqn (by omega);have m62:((op:Int) != 62)=true:=by simp only[bne,n62];rfl
  have n70:((op:Int)==70)=false:=beqn (by omega);have m70:((op:Int) != 70)=true:=by simp only[bne,n70];rfl
  have n71:((op:Int)==71)=false:=beqn (by omega);have m71:((op:Int) != 71)=true:=by simp only[bne,n71];rfl
  clear hk two one G1 G2 T1 T2;have hB:=gG h 3;go_enter func121,ntmps121;go_wp2_with fail;refine hB.mono ?_;clear hB;rintro e w2 ⟨rfl,dq,h2⟩;go_wp2_with fail;go_end0;rw[HR.out];exact⟨rfl,dq,h2⟩
 have hk:jH op=none:=by unfold jH;repeat' (first|rw[ajd (by omega)]|rw[ajc (by omega)])
 have HR:Hid (mz here b er op=(b,noS er 3 here)):=by show _=_;unfold mz;rw[hk]
 have lo':(63:Int)<=(op:Int):=by omega
 have n40:((op:Int)==40)=false:=beqn (by omega);have m40:((op:Int) != 40)=true:=by simp only[bne,n40];rfl
 have n41:((op:Int)==41)=false:=beqn (by omega);have m41:((op:Int) != 41)=true:=by simp only[bne,n41];rfl
 have n42:((op:Int)==42)=false:=beqn (by omega);have m42:((op:Int) != 42)=true:=by simp only[bne,n42];rfl
 have n60:((op:Int)==60)=false:=beqn (by omega);have m60:((op:Int) != 60)=true:=by simp only[bne,n60];rfl
 have n61:((op:Int)==61)=false:=beqn (by omega);have m61:((op:Int) != 61)=true:=by simp only[bne,n61];rfl
 have n62:((op:Int)==62)=false:=beqn (by omega);have m62:((op:Int) != 62)=true:=by simp only[bne,n62];rfl
 have n70:((op:Int)==70)=false:=beqn (by omega);have m70:((op:Int) != 70)=true:=by simp only[bne,n70];rfl
 have n71:((op:Int)==71)=false:=beqn (by omega);have m71:((op:Int) != 71)=true:=by simp only[bne,n71];rfl
 clear hk two one G1 G2 T1 T2;have hB:=gG h 3;go_enter func121,ntmps121;go_wp2_with fail;refine hB.mono ?_;clear hB;rintro e w2 ⟨rfl,dq,h2⟩;go_wp2_with fail;go_end0;rw[HR.out];exact⟨rfl,dq,h2⟩
end
def kh(bs:List UInt8)(stop nb here:Nat):Nat->Nat->List Nat->Except Er (List Nat×Nat)
 |0,at_,l=>.ok (l,at_)
 |k+1,at_,l=>if stop<at_+1 then .error (3,here) else
  match bs[at_]? with
  |some b=>if nb<=b.toNat then .error (4,here) else kh bs stop nb here k (at_+1) (l++[b.toNat])
  |none=>.error (3,here)
def iI(bs:List UInt8)(stop here op at_:Nat):Except Er (Nat×Nat):=
 if op=7\/op=8 then .ok (1,at_) else if op=9 then
  (if stop<at_+1 then .error (3,here) else
   match bs[at_]? with
   |some b=>if 10<b.toNat\/stop<at_+1+(b.toNat+1) then .error (3,here) else .ok (b.toNat+1,at_+1)
   |none=>.error (3,here))
 else .ok (0,at_)
def tD(bs:List UInt8)(stop nb here op at_:Nat):Except Er (List Nat×Nat):=bnd (iI bs stop here op at_) fun r=>kh bs stop nb here r.1 r.2 []
section
variable {bs:List UInt8}{stop nb here:Nat}
theorem pO:∀(k at_:Nat) (l:List Nat),at_+k<=stop->stop<=bs.length->kh bs stop nb here k at_ l=if (∀i∈((bs.drop at_).take k).map (fun b:UInt8=>b.toNat),i<nb) then Except.ok (l++((bs.drop at_).take k).map (fun b:UInt8=>b.toNat),at_+k) else Except.error (4,here)
 |0,at_,l,h1,h2=>by simp[kh]
 |k+1,at_,l,h1,h2=>by
  have bM:at_<bs.length:=by omega
  have hd:bs.drop at_=bs[at_]::bs.drop (at_+1):=List.drop_eq_getElem_cons bM;rw[kh,ajc (by omega),gEg bM];simp only;rw[pO k (at_+1) _ (by omega) h2,hd];simp only[List.take_succ_cons,List.map_cons,List.forall_mem_cons];by_cases hb:nb<=bs[at_].toNat
  ·rw[ajd hb,ajc (by omega)]
  rw[ajc hb];by_cases cL:∀i∈((bs.drop (at_+1)).take k).map (·.toNat),i<nb
  ·rw[ajd cL,ajd ⟨by omega,cL⟩];simp;omega
  rw[ajc cL,ajc (fun c=>cL c.2)]
structure nu(bs code:List UInt8)(ax:Nat):Prop where
 eq:code=(bs.drop ax).take code.length
 le:ax+code.length<=bs.length
theorem nu.get{code:List UInt8}{ax p:Nat}(h:nu bs code ax)(hp:p<code.length):bs[ax+p]?=some code[p]:=by
 have:=h.eq;have h2:code[p]?=((bs.drop ax).take code.length)[p]?:=by rw[<-this]
 rw[ajI hp,List.getElem?_drop,gEg hp]at h2;exact h2.symm
theorem nu.bytes{code:List UInt8}{ax p k:Nat}(h:nu bs code ax):cn code p k=if code.length<p+k then none else some ((bs.drop (ax+p)).take k):=by
 unfold cn;split
 ·rfl
 rename_i bM
 congr 1
 rw[h.eq,List.drop_take,List.drop_drop,List.take_take,Nat.min_eq_left (by omega)]
theorem dQ{code:List UInt8}{p:Nat}(hp:p<code.length):cn code p 1=some [code[p]]:=by unfold cn;rw[ajc (by omega),List.drop_eq_getElem_cons hp];rfl
theorem De{code:List UInt8}{ax p op:Nat}(hc:nu bs code ax)(hp:p<code.length)(ex:code[p].toNat=op)(h5:op=0\/op=7\/op=8\/op=9\/op=10):tD bs (ax+code.length) nb here op (ax+p+1)=match bJ code p with
   |none=>.error (3,here)
   |some st=>if st.idx.all (fun i=>i<nb) then .ok (st.idx,ax+st.next) else .error (4,here):=by
 have h2:ax+code.length<=bs.length:=hc.le;unfold bJ;rw[dQ hp];simp only;rw[ex];have cL:∀(l:List Nat),(l.all fun i=>decide (i<nb))=true↔∀i∈l,i<nb:=by intro l;simp
 rcases h5 with rfl|rfl|rfl|rfl|rfl
 ·simp[tD,iI,kh,cr,dS,List.lookup,bq];omega
 all_goals first
  | (have hk:cr 10=some ⟨10,0,0,0,0⟩:=rfl;simp only[hk,bq,tD,iI];simp[kh];omega)
  |skip
 ·have hk:cr 7=some ⟨7,4,0,0,0⟩:=rfl;simp only[hk,bq,tD,iI];simp only[true_or,or_true,if_true,aM,Nat.reduceEqDiff,false_or,or_false];rw[hc.bytes];by_cases hl:code.length<p+1+1
  ·rw[ajd hl];simp only[Option.map_none];rw[kh,ajd (by omega)]
  rw[ajc hl];simp only[Option.map_some];have e:ax+p+1=ax+(p+1):=by omega
  rw[e,pO 1 _ _ (by omega) h2];by_cases ha:∀i∈((bs.drop (ax+(p+1))).take 1).map (·.toNat),i<nb
  ·rw[ajd ha,ajd ((cL _).2 ha)];simp;omega
  rw[ajc ha,ajc (fun c=>ha ((cL _).1 c))]
 ·have hk:cr 8=some ⟨8,4,0,0,0⟩:=rfl;simp only[hk,bq,tD,iI];simp only[true_or,or_true,if_true,aM,Nat.reduceEqDiff,false_or,or_false];rw[hc.bytes];by_cases hl:code.length<p+1+1
  ·rw[ajd hl];simp only[Option.map_none];rw[kh,ajd (by omega)]
  rw[ajc hl];simp only[Option.map_some];have e:ax+p+1=ax+(p+1):=by omega
  rw[e,pO 1 _ _ (by omega) h2];by_cases ha:∀i∈((bs.drop (ax+(p+1))).take 1).map (·.toNat),i<nb
  ·rw[ajd ha,ajd ((cL _).2 ha)];simp;omega
  rw[ajc ha,ajc (fun c=>ha ((cL _).1 c))]
 have hk:cr 9=some ⟨9,5,0,0,0⟩:=rfl;simp only[hk,bq,tD,iI];simp only[Nat.reduceEqDiff,or_self,if_false,if_true,false_or,or_false];by_cases hl:code.length<p+1+1
 ·rw[ajd (by omega)];have:cn code (p+1) 1=none:=by unfold cn;rw[ajd hl]
  rw[this];rfl
 rw[ajc (by omega),dQ (show p+1<code.length by omega)];have e:ax+p+1=ax+(p+1):=by omega
 rw[e,hc.get (show p+1<code.length by omega)];simp only;generalize code[p+1]=B;by_cases hb:10<B.toNat
 ·rw[ajd (.inl hb),ajd hb];rfl
 rw[ajc hb,hc.bytes];by_cases jD:code.length<p+1+1+(B.toNat+1)
 ·rw[ajd (show code.length<p+1+1+(B.toNat+1) from jD),ajd (by omega)]
  rfl
 rw[ajc jD,ajc (by omega),aM];simp only[Option.map_some];have e2:ax+(p+1)+1=ax+(p+1+1):=by omega
 rw[e2,pO _ _ _ (by omega) h2];by_cases ha:∀i∈((bs.drop (ax+(p+1+1))).take (B.toNat+1)).map (·.toNat),i<nb
 ·rw[ajd ha,ajd ((cL _).2 ha)];simp;omega
 rw[ajc ha,ajc (fun c=>ha ((cL _).1 c))]
theorem rq(here:Nat):∀(ws:List (List Nat)) (w x:List Nat) (er:Er),fZ here w (ws++[x]) er=(x,if (fZ here w ws er).1=x then (fZ here w ws er).2 else noS (fZ here w ws er).2 7 here)
 | [],w,x,er=>rfl
 |y::ws,w,x,er=>by rw[List.cons_append,fZ,fZ];exact rq here ws y x _
theorem zd(here:Nat)(w0:List Nat)(ws:List (List Nat))(x:List Nat)(er:Er):eS here w0 (ws++[x]) er=(x,if ws=[]\/(eS here w0 ws er).1=x then (eS here w0 ws er).2 else noS (eS here w0 ws er).2 7 here):=by
 cases ws with
 |nil=>rfl
 |cons y ws=>
  simp only[List.cons_append,eS,rq,reduceCtorEq,false_or]
theorem ze{rest:List RB}{b b':RB}(h:cQ b b')(i:Nat):ce (rest++[b']) i=ce (rest++[b]) i:=by
 have hw:dB b'=dB b:=by unfold dB;rw[h.aa,h.aj,h.ak]
 unfold ce;simp only[ajb,ajr,ajv];by_cases hi:rest.length+1-1-i<rest.length
 ·rw[gAl hi,gAl hi]
 rw[ajs (by omega),ajs (by omega)];have:rest.length+1-1-i-rest.length=0:=by omega
 rw[this];exact hw
end
