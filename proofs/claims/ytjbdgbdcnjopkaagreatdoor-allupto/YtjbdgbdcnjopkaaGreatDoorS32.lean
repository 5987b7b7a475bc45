import Derived.Test.YtjbdgbdcnjopkaaGreatDoorS31
namespace Go.Proofs.YtjbdgbdcnjopkaaGreatDoor
open Go.RowKit Tryz
set_option linter.all false
set_option maxRecDepth 100000
set_option maxHeartbeats 4000000
abbrev br:Value:=.slice none 0 0
def bp(w:World)(n op:Nat)(num:Int)(vl vt vg vb ve:Value)(ew:Bool):Prop:=Blk w n #[.int .i64 op,.int .i64 num,vl,vt,vg,vb,ve,.bool ew] 157
def xz(az:Nat)(w w':World)(c x m f:Nat)(s:ByteArray)(er:Er)(here:Nat)(ads:List Nat)(rest:List RB)(b:RB)(fg:List Nat)(n op:Nat)(res:Except Er (List Nat×Nat)):Prop:=
 match res with
 |.error e=>∃at2 b2 vl,Lk az w' c x m f s at2 e here ads (rest++[b2])/\bp w' n op 0 vl br br br br false
 |.ok r=>Lk az w' c x m f s r.2 (kc here fg (rest++[b]) b er op r.1).2 here ads (rest++[(kc here fg (rest++[b]) b er op r.1).1])/\∃vl,bp w' n op 0 vl br br br br false/\aR w' vl r.1
section
variable {az c x m f:Nat}{w w':World}{s:ByteArray}{at_ here:Nat}{er:Er}{ads:List Nat}{a:Nat}{bl rest:List RB}{b b':RB}{sig:Sig}{ai:List Nat}{ax stop:Nat}
theorem Df(h:Lk az w c x m f s at_ er here (ads++[a]) (rest++[b]))(hf:ky w f sig ai ax stop)(h0:er.1=0)(hs:s.size<=5000)(cT:stop<=s.size)(ha:at_<=5000)(oL:b.l.length<=80000)(h6:∀B∈rest++[b],B.aj.length<=6/\B.ak.length<=6)(oM:sig.2.length<=6){n op:Nat}(ex:op=0\/op=7\/op=8\/op=9\/op=10)(ms:bp w n op 0 br br br br br false)(sF:az<=n):Calls prog 118 #[ptr c,ptr n] w fun r w'=>r=.returned (.tuple #[])/\Fr az (some n) w w'/\xz az w w' c x m f s er here (ads++[a]) rest b sig.2 n op (tD s.data.toList stop (rest.length+1) here op at_):=by
 obtain⟨nb,Ni⟩:=aja (rest.length+1);obtain⟨LP,Uv⟩:=aja (tD s.data.toList stop nb here op at_);rw[Ni,Uv];have Su:Hid _:=Uv;have Uw:Hid _:=Ni;have Lw:nb<=20:=by have:=h.nb;simp at this;omega
 clear Uv Ni;obtain⟨c0,Ow⟩:∃c0:Nat,(if op=7\/op=8 then 1 else 0)=c0:=⟨_,rfl⟩;have Iu:Hid _:=Ow;clear Ow;obtain⟨q7,XM⟩:∃q7:Bool,decide (op=7\/op=8)=q7:=⟨_,rfl⟩;have OO:Hid _:=XM;clear XM;have n0:=Blk.cell ms 0;simp at n0;have rP:=Blk.lt ms;go_enter func118,ntmps118;go_upto_region 1 with fail
 go_cut [21] from 10 to 171 (fun v wc=>w=wc/\v=.bool q7)
 case first=>
  by_cases e7:op=7
  ·have b7:((op:Int)==7)=true:=by rw[beq_iff_eq];omega
   have HD:Hid (decide (op=7\/op=8)=true):=by show _=_;rw[decide_eq_true_iff];exact .inl e7
   clear e7;go_wp2_with fail;go_meet
   exact⟨rfl,by rw[<-OO.out,HD.out]⟩
  have b7:((op:Int)==7)=false:=beqn (by omega);by_cases e8:op=8
  ·have b8:((op:Int)==8)=true:=by rw[beq_iff_eq];omega
   have HD:Hid (decide (op=7\/op=8)=true):=by show _=_;rw[decide_eq_true_iff];exact .inr e8
   clear e7 e8;go_wp2_with fail;go_meet
   exact⟨rfl,by rw[<-OO.out,HD.out]⟩
  have b8:((op:Int)==8)=false:=beqn (by omega);have HD:Hid (decide (op=7\/op=8)=false):=by show _=_;rw[decide_eq_false_iff_not];omega
  clear e7 e8;go_wp2_with fail;go_meet
  exact⟨rfl,by rw[<-OO.out,HD.out]⟩
 case rest=>
  obtain⟨hw,rfl⟩:=hcut;subst hw;go_upto_if 21 with fail
  go_cut [4] from 10 to 171 (fun v wc=>w=wc/\v=.int .i64 (c0:Nat))
  case first=>
   cases q7 with
   |true=>
    have HC:Hid (c0=1):=by show _=_;rw[<-Iu.out,ajd (by simpa using OO.out)]
    go_wp2_with fail;go_meet
    exact⟨rfl,by rw[HC.out];rfl⟩
   |false=>
    have HC:Hid (c0=0):=by show _=_;rw[<-Iu.out,ajc (by simpa using OO.out)]
    go_wp2_with fail;go_meet
    exact⟨rfl,by rw[HC.out];rfl⟩
  case rest=>
  obtain⟨hw,rfl⟩:=hcut;subst hw;go_upto_if 26 with fail
  go_cut [4] from 10 to 171 (fun v wc=>∃(count at1:Nat) (er1:Er),v=.int .i64 (count:Nat)/\count<=257/\at1<=5001/\Fr az none w wc/\Lk az wc c x m f s at1 er1 here (ads++[a]) (rest++[b])/\Hid ((er1.1≠0/\iI s.data.toList stop here op at_=.error er1)\/(er1=er/\iI s.data.toList stop here op at_=.ok (count,at1))))
  case first=>
   by_cases h9:op=9
   ·have sG:((op:Int)==9)=true:=by rw[beq_iff_eq];omega
    have hI:=xy h hf h0 hs cT (by omega) 1 (by decide);have aQ:s.data.toList.length=s.size:=by rw[ajF];rfl
    by_cases ju:stop<at_+1
    ·have HL:Hid (iI s.data.toList stop here op at_=.error (3,here)):=by show _=_;unfold iI;rw[ajc (by omega),ajd h9,ajd ju]
     go_wp2_with fail;refine hI.mono ?_;clear hI;rintro e w2 ⟨dq,⟨_,rfl,h2⟩|⟨hc,_⟩⟩
     ·obtain⟨vv2,jG,l8⟩:=h2.blk;obtain⟨e0,e1,e2,e3⟩:=h2.sc.cells;simp only at e2;have cc0:=jG.cell 0;simp at cc0;have xx:=jG.lt;have A2:=Blk.lt h2.sc;clear l8 e1 e3 e0 ju aQ h9;go_wp2_with fail;go_quiet (fail)
      go_wp2_with fail;go_meet
      exact⟨1,at_,(3,here),rfl,by decide,by omega,dq.drewN _,h2.drewN _,.inl ⟨by simp,HL.out⟩⟩
     omega
    have bM:at_<s.data.toList.length:=by omega
    have hV:imV s.data.toList at_ 1=((s.data.toList[at_]).toNat:Int):=by unfold imV;rw[ajc (by decide),List.take_one,List.head?_drop,gEg bM];simp[cy]
    have HL:Hid (iI s.data.toList stop here op at_=if 10<(s.data.toList[at_]).toNat\/stop<at_+1+((s.data.toList[at_]).toNat+1) then .error (3,here) else .ok ((s.data.toList[at_]).toNat+1,at_+1)):=by show _=_;unfold iI;rw[ajc (by omega),ajd h9,ajc ju,gEg bM]
    have FW:=(s.data.toList[at_]).toNat_lt;obtain⟨i,hi⟩:=aja ((s.data.toList[at_]).toNat);rw[hi]at hV FW HL;have jE:(i:Int)<256:=by omega
    rw[hV]at hI;clear hV hi aQ bM h9;go_wp2_with fail;refine hI.mono ?_;clear hI;rintro e w2 ⟨dq,⟨hc,_⟩|⟨_,rfl,h2⟩⟩
    ·omega
    have hZ:=hf.keep dq;obtain⟨vt,vg,vl,vb,f1,f2,f3,f4⟩:=hZ;have p4:=f1.cell 4;simp at p4;have Jr:=f1.lt;obtain⟨vv2,jG,l8⟩:=h2.blk;obtain⟨e0,e1,e2,e3⟩:=h2.sc.cells;rw[h0]at e2;have cc0:=jG.cell 0;have cc2:=jG.cell 2;simp at cc0 cc2;have xx:=jG.lt;have A2:=Blk.lt h2.sc;have PX:((at_+1:Nat):Int)<=5001:=by omega
    have Ng:(stop:Int)<=5000:=by omega
    obtain⟨p,hp⟩:=aja (at_+1);rw[hp]at e1 h2 HL PX;clear l8 e3 e0 f2 f3 f4;have gK:noS er 3 here=(3,here):=by unfold noS;rw[ajd h0]
    by_cases mG:10<i
    ·have OP:(11:Int)<(i:Int)+1:=by omega
     have hd:decide ((11:Int)<(i:Int)+1)=true:=by simpa using OP
     rw[ajd (.inl mG)]at HL;have hB:=fun W hW=>gG (w:=W) (az:=az) (c:=c) (x:=x) (m:=m) (f:=f) (s:=s) (at_:=p) (er:=er) (here:=here) (ads:=ads++[a]) (bl:=rest++[b]) hW 3;rw[gK]at hB;clear gK h0 mG hp;go_wp2_with fail;go_quiet (fail)
     go_wp2_with fail;refine(hB _ (h2.drewN _)).mono ?_;rintro e w3 ⟨rfl,et,h3⟩;go_wp2_with fail;go_meet
     exact⟨i+1,p,(3,here),rfl,by omega,by omega,(dq.drewN _).trans et,h3,.inl ⟨by simp,HL.out⟩⟩
    have OP:(i:Int)+1<=11:=by omega
    have hd:decide ((11:Int)<(i:Int)+1)=false:=by simpa using OP
    by_cases jD:stop<p+(i+1)
    ·have tk:(stop:Int)<(p:Int)+((i:Int)+1):=by omega
     have hx:decide ((stop:Int)<(p:Int)+((i:Int)+1))=true:=by simpa using tk
     rw[ajd (.inr jD)]at HL;have hB:=fun W hW=>gG (w:=W) (az:=az) (c:=c) (x:=x) (m:=m) (f:=f) (s:=s) (at_:=p) (er:=er) (here:=here) (ads:=ads++[a]) (bl:=rest++[b]) hW 3;rw[gK]at hB;clear gK h0 mG hp jD;go_wp2_with fail;go_quiet (fail)
     go_wp2_with fail;refine(hB _ (h2.drewN _)).mono ?_;rintro e w3 ⟨rfl,et,h3⟩;go_wp2_with fail;go_meet
     exact⟨i+1,p,(3,here),rfl,by omega,by omega,(dq.drewN _).trans et,h3,.inl ⟨by simp,HL.out⟩⟩
    have tk:(p:Int)+((i:Int)+1)<=(stop:Int):=by omega
    have hx:decide ((stop:Int)<(p:Int)+((i:Int)+1))=false:=by simpa using tk
    rw[ajc (by omega)]at HL;clear gK h0 mG hp jD;go_wp2_with fail;go_quiet (fail)
    go_wp2_with fail;go_meet
    exact⟨i+1,p,er,rfl,by omega,by omega,dq.drewN _,h2.drewN _,.inr ⟨rfl,HL.out⟩⟩
   have sG:((op:Int)==9)=false:=beqn (by omega);have HL:Hid (iI s.data.toList stop here op at_=.ok (c0,at_)):=by
    show _=_;have:=Iu.out;unfold iI;by_cases XN:op=7\/op=8
    ·rw[ajd XN]at this ⊢;rw[this]
    rw[ajc XN]at this ⊢;rw[ajc h9,this]
   have Ae:c0<=1:=by have:=Iu.out;split at this <;> omega
   clear h9;go_wp2_with fail;go_meet
   exact⟨c0,at_,er,rfl,by omega,by omega,Fr.refl _ _ _,h,.inr ⟨rfl,HL.out⟩⟩
  case rest=>
   obtain⟨w5,rfl⟩:∃z,z=wc:=⟨wc,rfl⟩;obtain⟨count,at1,er1,rfl,ET,aaw,iv,h5,Qa⟩:=hcut;have Xh:=hf.keep iv;have Nj:bp w5 n op 0 br br br br br false:=iv.keep _ _ _ (by decide) (fun _=>by simp) ms;have hw5:=iv.below.size;have Ux:Hid ((er1.1≠0/\LP=.error er1)\/(er1=er/\LP=kh s.data.toList stop nb here count at1 []/\∀i∈([]:List Nat),i<nb)):=by
    have h1:=Su.out;rcases Qa.out with⟨e1,e2⟩|⟨e1,e2⟩
    ·exact .inl ⟨e1,by rw[<-h1];unfold tD;rw[e2];rfl⟩
    exact .inr ⟨e1,by rw[<-h1];unfold tD;rw[e2];rfl,by simp⟩
   obtain⟨i0,hi,fo,eP,eV⟩:=info_parts ml;clear ms n0 Qa Iu OO Su hf rP;go_wp2_with fail;go_loopw [4,5] (fun v4 v5 wr=>∃(k at2:Nat) (er2:Er) (l:List Nat) (vl:Value),v4=.int .i64 (k:Nat)/\k+l.length=count/\at2<=at1+l.length/\wr.ownsRow w5.heap.size 3 1 vl l.length (aV l)/\bp wr n op 0 vl br br br br false/\(∀g c t,t≠116->t≠157->Blk w5 g c t->Blk wr g c t)/\w5.heap.size<=wr.heap.size/\Sc wr x s at2 er2/\Fr az (some n) w wr/\Hid ((er2.1≠0/\LP=.error er2)\/(er2=er/\LP=kh s.data.toList stop nb here k at2 l/\∀i∈l,i<nb))) (fun v4 _ _=>(intOf v4).toNat)
   case atStart=>exact⟨count,at1,er1,[],br,rfl,by simp,by simp,ajj _ _ _ _,Nj,fun _ _ _ _ _ hb=>hb,nLr _,h5.sc,iv.any,Ux⟩
   case round=>
    obtain⟨k,at2,er2,l,vl,rfl,jl,KR,bn,iA,hK,gy,JF,uu,HL⟩:=hrel;have hL:Lk az wr c x m f s at2 er2 here (ads++[a]) (rest++[b]):=h5.move (fun g c t ht hb=>hK g c t (by rcases ht with rfl|rfl|rfl|rfl <;> decide) (by rcases ht with rfl|rfl|rfl|rfl <;> decide) hb) JF;have Uy:ky wr f sig ai ax stop:=by obtain⟨vt,vg,vl,vb,f1,f2,f3,f4⟩:=Xh;have k3:∀g c,Blk w5 g c 3->Blk wr g c 3:=fun g c hb=>hK g c 3 (by decide) (by decide) hb;exact⟨vt,vg,vl,vb,hK _ _ _ (by decide) (by decide) f1,f2.keep k3,f3.keep k3,f4.keep k3⟩
    obtain⟨w6,rfl⟩:∃z,z=wr:=⟨wr,rfl⟩;obtain⟨vv2,jG,l8⟩:=hL.blk;obtain⟨e0,e1,e2,e3⟩:=JF.cells;have cc0:=jG.cell 0;have cc4:=jG.cell 4;simp at cc0 cc4;have xx:=jG.lt;have A2:=Blk.lt JF;clear e1 e3 e0;by_cases hE:er2.1=0
    ·rw[hE]at e2;have JT:Hid (er2=er/\LP=kh s.data.toList stop nb here k at2 l/\∀i∈l,i<nb):=by
      rcases HL.out with⟨e,_⟩|e
      ·exact absurd hE e
      exact e
     clear HL;cases k with
     |zero=>
      obtain⟨Uz,A6,cL⟩:=JT.out;subst Uz;rw[kh]at A6;have Qb:Hid _:=A6;have iJ:Hid _:=cL;have Lx:aR w6 vl l:=dj bn;obtain⟨q8,OQ⟩:∃q8:Bool,decide (op=8\/op=9)=q8:=⟨_,rfl⟩;have OR:Hid _:=OQ;obtain⟨r0,ku⟩:∃r0:RB×Er,(if op=8\/op=9 then (aU here b er2 1).2 else (b,er2))=r0:=⟨_,rfl⟩;have xA:cQ b r0.1/\r0.1.l.length<=b.l.length:=by
       rw[<-ku];split
       ·exact cX here b er2 1
       exact⟨cQ.refl b,nLr _⟩
      have xB:Hid _:=ku;obtain⟨w0,Ly⟩:∃w0:List Nat,(if op=10 then sig.2 else [])=w0:=⟨_,rfl⟩;have UA:w0.length<=6:=by rw[<-Ly];split;exact oM;simp
      have OS:Hid _:=Ly;have hT:=fJ hL (by omega) 1;have m0:=Blk.cell iA 0;have Nk:=Blk.lt iA;simp at m0;clear JT A6 cL OQ ku Ly bn l8;go_upto_region 12 with fail
      go_cut [113] from 94 to 171 (fun v wc=>w6=wc/\v=.bool q8)
      case first=>
       by_cases e8:op=8
       ·have b8:((op:Int)==8)=true:=by rw[beq_iff_eq];omega
        have HD:Hid (decide (op=8\/op=9)=true):=by show _=_;rw[decide_eq_true_iff];exact .inl e8
        clear e8;go_wp2_with fail;go_meet
        exact⟨rfl,by rw[<-OR.out,HD.out]⟩
       have b8:((op:Int)==8)=false:=beqn (by omega);by_cases e9:op=9
       ·have b9:((op:Int)==9)=true:=by rw[beq_iff_eq];omega
        have HD:Hid (decide (op=8\/op=9)=true):=by show _=_;rw[decide_eq_true_iff];exact .inr e9
        clear e8 e9;go_wp2_with fail;go_meet
        exact⟨rfl,by rw[<-OR.out,HD.out]⟩
       have b9:((op:Int)==9)=false:=beqn (by omega);have HD:Hid (decide (op=8\/op=9)=false):=by show _=_;rw[decide_eq_false_iff_not];omega
       clear e8 e9;go_wp2_with fail;go_meet
       exact⟨rfl,by rw[<-OR.out,HD.out]⟩
      case rest=>
      obtain⟨hw,rfl⟩:=hcut;subst hw;go_upto_if 113 with fail
      go_cut [] from 94 to 171 (fun wc=>Fr az none w6 wc/\Lk az wc c x m f s at2 r0.2 here (ads++[a]) (rest++[r0.1]))
      case first=>
       cases q8 with
       |true=>
        have HE:Hid (r0=(aU here b er2 1).2):=by show _=_;rw[<-xB.out,ajd (by simpa using OR.out)]
        go_wp2_with fail;refine hT.mono ?_;rintro e w7 ⟨rfl,rf,h7⟩;go_wp2_with fail;go_meet
        exact⟨rf,by rw[HE.out];exact h7⟩
       |false=>
        have HE:Hid (r0=(b,er2)):=by show _=_;rw[<-xB.out,ajc (by simpa using OR.out)]
        clear hT;go_wp2_with fail;go_meet
        exact⟨Fr.refl _ _ _,by rw[HE.out];exact hL⟩
      case rest=>
      obtain⟨w7,rfl⟩:∃z,z=wc:=⟨wc,rfl⟩;obtain⟨rf,h7⟩:=hcut;have pP:bp w7 n op 0 vl br br br br false:=rf.keep _ _ _ (by decide) (fun _=>by simp) iA;have Lz:aR w7 vl l:=rf.row Lx;have JU:=uu.trans rf.any;obtain⟨vt,vg,vlc,vb,f1,f2,f3,f4⟩:=Uy.keep rf;obtain⟨vv7,Nl,UB⟩:=h7.blk;have cc2:=Nl.cell 2;have UC:=Nl.lt;have fg1:=f1.cell 1;have UD:=f1.lt;have m0:=Blk.cell pP 0;have Qc:=Blk.lt pP;simp at cc2 fg1 m0;obtain⟨ag1,cg1,rfl,_,_⟩:=aG f3;clear hT OR iA Lx rf Uy hL uu m0 Nk e2 cc0 cc4 xx A2 hK JF f4 f2;have m0:=Blk.cell pP 0;simp at m0;go_upto_if 120 with fail
      go_cut [6] from 94 to 171 (fun v wc=>w7=wc/\aR w7 v w0)
      case first=>
       by_cases e10:op=10
       ·have b10:((op:Int)==10)=true:=by rw[beq_iff_eq];omega
        have HE:Hid (w0=sig.2):=by show _=_;rw[<-OS.out,ajd e10]
        clear e10;go_wp2_with fail;go_meet
        exact⟨rfl,by rw[HE.out];exact f3⟩
       have b10:((op:Int)==10)=false:=beqn (by omega);have HE:Hid (w0=[]):=by show _=_;rw[<-OS.out,ajc e10]
       clear e10;go_wp2_with fail;go_meet
       exact⟨rfl,by rw[HE.out];exact ajj _ _ _ _⟩
      case rest=>
      obtain⟨hw,Qd⟩:=hcut;subst hw;obtain⟨nl,rP⟩:=aja l.length;have UE:(nl:Int)<=257:=by omega
      clear cc2 fg1 Nl UB f1 f3 UD UC;have eW:∀i,ce (rest++[r0.1]) i=ce (rest++[b]) i:=ze xA.1;have LA:∀i,(ce (rest++[b]) i).length<=6:=by
       intro i;unfold ce;split
       ·rename_i B hB;have:=h6 B (gMo hB);unfold dB;split
        ·exact this.1
        exact this.2
       simp
      have FIN:Hid (∀(wl:List Nat) (er3:Er) (W:World),eS here w0 (l.map (ce (rest++[b]))) r0.2=(wl,er3)->Fr az none w7 W->Lk az W c x m f s at2 (bh here r0.1 er3 wl.reverse).2 here (ads++[a]) (rest++[if op=8 then cx (bh here r0.1 er3 wl.reverse).1 wl else xq (bh here r0.1 er3 wl.reverse).1])->Fr az (some n) w W/\xz az w W c x m f s er2 here (ads++[a]) rest b sig.2 n op LP):=by
       intro wl er3 W Ir Fb UF;refine⟨JU.trans Fb.any,?_⟩;rw[Qb.out];have Jy:kc here sig.2 (rest++[b]) b er2 op l=(if op=8 then cx (bh here r0.1 er3 wl.reverse).1 wl else xq (bh here r0.1 er3 wl.reverse).1,(bh here r0.1 er3 wl.reverse).2):=by unfold kc;simp only[xB.out,OS.out,Ir]
       refine⟨by rw[Jy];exact UF,vl,Fb.keep _ _ _ (by decide) (fun _=>by simp) pP,Fb.row Lz⟩
      have aax:r0.1.l.length<=80000:=by omega
      clear OS xB Qb JU xA;have Qe:Hid _:=eW;have Qf:Hid _:=LA;clear eW LA;go_wp2_with fail;go_loopw [6,7,8,9] (fun v6 v7 v8 v9 wr=>∃(k:Nat) (er3:Er) (wl:List Nat),v7=.int .i64 (k:Nat)/\k<=nl/\aR wr v6 wl/\wl.length<=6/\Hid (eS here w0 ((l.take k).map (ce (rest++[b]))) r0.2=(wl,er3))/\Fr az none w7 wr/\Lk az wr c x m f s at2 er3 here (ads++[a]) (rest++[r0.1])) (fun _ v7 _ _ _=>(nl-intOf v7).toNat)
      case atStart=>exact⟨0,r0.2,w0,rfl,ajl _,Qd,UA,rfl,Fr.refl _ _ _,h7⟩
      case round=>
       obtain⟨k,er3,wl,rfl,xZ,nP,aay,Sv,sU,h8⟩:=hrel;obtain⟨w8,rfl⟩:∃z,z=wr:=⟨wr,rfl⟩;have jd:bp w8 n op 0 vl br br br br false:=sU.keep _ _ _ (by decide) (fun _=>by simp) pP;have FX:aR w8 vl l:=sU.row Lz;have m0:=Blk.cell jd 0;have m2:=Blk.cell jd 2;have A7:=Blk.lt jd;simp at m0 m2;obtain⟨av6,cv6,rfl,_,_⟩:=aG nP;obtain⟨avl,cvl,rfl,_,_⟩:=aG FX;rw[rP]at m2;by_cases hk:k=nl
       ·subst hk;have Qg:Hid (eS here w0 (l.map (ce (rest++[b]))) r0.2=(wl,er3)):=by show _=_;have:=Sv.out;rw[<-rP,List.take_length]at this;exact this
        have uV:=kf h8 nP (by omega) (by omega);have dh:=(fu here wl.reverse r0.1 er3).2;have FIN2:Hid (∀W,Fr az none w7 W->Lk az W c x m f s at2 (bh here r0.1 er3 wl.reverse).2 here (ads++[a]) (rest++[if op=8 then cx (bh here r0.1 er3 wl.reverse).1 wl else xq (bh here r0.1 er3 wl.reverse).1])->Fr az (some n) w W/\xz az w W c x m f s er2 here (ads++[a]) rest b sig.2 n op LP):=fun W h1 h2=>FIN.out wl er3 W Qg.out h1 h2;obtain⟨T,hT⟩:=aja (bh here r0.1 er3 wl.reverse);rw[hT]at uV FIN2 dh;clear Sv Qg FIN hT xZ;go_wp2_with fail;refine uV.mono ?_;clear uV;rintro e w9 ⟨rfl,rh,h9⟩;have Qh:=sU.trans rh;have M7:aR w9 (.slice av6 wl.length cv6) wl:=rh.row nP;have zf:bp w9 n op 0 _ br br br br false:=rh.keep _ _ _ (by decide) (fun _=>by simp) jd;have m0:=Blk.cell zf 0;have JV:=Blk.lt zf;simp at m0;by_cases e8:op=8
        ·have b8:((op:Int)==8)=true:=by rw[beq_iff_eq];omega
         rw[ajd e8]at FIN2;have hG:=kg h9 M7 (by omega) (by omega);clear e8;go_wp2_with fail;refine hG.mono ?_;clear hG;rintro e w10 ⟨rfl,ki,mG⟩;go_wp2_with fail;refine bodyPost_ret (results_none rfl _ _ _) rfl ?_;exact⟨rfl,FIN2.out w10 (Qh.trans ki) mG⟩
        have b8:((op:Int)==8)=false:=beqn (by omega);rw[ajc e8]at FIN2;have hG:=FT h9;clear e8;go_wp2_with fail;refine hG.mono ?_;clear hG;rintro e w10 ⟨rfl,ki,mG⟩;go_wp2_with fail;go_end0;exact⟨rfl,FIN2.out w10 (Qh.trans ki) mG⟩
       have jl:k<l.length:=by omega
       obtain⟨gl,_,iB⟩:=cu FX (by omega);simp only[Value.slice.injEq]at iB;obtain⟨rfl,-,-⟩:=iB;have bC:w8.cell? ⟨gl,k,none⟩=some (.int .i64 (l[k]:Nat)):=by rw[(bK FX (j:=k) (by omega)).1];simp[aV,gEg jl]
       have KW:=A0 h8 (i:=l[k]) (by have:=iJ.out l[k] (ajw jl);have:=Uw.out;simp;omega);rw[Qe.out]at KW;have BQ:=Qf.out l[k];have JW:Hid (eS here w0 ((l.take (k+1)).map (ce (rest++[b]))) r0.2=(ce (rest++[b]) l[k],if k=0\/wl=ce (rest++[b]) l[k] then er3 else noS er3 7 here)):=by
        show _=_;rw[List.take_add_one,gEg jl];simp only[Option.toList_some,List.map_append,List.map_cons,List.map_nil];rw[zd,Sv.out];have:(List.map (ce (rest++[b])) (l.take k)=[])↔k=0:=by
         rw[List.map_eq_nil_iff,List.take_eq_nil_iff];constructor
         ·rintro(e|e)
          ·exact e
          rw[e]at jl;simp at jl
         exact .inl
        simp only[this]
       obtain⟨X,hX⟩:=aja (ce (rest++[b]) l[k]);rw[hX]at KW BQ JW;obtain⟨li,In⟩:=aja (l[k]);rw[In]at bC KW;have rQ:(k:Int)<(nl:Int):=by omega
       have uH:(0:Int)<=(k:Int):=by omega
       clear Sv hX In hk;go_wp2_with fail;refine KW.mono ?_;clear KW;rintro e w9 ⟨v9,rfl,kw,M7⟩;have h9:=h8.grown kw;have UG:aR w9 (.slice av6 wl.length cv6) wl:=nP.keep fun g c hb=>hb.grown kw (by simp);have Iv:=Dd UG M7 (by omega) (by omega);obtain⟨d,hd⟩:∃d:Bool,decide (wl=X)=d:=⟨_,rfl⟩;rw[hd]at Iv;have HD:Hid _:=hd;obtain⟨a9,c9,rfl,_,_⟩:=aG M7;clear hd;go_wp2_with fail;refine Iv.mono ?_;clear Iv;rintro e w10 ⟨rfl,qC⟩;have mG:=h9.grown qC;have Nm:aR w10 (.slice a9 X.length c9) X:=aR.keep M7 fun g c hb=>hb.grown qC (by simp);have ki:Fr az none w7 w10:=(sU.trans (Fr.of kw h8.size)).trans (Fr.of qC h9.size);cases k with
       |zero=>
        have FY:Hid (eS here w0 ((l.take (0+1)).map (ce (rest++[b]))) r0.2=(X,er3)):=by show _=_;rw[JW.out,ajd (.inl rfl)]
        clear JW;go_wp2_with fail;go_roundw
        case rel=>(repeat apply Exists.intro);exact⟨⟨1,er3,X,rfl,by omega,Nm,BQ,FY,ki,mG⟩,rfl⟩
        case measure=>simp[intOf];omega
       |succ k=>
        have mD:(0:Int)<((k+1:Nat):Int):=by omega
        cases d with
        |true=>
         have FY:Hid (eS here w0 ((l.take (k+1+1)).map (ce (rest++[b]))) r0.2=(X,er3)):=by show _=_;rw[JW.out,ajd (.inr (by simpa using HD.out))]
         clear JW HD;go_wp2_with fail;go_roundw
         case rel=>(repeat apply Exists.intro);exact⟨⟨k+1+1,er3,X,rfl,by omega,Nm,BQ,FY,ki,mG⟩,rfl⟩
         case measure=>simp[intOf];omega
        |false=>
         have FY:Hid (eS here w0 ((l.take (k+1+1)).map (ce (rest++[b]))) r0.2=(X,noS er3 7 here)):=by show _=_;rw[JW.out,ajc (by have:=HD.out;simp at this;simp[this])]
         clear JW HD;have hB:=gG mG 7;go_wp2_with fail;refine hB.mono ?_;clear hB;rintro e w11 ⟨rfl,kZ,mF⟩;go_wp2_with fail;go_roundw
         case rel=>(repeat apply Exists.intro);exact⟨⟨k+1+1,_,X,rfl,by omega,kZ.row Nm,BQ,FY,ki.trans kZ,mF⟩,rfl⟩
         case measure=>simp[intOf];omega
     |succ j=>
      have hI:Calls prog 119 #[ptr c,.int .i64 nb] w6 fun r w'=>∃(i3 at3:Nat) (er3:Er),r=.returned (.int .i64 i3)/\Fx w6 w'/\Sc w' x s at3 er3/\Fr az none w6 w'/\at3<=at2+1/\Hid ((er3.1≠0/\LP=.error er3)\/(er3=er/\LP=kh s.data.toList stop nb here j at3 (l++[i3])/\∀i∈l++[i3],i<nb)):=by
       obtain⟨q1,q2,q3⟩:=JT.out;rw[kh]at q2;refine(B2 hL Uy hE hs cT (by omega) nb (by omega)).mono ?_;rintro r w' ⟨hX,hF,⟨hc,rfl,hh⟩|⟨i,hc,hg,⟨uJ,rfl,hh⟩|⟨uJ,rfl,hh⟩⟩⟩
       ·rw[ajd hc]at q2;exact⟨0,at2,(3,here),rfl,hX,hh.sc,hF,by omega,.inl ⟨by simp,q2⟩⟩
       ·rw[ajc (by omega)]at q2;obtain⟨B,hB,rfl⟩:=Option.map_eq_some_iff.1 hg;rw[hB]at q2;simp only at q2;rw[ajd uJ]at q2;exact⟨0,at2+1,(4,here),rfl,hX,hh.sc,hF,by omega,.inl ⟨by simp,q2⟩⟩
       rw[ajc (by omega)]at q2;obtain⟨B,hB,rfl⟩:=Option.map_eq_some_iff.1 hg;rw[hB]at q2;simp only at q2;rw[ajc (by omega)]at q2;refine⟨B.toNat,at2+1,er2,rfl,hX,hh.sc,hF,by omega,.inr ⟨q1,q2,fun i hi=>?_⟩⟩;rcases List.mem_append.1 hi with hi|hi
       ·exact q3 i hi
       simp at hi;omega
      have pQ:(rest++[b]).length=nb:=by have:=Uw.out;simp;omega
      rw[pQ]at l8;obtain⟨g4,cap4,rfl⟩:=cu l8 (by have:=Uw.out;omega);obtain⟨av,cv,rfl,yc,_⟩:=aG bn;have hj1:0<((j+1:Nat):Int):=by omega
      clear JT hE pQ l8;go_wp2_with fail;refine hI.mono ?_;clear hI;rintro e w7 ⟨i3,at3,er3,rfl,UH,qd,rf,vB,HL7⟩;have pP:bp w7 n op 0 (.slice av l.length cv) br br br br false:=UH _ _ _ (by decide) iA;have wi:=aJ bn fun g c hb=>UH g c 3 (by decide) hb;have m2:=Blk.cell pP 2;have Qc:=Blk.lt pP;simp at m2;have aaA:=rf.below.size;go_wp2_with (at_builtin;refine wpList_append_own_at _ rfl _ _ 44 rfl w5.heap.size 3 i0 (.int .i64 0) 1 8 underlying44 hi fo eP eV rfl (by decide) (.slice av l.length cv) l.length (aV l) rfl (World.ownsRow.alloc wi _) ⟨w7.heap.size,0,none⟩ 1 1 [.int .i64 i3] rfl rfl ?rr1 ?rr2 ?rr3 ?rr4 ?rr5 ?rr6)
      case rr1=>exact cell_one_new _ _ _
      case rr2=>simp[Value.oneCell']
      case rr3=>simp[maxLen];omega
      case rr4=>omega
      case rr5=>simp;omega
      case rr6=>
       intro v2 w8 oz JX _ _;have jm:∀g,(Value.slice av l.length cv).ownBlock=some g->w5.heap.size<=g/\∃c,Blk (w7.alloc (.cells #[.int .i64 i3] 3)) g c 3:=ba (World.ownsRow.alloc wi _);have Sw:∀g c t,(t=3->g<w5.heap.size)->Blk w7 g c t->Blk w8 g c t:=by intro g c t ht hb;refine(hb.alloc _).grown JX (fun e=>?_);obtain⟨r1,c',r2⟩:=jm g e.symm;have h3:=((hb.alloc (.cells #[.int .i64 i3] 3)).symm.trans r2);cases h3;have:=ht rfl;omega
       have jd:=Sw _ _ _ (by simp) pP;have td:Sc w8 x s at3 er3:=Sw _ _ _ (by simp) qd;have sU:Fr az (some n) w w8:=by
        refine((uu.trans rf.any).newRow (aC w7 (.cells #[.int .i64 i3] 3) none) (by simp) ?_).newRow JX (fun g hg=>?_) ?_
        ·exact h.size
        ·have:=(jm g hg).1;omega
        exact h.size
       have Qi:w5.heap.size<=w8.heap.size:=by have:=JX.size;simp at this;omega
       obtain⟨a8,cap8,rfl,_,_⟩:=aG oz;have m2:=Blk.cell jd 2;have fr2:=Blk.frozen jd 2;have A7:=Blk.lt jd;simp at m2;have bY:=Blk.set jd 2 (.slice a8 (l.length+1) cap8);simp at bY;have dU:=aD w8 n 2 (.slice a8 (l.length+1) cap8);have ur:∀g c t,t≠157->Blk w8 g c t->Blk (w8.setCell ⟨n,2,none⟩ (.slice a8 (l.length+1) cap8)) g c t:=fun g c t ht hb=>aF dU jd hb ht;have FINR:Hid ((w8.setCell ⟨n,2,none⟩ (.slice a8 (l.length+1) cap8)).ownsRow w5.heap.size 3 1 (.slice a8 (l.length+1) cap8) (l++[i3]).length (aV (l++[i3]))/\(∀g c t,t≠116->t≠157->Blk w5 g c t->Blk (w8.setCell ⟨n,2,none⟩ (.slice a8 (l.length+1) cap8)) g c t)/\Sc (w8.setCell ⟨n,2,none⟩ (.slice a8 (l.length+1) cap8)) x s at3 er3/\Fr az (some n) w (w8.setCell ⟨n,2,none⟩ (.slice a8 (l.length+1) cap8))):=by refine⟨?_,fun g c t h1 h2 hb=>ur g c t h2 (Sw g c t (fun _=>hb.lt) (UH g c t h1 (hK g c t h1 h2 hb))),ur _ _ _ (by decide) td,sU.trans (Fr.wroteNode dU jd sF)⟩;have:=aJ oz fun g c hb=>ur g c 3 (by decide) hb;rw[lW];simpa using this
       clear ur dU Sw jm oz JX sU td;go_wp2_with fail;go_roundw
       case rel=>
        obtain⟨z1,z2,z3,z4⟩:=FINR.out;exact⟨j,at3,er3,l++[i3],_,by simp,by simp;omega,by simp;omega,z1,bY,z2,by simpa using Qi,z3,z4,HL7⟩
       case measure=>simp[intOf]
    have b0:((er2.1:Int)==0)=false:=beqn (by omega);have b1:((er2.1:Int) != 0)=true:=by simp only[bne,b0];rfl
    have JT:Hid (LP=.error er2):=by
     rcases HL.out with⟨_,e⟩|⟨e,_⟩
     ·exact e
     rw[e]at hE;exact absurd h0 hE
    clear HL hE;by_cases uH:k=0
    ·subst uH;go_wp2_with fail;refine bodyPost_ret (results_none rfl _ _ _) rfl ?_;refine⟨rfl,uu,?_⟩;rw[JT.out];exact⟨at2,b,vl,hL,iA⟩
    have mD:0<(k:Int):=by omega
    clear uH;go_wp2_with fail;refine bodyPost_ret (results_none rfl _ _ _) rfl ?_;refine⟨rfl,uu,?_⟩;rw[JT.out];exact⟨at2,b,vl,hL,iA⟩
end
