import Derived.Test.YtjbdgbdcnjopkaaGreatDoorS40
namespace Go.Proofs.YtjbdgbdcnjopkaaGreatDoor
open Go.RowKit Tryz
set_option linter.all false
set_option maxRecDepth 100000
set_option maxHeartbeats 4000000
def rB(x L:Nat)(w:World):Nat:=match w.cell? ⟨x,1,none⟩,w.cell? ⟨x,2,none⟩ with
 |some v,some e=>if intOf e=0 then (L+1-(intOf v).toNat) else 0
 |_,_=>0
def Br(az:Nat)(w wr:World)(c x m f:Nat)(s:ByteArray)(er:Er)(ads:List Nat)(a:Nat)(rest:List RB)(b:RB)(mm:bf)(fn:ck)(sig:Sig)(S:LSt)(p:Nat)(res:Except Er (LSt×Nat))(v5:Value)(ls:List Nat):Prop:=
 (∃er2 at2 ei b2,er2.1≠0/\res=.error er2/\Lk az wr c x m f s at2 er2 ei (ads++[a]) (rest++[b2])) \/
 (∃p2 ei b2 S2 k,zv az wr c x m f s er ei ads a rest b2 mm fn sig S2 p2/\res=fC mm (sig.1++fn.ai) fn S.ae.length S2 p2/\cQ b b2/\nm S2=nm S/\p<=p2/\ls.length+p<=p2/\bI wr mm fn.code (fun g=>w.heap.size<=g/\some g≠v5.ownBlock) k p ls p2)
section
variable {az c x m f:Nat}{w w':World}{s:ByteArray}{at_ here:Nat}{er:Er}{ads:List Nat}{a:Nat}{bl rest:List RB}{b:RB}{mm:bf}{fn:ck}{sig:Sig}{p op n:Nat}{S:LSt}
theorem wK{b2:RB}{g:List Nat}(h:cQ b b2)(ox:((rest++[b]).head?).map dB=some g):((rest++[b2]).head?).map dB=some g:=by
 have hw:dB b2=dB b:=by unfold dB;rw[h.aa,h.aj,h.ak]
 cases QG:rest with
 |nil=>
  rw[QG]at ox;simp only[List.nil_append,List.head?_cons,Option.map_some]at ox ⊢;rw[hw,ox]
 |cons B l=>
  rw[QG]at ox;simpa using ox
theorem zO{b2:RB}(h:cQ b b2)(h6:∀B∈rest++[b],B.aj.length<=6/\B.ak.length<=6):∀B∈rest++[b2],B.aj.length<=6/\B.ak.length<=6:=by
 intro B hB;rcases List.mem_append.1 hB with hB|hB
 ·exact h6 B (by simp[hB])
 simp at hB;subst hB;rw[h.aj,h.ak];exact h6 b (by simp)
theorem Lk.measE(h:Lk az w c x m f s at_ er here ads bl)(h0:er.1≠0)(L:Nat):rB x L w=0:=by obtain⟨d0,d1,d2,d3⟩:=h.sc.cells;unfold rB;rw[d1,d2];exact ajc (show ¬((er.1:Int)=0) by omega)
theorem Lk.measO(h:Lk az w c x m f s at_ er here ads bl)(h0:er.1=0)(L:Nat):rB x L w=L+1-at_:=by obtain⟨d0,d1,d2,d3⟩:=h.sc.cells;unfold rB;rw[d1,d2];refine(ajd (show ((er.1:Int)=0) by omega)).trans ?_;show L+1-((at_:Int)).toNat=_;simp
theorem Bt{N:Nat}(IH:∀M,M<N->kP az c x m f s mm fn sig M):kP az c x m f s mm fn sig N:=by
 intro w er here ads a rest b S p nd op0 num vl vt vg vb ve ew hu Ri ms sF aN;obtain⟨RES,tO⟩:=aja (fC mm (sig.1++fn.ai) fn S.ae.length S p);have key:Calls prog 72 #[ptr c,ptr nd] w fun r w'=>∃v,r=.returned v/\rX az w w' c x m f s er (ads++[a]) rest b mm fn S p nd op0 num vl vt vg vb ve ew RES v:=by
  have FINE:Hid (∀(W:World) (v:Value) (er2:Er) (at2 ei:Nat) (b2:RB),(∃sa sn sc,v=.slice sa sn sc)->Fr az none w W->Lk az W c x m f s at2 er2 ei (ads++[a]) (rest++[b2])->bp W nd op0 num vl vt vg vb ve ew->er2.1≠0->RES=.error er2->rX az w W c x m f s er (ads++[a]) rest b mm fn S p nd op0 num vl vt vg vb ve ew RES v):=by intro W v er2 at2 ei b2 h1 h2 h3 h4 h5 h6;refine⟨h1,h2.any,at2,er2,ei,b2,ve,ew,h3,h4,?_⟩;rw[h6];exact⟨rfl,h5⟩
  obtain⟨i1,OC,fo,eP,eV⟩:=info_parts Kb;have oP:Hid (Br az w w c x m f s er ads a rest b mm fn sig S p RES br []):=by refine .inr ⟨p,here,b,S,1,hu,tO.symm,cQ.refl b,rfl,nLr _,by simp,rfl⟩
  have IB:=hu.pc;have tC:=hu.lk.size;have lD:=IB.stop;have gy:=IB.size;have NB:=IB.len;have rO:=hu.rel.len;simp at rO;have HU:Hid _:=hu;clear tO hu;go_enter func72,ntmps72;go_wp2_with fail;go_loopw [5,6,7,8] (fun v5 v6 v7 v8 wr=>∃(ls:List Nat),wr.ownsRow w.heap.size 155 1 v5 ls.length (ls.map ptr)/\ls.length<=1000/\Fr az none w wr/\bp wr nd op0 num vl vt vg vb ve ew/\Hid (Br az w wr c x m f s er ads a rest b mm fn sig S p RES v5 ls)) (fun _ _ _ _ wr=>rB x (fn.ax+fn.code.length) wr)
  case atStart=>exact⟨[],ajj _ _ _ _,by simp,Fr.refl _ _ _,ms,oP⟩
  case round=>
   obtain⟨ls,bn,Sh,uu,iA,NC⟩:=hrel;obtain⟨w5,rfl⟩:∃z,z=wr:=⟨wr,rfl⟩;obtain⟨av,cv,rfl,yc,_⟩:=aG bn;rcases NC.out with⟨er2,at2,ei,b2,e1,e2,hL⟩|⟨p2,ei,b2,S2,k,lO,dH,dh,dL,hpp,ab2,zM⟩
   ·have b0:((er2.1:Int)==0)=false:=beqn (by omega);obtain⟨q0,q1,q2,q3,q4,q5⟩:=hL.cells;have HF:Hid _:=FINE.out w5 (.slice av ls.length cv) er2 at2 ei b2 ⟨_,_,_,rfl⟩ uu hL iA e1 e2;clear e1 e2 NC;go_wp2_with fail;go_ret;exact⟨_,rfl,HF.out⟩
   clear NC;have hL:=lO.lk;have Hk:=lO.e0;obtain⟨q0,q1,q2,q3,q4,q5⟩:=hL.cells;obtain⟨d0,d1,d2,d3⟩:=hL.sc.cells;obtain⟨vt',vg',vl',vb',f1,f2,f3,f4⟩:=lO.ctx.fn;obtain⟨stp,Hl⟩:=aja (fn.ax+fn.code.length);obtain⟨at2,Bu⟩:=aja (fn.ax+p2);rw[Hl]at f1;have p4:=f1.cell 4;have Jr:=f1.lt;simp at p4;rw[Hk]at q3 d2;have uW:=lO.pl;rw[Bu]at d1;have Vj:(at2:Int)<=4000:=by omega
   have Yr:(stp:Int)<=4000:=by omega
   have ab3:Hid _:=Hl;have NI:Hid _:=Bu;by_cases bM:p2<fn.code.length
   ·have V5:(at2:Int)<(stp:Int):=by omega
    have hd:decide ((stp:Int)<=(at2:Int))=false:=by rw[decide_eq_false_iff_not];omega
    have jw:=IB.code.get bM;have hN1:1<=N:=by omega
    obtain⟨o,ho⟩:=aja (fn.code[p2].toNat);have Ys:o<256:=by rw[<-ho];exact fn.code[p2].toNat_lt
    have ab4:at2<s.size:=by omega
    have zN:s.data.toList.length=s.size:=by rw[ajF];rfl
    have hv:(s[at2]).toNat=o:=by
     rw[Bu,gEg (by omega)]at jw;have e1:s.data.toList[at2]'(by omega)=s[at2]:=by rw[Array.getElem_toList];rfl
     rw[e1]at jw;simp only[Option.some.injEq]at jw;rw[jw,ho]
    have Yt:(at2:Int)<(s.size:Int):=by omega
    have hoi:(o:Int)<256:=by omega
    have OK:wrap64 (o:Int)=(o:Int):=IntWalk.wrap64_in _ (by omega);obtain⟨vv1,iW,df⟩:=hL.blk;have cc3:=iW.cell 3;have gg3:=iW.frozen 3;simp at cc3;have HV:Hid _:=hv;have HVW:Hid _:=OK;have HO:Hid _:=ho;have V6:Hid _:=dH;have V7:Hid _:=dL;have HDL:Hid _:=rO;have IC:Hid _:=Hk;have oD:Hid _:=ms;have zw:Hid _:=bn;clear hv OK df f2 f3 f4 jw zN ho dH dL rO Hk Hl;go_wp2_with fail;go_quiet (fail)
    go_upto_region 7 with fail
    obtain⟨w6,J4⟩:=aja ((w5.drewN nq).setCell ⟨c,3,none⟩ (.int .i64 (at2:Int)));obtain⟨h6,oQ⟩:=(hL.drewN nq).setHere at2;rw[J4]at h6 oQ ⊢;have Rk:Fr az none w5 w6:=((Fr.refl az none w5).drewN nq).trans oQ;clear J4 cc3 gg3 q0 q1 q2 q3 q4 q5 d0 d1 d2 d3 iW p4 Jr f1 oQ hd;obtain⟨q0,q1,q2,q3,q4,q5⟩:=h6.cells;obtain⟨d0,d1,d2,d3⟩:=h6.sc.cells;have gx1:=Blk.frozen h6.sc 1;rw[Bu]at d1;clear Bu q1 q2 d2 d3;go_region
    rw[HV.out,HVW.out];have gx1':=gx1;go_upto_region 9 with fail
    obtain⟨w7,Yu⟩:=aja ((w6.setCell ⟨x,1,none⟩ (.int .i64 ((at2:Int)+1))).drew);have V8:=Sc.setAt (w:=w6) (x:=x) (s:=s) (at_:=fn.ax+p2) (er:=er) h6.sc (fn.ax+p2+1);have jt:((fn.ax+p2+1:Nat):Int)=(at2:Int)+1:=by have:=NI.out;omega
    rw[jt]at V8;obtain⟨h7,rf⟩:=h6.setSc (aD _ _ _ _) V8;replace h7:=h7.drew;replace rf:=rf.drew;rw[Yu]at h7 rf ⊢;have Rl:=Rk.trans rf;have LW:at2=fn.ax+p2:=NI.out.symm;rw[LW]at h7;clear Yu V8 jt LW h6 Rk rf q0 q3 q4 q5 d0 d1 gx1 gx1' hL;have hT:=nr h7;go_wp2_with fail;refine hT.mono ?_;clear hT;rintro e w8 ⟨rfl,mS⟩;have h8:=h7.grown mS;have DT:Fr az none w5 w8:=Rl.trans (Fr.of mS h7.size);have sU:Fr az none w w8:=uu.trans DT;have jd:bp w8 nd op0 num vl vt vg vb ve ew:=sU.keep _ _ _ (by decide) (fun _=>by simp) oD.out;have Hm:Hid _:=zM;clear zM mS h7 Rl;by_cases o6:o=6
    ·as_aux_lemma=>
       have b5:((o:Int)==5)=false:=beqn (by omega);have b6:((o:Int)==6)=true:=by rw[beq_iff_eq];omega
       have V9:Hid (fn.code[p2].toNat=6):=by show _=_;rw[HO.out,o6]
       have ab7:=NI;clear o6;obtain⟨⟨vt2,vg2,vl2,t1,t2,t3,t4⟩,hl8,Rm⟩:=h8.top;have A9:=lO.ln;have Ec:=lO.h6 b2 (by simp);have uV:=kf h8 t3 (by omega) (by omega);have iN:=fu (fn.ax+p2) b2.ak.reverse b2 er;obtain⟨T,hT⟩:=aja (bh (fn.ax+p2) b2 er b2.ak.reverse);rw[hT]at uV iN;have HT:Hid _:=hT;obtain⟨ag2,cg2,rfl,_,_⟩:=aG t3;have k0:=t1.cell 0;have k2:=t1.cell 2;have We:=t1.lt;have n7:=Blk.cell jd 7;have A7:=Blk.lt jd;simp at k0 k2 n7;obtain⟨q,hq⟩:∃q:Bool,decide (T.1.l≠[]\/(b2.aa=4/\ew=false/\b2.aj≠b2.ak))=q:=⟨_,rfl⟩;have HQ:Hid (q=true↔(T.1.l≠[]\/(b2.aa=4/\ew=false/\b2.aj≠b2.ak))):=by show _↔_;rw[<-hq,decide_eq_true_iff]
       clear hT hq;go_wp2_with fail;refine uV.mono ?_;clear uV;rintro e w9 ⟨rfl,rh,h9⟩;have N8:=DT.trans rh;have zP:=sU.trans rh;have zf:bp w9 nd op0 num vl vt vg vb ve ew:=zP.keep _ _ _ (by decide) (fun _=>by simp) oD.out;obtain⟨⟨vt3,vg3,vl3,s1,s2,s3,s4⟩,_,_⟩:=h9.top;obtain⟨at3,ct3,rfl,_,_⟩:=aG s2;obtain⟨ag3,cg3,rfl,_,_⟩:=aG s3;obtain⟨al3,cl3,rfl,_,_⟩:=aG s4;have k0:=s1.cell 0;have k1:=s1.cell 1;have k2:=s1.cell 2;have k3:=s1.cell 3;have N9:=s1.lt;have n7:=Blk.cell zf 7;have JV:=Blk.lt zf;simp at k0 k1 k2 k3 n7;rw[iN.1.aa]at k0;rw[iN.1.aj]at k1 s2;rw[iN.1.ak]at k2 s3;clear t1 t2 t3 t4 jd A7;go_upto_region 15 with fail
       go_cut [151] from 9 to 193 (fun v wc=>v=.bool q/\w9.grownBy wc none)
       case first=>
        by_cases kx:T.1.l=[]
        ·have hz:T.1.l.length=0:=by rw[kx];rfl
         rw[hz]at k3;by_cases ut:b2.aa=4
         ·have b4:((b2.aa:Int)==4)=true:=by rw[beq_iff_eq];omega
          cases ew with
          |true=>
           have HE:Hid (q=false):=by
            show _=_;cases B6:q with
            |false=>rfl
            |true=>
             rcases HQ.out.1 B6 with h|⟨_,h,_⟩
             ·exact absurd kx h
             cases h
           clear kx hz ut;go_quiet (fail)
           go_wp2_with fail;go_meet
           exact⟨by rw[HE.out],bd (aH _ _) _⟩
          |false=>
           have Iv:=fun W (r1:aR W (.slice at3 b2.aj.length ct3) b2.aj) (r2:aR W (.slice ag3 b2.ak.length cg3) b2.ak)=>Kx r1 r2 (by omega) (by omega);have HE:Hid (q=!decide (b2.aj=b2.ak)):=by
            show _=_;cases B6:q with
            |false=>
             by_cases he:b2.aj=b2.ak
             ·simp[he]
             have:=HQ.out.2 (.inr ⟨ut,rfl,he⟩);rw[B6]at this;cases this
            |true=>
             rcases HQ.out.1 B6 with h|⟨_,_,h⟩
             ·exact absurd kx h
             simp[h]
           obtain⟨dd,Yv⟩:∃dd:Bool,decide (b2.aj=b2.ak)=dd:=⟨_,rfl⟩;rw[Yv]at Iv HE;clear kx hz ut Yv;go_quiet (first|(go_at_call 93;refine Calls.quiet_of (Iv _ s2 s3)))
           go_wp2_with fail;go_meet
           exact⟨by rw[HE.out],bd (aH _ _) _⟩
         have b4:((b2.aa:Int)==4)=false:=beqn (by omega);have HE:Hid (q=false):=by
          show _=_;cases B6:q with
          |false=>rfl
          |true=>
           rcases HQ.out.1 B6 with h|⟨h,_,_⟩
           ·exact absurd kx h
           exact absurd h ut
         clear kx hz ut;go_quiet (fail)
         go_wp2_with fail;go_meet
         exact⟨by rw[HE.out],bd (aH _ _) _⟩
        have j5:0<T.1.l.length:=List.length_pos_iff.2 kx;obtain⟨lt,Hn⟩:=aja T.1.l.length;rw[Hn]at k3 j5;have Ho:(0:Int)<(lt:Int):=by omega
        have hdp:decide ((0:Int)<(lt:Int))=true:=by simpa using Ho
        have N4:decide (0<lt)=true:=by simpa using j5
        have HE:Hid (q=true):=HQ.out.2 (.inl kx);clear kx Hn;go_quiet (fail)
        go_wp2_with fail;go_meet
        exact⟨by rw[HE.out],bd (aH _ _) _⟩
       case rest=>
       obtain⟨w10,rfl⟩:∃z,z=wc:=⟨wc,rfl⟩;obtain⟨rfl,qC⟩:=hcut;have mG:=h9.grown qC;have ki:Fr az none w9 w10:=Fr.of qC h9.size;clear s1 s2 s3 s4 k0 k1 k2 k3 N9 n7 JV qC;go_upto_if 151 with fail
       go_cut [] from 9 to 193 (fun wc=>Fr az none w10 wc/\Lk az wc c x m f s (fn.ax+p2+1) (lJ (fn.ax+p2) b2 er q) (fn.ax+p2) (ads++[a]) (rest++[T.1]))
       case first=>
        cases q with
        |true=>
         have hB:=gG mG 7;have Im:Hid (lJ (fn.ax+p2) b2 er true=noS T.2 7 (fn.ax+p2)):=by show _=_;unfold lJ;rw[HT.out];rfl
         go_wp2_with fail;refine hB.mono ?_;rintro e w11 ⟨rfl,kZ,mF⟩;go_wp2_with fail;go_meet
         exact⟨kZ,by rw[Im.out];exact mF⟩
        |false=>
         have Im:Hid (lJ (fn.ax+p2) b2 er false=T.2):=by show _=_;unfold lJ;rw[HT.out];rfl
         go_wp2_with fail;go_meet
         exact⟨Fr.refl _ _ _,by rw[Im.out];exact mG⟩
       case rest=>
       obtain⟨w11,rfl⟩:∃z,z=wc:=⟨wc,rfl⟩;obtain⟨kZ,mF⟩:=hcut;have zQ:=(N8.trans ki).trans kZ;have wL:=(zP.trans ki).trans kZ;have wy:bp w11 nd op0 num vl vt vg vb ve ew:=wL.keep _ _ _ (by decide) (fun _=>by simp) oD.out;have Hp:w11.ownsRow w.heap.size 155 1 (.slice av ls.length cv) ls.length (ls.map ptr):=aJ zw.out fun g cs hb=>zQ.keep g cs 155 (by decide) (fun e=>by cases e) hb;have ey:Hid _:=N7 lO V6.out dh V7.out bM V9.out aN Hm.out zQ Hp wL wy (q:=q) (by rw[HT.out];exact HQ.out) (by rw[HT.out];exact mF);go_wp2_with fail;go_ret;exact⟨_,rfl,ey.out⟩
    by_cases o5:o=5
    ·as_aux_lemma=>
       have b5:((o:Int)==5)=true:=by rw[beq_iff_eq];omega
       have b6:((o:Int)==6)=false:=beqn (by omega);have Yw:Hid (fn.code[p2].toNat=5):=by show _=_;rw[HO.out,o5]
       have Yx:=Kw (RES:=RES) lO V6.out dh V7.out bM Yw.out aN;have SR:Hid _:=Yx;clear o5 o6 Yx;obtain⟨⟨vt2,vg2,vl2,t1,t2,t3,t4⟩,hl8,Rm⟩:=h8.top;have A9:=lO.ln;have Ec:=lO.h6 b2 (by simp);have uV:=kf h8 t3 (by omega) (by omega);have iN:=fu (fn.ax+p2) b2.ak.reverse b2 er;obtain⟨T,hT⟩:=aja (bh (fn.ax+p2) b2 er b2.ak.reverse);rw[hT]at uV iN;have HT:Hid _:=hT;obtain⟨ag2,cg2,rfl,_,_⟩:=aG t3;have k0:=t1.cell 0;have k2:=t1.cell 2;have We:=t1.lt;have n7:=Blk.cell jd 7;have A7:=Blk.lt jd;simp at k0 k2 n7;obtain⟨q,hq⟩:∃q:Bool,decide (T.1.l≠[])=q:=⟨_,rfl⟩;have HQ:Hid (q=true↔(T.1.l≠[])):=by show _↔_;rw[<-hq,decide_eq_true_iff]
       clear hT hq;by_cases ut:b2.aa=4
       ·have b4:((b2.aa:Int)==4)=true:=by rw[beq_iff_eq];omega
        have c4:((b2.aa:Int) != 4)=false:=by simp only[bne,b4];rfl
        cases ew with
        |true=>
         have Wf:Hid (RES=.error (5,fn.ax+p2)):=SR.out.1 (fun hh=>by cases hh.2);clear ut;have hB:=gG h8 5;have gK:noS er 5 (fn.ax+p2)=(5,fn.ax+p2):=by unfold noS;rw[ajd IC.out]
         rw[gK]at hB;clear gK uV;go_wp2_with fail;refine hB.mono ?_;clear hB;rintro e w9 ⟨rfl,rh,h9⟩;go_wp2_with fail;go_ret;exact⟨_,rfl,FINE.out w9 _ _ _ _ b2 ⟨_,_,_,rfl⟩ (sU.trans rh) h9 ((sU.trans rh).keep _ _ _ (by decide) (fun _=>by simp) oD.out) (by simp) Wf.out⟩
        |false=>
         have Ky:Hid _:=SR.out.2 ⟨ut,rfl⟩ (q:=q) (by rw[HT.out];exact HQ.out);have qQ:Hid _:=ut;clear ut SR;go_wp2_with fail;refine uV.mono ?_;clear uV;rintro e w9 ⟨rfl,rh,h9⟩;have N8:=DT.trans rh;have zP:=sU.trans rh;have zf:bp w9 nd op0 num vl vt vg vb ve false:=zP.keep _ _ _ (by decide) (fun _=>by simp) oD.out;obtain⟨⟨vt3,vg3,vl3,s1,s2,s3,s4⟩,_,_⟩:=h9.top;obtain⟨at3,ct3,rfl,_,_⟩:=aG s2;obtain⟨ag3,cg3,rfl,_,_⟩:=aG s3;obtain⟨al3,cl3,rfl,_,_⟩:=aG s4;have k0:=s1.cell 0;have k1:=s1.cell 1;have k2:=s1.cell 2;have k3:=s1.cell 3;have N9:=s1.lt;have n7:=Blk.cell zf 7;have JV:=Blk.lt zf;simp at k0 k1 k2 k3 n7;rw[iN.1.aa]at k0;rw[iN.1.aj]at k1 s2;rw[iN.1.ak]at k2 s3;clear t1 t2 t3 t4 jd A7;go_upto_region 15 with fail
         go_cut [151] from 9 to 193 (fun v wc=>v=.bool q/\w9.grownBy wc none)
         case first=>
          by_cases kx:T.1.l=[]
          ·have hz:T.1.l.length=0:=by rw[kx];rfl
           rw[hz]at k3;have HE:Hid (q=false):=by
            show _=_;cases B6:q with
            |false=>rfl
            |true=>exact absurd kx (HQ.out.1 B6)
           clear kx hz;go_quiet (fail)
           go_wp2_with fail;go_meet
           exact⟨by rw[HE.out],bd (aH _ _) _⟩
          have j5:0<T.1.l.length:=List.length_pos_iff.2 kx;obtain⟨lt,Hn⟩:=aja T.1.l.length;rw[Hn]at k3 j5;have Ho:(0:Int)<(lt:Int):=by omega
          have hdp:decide ((0:Int)<(lt:Int))=true:=by simpa using Ho
          have N4:decide (0<lt)=true:=by simpa using j5
          have HE:Hid (q=true):=HQ.out.2 kx;clear kx Hn;go_quiet (fail)
          go_wp2_with fail;go_meet
          exact⟨by rw[HE.out],bd (aH _ _) _⟩
         case rest=>
         obtain⟨w10,rfl⟩:∃z,z=wc:=⟨wc,rfl⟩;obtain⟨rfl,qC⟩:=hcut;have mG:=h9.grown qC;have ki:Fr az none w9 w10:=Fr.of qC h9.size;clear s1 s2 s3 s4 k0 k1 k2 k3 N9 n7 JV qC;go_upto_if 151 with fail
         go_cut [] from 9 to 193 (fun wc=>Fr az none w10 wc/\Lk az wc c x m f s (fn.ax+p2+1) (lJ (fn.ax+p2) b2 er q) (fn.ax+p2) (ads++[a]) (rest++[T.1]))
         case first=>
          cases q with
          |true=>
           have hB:=gG mG 7;have Im:Hid (lJ (fn.ax+p2) b2 er true=noS T.2 7 (fn.ax+p2)):=by show _=_;unfold lJ;rw[HT.out];rfl
           go_wp2_with fail;refine hB.mono ?_;rintro e w11 ⟨rfl,kZ,mF⟩;go_wp2_with fail;go_meet
           exact⟨kZ,by rw[Im.out];exact mF⟩
          |false=>
           have Im:Hid (lJ (fn.ax+p2) b2 er false=T.2):=by show _=_;unfold lJ;rw[HT.out];rfl
           go_wp2_with fail;go_meet
           exact⟨Fr.refl _ _ _,by rw[Im.out];exact mG⟩
         case rest=>
         obtain⟨w11,rfl⟩:∃z,z=wc:=⟨wc,rfl⟩;obtain⟨kZ,mF⟩:=hcut;have zQ:=(N8.trans ki).trans kZ;have wL:=(zP.trans ki).trans kZ;have wy:bp w11 nd op0 num vl vt vg vb ve false:=wL.keep _ _ _ (by decide) (fun _=>by simp) oD.out;have Hp:w11.ownsRow w.heap.size 155 1 (.slice av ls.length cv) ls.length (ls.map ptr):=aJ zw.out fun g cs hb=>zQ.keep g cs 155 (by decide) (fun e=>by cases e) hb;obtain⟨EE,Yy⟩:=aja (lJ (fn.ax+p2) b2 er q);rw[Yy]at mF Ky;clear Yy;obtain⟨q0,q1,q2,q3,q4,q5⟩:=mF.cells;rcases Ky.out with⟨u1,u2⟩|⟨u1,u2,S',u3,u4,u5,u6,u7⟩
         ·have z0:((EE.1:Int)==0)=false:=beqn (by omega);have z1:((EE.1:Int) != 0)=true:=by simp only[bne,z0];rfl
          have HF:Hid _:=FINE.out w11 (.slice av ls.length cv) EE _ _ T.1 ⟨_,_,_,rfl⟩ wL mF wy u1 u2;clear u1 u2 Ky;go_wp2_with fail;go_ret;exact⟨_,rfl,HF.out⟩
         rw[u1]at mF q3;rw[IC.out]at q3;have HU2:Hid _:=u2;have HU7:Hid _:=u7;have Yz:Hid _:=u5;have HU6:Hid _:=u6;clear u1 u2 u5 u6 u7 Ky;obtain⟨⟨vt4,vg4,vl4,s1,s2,s3,s4⟩,_,_⟩:=mF.top;obtain⟨at4,ct4,rfl,_,_⟩:=aG s2;have k4:=s1.cell 4;have g4:=s1.frozen 4;have Wg:=s1.lt;simp at k4;have bY:=s1.set 4 (.bool false);simp at bY;have lj:∀g cs,Blk w11 g cs 3->Blk (w11.setCell ⟨a,4,none⟩ (.bool false)) g cs 3:=fun g cs hb=>aF (aD _ _ _ _) s1 hb (by decide);have r2:=s2.keep lj;obtain⟨C9,lc⟩:=mF.setTop (b':={T.1 with dead:=false}) (aD w11 a 4 (.bool false)) ⟨_,_,_,bY,r2,s3.keep lj,s4.keep lj⟩;go_upto_region 20 with fail
         obtain⟨w12,Rn⟩:=aja (w11.setCell ⟨a,4,none⟩ (.bool false));rw[Rn]at C9 lc bY r2 ⊢;clear Rn s1 s2 s3 s4 lj k4 g4 Wg q0 q1 q2 q3 q4 q5;have k1:=bY.cell 1;have Wg:=bY.lt;simp at k1;have Ro:cx {T.1 with dead:=false} T.1.aj={b2 with dead:=false,l:=b2.aj}:=by
          have Sb:T.1.l=[]:=by have:=HU2.out;rw[HT.out]at this;exact this
          unfold cx;simp[Sb,iN.1.aa,iN.1.aj,iN.1.ak]
         have hG:=kg C9 r2 (by rw[iN.1.aj];omega) (by have:=iN.2;simp only;omega);rw[Ro]at hG;clear Ro;go_wp2_with fail;refine hG.mono ?_;clear hG;rintro e w13 ⟨rfl,Rp,h13⟩;have Rq:=(zQ.trans lc).trans Rp;have LX:=(wL.trans lc).trans Rp;have wM:bp w13 nd op0 num vl vt vg vb ve false:=LX.keep _ _ _ (by decide) (fun _=>by simp) oD.out;have n7:=Blk.cell wM 7;have g7:=Blk.frozen wM 7;have Rr:=Blk.lt wM;simp at n7;have Hq:=Blk.set wM 7 (.bool true);simp at Hq;have Rs:=aD w13 nd 7 (.bool true);have Wh:=h13.keepNew (i:=7) (v:=.bool true) wM;have Bv:=Fr.wroteNode Rs wM sF;go_upto_region 22 with fail
         obtain⟨w14,Oa⟩:=aja (w13.setCell ⟨nd,7,none⟩ (.bool true));rw[Oa]at Wh Hq Rs Bv ⊢;clear Oa n7 g7 Rr k1 Wg;have Ob:Fr az (some nd) w w14:=LX.any.trans Bv;have Rt:Fr az (some nd) w5 w14:=Rq.any.trans Bv;have O6:fn.ax+p2+1=fn.ax+(p2+1):=by omega
         rw[O6]at Wh;have Ki:zv az w14 c x m f s er (fn.ax+p2) ads a rest {b2 with dead:=false,l:=b2.aj} mm fn sig S' (p2+1):=⟨Wh,IC.out,HU.out.ctx.keep Ob,IB,u3,u4,wK (show cQ b2 {b2 with dead:=false,l:=b2.aj} from ⟨rfl,rfl,rfl⟩) lO.fg,zO (show cQ b2 {b2 with dead:=false,l:=b2.aj} from ⟨rfl,rfl,rfl⟩) lO.h6,by simp only;omega,bM⟩
         have hI:=IH (N-1) (by omega) w14 er (fn.ax+p2) ads a rest {b2 with dead:=false,l:=b2.aj} S' (p2+1) nd op0 num vl vt vg vb ve true Ki (by omega) Hq sF (by
          intro F hF
          have h1:(nm S').getLast?=some F.au:=by unfold nm;rw[List.getLast?_map,hF];rfl
          rw[Yz.out]at h1
          simp at h1
          exact⟨fun _=>⟨qQ.out,rfl⟩,fun _=>h1.symm⟩)
         clear O6 Ki IH;go_wp2_with fail;refine hI.mono ?_;clear hI;rintro e w15 ⟨v15,rfl,⟨sa,sn,sc,rfl⟩,Ru,at5,er5,GJ,b5',ve5,QM,Wi,tZ,xG⟩;have n6:=Blk.cell tZ 6;have g6:=Blk.frozen tZ 6;have YA:=Blk.lt tZ;simp at n6;have Hr:=Blk.set tZ 6 (.slice sa sn sc);simp at Hr;have Kz:=aD w15 nd 6 (.slice sa sn sc);have Sr:=Wi.keepNew (i:=6) (v:=.slice sa sn sc) tZ;have Bw:=Fr.wroteNode Kz tZ sF;have YB:nd<w.heap.size:=Blk.lt oD.out;have FIN5:Hid (rX az w (w15.setCell ⟨nd,6,none⟩ (.slice sa sn sc)) c x m f s er (ads++[a]) rest b mm fn S p nd op0 num vl vt vg vb ve false RES (.slice av ls.length cv)):=by
          have Hs:Fr az (some nd) w5 (w15.setCell ⟨nd,6,none⟩ (.slice sa sn sc)):=(Rt.trans Ru).trans Bw;refine⟨⟨_,_,_,rfl⟩,(Ob.trans Ru).trans Bw,at5,er5,GJ,b5',.slice sa sn sc,QM,Sr,Hr,?_⟩;rw[<-HU7.out]at xG;cases QH:RES with
          |error e=>rw[QH]at xG;exact xG
          |ok r=>
           rw[QH]at xG;obtain⟨y1,y2,y3,y4,y5,y6,y7,y8,body,qq,kk,y9,y10,y11⟩:=xG;have Oa:=Ob.below.size;have K16:∀g cs t,w14.heap.size<=g->t=157\/t=155->Blk w15 g cs t->Blk (w15.setCell ⟨nd,6,none⟩ (.slice sa sn sc)) g cs t/\w.heap.size<=g:=fun g cs t h1 ht hb=>⟨hb.grown Kz (by simp;omega),by omega⟩;have K163:∀g cs,Blk w15 g cs 3->Blk (w15.setCell ⟨nd,6,none⟩ (.slice sa sn sc)) g cs 3:=fun g cs hb=>aF Kz tZ hb (by decide);refine⟨y1,y2,y3,y4,?_,?_,y7,y8,ls,p2,k,fN.of (aJ zw.out fun g cs hb=>Hs.keep g cs 155 (by decide) (fun e=>by cases e) hb),bI.keep (fun g cs t h1 ht hb=>⟨Hs.keep g cs t (by rcases ht with rfl|rfl <;> decide) (fun _ e=>by simp at e;have:=h1.1;omega) hb,h1.1⟩) (fun g cs hb=>Hs.keep g cs 3 (by decide) (fun e=>by cases e) hb) _ _ _ _ Hm.out,?_⟩
           ·rw[y5,dh.ak]
           ·rw[y6,Yz.out];simp
           rcases y11 with⟨z1,z2,z3,z4⟩|⟨_,z2,_⟩
           ·refine .inr ⟨?_,⟨by rw[<-dh.aa];exact qQ.out,rfl⟩,z3,body,qq,kk,y9.keep (fun g cs h1 h2=>K16 g cs 155 h1 (.inr rfl) h2),bI.keep K16 K163 _ _ _ _ y10,z1,z4⟩;unfold fS;rw[gEg bM,<-Yw.out];rfl
           cases z2.2
         clear xG Bw Kz Hr Sr;go_wp2_with fail;go_ret;exact⟨_,rfl,FIN5.out⟩
       have b4:((b2.aa:Int)==4)=false:=beqn (by omega);have c4:((b2.aa:Int) != 4)=true:=by simp only[bne,b4];rfl
       have Wf:Hid (RES=.error (5,fn.ax+p2)):=SR.out.1 (fun hh=>ut hh.1);clear ut;have hB:=gG h8 5;have gK:noS er 5 (fn.ax+p2)=(5,fn.ax+p2):=by unfold noS;rw[ajd IC.out]
       rw[gK]at hB;clear gK uV;go_wp2_with fail;refine hB.mono ?_;clear hB;rintro e w9 ⟨rfl,rh,h9⟩;go_wp2_with fail;go_ret;exact⟨_,rfl,FINE.out w9 _ _ _ _ b2 ⟨_,_,_,rfl⟩ (sU.trans rh) h9 ((sU.trans rh).keep _ _ _ (by decide) (fun _=>by simp) oD.out) (by simp) Wf.out⟩
    as_aux_lemma=>
      have b5:((o:Int)==5)=false:=beqn (by omega);have b6:((o:Int)==6)=false:=beqn (by omega);have YC:=HU.out.ctx.keep sU;have hI:=Kj (IH (N-1) (by omega)) (by omega) h8 IC.out YC IB lO.ln lO.rel lO.binv lO.fg lO.h6 bM HO.out ⟨o5,o6⟩;have oz:w8.ownsRow w.heap.size 155 1 (.slice av ls.length cv) ls.length (ls.map ptr):=aJ zw.out fun g cs hb=>DT.keep g cs 155 (by decide) (fun e=>by cases e) hb;have V9:Hid (o≠6):=o6;clear o5 o6 YC;go_wp2_with fail;refine hI.mono ?_;clear hI;rintro e w9 ⟨n,rfl,hn9,rh,hP⟩;have Ht:=aJ oz fun g cs hb=>rh.keep g cs 155 (by decide) (fun e=>by cases e) hb;have zP:=sU.trans rh;have ace:=zP.below.size;go_wp2_with (at_builtin;refine wpList_append_own_at _ rfl _ _ 47 rfl w.heap.size 155 i1 (.pointer none) 1 8 underlying47 OC fo eP eV rfl (by decide) (.slice av ls.length cv) ls.length (ls.map ptr) rfl (World.ownsRow.alloc Ht _) ⟨w9.heap.size,0,none⟩ 1 1 [ptr n] rfl rfl ?ss1 ?ss2 ?ss3 ?ss4 ?ss5 ?ss6)
      case ss1=>exact cell_one_new _ _ _
      case ss2=>simp[Value.oneCell']
      case ss3=>simp[maxLen];omega
      case ss4=>omega
      case ss5=>simp;omega
      case ss6=>
       intro v2 w10 Bx Ck _ eF;have Oc:Hid _:=Bx;have YD:Hid _:=Ck;have Wj:Hid _:=eF;obtain⟨a10,cap10,rfl,_,_⟩:=aG Bx;have Cl:∀g cs t,(t=155->some g≠(Value.slice av ls.length cv).ownBlock)->Blk w9 g cs t->Blk w10 g cs t:=by intro g cs t ht hb;refine(hb.alloc _).grown Ck (fun e=>?_);obtain⟨_,c',r2⟩:=ba (World.ownsRow.alloc Ht (.cells #[ptr n] 155)) g e.symm;have h3:=(hb.alloc (.cells #[ptr n] 155)).symm.trans r2;cases h3;exact ht rfl e
       have ki:Fr az none w w10:=(zP.newRow (aC w9 (.cells #[ptr n] 155) none) (by simp) tC).newRow Ck (fun g hg=>(ba (World.ownsRow.alloc Ht (.cells #[ptr n] 155)) g hg).1) tC;have NEXT:Hid ((∃(ls2:List Nat),w10.ownsRow w.heap.size 155 1 (.slice a10 (ls.length+1) cap10) ls2.length (ls2.map ptr)/\ls2.length<=1000/\Fr az none w w10/\bp w10 nd op0 num vl vt vg vb ve ew/\Hid (Br az w w10 c x m f s er ads a rest b mm fn sig S p RES (.slice a10 (ls.length+1) cap10) ls2))/\rB x (fn.ax+fn.code.length) w10<rB x (fn.ax+fn.code.length) w5):=by
        have wv:bp w10 nd op0 num vl vt vg vb ve ew:=ki.keep _ _ _ (by decide) (fun _=>by simp) oD.out;have Hu:w10.ownsRow w.heap.size 155 1 (.slice a10 (ls.length+1) cap10) (ls++[n]).length ((ls++[n]).map ptr):=by
         have e1:(ls++[n]).length=ls.length+1:=by simp
         have e2:(ls++[n]).map ptr=ls.map ptr++[ptr n]:=by simp
         rw[e1,e2];exact Oc.out
        have dH:=V6.out;have g1:S2.ae.length=(rest++[b2]).length:=lO.rel.len;have g2:S.ae.length=rest.length+1:=HDL.out;rw[ajb,ajr,ajv]at g1;rw[xH lO.binv (by omega) (by omega) bM HO.out V9.out]at dH;have qn:rB x (fn.ax+fn.code.length) w5=fn.ax+fn.code.length+1-(fn.ax+p2):=lO.lk.measO lO.e0 _;have YE:∀{at3:Nat}{er3:Er}{ub:Nat}{b3:RB},Lk az w9 c x m f s at3 er3 ub (ads++[a]) (rest++[b3])->Lk az w10 c x m f s at3 er3 ub (ads++[a]) (rest++[b3]):=fun hh=>hh.kept fun g cs t ht hb=>Cl g cs t (fun e=>by subst e;rcases ht with h|h|h|h|h <;> cases h) hb;unfold l9 at hP;cases hI:je mm (sig.1++fn.ai) fn S2 p2 with
        |error e=>
         rw[hI]at hP dH;obtain⟨e0,at3,ub,b3,Wk⟩:=hP;have Hv:=YE Wk;refine⟨⟨ls++[n],Hu,by simp;omega,ki,wv,.inl ⟨e,at3,ub,b3,e0,dH,Hv⟩⟩,?_⟩;rw[Hv.measE e0,qn];omega
        |ok r=>
         rw[hI]at hP dH;obtain⟨ub,b3,Wk,Rv,Fm,acf,Wl,EF,hp3,Wm,k3,hN3⟩:=hP;have Hv:=YE Wk;have A9:=lO.ln;have Ki:zv az w10 c x m f s er ub ads a rest b3 mm fn sig r.1 r.2:=⟨Hv,IC.out,HU.out.ctx.keep ki,IB,Rv,EF,wK Fm lO.fg,zO Fm lO.h6,by omega,Wm⟩;have hT9:bI w9 mm fn.code (fun g=>(w.heap.size<=g/\some g≠(Value.slice av ls.length cv).ownBlock)/\g<w9.heap.size) k p ls p2:=by refine bI.used (bI.keep (fun g cs t h1 ht hb=>⟨(DT.trans rh).keep g cs t (by rcases ht with rfl|rfl <;> decide) (fun _=>by simp) hb,h1⟩) (fun g cs hb=>(DT.trans rh).keep g cs 3 (by decide) (fun e=>by cases e) hb) _ _ _ _ Hm.out)
         have Qi:=sU.below.size;have hN9:bI w9 mm fn.code (fun g=>(w.heap.size<=g/\some g≠(Value.slice av ls.length cv).ownBlock)/\g<w9.heap.size) k3 p2 [n] r.2:=by refine bI.used (bI.keep (fun g cs t h1 ht hb=>⟨hb,⟨by omega,fun e=>?_⟩⟩) (fun g cs hb=>hb) _ _ _ _ hN3);obtain⟨_,c',r2⟩:=ba oz g e.symm;have:=Blk.lt r2;omega
         have Wn:=bI.append k hT9 hN9;have hT:bI w10 mm fn.code (fun g=>w.heap.size<=g/\some g≠(Value.slice a10 (ls.length+1) cap10).ownBlock) (k+k3) p (ls++[n]) r.2:=by
          refine bI.keep (fun g cs t h1 ht hb=>⟨Cl g cs t (fun _=>h1.1.2) hb,h1.1.1,fun e=>?_⟩) (fun g cs hb=>Cl g cs 3 (fun e=>by cases e) hb) _ _ _ _ Wn;rcases Wj.out with hk|hk
          ·rw[hk]at e;exact h1.1.2 e
          rw[hk]at e;simp at e;have:=h1.2;omega
         refine⟨⟨ls++[n],Hu,by simp;omega,ki,wv,.inr ⟨r.2,ub,b3,r.1,k+k3,Ki,dH,dh.trans Fm,Wl.trans V7.out,by omega,by simp;omega,hT⟩⟩,?_⟩;rw[Hv.measO IC.out,qn];omega
       clear Bx Ck eF Cl ki;go_wp2_with fail;go_roundw
       case rel=>
        exact NEXT.out.1
       case measure=>exact NEXT.out.2
   as_aux_lemma=>
     have V5:(stp:Int)<=(at2:Int):=by omega
     have hd:decide ((stp:Int)<=(at2:Int))=true:=by rw[decide_eq_true_iff];omega
     have LI:Hid (RES=.error (5,stp)):=by show _=_;rw[dH,ft uW,ajc bM,Hl]
     have hN:=fun W (hW:Sc W x s (fn.ax+p2) er)=>i6 hW 5 stp;have gK:noS er 5 stp=(5,stp):=by unfold noS;rw[ajd Hk]
     rw[gK]at hN;clear gK dH Hl Bu Hk zM f2 f3 f4 d0 d3 bM;go_wp2_with fail;go_quiet (fail)
     go_wp2_with fail;go_region_with (go_at_call 52;refine(hN _ (show Sc (w5.drewN (nq+1)) x s (fn.ax+p2) er from hL.sc)).mono ?_;rintro e w6 ⟨rfl,oM,Ek⟩)
     all_goals
      go_wp2_with fail;go_ret;obtain⟨Nf,oQ⟩:=(hL.drewN (nq+1)).setSc oM Ek;exact⟨_,rfl,FINE.out w6 _ _ _ _ b2 ⟨_,_,_,rfl⟩ ((uu.drewN (nq+1)).trans oQ) Nf (oQ.keep _ _ _ (by decide) (fun _=>by simp) (show Blk (w5.drewN (nq+1)) nd _ 157 from iA)) (by simp) LI.out⟩
 refine key.mono ?_;rintro r w' ⟨v,h1,h2⟩;exact⟨v,h1,by unfold GD;rw[tO];exact h2⟩
end
