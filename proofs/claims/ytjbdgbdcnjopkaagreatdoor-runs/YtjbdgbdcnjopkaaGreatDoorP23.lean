import Derived.Test.YtjbdgbdcnjopkaaGreatDoorP22
import Derived.Deep.LoopGhost
namespace Go.Proofs.YtjbdgbdcnjopkaaGreatDoor
open Go.RowKit Tryz
set_option linter.unusedVariables false
set_option linter.unusedSimpArgs false
set_option maxRecDepth 100000
set_option maxHeartbeats 4000000
def ow (w0 w:World) (v:Value) (o:Out):Prop:=
 ∃vv,v=.agg #[.int .i64 o.ends,.int .i64 o.ay,vv]/\((vv=.slice none 0 0/\o.values=[])\/∃g,vv=.slice (some ⟨g,0,none⟩) o.values.length o.values.length/\w0.heap.size<=g/\Blk w g (cA o.values).toArray 2)
def sQ (w:World) (b:Nat) (v0 v1 v2:Value):World:=(((w.setCell ⟨b,0,none⟩ v0).setCell ⟨b,1,none⟩ v1).setCell ⟨b,2,none⟩ v2)
theorem ii (w:World) (b:Nat) (v0 v1 v2:Value):w.grownBy (sQ w b v0 v1 v2) (some b):=aB (aB (aD _ _ _ _) (aD _ _ _ _)) (aD _ _ _ _)
theorem jq {w:World}{b t:Nat}{u0 u1 u2:Value} (h:Blk w b #[u0,u1,u2] t) (v0 v1 v2:Value):Blk (sQ w b v0 v1 v2) b #[v0,v1,v2] t:=by have:=((h.set 0 v0).set 1 v1).set 2 v2;simp at this;exact this
theorem iZ {w0 w:World}{b t:Nat}{c:Array Value} (hb:Blk w b c t) (hB:w0.heap.size<=b) (v0 v1 v2:Value):Below w0.heap.size w (sQ w b v0 v1 v2):=
 Below.of_grown (ii w b v0 v1 v2) hB (Nat.le_of_lt (Nat.lt_of_le_of_lt hB hb.lt))
theorem MR.pop {w0:World}{gF nF q gc n cap:Nat}{w:World}{e:Ent}{ents:List Ent}{ay:Nat} (h:MR w0 gF nF q (.slice (some ⟨gc,0,none⟩) n cap) w (e::ents) ay) :
  MR w0 gF nF q (.slice (some ⟨gc,0,none⟩) ents.length cap) (w.setCell ⟨q,1,none⟩ (.slice (some ⟨gc,0,none⟩) ents.length cap)) ents ay:=by
 obtain⟨a,k,e1,_⟩:=aG h.calls;cases e1;have hcut:=kH h.calls (k:=ents.length) (by simp);have e2:(rK (e::ents)).take (ents.length*1)=rK ents:=by simp only[rK,List.reverse_cons,List.map_append,Nat.mul_one];exact List.take_left' (by simp)
 rw[e2] at hcut;have hb:=h.blk.set 1 (.slice (some ⟨gc,0,none⟩) ents.length cap);simp at hb;have kk:∀t,t≠148->∀g c,Blk w g c t->Blk (w.setCell ⟨q,1,none⟩ (.slice (some ⟨gc,0,none⟩) ents.length cap)) g c t:=fun t ht g c hb=>aF (aD w q 1 _) h.blk hb ht;refine⟨hb,h.low,aJ hcut (kk _ (by decide)),fun e' he=>?_,(List.pairwise_cons.1 h.apart).2⟩;have h1:=h.each e' (List.mem_cons_of_mem _ he);exact⟨kk _ (by decide) _ _ h1.blk,h1.low,aJ h1.loc (kk _ (by decide)),aJ h1.stk (kk _ (by decide)),h1.apart⟩
section
variable {w0:World}{az gF nF q cb:Nat}{vl vs vs' vs1 vs2 vc:Value}{w w' w1 w2:World}{c c':bS}{fs:List bu}{f:bu}{e e':Ent}{ents:List Ent}{ay:Nat}
def Fh (w0:World) (fs:List bu) (gF q rb aA:Nat) (o:Out) (w:World) (gas:Nat):Prop:=
 ∃vc e ents ay k,k<=gas/\MR w0 gF fs.length q vc w (e::ents) ay/\FR w0 gF fs w/\Blk w rb #[.int .i64 0,.int .i64 0,.slice none 0 0] 73 /\
  dx fs aA k ⟨e.c,ents.map (·.c),ay⟩=some o/\uN aA k ay (e.c::ents.map (·.c))
def Li (w0:World) (fs:List bu) (gF q rb aA:Nat) (o:Out) (cb:Nat) (vl:Value) (ents:List Ent) (G:Nat) (w:World) (gas:Nat):Prop:=
 ∃vc vs c ay k,k<=gas/\k<=G/\MR w0 gF fs.length q vc w (⟨cb,vl,vs,c⟩::ents) ay/\FR w0 gF fs w/\Blk w rb #[.int .i64 0,.int .i64 0,.slice none 0 0] 73 /\
  dx fs aA k ⟨c,ents.map (·.c),ay⟩=some o/\uN aA k ay (c::ents.map (·.c))
theorem Fi (hF:FR w0 gF fs w) (h:MR w0 gF fs.length q vc w (e::ents) ay) {aA k:Nat}{o:Out} (du:aA<=100000) (hr:dx fs aA k ⟨e.c,ents.map (·.c),ay⟩=some o) (hi:uN aA k ay (e.c::ents.map (·.c))) :
  Calls prog 71 #[.pointer (some ⟨q,0,none⟩),.int .i64 aA] w fun e' w'=>Below w0.heap.size w w'/\∃v,e'=.returned v/\ow w0 w' v o:=by
 have PO:(aA:Int)<=100000:=by omega
 have lm:=aC w (.cells #[.int .i64 0,.int .i64 0,.slice none 0 0] 73) none;have cT:Fh w0 fs gF q w.heap.size aA o (w.alloc (.cells #[.int .i64 0,.int .i64 0,.slice none 0 0] 73)) k:=
  ⟨vc,e,ents,ay,k,nLr _,h.kept lm,hF.mono (cj.none lm h.base_le).below,Blk.new _ _ _,hr,hi⟩
 have HB:Hid (Below w0.heap.size w (w.alloc (.cells #[.int .i64 0,.int .i64 0,.slice none 0 0] 73))):=(cj.none lm h.base_le).below;clear hr hi lm;go_enter func71,ntmps71;go_wp2
 go_step3
 go_wp2
 go_step3
 go_wp2
 go_loopg [] k (fun g wx=>Fh w0 fs gF q w.heap.size aA o wx g/\Below w0.heap.size w wx)
 case atStart=>exact⟨cT,HB.out⟩
 case round =>
  clear cT HB;obtain⟨⟨vc1,e1,ents1,steps1,k1,mD,yN,pj,BO,Fj,Fk⟩,PQ⟩:=hrel;cases gk with
  | zero=>obtain⟨_,e,_⟩:=jp Fj;omega
  | succ gO =>
  obtain⟨cb,vl,vs1,c1⟩:=e1;have Jx:ents1.length<=40:=by have:=Fk.len;simp at this;omega
  have Fl:Li w0 fs gF q w.heap.size aA o cb vl ents1 (gO+1) wr.drew (gO+1)/\Below w0.heap.size w wr.drew:=
   ⟨⟨vc1,vs1,c1,steps1,k1,mD,mD,yN.drew,pj.mono ((cj.none (aE (aH _ _)) yN.base_le).below),BO.drew,Fj,Fk⟩,PQ.trans ((cj.none (aE (aH _ _)) yN.base_le).below)⟩
  have hQ:=j6 yN (by omega);clear Fj Fk BO yN pj PQ;go_wp2_with fail
  go_step3
  go_wp2_with fail;refine hQ.mono ?_;rintro e2 w2 ⟨rfl,rfl⟩;clear hQ;go_wp2_with fail
  go_step3
  go_wp2_with fail
  go_loopg [] (gO+1) (fun g wx=>Li w0 fs gF q w.heap.size aA o cb vl ents1 (gO+1) wx g/\Below w0.heap.size w wx)
  case atStart=>exact Fl
  case round =>
   clear Fl;obtain⟨⟨vc2,vs2,c2,steps2,k2,lg,OF,CV,dq,gX,vN,sR⟩,M4⟩:=hrel;cases gk with
   | zero=>obtain⟨_,e,_⟩:=jp vN;omega
   | succ gI =>
   obtain⟨f,hf⟩:=Jw vN;obtain⟨at1,ct1,at2,ct2,ap,cp,R⟩:=dq.read hf;have fQ:=dq.ok;have OB:=(fQ.2 f (gMo hf)).2.2.2.1;have b0:=CV.head.blk.cell 0;have b1:=CV.head.blk.cell 1;simp at b0 b1;have p3:=R.c3;have Eh:Hid _:=hf;clear hf;have OG:w0.heap.size<=w.heap.size:=h.base_le;have iB:=(fQ.2 f (gMo Eh.out)).2.1;have p1:=R.c1;have HD:=(cj.none (aE (aH wr none)) CV.base_le).below;have Xz:=sR.stk _ (List.mem_cons_self ..);have Lj:=sR.loc _ (List.mem_cons_self ..);cases hs:f.ay[c2.next]? with
   | none =>
    have xf:(f.ay.length:Int)<=(c2.next:Int):=by have:=List.getElem?_eq_none_iff.1 hs;omega
    obtain⟨vals,c3,xm,uO⟩:=Fg fQ vN Eh.out hs sR;have AW:Hid _:=uO;have M5:Hid _:=xm;have Io:=CV.drew;have PR:=dq.mono HD;have xW:=M4.trans HD;clear uO xm hs vN sR;go_wp2_with fail;go_region
    go_wp2_with fail;refine(oN Io.head M5.out (by omega) (by omega)).mono ?_;rintro e3 w3 ⟨gv,vs3,rfl,uq,M6,Jy,Fm,W3,C3⟩;obtain⟨xn,Jz⟩:=Io.step W3 C3;have et:=PR.mono Jz.below;have EF:=xW.trans Jz.below;have mC:=Jz.boxes _ _ _ (by decide) (by decide) (by decide) (by decide) gX.drew;obtain⟨gc,cap3,rfl⟩:=cu xn.calls (by simp);have q1:=xn.blk.cell 1;have qf:=xn.blk.frozen 1;simp at q1;have T3:=xn.blk.lt;have PS:ents1.length+1<=cap3:=by obtain⟨_,_,_,hh⟩:=dF xn.calls;simpa using hh
    have e31:((ents1.length:Int)+1)-1=(ents1.length:Int):=by omega
    have JA:=xn.pop;have JB:=cj.set xn 1 (.slice (some ⟨gc,0,none⟩) ents1.length cap3);have Fo:=aF (aD w3 q 1 (.slice (some ⟨gc,0,none⟩) ents1.length cap3)) xn.blk M6 (by decide);have dU:w3.grownBy (w3.setCell ⟨q,1,none⟩ (.slice (some ⟨gc,0,none⟩) ents1.length cap3)) (some q):=aD _ _ _ _;have JC:(ents1.length:Int)+1<=(cap3:Int):=by omega
    clear dU;go_wp2_with fail;go_region
    have my:=JA.drew;have iv:=(et.mono JB.below).mono ((cj.none (aE (aH _ _)) JA.base_le).below);have Ay:=(EF.trans JB.below).trans ((cj.none (aE (aH _ _)) JA.base_le).below);have sS:=(JB.boxes _ _ _ (by decide) (by decide) (by decide) (by decide) mC).drew;have AX:=Fo.drew;obtain⟨W5,pF⟩:∃W5,(w3.setCell ⟨q,1,none⟩ (.slice (some ⟨gc,0,none⟩) ents1.length cap3)).drew=W5:=⟨_,rfl⟩;rw[pF] at my iv Ay sS AX ⊢;clear pF JA JB Fo q1 qf xn et EF mC M6 C3 W3 Jz;have q5:=my.blk.cell 1;have q6:=my.blk.cell 2;simp at q5 q6;cases ents1 with
    | nil =>
     have ho:Hid (o=⟨0,steps2,vals⟩):=AW.out;have x0:=sS.cell 0;have x1:=sS.cell 1;have x2:=sS.cell 2;have y0:=sS.frozen 0;have y1:=sS.frozen 1;have y2:=sS.frozen 2;simp at x0 x1 x2 q5;go_wp2_with fail;have B8:=Ay.trans (iZ (w0:=w0) sS OG (.int .i64 0) (.int .i64 steps2) (.slice (some ⟨gv,0,none⟩) f.ak.length f.ak.length));have r8:=jq sS (.int .i64 0) (.int .i64 steps2) (.slice (some ⟨gv,0,none⟩) f.ak.length f.ak.length);have b8:=aF (ii W5 w.heap.size (.int .i64 0) (.int .i64 steps2) (.slice (some ⟨gv,0,none⟩) f.ak.length f.ak.length)) sS AX (by decide);unfold sQ at B8 r8 b8;have z0:=r8.cell 0;have z1:=r8.cell 1;have z2:=r8.cell 2;simp at z0 z1 z2;show bodyPost prog Tryz.f71 (fun e' w'=>Below w0.heap.size w w'/\∃v,e'=Ending.returned v/\ow w0 w' v o) .ret _ _;have qX:w0.heap.size<=gv:=Nat.le_trans Io.base_le uq;exact bodyPost_ret (v:=.agg #[.int .i64 0,.int .i64 steps2,.slice (some ⟨gv,0,none⟩) f.ak.length f.ak.length]) (by simp[results,results71,go_sem,z0,z1,z2]) rfl ⟨B8,_,rfl,.slice (some ⟨gv,0,none⟩) f.ak.length f.ak.length,by rw[ho.out];rfl,.inr ⟨gv,by rw[ho.out];simp only[Jy],qX,by rw[ho.out];exact b8⟩⟩
    | cons e4 ents4 =>
     obtain⟨cb4,vl4,vs4,c4⟩:=e4;obtain⟨k4,ut,yO,sT⟩:=AW.out;have CL:=sT.stk _ (List.mem_cons_self ..);have Eb:ents4.length<=40:=by have:=Jx;simp at this;omega
     have Jl:c4.af.length<100000000:=by simp[ff] at CL;omega
     have T7:Hid _:=yO;have T8:Hid _:=sT;clear yO sT CL;go_wp2_with fail;refine(j6 my (by omega)).mono ?_;rintro e6 w6 ⟨rfl,rfl⟩;have pG:=my.drew;go_wp2_with fail;refine(ra pG.head AX.drew Jy (by omega) Jl).mono ?_;rintro e7 w7 ⟨rfl,vs7,W7,C7⟩;obtain⟨Ua,CB⟩:=pG.step W7 C7;have Ub:=(Ay.trans ((cj.none (aE (aH _ _)) my.base_le).below)).trans CB.below;have rf:=(iv.mono ((cj.none (aE (aH _ _)) my.base_le).below)).mono CB.below;have Uc:=CB.boxes _ _ _ (by decide) (by decide) (by decide) (by decide) sS.drew;go_wp2_with fail;rw[Exit.noGoto_normal];go_wp2_with fail
     go_roundg gO
     case rel=>exact⟨⟨_,_,_,_,k4,by omega,Ua,rf,Uc,T7.out,T8.out⟩,Ub⟩
     case measure=>omega
   | some st =>
    have came:=CU fQ vN Eh.out hs sR;have bM:(c2.next:Int)<(f.ay.length:Int):=by have:=(gEs.1 hs).1;omega
    have m2:=CV.blk.cell 2;have mf2:=CV.blk.frozen 2;simp at m2;have Lg:=CV.blk.lt;have Fl:=sR.ay;have Z2:(steps2:Int)<=100000:=by omega
    have HS:Hid _:=hs;clear hs vN sR;rcases came with⟨a1,a2⟩|came
    ·have HO:Hid _:=a2;subst a1;clear a2;have Io:=CV.drew;have xW:=M4.trans HD;have nM:=gX.drew;go_wp2_with fail;go_region
     go_wp2_with fail;refine(lV Io 4).mono ?_;rintro e7 w7 ⟨rfl,rI⟩;have r7:=nM.grown rI (by simp);have x0:=r7.cell 0;have x1:=r7.cell 1;have x2:=r7.cell 2;have y0:=r7.frozen 0;have y1:=r7.frozen 1;have y2:=r7.frozen 2;simp at x0 x1 x2;have B7:=xW.trans ((cj.none rI Io.base_le).below);go_wp2_with fail;have B8:=B7.trans (iZ (w0:=w0) r7 OG (.int .i64 4) (.int .i64 steps2) (.slice none 0 0));have r8:=jq r7 (.int .i64 4) (.int .i64 steps2) (.slice none 0 0);unfold sQ at B8 r8;have z0:=r8.cell 0;have z1:=r8.cell 1;have z2:=r8.cell 2;simp at z0 z1 z2;show bodyPost prog Tryz.f71 (fun e' w'=>Below w0.heap.size w w'/\∃v,e'=Ending.returned v/\ow w0 w' v o) .ret _ _;exact bodyPost_ret (v:=.agg #[.int .i64 4,.int .i64 steps2,.slice none 0 0]) (by simp[results,results71,go_sem,z0,z1,z2]) rfl ⟨B8,_,rfl,.slice none 0 0,by rw[HO.out];try rfl,.inl ⟨rfl,by rw[HO.out]⟩⟩
    ·have Jr:steps2<aA:=by rcases came with c|c|c|c|c|c <;> exact c.1
     have bfu:((steps2:Int) == (aA:Int))=false:=beqn (by omega);have bfu0:True:=trivial;obtain⟨s3,IG⟩:∃s3,steps2+1=s3:=⟨_,rfl⟩;rw[IG] at came;have Ei:=(CV.setSteps s3 ((steps2:Int)+1) (by omega)).drew;have Ud:=(cj.set CV 2 (.int .i64 ((steps2:Int)+1))).trans (cj.none (aE (aH _ _)) (CV.setSteps s3 ((steps2:Int)+1) (by omega)).base_le);have Ej:=dq.mono Ud.below;have OH:=M4.trans Ud.below;have I5:=Ud.boxes _ _ _ (by decide) (by decide) (by decide) (by decide) gX;have OI:Hid _:=IG;clear IG;rcases came with⟨_,n0,ho⟩|⟨_,n11,hd,ho⟩|⟨_,n11,hd,f2,args,c6,k6,hZ,PT,D9,yP,yQ⟩|⟨_,n10,vals,c6,PT,uO⟩|⟨_,⟨n0,n11,n10⟩,e6,c6,yR,he,ho⟩|⟨_,⟨n0,n11,n10⟩,c6,k6,yR,D9,yP,yQ⟩
     ·have bb0:((st.aa.au:Int) == 0)=true:=by rw[n0];rfl
      have bb11:((st.aa.au:Int) == 11)=false:=by rw[n0];rfl
      have bb10:((st.aa.au:Int) == 10)=false:=by rw[n0];rfl
      have HO:Hid _:=ho;clear ho n0;have dz:=lB Ej Ei.head Eh.out HS.out;clear bfu0;go_wp2_with fail;go_region
      go_wp2_with fail;refine dz.mono ?_;clear dz;rintro e5 w5 ⟨v5,rfl,CW,W5,C5⟩;obtain⟨my,pF⟩:=Ei.step W5 C5;obtain⟨a5,cap5,Fp⟩:=CW.slice;subst Fp;have mW:w5.grownBy (iR w5 st (.slice a5 st.ah.length cap5)) none:=aC w5 _ none;have pG:=my.kept mW;have xd:cj w0 w5 (iR w5 st (.slice a5 st.ah.length cap5)):=cj.none mW my.base_le;have oQ:=(Ej.mono pF.below).mono xd.below;have AY:=(OH.trans pF.below).trans xd.below;have nP:=(pF.boxes _ _ _ (by decide) (by decide) (by decide) (by decide) I5).alloc (.cells #[.int .i64 st.aa.au,.int .i64 st.aa.ab,.int .i64 st.aa.aj,.int .i64 st.aa.of,.int .i64 st.aa.ak,.int .i64 st.index,.int .i64 st.num,.slice a5 st.ah.length cap5] 186);have yS:Blk (iR w5 st (.slice a5 st.ah.length cap5)) w5.heap.size _ 186:=Blk.new w5 _ _;clear m2 mf2 b0 b1 p1 p3;go_wp2_with fail;refine(lV pG 1).mono ?_;rintro e7 w7 ⟨rfl,rI⟩;have r7:=nP.grown rI (by simp);have x0:=r7.cell 0;have x1:=r7.cell 1;have x2:=r7.cell 2;have y0:=r7.frozen 0;have y1:=r7.frozen 1;have y2:=r7.frozen 2;simp at x0 x1 x2;have B7:=AY.trans ((cj.none rI pG.base_le).below);go_wp2_with fail;have B8:=B7.trans (iZ (w0:=w0) r7 OG (.int .i64 1) (.int .i64 s3) (.slice none 0 0));have r8:=jq r7 (.int .i64 1) (.int .i64 s3) (.slice none 0 0);unfold sQ at B8 r8;have z0:=r8.cell 0;have z1:=r8.cell 1;have z2:=r8.cell 2;simp at z0 z1 z2;show bodyPost prog Tryz.f71 (fun e' w'=>Below w0.heap.size w w'/\∃v,e'=Ending.returned v/\ow w0 w' v o) .ret _ _;exact bodyPost_ret (v:=.agg #[.int .i64 1,.int .i64 s3,.slice none 0 0]) (by simp[results,results71,go_sem,z0,z1,z2]) rfl ⟨B8,_,rfl,.slice none 0 0,by rw[HO.out];try rfl,.inl ⟨rfl,by rw[HO.out]⟩⟩
     ·have bb0:((st.aa.au:Int) == 0)=false:=by rw[n11];rfl
      have bb11:((st.aa.au:Int) == 11)=true:=by rw[n11];rfl
      have bb10:((st.aa.au:Int) == 10)=false:=by rw[n11];rfl
      have HO:Hid _:=ho;have Z3:(40:Int)<(ents1.length:Int)+1:=by simp at hd;omega
      clear ho n11 hd;have dz:=lB Ej Ei.head Eh.out HS.out;clear bfu0;go_wp2_with fail;go_region
      go_wp2_with fail;refine dz.mono ?_;clear dz;rintro e5 w5 ⟨v5,rfl,CW,W5,C5⟩;obtain⟨my,pF⟩:=Ei.step W5 C5;obtain⟨a5,cap5,Fp⟩:=CW.slice;subst Fp;have mW:w5.grownBy (iR w5 st (.slice a5 st.ah.length cap5)) none:=aC w5 _ none;have pG:=my.kept mW;have xd:cj w0 w5 (iR w5 st (.slice a5 st.ah.length cap5)):=cj.none mW my.base_le;have oQ:=(Ej.mono pF.below).mono xd.below;have AY:=(OH.trans pF.below).trans xd.below;have nP:=(pF.boxes _ _ _ (by decide) (by decide) (by decide) (by decide) I5).alloc (.cells #[.int .i64 st.aa.au,.int .i64 st.aa.ab,.int .i64 st.aa.aj,.int .i64 st.aa.of,.int .i64 st.aa.ak,.int .i64 st.index,.int .i64 st.num,.slice a5 st.ah.length cap5] 186);have yS:Blk (iR w5 st (.slice a5 st.ah.length cap5)) w5.heap.size _ 186:=Blk.new w5 _ _;clear m2 mf2 b0 b1 p1 p3;obtain⟨gc6,cap6,rfl⟩:=cu pG.calls (by simp);have q61:=my.blk.cell 1;simp at q61;have Z4:=my.blk.lt;go_wp2_with fail;refine(lV pG 5).mono ?_;rintro e7 w7 ⟨rfl,rI⟩;have r7:=nP.grown rI (by simp);have x0:=r7.cell 0;have x1:=r7.cell 1;have x2:=r7.cell 2;have y0:=r7.frozen 0;have y1:=r7.frozen 1;have y2:=r7.frozen 2;simp at x0 x1 x2;have B7:=AY.trans ((cj.none rI pG.base_le).below);go_wp2_with fail;have B8:=B7.trans (iZ (w0:=w0) r7 OG (.int .i64 5) (.int .i64 s3) (.slice none 0 0));have r8:=jq r7 (.int .i64 5) (.int .i64 s3) (.slice none 0 0);unfold sQ at B8 r8;have z0:=r8.cell 0;have z1:=r8.cell 1;have z2:=r8.cell 2;simp at z0 z1 z2;show bodyPost prog Tryz.f71 (fun e' w'=>Below w0.heap.size w w'/\∃v,e'=Ending.returned v/\ow w0 w' v o) .ret _ _;exact bodyPost_ret (v:=.agg #[.int .i64 5,.int .i64 s3,.slice none 0 0]) (by simp[results,results71,go_sem,z0,z1,z2]) rfl ⟨B8,_,rfl,.slice none 0 0,by rw[HO.out];try rfl,.inl ⟨rfl,by rw[HO.out]⟩⟩
     ·have bb0:((st.aa.au:Int) == 0)=false:=by rw[n11];rfl
      have bb11:((st.aa.au:Int) == 11)=true:=by rw[n11];rfl
      have bb10:((st.aa.au:Int) == 10)=false:=by rw[n11];rfl
      have Z3:(ents1.length:Int)+1<=40:=by simp at hd;omega
      have XA:ents1.length+1<=40:=by omega
      have BL:=(fQ.2 f2 (gMo hZ)).1;have nN:Hid _:=hZ;have Z5:Hid _:=PT;have Ue:Hid _:=yP;have Uf:Hid _:=yQ;clear n11 hd hZ PT yP yQ;have dz:=lB Ej Ei.head Eh.out HS.out;clear bfu0;go_wp2_with fail;go_region
      go_wp2_with fail;refine dz.mono ?_;clear dz;rintro e5 w5 ⟨v5,rfl,CW,W5,C5⟩;obtain⟨my,pF⟩:=Ei.step W5 C5;obtain⟨a5,cap5,Fp⟩:=CW.slice;subst Fp;have mW:w5.grownBy (iR w5 st (.slice a5 st.ah.length cap5)) none:=aC w5 _ none;have pG:=my.kept mW;have xd:cj w0 w5 (iR w5 st (.slice a5 st.ah.length cap5)):=cj.none mW my.base_le;have oQ:=(Ej.mono pF.below).mono xd.below;have AY:=(OH.trans pF.below).trans xd.below;have nP:=(pF.boxes _ _ _ (by decide) (by decide) (by decide) (by decide) I5).alloc (.cells #[.int .i64 st.aa.au,.int .i64 st.aa.ab,.int .i64 st.aa.aj,.int .i64 st.aa.of,.int .i64 st.aa.ak,.int .i64 st.index,.int .i64 st.num,.slice a5 st.ah.length cap5] 186);have yS:Blk (iR w5 st (.slice a5 st.ah.length cap5)) w5.heap.size _ 186:=Blk.new w5 _ _;clear m2 mf2 b0 b1 p1 p3;obtain⟨gc6,cap6,rfl⟩:=cu pG.calls (by simp);have q61:=my.blk.cell 1;simp at q61;have Z4:=my.blk.lt;have Io:=pG.drew;have PR:=oQ.mono ((cj.none (aE (aH _ _)) pG.base_le).below);have xW:=AY.trans ((cj.none (aE (aH _ _)) pG.base_le).below);have nM:=nP.drew;have vO:=yS.drew;have z5:=yS.cell 5;simp at z5;go_upto_region 13 with fail
      go_region_with (first
       | (go_at_call 87;refine(AV PR Io nN.out).mono ?_;rintro e8 w8 ⟨rfl,rfl⟩)
       | (go_at_call 86;refine(oN Io.head Z5.out (by omega) (by show c2.af.length<=_;omega)).mono ?_;rintro e8 w8 ⟨gv,vs8,rfl,uq,M6,Jy,Z6,W8,C8⟩;obtain⟨OJ,xU⟩:=Io.step W8 C8;have xo:=xU.boxes _ _ _ (by decide) (by decide) (by decide) (by decide) vO;have z8:=xo.cell 5;simp at z8)
       | (go_at_call 70;refine(sP (PR.mono xU.below) OJ nN.out Jy (fun _=>⟨⟨gv,0,none⟩,rfl,fun j v hj=>by rw[cJ,Nat.zero_add,M6.cell];simpa using hj⟩) (by simp;omega)).mono ?_;rintro e9 w9 ⟨rfl,Ll,vc9,cb9,vl9,Z7,Z8⟩))
      all_goals
       go_wp2_with fail;have Z9:=(xW.trans xU.below).trans Ll.below;have rh:=(PR.mono xU.below).mono Ll.below;have M7:=Ll.boxes _ _ _ (by decide) (by decide) (by decide) (by decide) (xU.boxes _ _ _ (by decide) (by decide) (by decide) (by decide) nM);try rw[Exit.noGoto_exit]
       try go_wp2_with fail
       go_roundg gO
       case rel=>exact⟨⟨_,_,_,_,k6,by omega,Z8,rh,M7,Ue.out,Uf.out⟩,Z9⟩
       case measure=>omega
     ·have bb0:((st.aa.au:Int) == 0)=false:=by rw[n10];rfl
      have bb11:((st.aa.au:Int) == 11)=false:=by rw[n10];rfl
      have bb10:((st.aa.au:Int) == 10)=true:=by rw[n10];rfl
      have M5:Hid _:=PT;have AW:Hid _:=uO;clear n10 PT uO;have dz:=lB Ej Ei.head Eh.out HS.out;clear bfu0;go_wp2_with fail;go_region
      go_wp2_with fail;refine dz.mono ?_;clear dz;rintro e5 w5 ⟨v5,rfl,CW,W5,C5⟩;obtain⟨my,pF⟩:=Ei.step W5 C5;obtain⟨a5,cap5,Fp⟩:=CW.slice;subst Fp;have mW:w5.grownBy (iR w5 st (.slice a5 st.ah.length cap5)) none:=aC w5 _ none;have pG:=my.kept mW;have xd:cj w0 w5 (iR w5 st (.slice a5 st.ah.length cap5)):=cj.none mW my.base_le;have oQ:=(Ej.mono pF.below).mono xd.below;have AY:=(OH.trans pF.below).trans xd.below;have nP:=(pF.boxes _ _ _ (by decide) (by decide) (by decide) (by decide) I5).alloc (.cells #[.int .i64 st.aa.au,.int .i64 st.aa.ab,.int .i64 st.aa.aj,.int .i64 st.aa.of,.int .i64 st.aa.ak,.int .i64 st.index,.int .i64 st.num,.slice a5 st.ah.length cap5] 186);have yS:Blk (iR w5 st (.slice a5 st.ah.length cap5)) w5.heap.size _ 186:=Blk.new w5 _ _;clear m2 mf2 b0 b1 p1 p3;obtain⟨at1',ct1',at2',ct2',ap',cp',R6⟩:=oQ.read Eh.out;have p61:=R6.c1;have b60:=pG.head.blk.cell 0;simp at b60;have aaa:=pG;go_wp2_with fail;refine(oN pG.head M5.out (by omega) (by show c2.af.length<=_;omega)).mono ?_;rintro e3 w3 ⟨gv,vs3,rfl,uq,M6,Jy,Fm,W3,C3⟩;obtain⟨xn,Jz⟩:=pG.step W3 C3;have et:=oQ.mono Jz.below;have EF:=AY.trans Jz.below;have mC:=Jz.boxes _ _ _ (by decide) (by decide) (by decide) (by decide) nP;obtain⟨gc,cap3,rfl⟩:=cu xn.calls (by simp);have q1:=xn.blk.cell 1;have qf:=xn.blk.frozen 1;simp at q1;have T3:=xn.blk.lt;have PS:ents1.length+1<=cap3:=by obtain⟨_,_,_,hh⟩:=dF xn.calls;simpa using hh
      have e31:((ents1.length:Int)+1)-1=(ents1.length:Int):=by omega
      have JA:=xn.pop;have JB:=cj.set xn 1 (.slice (some ⟨gc,0,none⟩) ents1.length cap3);have Fo:=aF (aD w3 q 1 (.slice (some ⟨gc,0,none⟩) ents1.length cap3)) xn.blk M6 (by decide);have dU:w3.grownBy (w3.setCell ⟨q,1,none⟩ (.slice (some ⟨gc,0,none⟩) ents1.length cap3)) (some q):=aD _ _ _ _;have JC:(ents1.length:Int)+1<=(cap3:Int):=by omega
      clear dU;go_wp2_with fail;go_region
      have my:=JA.drew;have iv:=(et.mono JB.below).mono ((cj.none (aE (aH _ _)) JA.base_le).below);have Ay:=(EF.trans JB.below).trans ((cj.none (aE (aH _ _)) JA.base_le).below);have sS:=(JB.boxes _ _ _ (by decide) (by decide) (by decide) (by decide) mC).drew;have AX:=Fo.drew;obtain⟨W5,pF⟩:∃W5,(w3.setCell ⟨q,1,none⟩ (.slice (some ⟨gc,0,none⟩) ents1.length cap3)).drew=W5:=⟨_,rfl⟩;rw[pF] at my iv Ay sS AX ⊢;clear pF JA JB Fo q1 qf xn et EF mC M6 C3 W3 Jz;have q5:=my.blk.cell 1;have q6:=my.blk.cell 2;simp at q5 q6;cases ents1 with
      | nil =>
       have ho:Hid (o=⟨0,s3,vals⟩):=AW.out;have x0:=sS.cell 0;have x1:=sS.cell 1;have x2:=sS.cell 2;have y0:=sS.frozen 0;have y1:=sS.frozen 1;have y2:=sS.frozen 2;simp at x0 x1 x2 q5;go_wp2_with fail;have B8:=Ay.trans (iZ (w0:=w0) sS OG (.int .i64 0) (.int .i64 s3) (.slice (some ⟨gv,0,none⟩) f.ak.length f.ak.length));have r8:=jq sS (.int .i64 0) (.int .i64 s3) (.slice (some ⟨gv,0,none⟩) f.ak.length f.ak.length);have b8:=aF (ii W5 w.heap.size (.int .i64 0) (.int .i64 s3) (.slice (some ⟨gv,0,none⟩) f.ak.length f.ak.length)) sS AX (by decide);unfold sQ at B8 r8 b8;have z0:=r8.cell 0;have z1:=r8.cell 1;have z2:=r8.cell 2;simp at z0 z1 z2;show bodyPost prog Tryz.f71 (fun e' w'=>Below w0.heap.size w w'/\∃v,e'=Ending.returned v/\ow w0 w' v o) .ret _ _;have qX:w0.heap.size<=gv:=Nat.le_trans pG.base_le uq;exact bodyPost_ret (v:=.agg #[.int .i64 0,.int .i64 s3,.slice (some ⟨gv,0,none⟩) f.ak.length f.ak.length]) (by simp[results,results71,go_sem,z0,z1,z2]) rfl ⟨B8,_,rfl,.slice (some ⟨gv,0,none⟩) f.ak.length f.ak.length,by rw[ho.out];rfl,.inr ⟨gv,by rw[ho.out];simp only[Jy],qX,by rw[ho.out];exact b8⟩⟩
      | cons e4 ents4 =>
       obtain⟨cb4,vl4,vs4,c4⟩:=e4;obtain⟨k4,ut,yO,sT⟩:=AW.out;have CL:=sT.stk _ (List.mem_cons_self ..);have Eb:ents4.length<=40:=by have:=Jx;simp at this;omega
       have Jl:c4.af.length<100000000:=by simp[ff] at CL;omega
       have T7:Hid _:=yO;have T8:Hid _:=sT;clear yO sT CL;go_wp2_with fail;refine(j6 my (by omega)).mono ?_;rintro e6 w6 ⟨rfl,rfl⟩;have pG:=my.drew;go_wp2_with fail;refine(ra pG.head AX.drew Jy (by omega) Jl).mono ?_;rintro e7 w7 ⟨rfl,vs7,W7,C7⟩;obtain⟨Ua,CB⟩:=pG.step W7 C7;have Ub:=(Ay.trans ((cj.none (aE (aH _ _)) my.base_le).below)).trans CB.below;have rf:=(iv.mono ((cj.none (aE (aH _ _)) my.base_le).below)).mono CB.below;have Uc:=CB.boxes _ _ _ (by decide) (by decide) (by decide) (by decide) sS.drew;go_wp2_with fail;rw[Exit.noGoto_normal];go_wp2_with fail
       go_roundg gO
       case rel=>exact⟨⟨_,_,_,_,k4,by omega,Ua,rf,Uc,T7.out,T8.out⟩,Ub⟩
       case measure=>omega
     ·have bb0:((st.aa.au:Int) == 0)=false:=beqn (by omega);have bb11:((st.aa.au:Int) == 11)=false:=beqn (by omega);have bb10:((st.aa.au:Int) == 10)=false:=beqn (by omega);have HO:Hid _:=ho;have Ug:Hid _:=yR;have be:((e6:Int) == 0)=false:=beqn (by omega);have Ii:=(fQ.2 f (gMo Eh.out)).2.2.2.2 st (gMo HS.out);clear ho yR he n0 n11 n10;have dz:=lB Ej Ei.head Eh.out HS.out;clear bfu0;go_wp2_with fail;go_region
      go_wp2_with fail;refine dz.mono ?_;clear dz;rintro e5 w5 ⟨v5,rfl,CW,W5,C5⟩;obtain⟨my,pF⟩:=Ei.step W5 C5;obtain⟨a5,cap5,Fp⟩:=CW.slice;subst Fp;have mW:w5.grownBy (iR w5 st (.slice a5 st.ah.length cap5)) none:=aC w5 _ none;have pG:=my.kept mW;have xd:cj w0 w5 (iR w5 st (.slice a5 st.ah.length cap5)):=cj.none mW my.base_le;have oQ:=(Ej.mono pF.below).mono xd.below;have AY:=(OH.trans pF.below).trans xd.below;have nP:=(pF.boxes _ _ _ (by decide) (by decide) (by decide) (by decide) I5).alloc (.cells #[.int .i64 st.aa.au,.int .i64 st.aa.ab,.int .i64 st.aa.aj,.int .i64 st.aa.of,.int .i64 st.aa.ak,.int .i64 st.index,.int .i64 st.num,.slice a5 st.ah.length cap5] 186);have yS:Blk (iR w5 st (.slice a5 st.ah.length cap5)) w5.heap.size _ 186:=Blk.new w5 _ _;clear m2 mf2 b0 b1 p1 p3;have y0:=yS.cell 0;go_wp2_with fail;refine(BW oQ.below pG.head st CW Ug.out (by show c2.af.length<_;omega) Ii Lj).mono ?_;rintro e8 w8 ⟨rfl,vs8,W8,C8⟩;obtain⟨OJ,xU⟩:=pG.step W8 C8;have Uh:=AY.trans xU.below;have Ui:=xU.boxes _ _ _ (by decide) (by decide) (by decide) (by decide) nP;go_wp2_with fail;refine(lV OJ e6).mono ?_;rintro e7 w7 ⟨rfl,rI⟩;have r7:=Ui.grown rI (by simp);have x0:=r7.cell 0;have x1:=r7.cell 1;have x2:=r7.cell 2;have y0:=r7.frozen 0;have y1:=r7.frozen 1;have y2:=r7.frozen 2;simp at x0 x1 x2;have B7:=Uh.trans ((cj.none rI OJ.base_le).below);go_wp2_with fail;have B8:=B7.trans (iZ (w0:=w0) r7 OG (.int .i64 (e6:Int)) (.int .i64 s3) (.slice none 0 0));have r8:=jq r7 (.int .i64 (e6:Int)) (.int .i64 s3) (.slice none 0 0);unfold sQ at B8 r8;have z0:=r8.cell 0;have z1:=r8.cell 1;have z2:=r8.cell 2;simp at z0 z1 z2;show bodyPost prog Tryz.f71 (fun e' w'=>Below w0.heap.size w w'/\∃v,e'=Ending.returned v/\ow w0 w' v o) .ret _ _;exact bodyPost_ret (v:=.agg #[.int .i64 e6,.int .i64 s3,.slice none 0 0]) (by simp[results,results71,go_sem,z0,z1,z2]) rfl ⟨B8,_,rfl,.slice none 0 0,by rw[HO.out];try rfl,.inl ⟨rfl,by rw[HO.out]⟩⟩
     ·have Ug:Hid _:=yR;have Ue:Hid _:=yP;have Uf:Hid _:=yQ;have Ii:=(fQ.2 f (gMo Eh.out)).2.2.2.2 st (gMo HS.out);have bb0:((st.aa.au:Int) == 0)=false:=beqn (by omega);have bb11:((st.aa.au:Int) == 11)=false:=beqn (by omega);have bb10:((st.aa.au:Int) == 10)=false:=beqn (by omega);clear yR yP yQ n0 n11 n10;have dz:=lB Ej Ei.head Eh.out HS.out;clear bfu0;go_wp2_with fail;go_region
      go_wp2_with fail;refine dz.mono ?_;clear dz;rintro e5 w5 ⟨v5,rfl,CW,W5,C5⟩;obtain⟨my,pF⟩:=Ei.step W5 C5;obtain⟨a5,cap5,Fp⟩:=CW.slice;subst Fp;have mW:w5.grownBy (iR w5 st (.slice a5 st.ah.length cap5)) none:=aC w5 _ none;have pG:=my.kept mW;have xd:cj w0 w5 (iR w5 st (.slice a5 st.ah.length cap5)):=cj.none mW my.base_le;have oQ:=(Ej.mono pF.below).mono xd.below;have AY:=(OH.trans pF.below).trans xd.below;have nP:=(pF.boxes _ _ _ (by decide) (by decide) (by decide) (by decide) I5).alloc (.cells #[.int .i64 st.aa.au,.int .i64 st.aa.ab,.int .i64 st.aa.aj,.int .i64 st.aa.of,.int .i64 st.aa.ak,.int .i64 st.index,.int .i64 st.num,.slice a5 st.ah.length cap5] 186);have yS:Blk (iR w5 st (.slice a5 st.ah.length cap5)) w5.heap.size _ 186:=Blk.new w5 _ _;clear m2 mf2 b0 b1 p1 p3;go_wp2_with fail;refine(BW oQ.below pG.head st CW Ug.out (by show c2.af.length<_;omega) Ii Lj).mono ?_;rintro e8 w8 ⟨rfl,vs8,W8,C8⟩;obtain⟨OJ,xU⟩:=pG.step W8 C8;have Uh:=AY.trans xU.below;have sU:=oQ.mono xU.below;have Ui:=xU.boxes _ _ _ (by decide) (by decide) (by decide) (by decide) nP;go_wp2_with fail
      go_roundg gI
      case rel=>exact⟨⟨_,_,_,_,k6,by omega,by omega,OJ,sU,Ui,Ue.out,Uf.out⟩,Uh⟩
      case measure=>omega
end
