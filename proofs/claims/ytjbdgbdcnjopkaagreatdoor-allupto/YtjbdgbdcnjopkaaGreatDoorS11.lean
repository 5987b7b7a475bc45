import Derived.Test.YtjbdgbdcnjopkaaGreatDoorS10
namespace Go.Proofs.YtjbdgbdcnjopkaaGreatDoor
open Go.RowKit Tryz
set_option linter.all false
set_option maxRecDepth 100000
set_option maxHeartbeats 4000000
section
variable {az l:Nat}{vm vloc:Value}{tb:List Nat}{ar:Nat}{vs vf vp:Value}{w:World}{s:LSt}{m:bf}{ai:List Nat}
theorem qp(h:LR az l vm vloc tb ar vs vf vp w s)(hm:dK az w vm m)(fQ:fM m){v:Value}{st:aX}(hv:ef w v st)(hi:0<s.ae.length)(hn:s.af.length<=80000){g:Nat}(hg:st.idx.head?=some g)(iB:g<m.sigs.length)(aN:st.aa.au=2\/st.aa.au=3\/st.aa.au=4):Calls prog 134 #[.pointer (some ⟨l,0,none⟩),v] w fun e w'=>bc az w w'/\fh (de ar m.sigs s st) (fun r e w'=>e=.returned (.tuple #[])/\∃tb',iQ az l vm vloc tb' ar w' r) e w':=by
 obtain⟨b,gs,gf,cs,cf,rfl,iW,df,kv,m0,m1,qa,oJ,Ag,D7⟩:=hm.parts;obtain⟨ok1,ok2,ok3,ok4⟩:=fQ;obtain⟨vt,vg,y0,y1,it,ig⟩:=Ag g iB;obtain⟨at1,nt1,ct1,rfl⟩:=it.isSlice;obtain⟨at2,nt2,ct2,rfl⟩:=ig.isSlice;obtain⟨sl1,sl2,st1,st2⟩:=ok4 m.sigs[g] (ajw iB);obtain⟨a,n,c,rfl,jE⟩:=hv;have aQ:0<st.idx.length:=by cases hq:st.idx with
  |nil=>rw[hq]at hg;simp at hg
  |cons a l=>simp
 obtain⟨gi,rfl,To,MG⟩:=jE.get aQ;have rP:=jE.len;subst rP;have xf:st.idx[0]=g:=by have xg:=hg;rw[List.head?_eq_getElem?,gEg aQ]at xg;exact Option.some.inj xg
 rw[xf]at MG;obtain⟨sg,iD⟩:=aja (m.sigs[g]);rw[iD]at it ig sl1 sl2 st1 st2;have hC:Hid (de ar m.sigs s st=if 12<s.ae.length then .error (6,ar) else bnd (if st.aa.au=4 then bnd (bD ar s 1) fun r=>.ok r.2 else .ok s) fun s0=>
  bnd (bw ar s0 sg.1.reverse) fun s1=>.ok (bE (dg s1 st.aa.au sg) sg.1)):=by
  show _=_;have hh:st.idx.headD 0=g:=by
   cases hq:st.idx with
   |nil=>rw[hq]at hg;simp at hg
   |cons a l=>rw[hq]at hg;simp at hg;subst hg;rfl
  simp only[de,hh,gEg iB,iD]
 have hB:=h.base_le;have c0:=h.blk.cell 0;have c3:=h.blk.cell 3;simp at c0 c3;have I2:=h.blk.lt;obtain⟨cf0,yA,_⟩:=h.frm;obtain⟨fa,fcap,rfl,yz,_⟩:=aG yA;have k1:w.cell? ⟨gs,g*2,none⟩=some (.slice at1 nt1 ct1):=by rw[qa.cell,ajC];exact y0
 have k2:w.cell? ⟨gs,g*2+1,none⟩=some (.slice at2 nt2 ct2):=by rw[qa.cell,ajC];exact y1
 have i2:(g:Int)<(m.sigs.length:Int):=by omega
 have i4:(m.sigs.length:Int)<=20:=by omega
 have i5:(0:Int)<(st.idx.length:Int):=by omega
 have dU:=qa.lt;have yr:b<w.heap.size:=by omega
 have dW:=aC w (.cells #[.int .i64 st.aa.au,.int .i64 st.aa.ab,.int .i64 st.aa.aj,.int .i64 st.aa.of,.int .i64 st.aa.ak,.slice (some ⟨gi,0,none⟩) st.idx.length c,.int .i64 st.num,.int .i64 st.next] 202) none;have Ty:Blk (w.alloc (.cells #[.int .i64 st.aa.au,.int .i64 st.aa.ab,.int .i64 st.aa.aj,.int .i64 st.aa.of,.int .i64 st.aa.ak,.slice (some ⟨gi,0,none⟩) st.idx.length c,.int .i64 st.num,.int .i64 st.next] 202)) w.heap.size #[.int .i64 st.aa.au,.int .i64 st.aa.ab,.int .i64 st.aa.aj,.int .i64 st.aa.of,.int .i64 st.aa.ak,.slice (some ⟨gi,0,none⟩) st.idx.length c,.int .i64 st.num,.int .i64 st.next] 202:=Blk.new _ _ _;have ZA:b<(w.alloc (.cells #[.int .i64 st.aa.au,.int .i64 st.aa.ab,.int .i64 st.aa.aj,.int .i64 st.aa.of,.int .i64 st.aa.ak,.slice (some ⟨gi,0,none⟩) st.idx.length c,.int .i64 st.num,.int .i64 st.next] 202)).heap.size:=by simp;omega
 have HFX:Hid _:=qa;clear xf iD y0 y1 Ag D7 ok1 ok2 ok3 ok4 qa oJ m1 jE yA yz hg;by_cases qZ:12<s.ae.length
 ·have e1:((s.ae.length:Int) > 12)=True:=by simp;omega
  have d1:(12:Int)<(s.ae.length:Int):=by omega
  have hr:Hid (de ar m.sigs s st=.error (6,ar)):=by show _=_;rw[hC.out,ajd qZ]
  clear hC qZ;go_enter func134,ntmps134;go_wp2_with (go_at_call 100;refine(ed (h.kept dW) 6).mono ?_;rintro e w5 ⟨rfl,rfl⟩)
  exact⟨rfl,bc.none dW hB,aK hr.out rfl⟩
 have d1:¬(12:Int)<(s.ae.length:Int):=by omega
 have fc:=hC.out;rw[ajc qZ]at fc;have Ms:s.ae.length<=12:=by omega
 have us:w.grownBy ((w.alloc (.cells #[.int .i64 st.aa.au,.int .i64 st.aa.ab,.int .i64 st.aa.aj,.int .i64 st.aa.of,.int .i64 st.aa.ak,.slice (some ⟨gi,0,none⟩) st.idx.length c,.int .i64 st.num,.int .i64 st.next] 202)).alloc (.cells #[.slice at1 nt1 ct1,.slice at2 nt2 ct2] 107)).drew none:=aE (aB dW (aC _ _ _));have L0:=h.kept us;have kd:=bc.none us hB;have I6:Blk ((w.alloc (.cells #[.int .i64 st.aa.au,.int .i64 st.aa.ab,.int .i64 st.aa.aj,.int .i64 st.aa.of,.int .i64 st.aa.ak,.slice (some ⟨gi,0,none⟩) st.idx.length c,.int .i64 st.num,.int .i64 st.next] 202)).alloc (.cells #[.slice at1 nt1 ct1,.slice at2 nt2 ct2] 107)).drew w.heap.size #[.int .i64 st.aa.au,.int .i64 st.aa.ab,.int .i64 st.aa.aj,.int .i64 st.aa.of,.int .i64 st.aa.ak,.slice (some ⟨gi,0,none⟩) st.idx.length c,.int .i64 st.num,.int .i64 st.next] 202:=(Ty.alloc _).drew;have I7:Blk ((w.alloc (.cells #[.int .i64 st.aa.au,.int .i64 st.aa.ab,.int .i64 st.aa.aj,.int .i64 st.aa.of,.int .i64 st.aa.ak,.slice (some ⟨gi,0,none⟩) st.idx.length c,.int .i64 st.num,.int .i64 st.next] 202)).alloc (.cells #[.slice at1 nt1 ct1,.slice at2 nt2 ct2] 107)).drew (w.heap.size+1) #[.slice at1 nt1 ct1,.slice at2 nt2 ct2] 107:=by have:=Blk.new (w.alloc (.cells #[.int .i64 st.aa.au,.int .i64 st.aa.ab,.int .i64 st.aa.aj,.int .i64 st.aa.of,.int .i64 st.aa.ak,.slice (some ⟨gi,0,none⟩) st.idx.length c,.int .i64 st.num,.int .i64 st.next] 202)) #[.slice at1 nt1 ct1,.slice at2 nt2 ct2] 107;rw[ajz]at this;exact this.drew
 obtain⟨nm,dL⟩:=aja st.aa.au;rw[dL]at L0 kd I6 I7 fc aN ⊢;clear hC qZ;have cases3:nm=4\/nm=2\/nm=3:=by omega
 clear aN;rcases cases3 with rfl|rfl|rfl
 ·have gz:Hid (de ar m.sigs s st=bnd (bD ar s 1) fun r=>bnd (bw ar r.2 sg.1.reverse) fun s1=>.ok (bE (dg s1 4 sg) sg.1)):=by show _=_;rw[fc,ajd rfl];cases bD ar s 1 <;> rfl
  have HN:Hid _:=dL;clear fc dL;go_enter func134,ntmps134;go_wp2_with fail;go_region
  go_wp2_with fail;refine(dJ L0 hi 1 (by omega)).mono ?_;rintro e w1 ⟨eZ,up⟩;have W1:=kd.trans (L0.went eZ);have Pq:=I6.grown eZ (by simp;omega);have KY:=I7.grown eZ (by simp;omega);have v1:=KY.cell 0;simp at v1;cases hy:bD ar s 1 with
  |error er=>
   cases up.err hy;have hr:Hid (de ar m.sigs s st=.error er):=by show _=_;rw[gz.out,hy];rfl
   go_wp2_with fail;exact⟨rfl,W1,aK hr.out rfl⟩
  |ok r1=>
   obtain⟨rfl,vs1,L1⟩:=up.ok hy;have AH:=iC hy;have OC:0<r1.2.ae.length:=by rw[AH];exact hi
   have MJ:¬12<r1.2.ae.length:=by rw[AH];omega
   have MK:r1.2.af.length<=s.af.length:=by
    have q:bw ar s [1]=.ok r1.2:=by simp[bw,hy]
    exact eQ _ q
   have xX:Hid (de ar m.sigs s st=bnd (bw ar r1.2 sg.1.reverse) fun s1=>.ok (bE (dg s1 4 sg) sg.1)):=by show _=_;rw[gz.out,hy];rfl
   clear up gz AH;have gz:Hid _:=xX;clear xX;go_wp2_with fail;refine(dk L1 OC (it.kept W1.below) sl1 st1).mono ?_;rintro e w2 ⟨aP,cO⟩;have W2:=W1.trans (L1.went aP);have EP:=Pq.grown aP (by simp;omega);have sH:=KY.grown aP (by simp;omega);have x0:=EP.cell 0;have x1:=sH.cell 0;have x2:=sH.cell 1;simp at x0 x1 x2;cases hx:bw ar r1.2 sg.1.reverse with
   |error er=>
    cases cO.err hx;have hr:Hid (de ar m.sigs s st=.error er):=by show _=_;rw[gz.out,hx];rfl
    go_wp2_with fail;exact⟨rfl,W2,aK hr.out rfl⟩
   |ok r=>
    obtain⟨rfl,vs2,L2⟩:=cO.ok hx;have I8:=eQ _ hx;obtain⟨kJ,_,_⟩:=eh _ hx;have hr:Hid (de ar m.sigs s st=.ok (bE (dg r 4 sg) sg.1)):=by show _=_;rw[gz.out,hx];rfl
    have AI:r.ae.length<20:=by rw[kJ];skip;omega
    have R1:(dg r 4 sg).af.length=r.af.length:=rfl;clear cO gz kJ;go_wp2_with (first
     | (go_at_call 99;refine(pz L2 (it.kept W2.below) (ig.kept W2.below) 4 (by omega) AI (by omega) (by omega)).mono ?_;rintro e w3 ⟨rfl,W3,lj,b3,vs3,vf3,vp3,L3⟩;have ER:=lj _ _ _ (by decide) (by decide) sH;have u1:=ER.cell 0;simp at u1)
     | (go_at_call 161;refine(eK L3 (it.kept (W2.trans W3).below) sl1 (by omega)).mono ?_;rintro e w4 ⟨rfl,W4,L4⟩))
    go_end0;exact⟨(W2.trans W3).trans W4,aY hr.out ⟨rfl,_,L4⟩⟩
 ·have gz:Hid (de ar m.sigs s st=bnd (bw ar s sg.1.reverse) fun s1=>.ok (bE (dg s1 2 sg) sg.1)):=by show _=_;rw[fc,ajc (by omega)];rfl
  have HN:Hid _:=dL;clear fc dL;go_enter func134,ntmps134;go_wp2_with fail;go_region
  go_wp2_with fail;refine(dk L0 hi (it.kept kd.below) sl1 st1).mono ?_;rintro e w2 ⟨aP,cO⟩;have W2:=kd.trans (L0.went aP);have EP:=I6.grown aP (by simp;omega);have sH:=I7.grown aP (by simp;omega);have x0:=EP.cell 0;have x1:=sH.cell 0;have x2:=sH.cell 1;simp at x0 x1 x2;cases hx:bw ar s sg.1.reverse with
  |error er=>
   cases cO.err hx;have hr:Hid (de ar m.sigs s st=.error er):=by show _=_;rw[gz.out,hx];rfl
   go_wp2_with fail;exact⟨rfl,W2,aK hr.out rfl⟩
  |ok r=>
   obtain⟨rfl,vs2,L2⟩:=cO.ok hx;have I8:=eQ _ hx;obtain⟨kJ,_,_⟩:=eh _ hx;have hr:Hid (de ar m.sigs s st=.ok (bE (dg r 2 sg) sg.1)):=by show _=_;rw[gz.out,hx];rfl
   have AI:r.ae.length<20:=by rw[kJ];skip;omega
   have R1:(dg r 2 sg).af.length=r.af.length:=rfl;clear cO gz kJ;go_wp2_with (first
    | (go_at_call 99;refine(pz L2 (it.kept W2.below) (ig.kept W2.below) 2 (by omega) AI (by omega) (by omega)).mono ?_;rintro e w3 ⟨rfl,W3,lj,b3,vs3,vf3,vp3,L3⟩;have ER:=lj _ _ _ (by decide) (by decide) sH;have u1:=ER.cell 0;simp at u1)
    | (go_at_call 161;refine(eK L3 (it.kept (W2.trans W3).below) sl1 (by omega)).mono ?_;rintro e w4 ⟨rfl,W4,L4⟩))
   go_end0;exact⟨(W2.trans W3).trans W4,aY hr.out ⟨rfl,_,L4⟩⟩
 have gz:Hid (de ar m.sigs s st=bnd (bw ar s sg.1.reverse) fun s1=>.ok (bE (dg s1 3 sg) sg.1)):=by show _=_;rw[fc,ajc (by omega)];rfl
 have HN:Hid _:=dL;clear fc dL;go_enter func134,ntmps134;go_wp2_with fail;go_region
 go_wp2_with fail;refine(dk L0 hi (it.kept kd.below) sl1 st1).mono ?_;rintro e w2 ⟨aP,cO⟩;have W2:=kd.trans (L0.went aP);have EP:=I6.grown aP (by simp;omega);have sH:=I7.grown aP (by simp;omega);have x0:=EP.cell 0;have x1:=sH.cell 0;have x2:=sH.cell 1;simp at x0 x1 x2;cases hx:bw ar s sg.1.reverse with
 |error er=>
  cases cO.err hx;have hr:Hid (de ar m.sigs s st=.error er):=by show _=_;rw[gz.out,hx];rfl
  go_wp2_with fail;exact⟨rfl,W2,aK hr.out rfl⟩
 |ok r=>
  obtain⟨rfl,vs2,L2⟩:=cO.ok hx;have I8:=eQ _ hx;obtain⟨kJ,_,_⟩:=eh _ hx;have hr:Hid (de ar m.sigs s st=.ok (bE (dg r 3 sg) sg.1)):=by show _=_;rw[gz.out,hx];rfl
  have AI:r.ae.length<20:=by rw[kJ];skip;omega
  have R1:(dg r 3 sg).af.length=r.af.length:=rfl;clear cO gz kJ;go_wp2_with (first
   | (go_at_call 99;refine(pz L2 (it.kept W2.below) (ig.kept W2.below) 3 (by omega) AI (by omega) (by omega)).mono ?_;rintro e w3 ⟨rfl,W3,lj,b3,vs3,vf3,vp3,L3⟩;have ER:=lj _ _ _ (by decide) (by decide) sH;have u1:=ER.cell 0;simp at u1)
   | (go_at_call 161;refine(eK L3 (it.kept (W2.trans W3).below) sl1 (by omega)).mono ?_;rintro e w4 ⟨rfl,W4,L4⟩))
  go_end0;exact⟨(W2.trans W3).trans W4,aY hr.out ⟨rfl,_,L4⟩⟩
end
def dG(az:Nat)(w:World)(v:Value)(xs:List Nat):Prop:=(v=.slice none 0 0/\xs=[])\/bO az w v xs
theorem dG.kept{az:Nat}{w w':World}{v:Value}{xs:List Nat}(h:dG az w v xs)(k:Below az w w'):dG az w' v xs:=by
 rcases h with h|h
 ·exact .inl h
 exact .inr (h.kept k)
theorem dG.slice{az:Nat}{w:World}{v:Value}{xs:List Nat}(h:dG az w v xs):∃a c,v=.slice a xs.length c:=by
 rcases h with⟨rfl,rfl⟩|⟨g,cap,c,rfl,_⟩
 ·exact⟨_,_,rfl⟩
 exact⟨_,_,rfl⟩
theorem dG.some{az:Nat}{w:World}{v:Value}{xs:List Nat}(h:dG az w v xs)(hx:0<xs.length):bO az w v xs:=by
 rcases h with⟨rfl,rfl⟩|h
 ·simp at hx
 exact h
section
variable {az l:Nat}{vm vloc:Value}{tb:List Nat}{ar:Nat}{vs vf vp:Value}{w:World}{s:LSt}{m:bf}{ai:List Nat}
theorem ES(h:LR az l vm vloc tb ar vs vf vp w s)(hm:dK az w vm m)(hl:dG az w vloc ai)(what:Nat)(hw:what<=7):Calls prog 132 #[.pointer (some ⟨l,0,none⟩),.int .i64 what] w fun e w'=>e=.returned (.int .i64 (dI m ai s what))/\w'=w:=by
 obtain⟨b,gs,gf,cs,cf,rfl,_,_,_,m0,m1,_⟩:=hm.parts;obtain⟨gl,capl,rfl⟩:=hl.slice;obtain⟨cfr,ie,hZ⟩:=h.frm;obtain⟨fa,fcap,rfl,_,_⟩:=aG ie;have c0:=h.blk.cell 0;have c1:=h.blk.cell 1;have c3:=h.blk.cell 3;simp at c0 c1 c3;by_cases h1:what=1
 ·subst h1;go_enter func132,ntmps132;go_wp2;go_ret;exact⟨rfl,rfl⟩
 by_cases h2:what=2
 ·subst h2;go_enter func132,ntmps132;go_wp2;go_ret;exact⟨rfl,rfl⟩
 by_cases h3:what=3
 ·subst h3;go_enter func132,ntmps132;go_wp2;go_ret;exact⟨rfl,rfl⟩
 have hr:dI m ai s what=s.ae.length:=by simp[dI,h1,h2,h3]
 have b1:((what:Int)==1)=false:=by simp;omega
 have b2:((what:Int)==2)=false:=by simp;omega
 have b3:((what:Int)==3)=false:=by simp;omega
 rw[hr];go_enter func132,ntmps132;go_wp2;go_ret;exact⟨rfl,rfl⟩
theorem CG{p:Nat->Bool}{xs:List Nat}{k:Nat}(hk:k<xs.length):(xs.drop k).all p=(p xs[k] && (xs.drop (k+1)).all p):=by rw[List.drop_eq_getElem_cons hk,List.all_cons]
theorem I9(h:LR az l vm vloc tb ar vs vf vp w s)(hm:dK az w vm m)(hl:dG az w vloc ai){v:Value}{st:aX}(hv:ef w v st)(rH:st.aa.ab<=7)(aQ:st.idx.length<=20)(hB:∀i∈st.idx,i<=255)(ET:dI m ai s st.aa.ab<=1000):Calls prog 102 #[.pointer (some ⟨l,0,none⟩),v] w fun e w'=>w.grownBy w' none/\fh (iS ar m ai s st) (fun _ e w'=>e=.returned (.tuple #[])) e w':=by
 obtain⟨a,n,c,rfl,hi⟩:=hv;have hn:=hi.len;subst hn;have ol:=h.blk.lt;have R5:=h.base_le;have dW:∀o,w.grownBy (w.alloc o) none:=fun o=>aC _ _ _;have hC:=fun o=>ES (h.kept (dW o)) (hm.kept (bc.none (dW o) R5).below) (hl.kept (bc.none (dW o) R5).below) st.aa.ab rH;have ED:(st.idx.length:Int)<=20:=by omega
 have HB:Hid _:=hB;clear hB;go_enter func102,ntmps102;go_wp2_with (go_at_call 132;refine(hC _).mono ?_;rintro e w1 ⟨rfl,rfl⟩)
 obtain⟨cnt,Tz⟩:∃cnt,cnt=dI m ai s st.aa.ab:=⟨_,rfl⟩;rw[<-Tz]at ET ⊢;have hF:iS ar m ai s st=if st.idx.all (fun i=>decide (i<cnt)) then .ok () else .error (4,ar):=by rw[Tz];rfl
 have HF:Hid _:=hF;clear hF Tz hC;have Xb:(cnt:Int)<=1000:=by omega
 go_loop [15] (fun i=>∃k:Nat,i=.int .i64 k/\k<=st.idx.length/\Hid (st.idx.all (fun i=>decide (i<cnt))=(st.idx.drop k).all (fun i=>decide (i<cnt)))) (fun i=>st.idx.length-(intOf i).toNat)
 case atStart=>exact⟨0,rfl,ajl _,rfl⟩
 case round=>
  obtain⟨k,rfl,hk,HE⟩:=hrel;by_cases bM:k<st.idx.length
  ·obtain⟨g,rfl,iB,bC⟩:=hi.get bM;have dz:Hid (st.idx.all (fun i=>decide (i<cnt))=(decide (st.idx[k] < cnt) && (st.idx.drop (k+1)).all (fun i=>decide (i<cnt)))):=by show _=_;rw[HE.out,CG bM]
   have Xc:(st.idx[k]:Int)<=255:=by have:=HB.out _ (ajw bM);omega
   clear HE;by_cases hc:st.idx[k] < cnt
   ·have kt:(st.idx[k]:Int)<(cnt:Int):=by omega
    have ph:Hid (st.idx.all (fun i=>decide (i<cnt))=(st.idx.drop (k+1)).all (fun i=>decide (i<cnt))):=by show _=_;rw[dz.out,decide_eq_true hc,Bool.true_and]
    clear dz;go_wp2_with fail
    go_round
    case rel=>exact⟨k+1,by simp,by omega,ph⟩
    case measure=>simp[intOf];omega
   have kt:(cnt:Int)<=(st.idx[k]:Int):=by omega
   have hr:Hid (iS ar m ai s st=.error (4,ar)):=by show _=_;rw[HF.out,dz.out,decide_eq_false hc,Bool.false_and];rfl
   clear dz;go_wp2_with (go_at_call 100;refine(ed (h.kept (dW _)) 4).mono ?_;rintro e w5 ⟨rfl,rfl⟩)
   exact⟨rfl,dW _,aK hr.out rfl⟩
  have lg:k=st.idx.length:=by omega
  have hr:Hid (iS ar m ai s st=.ok ()):=by show _=_;rw[HF.out,HE.out,lg,List.drop_length];rfl
  go_wp2_with fail;go_end0;exact⟨dW _,aY hr.out rfl⟩
end
