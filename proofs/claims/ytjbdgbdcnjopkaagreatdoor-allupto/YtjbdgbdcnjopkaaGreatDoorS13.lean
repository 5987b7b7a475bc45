import Derived.Test.YtjbdgbdcnjopkaaGreatDoorS12
namespace Go.Proofs.YtjbdgbdcnjopkaaGreatDoor
open Go.RowKit Tryz
set_option linter.all false
set_option maxRecDepth 100000
set_option maxHeartbeats 4000000
theorem pA:(prog.info? 186).map (fun i=>(i.zero,i.size,i.bytes))=some (some (.agg #[.int .i64 0,.int .i64 0,.int .i64 0,.int .i64 0,.int .i64 0,.int .i64 0,.int .i64 0,.slice none 0 0]),8,80):=by kernel_rfl
theorem Jf:(prog.info? 215).map (fun i=>(i.zero,i.size,i.bytes))=some (some (.pointer none),1,8):=by kernel_rfl
section
variable {az l:Nat}{vm vloc:Value}{tb:List Nat}{ar:Nat}{vs vf vp:Value}{w:World}{s:LSt}{m:bf}{ai:List Nat}
theorem gV.push{ss:List PSt}{cs:List Value}{st:PSt}{v:Value}(h:gV az w tb ss cs)(hl:cs.length=ss.length*8)(hv:jC az w tb v st.ah):gV az w tb (ss++[st]) (cs++wV st v):=by
 intro i hi;simp at hi;by_cases e:i=ss.length
 ·subst e;have hx:(ss++[st])[ss.length]=st:=by simp
  rw[hx];exact⟨v,fun j hj=>by rw[ajs (by omega),hl,Nat.add_sub_cancel_left],hv⟩
 have hx:(ss++[st])[i]=ss[i]'(by omega):=ajn (by omega);rw[hx];obtain⟨v',h1,h2⟩:=h i (by omega);exact⟨v',fun j hj=>by rw[gAl (by omega)];exact h1 j hj,h2⟩
theorem LR.appSteps{w2:World}{v':Value}{ss:List PSt}{cs':List Value}(h:LR az l vm vloc tb ar vs vf vp w s)(bU:w.grownBy w2 vp.ownBlock)(bn:w2.ownsRow az 186 8 v' ss.length cs')(hE:gV az w tb ss cs')(hn:ss.length<=1000):Blk w2 l #[vm,vloc,vs,vf,vp,.int .i64 ar] 198/\LR az l vm vloc tb ar vs vf v' (w2.setCell ⟨l,4,none⟩ v') {s with ay:=ss}/\bc az w (w2.setCell ⟨l,4,none⟩ v'):=by
 obtain⟨cp0,ZB,_⟩:=h.stp;have oF:=ba ZB;obtain⟨o1,o2,o3,_,o5,o6⟩:=h.others bU oF (by decide);have df:=o1 (by decide);have hg:=aD w2 l 4 v';have hB:az<=w2.heap.size:=Nat.le_of_lt (ajH h.low df.lt);have kB:Below az w2 (w2.setCell ⟨l,4,none⟩ v'):=dV hg hB (by intro r e;cases e;exact h.low);obtain⟨cf,ie,hZ⟩:=o3 (by decide);have rC:=o2 (by decide);have hb:=df.set 4 v';simp at hb;have kS:∀g c,Blk w g c 215->Blk w2 g c 215:=fun g c hb=>hb.grown bU (by
  intro e
  obtain⟨_,c',kt⟩:=oF g e.symm
  have:=hb.symm.trans kt
  cases this)
 exact⟨df,⟨hb,h.low,rC.kept hg (fX rC df (by decide)),⟨cf,ie.kept hg (fX ie df (by decide)),hZ.kept kB⟩,⟨cs',bn.kept hg (fX bn df (by decide)),(hE.kept kS).kept fun g c hb=>aF hg df hb (by decide)⟩,
   (o5 (by decide)).kept fun g c hb=>aF hg df hb (by decide),h.ns,h.nf,hn⟩,o6.trans (bc.grown hg hB (fun r e=>by cases e;exact⟨h.low,_,_,df,by decide⟩))⟩
theorem q9{lo:Nat}{v:Value}{cs:List Value}{ts:List Nat}(h:w.ownsRow lo 215 1 v ts.length cs)(nO:az<=lo)(hc:∀k (hk:k<ts.length),∃b,tb[ts[k]]?=some b/\cs[k]?=some (.pointer (some ⟨b,0,none⟩))):jC az w tb v ts:=by
 rcases h.2 with⟨h1,h2⟩|⟨g,cap,cur,h1,h2,h3,h4,h5,h6,h7⟩
 ·exact .inl ⟨h1,List.length_eq_zero_iff.1 h2⟩
 refine .inr ⟨g,cap,cur,h1,by omega,h3,fun i hi=>?_⟩;obtain⟨b,x1,x2⟩:=hc i hi;refine⟨b,x1,?_⟩;rw[<-h7,ajI (by omega)]at x2;simpa using x2
theorem CH(h:LR az l vm vloc tb ar vs vf vp w s){v:Value}{st:aX}(hv:ef w v st)(IX:s.ay.length<1000)(K0:st.aa.ab≠2/\st.aa.ab≠3/\st.aa.ab≠4/\st.aa.ab≠5):Calls prog 103 #[.pointer (some ⟨l,0,none⟩),v] w fun e w'=>e=.returned (.tuple #[])/\bc az w w'/\(∀g c ty,ty≠198->ty≠186->Blk w g c ty->Blk w' g c ty)/\iQ az l vm vloc tb ar w' (ci s st):=by
 obtain⟨a,n,c,rfl,jE⟩:=hv;have rP:=jE.len;subst rP;have hB:=h.base_le;have I2:=h.blk.lt;obtain⟨cp,ir,qj⟩:=h.stp;obtain⟨pa,pcap,rfl,_,_⟩:=aG ir;have AJ:=ba ir;have MN:Hid (ci s st={s with ay:=s.ay++[{aa:=st.aa,index:=0,num:=st.num,ah:=[]}]}):=by show _=_;obtain⟨n2,n3,n4,n5⟩:=K0;simp[ci,n2,n3,n4,n5]
 obtain⟨n2,n3,n4,n5⟩:=K0;have b2:((st.aa.ab:Int)==2)=false:=by simp;omega
 have b3:((st.aa.ab:Int)==3)=false:=by simp;omega
 have b4:((st.aa.ab:Int)==4)=false:=by simp;omega
 have b5:((st.aa.ab:Int)==5)=false:=by simp;omega
 clear n2 n3 n4 n5;go_enter func103,ntmps103;go_upto_region 13 with fail
 have xh:w.grownBy ((w.alloc (.cells #[.int .i64 st.aa.au,.int .i64 st.aa.ab,.int .i64 st.aa.aj,.int .i64 st.aa.of,.int .i64 st.aa.ak,.slice a st.idx.length c,.int .i64 st.num,.int .i64 st.next] 202)).alloc (.cells #[.int .i64 st.aa.au,.int .i64 st.aa.ab,.int .i64 st.aa.aj,.int .i64 st.aa.of,.int .i64 st.aa.ak,.int .i64 0,.int .i64 st.num,.slice none 0 0] 186)) none:=aB (aC _ _ _) (aC _ _ _);have jY:Blk ((w.alloc (.cells #[.int .i64 st.aa.au,.int .i64 st.aa.ab,.int .i64 st.aa.aj,.int .i64 st.aa.of,.int .i64 st.aa.ak,.slice a st.idx.length c,.int .i64 st.num,.int .i64 st.next] 202)).alloc (.cells #[.int .i64 st.aa.au,.int .i64 st.aa.ab,.int .i64 st.aa.aj,.int .i64 st.aa.of,.int .i64 st.aa.ak,.int .i64 0,.int .i64 st.num,.slice none 0 0] 186)) (w.heap.size+1) #[.int .i64 st.aa.au,.int .i64 st.aa.ab,.int .i64 st.aa.aj,.int .i64 st.aa.of,.int .i64 st.aa.ak,.int .i64 0,.int .i64 st.num,.slice none 0 0] 186:=by
  have:=Blk.new (w.alloc (.cells #[.int .i64 st.aa.au,.int .i64 st.aa.ab,.int .i64 st.aa.aj,.int .i64 st.aa.of,.int .i64 st.aa.ak,.slice a st.idx.length c,.int .i64 st.num,.int .i64 st.next] 202)) #[.int .i64 st.aa.au,.int .i64 st.aa.ab,.int .i64 st.aa.aj,.int .i64 st.aa.of,.int .i64 st.aa.ak,.int .i64 0,.int .i64 st.num,.slice none 0 0] 186
  rwa [ajz]at this
 obtain⟨wX,K1⟩:=aja (((w.alloc (.cells #[.int .i64 st.aa.au,.int .i64 st.aa.ab,.int .i64 st.aa.aj,.int .i64 st.aa.of,.int .i64 st.aa.ak,.slice a st.idx.length c,.int .i64 st.num,.int .i64 st.next] 202)).alloc (.cells #[.int .i64 st.aa.au,.int .i64 st.aa.ab,.int .i64 st.aa.aj,.int .i64 st.aa.of,.int .i64 st.aa.ak,.int .i64 0,.int .i64 st.num,.slice none 0 0] 186)));rw[K1]at xh jY ⊢;clear K1;have Jg:jC az wX tb (.slice none 0 0) []:=.inl ⟨rfl,rfl⟩;have L6:=h.kept xh;have xW:=L6.base_le;have Pr:=L6.blk.lt;have y0:=jY.cell 0;have y1:=jY.cell 1;have y2:=jY.cell 2;have y3:=jY.cell 3;have y4:=jY.cell 4;have y5:=jY.cell 5;have y6:=jY.cell 6;have y7:=jY.cell 7;have z4:=L6.blk.cell 4;simp at y0 y1 y2 y3 y4 y5 y6 y7 z4;obtain⟨i0,hi,fo,eP,eV⟩:=info_parts pA;have kw:wX.grownBy (wX.alloc (.cells #[.int .i64 st.aa.au,.int .i64 st.aa.ab,.int .i64 st.aa.aj,.int .i64 st.aa.of,.int .i64 st.aa.ak,.int .i64 0,.int .i64 st.num,.slice none 0 0] 186)).drew none:=aE (aC _ _ _);have iE:=aB xh kw;have h9:=h.kept iE;have W9:=bc.none iE hB;have CF:=gV.push (st:={aa:=st.aa,index:=0,num:=st.num,ah:=[]}) (qj.kept fun g c hb=>hb.grown iE (by simp)) ir.1 (Jg.kept fun g c hb=>hb.grown kw (by simp));have Jh:(wX.alloc (.cells #[.int .i64 st.aa.au,.int .i64 st.aa.ab,.int .i64 st.aa.aj,.int .i64 st.aa.of,.int .i64 st.aa.ak,.int .i64 0,.int .i64 st.num,.slice none 0 0] 186)).drew.ownsRow az 186 8 (.slice pa s.ay.length pcap) s.ay.length cp:=aJ ir fun g c hb=>hb.grown iE (by simp);go_wp2_with fail
 go_region_law (refine bQ rfl _ _ 108 rfl az 186 i0 _ 8 80 underlying108 hi fo eP eV rfl (by decide) _ s.ay.length cp rfl Jh ⟨wX.heap.size,0,none⟩ 1 1 [.int .i64 st.aa.au,.int .i64 st.aa.ab,.int .i64 st.aa.aj,.int .i64 st.aa.of,.int .i64 st.aa.ak,.int .i64 0,.int .i64 st.num,.slice none 0 0] rfl rfl (fun j u hj=>gE wX _ 186 j u hj) (by simp[Value.oneCell']) (by simp[maxLen];omega) (by omega) (by simp;omega) ?_;intro v' w' bn bU;obtain⟨df,hL,hW⟩:=h9.appSteps bU (by simpa [wV] using bn) CF (by simp;omega);have k4:=df.cell 4;have q4:=df.frozen 4;simp at k4;obtain⟨a',cap',rfl,_⟩:=aG bn)
 all_goals
  go_wp2_with fail;go_end0;rw[MN.out];refine⟨rfl,W9.trans hW,fun g c ty qY oc hb=>?_,_,_,_,hL⟩;have q1:=hb.grown iE (by simp);have q2:=q1.grown bU (by
   intro e
   obtain⟨_,c',kt⟩:=AJ g e.symm
   have:=hb.symm.trans kt
   cases this;exact oc rfl)
  exact aF (aD _ l 4 _) df q2 qY
theorem AK(h:LR az l vm vloc tb ar vs vf vp w s){v:Value}{st:aX}(hv:ef w v st)(IX:s.ay.length<1000){i:Nat}{is:List Nat}(eb:st.idx=i::is)(K0:st.aa.ab=2\/st.aa.ab=3):Calls prog 103 #[.pointer (some ⟨l,0,none⟩),v] w fun e w'=>e=.returned (.tuple #[])/\bc az w w'/\(∀g c ty,ty≠198->ty≠186->Blk w g c ty->Blk w' g c ty)/\iQ az l vm vloc tb ar w' (ci s st):=by
 obtain⟨a,n,c,rfl,jE⟩:=hv;have rP:=jE.len;subst rP;have hB:=h.base_le;have I2:=h.blk.lt;obtain⟨cp,ir,qj⟩:=h.stp;obtain⟨pa,pcap,rfl,_,_⟩:=aG ir;have AJ:=ba ir;have MN:Hid (ci s st={s with ay:=s.ay++[{aa:=st.aa,index:=i,num:=st.num,ah:=[]}]}):=by show _=_;rcases K0 with e|e <;> simp[ci,e,eb]
 have aQ:0<st.idx.length:=by rw[eb];simp
 obtain⟨gi,rfl,To,MG⟩:=jE.get aQ;have xf:st.idx[0]=i:=by simp[eb]
 rw[xf]at MG;have i5:(0:Int)<(st.idx.length:Int):=by omega
 clear xf eb;rcases K0 with e|e
 ·have b2:((st.aa.ab:Int)==2)=true:=by rw[e];rfl
  have b3:=ai9 e;clear e;go_enter func103,ntmps103;go_upto_region 13 with fail
  have xh:w.grownBy ((w.alloc (.cells #[.int .i64 st.aa.au,.int .i64 st.aa.ab,.int .i64 st.aa.aj,.int .i64 st.aa.of,.int .i64 st.aa.ak,.slice (some ⟨gi,0,none⟩) st.idx.length c,.int .i64 st.num,.int .i64 st.next] 202)).alloc (.cells #[.int .i64 st.aa.au,.int .i64 st.aa.ab,.int .i64 st.aa.aj,.int .i64 st.aa.of,.int .i64 st.aa.ak,.int .i64 i,.int .i64 st.num,.slice none 0 0] 186)) none:=aB (aC _ _ _) (aC _ _ _);have jY:Blk ((w.alloc (.cells #[.int .i64 st.aa.au,.int .i64 st.aa.ab,.int .i64 st.aa.aj,.int .i64 st.aa.of,.int .i64 st.aa.ak,.slice (some ⟨gi,0,none⟩) st.idx.length c,.int .i64 st.num,.int .i64 st.next] 202)).alloc (.cells #[.int .i64 st.aa.au,.int .i64 st.aa.ab,.int .i64 st.aa.aj,.int .i64 st.aa.of,.int .i64 st.aa.ak,.int .i64 i,.int .i64 st.num,.slice none 0 0] 186)) (w.heap.size+1) #[.int .i64 st.aa.au,.int .i64 st.aa.ab,.int .i64 st.aa.aj,.int .i64 st.aa.of,.int .i64 st.aa.ak,.int .i64 i,.int .i64 st.num,.slice none 0 0] 186:=by
   have:=Blk.new (w.alloc (.cells #[.int .i64 st.aa.au,.int .i64 st.aa.ab,.int .i64 st.aa.aj,.int .i64 st.aa.of,.int .i64 st.aa.ak,.slice (some ⟨gi,0,none⟩) st.idx.length c,.int .i64 st.num,.int .i64 st.next] 202)) #[.int .i64 st.aa.au,.int .i64 st.aa.ab,.int .i64 st.aa.aj,.int .i64 st.aa.of,.int .i64 st.aa.ak,.int .i64 i,.int .i64 st.num,.slice none 0 0] 186
   rwa [ajz]at this
  obtain⟨wX,K1⟩:=aja (((w.alloc (.cells #[.int .i64 st.aa.au,.int .i64 st.aa.ab,.int .i64 st.aa.aj,.int .i64 st.aa.of,.int .i64 st.aa.ak,.slice (some ⟨gi,0,none⟩) st.idx.length c,.int .i64 st.num,.int .i64 st.next] 202)).alloc (.cells #[.int .i64 st.aa.au,.int .i64 st.aa.ab,.int .i64 st.aa.aj,.int .i64 st.aa.of,.int .i64 st.aa.ak,.int .i64 i,.int .i64 st.num,.slice none 0 0] 186)));rw[K1]at xh jY ⊢;clear K1;have Jg:jC az wX tb (.slice none 0 0) []:=.inl ⟨rfl,rfl⟩;have L6:=h.kept xh;have xW:=L6.base_le;have Pr:=L6.blk.lt;have y0:=jY.cell 0;have y1:=jY.cell 1;have y2:=jY.cell 2;have y3:=jY.cell 3;have y4:=jY.cell 4;have y5:=jY.cell 5;have y6:=jY.cell 6;have y7:=jY.cell 7;have z4:=L6.blk.cell 4;simp at y0 y1 y2 y3 y4 y5 y6 y7 z4;obtain⟨i0,hi,fo,eP,eV⟩:=info_parts pA;have kw:wX.grownBy (wX.alloc (.cells #[.int .i64 st.aa.au,.int .i64 st.aa.ab,.int .i64 st.aa.aj,.int .i64 st.aa.of,.int .i64 st.aa.ak,.int .i64 i,.int .i64 st.num,.slice none 0 0] 186)).drew none:=aE (aC _ _ _);have iE:=aB xh kw;have h9:=h.kept iE;have W9:=bc.none iE hB;have CF:=gV.push (st:={aa:=st.aa,index:=i,num:=st.num,ah:=[]}) (qj.kept fun g c hb=>hb.grown iE (by simp)) ir.1 (Jg.kept fun g c hb=>hb.grown kw (by simp));have Jh:(wX.alloc (.cells #[.int .i64 st.aa.au,.int .i64 st.aa.ab,.int .i64 st.aa.aj,.int .i64 st.aa.of,.int .i64 st.aa.ak,.int .i64 i,.int .i64 st.num,.slice none 0 0] 186)).drew.ownsRow az 186 8 (.slice pa s.ay.length pcap) s.ay.length cp:=aJ ir fun g c hb=>hb.grown iE (by simp);go_wp2_with fail
  go_region_law (refine bQ rfl _ _ 108 rfl az 186 i0 _ 8 80 underlying108 hi fo eP eV rfl (by decide) _ s.ay.length cp rfl Jh ⟨wX.heap.size,0,none⟩ 1 1 [.int .i64 st.aa.au,.int .i64 st.aa.ab,.int .i64 st.aa.aj,.int .i64 st.aa.of,.int .i64 st.aa.ak,.int .i64 i,.int .i64 st.num,.slice none 0 0] rfl rfl (fun j u hj=>gE wX _ 186 j u hj) (by simp[Value.oneCell']) (by simp[maxLen];omega) (by omega) (by simp;omega) ?_;intro v' w' bn bU;obtain⟨df,hL,hW⟩:=h9.appSteps bU (by simpa [wV] using bn) CF (by simp;omega);have k4:=df.cell 4;have q4:=df.frozen 4;simp at k4;obtain⟨a',cap',rfl,_⟩:=aG bn)
  all_goals
   go_wp2_with fail;go_end0;rw[MN.out];refine⟨rfl,W9.trans hW,fun g c ty qY oc hb=>?_,_,_,_,hL⟩;have q1:=hb.grown iE (by simp);have q2:=q1.grown bU (by
    intro e
    obtain⟨_,c',kt⟩:=AJ g e.symm
    have:=hb.symm.trans kt
    cases this;exact oc rfl)
   exact aF (aD _ l 4 _) df q2 qY
 have b2:((st.aa.ab:Int)==2)=false:=by rw[e];rfl
 have b3:=ai9 e;clear e;go_enter func103,ntmps103;go_upto_region 13 with fail
 have xh:w.grownBy ((w.alloc (.cells #[.int .i64 st.aa.au,.int .i64 st.aa.ab,.int .i64 st.aa.aj,.int .i64 st.aa.of,.int .i64 st.aa.ak,.slice (some ⟨gi,0,none⟩) st.idx.length c,.int .i64 st.num,.int .i64 st.next] 202)).alloc (.cells #[.int .i64 st.aa.au,.int .i64 st.aa.ab,.int .i64 st.aa.aj,.int .i64 st.aa.of,.int .i64 st.aa.ak,.int .i64 i,.int .i64 st.num,.slice none 0 0] 186)) none:=aB (aC _ _ _) (aC _ _ _);have jY:Blk ((w.alloc (.cells #[.int .i64 st.aa.au,.int .i64 st.aa.ab,.int .i64 st.aa.aj,.int .i64 st.aa.of,.int .i64 st.aa.ak,.slice (some ⟨gi,0,none⟩) st.idx.length c,.int .i64 st.num,.int .i64 st.next] 202)).alloc (.cells #[.int .i64 st.aa.au,.int .i64 st.aa.ab,.int .i64 st.aa.aj,.int .i64 st.aa.of,.int .i64 st.aa.ak,.int .i64 i,.int .i64 st.num,.slice none 0 0] 186)) (w.heap.size+1) #[.int .i64 st.aa.au,.int .i64 st.aa.ab,.int .i64 st.aa.aj,.int .i64 st.aa.of,.int .i64 st.aa.ak,.int .i64 i,.int .i64 st.num,.slice none 0 0] 186:=by
  have:=Blk.new (w.alloc (.cells #[.int .i64 st.aa.au,.int .i64 st.aa.ab,.int .i64 st.aa.aj,.int .i64 st.aa.of,.int .i64 st.aa.ak,.slice (some ⟨gi,0,none⟩) st.idx.length c,.int .i64 st.num,.int .i64 st.next] 202)) #[.int .i64 st.aa.au,.int .i64 st.aa.ab,.int .i64 st.aa.aj,.int .i64 st.aa.of,.int .i64 st.aa.ak,.int .i64 i,.int .i64 st.num,.slice none 0 0] 186
  rwa [ajz]at this
 obtain⟨wX,K1⟩:=aja (((w.alloc (.cells #[.int .i64 st.aa.au,.int .i64 st.aa.ab,.int .i64 st.aa.aj,.int .i64 st.aa.of,.int .i64 st.aa.ak,.slice (some ⟨gi,0,none⟩) st.idx.length c,.int .i64 st.num,.int .i64 st.next] 202)).alloc (.cells #[.int .i64 st.aa.au,.int .i64 st.aa.ab,.int .i64 st.aa.aj,.int .i64 st.aa.of,.int .i64 st.aa.ak,.int .i64 i,.int .i64 st.num,.slice none 0 0] 186)));rw[K1]at xh jY ⊢;clear K1;have Jg:jC az wX tb (.slice none 0 0) []:=.inl ⟨rfl,rfl⟩;have L6:=h.kept xh;have xW:=L6.base_le;have Pr:=L6.blk.lt;have y0:=jY.cell 0;have y1:=jY.cell 1;have y2:=jY.cell 2;have y3:=jY.cell 3;have y4:=jY.cell 4;have y5:=jY.cell 5;have y6:=jY.cell 6;have y7:=jY.cell 7;have z4:=L6.blk.cell 4;simp at y0 y1 y2 y3 y4 y5 y6 y7 z4;obtain⟨i0,hi,fo,eP,eV⟩:=info_parts pA;have kw:wX.grownBy (wX.alloc (.cells #[.int .i64 st.aa.au,.int .i64 st.aa.ab,.int .i64 st.aa.aj,.int .i64 st.aa.of,.int .i64 st.aa.ak,.int .i64 i,.int .i64 st.num,.slice none 0 0] 186)).drew none:=aE (aC _ _ _);have iE:=aB xh kw;have h9:=h.kept iE;have W9:=bc.none iE hB;have CF:=gV.push (st:={aa:=st.aa,index:=i,num:=st.num,ah:=[]}) (qj.kept fun g c hb=>hb.grown iE (by simp)) ir.1 (Jg.kept fun g c hb=>hb.grown kw (by simp));have Jh:(wX.alloc (.cells #[.int .i64 st.aa.au,.int .i64 st.aa.ab,.int .i64 st.aa.aj,.int .i64 st.aa.of,.int .i64 st.aa.ak,.int .i64 i,.int .i64 st.num,.slice none 0 0] 186)).drew.ownsRow az 186 8 (.slice pa s.ay.length pcap) s.ay.length cp:=aJ ir fun g c hb=>hb.grown iE (by simp);go_wp2_with fail
 go_region_law (refine bQ rfl _ _ 108 rfl az 186 i0 _ 8 80 underlying108 hi fo eP eV rfl (by decide) _ s.ay.length cp rfl Jh ⟨wX.heap.size,0,none⟩ 1 1 [.int .i64 st.aa.au,.int .i64 st.aa.ab,.int .i64 st.aa.aj,.int .i64 st.aa.of,.int .i64 st.aa.ak,.int .i64 i,.int .i64 st.num,.slice none 0 0] rfl rfl (fun j u hj=>gE wX _ 186 j u hj) (by simp[Value.oneCell']) (by simp[maxLen];omega) (by omega) (by simp;omega) ?_;intro v' w' bn bU;obtain⟨df,hL,hW⟩:=h9.appSteps bU (by simpa [wV] using bn) CF (by simp;omega);have k4:=df.cell 4;have q4:=df.frozen 4;simp at k4;obtain⟨a',cap',rfl,_⟩:=aG bn)
 all_goals
  go_wp2_with fail;go_end0;rw[MN.out];refine⟨rfl,W9.trans hW,fun g c ty qY oc hb=>?_,_,_,_,hL⟩;have q1:=hb.grown iE (by simp);have q2:=q1.grown bU (by
   intro e
   obtain⟨_,c',kt⟩:=AJ g e.symm
   have:=hb.symm.trans kt
   cases this;exact oc rfl)
  exact aF (aD _ l 4 _) df q2 qY
end
