import Derived.Test.YtjbdgbdcnjopkaaGreatDoorS13
namespace Go.Proofs.YtjbdgbdcnjopkaaGreatDoor
open Go.RowKit Tryz
set_option linter.all false
set_option maxRecDepth 100000
set_option maxHeartbeats 4000000
section
variable {az l:Nat}{vm vloc:Value}{tb:List Nat}{ar:Nat}{vs vf vp:Value}{w:World}{s:LSt}{m:bf}{ai:List Nat}
theorem yB(h:LR az l vm vloc tb ar vs vf vp w s){v:Value}{st:aX}(hv:ef w v st)(IX:s.ay.length<1000)(eW:∀i∈st.idx,i<s.ae.length)(aQ:st.idx.length<=20)(K0:st.aa.ab=4\/st.aa.ab=5):Calls prog 103 #[.pointer (some ⟨l,0,none⟩),v] w fun e w'=>e=.returned (.tuple #[])/\bc az w w'/\(∀g c ty,ty≠198->ty≠186->Blk w g c ty->Blk w' g c ty)/\iQ az l vm vloc tb ar w' (ci s st):=by
 obtain⟨a,n,c,rfl,jE⟩:=hv;have rP:=jE.len;subst rP;have hB:=h.base_le;have I2:=h.blk.lt;obtain⟨cp,ir,qj⟩:=h.stp;obtain⟨pa,pcap,rfl,_,_⟩:=aG ir;have AJ:=ba ir;obtain⟨T,hT⟩:=aja (st.idx.map (fun i=>((bT s i).map (·.target)).getD 0));have Sb:T.length=st.idx.length:=by rw[<-hT];simp
 have Xe:∀k (hk:k<st.idx.length),∃hf:st.idx[k] < s.ae.length,T[k]?=some (s.ae[s.ae.length-1-st.idx[k]]'(by omega)).target:=fun k hk=>by have hf:=eW _ (ajw hk);refine⟨hf,?_⟩;rw[<-hT,List.getElem?_map,gEg hk];simp only[Option.map_some,bT,ajd hf];rw[gEg (by omega)];rfl
 have MN:Hid (ci s st={s with ay:=s.ay++[{aa:=st.aa,index:=0,num:=st.num,ah:=T}]}):=by show _=_;rcases K0 with e|e <;> simp[ci,e,hT]
 have iB:∀{k:Nat} (hk:k<st.idx.length),∃g,a=some ⟨g,0,none⟩/\g<w.heap.size/\w.cell? ⟨g,k,none⟩=some (.int .i64 st.idx[k]):=fun hk=>jE.get hk;have If:∀{k:Nat} (hk:k<st.idx.length) {wr:World},w.grownBy wr none->∃g,a=some ⟨g,0,none⟩/\wr.cell? ⟨g,k,none⟩=some (.int .i64 st.idx[k]):=fun {k} hk {wr} hg=>by
  rcases jE with⟨h1,h2⟩|⟨g,cap,c0,h1,h2,h3,h4⟩
  ·rw[h2]at hk;simp at hk
  cases h1;refine⟨g,rfl,?_⟩;rw[(h3.grown hg (by simp)).cell k];exact h4 k hk
 have Xf:∀k,k<st.idx.length->∃lb,∃hf:lb<s.ae.length,T[k]?=some (s.ae[s.ae.length-1-lb]'(by omega)).target/\∀{wr:World},w.grownBy wr none->∃g,a=some ⟨g,0,none⟩/\wr.cell? ⟨g,k,none⟩=some (.int .i64 lb):=fun k hk=>by obtain⟨hf,ht⟩:=Xe k hk;exact⟨st.idx[k],hf,ht,fun hg=>If hk hg⟩
 have TK:Hid _:=Xf;have TL:Hid _:=Sb;clear hT iB If Xe Sb eW Xf;have Xg:(st.idx.length:Int)<=20:=by omega
 have Xh:=AE;obtain⟨j0,hj,jz0,jz1,jz2⟩:=info_parts Jf;rcases K0 with e|e
 ·have b2:((st.aa.ab:Int)==2)=false:=by rw[e];rfl
  have b3:=ai9 e;clear e;go_enter func103,ntmps103;go_wp2_with fail;go_loopw [29] (fun i wr=>∃(j:Nat) (vT:Value) (cs:List Value),i=.int .i64 j/\j<=st.idx.length/\w.grownBy wr none/\w.heap.size+1<wr.heap.size/\Blk wr (w.heap.size+1) #[.int .i64 st.aa.au,.int .i64 st.aa.ab,.int .i64 st.aa.aj,.int .i64 st.aa.of,.int .i64 st.aa.ak,.int .i64 0,.int .i64 st.num,vT] 186/\wr.ownsRow w.heap.size 215 1 vT j cs/\Hid (∀k (hk:k<j) (Ah:k<T.length),∃b,tb[T[k]]?=some b/\cs[k]?=some (.pointer (some ⟨b,0,none⟩)))) (fun i _=>st.idx.length-(intOf i).toNat)
  case atStart=>
   refine⟨0,.slice none 0 0,[],rfl,ajl _,aB (aC _ _ _) (aC _ _ _),by simp,?_,⟨by simp,.inl ⟨rfl,rfl⟩⟩,fun k hk=>by omega⟩;have:=Blk.new (w.alloc (.cells #[.int .i64 st.aa.au,.int .i64 st.aa.ab,.int .i64 st.aa.aj,.int .i64 st.aa.of,.int .i64 st.aa.ak,.slice a st.idx.length c,.int .i64 st.num,.int .i64 st.next] 202)) #[.int .i64 st.aa.au,.int .i64 st.aa.ab,.int .i64 st.aa.aj,.int .i64 st.aa.of,.int .i64 st.aa.ak,.int .i64 0,.int .i64 st.num,.slice none 0 0] 186
   rwa [ajz]at this
  case round=>
   obtain⟨j,vT,cs,rfl,qc,bU,gy,hk,bn,HC⟩:=hrel;obtain⟨aT,capT,rfl,_,_⟩:=aG bn;have y7:=hk.cell 7;have f7:=hk.frozen 7;simp at y7;by_cases bM:j<st.idx.length
   ·obtain⟨lb,lv,Ps,EX⟩:=TK.out j bM;obtain⟨g,rfl,BS⟩:=EX bU;have pB:(j:Int)<(st.idx.length:Int):=by omega
    have Lr:=h.kept bU;have Ld:=Lr.drew;have TA:Hid _:=Ps;clear Ps EX;have uF:(Value.slice aT j capT).ownBlock≠some (w.heap.size+1):=by intro e;obtain⟨_,c',kt⟩:=ba bn _ e;have:=hk.symm.trans kt;cases this
    go_wp2_with fail
    go_region_law (first
     | (go_simp;go_at_call 133;refine(lu Ld lv).mono ?_;rintro e w4 ⟨v4,rfl,dv,bt1,mt1,dt1,bt2,mt2,dt2,b4,rfl,jK,_⟩;have ut:=hk.drew.grown dv (by simp);have y4:=ut.cell 7;simp at y4;have EY:=aJ bn (w':=w4) (fun g c hb=>hb.drew.grown dv (by simp));have CE:=aB (aE bU) dv;have Sd:wr.heap.size<=w4.heap.size:=dv.size;have Eb:=ut.lt)
     | (refine bQ rfl _ _ 184 rfl w.heap.size 215 j0 _ 1 8 underlying184 hj jz0 jz1 jz2 rfl (by decide) (.slice aT j capT) j cs rfl (EY.alloc _) ⟨w4.heap.size,0,none⟩ 1 1 [.pointer (some ⟨b4,0,none⟩)] rfl rfl (fun j u hj=>gE w4 _ 215 j u hj) (by simp[Value.oneCell']) (by simp[maxLen];omega) (by omega) (by simp;omega) ?_;intro v' w' cG cD;have Ed:=(ut.alloc (.cells #[.pointer (some ⟨b4,0,none⟩)] 215)).grown cD (fun e=>uF e.symm);have k7:=Ed.cell 7;have q7:=Ed.frozen 7;simp at k7;obtain⟨a',cap',rfl,_⟩:=aG cG))
    all_goals
     go_wp2_with fail;go_roundw
     case rel=>
      have gA:w.grownBy w' none:=by
       have g0:=aB CE (aC w4 (.cells #[.pointer (some ⟨b4,0,none⟩)] 215) none);cases hb:(Value.slice aT j capT).ownBlock with
       |none=>rw[hb]at cD;exact aB g0 cD
       |some g=>rw[hb]at cD;exact aO g0 (ba bn g hb).1 cD
      have D9:=Ed.set 7 (.slice a' (j+1) cap');simp at D9;refine⟨j+1,.slice a' (j+1) cap',cs++[.pointer (some ⟨b4,0,none⟩)],by simp,by omega,aO gA (Nat.le_succ _) (aD w' (w.heap.size+1) 7 _),?_,D9,cG.kept (aD w' (w.heap.size+1) 7 _) (fX cG Ed (by decide)),?_⟩
      ·have:=D9.lt;exact this
      intro k uH Ah;by_cases TB:k<j
      ·obtain⟨b,x1,x2⟩:=HC.out k TB Ah;exact⟨b,x1,by rw[gAl (by have:=bn.1;omega)];exact x2⟩
      have MO:k=j:=by omega
      subst MO;have ht:=TA.out;rw[gEg Ah]at ht;refine⟨b4,by rw[Option.some.inj ht];exact jK,?_⟩;rw[ajs (by have:=bn.1;omega)];have:=bn.1;simp[this]
     case measure=>simp[intOf];omega
   have pB:¬(j:Int)<(st.idx.length:Int):=by omega
   have Jg:jC az wr tb (.slice aT j capT) T:=by
    have TC:T.length=j:=by rw[TL.out];omega
    exact q9 (lo:=w.heap.size) (by rw[TC];exact bn) hB (fun k hk=>HC.out k (by omega) hk)
   have xh:=bU;have jY:=hk;have L6:=h.kept xh;have xW:=L6.base_le;have TD:=L6.blk.lt;have y0:=jY.cell 0;have y1:=jY.cell 1;have y2:=jY.cell 2;have y3:=jY.cell 3;have y4:=jY.cell 4;have y5:=jY.cell 5;have y6:=jY.cell 6;have y7:=jY.cell 7;have z4:=L6.blk.cell 4;simp at y0 y1 y2 y3 y4 y5 y6 y7 z4;obtain⟨i0,hi,fo,eP,eV⟩:=info_parts pA;have kw:wr.grownBy (wr.alloc (.cells #[.int .i64 st.aa.au,.int .i64 st.aa.ab,.int .i64 st.aa.aj,.int .i64 st.aa.of,.int .i64 st.aa.ak,.int .i64 0,.int .i64 st.num,(.slice aT j capT)] 186)).drew none:=aE (aC _ _ _);have iE:=aB xh kw;have h9:=h.kept iE;have W9:=bc.none iE hB;have CF:=gV.push (st:={aa:=st.aa,index:=0,num:=st.num,ah:=T}) (qj.kept fun g c hb=>hb.grown iE (by simp)) ir.1 (Jg.kept fun g c hb=>hb.grown kw (by simp));have Jh:(wr.alloc (.cells #[.int .i64 st.aa.au,.int .i64 st.aa.ab,.int .i64 st.aa.aj,.int .i64 st.aa.of,.int .i64 st.aa.ak,.int .i64 0,.int .i64 st.num,(.slice aT j capT)] 186)).drew.ownsRow az 186 8 (.slice pa s.ay.length pcap) s.ay.length cp:=aJ ir fun g c hb=>hb.grown iE (by simp);go_wp2_with fail
   go_region_law (refine bQ rfl _ _ 108 rfl az 186 i0 _ 8 80 underlying108 hi fo eP eV rfl (by decide) _ s.ay.length cp rfl Jh ⟨wr.heap.size,0,none⟩ 1 1 [.int .i64 st.aa.au,.int .i64 st.aa.ab,.int .i64 st.aa.aj,.int .i64 st.aa.of,.int .i64 st.aa.ak,.int .i64 0,.int .i64 st.num,(.slice aT j capT)] rfl rfl (fun j u hj=>gE wr _ 186 j u hj) (by simp[Value.oneCell']) (by simp[maxLen];omega) (by omega) (by simp;omega) ?_;intro v' w' bn bU;obtain⟨df,hL,hW⟩:=h9.appSteps bU (by simpa [wV] using bn) CF (by simp;omega);have k4:=df.cell 4;have q4:=df.frozen 4;simp at k4;obtain⟨a',cap',rfl,_⟩:=aG bn)
   all_goals
    go_wp2_with fail;go_end0;rw[MN.out];refine⟨rfl,W9.trans hW,fun g c ty qY oc hb=>?_,_,_,_,hL⟩;have q1:=hb.grown iE (by simp);have q2:=q1.grown bU (by
     intro e
     obtain⟨_,c',kt⟩:=AJ g e.symm
     have:=hb.symm.trans kt
     cases this;exact oc rfl)
    exact aF (aD _ l 4 _) df q2 qY
 have b2:((st.aa.ab:Int)==2)=false:=by rw[e];rfl
 have b3:=ai9 e;clear e;go_enter func103,ntmps103;go_wp2_with fail;go_loopw [29] (fun i wr=>∃(j:Nat) (vT:Value) (cs:List Value),i=.int .i64 j/\j<=st.idx.length/\w.grownBy wr none/\w.heap.size+1<wr.heap.size/\Blk wr (w.heap.size+1) #[.int .i64 st.aa.au,.int .i64 st.aa.ab,.int .i64 st.aa.aj,.int .i64 st.aa.of,.int .i64 st.aa.ak,.int .i64 0,.int .i64 st.num,vT] 186/\wr.ownsRow w.heap.size 215 1 vT j cs/\Hid (∀k (hk:k<j) (Ah:k<T.length),∃b,tb[T[k]]?=some b/\cs[k]?=some (.pointer (some ⟨b,0,none⟩)))) (fun i _=>st.idx.length-(intOf i).toNat)
 case atStart=>
  refine⟨0,.slice none 0 0,[],rfl,ajl _,aB (aC _ _ _) (aC _ _ _),by simp,?_,⟨by simp,.inl ⟨rfl,rfl⟩⟩,fun k hk=>by omega⟩;have:=Blk.new (w.alloc (.cells #[.int .i64 st.aa.au,.int .i64 st.aa.ab,.int .i64 st.aa.aj,.int .i64 st.aa.of,.int .i64 st.aa.ak,.slice a st.idx.length c,.int .i64 st.num,.int .i64 st.next] 202)) #[.int .i64 st.aa.au,.int .i64 st.aa.ab,.int .i64 st.aa.aj,.int .i64 st.aa.of,.int .i64 st.aa.ak,.int .i64 0,.int .i64 st.num,.slice none 0 0] 186
  rwa [ajz]at this
 case round=>
  obtain⟨j,vT,cs,rfl,qc,bU,gy,hk,bn,HC⟩:=hrel;obtain⟨aT,capT,rfl,_,_⟩:=aG bn;have y7:=hk.cell 7;have f7:=hk.frozen 7;simp at y7;by_cases bM:j<st.idx.length
  ·obtain⟨lb,lv,Ps,EX⟩:=TK.out j bM;obtain⟨g,rfl,BS⟩:=EX bU;have pB:(j:Int)<(st.idx.length:Int):=by omega
   have Lr:=h.kept bU;have Ld:=Lr.drew;have TA:Hid _:=Ps;clear Ps EX;have uF:(Value.slice aT j capT).ownBlock≠some (w.heap.size+1):=by intro e;obtain⟨_,c',kt⟩:=ba bn _ e;have:=hk.symm.trans kt;cases this
   go_wp2_with fail
   go_region_law (first
    | (go_simp;go_at_call 133;refine(lu Ld lv).mono ?_;rintro e w4 ⟨v4,rfl,dv,bt1,mt1,dt1,bt2,mt2,dt2,b4,rfl,jK,_⟩;have ut:=hk.drew.grown dv (by simp);have y4:=ut.cell 7;simp at y4;have EY:=aJ bn (w':=w4) (fun g c hb=>hb.drew.grown dv (by simp));have CE:=aB (aE bU) dv;have Sd:wr.heap.size<=w4.heap.size:=dv.size;have Eb:=ut.lt)
    | (refine bQ rfl _ _ 184 rfl w.heap.size 215 j0 _ 1 8 underlying184 hj jz0 jz1 jz2 rfl (by decide) (.slice aT j capT) j cs rfl (EY.alloc _) ⟨w4.heap.size,0,none⟩ 1 1 [.pointer (some ⟨b4,0,none⟩)] rfl rfl (fun j u hj=>gE w4 _ 215 j u hj) (by simp[Value.oneCell']) (by simp[maxLen];omega) (by omega) (by simp;omega) ?_;intro v' w' cG cD;have Ed:=(ut.alloc (.cells #[.pointer (some ⟨b4,0,none⟩)] 215)).grown cD (fun e=>uF e.symm);have k7:=Ed.cell 7;have q7:=Ed.frozen 7;simp at k7;obtain⟨a',cap',rfl,_⟩:=aG cG))
   all_goals
    go_wp2_with fail;go_roundw
    case rel=>
     have gA:w.grownBy w' none:=by
      have g0:=aB CE (aC w4 (.cells #[.pointer (some ⟨b4,0,none⟩)] 215) none);cases hb:(Value.slice aT j capT).ownBlock with
      |none=>rw[hb]at cD;exact aB g0 cD
      |some g=>rw[hb]at cD;exact aO g0 (ba bn g hb).1 cD
     have D9:=Ed.set 7 (.slice a' (j+1) cap');simp at D9;refine⟨j+1,.slice a' (j+1) cap',cs++[.pointer (some ⟨b4,0,none⟩)],by simp,by omega,aO gA (Nat.le_succ _) (aD w' (w.heap.size+1) 7 _),?_,D9,cG.kept (aD w' (w.heap.size+1) 7 _) (fX cG Ed (by decide)),?_⟩
     ·have:=D9.lt;exact this
     intro k uH Ah;by_cases TB:k<j
     ·obtain⟨b,x1,x2⟩:=HC.out k TB Ah;exact⟨b,x1,by rw[gAl (by have:=bn.1;omega)];exact x2⟩
     have MO:k=j:=by omega
     subst MO;have ht:=TA.out;rw[gEg Ah]at ht;refine⟨b4,by rw[Option.some.inj ht];exact jK,?_⟩;rw[ajs (by have:=bn.1;omega)];have:=bn.1;simp[this]
    case measure=>simp[intOf];omega
  have pB:¬(j:Int)<(st.idx.length:Int):=by omega
  have Jg:jC az wr tb (.slice aT j capT) T:=by
   have TC:T.length=j:=by rw[TL.out];omega
   exact q9 (lo:=w.heap.size) (by rw[TC];exact bn) hB (fun k hk=>HC.out k (by omega) hk)
  have xh:=bU;have jY:=hk;have L6:=h.kept xh;have xW:=L6.base_le;have TD:=L6.blk.lt;have y0:=jY.cell 0;have y1:=jY.cell 1;have y2:=jY.cell 2;have y3:=jY.cell 3;have y4:=jY.cell 4;have y5:=jY.cell 5;have y6:=jY.cell 6;have y7:=jY.cell 7;have z4:=L6.blk.cell 4;simp at y0 y1 y2 y3 y4 y5 y6 y7 z4;obtain⟨i0,hi,fo,eP,eV⟩:=info_parts pA;have kw:wr.grownBy (wr.alloc (.cells #[.int .i64 st.aa.au,.int .i64 st.aa.ab,.int .i64 st.aa.aj,.int .i64 st.aa.of,.int .i64 st.aa.ak,.int .i64 0,.int .i64 st.num,(.slice aT j capT)] 186)).drew none:=aE (aC _ _ _);have iE:=aB xh kw;have h9:=h.kept iE;have W9:=bc.none iE hB;have CF:=gV.push (st:={aa:=st.aa,index:=0,num:=st.num,ah:=T}) (qj.kept fun g c hb=>hb.grown iE (by simp)) ir.1 (Jg.kept fun g c hb=>hb.grown kw (by simp));have Jh:(wr.alloc (.cells #[.int .i64 st.aa.au,.int .i64 st.aa.ab,.int .i64 st.aa.aj,.int .i64 st.aa.of,.int .i64 st.aa.ak,.int .i64 0,.int .i64 st.num,(.slice aT j capT)] 186)).drew.ownsRow az 186 8 (.slice pa s.ay.length pcap) s.ay.length cp:=aJ ir fun g c hb=>hb.grown iE (by simp);go_wp2_with fail
  go_region_law (refine bQ rfl _ _ 108 rfl az 186 i0 _ 8 80 underlying108 hi fo eP eV rfl (by decide) _ s.ay.length cp rfl Jh ⟨wr.heap.size,0,none⟩ 1 1 [.int .i64 st.aa.au,.int .i64 st.aa.ab,.int .i64 st.aa.aj,.int .i64 st.aa.of,.int .i64 st.aa.ak,.int .i64 0,.int .i64 st.num,(.slice aT j capT)] rfl rfl (fun j u hj=>gE wr _ 186 j u hj) (by simp[Value.oneCell']) (by simp[maxLen];omega) (by omega) (by simp;omega) ?_;intro v' w' bn bU;obtain⟨df,hL,hW⟩:=h9.appSteps bU (by simpa [wV] using bn) CF (by simp;omega);have k4:=df.cell 4;have q4:=df.frozen 4;simp at k4;obtain⟨a',cap',rfl,_⟩:=aG bn)
  all_goals
   go_wp2_with fail;go_end0;rw[MN.out];refine⟨rfl,W9.trans hW,fun g c ty qY oc hb=>?_,_,_,_,hL⟩;have q1:=hb.grown iE (by simp);have q2:=q1.grown bU (by
    intro e
    obtain⟨_,c',kt⟩:=AJ g e.symm
    have:=hb.symm.trans kt
    cases this;exact oc rfl)
   exact aF (aD _ l 4 _) df q2 qY
end
