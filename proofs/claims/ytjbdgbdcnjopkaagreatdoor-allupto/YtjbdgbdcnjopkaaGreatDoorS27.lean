import Derived.Test.YtjbdgbdcnjopkaaGreatDoorS26
import Derived.Deep.CutRange
import Derived.Laws.AppendOwnNone
namespace Go.Proofs.YtjbdgbdcnjopkaaGreatDoor
open Go.RowKit Tryz
set_option linter.all false
set_option maxRecDepth 100000
set_option maxHeartbeats 4000000
theorem qt{P:Program}{ops:Array Oper}{o:Oper}{a:Act}{w:World}{K:Act->World->Prop}{Q:Exit->Act->World->Prop}{E:Prop}(hg:o.guard=none) (s x:Operand) (t:TypeId) (ex:o.op=Op.call {callee:=Callee.builtin Builtin.append,args:=#[s,x],argTypes:=#[t,t]})(az:Nat) (e:TypeId) (i:TypeInfo) (size:Nat) (ht:P.underlying t=some (.slice e)) (hi:P.info? e=some i)(v:Value) (n:Nat) (xs:List Value) (hs:a.eval s=v) (bn:w.ownsRow az e size v n xs)(hx:a.eval x=.slice none 0 0) (hK:K (a.put o.dst v) w):if Region.wanted o (yielded ops a.tmps)=true then Oper.wp P o a w K Q else E:=by
 have hw:Region.wanted o (yielded ops a.tmps)=true:=by simp[Region.wanted,hg]
 rw[ajd hw];have hr:=run_append_owned_none (P:=P) (w:=w) az t o.type e i size ht hi v n xs bn;unfold Oper.wp execOp;simp only[ex,resolve,invoke,builtin,Sem.run_bind,Sem.run_pure,Result.andThen_ok,List.map_toArray,List.map_cons,List.map_nil,hs,hx,hr];exact hK
def aR(w:World)(v:Value)(l:List Nat):Prop:=w.ownsRow 0 3 1 v l.length (aV l)
theorem aR.keep{w w':World}{v:Value}{l:List Nat}(h:aR w v l)(hk:∀g c,Blk w g c 3->Blk w' g c 3):aR w' v l:=aJ h hk
theorem aR.cases{w:World}{v:Value}{l:List Nat}(h:aR w v l):(v=.slice none 0 0/\l=[])\/∃g cap,v=.slice (some ⟨g,0,none⟩) l.length cap/\∀j u,(aV l)[j]?=some u->w.cell? ⟨g,j,none⟩=some u:=by
 rcases h.2 with⟨e1,e2⟩|⟨g,cap,cur,e1,e2,e3,e4,e5,e6,e7⟩
 ·exact .inl ⟨e1,List.length_eq_zero_iff.1 e2⟩
 refine .inr ⟨g,cap,e1,fun j u hj=>?_⟩;have WO:j<l.length:=by have:=(gEs.1 hj).1;simpa [aV] using this
 subst e1;rw[(bK h (by omega)).1];exact hj
def BY(w:World)(v:Value)(sigs:List Sig):Prop:=
 ∃g cap c,v=.slice (some ⟨g,0,none⟩) sigs.length cap/\Blk w g c 46/\∀i (h:i<sigs.length),∃vt vg,c[2*i]?=some vt/\c[2*i+1]?=some vg/\aR w vt sigs[i].1/\aR w vg sigs[i].2
theorem lX{bs:List UInt8}{at_:Nat}{er:Er}{lo hi:Nat}(h:lo<=hi):(bH bs at_ er lo hi).1<=hi:=by
 unfold bH;simp only;generalize dN bs at_ er=r;by_cases h1:r.2.2.1=0/\(r.1<lo\/hi<r.1)
 ·rw[ajd h1];simp[h]
 rw[ajc h1];by_cases h2:r.2.2.1=0
 ·rw[ajd h2];omega
 rw[ajc h2];exact h
theorem vU{bs:List UInt8}:∀(n:Nat) {at_:Nat}{er:Er}{l:List Nat},(eR bs n at_ er l).2.1<=at_+n/\(eR bs n at_ er l).1.length<=l.length+n
 |0,at_,er,l=>by simp[eR]
 |n+1,at_,er,l=>by
  rw[eR];split
  ·have h1:=(ij (at_:=at_) (er:=er) (bs:=bs) (lo:=1) (hi:=2)).1;have h2:=vU (bs:=bs) n (at_:=(bH bs at_ er 1 2).2.1) (er:=(bH bs at_ er 1 2).2.2) (l:=l++[(bH bs at_ er 1 2).1]);simp only[ajb,ajr,ajv]at h2;omega
  simp
theorem qu{bs:List UInt8}{at_:Nat}{er:Er}{most:Nat}:(dO bs at_ er most).2.1<=at_+1+most/\(dO bs at_ er most).1.length<=most:=by have h1:=(ij (at_:=at_) (er:=er) (bs:=bs) (lo:=0) (hi:=most)).1;have h2:=lX (at_:=at_) (er:=er) (bs:=bs) (lo:=0) (hi:=most) (by omega);have h3:=vU (bs:=bs) (bH bs at_ er 0 most).1 (at_:=(bH bs at_ er 0 most).2.1) (er:=(bH bs at_ er 0 most).2.2) (l:=[]);unfold dO;simp only[ajv]at h3;omega
section
variable {w:World}{x:Nat}{s:ByteArray}{at_:Nat}{er:Er}
theorem uQ(h:Sc w x s at_ er)(hs:s.size<=9223372036854775807)(ha:at_<=80000){m:Nat}{vs vf:Value}{sigs:List Sig}(hm:Blk w m #[vs,vf] 38)(iD:BY w vs sigs)(ec:0<sigs.length)(Ab:sigs.length<=20)(Uk:∀sg∈sigs,sg.1.length<=100):Calls prog 55 #[.pointer (some ⟨x,0,none⟩),.pointer (some ⟨m,0,none⟩)] w fun r w'=>∃f vt vg vl sg,r=.returned (.pointer (some ⟨f,0,none⟩))/\w.heap.size<=f/\w.grownBy w' (some x)/\Sc w' x s (cK s.data.toList sigs.length at_ er).2.1 (cK s.data.toList sigs.length at_ er).2.2 /\ sigs[(cK s.data.toList sigs.length at_ er).1.sig]?=some sg/\Blk w' f #[vt,vg,vl,.int .i64 (cK s.data.toList sigs.length at_ er).1.ax,.int .i64 (cK s.data.toList sigs.length at_ er).1.stop,.slice none 0 0] 49/\aR w' vt sg.1/\aR w' vg sg.2/\aR w' vl (sg.1++(cK s.data.toList sigs.length at_ er).1.more):=by
 have hN:=jr h hs (by omega) 0 (sigs.length-1) (by decide) (by omega);obtain⟨n1,n3⟩:=ij (at_:=at_) (er:=er) (bs:=s.data.toList) (lo:=0) (hi:=sigs.length-1);have n2:=lX (at_:=at_) (er:=er) (bs:=s.data.toList) (lo:=0) (hi:=sigs.length-1) (by omega);obtain⟨F,hF⟩:=aja (cK s.data.toList sigs.length at_ er);rw[hF];unfold cK at hF;obtain⟨r,hr⟩:=aja (bH s.data.toList at_ er 0 (sigs.length-1));rw[hr]at hN n1 n2 hF;obtain⟨k,at1,er1⟩:=r;simp only at hN n1 n2 hF;clear hr n3;obtain⟨r,hr⟩:=aja (dO s.data.toList at1 er1 8);have hT:=fun (W:World) (hW:Sc W x s at1 er1)=>oS hW hs (by omega) 8 (by decide);have t1:=qu (at_:=at1) (er:=er1) (bs:=s.data.toList) (most:=8);rw[hr]at hF hT t1;obtain⟨more,at2,er2⟩:=r;simp only at hF hT t1;clear hr;obtain⟨t1,t2⟩:=t1;have hA:=fun (W:World) (hW:Sc W x s at2 er2)=>pH hW hs (by omega);have a1:=mX (at_:=at2) (er:=er2) (bs:=s.data.toList);obtain⟨r,hr⟩:=aja (dN s.data.toList at2 er2);rw[hr]at hF hA a1;obtain⟨na,at3,er3⟩:=r;simp only at hF hA a1;clear hr;have hB:=fun (W:World) (hW:Sc W x s at3 er3)=>pH hW hs (by omega);have b1:=mX (at_:=at3) (er:=er3) (bs:=s.data.toList);obtain⟨r,hr⟩:=aja (dN s.data.toList at3 er3);rw[hr]at hF hB b1;obtain⟨nb,at4,er4⟩:=r;simp only at hF hB b1;clear hr;obtain⟨a1,a2⟩:=a1;obtain⟨b1,b2⟩:=b1;have HF:Hid _:=hF;clear hF;obtain⟨gs,caps,c,rfl,If,qb⟩:=iD;have hk:k<sigs.length:=by omega
 obtain⟨vt,vg,y0,y1,rt,rg⟩:=qb k hk;obtain⟨sg,Fv⟩:=aja (sigs[k]);have h1:=Uk _ (ajw hk);rw[Fv]at rt rg h1;have iD?:Hid (sigs[k]?=some sg):=by show _=_;rw[gEg hk,Fv]
 have m0:=hm.cell 0;simp at m0;obtain⟨L,hL⟩:=aja sigs.length;have ta:=hm;rw[hL]at hk ec Ab m0 hN n2 ta;have ZX:(L:Int)<=20:=by omega
 have Iq:0<(L:Int):=by omega
 have jt:((L-1:Nat):Int)=(L:Int)-1:=by omega
 rw[jt]at hN;have rQ:(k:Int)<(L:Int):=by omega
 have xV:=Blk.lt h;obtain⟨i0,hi,fo,eP,eV⟩:=info_parts ml;clear Fv jt qb hm hL;go_enter func55,ntmps55;go_wp2_with fail;refine hN.mono ?_;clear hN;rintro e w2 ⟨rfl,aP,gY⟩;have P0:Blk w2 gs c 46:=aF aP h If (by decide);have rL:Blk w2 m #[.slice (some ⟨gs,0,none⟩) L caps,vf] 38:=aF aP h ta (by decide);have rt2:aR w2 vt sg.1:=rt.keep fun g c hb=>aF aP h hb (by decide);have rg2:aR w2 vg sg.2:=rg.keep fun g c hb=>aF aP h hb (by decide);have k0:=rL.cell 0;simp at k0;have k1:w2.cell? ⟨gs,k*2,none⟩=some vt:=by rw[P0.cell,ajC];exact y0
 have k2:w2.cell? ⟨gs,k*2+1,none⟩=some vg:=by rw[P0.cell,ajC];exact y1
 have uK:=aP.size;clear y0 y1 m0 ta;go_upto_region 3 with fail
 have rt3:aR (w2.alloc (.cells #[vt,vg,.slice none 0 0,.int .i64 0,.int .i64 0,.slice none 0 0] 49)) vt sg.1:=rt2.keep fun g c hb=>hb.alloc _;have kv:=Blk.new w2 #[vt,vg,.slice none 0 0,.int .i64 0,.int .i64 0,.slice none 0 0] 49;have co:w.grownBy (w2.alloc (.cells #[vt,vg,.slice none 0 0,.int .i64 0,.int .i64 0,.slice none 0 0] 49)).drew (some x):=aE (aB aP (aC _ _ _));have vQ:Sc (w2.alloc (.cells #[vt,vg,.slice none 0 0,.int .i64 0,.int .i64 0,.slice none 0 0] 49)).drew x s at1 er1:=(Blk.alloc gY _).drew;go_cut [] from 12 to 130 (fun wc=>∃a' cap',w.grownBy wc (some x)/\Sc wc x s at1 er1/\Blk wc w2.heap.size #[vt,vg,.slice a' sg.1.length cap',.int .i64 0,.int .i64 0,.slice none 0 0] 49/\wc.ownsRow (w2.heap.size+1) 3 1 (.slice a' sg.1.length cap') sg.1.length (aV sg.1))
 case first=>
  rcases rt3.cases with⟨rfl,oH⟩|⟨gt,ct,rfl,iX⟩
  ·have HN:Hid _:=oH;clear oH
   go_region_law (refine qt rfl _ _ 44 rfl 0 3 i0 1 underlying44 hi (.slice none 0 0) 0 [] rfl (ajj _ _ _ _) rfl ?_)
   all_goals
    go_wp2_with fail;go_meet
    refine⟨none,0,co,vQ,?_,?_⟩
    ·rw[HN.out];exact kv.drew
    rw[HN.out];exact ajj _ _ _ _
  have q1:∀j u,(aV sg.1)[j]?=some u->(w2.alloc (.cells #[.slice (some ⟨gt,0,none⟩) sg.1.length ct,vg,.slice none 0 0,.int .i64 0,.int .i64 0,.slice none 0 0] 49)).drew.cell? ((⟨gt,0,none⟩:Addr).add j)=some u:=fun j u hj=>by rw[cJ,ajx];exact iX j u hj
  have q2:∀u∈aV sg.1,u.oneCell'=true:=by simp[aV,Value.oneCell']
  have q3:0+sg.1.length<=maxLen:=by simp[maxLen];omega
  have q4:(0+sg.1.length)*8<=140737488355328:=by omega
  have q5:w2.heap.size+1<=(w2.alloc (.cells #[.slice (some ⟨gt,0,none⟩) sg.1.length ct,vg,.slice none 0 0,.int .i64 0,.int .i64 0,.slice none 0 0] 49)).drew.heap.size:=by simp
  have q6:(aV sg.1).length=sg.1.length*1:=by simp[aV]
  have Q1:Hid _:=q1;have Q2:Hid _:=q2;clear iX q1 q2
  go_region_law (refine bQ rfl _ _ 44 rfl (w2.heap.size+1) 3 i0 _ 1 8 underlying44 hi fo eP eV rfl (by decide) (.slice none 0 0) 0 [] rfl (ajj _ _ _ _) ⟨gt,0,none⟩ sg.1.length ct (aV sg.1) rfl q6 Q1.out Q2.out q3 q4 q5 ?_;intro v' w' bn bU;have jK:=kv.drew.grown bU (by simp[Value.ownBlock]);have k4:=jK.cell 2;have f4:=jK.frozen 2;simp at k4;obtain⟨a',cap',rfl,_⟩:=aG bn)
  all_goals
   go_wp2_with fail;go_meet
   have Fw:Sc w' x s at1 er1:=Blk.grown vQ bU (by simp[Value.ownBlock]);have bY:=jK.set 2 (.slice a' sg.1.length cap');simp at bY;refine⟨a',cap',aO (aB co (oR bU)) uK (aD _ _ _ _),aF (aD _ _ _ _) jK Fw (by decide),bY,?_⟩;refine aJ ?_ (fun g c hb=>aF (aD _ _ _ _) jK hb (by decide));simpa using bn
 case rest=>
  obtain⟨w3,rfl⟩:∃z,z=wc:=⟨wc,rfl⟩;obtain⟨a',cap',qb,JF,oO,XE⟩:=hcut;clear rt3 kv co vQ k0 k1 k2;have ya:=hT w3 JF;clear hT;go_wp2_with fail;refine ya.mono ?_;clear ya;rintro e w4 ⟨v,rfl,dv,mY,Fw⟩;have jK:Blk w4 w2.heap.size _ 49:=aF dv JF oO (by decide);have EY:w4.ownsRow (w2.heap.size+1) 3 1 (.slice a' sg.1.length cap') sg.1.length (aV sg.1):=aJ XE fun g c hb=>aF dv JF hb (by decide);have JG:=aB qb dv;have c2:=jK.cell 2;have f2:=jK.frozen 2;simp at c2;have Ul:w2.heap.size+1<=w4.heap.size:=jK.lt;have rm:aR w4 v more:=dj mY;obtain⟨av,cv,rfl,_,_⟩:=aG mY;have rc:=rm.cases;obtain⟨nm,dL⟩:=aja more.length;rw[dL]at rc ⊢;have t2':nm<=8:=by omega
  have HM:Hid _:=dL;have RC:Hid _:=rc;clear rc dL rm mY;go_upto_region 5 with fail
  go_cut [] from 12 to 130 (fun wc=>∃a2 cap2,w.grownBy wc (some x)/\Sc wc x s at2 er2/\Blk wc w2.heap.size #[vt,vg,.slice a2 (sg.1.length+nm) cap2,.int .i64 0,.int .i64 0,.slice none 0 0] 49/\wc.ownsRow (w2.heap.size+1) 3 1 (.slice a2 (sg.1.length+nm) cap2) (sg.1.length+nm) (aV (sg.1++more)))
  case first=>
   rcases RC.out with⟨hv,oH⟩|⟨gm,cm,hv,Um⟩
   ·have HN:Hid _:=oH;clear oH;simp only[Value.slice.injEq]at hv;obtain⟨rfl,rfl,rfl⟩:=hv;go_wp2_with (at_builtin;refine wpList_append_own_none rfl _ _ 44 rfl (w2.heap.size+1) 3 i0 1 underlying44 hi (.slice a' sg.1.length cap') sg.1.length (aV sg.1) rfl EY rfl ?q1)
    go_meet
    have bY:=jK.set 2 (.slice a' sg.1.length cap');simp at bY;refine⟨a',cap',aO JG uK (aD _ _ _ _),aF (aD _ _ _ _) jK Fw (by decide),?_,?_⟩
    ·simpa using bY
    rw[HN.out,List.append_nil];exact aJ EY (fun g c hb=>aF (aD _ _ _ _) jK hb (by decide))
   simp only[Value.slice.injEq]at hv;obtain⟨rfl,-,rfl⟩:=hv;go_wp2_with (at_builtin;refine wpList_append_own_at _ rfl _ _ 44 rfl (w2.heap.size+1) 3 i0 (.int .i64 0) 1 8 underlying44 hi fo eP eV rfl (by decide) (.slice a' sg.1.length cap') sg.1.length (aV sg.1) rfl EY ⟨gm,0,none⟩ nm _ (aV more) rfl ?pp1 ?pp2 ?pp3 ?pp4 ?pp5 ?pp6 ?pp7)
   case pp1=>simp[aV,HM.out]
   case pp2=>intro j u hj;rw[cJ,ajx];exact Um j u hj
   case pp3=>simp[aV,Value.oneCell']
   case pp4=>simp[maxLen];omega
   case pp5=>omega
   case pp6=>exact Ul
   case pp7=>
    intro v' w' cG cD _ _;obtain⟨a2,cap2,rfl,_,_⟩:=aG cG;have sF:some w2.heap.size≠(Value.slice a' sg.1.length cap').ownBlock:=fun e=>by have:=(ba EY _ e.symm).1;omega
    have ph:some x≠(Value.slice a' sg.1.length cap').ownBlock:=fun e=>by have:=(ba EY _ e.symm).1;omega
    have vG:=jK.grown cD sF;have c5:=vG.cell 2;have f5:=vG.frozen 2;simp at c5;have BZ:Sc w' x s at2 er2:=Blk.grown Fw cD ph;have jA:w.grownBy w' (some x):=by
     cases i7:(Value.slice a' sg.1.length cap').ownBlock with
     |none=>rw[i7]at cD;exact aB JG (oR cD)
     |some g=>rw[i7]at cD;exact aO JG (by have:=(ba EY g i7).1;omega) cD
    clear sF ph;go_wp2_with fail;go_meet
    have bY:=vG.set 2 (.slice a2 (sg.1.length+nm) cap2);simp at bY;refine⟨a2,cap2,aO jA uK (aD _ _ _ _),aF (aD _ _ _ _) vG BZ (by decide),bY,?_⟩;have:aV (sg.1++more)=aV sg.1++aV more:=by simp[aV]
    rw[this];exact aJ cG (fun g c hb=>aF (aD _ _ _ _) vG hb (by decide))
  case rest=>
   obtain⟨w5,rfl⟩:∃z,z=wc:=⟨wc,rfl⟩;obtain⟨a2,cap2,jA,BZ,vG,XF⟩:=hcut;clear RC c2 f2 EY jK JG dv oO XE qb JF Fw;obtain⟨d0,d1,d2,d3⟩:=BZ.cells;have XG:=hA w5 BZ;clear hA;go_wp2_with fail;refine XG.mono ?_;clear XG;rintro e w6 ⟨rfl,oM,Ek⟩;have kI:=hB w6 Ek;clear hB;go_wp2_with fail;refine kI.mono ?_;clear kI;rintro e w7 ⟨rfl,rI,qd⟩;have JH:=aB oM rI;have rH:Blk w7 w2.heap.size _ 49:=aF JH BZ vG (by decide);have JI:=aJ XF fun g c hb=>aF JH BZ hb (by decide);have Fy:=aB jA JH;clear JH rI oM jA vG XF Ek BZ d0 d1 d2 d3;have Un:(na:Int)<256:=by omega
   have aaf:(nb:Int)<256:=by omega
   have aag:(at2:Int)<=90000:=by omega
   have aah:(at4:Int)<=90000:=by omega
   obtain⟨d0,d1,d2,d3⟩:=qd.cells;have I0:x≠w2.heap.size:=by omega
   have hfx:w2.heap.size≠x:=by omega
   have FIN:Hid (∀(W:World) (er':Er),Sc W x s at4 er'->Blk W w2.heap.size #[vt,vg,.slice a2 (sg.1.length+nm) cap2,.int .i64 0,.int .i64 0,.slice none 0 0] 49->W.ownsRow (w2.heap.size+1) 3 1 (.slice a2 (sg.1.length+nm) cap2) (sg.1.length+nm) (aV (sg.1++more))->w.grownBy W (some x)->F=(⟨k,more,at4,at4+(256*na+nb)⟩,at4+(256*na+nb),er') ->
     ∃f vt vg vl sg,Ending.returned (.pointer (some ⟨w2.heap.size,0,none⟩))=Ending.returned (.pointer (some ⟨f,0,none⟩))/\w.heap.size<=f/\w.grownBy (((W.setCell ⟨w2.heap.size,3,none⟩ (.int .i64 at4)).setCell ⟨w2.heap.size,4,none⟩ (.int .i64 ((at4+(256*na+nb):Nat):Int))).setCell ⟨x,1,none⟩ (.int .i64 ((at4+(256*na+nb):Nat):Int))) (some x) /\
     Sc (((W.setCell ⟨w2.heap.size,3,none⟩ (.int .i64 at4)).setCell ⟨w2.heap.size,4,none⟩ (.int .i64 ((at4+(256*na+nb):Nat):Int))).setCell ⟨x,1,none⟩ (.int .i64 ((at4+(256*na+nb):Nat):Int))) x s F.2.1 F.2.2/\sigs[F.1.sig]?=some sg /\
     Blk (((W.setCell ⟨w2.heap.size,3,none⟩ (.int .i64 at4)).setCell ⟨w2.heap.size,4,none⟩ (.int .i64 ((at4+(256*na+nb):Nat):Int))).setCell ⟨x,1,none⟩ (.int .i64 ((at4+(256*na+nb):Nat):Int))) f #[vt,vg,vl,.int .i64 F.1.ax,.int .i64 F.1.stop,.slice none 0 0] 49/\aR (((W.setCell ⟨w2.heap.size,3,none⟩ (.int .i64 at4)).setCell ⟨w2.heap.size,4,none⟩ (.int .i64 ((at4+(256*na+nb):Nat):Int))).setCell ⟨x,1,none⟩ (.int .i64 ((at4+(256*na+nb):Nat):Int))) vt sg.1/\aR (((W.setCell ⟨w2.heap.size,3,none⟩ (.int .i64 at4)).setCell ⟨w2.heap.size,4,none⟩ (.int .i64 ((at4+(256*na+nb):Nat):Int))).setCell ⟨x,1,none⟩ (.int .i64 ((at4+(256*na+nb):Nat):Int))) vg sg.2/\aR (((W.setCell ⟨w2.heap.size,3,none⟩ (.int .i64 at4)).setCell ⟨w2.heap.size,4,none⟩ (.int .i64 ((at4+(256*na+nb):Nat):Int))).setCell ⟨x,1,none⟩ (.int .i64 ((at4+(256*na+nb):Nat):Int))) vl (sg.1++F.1.more)):=by
    intro W er' sW bW oW gW fW;rw[fW];have b1:=(bW.set 3 (.int .i64 at4)).set 4 (.int .i64 ((at4+(256*na+nb):Nat):Int));have g1:W.grownBy ((W.setCell ⟨w2.heap.size,3,none⟩ (.int .i64 at4)).setCell ⟨w2.heap.size,4,none⟩ (.int .i64 ((at4+(256*na+nb):Nat):Int))) (some w2.heap.size):=aB (aD _ _ _ _) (aD _ _ _ _);have s1:Sc ((W.setCell ⟨w2.heap.size,3,none⟩ (.int .i64 at4)).setCell ⟨w2.heap.size,4,none⟩ (.int .i64 ((at4+(256*na+nb):Nat):Int))) x s at4 er':=aF g1 bW sW (by decide);have gT:=aB (aO gW uK g1) (aD _ x 1 (.int .i64 ((at4+(256*na+nb):Nat):Int)));have o1:=aJ oW fun g c hb=>aF (aD _ x 1 (.int .i64 ((at4+(256*na+nb):Nat):Int))) s1 (aF g1 bW hb (by decide)) (by decide);refine⟨w2.heap.size,vt,vg,.slice a2 (sg.1.length+nm) cap2,sg,rfl,uK,gT,s1.setAt _,iD?.out,?_,rt.keep fun g c hb=>aF gT h hb (by decide),rg.keep fun g c hb=>aF gT h hb (by decide),?_⟩
    ·have:=aF (aD _ x 1 (.int .i64 ((at4+(256*na+nb):Nat):Int))) s1 b1 (by decide);simpa using this
    have aQ:(sg.1++more).length=sg.1.length+nm:=by rw[ajb,HM.out]
    unfold aR;rw[aQ];exact dj o1
   have z3:=rH.cell 3;have z4:=rH.cell 4;have y3:=rH.frozen 3;have y4:=rH.frozen 4;have y1:=Blk.frozen qd 1;simp at z3 z4;have jt:((at4+(256*na+nb):Nat):Int)=(at4:Int)+(256*(na:Int)+(nb:Int)):=by omega
   have aQ:s.data.toList.length=s.size:=by rw[ajF];rfl
   rw[aQ]at HF;have aai:(s.size:Int)<=9223372036854775807:=by omega
   by_cases h0:er4.1=0
   ·rw[h0]at d2;by_cases uR:256*na+nb<1\/400<256*na+nb
    ·have HW:Hid (F=(⟨k,more,at4,at4+(256*na+nb)⟩,at4+(256*na+nb),(2,at2))):=by show _=_;rw[<-HF.out,ajd (show er4.1=0/\(256*na+nb<1\/400<256*na+nb) from ⟨h0,uR⟩),ajc (by simp)]
     have JJ:=i6 qd 2 at2;have gK:noS er4 2 at2=(2,at2):=by unfold noS;rw[ajd h0]
     rw[gK]at JJ;clear gK h0 HF;rcases uR with uR|uR
     ·have bM:256*(na:Int)+(nb:Int)<1:=by omega
      clear uR jt aQ;have jt:((at4+(256*na+nb):Nat):Int)=(at4:Int)+(256*(na:Int)+(nb:Int)):=by omega
      go_wp2_with fail;refine JJ.mono ?_;clear JJ;rintro e w8 ⟨rfl,mS,td⟩;have xo:=aF mS qd rH (by decide);have P1:=aJ JI fun g c hb=>aF mS qd hb (by decide);have Fz:=aB Fy mS;obtain⟨d0,d1,d2,d3⟩:=td.cells;simp only at d2;have z3:=xo.cell 3;have z4:=xo.cell 4;have y3:=xo.frozen 3;have y4:=xo.frozen 4;have y1:=Blk.frozen td 1;simp at z3 z4;clear mS;go_wp2_with fail;go_quiet (fail)
      go_wp2_with fail;go_ret;have:=FIN.out (w8.drewN nq) (2,at2) td xo P1 (bd Fz nq) HW.out;simp only[jt]at this;exact this
     have xf:1<=256*(na:Int)+(nb:Int):=by omega
     have hgt:400<256*(na:Int)+(nb:Int):=by omega
     clear uR;go_wp2_with fail;refine JJ.mono ?_;clear JJ;rintro e w8 ⟨rfl,mS,td⟩;have xo:=aF mS qd rH (by decide);have P1:=aJ JI fun g c hb=>aF mS qd hb (by decide);have Fz:=aB Fy mS;obtain⟨d0,d1,d2,d3⟩:=td.cells;simp only at d2;have z3:=xo.cell 3;have z4:=xo.cell 4;have y3:=xo.frozen 3;have y4:=xo.frozen 4;have y1:=Blk.frozen td 1;simp at z3 z4;clear mS;go_wp2_with fail;go_quiet (fail)
     go_wp2_with fail;go_ret;have:=FIN.out (w8.drewN nq) (2,at2) td xo P1 (bd Fz nq) HW.out;simp only[jt]at this;exact this
    have xf:1<=256*(na:Int)+(nb:Int):=by omega
    have jM:256*(na:Int)+(nb:Int)<=400:=by omega
    by_cases ju:s.size<at4+(256*na+nb)
    ·have HW:Hid (F=(⟨k,more,at4,at4+(256*na+nb)⟩,at4+(256*na+nb),(2,s.size))):=by show _=_;rw[<-HF.out,ajc (show ¬(er4.1=0/\(256*na+nb<1\/400<256*na+nb)) from fun c=>uR c.2),ajd ⟨h0,ju⟩]
     have JJ:=fun n=>i6 (w:=w7.drewN n) (x:=x) (s:=s) (at_:=at4) (er:=er4) qd 2 s.size;have gK:noS er4 2 s.size=(2,s.size):=by unfold noS;rw[ajd h0]
     rw[gK]at JJ;have Af:(s.size:Int)<(at4:Int)+(256*(na:Int)+(nb:Int)):=by omega
     have hd:decide ((s.size:Int)<(at4:Int)+(256*(na:Int)+(nb:Int)))=true:=by simpa using Af
     clear gK h0 HF uR ju;go_wp2_with fail;go_quiet (fail)
     go_wp2_with fail;refine(JJ nq).mono ?_;clear JJ;rintro e w8 ⟨rfl,mS,td⟩;have xo:=aF mS (show Sc (w7.drewN nq) x s at4 er4 from qd) (show Blk (w7.drewN nq) w2.heap.size _ 49 from rH) (by decide)
     have P1:=aJ JI fun g c hb=>aF mS (show Sc (w7.drewN nq) x s at4 er4 from qd) hb (by decide)
     have Fz:=aB (bd Fy nq) mS;obtain⟨d0,d1,d2,d3⟩:=td.cells;simp only at d2;have z3:=xo.cell 3;have z4:=xo.cell 4;have y3:=xo.frozen 3;have y4:=xo.frozen 4;have y1:=Blk.frozen td 1;simp at z3 z4;clear mS;go_wp2_with fail;go_ret;have:=FIN.out w8 (2,s.size) td xo P1 Fz HW.out;simp only[jt]at this;exact this
    have HW:Hid (F=(⟨k,more,at4,at4+(256*na+nb)⟩,at4+(256*na+nb),er4)):=by show _=_;rw[<-HF.out,ajc (show ¬(er4.1=0/\(256*na+nb<1\/400<256*na+nb)) from fun c=>uR c.2),ajc (fun c=>ju c.2)]
    have Af:(at4:Int)+(256*(na:Int)+(nb:Int))<=(s.size:Int):=by omega
    have hd:decide ((s.size:Int)<(at4:Int)+(256*(na:Int)+(nb:Int)))=false:=by simpa using Af
    clear h0 HF uR ju;go_wp2_with fail;go_quiet (fail)
    go_wp2_with fail;go_ret;have:=FIN.out (w7.drewN nq) er4 qd rH JI (bd Fy nq) HW.out;simp only[jt]at this;exact this
   have e0:((er4.1:Int)==0)=false:=beqn (by omega);have HW:Hid (F=(⟨k,more,at4,at4+(256*na+nb)⟩,at4+(256*na+nb),er4)):=by show _=_;rw[<-HF.out,ajc (show ¬(er4.1=0/\_) from fun c=>h0 c.1),ajc (show ¬(er4.1=0/\_) from fun c=>h0 c.1)]
   clear h0 HF;go_wp2_with fail;go_quiet (fail)
   go_wp2_with fail;go_ret;have:=FIN.out (w7.drewN nq) er4 qd rH JI (bd Fy nq) HW.out;simp only[jt]at this;exact this
end
structure RB where
 aa:Nat
 aj:List Nat
 ak:List Nat
 l:List Nat
 dead:Bool
def aU(here:Nat)(b:RB)(er:Er)(t:Nat):Nat×RB×Er:=
 match b.l.getLast? with
 |none=>(t,b,if b.dead then er else noS er 7 here)
 |some x=>(if x=0 then t else x,{b with l:=b.l.dropLast},if x≠0/\t≠0/\x≠t then noS er 7 here else er)
def bh(here:Nat):RB->Er->List Nat->RB×Er
 |b,er,[]=>(b,er)
 |b,er,t::l=>bh here (aU here b er t).2.1 (aU here b er t).2.2 l
def cx(b:RB)(l:List Nat):RB:={b with l:=b.l++l}
def xq(b:RB):RB:={b with dead:=true,l:=[]}
def dl(here of:Nat):RB->Er->Nat->RB×Er
 |b,er,0=>(b,er)
 |b,er,k+1=>dl here of (aU here b er of).2.1 (aU here b er of).2.2 k
def te(here:Nat)(b:RB)(er:Er)(k:K5):RB×Er:=(cx (dl here k.of b er k.aj).1 [k.ak],(dl here k.of b er k.aj).2)
def vV(here:Nat)(b:RB)(er:Er):RB×Er:=
 let a:=aU here b er 1
 let t:=aU here a.2.1 a.2.2 0
 let u:=aU here t.2.1 t.2.2 t.1
 (cx u.2.1 [u.1],u.2.2)
def fZ(here:Nat):List Nat->List (List Nat)->Er->List Nat×Er
 |w,[],er=>(w,er)
 |w,x::l,er=>fZ here x l (if w=x then er else noS er 7 here)
def eS(here:Nat)(w0:List Nat)(ws:List (List Nat))(er:Er):List Nat×Er:=
 match ws with
 | []=>(w0,er)
 |x::l=>fZ here x l er
section
variable {here:Nat}{b:RB}{er:Er}
theorem pJ(h:er.1≠0)(e p:Nat):noS er e p=er:=by unfold noS;rw[ajc h]
theorem jS(h:er.1≠0)(t:Nat):(aU here b er t).2.2=er:=by
 unfold aU;split
 ·simp only[pJ h,ite_self]
 simp only[pJ h,ite_self]
theorem ik(h:er.1≠0):∀(l:List Nat) (b:RB),(bh here b er l).2=er
 | [],b=>rfl
 |t::l,b=>by rw[bh,jS h];exact ik h l _
theorem mq(h:er.1≠0)(of:Nat):∀(k:Nat) (b:RB),(dl here of b er k).2=er
 |0,b=>rfl
 |k+1,b=>by rw[dl,jS h];exact mq h of k _
theorem lY(h:er.1≠0):∀(ws:List (List Nat)) (w:List Nat),(fZ here w ws er).2=er
 | [],w=>rfl
 |x::l,w=>by rw[fZ,pJ h,ite_self];exact lY h l x
end
structure FA(b:RB)(F:PFr)(h:Nat):Prop where
 aj:F.aj=b.aj
 ak:F.ak=b.ak
 dead:F.dead=b.dead
 am:F.am=h
 loop:b.aa=3↔F.au=3
 iff:b.aa=4↔F.au=4\/F.au=5
def iU(bl:List RB):List Nat:=bl.flatMap (·.l)
theorem oV(bl:List RB)(b:RB):iU (bl++[b])=iU bl++b.l:=by simp[iU]
structure Rel(bl:List RB)(s:LSt):Prop where
 len:s.ae.length=bl.length
 af:s.af=iU bl
 fr:∀(i:Nat) (b:RB) (F:PFr),bl[i]?=some b->s.ae[i]?=some F->FA b F (iU (bl.take i)).length
section
variable {rest bl:List RB}{b b':RB}{s s':LSt}{er er':Er}{ar:Nat}
theorem Rel.top(h:Rel (rest++[b]) s):∃fs F,s.ae=fs++[F]/\fs.length=rest.length/\FA b F (iU rest).length/\s.af=iU rest++b.l/\s.ae.getLast?=some F:=by
 have hl:=h.len;simp only[ajb,ajr,ajv]at hl;rcases List.eq_nil_or_concat s.ae with h0|⟨fs,F,h0⟩
 ·rw[h0]at hl;simp at hl
 rw[h0]at hl;simp only[List.concat_eq_append]at h0;simp at hl;refine⟨fs,F,h0,hl,?_,?_,by rw[h0];simp⟩
 ·have:=h.fr rest.length b F (by simp) (by rw[h0,<-hl];simp);simpa using this
 rw[h.af,oV]
theorem Rel.swap(h:Rel (rest++[b]) s){fs:List PFr}{F F':PFr}(hf:s.ae=fs++[F])(xR:s'.ae=fs++[F'])(hs:s'.af=iU rest++b'.l)(ho:FA b' F' (iU rest).length):Rel (rest++[b']) s':=by
 have hl:=h.len;rw[hf]at hl;simp at hl;refine⟨by rw[xR];simp[hl],by rw[hs,oV],fun i c G hc hG=>?_⟩;rw[xR]at hG;by_cases hi:i<rest.length
 ·rw[gAl hi]at hc;rw[gAl (by omega)]at hG;have:=h.fr i c G (by rw[gAl hi];exact hc) (by rw[hf,gAl (by omega)];exact hG);rw[aju (by omega)]at this ⊢;exact this
 have jB:i=rest.length:=by have:=(gEs.1 hc).1;simp at this;omega
 subst jB;rw[<-hl]at hG;simp at hc hG;subst hc;subst hG;simpa using ho
theorem Rel.push(h:Rel bl s){F:PFr}(hf:s'.ae=s.ae++[F])(hs:s'.af=s.af++b.l)(ho:FA b F s.af.length):Rel (bl++[b]) s':=by
 refine⟨by rw[hf];simp[h.len],by rw[hs,oV,h.af],fun i c G hc hG=>?_⟩;rw[hf]at hG;have hl:=h.len;by_cases hi:i<bl.length
 ·rw[gAl hi]at hc;rw[gAl (by omega)]at hG;rw[aju (by omega)];exact h.fr i c G hc hG
 have jB:i=bl.length:=by have:=(gEs.1 hc).1;simp at this;omega
 subst jB;rw[<-hl]at hG;simp at hc hG;subst hc;subst hG;rw[h.af]at ho;simpa using ho
theorem Rel.pop(h:Rel (rest++[b]) s)(hf:s'.ae=s.ae.dropLast)(hs:s'.af=iU rest):Rel rest s':=by
 obtain⟨fs,F,h1,h2,h3,h4,h5⟩:=h.top;have xR:s'.ae=fs:=by rw[hf,h1];simp
 refine⟨by rw[xR,h2],hs,fun i c G hc hG=>?_⟩;have hi:=(gEs.1 hc).1;rw[xR]at hG;have:=h.fr i c G (by rw[gAl hi];exact hc) (by rw[h1,gAl (by omega)];exact hG);rw[aju (by omega)]at this;exact this
theorem Rel.same(h:Rel bl s)(hf:s'.ae=s.ae)(hs:s'.af=s.af):Rel bl s':=⟨by rw[hf];exact h.len,by rw[hs];exact h.af,fun i c G hc hG=>h.fr i c G hc (by rw[<-hf];exact hG)⟩
structure FB(k:K5):Prop where
 k0:k.au=0\/k.au=10->k.ab=0
 k7:k.au=7\/k.au=8->k.ab=4
 k9:k.au=9->k.ab=5
 k11:k.au=11->k.ab=2
 k14:k.au=14\/k.au=15\/k.au=16->k.ab=3
 k1:k.au=1->k.aj=0/\k.ak=0
 give:17<=k.au->k.ak≠0
structure P3(st:aX):Prop where
 none:st.aa.ab=0->st.idx=[]
 one:((st.aa.ab=2\/st.aa.ab=3)\/st.aa.ab=4)->∃i,st.idx=[i]
 more:st.aa.ab=5->∃i l,st.idx=i::l
def nm(s:LSt):List Nat:=s.ae.map (·.au)
def Met(rest:List RB)(ns:List Nat)(er0:Er)(ar:Nat)(x:Except Er LSt)(y:RB×Er):Prop:=
 match x with
 |.ok s=>y.2=er0/\Rel (rest++[y.1]) s/\nm s=ns
 |.error e=>y.2=e/\e=(7,ar)
theorem nS(h:Rel (rest++[b]) s)(h0:er.1=0)(t:Nat):Met rest (nm s) er ar (bnd (bD ar s t) fun r=>.ok r.2) (aU ar b er t).2/\∀g s',bD ar s t=.ok (g,s')->(aU ar b er t).1=if g=0 then t else g:=by
 obtain⟨fs,F,h1,h2,h3,h4,h5⟩:=h.top;unfold bD aU;rw[h5];simp only;have gK:noS er 7 ar=(7,ar):=by unfold noS;rw[ajd h0]
 rcases List.eq_nil_or_concat b.l with hb|⟨l,x,hb⟩
 ·rw[ajd (by rw[h4,h3.am,hb];simp)];rw[hb];simp only[List.getLast?_nil];rw[h3.dead];cases hd:b.dead with
  |true=>
   simp only[if_true,aM,Met];exact⟨⟨trivial,h,trivial⟩,fun g s' e=>by cases e;simp⟩
  |false=>
   simp only[Bool.false_eq_true,if_false,aW,Met,gK];exact⟨⟨trivial,trivial⟩,fun g s' e=>by cases e⟩
 simp only[List.concat_eq_append]at hb;rw[ajc (by rw[h4,h3.am,hb];simp)];rw[h4,hb,<-List.append_assoc];simp only[List.getLast?_concat,List.dropLast_concat];by_cases hc:x≠t/\x≠0/\t≠0
 ·rw[ajd hc,ajd ⟨hc.2.1,hc.2.2,hc.1⟩];simp only[aW,Met,gK];exact⟨⟨trivial,trivial⟩,fun g s' e=>by cases e⟩
 rw[ajc hc,ajc (fun c=>hc ⟨c.2.2,c.1,c.2.1⟩)];simp only[aM,Met];refine⟨⟨trivial,h.swap h1 h1 rfl ?_,rfl⟩,fun g s' e=>by cases e;rfl⟩;exact⟨h3.aj,h3.ak,h3.dead,h3.am,h3.loop,h3.iff⟩
theorem fA(h:Rel (rest++[b]) s)(h0:er.1=0)(t:Nat):(∃g s',bD ar s t=.ok (g,s')/\(aU ar b er t).1=(if g=0 then t else g)/\(aU ar b er t).2.2=er/\Rel (rest++[(aU ar b er t).2.1]) s'/\nm s'=nm s)\/(bD ar s t=.error (7,ar)/\(aU ar b er t).2.2=(7,ar)):=by
 have hm:=nS (ar:=ar) h h0 t;cases hx:bD ar s t with
 |ok r=>
  rw[hx]at hm;simp only[aM,Met]at hm;exact .inl ⟨r.1,r.2,rfl,hm.2 r.1 r.2 rfl,hm.1.1,hm.1.2.1,hm.1.2.2⟩
 |error e=>
  rw[hx]at hm;simp only[aW,Met]at hm;obtain⟨⟨a,c⟩,_⟩:=hm;exact .inr ⟨by rw[c],by rw[a,c]⟩
theorem gb(h0:er.1=0):∀(l:List Nat) {s:LSt}{b:RB},Rel (rest++[b]) s->Met rest (nm s) er ar (bw ar s l) (bh ar b er l)
 | [],s,b,h=>⟨rfl,h,rfl⟩
 |t::l,s,b,h=>by
  rw[bw,bh];rcases fA (ar:=ar) h h0 t with⟨g,s',e1,e2,e3,e4,e5⟩|⟨e1,e2⟩
  ·rw[e1,aM,e3,<-e5];exact gb h0 l e4
  rw[e1,aW,e2,Met];exact⟨ik (by simp) l _,rfl⟩
theorem mZ(h0:er.1=0)(of:Nat):∀(k:Nat) {s:LSt}{b:RB},Rel (rest++[b]) s->Met rest (nm s) er ar (plainTakes ar of s k) (dl ar of b er k)
 |0,s,b,h=>⟨rfl,h,rfl⟩
 |k+1,s,b,h=>by
  rw[plainTakes,dl];rcases fA (ar:=ar) h h0 of with⟨g,s',e1,e2,e3,e4,e5⟩|⟨e1,e2⟩
  ·rw[e1,aM,e3,<-e5];exact mZ h0 of k e4
  rw[e1,aW,e2,Met];exact⟨mq (by simp) of k _,rfl⟩
theorem lZ(h:Rel (rest++[b]) s)(l:List Nat):Rel (rest++[cx b l]) (bE s l):=by obtain⟨fs,F,h1,h2,h3,h4,h5⟩:=h.top;exact h.swap h1 h1 (by simp[bE,cx,h4]) ⟨h3.aj,h3.ak,h3.dead,h3.am,h3.loop,h3.iff⟩
theorem yV(s:LSt)(t:Nat):ez s t=bE s [t]:=rfl
theorem FC(h:Rel (rest++[b]) s):Rel (rest++[xq b]) (iy s)/\(iy s).ae.length=s.ae.length:=by
 obtain⟨fs,F,h1,h2,h3,h4,h5⟩:=h.top;have hd:iy s={s with ae:=s.ae.dropLast++[{F with dead:=true}],af:=s.af.take F.am}:=by unfold iy;rw[h5]
 rw[hd];refine⟨h.swap (F':={F with dead:=true}) h1 (by rw[h1];simp) ?_ ⟨h3.aj,h3.ak,rfl,h3.am,h3.loop,h3.iff⟩,by rw[h1];simp⟩;simp[xq,h4,h3.am]
def dB(b:RB):List Nat:=if b.aa=3 then b.aj else b.ak
def ce(bl:List RB)(i:Nat):List Nat:=match bl[bl.length-1-i]? with
 |some b=>dB b
 |none=>[]
def kc(here:Nat)(fg:List Nat)(bl:List RB)(b:RB)(er:Er)(n:Nat)(idx:List Nat):RB×Er:=
 let r0:RB×Er:=if n=8\/n=9 then (aU here b er 1).2 else (b,er)
 let w:=eS here (if n=10 then fg else []) (idx.map (ce bl)) r0.2
 let r1:=bh here r0.1 w.2 w.1.reverse
 (if n=8 then cx r1.1 w.1 else xq r1.1,r1.2)
def i9(here:Nat)(b:RB)(er:Er)(n t:Nat):RB×Er:=
 let r0:RB×Er:=if n≠14 then (aU here b er t).2 else (b,er)
 (if n≠15 then cx r0.1 [t] else r0.1,r0.2)
def da(m:bf)(i:Nat):Sig:=((m.funs[i]?).bind fun fn=>m.sigs[fn.sig]?).getD ([],[])
def doR(here:Nat)(m:bf)(ai fg:List Nat)(bl:List RB)(b:RB)(er:Er)(st:aX):RB×Er:=
 let n:=st.aa.au
 if n=0\/n=7\/n=8\/n=9\/n=10 then kc here fg bl b er n st.idx
 else if n=11 then (cx (bh here b er (da m (st.idx.headD 0)).1.reverse).1 (da m (st.idx.headD 0)).2,(bh here b er (da m (st.idx.headD 0)).1.reverse).2)
 else if n=12 then (aU here b er 0).2
 else if n=13 then vV here b er
 else if n=14\/n=15\/n=16 then i9 here b er n (ai[st.idx.headD 0]?.getD 0)
 else if n=1 then (b,er)
 else te here b er st.aa
theorem vW{b:RB}{F:PFr}{h:Nat}(k:FA b F h):aZ F=dB b:=by
 unfold aZ dB;by_cases h3:F.au=3
 ·rw[ajd h3,ajd (k.loop.2 h3),k.aj]
 rw[ajc h3,ajc (fun c=>h3 (k.loop.1 c)),k.ak]
theorem nT(h:Rel bl s){i:Nat}(hi:i<s.ae.length):(bT s i).map aZ=some (ce bl i):=by
 have hl:=h.len;unfold bT ce;rw[ajd hi];have h1:s.ae.length-1-i<s.ae.length:=by omega
 have h2:bl.length-1-i<bl.length:=by omega
 rw[gEg h1,gEg h2];have:=h.fr (bl.length-1-i) _ (s.ae[s.ae.length-1-i]) (gEg h2) (by rw[<-hl];exact gEg h1);simp only[Option.map_some,vW this]
theorem vX(h:Rel bl s)(wants:List Nat):∀(idx:List Nat),(∀i∈idx,i<s.ae.length)->gM ar s wants idx=if (∀i∈idx,ce bl i=wants) then .ok () else .error (7,ar)
 | [],_=>by simp[gM]
 |i::l,hl=>by
  rw[gM,nT h (hl i (by simp)),vX h wants l (fun j hj=>hl j (by simp[hj]))];by_cases h1:ce bl i=wants
  ·rw[ajd (by rw[h1])];simp[h1]
  rw[ajc (by simpa using h1),ajc (by simp[h1])]
theorem qv(h0:er.1=0):∀(ws:List (List Nat)) (w:List Nat),((∀x∈ws,x=w)->fZ ar w ws er=(w,er))/\(¬(∀x∈ws,x=w)->(fZ ar w ws er).2=(7,ar))
 | [],w=>⟨fun _=>rfl,fun h=>absurd (by simp) h⟩
 |x::l,w=>by
  rw[fZ];have gK:noS er 7 ar=(7,ar):=by unfold noS;rw[ajd h0]
  by_cases h1:w=x
  ·rw[ajd h1];subst h1;obtain⟨a,c⟩:=qv h0 l w;exact⟨fun h=>a fun y hy=>h y (by simp[hy]),fun h=>c fun k=>h (by simpa using k)⟩
  rw[ajc h1,gK];refine⟨fun h=>absurd (h x (by simp)).symm h1,fun _=>lY (by simp) l x⟩
theorem Met.ak{x:Except Er LSt}{y:RB×Er}{ns:List Nat}(h:Met rest ns er ar x y)(l:List Nat):Met rest ns er ar (bnd x fun s1=>.ok (bE s1 l)) (cx y.1 l,y.2):=by
 cases x with
 |ok s=>exact⟨h.1,lZ h.2.1 l,h.2.2⟩
 |error e=>exact h
theorem Met.dies{x:Except Er LSt}{y:RB×Er}{ns:List Nat}(h:Met rest ns er ar x y):Met rest ns er ar (bnd x fun s1=>.ok (iy s1)) (xq y.1,y.2):=by
 cases x with
 |ok s=>
  refine⟨h.1,(FC h.2.1).1,?_⟩;obtain⟨fs,F,h1,h2,h3,h4,h5⟩:=h.2.1.top;have hd:iy s={s with ae:=s.ae.dropLast++[{F with dead:=true}],af:=s.af.take F.am}:=by unfold iy;rw[h5]
  rw[<-h.2.2,hd];unfold nm;rw[h1];simp
 |error e=>exact h
theorem Met.then{x:Except Er LSt}{y:RB×Er}{ns:List Nat}{f:LSt->Except Er LSt}{g:RB×Er->RB×Er}(h:Met rest ns er ar x y)(hf:∀s b,Rel (rest++[b]) s->nm s=ns->Met rest ns er ar (f s) (g (b,er)))(hg:y.2=(7,ar)->(g y).2=(7,ar)):Met rest ns er ar (bnd x f) (g y):=by
 cases x with
 |ok s=>
  obtain⟨h1,h2,h3⟩:=h;obtain⟨b,er'⟩:=y;simp only at h1 h2;subst h1;exact hf s b h2 h3
 |error e=>
  obtain⟨h1,h2⟩:=h;exact⟨by rw[hg (h1.trans h2),h2],h2⟩
theorem CZ(hb:bl=rest++[b])(h:Rel bl s)(h0:er.1=0){fg:List Nat}(ox:(bl.head?).map dB=some fg){st:aX}(hn:st.aa.au=0\/st.aa.au=7\/st.aa.au=8\/st.aa.au=9\/st.aa.au=10)(hi:∀i∈st.idx,i<s.ae.length) (hk:st.aa.au=0\/st.aa.au=10->st.idx=[]) (lg:st.aa.au=7\/st.aa.au=8->∃i,st.idx=[i]) (lj:st.aa.au=9->∃i l,st.idx=i::l):Met rest (nm s) er ar (eI ar s st) (kc ar fg bl b er st.aa.au st.idx):=by
 have h':Rel (rest++[b]) s:=by rw[<-hb];exact h
 obtain⟨fs,F,h1,h2,h3,h4,h5⟩:=h'.top;have Lm:(s.ae.head?).map aZ=some fg:=by
  have aQ:=h.len;cases hc:bl with
  |nil=>rw[hc]at ox;simp at ox
  |cons B l=>
   cases hs:s.ae with
   |nil=>rw[hs,hc]at aQ;simp at aQ
   |cons G l'=>
    have:=h.fr 0 B G (by rw[hc];rfl) (by rw[hs];rfl);rw[hc]at ox;simp only[List.head?_cons,Option.map_some]at ox ⊢;rw[vW this];exact ox
 unfold eI kc;rcases hn with hn|hn|hn|hn|hn
 ·rw[hk (.inl hn),hn];simp only[dn,Lm,eS,List.map_nil];have:=Met.dies (x:=.ok s) (y:=(b,er)) (ns:=nm s) (ar:=ar) ⟨rfl,h',rfl⟩;simpa [bh] using this
 ·obtain⟨i,e⟩:=lg (.inl hn);rw[e,hn];simp only[dn,nT h (hi i (by rw[e];simp)),eS,List.map_cons,List.map_nil,fZ];have:=(gb (ar:=ar) h0 (ce bl i).reverse h').dies;simpa using this
 ·obtain⟨i,e⟩:=lg (.inr hn);rw[e,hn];simp only[dn,nT h (hi i (by rw[e];simp)),eS,List.map_cons,List.map_nil,fZ];rcases fA (ar:=ar) h' h0 1 with⟨g,s',e1,e2,e3,e4,e5⟩|⟨e1,e2⟩
  ·have:=(gb (ar:=ar) h0 (ce bl i).reverse e4).ak (ce bl i);rw[e5]at this;simp only[e1,aM,if_true,true_or,e3];exact this
  simp only[e1,aW,if_true,true_or,e2,Met];exact⟨ik (by simp) _ _,trivial⟩
 ·obtain⟨i,l,e⟩:=lj hn;have Ir:=vX (ar:=ar) h (ce bl i) st.idx hi;have Aj:=nT h (hi i (by rw[e];simp));rw[hn];simp only[e,dn,Aj]at Ir ⊢;simp only[ajc (show ¬((9:Nat)=8) by decide),if_true,Ir,eS,List.map_cons,or_true];by_cases cL:∀j∈i::l,ce bl j=ce bl i
  ·rw[ajd cL,aM];rcases fA (ar:=ar) h' h0 1 with⟨g,s',e1,e2,e3,e4,e5⟩|⟨e1,e2⟩
   ·have ha:=(qv (ar:=ar) (er:=er) h0 (l.map (ce bl)) (ce bl i)).1 (by
     intro x hx
     obtain⟨j,hj,rfl⟩:=List.mem_map.1 hx
     exact cL j (by simp[hj]))
    have:=(gb (ar:=ar) h0 (ce bl i).reverse e4).dies;rw[e5]at this;simp only[e1,aM,e3,ha];exact this
   simp only[e1,aW,e2,Met];refine⟨?_,trivial⟩;have C0:=lY (here:=ar) (er:=(7,ar)) (by simp) (l.map (ce bl)) (ce bl i);rw[C0];exact ik (by simp) _ _
  rw[ajc cL,aW];refine⟨?_,rfl⟩;rcases fA (ar:=ar) h' h0 1 with⟨g,s',e1,e2,e3,e4,e5⟩|⟨e1,e2⟩
  ·have ha:=(qv (ar:=ar) (er:=er) h0 (l.map (ce bl)) (ce bl i)).2 (by
    intro hx
    apply cL
    intro j hj
    rcases List.mem_cons.1 hj with rfl|hj
    ·rfl
    exact hx _ (List.mem_map.2 ⟨j,hj,rfl⟩))
   simp only[e3,ha];exact ik (by simp) _ _
  have C0:=lY (here:=ar) (er:=(7,ar)) (by simp) (l.map (ce bl)) (ce bl i);simp only[e2,C0];exact ik (by simp) _ _
 rw[hk (.inr hn),hn];simp only[dn,Lm,eS,List.map_nil];have:=(gb (ar:=ar) h0 fg.reverse h').dies;simpa using this
theorem FD(h:Rel (rest++[b]) s)(h0:er.1=0):Met rest (nm s) er ar (jk ar s) (vV ar b er):=by
 unfold jk vV;rcases fA (ar:=ar) h h0 1 with⟨g,s',e1,e2,e3,e4,e5⟩|⟨e1,e2⟩
 ·simp only[e1,aM,e3];rcases fA (ar:=ar) e4 h0 0 with⟨g2,s2,a1,a2,a3,a4,a5⟩|⟨a1,a2⟩
  ·simp only[a1,aM,a3];have aP:(if g2=0 then 0 else g2)=g2:=by split <;> omega
   rw[aP]at a2;simp only[a2];rcases fA (ar:=ar) a4 h0 g2 with⟨g3,s3,c1,c2,c3,c4,c5⟩|⟨c1,c2⟩
   ·simp only[c1,aM,c3];have co:(aU ar (aU ar (aU ar b er 1).2.1 er 0).2.1 er g2).1=if g2=0 then g3 else g2:=by
     rw[c2];by_cases z:g2=0
     ·rw[ajd z,z];split <;> omega
     rw[ajc z];by_cases z3:g3=0
     ·rw[ajd z3]
     rw[ajc z3];have hk:=c1;unfold bD at hk;split at hk
     ·cases hk
     split at hk
     ·split at hk
      ·cases hk;exact absurd rfl z3
      cases hk
     split at hk
     ·cases hk
     split at hk
     ·cases hk
     rename_i hc;cases hk;by_cases hh:g3=g2
     ·exact hh
     exact absurd ⟨hh,z3,z⟩ hc
    refine⟨rfl,?_,?_⟩
    ·rw[co,yV];exact lZ c4 _
    rw[<-e5,<-a5,<-c5];rfl
   simp only[c1,aW,c2,Met];exact⟨trivial,trivial⟩
  simp only[a1,aW,a2,Met];exact⟨jS (by simp) _,trivial⟩
 simp only[e1,aW,e2,Met];rw[jS (by rw[jS (by simp)];simp),jS (by simp)];exact⟨rfl,trivial⟩
theorem C1(h:Rel (rest++[b]) s)(h0:er.1=0){ai:List Nat}{st:aX}(hn:st.aa.au=14\/st.aa.au=15\/st.aa.au=16)(hi:st.idx.headD 0<ai.length):Met rest (nm s) er ar (fx ar ai s st) (i9 ar b er st.aa.au (ai[st.idx.headD 0]?.getD 0)):=by
 unfold fx i9;rw[gEg hi];simp only[Option.getD_some];generalize ai[st.idx.headD 0]=t;rcases hn with hn|hn|hn
 ·rw[hn];simp only[ajc (show ¬((14:Nat)=15) by decide),ajc (show ¬((14:Nat)=16) by decide),ne_eq,not_true_eq_false,if_false,show ¬((14:Nat)=15) by decide,not_false_eq_true,if_true];exact⟨rfl,lZ h [t],rfl⟩
 ·rw[hn];have:=(nS (ar:=ar) h h0 t).1;simpa using this
 rw[hn];have:=(nS (ar:=ar) h h0 t).1.ak [t];have e:(bnd (bnd (bD ar s t) fun r=>.ok r.2) fun s1=>.ok (bE s1 [t]))=bnd (bD ar s t) fun r=>.ok (ez r.2 t):=by cases bD ar s t <;> rfl
 rw[e]at this;simpa using this
theorem C2(h:Rel (rest++[b]) s)(h0:er.1=0){k:K5}(hg:k.ak≠0):Met rest (nm s) er ar (fU ar s k) (te ar b er k):=by unfold fU te;have:=(mZ (ar:=ar) h0 k.of k.aj h).ak [k.ak];simpa [hg,yV] using this
theorem Na(hb:bl=rest++[b])(h:Rel bl s)(h0:er.1=0){m:bf}{ai fg:List Nat}(ox:(bl.head?).map dB=some fg){st:aX}(hm:∀fn∈m.funs,fn.sig<m.sigs.length)(hn:¬(2<=st.aa.au/\st.aa.au<=6)) (hA:FB st.aa) (hX:P3 st)(hi:∀i∈st.idx,i<dI m ai s st.aa.ab):Met rest (nm s) er ar (doS ar m ai (ci s st) st) (doR ar m ai fg bl b er st):=by
 have hk:Rel bl (ci s st):=h.same rfl rfl;have Ah:Rel (rest++[b]) (ci s st):=by rw[<-hb];exact hk
 have dL:nm (ci s st)=nm s:=rfl;rw[<-dL];unfold doS doR;rw[ajc (by omega),ajc (by omega),ajc (by omega)];by_cases c1:st.aa.au=0\/st.aa.au=7\/st.aa.au=8\/st.aa.au=9\/st.aa.au=10
 ·rw[ajd c1,ajd c1];refine CZ hb hk h0 ox c1 ?_ ?_ ?_ ?_
  ·intro i jB;have mn:st.aa.ab=4\/st.aa.ab=5:=by
    rcases c1 with c|c|c|c|c
    ·have:=hX.none (hA.k0 (.inl c));rw[this]at jB;simp at jB
    ·exact .inl (hA.k7 (.inl c))
    ·exact .inl (hA.k7 (.inr c))
    ·exact .inr (hA.k9 c)
    have:=hX.none (hA.k0 (.inr c));rw[this]at jB;simp at jB
   have:=hi i jB;unfold dI at this;rw[ajc (by omega),ajc (by omega),ajc (by omega)]at this;exact this
  ·exact fun c=>hX.none (hA.k0 c)
  ·exact fun c=>hX.one (.inr (hA.k7 c))
  intro c;exact hX.more (hA.k9 c)
 rw[ajc c1,ajc c1];by_cases c2:st.aa.au=11
 ·rw[ajd c2,ajd c2];obtain⟨i,e⟩:=hX.one (.inl (.inl (hA.k11 c2)));have jB:=hi i (by rw[e];simp);rw[hA.k11 c2]at jB;have Ln:i<m.funs.length:=jB;have rC:=hm m.funs[i] (ajw Ln);unfold mi da;rw[e];simp only[List.headD_cons,gEg Ln,Option.bind_some,gEg rC,Option.getD_some];exact(gb (ar:=ar) h0 _ Ah).ak _
 rw[ajc c2,ajc c2];by_cases c3:st.aa.au=12
 ·rw[ajd c3,ajd c3];exact(nS (ar:=ar) Ah h0 0).1
 rw[ajc c3,ajc c3];by_cases c4:st.aa.au=13
 ·rw[ajd c4,ajd c4];exact FD Ah h0
 rw[ajc c4,ajc c4];by_cases c5:st.aa.au=14\/st.aa.au=15\/st.aa.au=16
 ·rw[ajd c5,ajd c5];obtain⟨i,e⟩:=hX.one (.inl (.inr (hA.k14 c5)));have jB:=hi i (by rw[e];simp);rw[hA.k14 c5]at jB;have Ln:i<ai.length:=jB;exact C1 Ah h0 c5 (by rw[e];exact Ln)
 rw[ajc c5,ajc c5];by_cases c6:st.aa.au=1
 ·rw[ajd c6];unfold fU;rw[(hA.k1 c6).1,(hA.k1 c6).2];exact⟨rfl,Ah,rfl⟩
 rw[ajc c6];exact C2 Ah h0 (hA.give (by omega))
end
