import Derived.Test.YtjbdgbdcnjopkaaGreatDoorS06
import Derived.Deep.RegionHeld
namespace Go.Proofs.YtjbdgbdcnjopkaaGreatDoor
open Go.RowKit Tryz
set_option linter.all false
set_option maxRecDepth 100000
set_option maxHeartbeats 4000000
section
variable {az l:Nat}{vm vloc:Value}{tb:List Nat}{ar:Nat}{vs vf vp:Value}{w:World}{s:LSt}
theorem LR.others{w2:World}{row:Option Nat}{e:Nat}(h:LR az l vm vloc tb ar vs vf vp w s)(bU:w.grownBy w2 row)(jm:∀g,row=some g->az<=g/\∃c,Blk w g c e)(he:¬Ew e):(e≠198->Blk w2 l #[vm,vloc,vs,vf,vp,.int .i64 ar] 198) /\ (e≠3->w2.ownsRow az 3 1 vs s.af.length (s.af.map fun t:Nat=>.int .i64 (t:Int))) /\ (e≠217->∃cs,w2.ownsRow az 217 7 vf s.ae.length cs/\iT az w2 tb s.ae cs) /\ (e≠186->e≠215->∃cs,w2.ownsRow az 186 8 vp s.ay.length cs/\gV az w2 tb s.ay cs) /\ (e≠220->oj az w2 tb s.ah)/\bc az w w2:=by
 have hW:bc az w w2:=bc.grown bU h.base_le (fun r e=>by obtain⟨h1,c,h2⟩:=jm r e;exact⟨h1,c,_,h2,he⟩);have kk:∀t,e≠t->∀g c,Blk w g c t->Blk w2 g c t:=fun t ht g c hb=>hb.grown bU (by
  intro e'
  obtain⟨_,c',h2⟩:=jm g e'.symm
  have h3:=hb.symm.trans h2
  cases h3;exact ht rfl)
 obtain⟨cf,ie,hZ⟩:=h.frm;obtain⟨cp,ir,qj⟩:=h.stp;exact⟨fun ht=>kk _ ht _ _ h.blk,fun ht=>aJ h.stk (kk _ ht),fun ht=>⟨cf,aJ ie (kk _ ht),hZ.kept hW.below⟩,fun ht Mu=>⟨cp,aJ ir (kk _ ht),qj.kept (kk _ Mu)⟩,fun ht=>h.tgt.kept (kk _ ht),hW⟩
theorem ba{az e size n:Nat}{v:Value}{xs:List Value}(h:w.ownsRow az e size v n xs):∀g,v.ownBlock=some g->az<=g/\∃c,Blk w g c e:=by
 intro g hg;rcases h.2 with⟨rfl,_⟩|⟨g',cap,cur,rfl,hb,hh,_⟩
 ·simp[Value.ownBlock]at hg
 simp[Value.ownBlock]at hg;subst hg;exact⟨hb,cur,hh⟩
theorem LR.appended{w2:World}{v':Value}{st:List Nat}(h:LR az l vm vloc tb ar vs vf vp w s)(bU:w.grownBy w2 vs.ownBlock)(bn:w2.ownsRow az 3 1 v' st.length (st.map fun t:Nat=>.int .i64 (t:Int)))(hn:st.length<=100000):Blk w2 l #[vm,vloc,vs,vf,vp,.int .i64 ar] 198/\LR az l vm vloc tb ar v' vf vp (w2.setCell ⟨l,2,none⟩ v') {s with af:=st}/\bc az w (w2.setCell ⟨l,2,none⟩ v'):=by
 obtain⟨o1,_,o3,o4,o5,o6⟩:=h.others bU (ba h.stk) (by decide);have df:=o1 (by decide);have jD:LR az l vm vloc tb ar v' vf vp (w2.setCell ⟨l,2,none⟩ v') {s with af:=st}:=by
  have hg:=aD w2 l 2 v';have hB:az<=w2.heap.size:=Nat.le_of_lt (ajH h.low df.lt);have kB:Below az w2 (w2.setCell ⟨l,2,none⟩ v'):=dV hg hB (by intro r e;cases e;exact h.low);obtain⟨cf,ie,hZ⟩:=o3 (by decide);obtain⟨cp,ir,qj⟩:=o4 (by decide) (by decide);have hb:=df.set 2 v';simp at hb;exact⟨hb,h.low,bn.kept hg (fX bn df (by decide)),⟨cf,ie.kept hg (fX ie df (by decide)),hZ.kept kB⟩,⟨cp,ir.kept hg (fX ir df (by decide)),qj.kept fun g c hb=>aF hg df hb (by decide)⟩,
   (o5 (by decide)).kept fun g c hb=>aF hg df hb (by decide),hn,h.nf,h.np⟩
 exact⟨df,jD,o6.trans (bc.grown (aD w2 l 2 v') (Nat.le_of_lt (ajH h.low df.lt)) (fun r e=>by cases e;exact⟨h.low,_,_,df,by decide⟩))⟩
theorem mL(h:LR az l vm vloc tb ar vs vf vp w s)(t:Nat)(hn:s.af.length<100000):Calls prog 169 #[.pointer (some ⟨l,0,none⟩),.int .i64 t] w fun e w'=>e=.returned (.tuple #[])/\bc az w w'/\iQ az l vm vloc tb ar w' (ez s t):=by
 have c2:=h.blk.cell 2;simp at c2;obtain⟨i0,hi,fo,eP,eV⟩:=info_parts ml;have ol:=h.blk.lt;have h1:=fun o=>h.kept (aC w o none);obtain⟨sa,scap,rfl,_,_⟩:=aG h.stk;go_enter func169,ntmps169;go_wp2_with (at_builtin;refine wpList_append_own_at _ rfl _ _ 44 rfl az 3 i0 (.int .i64 0) 1 8 underlying44 hi fo eP eV rfl (by decide) _ _ _ rfl (h1 _).stk ⟨w.heap.size,0,none⟩ 1 1 [.int .i64 t] rfl rfl ?q2 ?q3 ?q4 ?q5 ?q6 ?q7)
 case q2=>exact cell_one_new _ _ _
 case q3=>simp[Value.oneCell']
 case q4=>simp[maxLen];omega
 case q5=>omega
 case q6=>exact(h1 _).base_le
 case q7=>
  intro v' w' bn bU _ _;obtain⟨df,hL,hW⟩:=(h1 _).appended (st:=s.af++[t]) bU (by simpa using bn) (by simp;omega);have k2:=df.cell 2;have f2:=df.frozen 2;simp at k2;obtain⟨a',cap',rfl,_⟩:=aG bn;go_wp2;go_end0;exact⟨rfl,(bc.none (aC _ _ _) h.base_le).trans hW,_,_,_,hL⟩
end
section
variable {az l:Nat}{vm vloc:Value}{tb:List Nat}{ar:Nat}{vs vf vp:Value}{w:World}{s:LSt}
theorem eK(h:LR az l vm vloc tb ar vs vf vp w s){v:Value}{zs:List Nat}(hv:bO az w v zs)(hz:zs.length<=6)(hn:s.af.length<=90000):Calls prog 161 #[.pointer (some ⟨l,0,none⟩),v] w fun e w'=>e=.returned (.tuple #[])/\bc az w w'/\iQ az l vm vloc tb ar w' (bE s zs):=by
 obtain⟨g,cap,c,rfl,If,hb,hc⟩:=hv;have c2:=h.blk.cell 2;simp at c2;obtain⟨i0,hi,fo,eP,eV⟩:=info_parts ml;have ol:=h.blk.lt;obtain⟨sa,scap,rfl,_,_⟩:=aG h.stk;go_enter func161,ntmps161;go_wp2_with (at_builtin;refine wpList_append_own_at _ rfl _ _ 44 rfl az 3 i0 (.int .i64 0) 1 8 underlying44 hi fo eP eV rfl (by decide) _ _ _ rfl h.stk ⟨g,0,none⟩ zs.length cap (zs.map fun t:Nat=>.int .i64 (t:Int)) rfl (by simp) ?q2 ?q3 ?q4 ?q5 ?q6 ?q7)
 case q2=>
  intro j u hj;rw[List.getElem?_map]at hj;obtain⟨x,hx,rfl⟩:=Option.map_eq_some_iff.1 hj;obtain⟨bM,rfl⟩:=gEs.1 hx;rw[cJ,ajx,hb.cell j,hc j bM]
 case q3=>simp[Value.oneCell']
 case q4=>simp[maxLen];omega
 case q5=>omega
 case q6=>exact h.base_le
 case q7=>
  intro v' w' bn bU _ _;obtain⟨df,hL,hW⟩:=h.appended (st:=s.af++zs) bU (by simpa using bn) (by simp;omega);have k2:=df.cell 2;have f2:=df.frozen 2;simp at k2;obtain⟨a',cap',rfl,_⟩:=aG bn;go_wp2;go_end0;exact⟨rfl,hW,_,_,_,hL⟩
theorem yw(h:LR az l vm vloc tb ar vs vf vp w s){i t b:Nat}(hi:i<s.ay.length)(ht:tb[t]?=some b):Calls prog 164 #[.pointer (some ⟨l,0,none⟩),.int .i64 i,.pointer (some ⟨b,0,none⟩)] w fun e w'=>e=.returned (.tuple #[])/\bc az w w'/\(∀g c ty,ty≠186->Blk w g c ty->Blk w' g c ty)/\LR az l vm vloc tb ar vs vf vp w' (cR s i t):=by
 obtain⟨cp,ir,qj⟩:=h.stp;obtain⟨g,cap,rfl⟩:=cu ir (by omega);have c4:=h.blk.cell 4;simp at c4;have IX:=h.np;have jB:(i:Int)<(s.ay.length:Int):=by omega
 have ol:=h.blk.lt;have h1:=h.kept (aC w (.cells #[.pointer (some ⟨b,0,none⟩)] 215) none);have Zk:=ir.alloc (.cells #[.pointer (some ⟨b,0,none⟩)] 215);have xT:=Blk.new w #[.pointer (some ⟨b,0,none⟩)] 215;have bC:=bK ir (j:=i*8+7) (by omega);have aQ:i*8+7<cp.length:=by rw[ir.1];omega
 rw[gEg aQ]at bC;obtain⟨R4,hf7⟩:=bC;obtain⟨old,oG⟩:∃old,old=cp[i*8+7]:=⟨_,rfl⟩;rw[<-oG]at R4;clear oG;have iB:g<w.heap.size:=by obtain⟨c,hc,_⟩:=dF ir;exact hc.lt
 have R5:=h.base_le;go_enter func164,ntmps164;go_wp2;go_end0;obtain⟨gc,qb,Mv,_⟩:=dF ir;have dU:=aD w g (i*8+7) (.slice (some ⟨w.heap.size,0,none⟩) 1 1);have lm:=aC (w.setCell ⟨g,i*8+7,none⟩ (.slice (some ⟨w.heap.size,0,none⟩) 1 1)) (.cells #[.pointer (some ⟨b,0,none⟩)] 215) none;obtain⟨o1,o2,o3,_,o5,o6⟩:=h.others (e:=186) dU (by intro g' e;cases e;exact⟨Mv,gc,qb⟩) (by decide);have kk:∀t g' c,Blk (w.setCell ⟨g,i*8+7,none⟩ (.slice (some ⟨w.heap.size,0,none⟩) 1 1)) g' c t->Blk ((w.setCell ⟨g,i*8+7,none⟩ (.slice (some ⟨w.heap.size,0,none⟩) 1 1)).alloc (.cells #[.pointer (some ⟨b,0,none⟩)] 215)) g' c t:=fun t g' c hb=>hb.alloc _;have iW:=o1 (by decide);have Th:az<=(w.setCell ⟨g,i*8+7,none⟩ (.slice (some ⟨w.heap.size,0,none⟩) 1 1)).heap.size:=Nat.le_of_lt (ajH h.low iW.lt);have gy:(w.setCell ⟨g,i*8+7,none⟩ (.slice (some ⟨w.heap.size,0,none⟩) 1 1)).heap.size=w.heap.size:=by simp[World.setCell]
 have Ih:bc az _ _:=bc.none lm Th;obtain⟨cf,ie,hZ⟩:=o3 (by decide);refine⟨rfl,o6.trans Ih,fun g' c ty Zl hb=>kk _ _ _ (aF dU qb hb Zl),kk _ _ _ iW,h.low,aJ (o2 (by decide)) (kk _),⟨cf,aJ ie (kk _),hZ.kept Ih.below⟩,⟨cp.set (i*8+7) (.slice (some ⟨w.heap.size,0,none⟩) 1 1),?_,?_⟩,(o5 (by decide)).kept (kk _),h.ns,h.nf,by simp[cR];exact h.np⟩
 ·have:=aJ (wW ir (j:=i*8+7) (.slice (some ⟨w.heap.size,0,none⟩) 1 1)) (kk _);simpa [cR] using this
 intro j hj;have WO:j<s.ay.length:=by simpa [cR] using hj
 obtain⟨v,he,hv⟩:=qj j WO;by_cases e:j=i
 ·subst e;refine⟨.slice (some ⟨w.heap.size,0,none⟩) 1 1,fun k hk=>?_,?_⟩
  ·have cT:(cR s j t).ay[j]={s.ay[j] with ah:=[t]}:=by simp[cR,List.getElem_modify]
   rw[cT];by_cases e7:k=7
   ·subst e7;rw[List.getElem?_set_self aQ];rfl
   rw[List.getElem?_set_ne (by omega),he k hk]
   match k,hk,e7 with
   |0,_,_=>rfl
   | 1,_,_=>rfl
   | 2,_,_=>rfl
   | 3,_,_=>rfl
   | 4,_,_=>rfl
   | 5,_,_=>rfl
   | 6,_,_=>rfl
   | 7,_,h7=>exact absurd rfl h7
  have cT:(cR s j t).ay[j].ah=[t]:=by simp[cR,List.getElem_modify]
  rw[cT];refine .inr ⟨w.heap.size,1,#[.pointer (some ⟨b,0,none⟩)],rfl,R5,?_,fun k hk=>?_⟩
  ·have:=Blk.new (w.setCell ⟨g,j*8+7,none⟩ (.slice (some ⟨w.heap.size,0,none⟩) 1 1)) #[.pointer (some ⟨b,0,none⟩)] 215
   rwa [gy]at this
  have:k=0:=by simp at hk;omega
  subst this;exact⟨b,ht,rfl⟩
 have cT:(cR s i t).ay[j]=s.ay[j]:=by simp[cR,List.getElem_modify,Ne.symm e]
 rw[cT];refine⟨v,fun k hk=>?_,(hv.kept fun g' c hb=>aF dU qb hb (by decide)).kept fun g' c=>kk _ g' c⟩;rw[List.getElem?_set_ne (by omega)];exact he k hk
theorem pw{az e size n k cap:Nat}{sa:Option Addr}{xs:List Value}(h:w.ownsRow az e size (.slice sa n cap) n xs)(hk:k<=n):w.ownsRow az e size (.slice sa k cap) k (xs.take (k*size)):=by
 rcases h.2 with⟨h2,h3⟩|⟨g',cap',cur,h2,hb,hg,hn,hm,hs,ht⟩
 ·cases h2;have:k=0:=by omega
  subst this;exact⟨by simp,.inl ⟨rfl,rfl⟩⟩
 cases h2;exact kH h hk
theorem LR.drew(h:LR az l vm vloc tb ar vs vf vp w s):LR az l vm vloc tb ar vs vf vp w.drew s:=h.kept (aE (aH _ _))
theorem iT.set_last{w':World}{fs:List PFr}{cs cs':List Value}{f':PFr}{vt vg:Value}{b:Nat}(h:iT az w tb fs cs)(hl:0<fs.length)(k:Below az w w')(dh:∀j,j<(fs.length-1)*7->cs'[j]?=cs[j]?) (jW:∀j,j<7->cs'[(fs.length-1)*7+j]?=(rE f' vt vg b)[j]?) (hb:tb[f'.target]?=some b)(ht:bO az w vt f'.aj) (hg:bO az w vg f'.ak):iT az w' tb (fs.dropLast++[f']) cs':=by
 intro i hi;have jB:i<fs.length:=by simp at hi;omega
 by_cases e:i=fs.length-1
 ·have hx:(fs.dropLast++[f'])[i]=f':=by rw[ajo (by simp;omega)];simp
  rw[hx];subst e;exact⟨vt,vg,b,jW,hb,ht.kept k,hg.kept k⟩
 have hx:(fs.dropLast++[f'])[i]=fs[i]:=by rw[ajn (by simp;omega),List.getElem_dropLast]
 obtain⟨vt',vg',b',h1,h2,h3,h4⟩:=h i jB;rw[hx];exact⟨vt',vg',b',fun j hj=>by rw[dh _ (by omega)];exact h1 j hj,h2,h3.kept k,h4.kept k⟩
theorem IY(h:LR az l vm vloc tb ar vs vf vp w s){f:PFr}(hf:s.ae.getLast?=some f)(hh:f.am<=s.af.length):Calls prog 168 #[.pointer (some ⟨l,0,none⟩)] w fun e w'=>e=.returned (.tuple #[])/\bc az w w'/\iQ az l vm vloc tb ar w' (iy s):=by
 have lv:0<s.ae.length:=by
  cases hx:s.ae with
  |nil=>rw[hx]at hf;simp at hf
  |cons a l=>simp
 have IZ:s.ae[s.ae.length-1]=f:=by rw[ajk,gEg (by omega)]at hf;exact Option.some.inj hf
 obtain⟨cf,ie,hZ⟩:=h.frm;obtain⟨g,cap,rfl⟩:=cu ie lv;obtain⟨vt,vg,b,he,hb,BL,uq⟩:=hZ (s.ae.length-1) (by omega);rw[IZ]at he hb BL uq;obtain⟨sa,scap,rfl,WQ,ew⟩:=aG h.stk;have c2:=h.blk.cell 2;have c3:=h.blk.cell 3;have f2:=h.blk.frozen 2;simp at c2 c3;have Ai:=h.nf;have KS:=h.ns;have x3:=(bK ie (j:=(s.ae.length-1)*7+3) (by omega)).1;have x4:=(bK ie (j:=(s.ae.length-1)*7+4) (by omega)).1;have y4:=(bK ie (j:=(s.ae.length-1)*7+4) (by omega)).2;rw[he 3 (by omega)]at x3;rw[he 4 (by omega)]at x4;simp[rE]at x3 x4;have e1:(s.ae.length:Int)-1=((s.ae.length-1:Nat):Int):=by omega
 have e2:(f.am:Int)<=(scap:Int):=by omega
 have e3:((s.ae.length-1:Nat):Int)<(s.ae.length:Int):=by omega
 have jl:s.ae.length-1<s.ae.length:=by omega
 have ec:¬l=g:=by intro e;subst e;obtain⟨gc,qb,_⟩:=dF ie;have:=qb.symm.trans h.blk;cases this
 have HE:Hid _:=he;have HF:Hid _:=IZ;have nN:Hid _:=hZ;have HL:Hid _:=hf;clear he IZ hZ hf;go_enter func168,ntmps168;go_wp2;go_region
 go_wp2;go_region
 go_wp2;go_end0;obtain⟨gc,qb,Mv,_⟩:=dF ie;have dU:=aD w g ((s.ae.length-1)*7+4) (.bool true);obtain⟨o1,o2,_,o4,o5,o6⟩:=h.others (e:=217) dU (by intro g' e;cases e;exact⟨Mv,gc,qb⟩) (by decide);have Mw:(s.ae.length-1)*7+4<cf.length:=by rw[ie.1];omega
 have h1:LR az l vm vloc tb ar (.slice sa s.af.length scap) (.slice (some ⟨g,0,none⟩) s.ae.length cap) vp (w.setCell ⟨g,(s.ae.length-1)*7+4,none⟩ (.bool true)) {s with ae:=s.ae.dropLast++[{f with dead:=true}]}:=by
  have aQ:(s.ae.dropLast++[{f with dead:=true}]).length=s.ae.length:=by simp;omega
  refine⟨o1 (by decide),h.low,o2 (by decide),⟨cf.set ((s.ae.length-1)*7+4) (.bool true),?_,?_⟩,o4 (by decide) (by decide),o5 (by decide),h.ns,by rw[aQ];exact h.nf,h.np⟩
  ·rw[aQ];exact wW ie (.bool true)
  refine iT.set_last (vt:=vt) (vg:=vg) (b:=b) nN.out lv o6.below (fun j hj=>List.getElem?_set_ne (by omega)) (fun j hj=>?_) hb BL uq;by_cases e4:j=4
  ·subst e4;rw[List.getElem?_set_self Mw];rfl
  rw[List.getElem?_set_ne (by omega),HE.out j hj]
  match j,hj,e4 with
  |0,_,_=>rfl
  | 1,_,_=>rfl
  | 2,_,_=>rfl
  | 3,_,_=>rfl
  | 4,_,h4=>exact absurd rfl h4
  | 5,_,_=>rfl
  | 6,_,_=>rfl
 have hcut:=pw h1.stk hh;have Ii:(s.af.take f.am).length=f.am:=by simp;omega
 have h2:=h1.setStack (vs':=.slice sa f.am scap) (st:=s.af.take f.am) (by rw[Ii];simpa [List.map_take] using hcut) (by rw[Ii];omega);have hd:iy s={s with ae:=s.ae.dropLast++[{f with dead:=true}],af:=s.af.take f.am}:=by simp only[iy,HL.out]
 rw[hd];exact⟨rfl,(o6.trans (h1.went_set 2 _)).trans (bc.none (aE (aE (aH _ none))) h2.base_le),_,_,_,h2.drew.drew⟩
end
theorem xb{xs ys:List Nat}{k:Nat}(hx:k<xs.length)(hy:k<ys.length)(h:xs.take k=ys.take k)(e:xs[k]=ys[k]):xs.take (k+1)=ys.take (k+1):=by rw[List.take_succ_eq_append_getElem hx,List.take_succ_eq_append_getElem hy,h,e]
theorem vD{az:Nat}{w:World}{v1 v2:Value}{xs ys:List Nat}(h1:bO az w v1 xs)(h2:bO az w v2 ys)(hB:az<=w.heap.size)(hx:xs.length<=100)(hy:ys.length<=100):Calls prog 165 #[v1,v2] w fun e w'=>e=.returned (.bool (decide (xs=ys)))/\w.grownBy w' none:=by
 obtain⟨g1,cap1,c1,rfl,eZ,iW,Ae⟩:=h1;obtain⟨g2,cap2,c2,rfl,aP,df,sj⟩:=h2;by_cases hl:xs.length=ys.length
 ·have Af:(xs.length:Int)=(ys.length:Int):=by omega
  go_enter func165,ntmps165;go_wp2;go_loopw [13] (fun i wr=>∃k:Nat,i=.int .i64 k/\k<=xs.length/\Hid (xs.take k=ys.take k)/\w.grownBy wr none) (fun i _=>xs.length-(intOf i).toNat)
  case atStart=>exact⟨0,rfl,ajl _,rfl,aH _ _⟩
  case round=>
   obtain⟨k,rfl,hk,HE,bU⟩:=hrel;by_cases bM:k<xs.length
   ·have Mx:k<ys.length:=by omega
    have k1:wr.cell? ⟨g1,k,none⟩=some (.int .i64 xs[k]):=by rw[(iW.grown bU (by simp)).cell k];exact Ae k bM
    have k2:wr.cell? ⟨g2,k,none⟩=some (.int .i64 ys[k]):=by rw[(df.grown bU (by simp)).cell k];exact sj k Mx
    have HH:Hid _:=Mx;by_cases he:xs[k]=ys[k]
    ·have Oz:(xs[k]:Int)=(ys[k]:Int):=by omega
     have ph:Hid (xs.take (k+1)=ys.take (k+1)):=xb bM Mx HE.out he;clear he Ae sj;go_wp2;go_region
     go_wp2;go_roundw
     case rel=>exact⟨k+1,by simp,by omega,ph,aE bU⟩
     case measure=>simp[intOf];omega
    have Oz:((xs[k]:Int) != (ys[k]:Int))=true:=by simp;omega
    have ec:decide (xs=ys)=false:=by simp;intro e;subst e;exact he rfl
    clear Ae sj;go_wp2;go_region
    go_wp2;go_ret;exact⟨by rw[ec];rfl,aE bU⟩
   have lg:k=xs.length:=by omega
   have My:decide (xs=ys)=true:=by simp;have:=HE.out;rw[ajB (by omega),ajB (by omega)]at this;exact this
   subst lg;go_wp2;go_ret;exact⟨by rw[My];rfl,bU⟩
 have ec:decide (xs=ys)=false:=by simp;intro e;subst e;exact hl rfl
 have Af:((xs.length:Int) != (ys.length:Int))=true:=by simp;omega
 go_enter func165,ntmps165;go_wp2;go_ret;exact⟨by rw[ec];rfl,aH _ _⟩
section
variable {az l:Nat}{vm vloc:Value}{tb:List Nat}{ar:Nat}{vs vf vp:Value}{w:World}{s:LSt}
def ef(w:World)(v:Value)(st:aX):Prop:=
 ∃a n c,v=.agg #[.int .i64 st.aa.au,.int .i64 st.aa.ab,.int .i64 st.aa.aj,.int .i64 st.aa.of,.int .i64 st.aa.ak,.slice a n c,.int .i64 st.num,.int .i64 st.next]/\ea 0 w (.slice a n c) st.idx
theorem ea.keptB{w w':World}{v:Value}{xs:List Nat}(h:ea 0 w v xs)(k:∀g c,Blk w g c 3->Blk w' g c 3):ea 0 w' v xs:=by
 rcases h with h|⟨g,cap,c,h1,h2,h3,h4⟩
 ·exact .inl h
 exact .inr ⟨g,cap,c,h1,h2,k _ _ h3,h4⟩
theorem ef.keptB{w w':World}{v:Value}{st:aX}(h:ef w v st)(k:∀g c,Blk w g c 3->Blk w' g c 3):ef w' v st:=by obtain⟨a,n,c,h1,h2⟩:=h;exact⟨a,n,c,h1,h2.keptB k⟩
theorem ea.len{w:World}{a:Option Addr}{n c:Nat}{xs:List Nat}(h:ea 0 w (.slice a n c) xs):n=xs.length:=by
 rcases h with⟨h,rfl⟩|⟨g,cap,c,h1,_⟩
 ·cases h;rfl
 cases h1;rfl
theorem ea.get{w:World}{a:Option Addr}{n c:Nat}{xs:List Nat}(h:ea 0 w (.slice a n c) xs){i:Nat}(hi:i<xs.length):∃g,a=some ⟨g,0,none⟩/\g<w.heap.size/\w.cell? ⟨g,i,none⟩=some (.int .i64 xs[i]):=by
 rcases h with⟨h,rfl⟩|⟨g,cap,c,h1,h2,h3,h4⟩
 ·simp at hi
 cases h1;exact⟨g,rfl,h3.lt,by rw[h3.cell i];exact h4 i hi⟩
theorem yx(h:LR az l vm vloc tb ar vs vf vp w s){v:Value}{st:aX}(hv:ef w v st){x:List Nat}(hx:dn s st.idx=some x):Calls prog 166 #[.pointer (some ⟨l,0,none⟩),v] w fun e w'=>∃u,e=.returned u/\w.grownBy w' none/\bO az w' u x:=by
 obtain⟨a,n,c,rfl,hi⟩:=hv;have hn:=hi.len;subst hn;have hB:=h.base_le;cases eb:st.idx with
 |nil=>
  rw[eb]at hi;simp only[eb,ajv];simp only[dn,eb]at hx;cases lN:s.ae with
  |nil=>rw[lN]at hx;simp at hx
  |cons f fs=>
   rw[lN]at hx;simp at hx;subst hx;obtain⟨cf,ie,hZ⟩:=h.frm;obtain⟨g,cap,rfl⟩:=cu ie (by rw[lN];simp);obtain⟨vt,vg,b,he,hb,ht,uq⟩:=hZ 0 (by rw[lN];simp);simp only[lN,List.getElem_cons_zero]at he hb ht uq;obtain⟨at1,nt1,ct1,rfl⟩:=ht.isSlice;obtain⟨at2,nt2,ct2,rfl⟩:=uq.isSlice;have lv:0<s.ae.length:=by rw[lN];simp
   have cells:∀j,j<7->w.cell? ⟨g,j,none⟩=(rE f (.slice at1 nt1 ct1) (.slice at2 nt2 ct2) b)[j]?:=fun j hj=>by have h7:=he j hj;rw[(bK ie (by omega)).1];simpa using h7
   have x0:=cells 0 (by omega);have x1:=cells 1 (by omega);have x2:=cells 2 (by omega);have x3:=cells 3 (by omega);have x4:=cells 4 (by omega);have x5:=cells 5 (by omega);have x6:=cells 6 (by omega);simp[rE]at x0 x1 x2 x3 x4 x5 x6;have c3:=h.blk.cell 3;simp at c3;have ol:=h.blk.lt;have iB:g<w.heap.size:=by obtain⟨c,hc,_⟩:=dF ie;exact hc.lt
   have Zm:(0:Int)<(s.ae.length:Int):=by omega
   have Ai:=h.nf;have dW:∀o,w.grownBy (w.alloc o) none:=fun o=>aC _ _ _;clear cells he ie hZ lN;go_enter func166,ntmps166;go_wp2_with (go_at_call 129;refine(qk (az:=az) (tb:=tb) (f:=f) ⟨at1,nt1,ct1,at2,nt2,ct2,b,rfl,hb,ht.kept (bc.none (dW _) hB).below,uq.kept (bc.none (dW _) hB).below⟩ (by simp;omega)).mono ?_;rintro e w2 ⟨u,rfl,aP,hu⟩)
   go_ret;exact⟨u,rfl,aB (dW _) aP,hu⟩
 |cons i is=>
  rw[eb]at hi;simp only[dn,eb]at hx;have eW:∃bM:i<s.ae.length,x=aZ (s.ae[s.ae.length-1-i]'(by omega)):=by
   unfold bT at hx;split at hx
   ·rename_i bM;refine⟨bM,?_⟩;rw[gEg (by omega)]at hx;simp at hx;exact hx.symm
   simp at hx
  obtain⟨bM,rfl⟩:=eW;obtain⟨g,rfl,iB,bC⟩:=hi.get (i:=0) (by simp);simp only[List.getElem_cons_zero]at bC;have ol:=h.blk.lt;have dW:∀o,w.grownBy (w.alloc o) none:=fun o=>aC _ _ _;have yk:(0:Int)<((i::is).length:Int):=Int.natCast_pos.2 (by simp);have vz:¬(((i::is).length:Nat)=0):=by simp
  obtain⟨m,hm⟩:∃m,m=(i::is).length:=⟨_,rfl⟩;rw[<-hm]at yk vz ⊢;clear hm hx hi eb;go_enter func166,ntmps166;go_wp2_with fail;refine(lu (h.kept (dW _)) bM).mono ?_;rintro e w2 ⟨u,rfl,aP,hu⟩;have Ij:az<=w2.heap.size:=by have:=aP.size;simp at this;omega
  have Zn:=hu;obtain⟨at1,nt1,ct1,at2,nt2,ct2,b,rfl,_⟩:=Zn;go_wp2_with (go_at_call 129;refine(qk hu Ij).mono ?_;rintro e w3 ⟨u,rfl,co,Ti⟩)
  go_ret;exact⟨u,rfl,aB (aB (dW _) aP) co,Ti⟩
theorem yy{i:Nat}(bM:i<s.ae.length):bT s i=some (s.ae[s.ae.length-1-i]'(by omega)):=by unfold bT;rw[ajd bM,gEg (by omega)]
theorem Cy(h:LR az l vm vloc tb ar vs vf vp w s){a:Option Addr}{n c:Nat}{idx:List Nat}(hi:ea 0 w (.slice a n c) idx)(eW:∀i∈idx,i<s.ae.length)(aQ:idx.length<=20){u:Value}{x:List Nat}(hu:bO az w u x)(hx:x.length<=100)(lN:∀f∈s.ae,f.aj.length<=100/\f.ak.length<=100):Calls prog 167 #[.pointer (some ⟨l,0,none⟩),.slice a n c,u] w fun e w'=>w.grownBy w' none/\fh (gM ar s x idx) (fun _ e w'=>e=.returned (.tuple #[])) e w':=by
 have hn:=hi.len;subst hn;have hB:=h.base_le;obtain⟨ua,un,uc,rfl⟩:=hu.isSlice;have ED:(idx.length:Int)<=20:=by omega
 have HF:Hid _:=lN;have Tj:Hid _:=eW;clear lN eW;go_enter func167,ntmps167;go_wp2;go_loopw [10] (fun i wr=>∃k:Nat,i=.int .i64 k/\k<=idx.length/\Hid (gM ar s x idx=gM ar s x (idx.drop k))/\w.grownBy wr none) (fun i _=>idx.length-(intOf i).toNat)
 case atStart=>exact⟨0,rfl,ajl _,rfl,aH _ _⟩
 case round=>
  obtain⟨k,rfl,hk,HE,bU⟩:=hrel;by_cases bM:k<idx.length
  ·obtain⟨g,rfl,iB,bC⟩:=hi.get bM;have lx:=Tj.out idx[k] (ajw bM);have hce:wr.cell? ⟨g,k,none⟩=some (.int .i64 idx[k]):=(ajK (w:=w) (bU.block g iB (by simp))).trans bC;obtain⟨f,hf⟩:∃f,f=s.ae[s.ae.length-1-idx[k]]'(by omega):=⟨_,rfl⟩;have cT:Hid (gM ar s x idx=if some (aZ f)=some x then gM ar s x (idx.drop (k+1)) else .error (7,ar)):=by show _=_;rw[HE.out,List.drop_eq_getElem_cons bM];simp only[gM,yy lx,Option.map_some,hf]
   have Ik:(aZ f).length<=100:=by have:=HF.out f (by rw[hf];exact ajw _);unfold aZ;split <;> omega
   have hL:=lu (h.kept bU) lx;rw[<-hf]at hL;have HI:Hid _:=hi;clear hf hi HE;go_wp2_with fail;refine hL.mono ?_;rintro e w2 ⟨v2,rfl,aP,WS⟩;have Ij:az<=w2.heap.size:=by have:=bU.size;have:=aP.size;omega
   have Tk:=WS;obtain⟨at1,nt1,ct1,at2,nt2,ct2,b,rfl,_⟩:=Tk;go_wp2_with fail;refine(qk WS Ij).mono ?_;rintro e w3 ⟨v3,rfl,co,WT⟩;have EF:az<=w3.heap.size:=by have:=co.size;omega
   have Tl:=WT;obtain⟨g3,cap3,c3,rfl,_⟩:=Tl;have xc:=aB (aB bU aP) co;have Ti:=hu.kept (bc.none xc hB).below;have BM:=vD WT Ti EF Ik hx;by_cases he:aZ f=x
   ·have AC:=cT.out;rw[ajd (by rw[he])]at AC;have HS:Hid _:=AC;clear cT AC;rw[decide_eq_true he]at BM;clear he;go_wp2_with (go_at_call 165;refine BM.mono ?_;rintro e w4 ⟨rfl,dv⟩)
    go_roundw
    case rel=>exact⟨k+1,by simp,by omega,HS,aB xc dv⟩
    case measure=>simp[intOf];omega
   have AC:=cT.out;rw[ajc (by simpa using he)]at AC;have HS:Hid _:=AC;clear cT AC;rw[decide_eq_false he]at BM;clear he;go_wp2_with (first|(go_at_call 165;refine BM.mono ?_;rintro e w4 ⟨rfl,dv⟩)|(go_at_call 100;refine(ed (h.kept (aB xc dv)) 7).mono ?_;rintro e w5 ⟨rfl,rfl⟩))
   exact⟨rfl,aB xc dv,aK HS.out rfl⟩
  have lg:k=idx.length:=by omega
  have cT:gM ar s x idx=.ok ():=by rw[HE.out,lg,List.drop_length];rfl
  go_wp2;go_end0;exact⟨bU,aY cT rfl⟩
end
theorem sw.kept{lo:Nat}{w w':World}{v:Value}{m:bf}(h:sw lo w v m)(k:dC lo w w'):sw lo w' v m:=by obtain⟨b,vs,vf,rfl,hb,eF,h1,h2⟩:=h;exact⟨b,vs,vf,rfl,hb,(k b hb eF.lt).trans eF,h1.kept k,h2.kept k⟩
def dK(az:Nat)(w:World)(v:Value)(m:bf):Prop:=∃w0,w0.heap.size<=az/\sw 0 w0 v m/\Below w0.heap.size w0 w
theorem dK.kept{az:Nat}{w w':World}{v:Value}{m:bf}(h:dK az w v m)(k:Below az w w'):dK az w' v m:=by obtain⟨w0,h1,h2,h3⟩:=h;exact⟨w0,h1,h2,h3.trans (k.mono h1)⟩
theorem oK{az:Nat}{w0 w:World}{v:Value}{xs:List Nat}{lo:Nat}(h:gN lo w0 v xs)(hs:w0.heap.size<=az)(k:Below w0.heap.size w0 w):bO az w v xs:=by obtain⟨g,cap,c,e,hg,hb,hc⟩:=h;exact⟨g,cap,c,e,ajA hb.lt hs,(k.block g hb.lt).trans hb,hc⟩
theorem dK.parts{az:Nat}{w:World}{v:Value}{m:bf}(h:dK az w v m):∃b gs gf cs cf,v=.pointer (some ⟨b,0,none⟩)/\b<az/\gs<az/\gf<az /\ w.cell? ⟨b,0,none⟩=some (.slice (some ⟨gs,0,none⟩) m.sigs.length m.sigs.length)/\w.cell? ⟨b,1,none⟩=some (.slice (some ⟨gf,0,none⟩) m.funs.length m.funs.length)/\Blk w gs cs 107/\Blk w gf cf 168 /\ (∀i (hi:i<m.sigs.length),∃vt vg,cs[2*i]?=some vt/\cs[2*i+1]?=some vg/\bO az w vt m.sigs[i].1/\bO az w vg m.sigs[i].2) /\ (∀i (hi:i<m.funs.length),∃vl vc,cf[4*i]?=some (.int .i64 m.funs[i].sig)/\cf[4*i+1]?=some vl/\cf[4*i+2]?=some (.int .i64 m.funs[i].ax)/\cf[4*i+3]?=some vc/\bO az w vl m.funs[i].ai /\ ∃g cap cc,vc=.slice (some ⟨g,0,none⟩) m.funs[i].code.length cap/\g<az/\Blk w g cc 5/\(∀j (h:j<m.funs[i].code.length),cc[j]?=some (.int .u8 (m.funs[i].code[j]).toNat))/\m.funs[i].code.length<=cap):=by
 obtain⟨w0,hs,⟨b,vs,vf,rfl,_,eF,⟨gs,cs,rfl,_,qa,Ag⟩,⟨gf,cf,rfl,_,oJ,D7⟩⟩,k⟩:=h;have yr:Blk w b #[.slice (some ⟨gs,0,none⟩) m.sigs.length m.sigs.length,.slice (some ⟨gf,0,none⟩) m.funs.length m.funs.length] 166:=(k.block b eF.lt).trans eF;refine⟨b,gs,gf,cs,cf,rfl,ajA eF.lt hs,ajA qa.lt hs,ajA oJ.lt hs,by rw[yr.cell 0];rfl,by rw[yr.cell 1];rfl,(k.block gs qa.lt).trans qa,(k.block gf oJ.lt).trans oJ,fun i hi=>?_,fun i hi=>?_⟩
 ·obtain⟨vt,vg,h1,h2,h3,h4⟩:=Ag i hi;exact⟨vt,vg,h1,h2,oK h3 hs k,oK h4 hs k⟩
 obtain⟨vl,vc,h1,h2,h3,h4,h5,⟨g,cap,cc,e,_,hb,hc,kX⟩⟩:=D7 i hi;exact⟨vl,vc,h1,h2,h3,h4,oK h5 hs k,g,cap,cc,e,ajA hb.lt hs,(k.block g hb.lt).trans hb,hc,kX⟩
section
variable {az l:Nat}{vm vloc:Value}{tb:List Nat}{ar:Nat}{vs vf vp:Value}{w:World}{s:LSt}{m:bf}{ai:List Nat}
end
section
variable {az l:Nat}{vm vloc:Value}{tb:List Nat}{ar:Nat}{vs vf vp:Value}{w:World}{s:LSt}
theorem BN:(prog.info? 217).map (fun i=>(i.zero,i.size,i.bytes))=some (some (.agg #[.int .i64 0,.slice none 0 0,.slice none 0 0,.int .i64 0,.bool false,.int .i64 0,.pointer none]),7,88):=by kernel_rfl
theorem iT.mono{tb':List Nat}{fs:List PFr}{cs:List Value}(h:iT az w tb fs cs)(ht:∀(i b:Nat),tb[i]?=some b->tb'[i]?=some b):iT az w tb' fs cs:=fun i hi=>by obtain⟨vt,vg,b,h1,h2,h3,h4⟩:=h i hi;exact⟨vt,vg,b,h1,ht _ _ h2,h3,h4⟩
theorem gV.mono{tb':List Nat}{ss:List PSt}{cs:List Value}(h:gV az w tb ss cs)(ht:∀(i b:Nat),tb[i]?=some b->tb'[i]?=some b):gV az w tb' ss cs:=fun i hi=>by
 obtain⟨v,h1,h2⟩:=h i hi;refine⟨v,h1,?_⟩;rcases h2 with h2|⟨g,cap,c,x1,x2,x3,x4⟩
 ·exact .inl h2
 exact .inr ⟨g,cap,c,x1,x2,x3,fun j hj=>by obtain⟨b,y1,y2⟩:=x4 j hj;exact⟨b,ht _ _ y1,y2⟩⟩
theorem LR.tlt(h:LR az l vm vloc tb ar vs vf vp w s):∀(i b:Nat),tb[i]?=some b->b<w.heap.size:=fun i b hb=>by
 obtain⟨t1,t2,t3⟩:=h.tgt;have hi:i<s.ah.length:=by rw[<-t1];exact(gEs.1 hb).1
 obtain⟨b',x1,x2,x3⟩:=t3 i hi;rw[hb]at x1;cases x1;exact x3.lt
theorem LR.addTarget(h:LR az l vm vloc tb ar vs vf vp w s)(x:Nat×Nat×Nat){b0:Nat}(Ev:az<=b0)(jW:∀(i b:Nat),tb[i]?=some b->b<b0)(eF:Blk w b0 #[.int .i64 x.1,.int .i64 x.2.1,.int .i64 x.2.2] 220):LR az l vm vloc (tb++[b0]) ar vs vf vp w {s with ah:=s.ah++[x]}:=by
 have ht:∀(i b:Nat),tb[i]?=some b->(tb++[b0])[i]?=some b:=fun i b hb=>by rw[gAl (gEs.1 hb).1];exact hb
 obtain⟨cf,ie,hZ⟩:=h.frm;obtain⟨cp,ir,qj⟩:=h.stp;obtain⟨t1,t2,t3⟩:=h.tgt;refine⟨h.blk,h.low,h.stk,⟨cf,ie,hZ.mono ht⟩,⟨cp,ir,qj.mono ht⟩,⟨by simp[t1],?_,?_⟩,h.ns,h.nf,h.np⟩
 ·rw[List.nodup_append];refine⟨t2,by simp,?_⟩;intro a ha b hb e;simp at hb;obtain⟨i,hi⟩:=List.getElem?_of_mem ha;have:=jW i a hi;omega
 intro i hi;simp at hi;by_cases e:i=s.ah.length
 ·refine⟨b0,by rw[ajs (by omega)];simp[t1,e],Ev,?_⟩;have hx:(s.ah++[x])[i]'(by simp;omega)=x:=by rw[ajo (by omega)];simp
  simp only[hx];exact eF
 obtain⟨b,x1,x2,x3⟩:=t3 i (by omega);have hx:(s.ah++[x])[i]'(by simp;omega)=s.ah[i]'(by omega):=ajn (by omega);simp only[hx];exact⟨b,ht _ _ x1,x2,x3⟩
theorem iT.push{fs:List PFr}{cs:List Value}{f:PFr}{vt vg:Value}{b:Nat}(h:iT az w tb fs cs)(hl:cs.length=fs.length*7)(hb:tb[f.target]?=some b)(ht:bO az w vt f.aj)(hg:bO az w vg f.ak):iT az w tb (fs++[f]) (cs++rE f vt vg b):=by
 intro i hi;simp at hi;by_cases e:i=fs.length
 ·subst e;have hx:(fs++[f])[fs.length]=f:=by simp
  rw[hx];exact⟨vt,vg,b,fun j hj=>by rw[ajs (by omega),hl,Nat.add_sub_cancel_left],hb,ht,hg⟩
 have hx:(fs++[f])[i]=fs[i]'(by omega):=ajn (by omega);rw[hx];obtain⟨vt',vg',b',h1,h2,h3,h4⟩:=h i (by omega);exact⟨vt',vg',b',fun j hj=>by rw[gAl (by omega)];exact h1 j hj,h2,h3,h4⟩
theorem LR.appFrames{w2:World}{v':Value}{fs:List PFr}{cs':List Value}(h:LR az l vm vloc tb ar vs vf vp w s)(bU:w.grownBy w2 vf.ownBlock)(bn:w2.ownsRow az 217 7 v' fs.length cs')(hE:iT az w tb fs cs')(hn:fs.length<=20):Blk w2 l #[vm,vloc,vs,vf,vp,.int .i64 ar] 198/\LR az l vm vloc tb ar vs v' vp (w2.setCell ⟨l,3,none⟩ v') {s with ae:=fs}/\bc az w (w2.setCell ⟨l,3,none⟩ v'):=by
 obtain⟨cf0,IM,_⟩:=h.frm;obtain⟨o1,o2,_,o4,o5,o6⟩:=h.others bU (ba IM) (by decide);have df:=o1 (by decide);have hg:=aD w2 l 3 v';have hB:az<=w2.heap.size:=Nat.le_of_lt (ajH h.low df.lt);have kB:Below az w2 (w2.setCell ⟨l,3,none⟩ v'):=dV hg hB (by intro r e;cases e;exact h.low);obtain⟨cp,ir,qj⟩:=o4 (by decide) (by decide);have rC:=o2 (by decide);have hb:=df.set 3 v';simp at hb;exact⟨df,⟨hb,h.low,rC.kept hg (fX rC df (by decide)),⟨cs',bn.kept hg (fX bn df (by decide)),(hE.kept o6.below).kept kB⟩,⟨cp,ir.kept hg (fX ir df (by decide)),qj.kept fun g c hb=>aF hg df hb (by decide)⟩,
   (o5 (by decide)).kept fun g c hb=>aF hg df hb (by decide),h.ns,hn,h.np⟩,o6.trans (bc.grown hg hB (fun r e=>by cases e;exact⟨h.low,_,_,df,by decide⟩))⟩
theorem Cz{at1 at2:Option Addr}{nt1 ct1 nt2 ct2 au h0:Nat}{d:Bool}{bg:Int}{p:Option Addr}:Calls prog 129 #[.agg #[.int .i64 au,.slice at1 nt1 ct1,.slice at2 nt2 ct2,.int .i64 h0,.bool d,.int .i64 bg,.pointer p]] w fun e w'=> e=.returned (if au=3 then .slice at1 nt1 ct1 else .slice at2 nt2 ct2)/\w.grownBy w' none:=by
 by_cases hn:au=3
 ·have e1:(au:Int)=3:=by omega
  go_enter func129,ntmps129;go_wp2;go_ret;exact⟨rfl,aC _ _ _⟩
 have e1:((au:Int)==3)=false:=by simp;omega
 go_enter func129,ntmps129;go_wp2;go_ret;exact⟨rfl,aC _ _ _⟩
end
