import Derived.Test.YtjbdgbdcnjopkaaGreatDoorS21
namespace Go.Proofs.YtjbdgbdcnjopkaaGreatDoor
open Go.RowKit Tryz
set_option linter.all false
set_option maxRecDepth 100000
set_option maxHeartbeats 4000000
theorem Jt:(prog.info? 176).map (fun i=>(i.zero,i.size,i.bytes))=some (some (.pointer none),1,8):=by kernel_rfl
structure Ent where
 cb:Nat
 vl:Value
 vs:Value
 c:bS
def fi(a b:Value):Prop:=a.ownBlock=none\/a.ownBlock≠b.ownBlock
structure rd(a b:Ent):Prop where
 cb:a.cb≠b.cb
 ll:fi a.vl b.vl
 ls:fi a.vl b.vs
 sl:fi a.vs b.vl
 ss:fi a.vs b.vs
abbrev yL(az gF:Nat)(w:World)(e:Ent):Prop:=CR az gF e.cb e.vl e.vs w e.c
def rK(l:List Ent):List Value:=l.reverse.map fun e=>.pointer (some ⟨e.cb,0,none⟩)
theorem yM(l:List Ent):(rK l).length=l.length:=by simp[rK]
structure MR(w0:World)(gF nF q:Nat)(vc:Value)(w:World)(ents:List Ent)(ay:Nat):Prop where
 blk:Blk w q #[.slice (some ⟨gF,0,none⟩) nF nF,vc,.int .i64 ay] 148
 low:w0.heap.size<=q
 calls:w.ownsRow w0.heap.size 176 1 vc ents.length (rK ents)
 each:∀e∈ents,yL w0.heap.size gF w e
 apart:ents.Pairwise rd
structure cj(w0 w w':World):Prop where
 below:Below w0.heap.size w w'
 boxes:∀g c t,t≠148->t≠179->t≠2->t≠176->Blk w g c t->Blk w' g c t
section
variable {w0:World}{az gF nF q cb:Nat}{vl vs vs' vs1 vs2 vc:Value}{w w' w1 w2:World}{c c':bS}{fs:List bu}{f:bu}{e e':Ent}{ents:List Ent}{ay:Nat}
theorem cj.refl:cj w0 w w:=⟨Below.refl _ _,fun _ _ _ _ _ _ _ h=>h⟩
theorem cj.trans(h:cj w0 w w1)(k:cj w0 w1 w2):cj w0 w w2:=⟨h.below.trans k.below,fun g c t h1 h2 h3 h4 hb=>k.boxes g c t h1 h2 h3 h4 (h.boxes g c t h1 h2 h3 h4 hb)⟩
theorem cj.none(h:w.grownBy w' none)(hB:w0.heap.size<=w.heap.size):cj w0 w w':=⟨(bc.none h hB).below,fun g c t _ _ _ _ hb=>hb.grown h (by simp)⟩
theorem cj.call(h:bP cb vl vs w w' vs')(k:CR w0.heap.size gF cb vl vs w c):cj w0 w w':=⟨h.below k,fun g c t _ h2 h3 _ hb=>h.keep k hb h2 h3⟩
theorem cj.set(h:MR w0 gF nF q vc w ents ay)(i:Nat)(v:Value):cj w0 w (w.setCell ⟨q,i,Option.none⟩ v):=⟨cY (aD w q i v) (Nat.le_of_lt (ajH h.low h.blk.lt)) (fun r e=>by cases e;exact h.low),fun g c t h1 _ _ _ hb=>aF (aD w q i v) h.blk hb h1⟩
theorem fi.symm{a b:Value}(h:fi a b):fi b a:=by
 rcases h with h|h
 ·cases hb:b.ownBlock with
  |none=>exact .inl hb
  |some g=>exact .inr (by rw[hb,h];simp)
 by_cases hb:b.ownBlock=none
 ·exact .inl hb
 exact .inr (fun e=>h e.symm)
theorem rd.symm{a b:Ent}(h:rd a b):rd b a:=⟨Ne.symm h.cb,h.ll.symm,h.sl.symm,h.ls.symm,h.ss.symm⟩
theorem sO{ty size n:Nat}{v:Value}{xs:List Value}(h:w.ownsRow az ty size v n xs)(hk:∀g,v.ownBlock=some g->w'.heap[g]?=w.heap[g]?):w'.ownsRow az ty size v n xs:=by
 obtain⟨h1,h2⟩:=h;refine⟨h1,?_⟩;rcases h2 with h2|⟨g,cap,cur,h2,hb,hg,r⟩
 ·exact .inl h2
 exact .inr ⟨g,cap,cur,h2,hb,(hk g (by rw[h2];rfl)).trans hg,r⟩
theorem yL.other(h':yL az gF w e')(h:CR az gF cb vl vs w c)(k:bP cb vl vs w w' vs')(ap:rd ⟨cb,vl,vs,c⟩ e'):yL az gF w' e':=by
 have ec:∀(g:Nat) (v:Value) (xs:List Value) (n:Nat),w.ownsRow az 2 1 v n xs->v.ownBlock=some g->fi vl v->fi vs v->w'.heap[g]?=w.heap[g]?:=by
  intro g v xs n ho hg a1 a2;obtain⟨_,cg,BS⟩:=ba ho g hg;refine k.block g BS.lt ?_ ?_ ?_
  ·intro e;subst e;have:=BS.symm.trans h.blk;cases this
  ·intro e;rcases a1 with a|a
   ·rw[a]at e;cases e
   exact a (by rw[<-e,hg])
  intro e;rcases a2 with a|a
  ·rw[a]at e;cases e
  exact a (by rw[<-e,hg])
 refine⟨(k.block e'.cb h'.blk.lt (Ne.symm ap.cb) ?_ ?_).trans h'.blk,h'.low,sO h'.loc fun g hg=>ec g _ _ _ h'.loc hg ap.ll ap.sl,sO h'.stk fun g hg=>ec g _ _ _ h'.stk hg ap.ls ap.ss,h'.apart⟩
 ·intro e;obtain⟨_,cg,BS⟩:=ba h.loc _ e.symm;have:=h'.blk.symm.trans BS;cases this
 intro e;obtain⟨_,cg,BS⟩:=ba h.stk _ e.symm;have:=h'.blk.symm.trans BS;cases this
theorem rd.moved(ap:rd ⟨cb,vl,vs,c⟩ e')(h':yL az gF w e')(k:bP cb vl vs w w' vs'):rd ⟨cb,vl,vs',c'⟩ e':=by
 have hm:∀(v:Value) (xs:List Value) (n:Nat),w.ownsRow az 2 1 v n xs->fi vs v->fi vs' v:=by
  intro v xs n ho a;rcases k.same with e|⟨g,e,hg⟩
  ·rcases a with a|a
   ·exact .inl (by rw[e];exact a)
   exact .inr (by rw[e];exact a)
  refine .inr ?_;rw[e];intro e2;have:=(ho.lt g e2.symm).2;omega
 exact⟨ap.cb,ap.ll,ap.ls,hm _ _ _ h'.loc ap.sl,hm _ _ _ h'.stk ap.ss⟩
theorem MR.step(h:MR w0 gF nF q vc w (⟨cb,vl,vs,c⟩::ents) ay)(k:bP cb vl vs w w' vs')(hc:CR w0.heap.size gF cb vl vs' w' c'):MR w0 gF nF q vc w' (⟨cb,vl,vs',c'⟩::ents) ay/\cj w0 w w':=by
 have h1:CR w0.heap.size gF cb vl vs w c:=h.each _ (List.mem_cons_self ..);have hp:=List.pairwise_cons.1 h.apart;have T0:w.ownsRow w0.heap.size 176 1 vc ((⟨cb,vl,vs',c'⟩:Ent)::ents).length (rK (⟨cb,vl,vs',c'⟩::ents)):=by have:=h.calls;simpa [rK] using this
 refine⟨⟨k.keep h1 h.blk (by decide) (by decide),h.low,aJ T0 fun g c hb=>k.keep h1 hb (by decide) (by decide),?_,?_⟩,cj.call k h1⟩
 ·intro e he;rcases List.mem_cons.1 he with rfl|he
  ·exact hc
  exact(h.each e (List.mem_cons_of_mem _ he)).other h1 k (hp.1 e he)
 exact List.pairwise_cons.2 ⟨fun e he=>(hp.1 e he).moved (h.each e (List.mem_cons_of_mem _ he)) k,hp.2⟩
theorem MR.head(h:MR w0 gF nF q vc w (⟨cb,vl,vs,c⟩::ents) ay):CR w0.heap.size gF cb vl vs w c:=h.each _ (List.mem_cons_self ..)
theorem MR.kept(h:MR w0 gF nF q vc w ents ay)(k:w.grownBy w' none):MR w0 gF nF q vc w' ents ay:=⟨h.blk.grown k (by simp),h.low,aJ h.calls fun g c hb=>hb.grown k (by simp),fun e he=>(h.each e he).kept k,h.apart⟩
theorem MR.drew(h:MR w0 gF nF q vc w ents ay):MR w0 gF nF q vc w.drew ents ay:=h.kept (aE (aH _ _))
theorem MR.base_le(h:MR w0 gF nF q vc w ents ay):w0.heap.size<=w.heap.size:=Nat.le_of_lt (ajH h.low h.blk.lt)
theorem MR.setSteps(h:MR w0 gF nF q vc w ents ay)(n:Nat)(x:Int)(hx:x=(n:Int)):MR w0 gF nF q vc (w.setCell ⟨q,2,none⟩ (.int .i64 x)) ents n:=by subst hx;have hb:=h.blk.set 2 (.int .i64 n);simp at hb;have kk:∀t,t≠148->∀g c,Blk w g c t->Blk (w.setCell ⟨q,2,none⟩ (.int .i64 n)) g c t:=fun t ht g c hb=>aF (aD w q 2 _) h.blk hb ht;exact⟨hb,h.low,aJ h.calls (kk _ (by decide)),fun e he=>⟨kk _ (by decide) _ _ (h.each e he).blk,(h.each e he).low,aJ (h.each e he).loc (kk _ (by decide)),aJ (h.each e he).stk (kk _ (by decide)),(h.each e he).apart⟩,h.apart⟩
theorem j6(h:MR w0 gF nF q vc w (e::ents) ay)(hn:ents.length<=1000):Calls prog 83 #[.pointer (some ⟨q,0,none⟩)] w fun e' w'=>e'=.returned (.pointer (some ⟨e.cb,0,none⟩))/\w'=w.drew:=by
 obtain⟨g,cap,rfl⟩:=cu h.calls (by simp);have c1:=h.blk.cell 1;simp at c1;have hx:=(bK h.calls (j:=ents.length) (by simp)).1;have hy:(rK (e::ents))[ents.length]?=some (.pointer (some ⟨e.cb,0,none⟩)):=by simp[rK]
 rw[hy]at hx;have In:(ents.length:Int)<=1000:=by omega
 have e1:((ents.length:Int)+1)-1=(ents.length:Int):=by omega
 clear hy;go_enter func83,ntmps83;go_wp2_with fail;go_region
 go_wp2_with fail;go_ret;exact⟨rfl,rfl⟩
theorem lV(h:MR w0 gF nF q vc w ents ay)(n:Nat):Calls prog 84 #[.pointer (some ⟨q,0,none⟩),.int .i64 n] w fun e' w'=>e'=.returned (.agg #[.int .i64 n,.int .i64 ay,.slice none 0 0])/\w.grownBy w' none:=by have c2:=h.blk.cell 2;simp at c2;have T3:=h.blk.lt;go_enter func84,ntmps84;go_wp2;exact bodyPost_ret (v:=.agg #[.int .i64 n,.int .i64 ay,.slice none 0 0]) (by simp[results,results84,go_sem]) rfl ⟨rfl,aC _ _ _⟩
theorem AV(hF:FR w0 gF fs w)(h:MR w0 gF fs.length q vc w ents ay){i:Nat}(hf:fs[i]?=some f):Calls prog 87 #[.pointer (some ⟨q,0,none⟩),.int .i64 i] w fun e' w'=>e'=.returned (.int .i64 f.aj.length)/\w'=w:=by
 obtain⟨at1,ct1,at2,ct2,ap,cp,R⟩:=hF.read hf;have c0:=h.blk.cell 0;simp at c0;have r0:=R.c0;have lx:i<fs.length:=(gEs.1 hf).1;have jE:(i:Int)<(fs.length:Int):=by omega
 have lv:=hF.ok.1;have PO:(fs.length:Int)<=100:=by omega
 clear hf;go_enter func87,ntmps87;go_wp2;go_ret;exact⟨rfl,rfl⟩
end
section
variable {w0:World}{az gF nF q cb:Nat}{vl vs vs' vs1 vs2 vc:Value}{w w' w1 w2:World}{c c':bS}{fs:List bu}{f:bu}{e e':Ent}{ents:List Ent}{ay:Nat}
theorem MR.under(h:MR w0 gF nF q vc w ents ay)(k:Below w.heap.size w w'):MR w0 gF nF q vc w' ents ay:=
 ⟨(k.block q h.blk.lt).trans h.blk,h.low,sO h.calls fun g hg=>k.block g (h.calls.lt g hg).2,
  fun e he=>(h.each e he).under k (h.each e he).blk.lt (fun i hi=>((h.each e he).loc.lt i hi).2) (fun i hi=>((h.each e he).stk.lt i hi).2),h.apart⟩
theorem cj.under(k:Below w.heap.size w w')(hB:w0.heap.size<=w.heap.size):cj w0 w w':=⟨k.mono hB,fun g c t _ _ _ _ hb=>(k.block g hb.lt).trans hb⟩
theorem cj.row{n:Nat}{v:Value}{xs:List Value}(hg:w.grownBy w' v.ownBlock)(ho:w.ownsRow w0.heap.size 176 1 v n xs)(hB:w0.heap.size<=w.heap.size):cj w0 w w':=
 ⟨cY hg hB (fun r e=>(ba ho r e).1),fun g c t _ _ _ h4 hb=>hb.grown hg (by
  intro e
  obtain⟨_,c',kt⟩:=ba ho g e.symm
  have:=hb.symm.trans kt
  cases this;exact h4 rfl)⟩
theorem cj.setq{cs:Array Value}(hb:Blk w q cs 148)(low:w0.heap.size<=q)(i:Nat)(v:Value):cj w0 w (w.setCell ⟨q,i,Option.none⟩ v):=⟨cY (aD w q i v) (Nat.le_of_lt (ajH low hb.lt)) (fun r e=>by cases e;exact low),fun g c t h1 _ _ _ h=>aF (aD w q i v) hb h h1⟩
theorem uM(L:Nat)(args:List Int):splice (List.replicate L (Value.int .i64 0)) 0 (cA (args.take L))=cA (args.take L++List.replicate (L-args.length) 0):=by simp[splice,cA,List.map_take];omega
theorem sP(hF:FR w0 gF fs w)(h:MR w0 gF fs.length q vc w ents ay){i:Nat}(hf:fs[i]?=some f){sp:Option Addr}{n cap:Nat}{args:List Int}(ov:args.length=n)(rJ:0<n->∃ad,sp=some ad/\∀j v,(cA args)[j]?=some v->w.cell? (ad.add j)=some v) (hn:ents.length<=1000):Calls prog 70 #[.pointer (some ⟨q,0,none⟩),.int .i64 i,.slice sp n cap] w fun e w'=>e=.returned (.tuple #[])/\cj w0 w w'/\∃vc' cb vl,w.heap.size<=cb/\MR w0 gF fs.length q vc' w' (⟨cb,vl,.slice none 0 0,fL f i args⟩::ents) ay:=by
 obtain⟨at1,ct1,at2,ct2,ap,cp,R⟩:=hF.read hf;have c0:=h.blk.cell 0;simp at c0;have r2:=R.c2;have lx:i<fs.length:=(gEs.1 hf).1;have jE:(i:Int)<(fs.length:Int):=by omega
 have lv:=hF.ok.1;have PO:(fs.length:Int)<=100:=by omega
 have hL:=(hF.ok.2 f (gMo hf)).2.2.1;have um:=run_make_row' (P:=prog) 31 2 (.int .i64 0) 8 underlying31 sN rfl .i64 .i64 f.ai (by omega) (by omega);have T3:=h.blk.lt;have ZW:gF<w.heap.size:=by have:=R.lt;have:=R.size;omega
 have ZX:(f.ai:Int)<=100:=by omega
 go_enter func70,ntmps70;go_upto_region 2 with fail
 obtain⟨A,hA⟩:=aja (#[Value.pointer (some ⟨gF,i*4,none⟩),Value.int IntKind.i64 0,Value.slice (some ⟨w.heap.size+1,0,none⟩) f.ai f.ai,Value.slice none 0 0]);have co:w.grownBy ((w.alloc (.cells A 179)).alloc (.cells (madeCells #[.int .i64 0] f.ai) 2)) none:=aB (aC _ _ _) (aC _ _ _);have Am:Blk ((w.alloc (.cells A 179)).alloc (.cells (madeCells #[.int .i64 0] f.ai) 2)) w.heap.size A 179:=(Blk.new _ _ _).alloc _;have iB:Blk ((w.alloc (.cells A 179)).alloc (.cells (madeCells #[.int .i64 0] f.ai) 2)) (w.heap.size+1) (List.replicate f.ai (Value.int .i64 0)).toArray 2:=by have:=Blk.new (w.alloc (.cells A 179)) (madeCells #[.int .i64 0] f.ai) 2;rw[ajz]at this;rw[<-qs,Array.toArray_toList];exact this
 have AP:((w.alloc (.cells A 179)).alloc (.cells (madeCells #[.int .i64 0] f.ai) 2)).heap.size=w.heap.size+2:=by simp
 rw[hA];obtain⟨W,hW⟩:=aja (((w.alloc (.cells A 179)).alloc (.cells (madeCells #[.int .i64 0] f.ai) 2)));rw[hW]at co Am iB AP ⊢;have T4:Hid _:=rJ;have Lf:Hid _:=ov;clear hW um r2 c0 rJ ov;have Le:=Am.cell 2;rw[<-hA]at Le;simp at Le;have Ct:=oq W (w.heap.size+1) f.ai n cap sp (List.replicate f.ai (Value.int .i64 0)) (cA (args.take f.ai)) iB (by rw[dw,ajq,Lf.out,List.length_replicate,Nat.min_comm]) (mT _) (fun j5=>by
  have ov:=Lf.out
  rw[dw,ajq]at j5
  obtain⟨ad,e1,e2⟩:=T4.out (by omega)
  refine⟨ad,e1,fun j v hj=>?_⟩
  have MF:(cA args)[j]?=some v:=by
   simp only[cA,List.map_take]at hj ⊢
   rw[List.getElem?_take]at hj
   split at hj
   ·exact hj
   cases hj
  exact co.cell (e2 j v MF) (by simp))
 rw[uM,List.length_replicate]at Ct;obtain⟨X,ZY,xh,Ju⟩:=Ct;have T5:Below w.heap.size w X:=⟨Ju.os.trans co.os,Ju.tape.trans co.tape,Ju.output.trans co.output,ajE co.size Ju.size,fun k hk=>(Ju.block k (by omega)).trans (co.block k hk (by simp))⟩;have ZZ:Blk X w.heap.size A 179:=(Ju.block _ (by omega)).trans Am;have T6:=Ju.size;rw[AP]at T6;have M3:=h.under T5;have Z0:Hid _:=T5;have HbX:Hid _:=Ju;clear T5 Ju;obtain⟨i0,hi,fo,eP,eV⟩:=info_parts Jt;obtain⟨va,vcap,rfl,_,_⟩:=aG h.calls;have q1:=M3.blk.cell 1;simp at q1;have hqX:=M3.blk.lt;have yN:=fun o=>M3.kept (aC X o none);have aQ:(rK ents).length=ents.length:=yM _;go_wp2_with (at_builtin;refine wpList_append_own_at _ rfl _ _ 146 rfl w0.heap.size 176 i0 (.pointer none) 1 8 underlying146 hi fo eP eV rfl (by decide) _ _ _ rfl (yN _).calls ⟨X.heap.size,0,none⟩ 1 1 [.pointer (some ⟨w.heap.size,0,none⟩)] rfl rfl ?q2 ?q3 ?q4 ?q5 ?q6 ?q7)
 case q2=>exact cell_one_new _ _ _
 case q3=>simp[Value.oneCell']
 case q4=>simp[maxLen];omega
 case q5=>omega
 case q6=>exact(yN _).base_le
 case q7=>
  intro v' w' bn bU _ dh;obtain⟨a',cap',rfl,_⟩:=aG bn;have Lg:Blk w' q _ 148:=(yN _).blk.grown bU (by
   intro e
   obtain⟨_,c',kt⟩:=ba M3.calls q e.symm
   have:=M3.blk.symm.trans kt
   cases this)
  have k1:=Lg.cell 1;have f1:=Lg.frozen 1;simp at k1;have Z1:=Lg.lt;go_wp2;go_end0;refine⟨rfl,?_,.slice a' (ents.length+1) cap',w.heap.size,.slice (some ⟨w.heap.size+1,0,none⟩) f.ai f.ai,nLr _,?_⟩
  ·have m1:cj w0 X (X.alloc (.cells #[.pointer (some ⟨w.heap.size,0,none⟩)] 176)):=cj.none (aC _ _ _) M3.base_le;have m2:cj w0 (X.alloc (.cells #[.pointer (some ⟨w.heap.size,0,none⟩)] 176)) w':=cj.row bU (yN _).calls (yN _).base_le;exact(((cj.under Z0.out h.base_le).trans m1).trans m2).trans (cj.setq Lg h.low 1 _)
  have kk:∀g c ty,ty≠176->ty≠148->Blk X g c ty->Blk (w'.setCell ⟨q,1,none⟩ (.slice a' (ents.length+1) cap')) g c ty:=by intro g c ty h1 h2 hb;refine aF (aD w' q 1 _) Lg (Blk.grown (hb.alloc _) bU ?_) h2;intro e;obtain⟨_,c',kt⟩:=ba (yN (.cells #[.pointer (some ⟨w.heap.size,0,none⟩)] 176)).calls g e.symm;have:=(hb.alloc (.cells #[.pointer (some ⟨w.heap.size,0,none⟩)] 176)).symm.trans kt;cases this;exact h1 rfl
  have om:=Lg.set 1 (.slice a' (ents.length+1) cap');simp at om;refine⟨om,h.low,?_,?_,?_⟩
  ·refine aJ ?_ fun g c hb=>aF (aD w' q 1 _) Lg hb (by decide);simpa [rK] using bn
  ·intro e he;rcases List.mem_cons.1 he with rfl|he
   ·have Ff:(fL f i args).ai.length=f.ai:=by simp[fL];omega
    refine⟨?_,h.base_le,?_,⟨rfl,.inl ⟨rfl,rfl⟩⟩,.inr (by simp[Value.ownBlock])⟩
    ·have:=kk _ _ _ (by decide) (by decide) ZZ;rw[<-hA]at this;exact this
    refine⟨by rw[dw];simp,.inr ⟨w.heap.size+1,f.ai,(cA (fL f i args).ai).toArray,by rw[Ff],by have:=h.base_le;omega,kk _ _ _ (by decide) (by decide) xh,ajJ Ff,by simp[maxLen];omega,by simp[dw,Ff],?_⟩⟩;rw[ajB (by simp[dw])]
   have h1:=M3.each e he;exact⟨kk _ _ _ (by decide) (by decide) h1.blk,h1.low,aJ h1.loc fun g c hb=>kk _ _ _ (by decide) (by decide) hb,aJ h1.stk fun g c hb=>kk _ _ _ (by decide) (by decide) hb,h1.apart⟩
  refine List.pairwise_cons.2 ⟨fun e he=>?_,h.apart⟩;have h1:=h.each e he;refine⟨?_,.inr ?_,.inr ?_,.inl rfl,.inl rfl⟩
  ·have:=h1.blk.lt;show w.heap.size≠e.cb;omega
  ·intro e2;have:=(h1.loc.lt (w.heap.size+1) e2.symm).2;omega
  intro e2;have:=(h1.stk.lt (w.heap.size+1) e2.symm).2;omega
end
theorem jp{fs:List bu}{aA gas:Nat}{s:MSt}{o:Out}(h:dx fs aA gas s=some o):∃k,gas=k+1/\(bB fs aA s=some (.inr o)\/∃s1,bB fs aA s=some (.inl s1)/\dx fs aA k s1=some o):=by
 cases gas with
 |zero=>cases h
 |succ k=>
  refine⟨k,rfl,?_⟩;unfold dx at h;split at h
  ·cases h
  ·rename_i o' ho;cases h;exact .inl ho
  rename_i s1 hs;exact .inr ⟨s1,hs,h⟩
theorem mV{c c1:bS}{k:Nat}{l:List Int}(h:dE c k=some (l,c1)):l.length=k/\c1.af.length+k=c.af.length/\c1.ai=c.ai/\c1.fn=c.fn/\c1.next=c.next:=by
 unfold dE at h;split at h
 ·cases h
 cases h;simp;omega
theorem CT{c c1:bS}{t:Tg}(h:qS c t=some c1):c1.af.length<=c.af.length/\c1.ai=c.ai/\c1.fn=c.fn:=by
 unfold qS at h;split at h
 ·cases h
 cases h;refine⟨?_,rfl,rfl⟩;simp;omega
theorem rR{ts:List Tg}{c c1:bS}{t:Option Nat}(h:goC ts c t=some c1):c1.af.length<=c.af.length/\c1.ai=c.ai/\c1.fn=c.fn:=by
 unfold goC at h;split at h
 ·cases h
 split at h
 ·cases h
 exact CT h
theorem Jv{ts:List Tg}{c:bS}{st:PSt}{r:Nat×bS}(h:doC ts c st=some r):r.2.af.length<=c.af.length+1/\r.2.ai.length=c.ai.length/\r.2.fn=c.fn:=by
 unfold doC at h;simp only at h;split at h
 ·obtain⟨_,h⟩:=gZ h;unfold mj at h;split at h
  ·cases h
  split at h
  ·split at h
   ·cases h
   rename_i hp;have:=cW hp;split at h
   ·have:=rR h;grind
   cases h;grind
  split at h
  ·split at h
   ·cases h
   rename_i hp;have:=cW hp;split at h
   ·cases h;grind
   have:=rR h;grind
  split at h
  ·split at h
   ·cases h
   rename_i hp;have:=cW hp;have:=rR h;grind
  have:=rR h;grind
 split at h
 ·obtain⟨_,h⟩:=gZ h;cases hp:kV c with
  |none=>rw[hp]at h;cases h
  |some p=>
   rw[hp]at h;simp at h;have:=cW (n:=p.1) (c1:=p.2) hp
   grind
 split at h
 ·obtain⟨_,h⟩:=gZ h;unfold vy at h;split at h
  ·cases h
  rename_i h1;split at h
  ·cases h
  rename_i h2;split at h
  ·cases h
  rename_i h3;have:=cW h1;have:=cW h2;have:=cW h3;simp only[Option.some.injEq]at h;rw[<-h];simp[kD]
  grind
 split at h
 ·obtain⟨_,h⟩:=gZ h;unfold mH at h;split at h
  ·cases h
  split at h
  ·split at h
   ·cases h
   rename_i hp;have:=cW hp;simp only[Option.some.injEq]at h;rw[<-h];simp
   grind
  split at h
  ·split at h
   ·cases h
   rename_i hp;have:=cW hp;simp only[Option.some.injEq]at h;rw[<-h];simp[kD]
   grind
  simp only[Option.some.injEq]at h;rw[<-h];simp[kD]
 split at h
 ·obtain⟨_,h⟩:=gZ h;simp only[Option.some.injEq]at h;rw[<-h];simp[kD]
 unfold jL at h;split at h
 ·split at h
  ·cases h
  rename_i hp;have:=cW hp;simp only[Option.some.injEq]at h;rw[<-h];simp[kD]
  grind
 split at h
 ·split at h
  ·cases h
  rename_i h1;split at h
  ·cases h
  rename_i h2;have:=cW h1;have:=cW h2;split at h
  ·simp only[Option.some.injEq]at h;rw[<-h];simp[kD]
   grind
  simp only[Option.some.injEq]at h;rw[<-h]
  grind
 simp only[Option.some.injEq]at h;rw[<-h];simp
structure uN(aA gas ay:Nat)(cs:List bS):Prop where
 stk:∀d∈cs,d.af.length+100*gas<=20000300
 loc:∀d∈cs,d.ai.length<=1000
 len:cs.length<=41
 ay:ay<=aA
def Lh(fs:List bu)(aA gas ay:Nat)(rest:List bS)(vals:List Int)(o:Out):Prop:=
 match rest with
 | []=>o=⟨0,ay,vals⟩
 |d::r=>∃k,k<gas/\dx fs aA k ⟨ff d vals,r,ay⟩=some o/\uN aA k ay (ff d vals::r)
section
variable {fs:List bu}{f:bu}{aA k ay:Nat}{c:bS}{rest:List bS}{o:Out}{st:PSt}
theorem Jw(h:dx fs aA k ⟨c,rest,ay⟩=some o):∃f,fs[c.fn]?=some f:=by
 obtain⟨k',rfl,hh⟩:=jp h;clear h;cases hf:fs[c.fn]? with
 |some f=>exact⟨f,rfl⟩
 |none=>
  rcases hh with h|⟨s1,h,_⟩ <;> simp[bB,hf]at h
theorem re{d:bS}{r:List bS}{vals:List Int}(hi:uN aA (k+1) ay (c::d::r))(hv:vals.length<=100){s2:Nat}(hs:s2<=aA):uN aA k s2 (ff d vals::r):=by
 refine⟨?_,?_,?_,hs⟩
 ·intro x hx;rcases List.mem_cons.1 hx with rfl|hx
  ·have:=hi.stk d (by simp);simp[ff];omega
  have:=hi.stk x (by simp[hx]);omega
 ·intro x hx;rcases List.mem_cons.1 hx with rfl|hx
  ·exact hi.loc d (by simp)
  exact hi.loc x (by simp[hx])
 have:=hi.len;simp at this ⊢;omega
theorem Fg(fQ:yJ fs)(h:dx fs aA k ⟨c,rest,ay⟩=some o)(hf:fs[c.fn]?=some f)(hs:f.ay[c.next]?=none)(hi:uN aA k ay (c::rest)):∃vals c1,dE c f.ak.length=some (vals,c1)/\Lh fs aA k ay rest vals o:=by
 obtain⟨k',rfl,hh⟩:=jp h;clear h;have hg:=(fQ.2 f (gMo hf)).2.1;cases hp:dE c f.ak.length with
 |none=>
  rcases hh with h|⟨s1,h,_⟩ <;> simp[bB,hf,hs,hp]at h
 |some p=>
  obtain⟨vals,c1⟩:=p;have hl:=(mV hp).1;refine⟨vals,c1,rfl,?_⟩;cases rest with
  |nil=>
   rcases hh with h|⟨s1,h,_⟩ <;> simp[bB,hf,hs,hp]at h
   exact h.symm
  |cons d r=>
   rcases hh with h|⟨s1,h,h2⟩ <;> simp[bB,hf,hs,hp]at h
   subst h;exact⟨k',by omega,h2,re hi (by omega) hi.ay⟩
def PP(fs:List bu)(f:bu)(aA k:Nat)(c:bS)(rest:List bS)(ay:Nat)(st:PSt)(o:Out):Prop:=
 (ay=aA/\o=⟨4,ay,[]⟩) \/
 (ay<aA/\st.aa.au=0/\o=⟨1,ay+1,[]⟩) \/
 (ay<aA/\st.aa.au=11/\40<rest.length+1/\o=⟨5,ay+1,[]⟩) \/
 (ay<aA/\st.aa.au=11/\rest.length+1<=40/\∃f2 args c1 k',fs[st.index]?=some f2/\dE {c with next:=c.next+1} f2.aj.length=some (args,c1)/\k'<k /\
   dx fs aA k' ⟨fL f2 st.index args,c1::rest,ay+1⟩=some o/\uN aA k' (ay+1) (fL f2 st.index args::c1::rest)) \/
 (ay<aA/\st.aa.au=10/\∃vals c1,dE {c with next:=c.next+1} f.ak.length=some (vals,c1)/\Lh fs aA k (ay+1) rest vals o) \/
 (ay<aA/\(st.aa.au≠0/\st.aa.au≠11/\st.aa.au≠10)/\∃e c1,doC f.ah {c with next:=c.next+1} st=some (e,c1)/\e≠0/\o=⟨e,ay+1,[]⟩) \/
 (ay<aA/\(st.aa.au≠0/\st.aa.au≠11/\st.aa.au≠10)/\∃c1 k',doC f.ah {c with next:=c.next+1} st=some (0,c1)/\k'<k /\
   dx fs aA k' ⟨c1,rest,ay+1⟩=some o/\uN aA k' (ay+1) (c1::rest))
theorem CU(fQ:yJ fs)(h:dx fs aA k ⟨c,rest,ay⟩=some o)(hf:fs[c.fn]?=some f)(hs:f.ay[c.next]?=some st)(hi:uN aA k ay (c::rest)):PP fs f aA k c rest ay st o:=by
 obtain⟨k',rfl,hh⟩:=jp h;clear h;have hg:=(fQ.2 f (gMo hf)).2.1;have cT:=hi.ay;unfold PP;by_cases du:ay=aA
 ·left;refine⟨du,?_⟩;rcases hh with h|⟨s1,h,_⟩ <;> simp[bB,hf,hs,du]at h
  rw[du];exact h.symm
 have bM:ay<aA:=by omega
 by_cases h0:st.aa.au=0
 ·right;left;rcases hh with h|⟨s1,h,_⟩ <;> simp[bB,hf,hs,du,h0]at h
  exact⟨bM,h0,h.symm⟩
 by_cases mF:st.aa.au=11
 ·by_cases hd:40<rest.length+1
  ·right;right;left;rcases hh with h|⟨s1,h,_⟩ <;> simp[bB,hf,hs,du,mF,hd]at h
   exact⟨bM,mF,hd,h.symm⟩
  right;right;right;left;refine⟨bM,mF,by omega,?_⟩;cases hZ:fs[st.index]? with
  |none=>rcases hh with h|⟨s1,h,_⟩ <;> simp[bB,hf,hs,du,mF,hd,hZ]at h
  |some f2=>
   cases hp:dE {c with next:=c.next+1} f2.aj.length with
   |none=>rcases hh with h|⟨s1,h,_⟩ <;> simp[bB,hf,hs,du,mF,hd,hZ,hp]at h
   |some p=>
    obtain⟨args,c1⟩:=p;rcases hh with h|⟨s1,h,h2⟩ <;> simp[bB,hf,hs,du,mF,hd,hZ,hp]at h
    subst h;obtain⟨p1,p2,p3,p4,p5⟩:=mV hp;have hl:=(fQ.2 f2 (gMo hZ)).2.2.1;refine⟨f2,args,c1,k',rfl,hp,by omega,h2,?_,?_,?_,by omega⟩
    ·intro x hx;have q0:=hi.stk c (by simp);rcases List.mem_cons.1 hx with rfl|hx
     ·simp[fL];omega
     rcases List.mem_cons.1 hx with rfl|hx
     ·simp at p2;omega
     have:=hi.stk x (by simp[hx]);omega
    ·intro x hx;rcases List.mem_cons.1 hx with rfl|hx
     ·simp[fL];omega
     rcases List.mem_cons.1 hx with rfl|hx
     ·rw[p3];exact hi.loc c (by simp)
     exact hi.loc x (by simp[hx])
    simp;omega
 by_cases mG:st.aa.au=10
 ·right;right;right;right;left;refine⟨bM,mG,?_⟩;cases hp:dE {c with next:=c.next+1} f.ak.length with
  |none=>
   rcases hh with h|⟨s1,h,_⟩ <;> simp[bB,hf,hs,du,mG,hp]at h
  |some p=>
   obtain⟨vals,c1⟩:=p;have hl:=(mV hp).1;refine⟨vals,c1,rfl,?_⟩;cases rest with
   |nil=>
    rcases hh with h|⟨s1,h,_⟩ <;> simp[bB,hf,hs,du,mG,hp]at h
    exact h.symm
   |cons d r=>
    rcases hh with h|⟨s1,h,h2⟩ <;> simp[bB,hf,hs,du,mG,hp]at h
    subst h;exact⟨k',by omega,h2,re hi (by omega) (by omega)⟩
 cases hd:doC f.ah {c with next:=c.next+1} st with
 |none=>rcases hh with h|⟨s1,h,_⟩ <;> simp[bB,hf,hs,du,h0,mF,mG,hd]at h
 |some p=>
  obtain⟨e,c1⟩:=p;by_cases he:e=0
  ·right;right;right;right;right;right;subst he;rcases hh with h|⟨s1,h,h2⟩ <;> simp[bB,hf,hs,du,h0,mF,mG,hd]at h
   subst h;obtain⟨d1,d2,d3⟩:=Jv hd;refine⟨bM,⟨h0,mF,mG⟩,c1,k',rfl,by omega,h2,?_,?_,?_,by omega⟩
   ·intro x hx;rcases List.mem_cons.1 hx with rfl|hx
    ·have:=hi.stk c (by simp);simp at d1;omega
    have:=hi.stk x (by simp[hx]);omega
   ·intro x hx;rcases List.mem_cons.1 hx with rfl|hx
    ·have:=hi.loc c (by simp);simp at d2;omega
    exact hi.loc x (by simp[hx])
   have:=hi.len;simp at this ⊢;omega
  right;right;right;right;right;left;rcases hh with h|⟨s1,h,h2⟩ <;> simp[bB,hf,hs,du,h0,mF,mG,hd,he]at h
  exact⟨bM,⟨h0,mF,mG⟩,e,c1,rfl,he,h.symm⟩
end
