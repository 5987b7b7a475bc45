import Derived.Test.YtjbdgbdcnjopkaaGreatDoorS18
import Derived.Test.YtjbdgbdcnjopkaaGreatDoorS17
import Derived.Laws.CopyOwn
namespace Go.Proofs.YtjbdgbdcnjopkaaGreatDoor
open Go.RowKit Tryz
set_option linter.all false
set_option maxRecDepth 100000
set_option maxHeartbeats 4000000
theorem sN:(prog.info? 2).map (fun i=>(i.zero,i.size,i.bytes))=some (some (.int .i64 0),1,8):=by kernel_rfl
def cA(l:List Int):List Value:=l.map fun n=>.int .i64 n
theorem dw(l:List Int):(cA l).length=l.length:=by simp[cA]
theorem mT(l:List Int):∀u∈cA l,u.oneCell'=true:=by simp[cA,Value.oneCell']
theorem ly{l:List Int}{i:Nat}(h:i<l.length):(cA l)[i]?=some (.int .i64 l[i]):=by simp[cA,h]
structure CR(az gF cb:Nat)(vl vs:Value)(w:World)(c:bS):Prop where
 blk:Blk w cb #[.pointer (some ⟨gF,c.fn*4,none⟩),.int .i64 c.next,vl,vs] 179
 low:az<=cb
 loc:w.ownsRow az 2 1 vl c.ai.length (cA c.ai)
 stk:w.ownsRow az 2 1 vs c.af.length (cA c.af)
 apart:vl.ownBlock=none\/vl.ownBlock≠vs.ownBlock
structure bP(cb:Nat)(vl vs:Value)(w w':World)(vs':Value):Prop where
 os:w'.os=w.os
 tape:w'.tape=w.tape
 output:w'.output=w.output
 size:w.heap.size<=w'.heap.size
 block:∀k,k<w.heap.size->k≠cb->some k≠vl.ownBlock->some k≠vs.ownBlock->w'.heap[k]?=w.heap[k]?
 same:vs'.ownBlock=vs.ownBlock\/∃g,vs'.ownBlock=some g/\w.heap.size<=g
section
variable {az gF cb:Nat}{vl vs vs' vs1 vs2:Value}{w w' w1 w2:World}{c:bS}
theorem bP.refl:bP cb vl vs w w vs:=⟨rfl,rfl,rfl,nLr _,fun _ _ _ _ _=>rfl,.inl rfl⟩
theorem bP.trans(h:bP cb vl vs w w1 vs1)(k:bP cb vl vs1 w1 w2 vs2):bP cb vl vs w w2 vs2:=by
 refine⟨k.os.trans h.os,k.tape.trans h.tape,k.output.trans h.output,ajE h.size k.size,fun i hi h1 h2 h3=>?_,?_⟩
 ·refine(k.block i (ajA hi h.size) h1 h2 ?_).trans (h.block i hi h1 h2 h3);rcases h.same with e|⟨g,e,hg⟩
  ·rw[e];exact h3
  rw[e];intro e';cases e';omega
 rcases k.same with e|⟨g,e,hg⟩
 ·rw[e];exact h.same
 exact .inr ⟨g,e,ajE h.size hg⟩
theorem bP.none(h:w.grownBy w' none):bP cb vl vs w w' vs:=⟨h.os,h.tape,h.output,h.size,fun k hk _ _ _=>h.block k hk (by simp),.inl rfl⟩
theorem bP.row(h:w.grownBy w' vs.ownBlock)(k:vs'.ownBlock=vs.ownBlock\/vs'.ownBlock=some w.heap.size):bP cb vl vs w w' vs':=
 ⟨h.os,h.tape,h.output,h.size,fun i hi _ _ h3=>h.block i hi h3,by
  rcases k with k|k
  ·exact .inl k
  exact .inr ⟨_,k,nLr _⟩⟩
theorem bP.cell(w:World)(i:Nat)(v:Value):bP cb vl vs w (w.setCell ⟨cb,i,Option.none⟩ v) vs:=⟨rfl,rfl,rfl,by simp[World.setCell],fun k _ h1 _ _=>Below.heap_setCell _ _ _ _ h1,.inl rfl⟩
theorem bP.loc(w:World){g i:Nat}(v:Value)(hg:vl.ownBlock=some g):bP cb vl vs w (w.setCell ⟨g,i,Option.none⟩ v) vs:=⟨rfl,rfl,rfl,by simp[World.setCell],fun k _ _ h2 _=>Below.heap_setCell _ _ _ _ (by intro e;subst e;exact h2 hg.symm),.inl rfl⟩
theorem bP.named(h:bP cb vl vs w w' vs1)(e:vs'.ownBlock=vs1.ownBlock):bP cb vl vs w w' vs':=⟨h.os,h.tape,h.output,h.size,h.block,by rw[e];exact h.same⟩
theorem CR.base_le(h:CR az gF cb vl vs w c):az<=w.heap.size:=Nat.le_of_lt (ajH h.low h.blk.lt)
theorem bP.below(k:bP cb vl vs w w' vs')(h:CR az gF cb vl vs w c):Below az w w':=
 ⟨k.os,k.tape,k.output,k.size,fun i hi=>k.block i (ajA hi h.base_le) (by have:=h.low;omega) (by
  intro e;have:=(ba h.loc i e.symm).1;omega) (by intro e;have:=(ba h.stk i e.symm).1;omega)⟩
theorem CR.kept(h:CR az gF cb vl vs w c)(k:w.grownBy w' none):CR az gF cb vl vs w' c:=
 have kk:∀t g c,Blk w g c t->Blk w' g c t:=fun t g c hb=>hb.grown k (by simp)
 ⟨kk _ _ _ h.blk,h.low,aJ h.loc (kk _),aJ h.stk (kk _),h.apart⟩
theorem CR.setNext(h:CR az gF cb vl vs w c)(n:Nat)(x:Int)(hx:x=(n:Int)):CR az gF cb vl vs (w.setCell ⟨cb,1,none⟩ (.int .i64 x)) {c with next:=n}:=by subst hx;have hb:=h.blk.set 1 (.int .i64 n);simp at hb;have kk:∀g c,Blk w g c 2->Blk (w.setCell ⟨cb,1,none⟩ (.int .i64 n)) g c 2:=fun g c hb=>aF (aD w cb 1 _) h.blk hb (by decide);exact⟨hb,h.low,aJ h.loc kk,aJ h.stk kk,h.apart⟩
theorem CR.setStk(h:CR az gF cb vl vs w c){st:List Int}(hw:w.ownsRow az 2 1 vs' st.length (cA st))(ha:vl.ownBlock=none\/vl.ownBlock≠vs'.ownBlock):CR az gF cb vl vs' (w.setCell ⟨cb,3,none⟩ vs') {c with af:=st}:=by have hb:=h.blk.set 3 vs';simp at hb;have kk:∀g c,Blk w g c 2->Blk (w.setCell ⟨cb,3,none⟩ vs') g c 2:=fun g c hb=>aF (aD w cb 3 _) h.blk hb (by decide);exact⟨hb,h.low,aJ h.loc kk,aJ hw kk,ha⟩
theorem CR.appended(h:CR az gF cb vl vs w c)(bU:w.grownBy w2 vs.ownBlock){st:List Int}(bn:w2.ownsRow az 2 1 vs' st.length (cA st))(hs:vs'.ownBlock=vs.ownBlock\/vs'.ownBlock=some w.heap.size):Blk w2 cb #[.pointer (some ⟨gF,c.fn*4,none⟩),.int .i64 c.next,vl,vs] 179/\CR az gF cb vl vs' (w2.setCell ⟨cb,3,none⟩ vs') {c with af:=st}/\bP cb vl vs w (w2.setCell ⟨cb,3,none⟩ vs') vs':=by
 have df:Blk w2 cb _ 179:=h.blk.grown bU (by
  intro e
  obtain⟨_,c',mn⟩:=ba h.stk cb e.symm
  have:=h.blk.symm.trans mn
  cases this)
 have jD:w2.ownsRow az 2 1 vl c.ai.length (cA c.ai):=h.loc.kept bU h.apart;have ZN:vl.ownBlock=none\/vl.ownBlock≠vs'.ownBlock:=by
  rcases h.apart with e|e
  ·exact .inl e
  refine .inr ?_;rcases hs with e'|e'
  ·rw[e'];exact e
  rw[e'];intro e2;have:=(h.loc.lt _ e2).2;omega
 refine⟨df,?_,(bP.row bU hs).trans (bP.cell _ _ _)⟩;have hb:=df.set 3 vs';simp at hb;have kk:∀g c,Blk w2 g c 2->Blk (w2.setCell ⟨cb,3,none⟩ vs') g c 2:=fun g c hb=>aF (aD w2 cb 3 _) df hb (by decide);exact⟨hb,h.low,aJ jD kk,aJ bn kk,ZN⟩
theorem fI(h:CR az gF cb vl vs w c)(n:Int)(hn:c.af.length<100000000):Calls prog 113 #[.pointer (some ⟨cb,0,none⟩),.int .i64 n] w fun e w'=>e=.returned (.tuple #[])/\∃vs',bP cb vl vs w w' vs'/\CR az gF cb vl vs' w' (kD c n):=by
 have c3:=h.blk.cell 3;simp at c3;obtain⟨i0,hi,fo,eP,eV⟩:=info_parts sN;have ol:=h.blk.lt;have h1:=fun o=>h.kept (aC w o none);obtain⟨sa,scap,rfl,_,_⟩:=aG h.stk;go_enter func113,ntmps113;go_wp2_with (at_builtin;refine wpList_append_own_at _ rfl _ _ 31 rfl az 2 i0 (.int .i64 0) 1 8 underlying31 hi fo eP eV rfl (by decide) _ _ _ rfl (h1 _).stk ⟨w.heap.size,0,none⟩ 1 1 [.int .i64 n] rfl rfl ?q2 ?q3 ?q4 ?q5 ?q6 ?q7)
 case q2=>exact cell_one_new _ _ _
 case q3=>simp[Value.oneCell']
 case q4=>simp[maxLen];omega
 case q5=>omega
 case q6=>exact(h1 _).base_le
 case q7=>
  intro v' w' bn bU _ dh;obtain⟨df,hL,hW⟩:=(h1 _).appended (st:=c.af++[n]) bU (by simpa [cA] using bn) (by rw[ajz];exact dh);have k2:=df.cell 3;have f2:=df.frozen 3;simp at k2;obtain⟨a',cap',rfl,_⟩:=aG bn;go_wp2;go_end0;exact⟨rfl,_,(bP.none (aC _ _ _)).trans hW,hL⟩
theorem lz{n m cap:Nat}{a:Option Addr}{xs:List Value}(h:w.ownsRow az 2 1 (.slice a n cap) n xs):∀j u,xs[j]?=some u->∃g,a=some ⟨g,0,none⟩/\w.cell? ⟨g,j,none⟩=some u:=by
 intro j u hj;have qc:j<n:=by have:=(gEs.1 hj).1;rw[h.1]at this;omega
 obtain⟨g,cap',e⟩:=cu h (by omega);cases e;exact⟨g,rfl,by rw[(bK h (by omega)).1];exact hj⟩
theorem cP(h:CR az gF cb vl vs w c){n:Int}{c1:bS}(hp:kV c=some (n,c1))(hn:c.af.length<=100000000):Calls prog 110 #[.pointer (some ⟨cb,0,none⟩)] w fun e w'=>e=.returned (.int .i64 n)/\∃vs',bP cb vl vs w w' vs'/\CR az gF cb vl vs' w' c1:=by
 have c3:=h.blk.cell 3;have f3:=h.blk.frozen 3;simp at c3;unfold kV at hp;split at hp
 ·cases hp
 rename_i x hx;cases hp;have aQ:0<c.af.length:=by
  cases hs:c.af with
  |nil=>rw[hs]at hx;simp at hx
  |cons a l=>simp
 obtain⟨g,cap,rfl⟩:=cu h.stk aQ;obtain⟨k,hk⟩:∃k,c.af.length=k+1:=⟨c.af.length-1,by omega⟩;have hcut:=kH h.stk (k:=k) (by omega);have Xt:(cA c.af)[k]?=some (.int .i64 n):=by rw[ajk,hk]at hx;simp at hx;simp[cA,hx]
 have bC:=bK h.stk (j:=k) (by omega);rw[Xt]at bC;obtain⟨Ae,_⟩:=bC;have Xu:k+1<=cap:=by obtain⟨_,_,_,hh⟩:=dF h.stk;omega
 have HS:=h.stk;rw[hk]at c3;have rQ:(k:Int)<=100000000:=by omega
 have iB:g<w.heap.size:=by obtain⟨c,hc,_⟩:=dF h.stk;exact hc.lt
 have ol:=h.blk.lt;have HK:Hid _:=hk;clear hk hx hcut HS aQ Xt;go_enter func110,ntmps110;go_wp2;go_ret;refine⟨rfl,.slice (some ⟨g,0,none⟩) k cap,(bP.cell _ _ _).named rfl,?_⟩;have hd:c.af.dropLast.length=k:=by rw[List.length_dropLast,HK.out];omega
 refine h.setStk (st:=c.af.dropLast) ?_ h.apart;have:=kH h.stk (k:=k) (by rw[HK.out];omega);rw[hd];have e:cA c.af.dropLast=(cA c.af).take (k*1):=by simp[cA,List.dropLast_eq_take,HK.out]
 rw[e];exact this
end
section
variable {az gF cb:Nat}{vl vs vs' vs1 vs2:Value}{w w' w1 w2:World}{c:bS}
theorem bP.fresh(h:bP cb vl vs w w1 vs1){g:Nat}(hg:w.heap.size<=g)(k:Below g w1 w2):bP cb vl vs w w2 vs1:=⟨k.os.trans h.os,k.tape.trans h.tape,k.output.trans h.output,ajE h.size k.size,fun i hi h1 h2 h3=>(k.block i (by omega)).trans (h.block i hi h1 h2 h3),h.same⟩
theorem CR.under(h:CR az gF cb vl vs w1 c){g:Nat}(k:Below g w1 w2)(h1:cb<g)(h2:∀i,vl.ownBlock=some i->i<g)(h3:∀i,vs.ownBlock=some i->i<g):CR az gF cb vl vs w2 c:=by
 refine⟨(k.block cb h1).trans h.blk,h.low,?_,?_,h.apart⟩
 ·obtain⟨l1,l2⟩:=h.loc;refine⟨l1,?_⟩;rcases l2 with l2|⟨g',cap,cur,e,hb,hg,r⟩
  ·exact .inl l2
  exact .inr ⟨g',cap,cur,e,hb,(k.block g' (h2 g' (by rw[e];rfl))).trans hg,r⟩
 obtain⟨l1,l2⟩:=h.stk;refine⟨l1,?_⟩;rcases l2 with l2|⟨g',cap,cur,e,hb,hg,r⟩
 ·exact .inl l2
 exact .inr ⟨g',cap,cur,e,hb,(k.block g' (h3 g' (by rw[e];rfl))).trans hg,r⟩
theorem qs(k:Nat):(madeCells #[.int .i64 0] k).toList=List.replicate k (Value.int .i64 0):=by simp[madeCells,Nat.mod_one];rw[List.map_const',List.length_range]
theorem uK:(prog.info? 2).map (·.size)=some 1:=by kernel_rfl
theorem oq(W:World)(g:Nat)(dCap sLen sCap:Nat)(sp:Option Addr)(cur cs:List Value)(hb:Blk W g cur.toArray 2)(hn:cs.length=Nat.min sLen cur.length)(h1:∀v∈cs,v.oneCell'=true)(rJ:0<cs.length->∃ad,sp=some ad/\∀j v,cs[j]?=some v->W.cell? (ad.add j)=some v):∃W2,(Builtin.copy_ #[31,31] 3 #[.slice (some ⟨g,0,none⟩) cur.length dCap,.slice sp sLen sCap]).run prog W=.ok (.int .i64 cs.length) W2/\Blk W2 g (splice cur 0 cs).toArray 2/\Below g W W2:=by
 by_cases h0:cs.length=0
 ·obtain rfl:cs=[]:=List.eq_nil_of_length_eq_zero h0;refine⟨W,run_copy_none (P:=prog) W 31 31 3 2 _ _ _ _ _ _ underlying31 uK hn.symm,?_,Below.refl _ _⟩;simpa [splice] using hb
 obtain⟨ad,rfl,hs⟩:=rJ (by omega);have jM:cs.length<=cur.length:=by rw[hn];exact Nat.min_le_right _ _
 refine⟨_,run_copy_row (P:=prog) W 31 31 3 2 g 0 _ _ ad _ _ cur.toArray 2 cs underlying31 uK hb hn hs (by simpa using jM) h1,?_,below_setRow (Below.refl _ _) (nLr _) _⟩;have:=setRow_heap W g cur.toArray (List.take 0 cur.toArray.toList++cs++List.drop (0+cs.length) cur.toArray.toList).toArray 2 (0,0) hb;simpa [splice] using this
theorem oN(h:CR az gF cb vl vs w c){k:Nat}{l:List Int}{c1:bS}(hp:dE c k=some (l,c1))(hk:k<=1000)(hn:c.af.length<=100000000):Calls prog 86 #[.pointer (some ⟨cb,0,none⟩),.int .i64 k] w fun e w'=>∃g vs',e=.returned (.slice (some ⟨g,0,none⟩) k k)/\w.heap.size<=g/\Blk w' g (cA l).toArray 2/\l.length=k/\vs'.ownBlock=vs.ownBlock/\bP cb vl vs w w' vs'/\CR az gF cb vl vs' w' c1:=by
 have c3:=h.blk.cell 3;have f3:=h.blk.frozen 3;simp at c3;unfold dE at hp;split at hp
 ·cases hp
 rename_i xf;cases hp;obtain⟨sa,scap,rfl,Si,Xv⟩:=aG h.stk;obtain⟨r,hr⟩:∃r,c.af.length=r+k:=⟨c.af.length-k,by omega⟩;have um:=run_make_row' (P:=prog) 31 2 (.int .i64 0) 8 underlying31 sN rfl .i64 .i64 k (by omega) (by omega);have ol:=h.blk.lt;have cZ:=lz (m:=0) h.stk;have hL:Hid (c.af.length-k=r):=by show _=_;omega
 have HR:Hid _:=hr;rw[hr]at c3 Si;have rQ:(k:Int)<=1000:=by omega
 have ZO:(r:Int)+(k:Int)<=100000000:=by omega
 have e1:((r+k:Nat):Int)-(k:Int)=(r:Int):=by omega
 have HC:Hid _:=cZ;clear hr xf cZ;obtain⟨W,hW⟩:=aja (w.alloc (Obj.cells (madeCells #[Value.int IntKind.i64 0] k) 2));have jW:Blk W w.heap.size (List.replicate k (Value.int .i64 0)).toArray 2:=by rw[<-hW,<-qs,Array.toArray_toList];exact Blk.new _ _ _
 have E7:w.grownBy W none:=by rw[<-hW];exact aC _ _ _
 have TT:Sem.run prog (Instr.makeSlice 31 (Value.int IntKind.i64 ↑k) (Value.int IntKind.i64 ↑k)) w=Result.ok (Value.slice (some ⟨w.heap.size,0,none⟩) k k) W:=by rw[um,hW]
 have c3':=h.kept E7 |>.blk.cell 3;simp at c3';rw[HR.out]at c3';have HM:Hid _:=E7;have HN:Hid _:=jW;have PH:(cA (c.af.drop (c.af.length-k))).length=k:=by rw[dw,List.length_drop];have:=HR.out;omega
 have Sj:Hid _:=PH;clear um hW E7 jW PH;have fin:∀(w':World) (n2 cap2:Nat) ,Hid (w'.heap[w.heap.size]?=some (.cells (splice (List.replicate k (Value.int .i64 0)) 0 (cA (c.af.drop (c.af.length-k)))).toArray 2 (0,0)))->Below w.heap.size W w' ->
   ∃g vs',Ending.returned (Value.slice (some ⟨w.heap.size,0,none⟩) k k)=.returned (.slice (some ⟨g,0,none⟩) k k)/\w.heap.size<=g/\Blk (w'.setCell ⟨cb,3,none⟩ (.slice sa r scap)) g (cA (c.af.drop (c.af.length-k))).toArray 2/\(c.af.drop (c.af.length-k)).length=k/\vs'.ownBlock=(Value.slice sa c.af.length scap).ownBlock/\bP cb vl (.slice sa c.af.length scap) w (w'.setCell ⟨cb,3,none⟩ (.slice sa r scap)) vs'/\CR az gF cb vl vs' (w'.setCell ⟨cb,3,none⟩ (.slice sa r scap)) {c with af:=c.af.take (c.af.length-k)}:=by
  intro w' _ _ mn ot;have mE:splice (List.replicate k (Value.int .i64 0)) 0 (cA (c.af.drop (c.af.length-k)))=cA (c.af.drop (c.af.length-k)):=by have:=Sj.out;simp only[splice,List.take_zero,List.nil_append,ajx,this];simp
  have df:=mn.out;rw[mE]at df;have hC:CR az gF cb vl (.slice sa c.af.length scap) w' c:=(h.kept HM.out).under ot ol (fun i e=>(h.loc.lt i e).2) (fun i e=>(h.stk.lt i e).2);refine⟨w.heap.size,.slice sa r scap,rfl,nLr _,Blk.setOther df _ (by simp;omega),by rw[<-dw];exact Sj.out,?_,?_,?_⟩
  ·cases sa <;> rfl
  ·refine bP.named (((bP.none HM.out).fresh (nLr _) ot).trans (bP.cell _ _ _)) ?_;cases sa <;> rfl
  have hcut:=pw hC.stk (k:=r) (by have:=HR.out;omega);have e:(c.af.take (c.af.length-k)).length=r:=by rw[ajq];have:=HR.out;omega
  refine hC.setStk (st:=c.af.take (c.af.length-k)) ?_ ?_
  ·rw[e];have e2:cA (c.af.take (c.af.length-k))=(cA c.af).take (r*1):=by rw[hL.out];simp[cA,List.map_take]
   rw[e2];exact hcut
  rcases h.apart with e|e
  ·exact .inl e
  refine .inr ?_;cases sa <;> exact e
 have HF:Hid _:=fin;have lN:∀w',Below w.heap.size W w'->w'.cell? ⟨cb,3,none⟩=some (.slice sa (r+k) scap)/\w'.frozen? ⟨cb,3,none⟩=false/\cb<w'.heap.size:=by intro w' ot;have:=(ot.block cb ol).trans (h.kept HM.out).blk;have hx:=Blk.cell this 3;simp at hx;rw[HR.out]at hx;exact⟨hx,Blk.frozen this 3,Blk.lt this⟩
 have Sk:Hid _:=lN;clear fin lN;have BV:∀sp sCap,(0<k->sp=sa.map (fun x=>x.add r))->∃W2,(Builtin.copy_ #[31,31] 3 #[.slice (some ⟨w.heap.size,0,none⟩) k k,.slice sp k sCap]).run prog W=.ok (.int .i64 k) W2/\Hid (Blk W2 w.heap.size (splice (List.replicate k (Value.int .i64 0)) 0 (cA (c.af.drop (c.af.length-k)))).toArray 2)/\Below w.heap.size W W2:=by
  intro sp sCap mE;have PH:=Sj.out;obtain⟨W2,h1,h2,h3⟩:=oq W w.heap.size k k sCap sp (List.replicate k (Value.int .i64 0)) (cA (c.af.drop (c.af.length-k))) HN.out (by rw[PH];simp) (mT _) (fun j5=>by
   have h0:=Sj.out
   obtain⟨g,e,_⟩:=HC.out r _ (ly (by have:=HR.out;omega))
   subst e
   refine⟨⟨g,r,none⟩,by rw[mE (by omega)];simp[cJ],fun j v hj=>?_⟩
   have MF:(cA c.af)[r+j]?=some v:=by
    rw[<-hj];simp[cA,hL.out,List.getElem?_drop]
   obtain⟨g',e',kt⟩:=HC.out (r+j) v MF
   cases e'
   have xS:g<w.heap.size:=World.block_lt_of_cell? w _ kt
   rw[cJ]
   exact(ajK (w:=w) (w':=W) (HM.out.block g xS (by simp))).trans kt)
  rw[PH]at h1;simp only[List.length_replicate]at h1;exact⟨W2,h1,h2,h3⟩
 by_cases K4:scap=r
 ·obtain⟨W2,Ct,mn,ot⟩:=BV sa 0 (by omega);have ZP:(Builtin.copy_ #[31,31] 3 #[.slice (some ⟨w.heap.size,0,none⟩) k k,.slice sa 0 0]).run prog W=.ok (.int .i64 k) W2:=by
   have uH:k=0:=by omega
   have:=Ct;rw[uH]at this ⊢;exact this
  obtain⟨z1,z2,z3⟩:=Sk.out W2 ot;have TU:Hid _:=ot;clear ot BV;subst K4;go_enter func86,ntmps86;go_wp2;go_ret;exact HF.out W2 0 0 mn TU.out
 obtain⟨W2,Ct,mn,ot⟩:=BV (sa.map (fun x=>x.add r)) (scap-r) (fun _=>rfl);obtain⟨z1,z2,z3⟩:=Sk.out W2 ot;have TU:Hid _:=ot;clear ot BV;go_enter func86,ntmps86;go_wp2;go_ret;exact HF.out W2 0 0 mn TU.out
end
section
variable {az gF cb:Nat}{vl vs vs' vs1 vs2:Value}{w w' w1 w2:World}{c:bS}
theorem CR.drew(h:CR az gF cb vl vs w c):CR az gF cb vl vs w.drew c:=h.kept (aE (aH _ _))
theorem ra(h:CR az gF cb vl vs w c){g k:Nat}{l:List Int}(hb:Blk w g (cA l).toArray 2)(hk:l.length=k)(lg:k<=1000)(hn:c.af.length<100000000):Calls prog 89 #[.pointer (some ⟨cb,0,none⟩),.slice (some ⟨g,0,none⟩) k k] w fun e w'=>e=.returned (.tuple #[])/\∃vs',bP cb vl vs w w' vs'/\CR az gF cb vl vs' w' (ff c l):=by
 have c3:=h.blk.cell 3;simp at c3;obtain⟨i0,hi,fo,eP,eV⟩:=info_parts sN;have ol:=h.blk.lt;obtain⟨sa,scap,rfl,_,_⟩:=aG h.stk;have HK:Hid _:=hk;clear hk;go_enter func89,ntmps89;go_wp2_with (at_builtin;refine wpList_append_own_at _ rfl _ _ 31 rfl az 2 i0 (.int .i64 0) 1 8 underlying31 hi fo eP eV rfl (by decide) _ _ _ rfl h.stk ⟨g,0,none⟩ k k (cA l) rfl ?q1 ?q2 ?q3 ?q4 ?q5 ?q6 ?q7)
 case q1=>rw[dw,HK.out];simp
 case q2=>
  intro j u hj;rw[cJ,ajx,hb.cell j];simpa using hj
 case q3=>exact mT _
 case q4=>simp[maxLen];omega
 case q5=>omega
 case q6=>exact h.base_le
 case q7=>
  intro v' w' bn bU _ dh;obtain⟨df,hL,hW⟩:=h.appended (st:=c.af++l) bU (by have:=HK.out;simpa [cA,this] using bn) dh;have k2:=df.cell 3;have f2:=df.frozen 3;simp at k2;obtain⟨a',cap',rfl,_⟩:=aG bn;go_wp2;go_end0;exact⟨rfl,_,hW,hL⟩
theorem lA{P:Program}{ops:Array Oper}{o:Oper}{a:Act}{w:World}{K:Act->World->Prop}{Q:Exit->Act->World->Prop}{E:Prop}(hg:o.guard=none) (s x:Operand) (t:TypeId) (ex:o.op=Op.call {callee:=Callee.builtin Builtin.append,args:=#[s,x],argTypes:=#[t,t]})(az:Nat) (e:TypeId) (i:TypeInfo) (z:Value) (size bytes:Nat) (ht:P.underlying t=some (.slice e)) (hi:P.info? e=some i) (hz:i.zero=some z)(EL:i.size=size) (Pf:i.bytes=bytes) (Tq:z.cells.size=size) (gy:0<size)(v:Value) (n:Nat) (xs:List Value) (hs:a.eval s=v) (bn:w.ownsRow az e size v n xs)(ad:Addr) (m c:Nat) (news:List Value) (hx:a.eval x=.slice (some ad) m c) (hl:news.length=m*size) (EM:∀j u,news[j]?=some u->w.cell? (ad.add j)=some u) (h1:∀u∈news,u.oneCell'=true)(Tr:n+m<=maxLen) (AF:(n+m)*bytes<=140737488355328) (EN:az<=w.heap.size)(hK:∀v' w',w'.ownsRow az e size v' (n+m) (xs++news)->w.grownBy w' v.ownBlock->(v'.ownBlock=v.ownBlock\/v'.ownBlock=some w.heap.size)->K (a.put o.dst v') w'):if Region.wanted o (yielded ops a.tmps)=true then Oper.wp P o a w K Q else E:=by
 have hw:Region.wanted o (yielded ops a.tmps)=true:=by simp[Region.wanted,hg]
 rw[ajd hw];obtain⟨v',w',hr,h2,h3,h4,h5⟩:=run_append_own_at (P:=P) w az t o.type e i z size bytes ht hi hz EL Pf Tq gy v n xs bn ad m c news hl EM h1 Tr AF EN;unfold Oper.wp execOp;simp only[ex,resolve,invoke,builtin,Sem.run_bind,Sem.run_pure,Result.andThen_ok,List.map_toArray,List.map_cons,List.map_nil,hs,hx,hr];exact hK _ _ h2 h3 h5
abbrev E8(w:World)(b:Nat)(t:Tg):Prop:=Blk w b #[.int .i64 t.1,.int .i64 t.2.1,.int .i64 t.2.2] 220
theorem mU(h:CR az gF cb vl vs w c){b:Nat}{t:Tg}{c1:bS}(ht:E8 w b t)(hp:qS c t=some c1)(hn:c.af.length<=100000000):Calls prog 146 #[.pointer (some ⟨cb,0,none⟩),.pointer (some ⟨b,0,none⟩)] w fun e w'=>e=.returned (.tuple #[])/\∃vs',bP cb vl vs w w' vs'/\CR az gF cb vl vs' w' c1:=by
 obtain⟨nx,k,q⟩:=t;have c3:=h.blk.cell 3;have t0:=ht.cell 0;have t1:=ht.cell 1;have t2:=ht.cell 2;simp at c3 t0 t1 t2;unfold qS at hp;simp only at hp;split at hp
 ·cases hp
 rename_i xf;cases hp;obtain⟨i0,hi,fo,eP,eV⟩:=info_parts sN;obtain⟨sa,scap,rfl,Si,Xv⟩:=aG h.stk;obtain⟨r,hr⟩:∃r,c.af.length=r+k:=⟨c.af.length-k,by omega⟩;have HR:Hid _:=hr;have hqr:q<=r:=by omega
 rw[hr]at c3 Si;have ZO:(r:Int)+(k:Int)<=100000000:=by omega
 have TW:(q:Int)<=(r:Int):=by omega
 have uH:(0:Int)<=(k:Int):=by omega
 have ol:=h.blk.lt;have Ii:=ht.lt;have e1:((r+k:Nat):Int)-(k:Int)=(r:Int):=by omega
 clear hr xf;have hd:c.af.take q++c.af.drop (c.af.length-k)=c.af.take q++c.af.drop r:=by rw[show c.af.length-k=r by have:=HR.out;omega]
 rw[hd];have aQ:(c.af.take q++c.af.drop r).length=q+k:=by have:=HR.out;rw[ajb,ajq,List.length_drop];omega
 obtain⟨st,cT⟩:=aja (c.af.take q++c.af.drop r);rw[cT]at aQ ⊢;have HL:Hid _:=aQ;have oO:b≠cb:=by intro e;subst e;have:=h.blk.symm.trans ht;cases this
 clear hd aQ;rcases Xv with rfl|⟨g,rfl⟩
 ·have hz:c.af.length=0/\scap=0:=by
   rcases h.stk.2 with⟨e,e2⟩|⟨g',cap',cur,e,_⟩
   ·simp at e;exact⟨e2,e.2⟩
   cases e
  obtain⟨PI,rfl⟩:=hz;have:=HR.out;obtain rfl:r=0:=by omega
  obtain rfl:k=0:=by omega
  obtain rfl:q=0:=by omega
  have oi:c.af=[]:=List.eq_nil_of_length_eq_zero PI;have oP:st=c.af:=by rw[<-cT,oi];rfl
  subst oP;have hL:=(h.setStk (st:=c.af) h.stk h.apart).setNext nx nx rfl;have f3:=h.blk.frozen 3;have tb:=ht.setOther (a:=⟨cb,3,none⟩) (.slice none 0 0) oO;have y0:=tb.cell 0;have iW:=(h.blk.set 3 (.slice none 0 0)).cell 1;have g1:=(h.blk.set 3 (.slice none 0 0)).frozen 1;simp at y0 iW;have z2:cb<(w.setCell ⟨cb,3,none⟩ (.slice none 0 0)).heap.size:=(h.blk.set 3 (.slice none 0 0)).lt;clear cT oi;go_enter func146,ntmps146;go_upto_region 1 with(go_region)
  go_region
  all_goals
   go_wp2;go_end0;have eP:=PI;rw[eP]at hL;exact⟨rfl,_,((bP.cell _ _ _).trans (bP.cell _ _ _)).trans (bP.none (aE (aE (aH _ _)))),hL.drew.drew⟩
 have hcut:=kH h.stk (k:=q) (by have:=HR.out;omega);have HU:Hid _:=hcut;have iB:g<w.heap.size:=by obtain⟨c,hc,_⟩:=dF h.stk;exact hc.lt
 have EG:(cA c.af).take (q*1)++cA (c.af.drop r)=cA st:=by rw[<-cT];simp[cA,List.map_take,List.map_drop]
 have rJ:∀j u,(cA (c.af.drop r))[j]?=some u->w.cell? ⟨g,r+j,none⟩=some u:=by
  intro j u hj;have MF:(cA c.af)[r+j]?=some u:=by rw[<-hj];simp[cA,List.getElem?_drop]
  obtain⟨g',e',kt⟩:=lz (m:=0) h.stk (r+j) u MF;cases e';exact kt
 have MZ:(cA (c.af.drop r)).length=k*1:=by rw[dw,List.length_drop];have:=HR.out;omega
 have Xw:Hid _:=MZ;have HX:Hid _:=EG;have hT:∀w',w.grownBy w' (some g)->E8 w' b (nx,k,q):=by intro w' hg;obtain⟨cg,BS,_⟩:=dF h.stk;exact aF hg BS ht (by decide)
 have HT:Hid _:=hT;have HB:=h.base_le;have hqc:(q:Int)<=(scap:Int):=by omega
 have ZQ:q<=scap:=by omega
 by_cases K4:scap=r
 ·have TX:k=0:=by omega
  have E9:cA (c.af.drop r)=[]:=List.eq_nil_of_length_eq_zero (by rw[MZ];omega);have Lb:∀j u,(cA (c.af.drop r))[j]?=some u->w.cell? ⟨g,0+j,none⟩=some u:=by intro j u hj;rw[E9]at hj;simp at hj
  have HS:Hid _:=Lb;clear hcut EG rJ MZ cT hT Lb E9 TX Si;have ZR:(r:Int)<=100000000:=by omega
  subst K4;go_enter func146,ntmps146;go_upto_region 1 with(go_region)
  go_region_law (refine lA rfl _ _ 31 rfl az 2 i0 _ 1 8 underlying31 hi fo eP eV rfl (by decide) (.slice (some ⟨g,0,none⟩) q scap) q ((cA c.af).take (q*1)) rfl (aJ HU.out fun g c hb=>by repeat (first|exact hb|apply Blk.drew)) ⟨g,0,none⟩ k 0 (cA (c.af.drop scap)) (by simp[go_sem,cJ]) Xw.out (fun j u hj=>by rw[cJ];exact HS.out j u hj) (mT _) (by simp[maxLen];omega) (by omega) (by simp;omega) ?_;intro v' w' bn bU dh;rw[HX.out]at bn;obtain⟨df,hL,hW⟩:=h.appended (w2:=w') (st:=st) (by repeat (first|exact bU|apply bj)) (by rw[HL.out];exact bn) dh;have k3:=df.cell 3;have f3:=df.frozen 3;simp at k3;obtain⟨a',cap',rfl,_⟩:=aG bn;have tb:=(HT.out w' (by repeat (first|exact bU|apply bj))).setOther (a:=⟨cb,3,none⟩) (.slice a' (q+k) cap') oO;have y0:=tb.cell 0;have x1:=hL.blk.cell 1;have g1:=hL.blk.frozen 1;simp at y0 x1;have z1:=tb.lt;have z2:=hL.blk.lt)
  all_goals
   go_wp2;go_end0;exact⟨rfl,_,hW.trans (bP.cell _ _ _),hL.setNext nx nx rfl⟩
 have HS:Hid _:=rJ;clear hcut EG rJ MZ cT hT;go_enter func146,ntmps146;go_upto_region 1 with(go_region)
 go_region_law (refine lA rfl _ _ 31 rfl az 2 i0 _ 1 8 underlying31 hi fo eP eV rfl (by decide) (.slice (some ⟨g,0,none⟩) q scap) q ((cA c.af).take (q*1)) rfl (aJ HU.out fun g c hb=>by repeat (first|exact hb|apply Blk.drew)) ⟨g,r,none⟩ k (scap-r) (cA (c.af.drop r)) (by simp[go_sem,cJ]) Xw.out (fun j u hj=>by rw[cJ];exact HS.out j u hj) (mT _) (by simp[maxLen];omega) (by omega) (by simp;omega) ?_;intro v' w' bn bU dh;rw[HX.out]at bn;obtain⟨df,hL,hW⟩:=h.appended (w2:=w') (st:=st) (by repeat (first|exact bU|apply bj)) (by rw[HL.out];exact bn) dh;have k3:=df.cell 3;have f3:=df.frozen 3;simp at k3;obtain⟨a',cap',rfl,_⟩:=aG bn;have tb:=(HT.out w' (by repeat (first|exact bU|apply bj))).setOther (a:=⟨cb,3,none⟩) (.slice a' (q+k) cap') oO;have y0:=tb.cell 0;have x1:=hL.blk.cell 1;have g1:=hL.blk.frozen 1;simp at y0 x1;have z1:=tb.lt;have z2:=hL.blk.lt)
 all_goals
  go_wp2;go_end0;exact⟨rfl,_,hW.trans (bP.cell _ _ _),hL.setNext nx nx rfl⟩
end
