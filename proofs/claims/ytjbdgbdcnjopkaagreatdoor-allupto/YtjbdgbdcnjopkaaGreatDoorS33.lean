import Derived.Test.YtjbdgbdcnjopkaaGreatDoorS32
namespace Go.Proofs.YtjbdgbdcnjopkaaGreatDoor
open Go.RowKit Tryz
set_option linter.all false
set_option maxRecDepth 100000
set_option maxHeartbeats 4000000
section
variable {bs code:List UInt8}{ax p op:Nat}{k:K5}
theorem Dg(hp:p<code.length)(ex:code[p].toNat=op)(hk:cr op=none):bJ code p=none:=by unfold bJ;rw[dQ hp];simp only[ex,hk]
theorem jU(hp:p<code.length)(ex:code[p].toNat=op)(hk:cr op=some k)(hb:k.ab=0):bJ code p=some {aa:=k,idx:=[],num:=0,next:=p+1}:=by unfold bJ;rw[dQ hp];simp only[ex,hk,bq,hb];simp
theorem tE(hp:p<code.length)(ex:code[p].toNat=op)(hk:cr op=some k)(hb:k.ab=1\/k.ab=2\/k.ab=3\/k.ab=4):(code.length<p+2->bJ code p=none)/\(∀h:p+1<code.length,bJ code p=some {aa:=k,idx:=[code[p+1].toNat],num:=0,next:=p+2}):=by
 unfold bJ;rw[dQ hp];simp only[ex,hk,bq];rw[ajd hb];refine⟨fun hl=>?_,fun hl=>?_⟩
 ·have:cn code (p+1) 1=none:=by unfold cn;rw[ajd (by omega)]
  rw[this];rfl
 rw[dQ hl];rfl
theorem FZ(hc:nu bs code ax)(hp:p<code.length)(ex:code[p].toNat=op)(hk:cr op=some k)(hb:k.ab=6):bJ code p=if code.length<p+5 then none else some {aa:=k,idx:=[],num:=signed 32 (cy ((bs.drop (ax+p+1)).take 4)),next:=p+5}:=by
 unfold bJ;rw[dQ hp];simp only[ex,hk,bq,hb];simp only[Nat.reduceEqDiff,or_self,if_false,if_true];rw[hc.bytes];have e:ax+(p+1)=ax+p+1:=by omega
 rw[e];by_cases hl:code.length<p+5
 ·rw[ajd hl,ajd (show code.length<p+1+4 by omega)];rfl
 rw[ajc hl,ajc (show ¬code.length<p+1+4 by omega)];rfl
theorem Dh(hc:nu bs code ax)(hp:p<code.length)(ex:code[p].toNat=op)(hk:cr op=some k)(hb:k.ab=7):bJ code p=if code.length<p+9 then none else some {aa:=k,idx:=[],num:=signed 64 (cy ((bs.drop (ax+p+1)).take 8)),next:=p+9}:=by
 unfold bJ;rw[dQ hp];simp only[ex,hk,bq,hb];simp only[Nat.reduceEqDiff,or_self,if_false,if_true];rw[hc.bytes];have e:ax+(p+1)=ax+p+1:=by omega
 rw[e];by_cases hl:code.length<p+9
 ·rw[ajd hl,ajd (show code.length<p+1+8 by omega)];rfl
 rw[ajc hl,ajc (show ¬code.length<p+1+8 by omega)];rfl
theorem F3:∀op,op<256->(17<=op/\op≠20/\op≠21)->(∀k,jH op=some k->∃K:K5,cr op=some K/\17<=K.au/\K.ab=0/\(K.aj,K.of,K.ak)=k)/\(jH op=none->cr op=none):=by
 intro op h1 h2;have key:∀op:Fin 256,(17<=op.val/\op.val≠20/\op.val≠21)->(match jH op.val,cr op.val with
   |some k,some K=>decide (17<=K.au) && decide (K.ab=0) && decide ((K.aj,K.of,K.ak)=k)
   |none,none=>true
   |_,_=>false)=true:=by decide
 have:=key ⟨op,h1⟩ h2;simp only at this;refine⟨fun k hk=>?_,fun hk=>?_⟩
 ·rw[hk]at this;cases hq:cr op with
  |none=>rw[hq]at this;simp at this
  |some K=>
   rw[hq]at this;simp only[Bool.and_eq_true,decide_eq_true_eq]at this;exact⟨K,rfl,this.1.1,this.1.2,this.2⟩
 rw[hk]at this;cases hq:cr op with
 |none=>rfl
 |some K=>rw[hq]at this;simp at this
end
def eu(st:aX)(num:Int):Prop:=num=if st.aa.ab=2\/st.aa.ab=3 then (st.idx.headD 0:Int) else st.num
def iK(st:aX):List Nat:=if st.aa.ab=4\/st.aa.ab=5 then st.idx else []
def gQ(az:Nat)(w w':World)(c x m f:Nat)(s:ByteArray)(er:Er)(ax p:Nat)(ads:List Nat)(rest:List RB)(b:RB)(mm:bf)(ai fg:List Nat)(op:Nat)(nb:Nat->Nat)(n:Nat)(res:Option aX):Prop:=
 ∃num vl,bp w' n op num vl br br br br false/\match res with
  |none=>∃at2 b2,Lk az w' c x m f s at2 (3,ax+p) (ax+p) ads (rest++[b2])
  |some st=>(st.idx.all (fun i=>i<nb st.aa.ab)=false/\∃at2 b2,Lk az w' c x m f s at2 (4,ax+p) (ax+p) ads (rest++[b2])) \/
    (st.idx.all (fun i=>i<nb st.aa.ab)=true/\Lk az w' c x m f s (ax+st.next) (doR (ax+p) mm ai fg (rest++[b]) b er st).2 (ax+p) ads (rest++[(doR (ax+p) mm ai fg (rest++[b]) b er st).1])/\eu st num/\aR w' vl (iK st))
structure la(s:ByteArray)(mm:bf)(fn:ck)(sig:Sig):Prop where
 size:s.size<=4000
 sigs1:1<=mm.sigs.length
 sigs20:mm.sigs.length<=20
 funs20:mm.funs.length<=20
 lens:∀x∈mm.sigs,x.1.length<=6/\x.2.length<=3
 fsig:∀g∈mm.funs,g.sig<mm.sigs.length
 sig:mm.sigs[fn.sig]?=some sig
 locs:fn.ai.length<=8
 code:nu s.data.toList fn.code fn.ax
 len:fn.code.length<=400
theorem la.stop{s:ByteArray}{mm:bf}{fn:ck}{sig:Sig}(h:la s mm fn sig):fn.ax+fn.code.length<=s.size:=by have:=h.code.le;rw[ajF]at this;exact this
theorem la.sig6{s:ByteArray}{mm:bf}{fn:ck}{sig:Sig}(h:la s mm fn sig):sig.1.length<=6/\sig.2.length<=3:=h.lens sig (gMo h.sig)
def Qj(w:World)(v:Value)(mm:bf):Prop:=∃g cap cells,v=.slice (some ⟨g,0,none⟩) mm.funs.length cap/\Blk w g cells 50/\∀i (h:i<mm.funs.length),∃a,cells[i]?=some (ptr a)/\ky w a (da mm i) ((da mm i).1++mm.funs[i].ai) mm.funs[i].ax (mm.funs[i].ax+mm.funs[i].code.length)
structure Ctx(w:World)(m f:Nat)(mm:bf)(fn:ck)(sig:Sig):Prop where
 mod:∃vs vf,Blk w m #[vs,vf] 38/\BY w vs mm.sigs/\Qj w vf mm
 fn:ky w f sig (sig.1++fn.ai) fn.ax (fn.ax+fn.code.length)
theorem Ctx.keep{w w':World}{m f:Nat}{mm:bf}{fn:ck}{sig:Sig}{az:Nat}{n:Option Nat}(h:Ctx w m f mm fn sig)(k:Fr az n w w'):Ctx w' m f mm fn sig:=by
 have kk:∀g c t,¬l7 t->t≠157->Blk w g c t->Blk w' g c t:=fun g c t h1 h2 hb=>k.keep g c t h1 (fun e=>absurd e h2) hb;obtain⟨vs,vf,h1,⟨g,cap,cs,e1,e2,e3⟩,⟨g2,cap2,cs2,e4,e5,e6⟩⟩:=h.mod;refine⟨⟨vs,vf,kk _ _ _ (by decide) (by decide) h1,⟨g,cap,cs,e1,kk _ _ _ (by decide) (by decide) e2,fun i hi=>?_⟩,⟨g2,cap2,cs2,e4,kk _ _ _ (by decide) (by decide) e5,fun i hi=>?_⟩⟩,h.fn.keep k⟩
 ·obtain⟨vt,vg,q1,q2,q3,q4⟩:=e3 i hi;exact⟨vt,vg,q1,q2,k.row q3,k.row q4⟩
 obtain⟨a,q1,q2⟩:=e6 i hi;exact⟨a,q1,q2.keep k⟩
def kj(mm:bf)(ai:List Nat)(nf what:Nat):Nat:=if what=1 then mm.sigs.length else if what=2 then mm.funs.length else if what=3 then ai.length else nf
theorem gh(w:World)(op:Nat):bp (w.alloc (.cells #[.int .i64 op,.int .i64 0,.slice none 0 0,.slice none 0 0,.slice none 0 0,.slice none 0 0,.slice none 0 0,.bool false] 157)) w.heap.size op 0 br br br br br false:=Blk.new w _ _
section
variable {az c x m f:Nat}{w w':World}{s:ByteArray}{er:Er}{ads:List Nat}{a:Nat}{rest:List RB}{b:RB}{mm:bf}{fn:ck}{sig:Sig}{p op:Nat}
theorem JY(h:Lk az w c x m f s (fn.ax+p+1) er (fn.ax+p) (ads++[a]) (rest++[b]))(h0:er.1=0)(hc:Ctx w m f mm fn sig)(hp:la s mm fn sig)(oL:b.l.length<=80000)(jF:p<fn.code.length)(ex:fn.code[p].toNat=op)(dX:op=1):Calls prog 95 #[ptr c,.int .i64 op] w fun r w'=>∃n,r=.returned (ptr n)/\w.heap.size<=n/\Fr az none w w'/\gQ az w w' c x m f s er fn.ax p (ads++[a]) rest b mm (sig.1++fn.ai) sig.2 op (kj mm (sig.1++fn.ai) (rest.length+1)) n (bJ fn.code p):=by
 have HR:Hid (bJ fn.code p=some {aa:=⟨1,0,0,0,0⟩,idx:=[],num:=0,next:=p+1}):=jU jF ex (by rw[dX];rfl) rfl;have lo':(1:Int)<=(op:Int):=by omega
 have jB:(op:Int)<=1:=by omega
 have n0:((op:Int)==0)=false:=beqn (by omega);have n1:((op:Int)==1)=true:=by rw[beq_iff_eq];omega
 have n11:((op:Int)==11)=false:=beqn (by omega);have n12:((op:Int)==12)=false:=beqn (by omega);have n13:((op:Int)==13)=false:=beqn (by omega);have n20:((op:Int)==20)=false:=beqn (by omega);have n21:((op:Int)==21)=false:=beqn (by omega);have h1:=fun o=>h.grown (aC w o none);have pj:=fun o=>Fr.of (n:=none) (aC w o none) h.size;have iA:=gh w op;clear dX ex;go_enter func95,ntmps95;go_wp2_with fail;go_ret;refine⟨w.heap.size,rfl,nLr _,pj _,?_⟩;rw[HR.out];exact⟨_,_,iA,.inr ⟨rfl,h1 _,rfl,ajj _ _ _ _⟩⟩
theorem F4(h:Lk az w c x m f s (fn.ax+p+1) er (fn.ax+p) (ads++[a]) (rest++[b]))(h0:er.1=0)(hc:Ctx w m f mm fn sig)(hp:la s mm fn sig)(oL:b.l.length<=80000)(jF:p<fn.code.length)(ex:fn.code[p].toNat=op)(dX:op=12):Calls prog 95 #[ptr c,.int .i64 op] w fun r w'=>∃n,r=.returned (ptr n)/\w.heap.size<=n/\Fr az none w w'/\gQ az w w' c x m f s er fn.ax p (ads++[a]) rest b mm (sig.1++fn.ai) sig.2 op (kj mm (sig.1++fn.ai) (rest.length+1)) n (bJ fn.code p):=by
 have HR:Hid (bJ fn.code p=some {aa:=⟨12,0,0,0,0⟩,idx:=[],num:=0,next:=p+1}):=jU jF ex (by rw[dX];rfl) rfl;have lo':(12:Int)<=(op:Int):=by omega
 have jB:(op:Int)<=12:=by omega
 have n0:((op:Int)==0)=false:=beqn (by omega);have n1:((op:Int)==1)=false:=beqn (by omega);have n11:((op:Int)==11)=false:=beqn (by omega);have n12:((op:Int)==12)=true:=by rw[beq_iff_eq];omega
 have n13:((op:Int)==13)=false:=beqn (by omega);have n20:((op:Int)==20)=false:=beqn (by omega);have n21:((op:Int)==21)=false:=beqn (by omega);have h1:=fun o=>h.grown (aC w o none);have pj:=fun o=>Fr.of (n:=none) (aC w o none) h.size;have iA:=gh w op;clear dX ex;have hT:=fun o=>fJ (h1 o) (by omega) 0;go_enter func95,ntmps95;go_wp2_with fail;refine(hT _).mono ?_;clear hT;rintro e w2 ⟨rfl,dq,h2⟩;go_wp2_with fail;go_ret;refine⟨w.heap.size,rfl,nLr _,(pj _).trans dq,?_⟩;rw[HR.out];exact⟨_,_,dq.keep _ _ _ (by decide) (fun _=>by simp) iA,.inr ⟨rfl,h2,rfl,ajj _ _ _ _⟩⟩
theorem F6(h:Lk az w c x m f s (fn.ax+p+1) er (fn.ax+p) (ads++[a]) (rest++[b]))(h0:er.1=0)(hc:Ctx w m f mm fn sig)(hp:la s mm fn sig)(oL:b.l.length<=80000)(jF:p<fn.code.length)(ex:fn.code[p].toNat=op)(dX:op=13):Calls prog 95 #[ptr c,.int .i64 op] w fun r w'=>∃n,r=.returned (ptr n)/\w.heap.size<=n/\Fr az none w w'/\gQ az w w' c x m f s er fn.ax p (ads++[a]) rest b mm (sig.1++fn.ai) sig.2 op (kj mm (sig.1++fn.ai) (rest.length+1)) n (bJ fn.code p):=by
 have HR:Hid (bJ fn.code p=some {aa:=⟨13,0,0,0,0⟩,idx:=[],num:=0,next:=p+1}):=jU jF ex (by rw[dX];rfl) rfl;have lo':(13:Int)<=(op:Int):=by omega
 have jB:(op:Int)<=13:=by omega
 have n0:((op:Int)==0)=false:=beqn (by omega);have n1:((op:Int)==1)=false:=beqn (by omega);have n11:((op:Int)==11)=false:=beqn (by omega);have n12:((op:Int)==12)=false:=beqn (by omega);have n13:((op:Int)==13)=true:=by rw[beq_iff_eq];omega
 have n20:((op:Int)==20)=false:=beqn (by omega);have n21:((op:Int)==21)=false:=beqn (by omega);have h1:=fun o=>h.grown (aC w o none);have pj:=fun o=>Fr.of (n:=none) (aC w o none) h.size;have iA:=gh w op;clear dX ex;have hT:=fun o=>fJ (h1 o) (by omega) 1;have s1:=(cX (fn.ax+p) b er 1).2;have s2:=(cX (fn.ax+p) (aU (fn.ax+p) b er 1).2.1 (aU (fn.ax+p) b er 1).2.2 0).2;have s3:=(cX (fn.ax+p) (aU (fn.ax+p) (aU (fn.ax+p) b er 1).2.1 (aU (fn.ax+p) b er 1).2.2 0).2.1 (aU (fn.ax+p) (aU (fn.ax+p) b er 1).2.1 (aU (fn.ax+p) b er 1).2.2 0).2.2 (aU (fn.ax+p) (aU (fn.ax+p) b er 1).2.1 (aU (fn.ax+p) b er 1).2.2 0).1).2;have HD:Hid (doR (fn.ax+p) mm (sig.1++fn.ai) sig.2 (rest++[b]) b er {aa:=⟨13,0,0,0,0⟩,idx:=[],num:=0,next:=p+1}=vV (fn.ax+p) b er):=rfl;unfold vV at HD;simp only at HD;obtain⟨A,hA⟩:=aja (aU (fn.ax+p) b er 1);rw[hA]at hT s1 s2 s3 HD;obtain⟨B,hB⟩:=aja (aU (fn.ax+p) A.2.1 A.2.2 0);rw[hB]at s2 s3 HD;obtain⟨C,hC⟩:=aja (aU (fn.ax+p) B.2.1 B.2.2 B.1);rw[hC]at s3 HD;have HB:Hid _:=hB;have HC:Hid _:=hC;clear hA hB hC;go_enter func95,ntmps95;go_wp2_with fail;refine(hT _).mono ?_;clear hT;rintro e w2 ⟨rfl,dq,h2⟩;have yd:=fJ h2 (by omega) 0;rw[HB.out]at yd;go_wp2_with fail;refine yd.mono ?_;clear yd;rintro e w3 ⟨rfl,et,h3⟩;have Nn:=fJ h3 (by omega) B.1;rw[HC.out]at Nn;go_wp2_with fail;refine Nn.mono ?_;clear Nn;rintro e w4 ⟨rfl,fD,h4⟩;have hG:=fk h4 (by omega) C.1;go_wp2_with fail;refine hG.mono ?_;clear hG;rintro e w5 ⟨rfl,iv,h5⟩;go_wp2_with fail;go_ret;have Qk:=((dq.trans et).trans fD).trans iv;refine⟨w.heap.size,rfl,nLr _,(pj _).trans Qk,?_⟩;rw[HR.out];refine⟨_,_,Qk.keep _ _ _ (by decide) (fun _=>by simp) iA,.inr ⟨rfl,?_,rfl,ajj _ _ _ _⟩⟩;rw[HD.out];exact h5
theorem JZ(h:Lk az w c x m f s (fn.ax+p+1) er (fn.ax+p) (ads++[a]) (rest++[b]))(h0:er.1=0)(hc:Ctx w m f mm fn sig)(hp:la s mm fn sig)(oL:b.l.length<=80000)(jF:p<fn.code.length)(ex:fn.code[p].toNat=op)(dX:17<=op/\op≠20/\op≠21/\op<256):Calls prog 95 #[ptr c,.int .i64 op] w fun r w'=>∃n,r=.returned (ptr n)/\w.heap.size<=n/\Fr az none w w'/\gQ az w w' c x m f s er fn.ax p (ads++[a]) rest b mm (sig.1++fn.ai) sig.2 op (kj mm (sig.1++fn.ai) (rest.length+1)) n (bJ fn.code p):=by
 have lo':(17:Int)<=(op:Int):=by omega
 have n0:((op:Int)==0)=false:=beqn (by omega);have n1:((op:Int)==1)=false:=beqn (by omega);have n11:((op:Int)==11)=false:=beqn (by omega);have n12:((op:Int)==12)=false:=beqn (by omega);have n13:((op:Int)==13)=false:=beqn (by omega);have n20:((op:Int)==20)=false:=beqn (by omega);have n21:((op:Int)==21)=false:=beqn (by omega);have h1:=fun o=>h.grown (aC w o none);have pj:=fun o=>Fr.of (n:=none) (aC w o none) h.size;have iA:=gh w op;have hN:=fun o=>zc (h1 o) (by omega) op dX.2.2.2;have A8:=F3 op dX.2.2.2 ⟨dX.1,dX.2.1,dX.2.2.1⟩;have ey:Hid (∀W n,bp W n op 0 br br br br br false->Lk az W c x m f s (fn.ax+p+1) (mz (fn.ax+p) b er op).2 (fn.ax+p) (ads++[a]) (rest++[(mz (fn.ax+p) b er op).1])->gQ az w W c x m f s er fn.ax p (ads++[a]) rest b mm (sig.1++fn.ai) sig.2 op (kj mm (sig.1++fn.ai) (rest.length+1)) n (bJ fn.code p)):=by
  intro W n hn hL;cases hk:jH op with
  |none=>
   rw[Dg jF ex (A8.2 hk)];have hR:mz (fn.ax+p) b er op=(b,(3,fn.ax+p)):=by unfold mz;rw[hk];simp only[noS,ajd h0]
   rw[hR]at hL;exact⟨_,_,hn,_,_,hL⟩
  |some k=>
   obtain⟨K,k1,k2,k3,k4⟩:=A8.1 k hk;rw[jU jF ex k1 k3];have hR:mz (fn.ax+p) b er op=doR (fn.ax+p) mm (sig.1++fn.ai) sig.2 (rest++[b]) b er {aa:=K,idx:=[],num:=0,next:=p+1}:=by unfold mz doR;rw[hk];simp only;rw[ajc (by omega),ajc (by omega),ajc (by omega),ajc (by omega),ajc (by omega),ajc (by omega)];unfold te;rw[<-k4]
   rw[hR]at hL;exact⟨_,_,hn,.inr ⟨rfl,hL,by simp[eu,k3],by simp[iK,k3];exact ajj _ _ _ _⟩⟩
 clear A8 dX ex;go_enter func95,ntmps95;go_wp2_with fail;refine(hN _).mono ?_;clear hN;rintro e w2 ⟨rfl,dq,h2⟩;go_wp2_with fail;go_ret;exact⟨w.heap.size,rfl,nLr _,(pj _).trans dq,ey.out w2 _ (dq.keep _ _ _ (by decide) (fun _=>by simp) iA) h2⟩
end
theorem Fr.fresh{az n:Nat}{w w1 w':World}(k:Fr az (some n) w1 w')(hg:w.grownBy w1 none)(hn:w.heap.size<=n)(hB:az<=w.heap.size):Fr az none w w':=by have h1:=Fr.of (n:=none) hg hB;refine⟨h1.below.trans k.below,fun g c t h2 _ hb=>k.keep g c t h2 (fun _ e=>?_) (h1.keep g c t h2 (fun _=>by simp) hb)⟩;have:=hb.lt;simp at e;omega
theorem Fr.setNew{az n i:Nat}{w w1:World}(k:Fr az none w w1)(v:Value)(hn:w.heap.size<=n)(hB:az<=w.heap.size):Fr az none w (w1.setCell ⟨n,i,none⟩ v):=k.newRow (aD w1 n i v) (fun g e=>by cases e;exact hn) hB
section
variable {az c x m f:Nat}{w w':World}{s:ByteArray}{er:Er}{ads:List Nat}{a:Nat}{rest:List RB}{b:RB}{mm:bf}{fn:ck}{sig:Sig}{p op:Nat}{at_ here:Nat}{bl:List RB}
theorem Ctx.fun_cells(hc:Ctx w m f mm fn sig){i:Nat}(hi:i<mm.funs.length):∃g cap a at1 ct1 ag1 cg1,w.cell? ⟨m,1,none⟩=some (.slice (some ⟨g,0,none⟩) mm.funs.length cap)/\w.cell? ⟨g,i,none⟩=some (ptr a)/\w.cell? ⟨a,0,none⟩=some (.slice at1 (da mm i).1.length ct1)/\w.cell? ⟨a,1,none⟩=some (.slice ag1 (da mm i).2.length cg1)/\aR w (.slice at1 (da mm i).1.length ct1) (da mm i).1/\aR w (.slice ag1 (da mm i).2.length cg1) (da mm i).2/\m<w.heap.size/\a<w.heap.size:=by obtain⟨vs,vf,h1,_,⟨g2,cap2,cs2,e4,e5,e6⟩⟩:=hc.mod;obtain⟨a,q1,⟨vt,vg,vl,vb,q2,q3,q4,q5⟩⟩:=e6 i hi;obtain⟨at1,ct1,rfl,_,_⟩:=aG q3;obtain⟨ag1,cg1,rfl,_,_⟩:=aG q4;have c1:=h1.cell 1;have c2:=e5.cell i;have c3:=q2.cell 0;have c4:=q2.cell 1;simp at c1 c3 c4;rw[e4]at c1;rw[q1]at c2;exact⟨g2,cap2,a,at1,ct1,ag1,cg1,c1,c2,c3,c4,q3,q4,h1.lt,q2.lt⟩
theorem Ctx.fun_len(hc:Ctx w m f mm fn sig):∃g cap,w.cell? ⟨m,1,none⟩=some (.slice (some ⟨g,0,none⟩) mm.funs.length cap)/\m<w.heap.size:=by obtain⟨vs,vf,h1,_,⟨g2,cap2,cs2,e4,e5,e6⟩⟩:=hc.mod;have c1:=h1.cell 1;simp at c1;rw[e4]at c1;exact⟨g2,cap2,c1,h1.lt⟩
theorem Lk.cells(h:Lk az w c x m f s at_ er here ads bl):w.cell? ⟨c,0,none⟩=some (ptr x)/\w.cell? ⟨c,1,none⟩=some (ptr m)/\w.cell? ⟨c,2,none⟩=some (ptr f)/\w.cell? ⟨x,2,none⟩=some (.int .i64 er.1)/\c<w.heap.size/\x<w.heap.size:=by obtain⟨v,h1,h2⟩:=h.blk;have c0:=h1.cell 0;have c1:=h1.cell 1;have c2:=h1.cell 2;simp at c0 c1 c2;exact⟨c0,c1,c2,h.sc.cells.2.2.1,h1.lt,Blk.lt h.sc⟩
theorem Lk.keepNew{w2:World}{n i:Nat}{v:Value}{cs:Array Value}(h:Lk az w2 c x m f s at_ er here ads bl)(hn:Blk w2 n cs 157):Lk az (w2.setCell ⟨n,i,none⟩ v) c x m f s at_ er here ads bl:=h.kept fun g c t ht hb=>aF (aD _ _ _ _) hn hb (by rcases ht with rfl|rfl|rfl|rfl|rfl <;> decide)
theorem Ctx.keepNew{w2:World}{n i:Nat}{v:Value}{cs:Array Value}(h:Ctx w2 m f mm fn sig)(hn:Blk w2 n cs 157)(hB:az<=n):Ctx (w2.setCell ⟨n,i,none⟩ v) m f mm fn sig:=h.keep (Fr.wroteNode (aD _ _ _ _) hn hB)
theorem Di(h:Lk az w c x m f s (fn.ax+p+1) er (fn.ax+p) (ads++[a]) (rest++[b]))(h0:er.1=0)(hc:Ctx w m f mm fn sig)(hp:la s mm fn sig)(oL:b.l.length<=80000)(h6:∀B∈rest++[b],B.aj.length<=6/\B.ak.length<=6)(jF:p<fn.code.length)(ex:fn.code[p].toNat=op)(dX:op=0\/op=7\/op=8\/op=9\/op=10):Calls prog 95 #[ptr c,.int .i64 op] w fun r w'=>∃n,r=.returned (ptr n)/\w.heap.size<=n/\Fr az none w w'/\gQ az w w' c x m f s er fn.ax p (ads++[a]) rest b mm (sig.1++fn.ai) sig.2 op (kj mm (sig.1++fn.ai) (rest.length+1)) n (bJ fn.code p):=by
 have h1:=fun o=>h.grown (aC w o none);have pj:=fun o=>Fr.of (n:=none) (aC w o none) h.size;have iA:=gh w op;have lD:=hp.stop;have gy:=hp.size;have hL:=fun o (hb:bp (w.alloc o) w.heap.size op 0 br br br br br false)=>Df (h1 o) ((hc.keep (pj o)).fn) h0 (by omega) lD (by omega) oL h6 (by have:=hp.sig6;omega) dX hb h.size;have F7:Hid _:=dX;have ey:Hid (∀W n,xz az w W c x m f s er (fn.ax+p) (ads++[a]) rest b sig.2 n op (tD s.data.toList (fn.ax+fn.code.length) (rest.length+1) (fn.ax+p) op (fn.ax+p+1))->gQ az w W c x m f s er fn.ax p (ads++[a]) rest b mm (sig.1++fn.ai) sig.2 op (kj mm (sig.1++fn.ai) (rest.length+1)) n (bJ fn.code p)):=by
  intro W n hL;rw[De hp.code jF ex dX]at hL;cases hr:bJ fn.code p with
  |none=>
   rw[hr]at hL;obtain⟨at2,b2,vl,hL,hn⟩:=hL;exact⟨_,_,hn,_,_,hL⟩
  |some st=>
   rw[hr]at hL;simp only at hL;have UI:=(cC hr).1;have XO:=tz hr;have No:=ro hr;have aN:st.aa.au=op:=by
    have cT:∀K,cr op=some K->st.aa=K:=by intro K hK;unfold bJ at hr;rw[dQ jF]at hr;simp only[ex,hK]at hr;obtain⟨y,_,rfl⟩:=Option.map_eq_some_iff.1 hr;rfl
    rcases dX with rfl|rfl|rfl|rfl|rfl;all_goals rw[cT _ rfl]
   have iz:st.num=0:=by
    unfold bJ at hr;rw[dQ jF]at hr;simp only[ex]at hr;have cT:∀K:K5,cr op=some K->K.ab≠6->K.ab≠7->st.num=0:=by
     intro K hK h6' h7';rw[hK]at hr;obtain⟨y,hy,rfl⟩:=Option.map_eq_some_iff.1 hr;unfold bq at hy;split at hy
     ·obtain⟨z,_,rfl⟩:=Option.map_eq_some_iff.1 hy;rfl
     split at hy
     ·split at hy
      ·split at hy
       ·cases hy
       obtain⟨z,_,rfl⟩:=Option.map_eq_some_iff.1 hy;rfl
      cases hy
     first|(rw[ajc h6',ajc h7']at hy;cases hy;rfl)|(cases hy;rfl)
    rcases dX with rfl|rfl|rfl|rfl|rfl;all_goals exact cT _ rfl (by decide) (by decide)
   have Ql:(st.aa.ab=0/\st.idx=[])\/st.aa.ab=4\/st.aa.ab=5:=by
    rcases dX with e|e|e|e|e
    ·exact .inl ⟨No.k0 (.inl (aN.trans e)),XO.none (No.k0 (.inl (aN.trans e)))⟩
    ·exact .inr (.inl (No.k7 (.inl (aN.trans e))))
    ·exact .inr (.inl (No.k7 (.inr (aN.trans e))))
    ·exact .inr (.inr (No.k9 (aN.trans e)))
    exact .inl ⟨No.k0 (.inr (aN.trans e)),XO.none (No.k0 (.inr (aN.trans e)))⟩
   have sF:st.idx.all (fun i=>decide (i<kj mm (sig.1++fn.ai) (rest.length+1) st.aa.ab))=st.idx.all (fun i=>decide (i<rest.length+1)):=by
    rcases Ql with⟨e1,e2⟩|e|e
    ·rw[e2];rfl
    ·rw[e];rfl
    rw[e];rfl
   cases cL:st.idx.all (fun i=>decide (i<rest.length+1)) with
   |false=>
    rw[cL]at hL;simp only[Bool.false_eq_true,if_false]at hL;obtain⟨at2,b2,vl,hL,hn⟩:=hL;exact⟨_,_,hn,.inl ⟨by rw[sF];exact cL,_,_,hL⟩⟩
   |true=>
    rw[cL]at hL;simp only[if_true]at hL;obtain⟨z1,vl,z2,z3⟩:=hL;refine⟨_,_,z2,.inr ⟨by rw[sF];exact cL,?_,?_,?_⟩⟩
    ·have yR:doR (fn.ax+p) mm (sig.1++fn.ai) sig.2 (rest++[b]) b er st=kc (fn.ax+p) sig.2 (rest++[b]) b er op st.idx:=by unfold doR;simp only[aN];rw[ajd dX]
     rw[yR];exact z1
    ·unfold eu;rw[ajc (by omega),iz]
    unfold iK;rcases Ql with⟨e1,e2⟩|e|e
    ·rw[ajc (by omega)];rw[e2]at z3;exact z3
    ·rw[ajd (.inl e)];exact z3
    rw[ajd (.inr e)];exact z3
 by_cases e0:op=0
 ·have lo0:op<=0:=by omega
  have lo':(0:Int)<=(op:Int):=by omega
  have jB:(op:Int)<=0:=by omega
  have n0:((op:Int)==0)=true:=by rw[beq_iff_eq];omega
  have n1:((op:Int)==1)=false:=beqn (by omega);have n11:((op:Int)==11)=false:=beqn (by omega);have n12:((op:Int)==12)=false:=beqn (by omega);have n13:((op:Int)==13)=false:=beqn (by omega);have n20:((op:Int)==20)=false:=beqn (by omega);have n21:((op:Int)==21)=false:=beqn (by omega);clear ex e0 dX;go_enter func95,ntmps95;go_wp2_with fail;refine(hL _ iA).mono ?_;clear hL;rintro e w2 ⟨rfl,dq,hP⟩;go_wp2_with fail;go_ret;exact⟨w.heap.size,rfl,nLr _,dq.fresh (aC _ _ _) (nLr _) h.size,ey.out w2 _ hP⟩
 have lo7:7<=op/\op<=10:=by omega
 have lo':(7:Int)<=(op:Int):=by omega
 have jB:(op:Int)<=10:=by omega
 have n0:((op:Int)==0)=false:=beqn (by omega);have n1:((op:Int)==1)=false:=beqn (by omega);have n11:((op:Int)==11)=false:=beqn (by omega);have n12:((op:Int)==12)=false:=beqn (by omega);have n13:((op:Int)==13)=false:=beqn (by omega);have n20:((op:Int)==20)=false:=beqn (by omega);have n21:((op:Int)==21)=false:=beqn (by omega);clear ex e0 dX;go_enter func95,ntmps95;go_wp2_with fail;refine(hL _ iA).mono ?_;clear hL;rintro e w2 ⟨rfl,dq,hP⟩;go_wp2_with fail;go_ret;exact⟨w.heap.size,rfl,nLr _,dq.fresh (aC _ _ _) (nLr _) h.size,ey.out w2 _ hP⟩
theorem Ga(h:Lk az w c x m f s (fn.ax+p+1) er (fn.ax+p) (ads++[a]) (rest++[b]))(h0:er.1=0)(hc:Ctx w m f mm fn sig)(hp:la s mm fn sig)(oL:b.l.length<=80000)(jF:p<fn.code.length)(ex:fn.code[p].toNat=op)(dX:op=11):Calls prog 95 #[ptr c,.int .i64 op] w fun r w'=>∃n,r=.returned (ptr n)/\w.heap.size<=n/\Fr az none w w'/\gQ az w w' c x m f s er fn.ax p (ads++[a]) rest b mm (sig.1++fn.ai) sig.2 op (kj mm (sig.1++fn.ai) (rest.length+1)) n (bJ fn.code p):=by
 have hk:cr op=some ⟨11,2,0,0,0⟩:=by rw[dX];rfl
 obtain⟨LB,LC⟩:=tE jF ex hk (by decide);have lo':(11:Int)<=(op:Int):=by omega
 have jB:(op:Int)<=11:=by omega
 have n0:((op:Int)==0)=false:=beqn (by omega);have n1:((op:Int)==1)=false:=beqn (by omega);have n11:((op:Int)==11)=true:=by rw[beq_iff_eq];omega
 have n12:((op:Int)==12)=false:=beqn (by omega);have n13:((op:Int)==13)=false:=beqn (by omega);have n20:((op:Int)==20)=false:=beqn (by omega);have n21:((op:Int)==21)=false:=beqn (by omega);have h1:=fun o=>h.grown (aC w o none);have pj:=fun o=>Fr.of (n:=none) (aC w o none) h.size;have iA:=gh w op;have lD:=hp.stop;have gy:=hp.size;have Ab:=hp.funs20;have hI:=fun o=>qB (h1 o) ((hc.keep (pj o)).fn) h0 (by omega) lD (by omega) mm.funs.length (by omega);obtain⟨gm,cm,mc,XP⟩:=hc.fun_len;have mc':∀o,(w.alloc o).cell? ⟨m,1,none⟩=some (.slice (some ⟨gm,0,none⟩) mm.funs.length cm):=by intro o;obtain⟨vs,vf,hb,_⟩:=hc.mod;have e1:=hb.cell 1;have e2:=(hb.alloc o).cell 1;rw[e2,<-e1,mc]
 obtain⟨lc0,lc1,lc2,lx2,mO,OM⟩:=h.cells;have lc1':∀o,(w.alloc o).cell? ⟨c,1,none⟩=some (ptr m):=fun o=>(h1 o).cells.2.1;obtain⟨nfu,Ai⟩:=aja mm.funs.length;rw[Ai]at mc' hI Ab;have Qm:Hid _:=Ai;have UJ:(nfu:Int)<=20:=by omega
 clear dX ex Ai mc lc0 lc1 lc2 lx2;have a1:=mc' (.cells #[.int .i64 op,.int .i64 0,.slice none 0 0,.slice none 0 0,.slice none 0 0,.slice none 0 0,.slice none 0 0,.bool false] 157);have a2:=lc1' (.cells #[.int .i64 op,.int .i64 0,.slice none 0 0,.slice none 0 0,.slice none 0 0,.slice none 0 0,.slice none 0 0,.bool false] 157);go_enter func95,ntmps95;go_wp2_with fail;refine(hI _).mono ?_;clear hI a1 a2;rintro e w2 ⟨dq,fp⟩;have lc:=(pj _).trans dq;have dY:=dq.keep _ _ _ (by decide) (fun _=>by simp) iA;have sj:=hc.keep lc;have n1:=Blk.cell dY 1;have g1:=Blk.frozen dY 1;have A9:=Blk.lt dY;simp at n1;rcases fp with⟨ju,rfl,h2⟩|⟨i,ou,kY,fp⟩
 ·have h3:=h2.keepNew (i:=1) (v:=.int .i64 0) dY;have bY:=Blk.set dY 1 (.int .i64 0);simp at bY;obtain⟨q0,q1,q2,q3,q4,q5⟩:=h3.cells;simp only at q3;go_wp2_with fail;go_ret;refine⟨w.heap.size,rfl,nLr _,lc.setNew _ (nLr _) h.size,?_⟩;rw[LB (by omega)];exact⟨_,_,bY,_,_,h3⟩
 have uW:p+1<fn.code.length:=by omega
 have jw:fn.code[p+1].toNat=i:=by
  have:=hp.code.get uW;have e:fn.ax+(p+1)=fn.ax+p+1:=by omega
  rw[e]at this;rw[this]at kY;simpa using kY
 have hR:=LC uW;rw[jw]at hR;have HR:Hid _:=hR;clear hR jw kY LB LC;rcases fp with⟨uJ,rfl,h2⟩|⟨uJ,rfl,h2⟩
 ·have h3:=h2.keepNew (i:=1) (v:=.int .i64 0) dY;have bY:=Blk.set dY 1 (.int .i64 0);simp at bY;obtain⟨q0,q1,q2,q3,q4,q5⟩:=h3.cells;simp only at q3;go_wp2_with fail;go_ret;refine⟨w.heap.size,rfl,nLr _,lc.setNew _ (nLr _) h.size,?_⟩;rw[HR.out];refine⟨_,_,bY,.inl ⟨?_,_,_,h3⟩⟩;have:=Qm.out;simp[kj];omega
 have h3:=h2.keepNew (i:=1) (v:=.int .i64 (i:Int)) dY;have yl:=sj.keepNew (az:=az) (i:=1) (v:=.int .i64 (i:Int)) dY h.size;have bY:=Blk.set dY 1 (.int .i64 (i:Int));simp at bY;have et:=lc.setNew (i:=1) (.int .i64 (i:Int)) (nLr w.heap.size) h.size;obtain⟨q0,q1,q2,q3,q4,q5⟩:=h3.cells;rw[h0]at q3;have lx:i<mm.funs.length:=by have:=Qm.out;omega
 obtain⟨g,cap,A,at1,ct1,ag1,cg1,y1,y2,y3,y4,y5,y6,y7,y8⟩:=yl.fun_cells lx;rw[Qm.out]at y1;have hs6:(da mm i).1.length<=6/\(da mm i).2.length<=3:=by unfold da;rw[gEg lx];have:=hp.fsig _ (ajw lx);simp only[Option.bind_some,gEg this,Option.getD_some];exact hp.lens _ (ajw this)
 have uV:=kf h3 y5 (by omega) (by omega);have dh:=(fu (fn.ax+p) (da mm i).1.reverse b er).2;have HD:Hid (doR (fn.ax+p) mm (sig.1++fn.ai) sig.2 (rest++[b]) b er {aa:=⟨11,2,0,0,0⟩,idx:=[i],num:=0,next:=p+2}=(cx (bh (fn.ax+p) b er (da mm i).1.reverse).1 (da mm i).2,(bh (fn.ax+p) b er (da mm i).1.reverse).2)):=rfl;have jE:(i:Int)<(nfu:Int):=by omega
 have Aj:(0:Int)<=(i:Int):=by omega
 obtain⟨w3,xY⟩:=aja (w2.setCell ⟨w.heap.size,1,none⟩ (.int .i64 (i:Int)));go_upto_region 11 with fail
 rw[xY]at h3 yl bY et q0 q1 q2 q3 q4 q5 y1 y2 y3 y4 y5 y6 y7 y8 uV;clear xY dY n1 g1 A9 h2 sj dq lc;go_wp2_with fail;refine uV.mono ?_;clear uV;rintro e w4 ⟨rfl,fD,h4⟩;obtain⟨g',cap',A',at1',ct1',ag1',cg1',z1,z2,z3,z4,z5,z6,z7,z8⟩:=(yl.keep fD).fun_cells lx;rw[Qm.out]at z1;obtain⟨q0,q1,q2,q3,q4,q5⟩:=h4.cells;have hG:=kg h4 z6 (by omega) (by omega);go_wp2_with fail;refine hG.mono ?_;clear hG;rintro e w5 ⟨rfl,iv,h5⟩;go_wp2_with fail;go_ret;refine⟨w.heap.size,rfl,nLr _,(et.trans fD).trans iv,?_⟩;rw[HR.out];refine⟨_,_,(fD.trans iv).keep _ _ _ (by decide) (fun _=>by simp) bY,.inr ⟨?_,?_,by simp[eu],ajj _ _ _ _⟩⟩
 ·have:=Qm.out;simp[kj];omega
 rw[HD.out];exact h5
theorem Dj(h:Lk az w c x m f s (fn.ax+p+1) er (fn.ax+p) (ads++[a]) (rest++[b]))(h0:er.1=0)(hc:Ctx w m f mm fn sig)(hp:la s mm fn sig)(oL:b.l.length<=80000)(jF:p<fn.code.length)(ex:fn.code[p].toNat=op)(dX:op=14\/op=15\/op=16):Calls prog 95 #[ptr c,.int .i64 op] w fun r w'=>∃n,r=.returned (ptr n)/\w.heap.size<=n/\Fr az none w w'/\gQ az w w' c x m f s er fn.ax p (ads++[a]) rest b mm (sig.1++fn.ai) sig.2 op (kj mm (sig.1++fn.ai) (rest.length+1)) n (bJ fn.code p):=by
 have hk:cr op=some ⟨op,3,0,0,0⟩:=by rcases dX with rfl|rfl|rfl <;> rfl
 obtain⟨LB,LC⟩:=tE jF ex hk (.inr (.inr (.inl rfl)));have lo':(14:Int)<=(op:Int):=by omega
 have jB:(op:Int)<=16:=by omega
 have n0:((op:Int)==0)=false:=beqn (by omega);have n1:((op:Int)==1)=false:=beqn (by omega);have n11:((op:Int)==11)=false:=beqn (by omega);have n12:((op:Int)==12)=false:=beqn (by omega);have n13:((op:Int)==13)=false:=beqn (by omega);have n20:((op:Int)==20)=false:=beqn (by omega);have n21:((op:Int)==21)=false:=beqn (by omega);have h1:=fun o=>h.grown (aC w o none);have pj:=fun o=>Fr.of (n:=none) (aC w o none) h.size;have iA:=gh w op;have lD:=hp.stop;have gy:=hp.size;have Ab:=hp.funs20;have ol:(sig.1++fn.ai).length<=14:=by have:=hp.sig6;have:=hp.locs;simp;omega
 have hI:=fun o=>qB (h1 o) ((hc.keep (pj o)).fn) h0 (by omega) lD (by omega) (sig.1++fn.ai).length (by omega);obtain⟨ll,jM⟩:=aja (sig.1++fn.ai);rw[jM]at hI ol;have XQ:Hid _:=jM;have Dk:∀W,Ctx W m f mm fn sig->∃av cv,W.cell? ⟨f,2,none⟩=some (.slice av ll.length cv)/\aR W (.slice av ll.length cv) ll/\f<W.heap.size:=by intro W hW;obtain⟨vt,vg,vl,vb,f1,f2,f3,f4⟩:=hW.fn;rw[jM]at f4;obtain⟨av,cv,rfl,_,_⟩:=aG f4;have:=f1.cell 2;simp at this;exact⟨av,cv,this,f4,f1.lt⟩
 obtain⟨nl,rP⟩:=aja ll.length;have Gb:Hid _:=rP;rw[rP]at hI ol Dk;have aaD:(nl:Int)<=14:=by omega
 have lc2':∀o,(w.alloc o).cell? ⟨c,2,none⟩=some (ptr f):=fun o=>(h1 o).cells.2.2.1;have UK:Hid _:=dX;obtain⟨lc0,lc1,lc2,lx2,mO,OM⟩:=h.cells;clear dX ex rP jM lc0 lc1 lc2 lx2;obtain⟨av1,cv1,a1,_,a3⟩:=Dk _ (hc.keep (pj (.cells #[.int .i64 op,.int .i64 0,.slice none 0 0,.slice none 0 0,.slice none 0 0,.slice none 0 0,.slice none 0 0,.bool false] 157)));have a2:=lc2' (.cells #[.int .i64 op,.int .i64 0,.slice none 0 0,.slice none 0 0,.slice none 0 0,.slice none 0 0,.slice none 0 0,.bool false] 157);go_enter func95,ntmps95;go_wp2_with fail;refine(hI _).mono ?_;clear hI a1 a2 a3;rintro e w2 ⟨dq,fp⟩;have lc:=(pj _).trans dq;have dY:=dq.keep _ _ _ (by decide) (fun _=>by simp) iA;have sj:=hc.keep lc;have n1':=Blk.cell dY 1;have g1:=Blk.frozen dY 1;have A9:=Blk.lt dY;simp at n1';rcases fp with⟨ju,rfl,h2⟩|⟨i,ou,kY,fp⟩
 ·have h3:=h2.keepNew (i:=1) (v:=.int .i64 0) dY;have bY:=Blk.set dY 1 (.int .i64 0);simp at bY;obtain⟨q0,q1,q2,q3,q4,q5⟩:=h3.cells;simp only at q3;go_wp2_with fail;go_ret;refine⟨w.heap.size,rfl,nLr _,lc.setNew _ (nLr _) h.size,?_⟩;rw[LB (by omega)];exact⟨_,_,bY,_,_,h3⟩
 have uW:p+1<fn.code.length:=by omega
 have jw:fn.code[p+1].toNat=i:=by
  have:=hp.code.get uW;have e:fn.ax+(p+1)=fn.ax+p+1:=by omega
  rw[e]at this;rw[this]at kY;simpa using kY
 have hR:=LC uW;rw[jw]at hR;have HR:Hid _:=hR;clear hR jw kY LB LC;have Qn:kj mm (sig.1++fn.ai) (rest.length+1) 3=nl:=by rw[XQ.out,<-Gb.out];rfl
 have Qo:Hid _:=Qn;clear Qn;rcases fp with⟨uJ,rfl,h2⟩|⟨uJ,rfl,h2⟩
 ·have h3:=h2.keepNew (i:=1) (v:=.int .i64 0) dY;have bY:=Blk.set dY 1 (.int .i64 0);simp at bY;obtain⟨q0,q1,q2,q3,q4,q5⟩:=h3.cells;simp only at q3;go_wp2_with fail;go_ret;refine⟨w.heap.size,rfl,nLr _,lc.setNew _ (nLr _) h.size,?_⟩;rw[HR.out];refine⟨_,_,bY,.inl ⟨?_,_,_,h3⟩⟩;simp only[Qo.out];simp;omega
 have h3:=h2.keepNew (i:=1) (v:=.int .i64 (i:Int)) dY;have yl:=sj.keepNew (az:=az) (i:=1) (v:=.int .i64 (i:Int)) dY h.size;have bY:=Blk.set dY 1 (.int .i64 (i:Int));simp at bY;have et:=lc.setNew (i:=1) (.int .i64 (i:Int)) (nLr w.heap.size) h.size;have lx:i<ll.length:=by have:=Gb.out;omega
 have iX:∀W,Ctx W m f mm fn sig->∃g cv,W.cell? ⟨f,2,none⟩=some (.slice (some ⟨g,0,none⟩) nl cv)/\W.cell? ⟨g,i,none⟩=some (.int .i64 (ll[i]:Nat))/\f<W.heap.size:=by intro W hW;obtain⟨av,cv,z1,z2,z3⟩:=Dk W hW;have z2':=z2;unfold aR at z2';rw[Gb.out]at z2';obtain⟨g,_,hg⟩:=cu z2' (by omega);simp only[Value.slice.injEq]at hg;obtain⟨rfl,-,-⟩:=hg;refine⟨g,cv,z1,?_,z3⟩;rw[(bK z2' (j:=i) (by omega)).1];simp[aV,gEg lx]
 have HD:Hid (doR (fn.ax+p) mm (sig.1++fn.ai) sig.2 (rest++[b]) b er {aa:=⟨op,3,0,0,0⟩,idx:=[i],num:=0,next:=p+2}=i9 (fn.ax+p) b er op ll[i]):=by show _=_;have:=UK.out;unfold doR;simp only[List.headD_cons];rw[ajc (by omega),ajc (by omega),ajc (by omega),ajc (by omega),ajd (by omega),XQ.out,gEg lx];rfl
 obtain⟨t,ht⟩:=aja (ll[i]);rw[ht]at HD iX;obtain⟨q0,q1,q2,q3,q4,q5⟩:=h3.cells;rw[h0]at q3;obtain⟨g,cv,y1,y2,y3⟩:=iX _ yl;have jE:(i:Int)<(nl:Int):=by omega
 have Aj:(0:Int)<=(i:Int):=by omega
 have FIN:Hid (∀W,Fr az none w W->bp W w.heap.size op (i:Int) br br br br br false->Lk az W c x m f s (fn.ax+p+1+1) (i9 (fn.ax+p) b er op t).2 (fn.ax+p) (ads++[a]) (rest++[(i9 (fn.ax+p) b er op t).1])->∃n,Ending.returned (ptr w.heap.size)=Ending.returned (ptr n)/\w.heap.size<=n/\Fr az none w W/\gQ az w W c x m f s er fn.ax p (ads++[a]) rest b mm (sig.1++fn.ai) sig.2 op (kj mm (sig.1++fn.ai) (rest.length+1)) n (bJ fn.code p)):=by
  intro W Fb Np UF;refine⟨w.heap.size,rfl,nLr _,Fb,?_⟩;rw[HR.out];refine⟨_,_,Np,.inr ⟨?_,?_,by simp[eu],ajj _ _ _ _⟩⟩
  ·simp only[Qo.out];simp;omega
  rw[HD.out];exact UF
 have UL:Hid (w2.setCell ⟨w.heap.size,1,none⟩ (.int .i64 (i:Int))=w2.setCell ⟨w.heap.size,1,none⟩ (.int .i64 (i:Int))):=rfl;by_cases e14:op=14
 ·have m14:((op:Int)==14)=true:=by rw[beq_iff_eq];omega
  have p14:((op:Int) != 14)=false:=by simp only[bne,m14];rfl
  have m15:((op:Int)==15)=false:=beqn (by omega);have p15:((op:Int) != 15)=true:=by simp only[bne,m15];rfl
  have hG:=fk h3 (by omega) t;have sV:i9 (fn.ax+p) b er op t=(cx b [t],er):=by unfold i9;simp[e14]
  rw[sV]at FIN;clear sV e14 HD iX UL Dk;go_wp2_with fail;refine hG.mono ?_;clear hG;rintro e w4 ⟨rfl,fD,h4⟩;go_wp2_with fail;go_ret;exact FIN.out w4 (et.trans fD) (fD.keep _ _ _ (by decide) (fun _=>by simp) bY) h4
 have m14:((op:Int)==14)=false:=beqn (by omega);have p14:((op:Int) != 14)=true:=by simp only[bne,m14];rfl
 have hT:=fJ h3 (by omega) t;have dh:=(cX (fn.ax+p) b er t).2;by_cases e15:op=15
 ·have m15:((op:Int)==15)=true:=by rw[beq_iff_eq];omega
  have p15:((op:Int) != 15)=false:=by simp only[bne,m15];rfl
  have sV:i9 (fn.ax+p) b er op t=(aU (fn.ax+p) b er t).2:=by unfold i9;simp[e15]
  rw[sV]at FIN;clear sV e14 e15 HD iX UL Dk;go_wp2_with fail;refine hT.mono ?_;clear hT;rintro e w4 ⟨rfl,fD,h4⟩;go_wp2_with fail;go_ret;exact FIN.out w4 (et.trans fD) (fD.keep _ _ _ (by decide) (fun _=>by simp) bY) h4
 have m15:((op:Int)==15)=false:=beqn (by omega);have p15:((op:Int) != 15)=true:=by simp only[bne,m15];rfl
 have sV:i9 (fn.ax+p) b er op t=(cx (aU (fn.ax+p) b er t).2.1 [t],(aU (fn.ax+p) b er t).2.2):=by unfold i9;simp[e14,e15]
 rw[sV]at FIN;clear sV e14 e15 HD UL Dk;go_wp2_with fail;refine hT.mono ?_;clear hT;rintro e w4 ⟨rfl,fD,h4⟩;obtain⟨g4,cv4,z1,z2,z3⟩:=iX _ (yl.keep fD);obtain⟨k0,k1,k2,k3,k4,k5⟩:=h4.cells;have hG:=fk h4 (by omega) t;go_wp2_with fail;refine hG.mono ?_;clear hG;rintro e w5 ⟨rfl,iv,h5⟩;go_wp2_with fail;go_ret;exact FIN.out w5 ((et.trans fD).trans iv) ((fD.trans iv).keep _ _ _ (by decide) (fun _=>by simp) bY) h5
theorem Dl(h:Lk az w c x m f s (fn.ax+p+1) er (fn.ax+p) (ads++[a]) (rest++[b]))(h0:er.1=0)(hc:Ctx w m f mm fn sig)(hp:la s mm fn sig)(oL:b.l.length<=80000)(jF:p<fn.code.length)(ex:fn.code[p].toNat=op)(dX:op=20):Calls prog 95 #[ptr c,.int .i64 op] w fun r w'=>∃n,r=.returned (ptr n)/\w.heap.size<=n/\Fr az none w w'/\gQ az w w' c x m f s er fn.ax p (ads++[a]) rest b mm (sig.1++fn.ai) sig.2 op (kj mm (sig.1++fn.ai) (rest.length+1)) n (bJ fn.code p):=by
 have hR:=FZ hp.code jF ex (k:=⟨17,6,0,0,1⟩) (by rw[dX];rfl) rfl;have lo':(20:Int)<=(op:Int):=by omega
 have jB:(op:Int)<=20:=by omega
 have n0:((op:Int)==0)=false:=beqn (by omega);have n1:((op:Int)==1)=false:=beqn (by omega);have n11:((op:Int)==11)=false:=beqn (by omega);have n12:((op:Int)==12)=false:=beqn (by omega);have n13:((op:Int)==13)=false:=beqn (by omega);have n20:((op:Int)==20)=true:=by rw[beq_iff_eq];omega
 have n21:((op:Int)==21)=false:=beqn (by omega);have h1:=fun o=>h.grown (aC w o none);have pj:=fun o=>Fr.of (n:=none) (aC w o none) h.size;have iA:=gh w op;have lD:=hp.stop;have gy:=hp.size;have Ab:=hp.funs20;have hI:=fun o=>xy (h1 o) ((hc.keep (pj o)).fn) h0 (by omega) lD (by omega) 4 (by decide);have HD:Hid (∀z,doR (fn.ax+p) mm (sig.1++fn.ai) sig.2 (rest++[b]) b er {aa:=⟨17,6,0,0,1⟩,idx:=[],num:=z,next:=p+5}=(cx b [1],er)):=fun z=>rfl;have FIN:Hid (∀(W:World) (z:Int),Fr az none w W->bp W w.heap.size op z br br br br br false->((fn.code.length<p+5/\∃at2,Lk az W c x m f s at2 (3,fn.ax+p) (fn.ax+p) (ads++[a]) (rest++[cx b [1]]))\/(p+5<=fn.code.length/\z=signed 32 (cy ((s.data.toList.drop (fn.ax+p+1)).take 4))/\Lk az W c x m f s (fn.ax+(p+5)) er (fn.ax+p) (ads++[a]) (rest++[cx b [1]])))->∃n,Ending.returned (ptr w.heap.size)=Ending.returned (ptr n)/\w.heap.size<=n/\Fr az none w W/\gQ az w W c x m f s er fn.ax p (ads++[a]) rest b mm (sig.1++fn.ai) sig.2 op (kj mm (sig.1++fn.ai) (rest.length+1)) n (bJ fn.code p)):=by
  intro W z Fb Np fp;refine⟨w.heap.size,rfl,nLr _,Fb,?_⟩;rw[hR];rcases fp with⟨hl,at2,hL⟩|⟨hl,hz,hL⟩
  ·rw[ajd hl];exact⟨_,_,Np,_,_,hL⟩
  rw[ajc (by omega)];refine⟨_,_,Np,.inr ⟨rfl,?_,?_,ajj _ _ _ _⟩⟩
  ·rw[HD.out];exact hL
  simp[eu,hz]
 clear dX ex hR HD;go_enter func95,ntmps95;go_wp2_with fail;refine(hI _).mono ?_;clear hI;rintro e w2 ⟨dq,fp⟩;have lc:=(pj _).trans dq;have dY:=dq.keep _ _ _ (by decide) (fun _=>by simp) iA;have n1':=Blk.cell dY 1;have g1:=Blk.frozen dY 1;have A9:=Blk.lt dY;simp at n1';rcases fp with⟨ju,rfl,h2⟩|⟨ou,rfl,h2⟩
 ·have h3:=h2.keepNew (i:=1) (v:=.int .i64 0) dY;have bY:=Blk.set dY 1 (.int .i64 0);simp at bY;have hG:=fk h3 (by omega) 1;go_wp2_with fail;refine hG.mono ?_;clear hG;rintro e w4 ⟨rfl,fD,h4⟩;go_wp2_with fail;go_ret;exact FIN.out w4 0 ((lc.setNew _ (nLr _) h.size).trans fD) (fD.keep _ _ _ (by decide) (fun _=>by simp) bY) (.inl ⟨by omega,_,h4⟩)
 have oe:=lr ((s.data.toList.drop (fn.ax+p+1)).take 4);have Eb:((s.data.toList.drop (fn.ax+p+1)).take 4).length<=4:=by simp;omega
 have Qp:cy ((s.data.toList.drop (fn.ax+p+1)).take 4)<4294967296:=ajA oe (by
  have:(256:Nat) ^ ((s.data.toList.drop (fn.ax+p+1)).take 4).length<=256 ^ 4:=Nat.pow_le_pow_right (by decide) Eb
  exact this)
 have hV:imV s.data.toList (fn.ax+p+1) 4=((cy ((s.data.toList.drop (fn.ax+p+1)).take 4):Nat):Int):=by unfold imV;rw[ajc (by decide)]
 rw[hV];obtain⟨v,hv⟩:=aja (cy ((s.data.toList.drop (fn.ax+p+1)).take 4));rw[hv]at Qp ⊢;rw[hv]at FIN;have hvi:(v:Int)<4294967296:=by omega
 have e5:fn.ax+p+1+4=fn.ax+(p+5):=by omega
 rw[e5]at h2;clear oe Eb hV hv;by_cases J0:v<2147483648
 ·have mn:(v:Int)<2147483648:=by omega
  have hd:decide ((2147483648:Int)<=(v:Int))=false:=by rw[decide_eq_false_iff_not];omega
  have h3:=h2.keepNew (i:=1) (v:=.int .i64 (v:Int)) dY;have bY:=Blk.set dY 1 (.int .i64 (v:Int));simp at bY;have hG:=fk h3 (by omega) 1;have HS:Hid ((v:Int)=signed 32 v):=by show _=_;unfold signed;rw[ajd (by simpa using J0)]
  clear J0 Qp;go_wp2_with fail;refine hG.mono ?_;clear hG;rintro e w4 ⟨rfl,fD,h4⟩;go_wp2_with fail;go_ret;exact FIN.out w4 _ ((lc.setNew _ (nLr _) h.size).trans fD) (fD.keep _ _ _ (by decide) (fun _=>by simp) bY) (.inr ⟨by omega,HS.out,h4⟩)
 have mn:(2147483648:Int)<=(v:Int):=by omega
 have hd:decide ((2147483648:Int)<=(v:Int))=true:=by rw[decide_eq_true_iff];exact mn
 have h3:=h2.keepNew (i:=1) (v:=.int .i64 ((v:Int)-4294967296)) dY;have bY:=Blk.set dY 1 (.int .i64 ((v:Int)-4294967296));simp at bY;have hG:=fk h3 (by omega) 1;have HS:Hid ((v:Int)-4294967296=signed 32 v):=by show _=_;unfold signed;rw[ajc (by simpa using J0)];rfl
 clear J0;go_wp2_with fail;refine hG.mono ?_;clear hG;rintro e w4 ⟨rfl,fD,h4⟩;go_wp2_with fail;go_ret;exact FIN.out w4 _ ((lc.setNew _ (nLr _) h.size).trans fD) (fD.keep _ _ _ (by decide) (fun _=>by simp) bY) (.inr ⟨by omega,HS.out,h4⟩)
theorem Gc(h:Lk az w c x m f s (fn.ax+p+1) er (fn.ax+p) (ads++[a]) (rest++[b]))(h0:er.1=0)(hc:Ctx w m f mm fn sig)(hp:la s mm fn sig)(oL:b.l.length<=80000)(jF:p<fn.code.length)(ex:fn.code[p].toNat=op)(dX:op=21):Calls prog 95 #[ptr c,.int .i64 op] w fun r w'=>∃n,r=.returned (ptr n)/\w.heap.size<=n/\Fr az none w w'/\gQ az w w' c x m f s er fn.ax p (ads++[a]) rest b mm (sig.1++fn.ai) sig.2 op (kj mm (sig.1++fn.ai) (rest.length+1)) n (bJ fn.code p):=by
 have hR:=Dh hp.code jF ex (k:=⟨17,7,0,0,2⟩) (by rw[dX];rfl) rfl;have lo':(21:Int)<=(op:Int):=by omega
 have jB:(op:Int)<=21:=by omega
 have n0:((op:Int)==0)=false:=beqn (by omega);have n1:((op:Int)==1)=false:=beqn (by omega);have n11:((op:Int)==11)=false:=beqn (by omega);have n12:((op:Int)==12)=false:=beqn (by omega);have n13:((op:Int)==13)=false:=beqn (by omega);have n20:((op:Int)==20)=false:=beqn (by omega);have n21:((op:Int)==21)=true:=by rw[beq_iff_eq];omega
 have h1:=fun o=>h.grown (aC w o none);have pj:=fun o=>Fr.of (n:=none) (aC w o none) h.size;have iA:=gh w op;have lD:=hp.stop;have gy:=hp.size;have Ab:=hp.funs20;have hI:=fun o=>xy (h1 o) ((hc.keep (pj o)).fn) h0 (by omega) lD (by omega) 8 (by decide);have HD:Hid (∀z,doR (fn.ax+p) mm (sig.1++fn.ai) sig.2 (rest++[b]) b er {aa:=⟨17,7,0,0,2⟩,idx:=[],num:=z,next:=p+9}=(cx b [2],er)):=fun z=>rfl;have FIN:Hid (∀(W:World) (z:Int),Fr az none w W->bp W w.heap.size op z br br br br br false->((fn.code.length<p+9/\∃at2,Lk az W c x m f s at2 (3,fn.ax+p) (fn.ax+p) (ads++[a]) (rest++[cx b [2]]))\/(p+9<=fn.code.length/\z=signed 64 (cy ((s.data.toList.drop (fn.ax+p+1)).take 8))/\Lk az W c x m f s (fn.ax+(p+9)) er (fn.ax+p) (ads++[a]) (rest++[cx b [2]])))->∃n,Ending.returned (ptr w.heap.size)=Ending.returned (ptr n)/\w.heap.size<=n/\Fr az none w W/\gQ az w W c x m f s er fn.ax p (ads++[a]) rest b mm (sig.1++fn.ai) sig.2 op (kj mm (sig.1++fn.ai) (rest.length+1)) n (bJ fn.code p)):=by
  intro W z Fb Np fp;refine⟨w.heap.size,rfl,nLr _,Fb,?_⟩;rw[hR];rcases fp with⟨hl,at2,hL⟩|⟨hl,hz,hL⟩
  ·rw[ajd hl];exact⟨_,_,Np,_,_,hL⟩
  rw[ajc (by omega)];refine⟨_,_,Np,.inr ⟨rfl,?_,?_,ajj _ _ _ _⟩⟩
  ·rw[HD.out];exact hL
  simp[eu,hz]
 clear dX ex hR HD;go_enter func95,ntmps95;go_wp2_with fail;refine(hI _).mono ?_;clear hI;rintro e w2 ⟨dq,fp⟩;have lc:=(pj _).trans dq;have dY:=dq.keep _ _ _ (by decide) (fun _=>by simp) iA;have n1':=Blk.cell dY 1;have g1:=Blk.frozen dY 1;have A9:=Blk.lt dY;simp at n1';rcases fp with⟨ju,rfl,h2⟩|⟨ou,rfl,h2⟩
 ·have h3:=h2.keepNew (i:=1) (v:=.int .i64 0) dY;have bY:=Blk.set dY 1 (.int .i64 0);simp at bY;have hG:=fk h3 (by omega) 2;go_wp2_with fail;refine hG.mono ?_;clear hG;rintro e w4 ⟨rfl,fD,h4⟩;go_wp2_with fail;go_ret;exact FIN.out w4 0 ((lc.setNew _ (nLr _) h.size).trans fD) (fD.keep _ _ _ (by decide) (fun _=>by simp) bY) (.inl ⟨by omega,_,h4⟩)
 have hV:imV s.data.toList (fn.ax+p+1) 8=signed 64 (cy ((s.data.toList.drop (fn.ax+p+1)).take 8)):=by unfold imV;rw[ajd rfl]
 rw[hV];obtain⟨v,hv⟩:=aja (signed 64 (cy ((s.data.toList.drop (fn.ax+p+1)).take 8)));rw[hv];rw[hv]at FIN;have e5:fn.ax+p+1+8=fn.ax+(p+9):=by omega
 rw[e5]at h2;clear hV hv;have h3:=h2.keepNew (i:=1) (v:=.int .i64 v) dY;have bY:=Blk.set dY 1 (.int .i64 v);simp at bY;have hG:=fk h3 (by omega) 2;go_wp2_with fail;refine hG.mono ?_;clear hG;rintro e w4 ⟨rfl,fD,h4⟩;go_wp2_with fail;go_ret;exact FIN.out w4 _ ((lc.setNew _ (nLr _) h.size).trans fD) (fD.keep _ _ _ (by decide) (fun _=>by simp) bY) (.inr ⟨by omega,rfl,h4⟩)
end
def fN(w:World)(ok:Nat->Prop)(v:Value)(l:List Nat):Prop:=(v=br/\l=[])\/∃g cap cs,v=.slice (some ⟨g,0,none⟩) l.length cap/\Blk w g cs 155/\ok g/\∀i (h:i<l.length),cs[i]?=some (ptr l[i])
def fS(c:List UInt8)(p:Nat):Option Nat:=c[p]?.map fun b:UInt8=>b.toNat
def bI(w:World)(mm:bf)(c:List UInt8)(ok:Nat->Prop):Nat->Nat->List Nat->Nat->Prop
 |0,_,_,_=>False
 |_+1,p,[],q=>p=q
 |k+1,p,a::l,q=>∃(st:aX) (op:Nat) (num:Int) (vl vt vg vb ve:Value) (ew:Bool) (p':Nat),
   bJ c p=some st/\fS c p=some op/\bp w a op num vl vt vg vb ve ew/\ok a/\eu st num/\aR w vl (iK st) /\
   ((¬(2<=op/\op<=6)/\p'=st.next)\/(2<=op/\op<=4/\∃sig body q1,mm.sigs[st.idx.headD 0]?=some sig/\aR w vt sig.1/\aR w vg sig.2/\fN w ok vb body/\bI w mm c ok k st.next body q1 /\
    ((fS c q1=some 6/\ew=false/\p'=q1+1)\/(fS c q1=some 5/\ew=true/\∃el q2,fN w ok ve el/\bI w mm c ok k (q1+1) el q2/\fS c q2=some 6/\p'=q2+1)))) /\
   bI w mm c ok k p' l q
section
variable {w w':World}{mm:bf}{c:List UInt8}{ok ok':Nat->Prop}
theorem fN.keep{v:Value}{l:List Nat}(h:fN w ok v l)(k:∀g cs,ok g->Blk w g cs 155->Blk w' g cs 155/\ok' g):fN w' ok' v l:=by
 rcases h with h|⟨g,cap,cs,e1,e2,e3,e4⟩
 ·exact .inl h
 exact .inr ⟨g,cap,cs,e1,(k g cs e3 e2).1,(k g cs e3 e2).2,e4⟩
theorem bI.keep(k1:∀g cs t,ok g->t=157\/t=155->Blk w g cs t->Blk w' g cs t/\ok' g)(k3:∀g cs,Blk w g cs 3->Blk w' g cs 3):∀(k p:Nat) (l:List Nat) (q:Nat),bI w mm c ok k p l q->bI w' mm c ok' k p l q
 |0,p,l,q,h=>h
 |k+1,p,[],q,h=>h
 |k+1,p,a::l,q,h=>by
  obtain⟨st,op,num,vl,vt,vg,vb,ve,ew,p',e1,e2,e3,e4,e5,e6,e7,e8⟩:=h;refine⟨st,op,num,vl,vt,vg,vb,ve,ew,p',e1,e2,(k1 _ _ _ e4 (.inl rfl) e3).1,(k1 _ _ _ e4 (.inl rfl) e3).2,e5,e6.keep k3,?_,bI.keep k1 k3 k p' l q e8⟩;rcases e7 with e7|⟨a1,a2,sig,body,q1,a3,a4,a5,a6,a7,a8⟩
  ·exact .inl e7
  refine .inr ⟨a1,a2,sig,body,q1,a3,a4.keep k3,a5.keep k3,a6.keep (fun g cs h1 h2=>k1 g cs 155 h1 (.inr rfl) h2),bI.keep k1 k3 k _ _ _ a7,?_⟩;rcases a8 with a8|⟨b1,b2,el,q2,b3,b4,b5,b6⟩
  ·exact .inl a8
  exact .inr ⟨b1,b2,el,q2,b3.keep (fun g cs h1 h2=>k1 g cs 155 h1 (.inr rfl) h2),bI.keep k1 k3 k _ _ _ b4,b5,b6⟩
theorem bI.more:∀(k p:Nat) (l:List Nat) (q:Nat),bI w mm c ok k p l q->bI w mm c ok (k+1) p l q
 |0,p,l,q,h=>h.elim
 |k+1,p,[],q,h=>h
 |k+1,p,a::l,q,h=>by
  obtain⟨st,op,num,vl,vt,vg,vb,ve,ew,p',e1,e2,e3,e4,e5,e6,e7,e8⟩:=h;refine⟨st,op,num,vl,vt,vg,vb,ve,ew,p',e1,e2,e3,e4,e5,e6,?_,bI.more k p' l q e8⟩;rcases e7 with e7|⟨a1,a2,sig,body,q1,a3,a4,a5,a6,a7,a8⟩
  ·exact .inl e7
  refine .inr ⟨a1,a2,sig,body,q1,a3,a4,a5,a6,bI.more k _ _ _ a7,?_⟩;rcases a8 with a8|⟨b1,b2,el,q2,b3,b4,b5,b6⟩
  ·exact .inl a8
  exact .inr ⟨b1,b2,el,q2,b3,bI.more k _ _ _ b4,b5,b6⟩
theorem bI.le{k j p q:Nat}{l:List Nat}(h:bI w mm c ok k p l q)(hj:k<=j):bI w mm c ok j p l q:=by
 induction hj with
 |refl=>exact h
 |step _ ih=>exact bI.more _ _ _ _ ih
theorem bI.append:∀(k:Nat) {j p q r:Nat}{l l2:List Nat},bI w mm c ok k p l q->bI w mm c ok j q l2 r->bI w mm c ok (k+j) p (l++l2) r
 |0,j,p,q,r,l,l2,h,h2=>h.elim
 |k+1,j,p,q,r,[],l2,h,h2=>by
  have e:p=q:=h;subst e;exact h2.le (by omega)
 |k+1,j,p,q,r,a::l,l2,h,h2=>by
  obtain⟨st,op,num,vl,vt,vg,vb,ve,ew,p',e1,e2,e3,e4,e5,e6,e7,e8⟩:=h;have e:k+1+j=(k+j)+1:=by omega
  rw[e];refine⟨st,op,num,vl,vt,vg,vb,ve,ew,p',e1,e2,e3,e4,e5,e6,?_,bI.append k e8 h2⟩;rcases e7 with e7|⟨a1,a2,sig,body,q1,a3,a4,a5,a6,a7,a8⟩
  ·exact .inl e7
  refine .inr ⟨a1,a2,sig,body,q1,a3,a4,a5,a6,a7.le (by omega),?_⟩;rcases a8 with a8|⟨b1,b2,el,q2,b3,b4,b5,b6⟩
  ·exact .inl a8
  exact .inr ⟨b1,b2,el,q2,b3,b4.le (by omega),b5,b6⟩
theorem bI.used{k p q:Nat}{l:List Nat}(h:bI w mm c ok k p l q):bI w mm c (fun g=>ok g/\g<w.heap.size) k p l q:=bI.keep (fun g cs t h1 _ hb=>⟨hb,h1,hb.lt⟩) (fun _ _ h=>h) _ _ _ _ h
end
def je(m:bf)(ai:List Nat)(f:ck)(s:LSt)(p:Nat):Except Er (LSt×Nat):=
 bnd (dr m ai f s p) fun r=>if s.ae.length<r.1.ae.length then fC m ai f r.1.ae.length r.1 r.2 else .ok r
def l9(az:Nat)(w w':World)(c x m f:Nat)(s:ByteArray)(er:Er)(ads:List Nat)(rest:List RB)(b:RB)(mm:bf)(fn:ck)(sig:Sig)(S:LSt)(p n:Nat):Prop:=
 match je mm (sig.1++fn.ai) fn S p with
 |.error e=>e.1≠0/\∃at2 ei b2,Lk az w' c x m f s at2 e ei ads (rest++[b2])
 |.ok r=>∃ei b2,Lk az w' c x m f s (fn.ax+r.2) er ei ads (rest++[b2])/\Rel (rest++[b2]) r.1/\cQ b b2/\b2.l.length<=b.l.length+6/\nm r.1=nm S/\iG r.1/\p<r.2/\r.2<=fn.code.length/\∃k,bI w' mm fn.code (fun g=>w.heap.size<=g) k p [n] r.2
theorem zg:∀x∈dS,¬(2<=x.1/\x.1<=6)->¬(2<=x.2.au/\x.2.au<=6):=by decide
theorem kL{b:Nat}{k:K5}:∀{l:List (Nat×K5)},l.lookup b=some k->(b,k)∈l
 | [],h=>by simp at h
 | (a,x)::l,h=>by
  rw[List.lookup]at h;split at h
  ·rename_i e;have e':b=a:=by simpa using e
   cases h;rw[e'];exact List.mem_cons_self
  exact List.mem_cons_of_mem _ (kL h)
theorem tF{c:List UInt8}{p:Nat}{st:aX}(hp:p<c.length)(h:bJ c p=some st):cr c[p].toNat=some st.aa:=by
 unfold bJ at h;rw[dQ hp]at h;simp only at h;cases hk:cr c[p].toNat with
 |none=>rw[hk]at h;cases h
 |some k=>
  rw[hk]at h;obtain⟨y,_,rfl⟩:=Option.map_eq_some_iff.1 h;rfl
section
variable {az c x m f:Nat}{w w':World}{s:ByteArray}{er:Er}{ads:List Nat}{a:Nat}{rest:List RB}{b:RB}{mm:bf}{fn:ck}{sig:Sig}{p op n:Nat}{S:LSt}
theorem rs{bl:List RB}(h:Rel bl S)(what:Nat):dI mm (sig.1++fn.ai) S what=kj mm (sig.1++fn.ai) bl.length what:=by unfold dI kj;rw[h.len]
theorem Dm(hrel:Rel (rest++[b]) S)(h0:er.1=0)(hp:la s mm fn sig)(hB:iG S)(ox:((rest++[b]).head?).map dB=some sig.2)(h6:∀B∈rest++[b],B.aj.length<=6/\B.ak.length<=6)(jF:p<fn.code.length)(ex:fn.code[p].toNat=op)(dX:¬(2<=op/\op<=6))(hn:w.heap.size<=n)(h:gQ az w w' c x m f s er fn.ax p ads rest b mm (sig.1++fn.ai) sig.2 op (kj mm (sig.1++fn.ai) (rest.length+1)) n (bJ fn.code p)):l9 az w w' c x m f s er ads rest b mm fn sig S p n:=by
 obtain⟨num,vl,ms,h⟩:=h;have aQ:=hrel.len;simp at aQ;unfold l9 je;cases hr:bJ fn.code p with
 |none=>
  rw[hr]at h;have hs:dr mm (sig.1++fn.ai) fn S p=.error (3,fn.ax+p):=by unfold dr;rw[ajc (by omega),hr]
  rw[hs,aW];obtain⟨at2,b2,hL⟩:=h;exact⟨by simp,at2,_,b2,hL⟩
 |some st=>
  rw[hr]at h;have tx:iS (fn.ax+p) mm (sig.1++fn.ai) S st=if st.idx.all (fun i=>decide (i<kj mm (sig.1++fn.ai) (rest.length+1) st.aa.ab))=true then .ok () else .error (4,fn.ax+p):=by unfold iS;rw[rs hrel];simp only[ajb,ajr,ajv]
  rcases h with⟨cL,at2,b2,hL⟩|⟨cL,hL,iz,eW⟩
  ·have hs:dr mm (sig.1++fn.ai) fn S p=.error (4,fn.ax+p):=by unfold dr;rw[ajc (by omega),hr];simp only;rw[tx,cL];rfl
   rw[hs,aW];exact⟨by simp,at2,_,b2,hL⟩
  have zh:=tF jF hr;rw[ex]at zh;have aN:¬(2<=st.aa.au/\st.aa.au<=6):=zg (op,st.aa) (kL zh) dX;have eb:∀i∈st.idx,i<dI mm (sig.1++fn.ai) S st.aa.ab:=by rw[rs hrel];simp only[List.all_eq_true,decide_eq_true_eq]at cL;simpa using cL
  have J2:=Na (ar:=fn.ax+p) (fg:=sig.2) rfl hrel h0 ox hp.fsig aN (ro hr) (tz hr) eb;have dh:=FO (fn.ax+p) hp.lens (sig.1++fn.ai) (fg:=sig.2) (by have:=hp.sig6;omega) h6 b er st;have hs:dr mm (sig.1++fn.ai) fn S p=bnd (doS (fn.ax+p) mm (sig.1++fn.ai) (ci S st) st) fun s1=>.ok (s1,st.next):=by unfold dr;rw[ajc (by omega),hr];simp only;rw[tx,cL];rfl
  cases hd:doS (fn.ax+p) mm (sig.1++fn.ai) (ci S st) st with
  |error e=>
   rw[hd]at hs J2;obtain⟨m1,m2⟩:=J2;rw[hs,aW,aW];rw[m1]at hL;exact⟨by rw[m2];simp,_,_,_,hL⟩
  |ok s1=>
   rw[hd,aM]at hs;rw[hd]at J2;obtain⟨m1,m2,m3⟩:=J2;obtain⟨iW,_⟩:=gg hB hs;rw[hs,aM];have Mw:s1.ae.length=S.ae.length:=by have:=congrArg List.length m3;simpa [nm] using this
   simp only;rw[ajc (by omega)];rw[m1]at hL;refine⟨_,_,hL,m2,dh.1,dh.2,m3,iW,fB hr,im hr,2,?_⟩;refine⟨st,op,num,vl,br,br,br,br,false,st.next,hr,?_,ms,hn,iz,eW,.inl ⟨by omega,rfl⟩,rfl⟩;unfold fS;rw[gEg jF,<-ex];rfl
theorem Gd(h:Lk az w c x m f s (fn.ax+p+1) er (fn.ax+p) (ads++[a]) (rest++[b]))(h0:er.1=0)(hc:Ctx w m f mm fn sig)(hp:la s mm fn sig)(oL:b.l.length<=80000)(hrel:Rel (rest++[b]) S)(hB:iG S)(ox:((rest++[b]).head?).map dB=some sig.2)(h6:∀B∈rest++[b],B.aj.length<=6/\B.ak.length<=6)(jF:p<fn.code.length)(ex:fn.code[p].toNat=op)(dX:¬(2<=op/\op<=6)):Calls prog 95 #[ptr c,.int .i64 op] w fun r w'=>∃n,r=.returned (ptr n)/\w.heap.size<=n/\Fr az none w w'/\l9 az w w' c x m f s er (ads++[a]) rest b mm fn sig S p n:=by
 have bM:op<256:=by rw[<-ex];exact fn.code[p].toNat_lt
 have key:Calls prog 95 #[ptr c,.int .i64 op] w fun r w'=>∃n,r=.returned (ptr n)/\w.heap.size<=n/\Fr az none w w'/\gQ az w w' c x m f s er fn.ax p (ads++[a]) rest b mm (sig.1++fn.ai) sig.2 op (kj mm (sig.1++fn.ai) (rest.length+1)) n (bJ fn.code p):=by
  by_cases c1:op=1
  ·exact JY h h0 hc hp oL jF ex c1
  by_cases c2:op=0\/op=7\/op=8\/op=9\/op=10
  ·exact Di h h0 hc hp oL h6 jF ex c2
  by_cases c3:op=11
  ·exact Ga h h0 hc hp oL jF ex c3
  by_cases c4:op=12
  ·exact F4 h h0 hc hp oL jF ex c4
  by_cases c5:op=13
  ·exact F6 h h0 hc hp oL jF ex c5
  by_cases c6:op=14\/op=15\/op=16
  ·exact Dj h h0 hc hp oL jF ex c6
  by_cases c7:op=20
  ·exact Dl h h0 hc hp oL jF ex c7
  by_cases c8:op=21
  ·exact Gc h h0 hc hp oL jF ex c8
  exact JZ h h0 hc hp oL jF ex ⟨by omega,c7,c8,bM⟩
 refine key.mono ?_;rintro r w' ⟨n,h1,h2,h3,h4⟩;exact⟨n,h1,h2,h3,Dm hrel h0 hp hB ox h6 jF ex dX h2 h4⟩
end
