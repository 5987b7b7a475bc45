import Derived.Test.YtjbdgbdcnjopkaaGreatDoorS18
import Derived.OpenShut
import Derived.Test.YtjbdgbdcnjopkaaGreatDoorS29
namespace Go.Proofs.YtjbdgbdcnjopkaaGreatDoor
open Go.RowKit Tryz
set_option linter.all false
set_option maxRecDepth 100000
set_option maxHeartbeats 4000000
def eX(v:Int):Prop:=-2147483648<=v/\v<=2147483647
def dZ(v:Int):Prop:=-9223372036854775808<=v/\v<=9223372036854775807
theorem eX.wide{v:Int}(h:eX v):dZ v:=by unfold eX at h;unfold dZ;omega
def fw(t:Nat)(v:Int):Prop:=(t=1/\eX v)\/(t=2/\dZ v)
theorem Ba{t:Nat}(h:t=1\/t=2):fw t 0:=by unfold fw eX dZ;omega
theorem fw.wide{t:Nat}{v:Int}(h:fw t v):dZ v:=by
 rcases h with⟨_,h⟩|⟨_,h⟩
 ·exact h.wide
 exact h
def bG:List Nat->List Int->Prop
 | [],[]=>True
 |t::ts,v::vs=>fw t v/\bG ts vs
 |_,_=>False
theorem bG.len:∀{ts:List Nat}{vs:List Int},bG ts vs->ts.length=vs.length
 | [],[],_=>rfl
 |t::ts,v::vs,h=>by simp[bG.len h.2]
 | [],v::vs,h=>False.elim h
 |t::ts,[],h=>False.elim h
theorem bG.append:∀{a:List Nat}{x:List Int}{b:List Nat}{y:List Int},bG a x->bG b y->bG (a++b) (x++y)
 | [],[],_,_,_,k=>k
 |t::ts,v::vs,_,_,h,k=>⟨h.1,bG.append h.2 k⟩
 | [],v::vs,_,_,h,_=>False.elim h
 |t::ts,[],_,_,h,_=>False.elim h
theorem bG.split:∀(a:List Nat) {b:List Nat}{z:List Int},bG (a++b) z->∃x y,z=x++y/\bG a x/\bG b y
 | [],b,z,h=>⟨[],z,rfl,trivial,h⟩
 |t::a,b,v::z,h=>by
  obtain⟨x,y,rfl,h1,h2⟩:=bG.split a h.2;exact⟨v::x,y,rfl,⟨h.1,h1⟩,h2⟩
 |t::a,b,[],h=>False.elim h
theorem bG.one{t:Nat}{z:List Int}(h:bG [t] z):∃v,z=[v]/\fw t v:=by
 match z,h with
 | [v],h=>exact⟨v,rfl,h.1⟩
theorem bG.nil{z:List Int}(h:bG [] z):z=[]:=by
 match z,h with
 | [],_=>rfl
theorem bG.single{t:Nat}{v:Int}(h:fw t v):bG [t] [v]:=⟨h,trivial⟩
theorem bG.take:∀{ts:List Nat}{vs:List Int},bG ts vs->∀k,bG (ts.take k) (vs.take k)
 | [],[],_,k=>by simp[bG]
 |t::ts,v::vs,h,0=>by simp[bG]
 |t::ts,v::vs,h,k+1=>⟨h.1,bG.take h.2 k⟩
 | [],v::vs,h,_=>False.elim h
 |t::ts,[],h,_=>False.elim h
theorem bG.get:∀{ts:List Nat}{vs:List Int},bG ts vs->∀{i:Nat}{t:Nat},ts[i]?=some t->∃v,vs[i]?=some v/\fw t v
 | [],[],_,i,t,h=>by simp at h
 |t::ts,v::vs,h,i,t',ht=>by
  cases i with
  |zero=>simp at ht;subst ht;exact⟨v,rfl,h.1⟩
  |succ i=>simp at ht;obtain⟨x,h1,h2⟩:=bG.get h.2 ht;exact⟨x,by simpa using h1,h2⟩
 | [],v::vs,h,_,_,_=>False.elim h
 |t::ts,[],h,_,_,_=>False.elim h
theorem bG.set:∀{ts:List Nat}{vs:List Int},bG ts vs->∀{i t:Nat}{v:Int},ts[i]?=some t->fw t v->bG ts (vs.set i v)
 | [],[],_,i,t,v,h,_=>by simp at h
 |t::ts,v::vs,h,i,t',v',ht,hv=>by
  cases i with
  |zero=>simp at ht;subst ht;exact⟨hv,h.2⟩
  |succ i=>simp at ht;exact⟨h.1,bG.set h.2 ht hv⟩
 | [],v::vs,h,_,_,_,_,_=>False.elim h
 |t::ts,[],h,_,_,_,_,_=>False.elim h
theorem bG.zeros:∀{ts:List Nat},(∀t∈ts,t=1\/t=2)->bG ts (List.replicate ts.length 0)
 | [],_=>trivial
 |t::ts,h=>⟨Ba (h t (by simp)),bG.zeros fun x hx=>h x (by simp[hx])⟩
theorem jf(x:Int):eX (IntKind.i32.wrap x):=by rw[ajh];unfold wrap32 eX;omega
theorem lE(x:Int):dZ (IntKind.i64.wrap x):=by rw[aji];unfold wrap64 dZ;omega
theorem qD(op:BinOp)(x y:Int):eX (bits op .i32 x y):=by
 have h:=wf_bits op .i32 x y;simp only[Lit.wf,Bool.and_eq_true,decide_eq_true_eq,show IntKind.i32.min = -2147483648 from rfl,show IntKind.i32.max=2147483647 from rfl]at h
 exact h
theorem gH(op:BinOp)(x y:Int):dZ (bits op .i64 x y):=by
 have h:=wf_bits op .i64 x y;simp only[Lit.wf,Bool.and_eq_true,decide_eq_true_eq,show IntKind.i64.min = -9223372036854775808 from rfl,show IntKind.i64.max=9223372036854775807 from rfl]at h
 exact h
theorem gj(b:Bool):eX (bx b):=by cases b <;> (unfold bx eX;simp)
theorem rT(a b:Int):(a.tmod b).natAbs<=a.natAbs:=by rw[Int.natAbs_tmod];exact Nat.mod_le _ _
theorem xC(a:Int)(k:Nat):(0<=a->0<=a / 2 ^ k/\a / 2 ^ k<=a)/\(a<0->a<=a / 2 ^ k/\a / 2 ^ k<0):=by
 have hp:(0:Int)<2 ^ k:=Int.pow_pos (by decide);refine⟨fun h=>⟨Int.ediv_nonneg h (by omega),Int.ediv_le_self _ h⟩,fun h=>⟨?_,Int.ediv_neg_of_neg_of_pos h hp⟩⟩;rw[Int.le_ediv_iff_mul_le hp];have h1:(1:Int)<=2 ^ k:=by omega
 have:=Int.mul_le_mul_of_nonpos_left (a:=a) (by omega) h1;simpa using this
theorem nV(a b:Int):(0<=a->0<=a.tmod b)/\(a<=0->a.tmod b<=0):=by refine⟨fun h=>Int.tmod_nonneg _ h,fun h=>?_⟩;have:=Int.tmod_nonneg (a:=-a) b (by omega);rw[Int.neg_tmod]at this;omega
theorem Ge(au:Nat){a b:Int}(ha:eX a):eX (fy .i32 32 au a b).1:=by
 unfold fy;split
 ·unfold dR;repeat' split
  ·unfold eX;simp
  ·unfold eX;simp
  exact jf _
 split
 ·unfold eJ;split
  ·unfold eX;simp
  have h1:=rT a b;have h2:=nV a b;unfold eX at *;simp only;omega
 split
 ·exact jf _
 split
 ·have h:=xC a (eE .i32 b 32).toNat;unfold eX at *;simp only;omega
 split
 ·show eX (bx (decide (a=b)));exact gj _
 split
 ·show eX (bx (decide (a<b)));exact gj _
 show eX (cM .i32 au a b);unfold cM;repeat' split
 ·exact jf _
 ·exact jf _
 ·exact jf _
 ·exact qD _ _ _
 ·exact qD _ _ _
 exact qD _ _ _
theorem Gf(au:Nat){a b:Int}(ha:dZ a):dZ (fy .i64 64 au a b).1:=by
 unfold fy;split
 ·unfold dR;repeat' split
  ·unfold dZ;simp
  ·unfold dZ;simp
  exact lE _
 split
 ·unfold eJ;split
  ·unfold dZ;simp
  have h1:=rT a b;have h2:=nV a b;unfold dZ at *;simp only;omega
 split
 ·exact lE _
 split
 ·have h:=xC a (eE .i64 b 64).toNat;unfold dZ at *;simp only;omega
 split
 ·show dZ (bx (decide (a=b)));exact(gj _).wide
 split
 ·show dZ (bx (decide (a<b)));exact(gj _).wide
 show dZ (cM .i64 au a b);unfold cM;repeat' split
 ·exact lE _
 ·exact lE _
 ·exact lE _
 ·exact gH _ _ _
 ·exact gH _ _ _
 exact gH _ _ _
structure Dn(m:bf)(fs:List bu)(i:Nat)(lf:bu)(ai:List Nat)(T:Nat->LSt)(R:Nat->aX)(P:Nat->Nat)(n:Nat):Prop where
 at_:fs[i]?=some lf
 ay:lf.ay=(T n).ay
 ah:lf.ah=(T n).ah
 nloc:lf.ai=ai.length
 types:∀t∈ai,t=1\/t=2
 fn:∃pf,m.funs[i]?=some pf/\m.sigs[pf.sig]?=some (lf.aj,lf.ak)/\ai=lf.aj++pf.ai/\bL m ai lf.ak pf T R P n
def B3(m:bf)(fs:List bu):Prop:=(∀i lf,fs[i]?=some lf->∃ai T R P n,Dn m fs i lf ai T R P n)/\m.funs.length=fs.length
theorem Dn.looked{m:bf}{fs:List bu}{i:Nat}{lf:bu}{ai:List Nat}{T:Nat->LSt}{R:Nat->aX}{P:Nat->Nat}{n:Nat}(h:Dn m fs i lf ai T R P n):∃pf,bL m ai lf.ak pf T R P n:=by obtain⟨pf,_,_,_,h⟩:=h.fn;exact⟨pf,h⟩
section
variable {m:bf}{fs:List bu}{lf:bu}{ai:List Nat}{T:Nat->LSt}{R:Nat->aX}{P:Nat->Nat}{n:Nat}{c:bS}
theorem jI{ts:List Nat}{t:Nat}(h:bG (ts++[t]) c.af):∃v vs,c.af=vs++[v]/\kV c=some (v,{c with af:=vs})/\bG ts vs/\fw t v:=by obtain⟨vs,y,e,h1,h2⟩:=bG.split ts h;obtain⟨v,rfl,hv⟩:=h2.one;refine⟨v,vs,e,?_,h1,hv⟩;unfold kV;rw[e];simp
theorem Do{az w:List Nat}(hv:bG (az++w) c.af):∃x y,dE c w.length=some (y,{c with af:=x})/\bG az x/\bG w y:=by obtain⟨x,y,e,h1,h2⟩:=bG.split az hv;have l2:=h2.len;refine⟨x,y,?_,h1,h2⟩;unfold dE;rw[ajc (by rw[e];simp only[ajb];omega),e,ajb,l2,Nat.add_sub_cancel,List.drop_left,List.take_left]
def Qq(ai:List Nat)(T:Nat->LSt)(n:Nat)(c:bS):Prop:=bG ai c.ai/\c.next<=n/\gd (T c.next)/\bG (T c.next).af c.af
theorem tG{s:LSt}{l:Nat}(h:l<s.ae.length):∃F,bT s l=some F:=by unfold bT;rw[ajd h,gEg (by omega)];exact⟨_,rfl⟩
theorem Gg{ar:Nat}{s:LSt}{st:aX}(hf:iS ar m ai s st=.ok ()):∀i∈st.idx,i<dI m ai s st.aa.ab:=by
 unfold iS at hf;split at hf
 ·rename_i h;intro i hm;have:=List.all_eq_true.1 h i hm;simpa using this
 cases hf
end
def Gh(m:bf)(fs:List bu)(c:bS):Prop:=∃lf ai T R P n,Dn m fs c.fn lf ai T R P n/\Qq ai T n c
def Gi(m:bf)(fs:List bu)(c:bS)(g:List Nat):Prop:=∃lf ai T R P n az,Dn m fs c.fn lf ai T R P n/\bG ai c.ai/\c.next<=n/\gd (T c.next)/\(T c.next).af=az++g/\bG az c.af
section
variable {m:bf}{fs:List bu}{G0:List Nat}{s:MSt}{aA:Nat}
theorem Gi.back{d:bS}{g:List Nat}{vals:List Int}(h:Gi m fs d g)(hv:bG g vals):Gh m fs (ff d vals):=by obtain⟨lf,ai,T,R,P,n,az,h1,h2,h3,h4,h5,h6⟩:=h;refine⟨lf,ai,T,R,P,n,h1,h2,h3,h4,?_⟩;show bG (T d.next).af (d.af++vals);rw[h5];exact h6.append hv
theorem xD:∀(k k':Nat) {s:MSt}{o:Out},k<=k'->dx fs aA k s=some o->dx fs aA k' s=some o
 |0,_,_,_,_,h=>by cases h
 |k+1,0,_,_,hk,_=>by omega
 |k+1,k'+1,s,o,hk,h=>by
  unfold dx at h ⊢;split at h
  ·cases h
  ·exact h
  exact xD k k' (by omega) h
end
theorem zi{bs:List UInt8}{p lo hi n:Nat}(h:bN bs p lo hi=.ok n):lo<=n/\n<=hi:=by
 obtain⟨x,_,h⟩:=cd h;split at h
 ·cases h
 cases h;omega
def fE(l:List Nat):Prop:=∀t∈l,t=1\/t=2
theorem fE.noZero{l:List Nat}(h:fE l):cI l:=fun x hx=>by rcases h x hx with h|h <;> omega
theorem tH{bs:List UInt8}:∀(k p:Nat) {l:List Nat},dm bs k p=.ok l->fE l
 |0,p,l,h=>by cases h;intro t ht;simp at ht
 |k+1,p,l,h=>by
  obtain⟨t,ht,h⟩:=cd h;obtain⟨r,hr,h⟩:=cd h;cases h;have:=zi ht;intro x hx;rcases List.mem_cons.1 hx with rfl|hx
  ·omega
  exact tH k _ hr x hx
theorem qE{bs:List UInt8}{p most:Nat}{l:List Nat}(h:eO bs p most=.ok l):fE l:=by obtain⟨k,hk,h⟩:=cd h;exact tH _ _ h
theorem wj{bs:List UInt8}:∀(k p:Nat) {r:List Sig×Nat},di bs k p=.ok r->∀g∈r.1,fE g.1/\fE g.2
 |0,p,r,h=>by cases h;simp
 |k+1,p,r,h=>by
  obtain⟨s,hs,h⟩:=cd h;obtain⟨l,hl,h⟩:=cd h;cases h;intro x hx;rcases List.mem_cons.1 hx with rfl|hx
  ·obtain⟨ts,Ao,hs⟩:=cd hs;obtain⟨gs,dU,hs⟩:=cd hs;cases hs;exact⟨qE Ao,qE dU⟩
  exact wj k _ hl x hx
theorem wk{bs:List UInt8}{nsig:Nat}:∀(k p:Nat) {r:List ck×Nat},d9 bs nsig k p=.ok r->∀f∈r.1,fE f.ai
 |0,p,r,h=>by cases h;simp
 |k+1,p,r,h=>by
  obtain⟨s,hs,h⟩:=cd h;obtain⟨l,hl,h⟩:=cd h;cases h;intro x hx;rcases List.mem_cons.1 hx with rfl|hx
  ·obtain⟨n,EJ,hs⟩:=cd hs;obtain⟨ls,Sh,hs⟩:=cd hs;obtain⟨len,aQ,hs⟩:=cd hs;obtain⟨c,hc,hs⟩:=cd hs;cases hs;exact qE Sh
  exact wk k _ hl x hx
theorem zj{bs:List UInt8}{m:bf}(h:eD bs=.ok m):(∀g∈m.sigs,fE g.1/\fE g.2)/\∀f∈m.funs,fE f.ai:=by
 unfold eD at h;split at h
 ·cases h
 obtain⟨_,_,h⟩:=cd h;obtain⟨n,hn,h⟩:=cd h;obtain⟨s,hs,h⟩:=cd h;obtain⟨k,hk,h⟩:=cd h;obtain⟨f,hf,h⟩:=cd h;split at h
 ·cases h
 cases h;exact⟨wj _ _ hs,wk _ _ hf⟩
theorem kl{m:bf}:∀{l:List ck}{r:List bu},bR m l=.ok r->l.length=r.length/\∀(i:Nat) (lf:bu),r[i]?=some lf->∃pf,l[i]?=some pf/\cz m pf=.ok lf
 | [],r,h=>by cases h;simp
 |f::l,r,h=>by
  obtain⟨x,hx,h⟩:=cd h;obtain⟨y,hy,h⟩:=cd h;cases h;obtain⟨h1,h2⟩:=kl hy;refine⟨by simp[h1],fun i lf hi=>?_⟩;cases i with
  |zero=>simp at hi;subst hi;exact⟨f,rfl,hx⟩
  |succ i=>simp at hi;obtain⟨pf,q1,q2⟩:=h2 i lf hi;exact⟨pf,by simpa using q1,q2⟩
theorem tI{m:bf}{pf:ck}{lf:bu}(hs:∀g∈m.sigs,fE g.1/\fE g.2)(hl:fE pf.ai)(h:cz m pf=.ok lf):m.sigs[pf.sig]?=some (lf.aj,lf.ak)/\lf.ai=(lf.aj++pf.ai).length/\(∀t∈lf.aj++pf.ai,t=1\/t=2)/\∃T R P n,lf.ay=(T n).ay/\lf.ah=(T n).ah/\bL m (lf.aj++pf.ai) lf.ak pf T R P n:=by
 unfold cz at h;split at h
 ·cases h
 rename_i sig dp;obtain⟨r,hr,h⟩:=cd h;cases h;have iD:=hs sig (gMo dp);have C9:∀t∈sig.1++pf.ai,t=1\/t=2:=fun t ht=>by
  rcases List.mem_append.1 ht with q|q
  ·exact iD.1 t q
  exact hl t q
 obtain⟨n,T,R,P,t0,p0,tn,lN,Is,tr⟩:=tu _ _ _ _ (ajl _) (by omega) hr;have cT:ni m (sig.1++pf.ai) sig.2 T R 0:=ni.ax t0 (fun g hg=>⟨(hs g hg).1.noZero,(hs g hg).2.noZero⟩) (fE.noZero C9) ⟨iD.1.noZero,iD.2.noZero⟩;refine⟨dp,by simp,C9,T,R,P,n,by rw[tn],by rw[tn],tr,ni.all tr (fun i hi=>?_) cT,by rw[tn];exact lN,?_⟩
 ·obtain⟨b,hb⟩:=ke (tr i hi).1.read;exact tt _ hb
 rw[t0];exact⟨_,rfl,rfl,rfl,rfl⟩
theorem Bb{bs:List UInt8}{fs:List bu}(h:eU bs=.ok fs):∃m,eD bs=.ok m/\B3 m fs:=by obtain⟨m,hm,h⟩:=cd h;obtain⟨hs,hl⟩:=zj hm;obtain⟨h1,h2⟩:=kl h;refine⟨m,hm,fun i lf hi=>?_,h1⟩;obtain⟨pf,q1,q2⟩:=h2 i lf hi;obtain⟨a1,a2,a3,T,R,P,n,a4,a5,a6⟩:=tI hs (hl pf (gMo q1)) q2;exact⟨_,T,R,P,n,hi,a4,a5,a2,a3,pf,q1,a1,rfl,a6⟩
section
variable {m:bf}{ai ak:List Nat}{f:ck}{T:Nat->LSt}{R:Nat->aX}{P:Nat->Nat}{n:Nat}
theorem bL.moves(L:bL m ai ak f T R P n){i:Nat}(hi:i<n):∃F,(T i).ae.getLast?=some F/\nh m F (T i) (T (i+1)) (R i)/\(T i).ae=(T i).ae.dropLast++[F]:=by have S:=(L.trace i hi).1;obtain⟨F,hf⟩:=il S.ae;exact⟨F,hf,jT (L.inv i (by omega)).b hf S.doit,eL hf⟩
theorem bL.tgKeep(L:bL m ai ak f T R P n){t:Nat}{x:Nat×Nat×Nat}:∀(j k:Nat),k+j<=n->(T k).ah[t]?=some x->(∀G∈(T k).ae,G.target=t->G.au=3)->(T (k+j)).ah[t]?=some x
 |0,k,_,h,_=>h
 |j+1,k,hk,h,hg=>by
  obtain⟨F,hf,M,_⟩:=L.moves (i:=k) (by omega);have bM:=(gEs.1 h).1;have h1:(T (k+1)).ah[t]?=some x:=by
   rcases M.targ _ _ h with q|⟨_,q1,q2,_⟩
   ·exact q
   exact absurd (hg F (ajm hf) q2.symm) q1
  have h2:∀G∈(T (k+1)).ae,G.target=t->G.au=3:=fun G hG e=>by
   rcases M.from hG with⟨H,q1,q2,_⟩|⟨q1,_⟩
   ·rw[q2.loop];exact hg H q1 (by rw[<-q2.target];exact e)
   omega
  have:=L.tgKeep j (k+1) (by omega) h1 h2;rw[show k+1+j=k+(j+1) by omega]at this;exact this
theorem bL.pinEnd(L:bL m ai ak f T R P n){e:Nat}{F:PFr}(he:e<n)(h6:(R e).aa.au=6)(hf:(T e).ae.getLast?=some F)(h3:F.au≠3):(T n).ah[F.target]?=some (e+1,(aZ F).length,F.am):=by
 obtain⟨F',xR,M,mE⟩:=L.moves he;rw[hf]at xR;cases xR;have I:=L.inv e (by omega);obtain⟨nx,ht⟩:=I.tg F (ajm hf);obtain⟨e1,e2,_,_,e3⟩:=M.ended h6;have h1:(T (e+1)).ah[F.target]?=some (e+1,(aZ F).length,F.am):=by rw[e3 h3,ht];simp[I.len]
 have:=L.tgKeep (n-(e+1)) (e+1) (by omega) h1 (fun G hG c=>by
  rw[e1]at hG
  have:=(I.b.targ_last hf hG).1
  omega)
 rw[show e+1+(n-(e+1))=n by omega]at this;exact this
theorem bL.pinLoop(L:bL m ai ak f T R P n){i:Nat}(hi:i<n)(h3:(R i).aa.au=3){N:PFr}(hN:(T (i+1)).ae=(T i).ae++[N]):(T n).ah[N.target]?=some (i+1,(aZ N).length,N.am)/\N.au=3:=by
 obtain⟨F,hf,M,_⟩:=L.moves hi;have I:=L.inv i (by omega);have hd:(T (i+1)).ae[(T i).ae.length]?=some N:=by rw[hN];simp
 rcases M.new _ _ hd with⟨G,q,_⟩|⟨_,_,_,q1,_,_,q4,q5,_⟩
 ·rw[ajp (nLr _)]at q;cases q
 rw[I.len]at q5;have JL:N.au=3:=by rw[q1,h3]
 have:=L.tgKeep (n-(i+1)) (i+1) (by omega) q5 (fun G hG c=>by
  rw[hN]at hG
  rcases List.mem_append.1 hG with hG|hG
  ·have:=I.b.targlt G hG
   omega
  simp at hG;subst hG;exact JL)
 rw[show i+1+(n-(i+1))=n by omega]at this;exact⟨this,JL⟩
theorem bL.stKeep(L:bL m ai ak f T R P n){i:Nat}{x:PSt}:∀(j k:Nat),k+j<=n->i<k->(T k).ay[i]?=some x->(∀G∈(T k).ae,G.au=4->G.ao≠(i:Int))->(T (k+j)).ay[i]?=some x
 |0,k,_,_,h,_=>h
 |j+1,k,hk,hi,h,hg=>by
  obtain⟨F,hf,M,_⟩:=L.moves (i:=k) (by omega);have I:=L.inv k (by omega);have h1:(T (k+1)).ay[i]?=some x:=by
   rcases M.step _ _ h with q|⟨q1,_,q2,_⟩
   ·exact q
   exact absurd q2 (hg F (ajm hf) q1)
  have h2:∀G∈(T (k+1)).ae,G.au=4->G.ao≠(i:Int):=fun G hG e4=>by
   rcases M.from hG with⟨H,q1,q2,q3⟩|⟨_,q2,_⟩
   ·rw[q2.ao];rcases q3 with rfl|q3|rfl
    ·exact hg _ q1 e4
    ·omega
    exact hg H q1 e4
   rw[q2,I.len];omega
  have:=L.stKeep j (k+1) (by omega) (by omega) h1 h2;rw[show k+1+j=k+(j+1) by omega]at this;exact this
theorem bL.pinIf(L:bL m ai ak f T R P n){i e:Nat}{F:PFr}(Gj:i<e)(he:e<n)(rS:(R e).aa.au=5\/(R e).aa.au=6)(hf:(T e).ae.getLast?=some F)(h4:F.au=4)(hb:F.ao=(i:Int)):∃x t,(T n).ay[i]?=some x/\x.ah=[t]/\(T n).ah[t]?=some (e+1,F.aj.length,F.am):=by
 obtain⟨F',xR,M,mE⟩:=L.moves he;rw[hf]at xR;cases xR;have I:=L.inv e (by omega);have qe:=ajm hf;obtain⟨t,x,l1,l2,l3,l4⟩:=M.lead h4 rS i hb (by rw[I.len];exact Gj);rw[I.len]at l4;have lN:∀G∈(T (e+1)).ae,G∈(T e).ae.dropLast\/(G.au=5/\G.target=F.target):=fun G hG=>by
  rcases rS with h|h
  ·obtain⟨_,hr,_⟩:=M.turned h;rw[hr]at hG;rcases List.mem_append.1 hG with hG|hG
   ·exact .inl hG
   simp at hG;subst hG;exact .inr ⟨rfl,rfl⟩
  obtain⟨hr,_⟩:=M.ended h;rw[hr]at hG;exact .inl hG
 have s1:=L.stKeep (i:=i) (x:=x) (n-(e+1)) (e+1) (by omega) (by omega) l1 (fun G hG g4=>by
  rcases lN G hG with q|⟨q,_⟩
  ·have:=(I.b.targ_last hf q).2
   omega
  omega)
 have t1:=L.tgKeep (t:=t) (n-(e+1)) (e+1) (by omega) l4 (fun G hG c=>by
  rcases lN G hG with q|⟨_,q⟩
  ·have:=(I.b.targ_last hf q).1
   have:=I.b.targlt F qe
   omega
  have:=I.b.targlt F qe
  omega)
 rw[show e+1+(n-(e+1))=n by omega]at s1 t1;exact⟨x,t,s1,l2,t1⟩
def FSt(s r:LSt):Prop:=r.ae.length=s.ae.length/\∀(d:Nat) (F G:PFr),s.ae[d]?=some F->r.ae[d]?=some G->cH F G/\G.au=F.au
theorem FSt.refl(s:LSt):FSt s s:=⟨rfl,fun d F G h1 h2=>by rw[h1]at h2;cases h2;exact⟨cH.refl _,rfl⟩⟩
theorem FSt.trans{a b c:LSt}(h:FSt a b)(k:FSt b c):FSt a c:=by
 refine⟨k.1.trans h.1,fun d F G h1 h2=>?_⟩;have hd:=(gEs.1 h1).1;have OT:d<b.ae.length:=by rw[h.1];exact hd
 have hb:b.ae[d]?=some b.ae[d]:=gEg OT;obtain⟨p1,p2⟩:=h.2 d F _ h1 hb;obtain⟨q1,q2⟩:=k.2 d _ G hb h2;exact⟨p1.trans q1,q2.trans p2⟩
theorem FSt.label{s r:LSt}(h:FSt s r){k:Nat}{G:PFr}(hk:bT r k=some G):∃F,bT s k=some F/\cH F G:=by
 unfold bT at hk ⊢;rw[h.1]at hk;split at hk
 ·rename_i bM;rw[ajd bM];have e:s.ae[s.ae.length-1-k]?=some s.ae[s.ae.length-1-k]:=gEg (by omega);exact⟨_,e,(h.2 _ _ _ e hk).1⟩
 cases hk
theorem FSt.last{s r:LSt}(h:FSt s r){F:PFr}(hf:s.ae.getLast?=some F):∃G,r.ae.getLast?=some G/\cH F G/\G.au=F.au:=by
 rw[ajk]at hf ⊢;rw[h.1];have hd:=(gEs.1 hf).1;have OT:s.ae.length-1<r.ae.length:=by rw[h.1];exact hd
 have e:r.ae[s.ae.length-1]?=some r.ae[s.ae.length-1]:=gEg OT;exact⟨_,e,h.2 _ _ _ hf e⟩
theorem bL.fsStep(L:bL m ai ak f T R P n){i:Nat}(hi:i<n)(h:¬(2<=(R i).aa.au/\(R i).aa.au<=6)):FSt (T i) (T (i+1)):=by
 obtain⟨F,hf,M,mE⟩:=L.moves hi;by_cases hd:(R i).aa.au=0\/(R i).aa.au=7\/(R i).aa.au=9\/(R i).aa.au=10
 ·obtain⟨hr,_⟩:=M.died hd;have hl:(T (i+1)).ae.length=(T i).ae.length:=by have:=congrArg List.length mE;rw[hr];simp only[ajb,ajr,ajv]at this ⊢;omega
  refine⟨hl,fun d A B h1 h2=>?_⟩;rcases tj hf hr h2 with⟨q,_⟩|⟨_,q1,q2⟩
  ·rw[h1]at q;cases q;exact⟨cH.refl _,rfl⟩
  rw[h1]at q2;cases q2;subst q1;exact⟨⟨rfl,rfl,rfl,rfl,rfl,rfl,Iff.rfl⟩,rfl⟩
 have hr:=M.plain hd h;refine⟨by rw[hr],fun d A B h1 h2=>?_⟩;rw[hr,h1]at h2;cases h2;exact⟨cH.refl _,rfl⟩
theorem bL.fsClose(L:bL m ai ak f T R P n){i e:Nat}(hi:i<n)(El:(R i).aa.au=2\/(R i).aa.au=3\/(R i).aa.au=4)(he:e<n)(h6:(R e).aa.au=6)(hs:FSt (T (i+1)) (T e)):FSt (T i) (T (e+1)):=by obtain⟨F,hf,M,_⟩:=L.moves hi;obtain⟨G,hg,K,mE⟩:=L.moves he;obtain⟨N,hN,_⟩:=M.opened El;obtain⟨hr,_⟩:=K.ended h6;have hl:=hs.1;rw[hN]at hl;simp only[ajb,ajr,ajv]at hl;refine⟨by rw[hr,List.length_dropLast,hl];omega,fun d A B h1 h2=>?_⟩;have hd:=(gEs.1 h1).1;rw[hr,List.getElem?_dropLast,ajd (by omega)]at h2;exact hs.2 d A B (by rw[hN,gAl hd];exact h1) h2
theorem bL.fsElse(L:bL m ai ak f T R P n){i e1 e2:Nat}(hi:i<n)(El:(R i).aa.au=2\/(R i).aa.au=3\/(R i).aa.au=4)(he:e1<n)(h5:(R e1).aa.au=5)(hs:FSt (T (i+1)) (T e1))(UM:e2<n)(h6:(R e2).aa.au=6)(rC:FSt (T (e1+1)) (T e2)):FSt (T i) (T (e2+1)):=by
 obtain⟨F,hf,M,_⟩:=L.moves hi;obtain⟨G,hg,K,mE⟩:=L.moves he;obtain⟨H,hh,J,aaE⟩:=L.moves UM;obtain⟨N,hN,_⟩:=M.opened El;obtain⟨hr,_⟩:=J.ended h6;obtain⟨h4,ht,_⟩:=K.turned h5;have hl:=hs.1;rw[hN]at hl;have jD:=rC.1;have Oy:(T (e1+1)).ae.length=(T e1).ae.length:=by have:=congrArg List.length mE;rw[ht];simp only[ajb,ajr,ajv]at this ⊢;omega
 simp only[ajb,ajr,ajv]at hl;refine⟨by rw[hr,List.length_dropLast,jD,Oy,hl];omega,fun d A B h1 h2=>?_⟩;have hd:=(gEs.1 h1).1;rw[hr,List.getElem?_dropLast,ajd (by omega)]at h2;have OP:d<(T e1).ae.length:=by omega
 have x1:(T e1).ae[d]?=some (T e1).ae[d]:=gEg OP;have x2:(T (e1+1)).ae[d]?=some (T e1).ae[d]:=by rw[ht,gAl (by rw[List.length_dropLast];omega),List.getElem?_dropLast,ajd (by omega)];exact x1
 obtain⟨p1,p2⟩:=hs.2 d A _ (by rw[hN,gAl hd];exact h1) x1;obtain⟨q1,q2⟩:=rC.2 d _ B x2 h2;exact⟨p1.trans q1,q2.trans p2⟩
end
def dD(fs:List bu)(aA:Nat)(s s':MSt):Prop:=∀k o,dx fs aA k s'=some o->∃k',dx fs aA k' s=some o
def gr(fs:List bu)(aA:Nat)(s:MSt)(o:Out):Prop:=∃k,dx fs aA k s=some o
section
variable {fs:List bu}{aA:Nat}{s s' s'':MSt}{o:Out}
theorem dD.refl:dD fs aA s s:=fun k o h=>⟨k,h⟩
theorem dD.trans(h:dD fs aA s s')(k:dD fs aA s' s''):dD fs aA s s'':=fun n o hn=>by obtain⟨n',h'⟩:=k n o hn;exact h n' o h'
theorem dD.step(h:bB fs aA s=some (.inl s')):dD fs aA s s':=fun k o hk=>⟨k+1,by unfold dx;rw[h];exact hk⟩
theorem gr.step(h:bB fs aA s=some (.inr o)):gr fs aA s o:=⟨1,by unfold dx;rw[h]⟩
theorem dD.ends(h:dD fs aA s s')(k:gr fs aA s' o):gr fs aA s o:=by obtain⟨n,hn⟩:=k;exact h n o hn
theorem gr.only{o':Out}(h:gr fs aA s o)(k:gr fs aA s o'):o=o':=by obtain⟨n,hn⟩:=h;obtain⟨n',EJ⟩:=k;have h1:=xD n (n+n') (by omega) hn;have h2:=xD n' (n+n') (by omega) EJ;rw[h1]at h2;exact Option.some.inj h2
end
structure io(m:bf)(fs:List bu)(i:Nat)(lf:bu)(pf:ck)(ai:List Nat)(T:Nat->LSt)(R:Nat->aX)(P:Nat->Nat)(n:Nat):Prop where
 ok:Dn m fs i lf ai T R P n
 fn:m.funs[i]?=some pf
 sig:m.sigs[pf.sig]?=some (lf.aj,lf.ak)
 loc:ai=lf.aj++pf.ai
 look:bL m ai lf.ak pf T R P n
 p0:P 0=0
 pn:pf.code.length<=P n
abbrev TV:=Nat×Int
def tv(ts:List Nat)(vs:List Int):List TV:=ts.zip vs
theorem fK{a b:List Nat}{x y:List Int}(h:a.length=x.length):tv (a++b) (x++y)=tv a x++tv b y:=List.zip_append h
theorem fF{a:List Nat}{x:List Int}(h:bG a x):(tv a x).length=a.length:=by have:=h.len;simp[tv,List.length_zip];omega
section
variable {m:bf}{fs:List bu}{lf:bu}{pf:ck}{ai:List Nat}{T:Nat->LSt}{R:Nat->aX}{P:Nat->Nat}{n aA:Nat}{s:MSt}
theorem io.fetch{j:Nat}(h:io m fs j lf pf ai T R P n){i:Nat}(hi:i<n):∃st,lf.ay[i]?=some st/\st.aa=(R i).aa/\st.index=(dP (T i) (R i)).index/\st.num=(R i).num /\ ((R i).aa.au≠4->(R i).aa.au≠5->st.ah=(dP (T i) (R i)).ah)/\((R i).aa.au=5->∃F,(T i).ae.getLast?=some F/\F.au=4/\st.ah=[F.target]):=by obtain⟨x,x1,x2,x3,x4,x5,x6⟩:=(h.look.inv n (nLr _)).ay i hi;exact⟨x,by rw[h.ok.ay];exact x1,x2,x3,x4,x5,x6⟩
theorem eM(h:io m fs s.call.fn lf pf ai T R P n)(hi:s.call.next<n)(du:s.ay≠aA){st:PSt}(cT:lf.ay[s.call.next]?=some st)(h0:st.aa.au≠0)(mG:st.aa.au≠10)(mF:st.aa.au≠11){e:Nat}{c1:bS}(hd:doC lf.ah {s.call with next:=s.call.next+1} st=some (e,c1)):bB fs aA s=some (if e=0 then .inl {s with call:=c1,ay:=s.ay+1} else .inr ⟨e,s.ay+1,[]⟩):=by unfold bB;rw[h.ok.at_];simp only[cT,ajc du,ajc h0,ajc mF,ajc mG,hd];split <;> rfl
structure fO(ai:List Nat)(T:Nat->LSt)(c:bS):Prop where
 loc:bG ai c.ai
 alive:gd (T c.next)
 stk:bG (T c.next).af c.af
theorem nW(h:io m fs s.call.fn lf pf ai T R P n)(hi:s.call.next<n)(hs:fO ai T s.call)(du:s.ay≠aA)(hn:(R s.call.next).aa.au=1\/(R s.call.next).aa.au=2\/(R s.call.next).aa.au=3\/(R s.call.next).aa.au=6):bB fs aA s=some (.inl {s with call:={s.call with next:=s.call.next+1},ay:=s.ay+1})/\(T (s.call.next+1)).af=(T s.call.next).af/\gd (T (s.call.next+1)):=by
 have S:=(h.look.trace _ hi).1;obtain⟨st,x1,x2,x3,x4,-,-⟩:=h.fetch hi;obtain⟨⟨-,ka2,-⟩,-,-⟩:=cC S.read;obtain⟨t0,g0⟩:=ka2 hn;clear ka2;refine⟨?_,?_,h.look.alive_next hi hs.alive (by omega)⟩
 ·have:=eM (aA:=aA) h hi du x1 (by rw[x2];omega) (by rw[x2];omega) (by rw[x2];omega) (e:=0) (c1:={s.call with next:=s.call.next+1}) (by
   unfold doC jL
   simp only[x2]
   rw[ajc (by omega),ajc (by omega),ajc (by omega),ajc (by omega),ajc (by omega),ajc (by omega),ajc (by omega)])
  simpa using this
 obtain⟨F,hf,M,ty,hh⟩:=h.look.typed hi hs.alive;rcases hn with h1|h1|h1|h1
 ·obtain⟨az,y1,y2⟩:=ty.other (.inl h1);rw[t0]at y1;rw[g0]at y2;simp at y1 y2;rw[y2,<-y1]
 ·obtain⟨az,sig,_,y1,_,y2⟩:=ty.block (.inl h1);rw[y2,<-y1]
 ·obtain⟨az,sig,_,y1,_,y2⟩:=ty.block (.inr h1);rw[y2,<-y1]
 obtain⟨_,e2,_⟩:=M.ended h1;rw[e2];exact(ty.close (.inr h1)).symm
end
section
variable {m:bf}{fs:List bu}{lf:bu}{pf:ck}{ai:List Nat}{T:Nat->LSt}{R:Nat->aX}{P:Nat->Nat}{n aA:Nat}{s:MSt}
theorem Dp(h:io m fs s.call.fn lf pf ai T R P n)(hi:s.call.next<n)(du:s.ay≠aA)(hn:(R s.call.next).aa.au=0):bB fs aA s=some (.inr ⟨1,s.ay+1,[]⟩):=by obtain⟨st,x1,x2,-,-,-,-⟩:=h.fetch hi;unfold bB;rw[h.ok.at_];simp only[x1,ajc du,x2,ajd hn]
theorem wm(h:io m fs s.call.fn lf pf ai T R P n)(hi:s.call.next<n)(du:s.ay=aA):bB fs aA s=some (.inr ⟨4,s.ay,[]⟩):=by obtain⟨st,x1,-,-,-,-,-⟩:=h.fetch hi;unfold bB;rw[h.ok.at_];simp only[x1,ajd du]
def eG(fs:List bu)(aA:Nat)(s:MSt)(af ai:List Int):Prop:=bB fs aA s=some (.inl {s with call:={s.call with next:=s.call.next+1,af:=af,ai:=ai},ay:=s.ay+1})
theorem Dq(h:io m fs s.call.fn lf pf ai T R P n)(hi:s.call.next<n)(hs:fO ai T s.call)(du:s.ay≠aA)(hn:(R s.call.next).aa.au=12):∃az t vs v,(T s.call.next).af=az++[t]/\s.call.af=vs++[v]/\bG az vs/\fw t v/\eG fs aA s vs s.call.ai/\(T (s.call.next+1)).af=az:=by
 obtain⟨st,x1,x2,-,-,-,-⟩:=h.fetch hi;obtain⟨F,hf,M,ty,hh⟩:=h.look.typed hi hs.alive;obtain⟨az,t,y1,y2⟩:=ty.drop hn;have hv:=hs.stk;rw[y1]at hv;obtain⟨v,vs,e,p1,p2,p3⟩:=jI (c:={s.call with next:=s.call.next+1}) hv;refine⟨az,t,vs,v,y1,e,p2,p3,?_,y2⟩;have:=eM (aA:=aA) h hi du x1 (by rw[x2];omega) (by rw[x2];omega) (by rw[x2];omega) (e:=0) (c1:={s.call with next:=s.call.next+1,af:=vs}) (by
  unfold doC
  simp only[x2]
  rw[ajc (by omega),ajd hn,p1];rfl)
 simpa [eG] using this
theorem Dr(h:io m fs s.call.fn lf pf ai T R P n)(hi:s.call.next<n)(hs:fO ai T s.call)(du:s.ay≠aA)(hn:(R s.call.next).aa.au=13):∃az t vs a b v,(T s.call.next).af=az++[t,t,1]/\s.call.af=vs++[a,b,v]/\bG az vs/\fw t a/\fw t b/\fw 1 v/\eG fs aA s (vs++[if v=0 then b else a]) s.call.ai/\(T (s.call.next+1)).af=az++[t]:=by
 obtain⟨st,x1,x2,-,-,-,-⟩:=h.fetch hi;obtain⟨F,hf,M,ty,hh⟩:=h.look.typed hi hs.alive;obtain⟨az,t,y1,y2⟩:=ty.pick hn;have y1':(T s.call.next).af=az++[t]++[t]++[1]:=by rw[y1];simp
 have hv:=hs.stk;rw[y1']at hv;obtain⟨v,vs,e,p1,p2,p3⟩:=jI (c:={s.call with next:=s.call.next+1}) hv;obtain⟨v2,vs2,e2,q1,q2,q3⟩:=jI (c:={s.call with next:=s.call.next+1,af:=vs}) p2;obtain⟨v3,vs3,e3,r1,r2,r3⟩:=jI (c:={s.call with next:=s.call.next+1,af:=vs2}) q2;simp only at e e2 e3;refine⟨az,t,vs3,v3,v2,v,y1,by rw[e,e2,e3];simp,r2,r3,q3,p3,?_,y2⟩;have:=eM (aA:=aA) h hi du x1 (by rw[x2];omega) (by rw[x2];omega) (by rw[x2];omega) (e:=0) (c1:={s.call with next:=s.call.next+1,af:=vs3++[if v=0 then v2 else v3]}) (by
  unfold doC
  simp only[x2]
  rw[ajc (by omega),ajc (by omega),ajd hn]
  unfold vy
  simp only[p1,q1,r1]
  rfl)
 simpa [eG] using this
theorem Gk(h:io m fs s.call.fn lf pf ai T R P n)(hi:s.call.next<n)(hs:fO ai T s.call)(du:s.ay≠aA)(hn:(R s.call.next).aa.au=14):∃t v,ai[(R s.call.next).idx.headD 0]?=some t/\s.call.ai[(R s.call.next).idx.headD 0]?=some v/\fw t v/\eG fs aA s (s.call.af++[v]) s.call.ai/\(T (s.call.next+1)).af=(T s.call.next).af++[t]:=by
 obtain⟨st,x1,x2,x3,-,-,-⟩:=h.fetch hi;obtain⟨-,-,-,-,-,-,kc5⟩:=cC (h.look.trace _ hi).1.read;have oe:=kc5 (.inl hn);clear kc5;have Nq:st.index=(R s.call.next).idx.headD 0:=by rw[x3];unfold dP;simp only[ajd (Or.inr oe)]
 obtain⟨F,hf,M,ty,hh⟩:=h.look.typed hi hs.alive;obtain⟨t,y0,y2⟩:=ty.get hn;obtain⟨v,g1,g2⟩:=hs.loc.get y0;refine⟨t,v,y0,g1,g2,?_,y2⟩;have:=eM (aA:=aA) h hi du x1 (by rw[x2];omega) (by rw[x2];omega) (by rw[x2];omega) (e:=0) (c1:={s.call with next:=s.call.next+1,af:=s.call.af++[v]}) (by
  unfold doC
  simp only[x2]
  rw[ajc (by omega),ajc (by omega),ajc (by omega),ajd (.inl hn)]
  unfold mH
  simp only[x2,Nq,g1]
  rw[ajc (by omega),ajc (by omega)]
  rfl)
 simpa [eG] using this
theorem Gl(h:io m fs s.call.fn lf pf ai T R P n)(hi:s.call.next<n)(hs:fO ai T s.call)(du:s.ay≠aA)(hn:(R s.call.next).aa.au=15):∃az t vs v,ai[(R s.call.next).idx.headD 0]?=some t/\(T s.call.next).af=az++[t]/\s.call.af=vs++[v]/\bG az vs/\fw t v/\eG fs aA s vs (s.call.ai.set ((R s.call.next).idx.headD 0) v)/\(T (s.call.next+1)).af=az:=by
 obtain⟨st,x1,x2,x3,-,-,-⟩:=h.fetch hi;obtain⟨-,-,-,-,-,-,kc5⟩:=cC (h.look.trace _ hi).1.read;have oe:=kc5 (.inr (.inl hn));clear kc5;have Nq:st.index=(R s.call.next).idx.headD 0:=by rw[x3];unfold dP;simp only[ajd (Or.inr oe)]
 obtain⟨F,hf,M,ty,hh⟩:=h.look.typed hi hs.alive;obtain⟨az,t,y0,y1,y2⟩:=ty.set hn;obtain⟨v0,g1,g2⟩:=hs.loc.get y0;have hv:=hs.stk;rw[y1]at hv;obtain⟨v,vs,e,p1,p2,p3⟩:=jI (c:={s.call with next:=s.call.next+1}) hv;refine⟨az,t,vs,v,y0,y1,e,p2,p3,?_,y2⟩;have:=eM (aA:=aA) h hi du x1 (by rw[x2];omega) (by rw[x2];omega) (by rw[x2];omega) (e:=0) (c1:={s.call with next:=s.call.next+1,af:=vs,ai:=s.call.ai.set ((R s.call.next).idx.headD 0) v}) (by
  unfold doC
  simp only[x2]
  rw[ajc (by omega),ajc (by omega),ajc (by omega),ajd (.inr (.inl hn))]
  unfold mH
  simp only[x2,Nq,g1]
  rw[ajd hn,p1]
  rfl)
 simpa [eG] using this
theorem Gm(h:io m fs s.call.fn lf pf ai T R P n)(hi:s.call.next<n)(hs:fO ai T s.call)(du:s.ay≠aA)(hn:(R s.call.next).aa.au=16):∃az t vs v,ai[(R s.call.next).idx.headD 0]?=some t/\(T s.call.next).af=az++[t]/\s.call.af=vs++[v]/\bG az vs/\fw t v/\eG fs aA s (vs++[v]) (s.call.ai.set ((R s.call.next).idx.headD 0) v)/\(T (s.call.next+1)).af=az++[t]:=by
 obtain⟨st,x1,x2,x3,-,-,-⟩:=h.fetch hi;obtain⟨-,-,-,-,-,-,kc5⟩:=cC (h.look.trace _ hi).1.read;have oe:=kc5 (.inr (.inr hn));clear kc5;have Nq:st.index=(R s.call.next).idx.headD 0:=by rw[x3];unfold dP;simp only[ajd (Or.inr oe)]
 obtain⟨F,hf,M,ty,hh⟩:=h.look.typed hi hs.alive;obtain⟨az,t,y0,y1,y2⟩:=ty.tee hn;obtain⟨v0,g1,g2⟩:=hs.loc.get y0;have hv:=hs.stk;rw[y1]at hv;obtain⟨v,vs,e,p1,p2,p3⟩:=jI (c:={s.call with next:=s.call.next+1}) hv;refine⟨az,t,vs,v,y0,y1,e,p2,p3,?_,y2⟩;have:=eM (aA:=aA) h hi du x1 (by rw[x2];omega) (by rw[x2];omega) (by rw[x2];omega) (e:=0) (c1:={s.call with next:=s.call.next+1,af:=vs++[v],ai:=s.call.ai.set ((R s.call.next).idx.headD 0) v}) (by
  unfold doC
  simp only[x2]
  rw[ajc (by omega),ajc (by omega),ajc (by omega),ajd (.inr (.inr hn))]
  unfold mH
  simp only[x2,Nq,g1]
  rw[ajc (by omega),ajd hn,p1]
  rfl)
 simpa [eG] using this
theorem tJ(h:io m fs s.call.fn lf pf ai T R P n)(hi:s.call.next<n)(hs:fO ai T s.call)(du:s.ay≠aA)(hn:(R s.call.next).aa.au=17):fw (R s.call.next).aa.ak (R s.call.next).num/\eG fs aA s (s.call.af++[(R s.call.next).num]) s.call.ai/\(T (s.call.next+1)).af=(T s.call.next).af++[(R s.call.next).aa.ak]:=by
 obtain⟨st,x1,x2,x3,x4,-,-⟩:=h.fetch hi;have S:=(h.look.trace _ hi).1;obtain⟨⟨-,-,ka3⟩,-,-⟩:=cC S.read;obtain⟨t0,hg⟩:=ka3 hn;obtain⟨nm1,nm2⟩:=Da S.read;obtain⟨F,hf,M,ty,hh⟩:=h.look.typed hi hs.alive;obtain⟨az,y1,y2⟩:=ty.other (.inr (by omega));rw[t0]at y1;simp at y1;have qA:fw (R s.call.next).aa.ak (R s.call.next).num:=by
  rcases hg with⟨b6,g1⟩|⟨b7,g2⟩
  ·exact .inl ⟨g1,nm1 b6⟩
  exact .inr ⟨g2,nm2 b7⟩
 have Sx:(R s.call.next).aa.ak≠0:=by rcases hg with⟨_,g⟩|⟨_,g⟩ <;> omega
 refine⟨qA,?_,by rw[y2,ajd Sx,y1]⟩;clear ka3 nm1 nm2 hg qA;have:=eM (aA:=aA) h hi du x1 (by rw[x2];omega) (by rw[x2];omega) (by rw[x2];omega) (e:=0) (c1:={s.call with next:=s.call.next+1,af:=s.call.af++[(R s.call.next).num]}) (by
  unfold doC
  simp only[x2]
  rw[ajc (by omega),ajc (by omega),ajc (by omega),ajc (by omega),ajd hn,x4]
  rfl)
 simpa [eG] using this
theorem pR(h:io m fs s.call.fn lf pf ai T R P n)(hi:s.call.next<n)(hs:fO ai T s.call)(du:s.ay≠aA)(hn:30<=(R s.call.next).aa.au)(qY:(R s.call.next).aa.aj=1)(hg:(R s.call.next).aa.ak≠0):∃az vs v,(T s.call.next).af=az++[(R s.call.next).aa.of]/\s.call.af=vs++[v]/\bG az vs/\fw (R s.call.next).aa.of v/\eG fs aA s (vs++[kU (R s.call.next).aa.au v]) s.call.ai/\(T (s.call.next+1)).af=az++[(R s.call.next).aa.ak]:=by
 obtain⟨st,x1,x2,x3,x4,-,-⟩:=h.fetch hi;obtain⟨F,hf,M,ty,hh⟩:=h.look.typed hi hs.alive;obtain⟨az,y1,y2⟩:=ty.other (.inr (by omega));rw[qY]at y1;have hv:=hs.stk;rw[y1]at hv;obtain⟨v,vs,e,p1,p2,p3⟩:=jI (c:={s.call with next:=s.call.next+1}) (ts:=az) (t:=(R s.call.next).aa.of) hv;refine⟨az,vs,v,y1,e,p2,p3,?_,by rw[y2,ajd hg]⟩;have:=eM (aA:=aA) h hi du x1 (by rw[x2];omega) (by rw[x2];omega) (by rw[x2];omega) (e:=0) (c1:={s.call with next:=s.call.next+1,af:=vs++[kU (R s.call.next).aa.au v]}) (by
  unfold doC jL
  simp only[x2]
  rw[ajc (by omega),ajc (by omega),ajc (by omega),ajc (by omega),ajc (by omega),ajd qY,p1]
  rfl)
 simpa [eG] using this
theorem tK(h:io m fs s.call.fn lf pf ai T R P n)(hi:s.call.next<n)(hs:fO ai T s.call)(du:s.ay≠aA)(hn:18<=(R s.call.next).aa.au)(oc:(R s.call.next).aa.aj=2)(hg:(R s.call.next).aa.ak≠0):∃az vs x y,(T s.call.next).af=az++[(R s.call.next).aa.of,(R s.call.next).aa.of]/\s.call.af=vs++[x,y]/\bG az vs/\fw (R s.call.next).aa.of x/\fw (R s.call.next).aa.of y /\ ((bZ (R s.call.next).aa x y).2=0->eG fs aA s (vs++[(bZ (R s.call.next).aa x y).1]) s.call.ai) /\ ((bZ (R s.call.next).aa x y).2≠0->bB fs aA s=some (.inr ⟨(bZ (R s.call.next).aa x y).2,s.ay+1,[]⟩))/\(T (s.call.next+1)).af=az++[(R s.call.next).aa.ak]:=by
 obtain⟨st,x1,x2,x3,x4,-,-⟩:=h.fetch hi;obtain⟨F,hf,M,ty,hh⟩:=h.look.typed hi hs.alive;obtain⟨az,y1,y2⟩:=ty.other (.inr (by omega));rw[oc]at y1;have y0:(T s.call.next).af=az++[(R s.call.next).aa.of,(R s.call.next).aa.of]:=y1;have y1':(T s.call.next).af=az++[(R s.call.next).aa.of]++[(R s.call.next).aa.of]:=by rw[y0];simp
 have hv:=hs.stk;rw[y1']at hv;obtain⟨v,vs,e,p1,p2,p3⟩:=jI (c:={s.call with next:=s.call.next+1}) hv;obtain⟨v2,vs2,e2,q1,q2,q3⟩:=jI (c:={s.call with next:=s.call.next+1,af:=vs}) p2;simp only at e e2;refine⟨az,vs2,v2,v,y0,by rw[e,e2];simp,q2,q3,p3,fun h0=>?_,fun h0=>?_,by rw[y2,ajd hg]⟩
 ·have:=eM (aA:=aA) h hi du x1 (by rw[x2];omega) (by rw[x2];omega) (by rw[x2];omega) (e:=0) (c1:={s.call with next:=s.call.next+1,af:=vs2++[(bZ (R s.call.next).aa v2 v).1]}) (by
   unfold doC jL
   simp only[x2]
   rw[ajc (by omega),ajc (by omega),ajc (by omega),ajc (by omega),ajc (by omega),ajc (by omega),ajd oc]
   simp only[p1,q1,ajd h0]
   rfl)
  simpa [eG] using this
 have:=eM (aA:=aA) h hi du x1 (by rw[x2];omega) (by rw[x2];omega) (by rw[x2];omega) (e:=(bZ (R s.call.next).aa v2 v).2) (c1:={s.call with next:=s.call.next+1,af:=vs2}) (by
  unfold doC jL
  simp only[x2]
  rw[ajc (by omega),ajc (by omega),ajc (by omega),ajc (by omega),ajc (by omega),ajc (by omega),ajd oc]
  simp only[p1,q1,ajc h0])
 rw[ajc h0]at this;exact this
end
