import Derived.Test.YtjbdgbdcnjopkaaGreatDoorS33
import Derived.Test.YtjbdgbdcnjopkaaGreatDoorS34
namespace Go.Proofs.YtjbdgbdcnjopkaaGreatDoor
open Go.RowKit Tryz
set_option linter.all false
set_option maxRecDepth 100000
set_option maxHeartbeats 4000000
def cE(w:World)(W m left ay:Nat)(ended:Bool)(e waits:Nat):Prop:=Blk w W #[ptr m,.int .i64 left,.int .i64 ay,.bool ended,.int .i64 e,.int .i64 waits] 128
def pS(cs:Array Value)(l:List TV):Prop:=∀i (h:i<l.length),cs[i*2]?=some (.int .i64 l[i].1)/\cs[i*2+1]?=some (.int .i64 l[i].2)
def xE(w:World)(no:Nat)(v:Value)(l:List TV):Prop:=(v=.slice none 0 0/\l=[])\/∃g cap cs,v=.slice (some ⟨g,0,none⟩) l.length cap/\Blk w g cs 134/\g≠no/\l.length<=cap/\pS cs l
def uX(w:World)(c gl:Nat)(v:Value)(l:List TV):Prop:=(v=.slice none 0 0/\l=[]/\gl=c)\/∃cap cs,v=.slice (some ⟨gl,0,none⟩) l.length cap/\Blk w gl cs 134/\l.length<=cap/\pS cs l
def aI(w:World)(c W f gl:Nat)(L S:List TV):Prop:=∃vL vS,Blk w c #[ptr W,ptr f,vL,vS] 132/\uX w c gl vL L/\xE w gl vS S
section
variable {w w':World}{c W f gl m left ay e waits:Nat}{ended:Bool}{L S:List TV}{v:Value}
theorem xE.keep{no:Nat}{l:List TV}(h:xE w no v l)(k:∀g cs,g≠no->Blk w g cs 134->Blk w' g cs 134):xE w' no v l:=by
 rcases h with h|⟨g,cap,cs,h1,h2,h3,h4⟩
 ·exact .inl h
 exact .inr ⟨g,cap,cs,h1,k _ _ h3 h2,h3,h4⟩
theorem uX.keep{l:List TV}(h:uX w c gl v l)(k:∀cs,Blk w gl cs 134->Blk w' gl cs 134):uX w' c gl v l:=by
 rcases h with h|⟨cap,cs,h1,h2,h3⟩
 ·exact .inl h
 exact .inr ⟨cap,cs,h1,k _ h2,h3⟩
theorem uX.lt{l:List TV}(h:uX w c gl v l){cs:Array Value}{t:Nat}(hc:Blk w c cs t):gl<w.heap.size:=by
 rcases h with⟨_,_,rfl⟩|⟨cap,cs,_,h2,_⟩
 ·exact hc.lt
 exact h2.lt
theorem aI.lt(h:aI w c W f gl L S):c<w.heap.size/\gl<w.heap.size:=by obtain⟨vL,vS,h1,h2,_⟩:=h;exact⟨h1.lt,h2.lt h1⟩
theorem aI.keep(h:aI w c W f gl L S)(k:∀g cs t,t=132\/t=134->Blk w g cs t->Blk w' g cs t):aI w' c W f gl L S:=by obtain⟨vL,vS,h1,h2,h3⟩:=h;exact⟨vL,vS,k _ _ _ (.inl rfl) h1,h2.keep (fun cs hb=>k _ _ _ (.inr rfl) hb),h3.keep (fun g cs _ hb=>k _ _ _ (.inr rfl) hb)⟩
theorem aI.grown(h:aI w c W f gl L S)(k:w.grownBy w' none):aI w' c W f gl L S:=h.keep fun g cs t _ hb=>hb.grown k (by simp)
theorem aI.wroteW(h:aI w c W f gl L S){cs:Array Value}(hW:Blk w W cs 128)(k:w.grownBy w' (some W)):aI w' c W f gl L S:=h.keep fun g cs' t ht hb=>aF k hW hb (by rcases ht with rfl|rfl <;> decide)
theorem nX{vL vS vS':Value}{S':List TV}(hb:Blk w c #[ptr W,ptr f,vL,vS] 132)(hl:uX w c gl vL L)(hr:xE w gl vS' S'):aI (w.setCell ⟨c,3,none⟩ vS') c W f gl L S':=by have hg:=aD w c 3 vS';have mn:=hb.set 3 vS';simp at mn;exact⟨vL,vS',mn,hl.keep (fun cs hx=>aF hg hb hx (by decide)),hr.keep (fun g cs _ hx=>aF hg hb hx (by decide))⟩
theorem ny(h:cE w W m left ay false e waits)(e':Nat):Calls prog 75 #[ptr W,.int .i64 e'] w fun r w'=>r=.returned (.tuple #[])/\w.grownBy w' (some W)/\cE w' W m left ay true e' waits:=by have c3:=Blk.cell h 3;have c4:=Blk.cell h 4;simp at c3 c4;have f3:=Blk.frozen h 3;have f4:=Blk.frozen h 4;have hl:=Blk.lt h;have hb:=(Blk.set h 3 (.bool true)).set 4 (.int .i64 e');simp at hb;have HB:Hid _:=hb;clear hb;go_enter func75,ntmps75;go_wp2;go_end0;exact⟨rfl,aB (aD _ _ _ _) (aD _ _ _ _),HB.out⟩
theorem wn(h:cE w W m 0 ay false e waits):Calls prog 96 #[ptr W] w fun r w'=>r=.returned (.bool false)/\w.grownBy w' (some W)/\cE w' W m 0 ay true 4 waits:=by have c1:=Blk.cell h 1;simp at c1;have hN:=ny h 4;have hl:=Blk.lt h;go_enter func96,ntmps96;go_wp2_with fail;refine hN.mono ?_;clear hN;rintro e w2 ⟨rfl,aP,gY⟩;have d3:=Blk.cell gY 3;simp at d3;go_wp2_with fail;go_ret;exact⟨rfl,aP,gY⟩
theorem tL(h:cE w W m (left+1) ay false e waits)(h1:left<=100000)(h2:ay<=100000):Calls prog 96 #[ptr W] w fun r w'=>r=.returned (.bool true)/\w.grownBy w' (some W)/\cE w' W m left (ay+1) false e waits:=by
 have c1:=Blk.cell h 1;have c2:=Blk.cell h 2;have c3:=Blk.cell h 3;simp at c1 c2 c3;have f1:=Blk.frozen h 1;have f2:=Blk.frozen h 2;have hl:=Blk.lt h;have hb:=(Blk.set h 1 (.int .i64 left)).set 2 (.int .i64 ((ay+1:Nat):Int));simp at hb;have HB:Hid _:=hb;have i1:(left:Int)<=100000:=by omega
 have i2:(ay:Int)<=100000:=by omega
 have b0:((left:Int)+1==0)=false:=beqn (by omega);clear hb;go_enter func96,ntmps96;go_wp2_with fail;go_ret;refine⟨rfl,?_,?_⟩
 ·exact aB (aD _ _ _ _) (aD _ _ _ _)
 first|exact HB.out|(have:=HB.out;simpa using this)
end
theorem kM{P:Program}{ops:Array Oper}{o:Oper}{a:Act}{w:World}{K:Act->World->Prop}{Q:Exit->Act->World->Prop}{E:Prop}(hg:o.guard=none) (s x:Operand) (t:TypeId) (ex:o.op=Op.call {callee:=Callee.builtin Builtin.append,args:=#[s,x],argTypes:=#[t,t]})(az:Nat) (e:TypeId) (i:TypeInfo) (size:Nat) (ht:P.underlying t=some (.slice e)) (hi:P.info? e=some i)(v:Value) (n:Nat) (xs:List Value) (hs:a.eval s=v) (bn:w.ownsRow az e size v n xs)(hx:a.eval x=.slice none 0 0) (hK:K (a.put o.dst v) w):if Region.wanted o (yielded ops a.tmps)=true then Oper.wp P o a w K Q else E:=by
 have hw:Region.wanted o (yielded ops a.tmps)=true:=by simp[Region.wanted,hg]
 rw[ajd hw];have hr:=run_append_owned_none (P:=P) (w:=w) az t o.type e i size ht hi v n xs bn;unfold Oper.wp execOp;simp only[ex,resolve,invoke,builtin,Sem.run_bind,Sem.run_pure,Result.andThen_ok,List.map_toArray,List.map_cons,List.map_nil,hs,hx,hr];exact hK
theorem nA{a b:World}{row:Option Nat}(h:a.grownBy b none):a.grownBy b row:=⟨h.os,h.tape,h.output,h.size,fun i hi _=>h.block i hi (by simp)⟩
section
variable {w w':World}{c W f gl m left ay e waits:Nat}{ended:Bool}{L S:List TV}{v:Value}
theorem pS.fst{cs:Array Value}{a b:List TV}(h:pS cs (a++b)):pS cs a:=fun i hi=>by
 have:=h i (by rw[ajb];omega)
 rwa [ajn hi]at this
theorem xE.last{no t:Nat}{n:Int}(h:xE w no v (S++[(t,n)])):∃g cap,v=.slice (some ⟨g,0,none⟩) (S.length+1) cap/\g≠no/\S.length+1<=cap/\w.cell? ⟨g,S.length*2,none⟩=some (.int .i64 t)/\w.cell? ⟨g,S.length*2+1,none⟩=some (.int .i64 n)/\g<w.heap.size/\xE w no (.slice (some ⟨g,0,none⟩) S.length cap) S:=by
 rcases h with⟨_,h⟩|⟨g,cap,cs,h1,h2,h3,h4,h5⟩
 ·simp at h
 obtain⟨x1,x2⟩:=h5 S.length (by simp);simp at x1 x2 h4;refine⟨g,cap,by simpa using h1,h3,h4,by rw[h2.cell];exact x1,by rw[h2.cell];exact x2,h2.lt,.inr ⟨g,cap,cs,rfl,h2,h3,by omega,h5.fst⟩⟩
theorem lF{t t':Nat}{n:Int}(h:aI w c W f gl L (S++[(t,n)]))(ht:t'=0\/t'=t)(hS:S.length<=1000000):Calls prog 124 #[ptr c,.int .i64 t'] w fun r w'=>r=.returned (.agg #[.int .i64 t,.int .i64 n])/\w.grownBy w' (some c)/\aI w' c W f gl L S/\w'.cell? ⟨c,2,none⟩=w.cell? ⟨c,2,none⟩/\w'.cell? ⟨c,1,none⟩=w.cell? ⟨c,1,none⟩/\∀g cap,w.cell? ⟨c,3,none⟩=some (.slice (some ⟨g,0,none⟩) (S.length+1) cap)->w'.cell? ⟨c,3,none⟩=some (.slice (some ⟨g,0,none⟩) S.length cap):=by
 obtain⟨vL,vS,h1,h2,h3⟩:=id h;obtain⟨g,cap,rfl,hg,kX,y0,y1,iB,hr⟩:=h3.last;obtain⟨N,hN⟩:=aja S.length;rw[hN]at h1 kX y0 y1 hr hS;have c3:=h1.cell 3;simp at c3;have f3:=h1.frozen 3;have iX:=h1.lt;have XR:(N:Int)<=1000000:=by omega
 have qb:g≠c:=by
  intro e;rcases hr with⟨e1,_⟩|⟨g',cap',cs,e1,e2,_⟩
  ·cases e1
  cases e1;subst e;have:=e2.symm.trans h1;cases this
 have HR:Hid _:=hr;have HN:Hid _:=hN;have H2:Hid _:=h2;have H1:Hid _:=h1;clear hr hN h h1 h2;have FIN:∀(o1 o2:Obj),w.grownBy (((w.setCell ⟨c,3,none⟩ (.slice (some ⟨g,0,none⟩) N cap)).alloc o1).alloc o2).drew.drew (some c)/\aI (((w.setCell ⟨c,3,none⟩ (.slice (some ⟨g,0,none⟩) N cap)).alloc o1).alloc o2).drew.drew c W f gl L S/\(((w.setCell ⟨c,3,none⟩ (.slice (some ⟨g,0,none⟩) N cap)).alloc o1).alloc o2).drew.drew.cell? ⟨c,2,none⟩=w.cell? ⟨c,2,none⟩/\(((w.setCell ⟨c,3,none⟩ (.slice (some ⟨g,0,none⟩) N cap)).alloc o1).alloc o2).drew.drew.cell? ⟨c,1,none⟩=w.cell? ⟨c,1,none⟩/\∀g' cap',w.cell? ⟨c,3,none⟩=some (.slice (some ⟨g',0,none⟩) (S.length+1) cap')->(((w.setCell ⟨c,3,none⟩ (.slice (some ⟨g,0,none⟩) N cap)).alloc o1).alloc o2).drew.drew.cell? ⟨c,3,none⟩=some (.slice (some ⟨g',0,none⟩) S.length cap'):=fun o1 o2=>by
  have hh:=nX H1.out H2.out (S':=S) HR.out;have eZ:=aB (aC (w.setCell ⟨c,3,none⟩ (.slice (some ⟨g,0,none⟩) N cap)) o1 none) (aC _ o2 none);have MQ:=(Blk.set H1.out 3 (.slice (some ⟨g,0,none⟩) N cap)).grown (aE (aE eZ)) (by simp);refine⟨aE (aE (aB (aD _ _ _ _) (nA eZ))),hh.grown (aE (aE eZ)),?_,?_,?_⟩
  ·rw[MQ.cell,Blk.cell H1.out];simp
  ·rw[MQ.cell,Blk.cell H1.out];simp
  intro g' cap' hq;rw[c3]at hq;rw[MQ.cell];simp at hq ⊢;obtain⟨e1,e2,e3⟩:=hq;exact⟨e1,HN.out.symm,e3⟩
 have HF:Hid _:=FIN;clear FIN;go_enter func124,ntmps124;go_wp2_with fail;go_region
 go_wp2_with fail;go_region
 rcases ht with rfl|rfl
 ·go_wp2_with fail;refine bodyPost_ret (v:=.agg #[.int .i64 t,.int .i64 n]) ?_ rfl ⟨rfl,HF.out _ _⟩;simp[results,results124,go_sem]
 go_wp2_with fail;all_goals
  refine bodyPost_ret (v:=.agg #[.int .i64 t',.int .i64 n]) ?_ rfl ⟨rfl,HF.out _ _⟩;simp[results,results124,go_sem] <;> omega
theorem tM{t t':Nat}{n:Int}(h:aI w c W f gl L (S++[(t,n)]))(ht:t'=0\/t'=t)(hS:S.length<=1000000):Calls prog 124 #[ptr c,.int .i64 t'] w fun r w'=>r=.returned (.agg #[.int .i64 t,.int .i64 n])/\w.grownBy w' (some c)/\aI w' c W f gl L S:=(lF h ht hS).mono fun r w' ⟨a,b,d,_⟩=>⟨a,b,d⟩
def bo(l:List TV):List Value:=l.flatMap fun x=>[.int .i64 (x.1:Int),.int .i64 x.2]
theorem eN:∀(l:List TV),(bo l).length=l.length*2
 | []=>rfl
 |x::l=>by have:=eN l;simp only[bo,List.flatMap_cons,ajb,ajr,ajv]at this ⊢;omega
theorem gu(a b:List TV):bo (a++b)=bo a++bo b:=by simp[bo,List.flatMap_append]
theorem nB:∀(l:List TV) (i:Nat) (h:i<l.length),(bo l)[i*2]?=some (.int .i64 (l[i].1:Int))/\(bo l)[i*2+1]?=some (.int .i64 l[i].2)
 | [],i,h=>by simp at h
 |x::l,0,h=>⟨rfl,rfl⟩
 |x::l,i+1,h=>by
  have hi:i<l.length:=by simpa using h
  obtain⟨h1,h2⟩:=nB l i hi;have e:bo (x::l)=[.int .i64 (x.1:Int),.int .i64 x.2]++bo l:=rfl;rw[e,show (i+1)*2=i*2+2 by omega,ajs (by simp only[ajr,ajv];omega),ajs (by simp only[ajr,ajv];omega)];simp only[ajr,ajv,List.getElem_cons_succ];rw[show i*2+2-(0+1+1)=i*2 by omega,show i*2+2+1-(0+1+1)=i*2+1 by omega];exact⟨h1,h2⟩
theorem kN(l:List TV):∀u∈bo l,u.oneCell'=true:=by intro u hu;simp only[bo,List.mem_flatMap,ajG,List.not_mem_nil,or_false]at hu;obtain⟨x,_,rfl|rfl⟩:=hu <;> rfl
theorem pT:(prog.info? 134).map (fun i=>(i.zero,i.size,i.bytes))=some (some (.agg #[.int .i64 0,.int .i64 0]),2,16):=by kernel_rfl
theorem Gn{az n:Nat}{l:List TV}(h:w.ownsRow az 134 2 v n (bo l))(hn:n=l.length):(v=.slice none 0 0/\l=[])\/∃g cap cs,v=.slice (some ⟨g,0,none⟩) l.length cap/\Blk w g cs 134/\az<=g/\l.length<=cap/\pS cs l:=by
 subst hn;rcases h.2 with⟨e1,e2⟩|⟨g,cap,cur,rfl,e2,e3,e4,e5⟩
 ·exact .inl ⟨e1,List.length_eq_zero_iff.1 e2⟩
 refine .inr ⟨g,cap,cur,rfl,e3,e2,e4,fun i hi=>?_⟩;have c1:=(bK h (j:=i*2) (by omega)).1;have c2:=(bK h (j:=i*2+1) (by omega)).1;have hb:Blk w g cur 134:=e3;rw[hb.cell]at c1 c2;obtain⟨x1,x2⟩:=nB l i hi;exact⟨c1.trans x1,c2.trans x2⟩
theorem zk{az n no:Nat}{l:List TV}(h:w.ownsRow az 134 2 v n (bo l))(hn:n=l.length)(gK:no<az):xE w no v l:=by
 rcases Gn h hn with h|⟨g,cap,cs,h1,h2,h3,h4,h5⟩
 ·exact .inl h
 exact .inr ⟨g,cap,cs,h1,h2,by omega,h4,h5⟩
theorem pS.news{g cap:Nat}{cs:Array Value}{l:List TV}(hb:Blk w g cs 134)(h:pS cs l):∀j u,(bo l)[j]?=some u->w.cell? ((⟨g,0,none⟩:Addr).add j)=some u:=by
 intro j u hj;have hl:=(gEs.1 hj).1;rw[eN]at hl;rw[cJ,ajx,hb.cell];obtain⟨x1,x2⟩:=h (j / 2) (by omega);obtain⟨y1,y2⟩:=nB l (j / 2) (by omega);rcases Nat.mod_two_eq_zero_or_one j with e|e
 ·have:j / 2*2=j:=by omega
  rw[this]at x1 y1;rw[x1,<-y1];exact hj
 have:j / 2*2+1=j:=by omega
 rw[this]at x2 y2;rw[x2,<-y2];exact hj
theorem mb(w:World)(x y:Value)(t:TypeId):∀j u,[x,y][j]?=some u->(w.alloc (.cells #[x,y] t)).cell? ((⟨w.heap.size,0,none⟩:Addr).add j)=some u:=by
 intro j u hj;have hb:Blk (w.alloc (.cells #[x,y] t)) w.heap.size #[x,y] t:=Blk.new _ _ _;rw[cJ,ajx,hb.cell]
 match j,hj with
 |0,hj=>simpa using hj
 | 1,hj=>simpa using hj
theorem qF{t:Nat}{n:Int}(h:aI w c W f gl L S)(hS:S.length<=1000000):Calls prog 152 #[ptr c,.int .i64 t,.int .i64 n] w fun r w'=>r=.returned (.tuple #[])/\w.grownBy w' (some c)/\aI w' c W f gl L (S++[(t,n)])/\w'.cell? ⟨c,2,none⟩=w.cell? ⟨c,2,none⟩:=by
 obtain⟨iX,iB⟩:=h.lt;obtain⟨vL,vS,h1,h2,h3⟩:=h;have c3:=h1.cell 3;simp at c3;have f3:=h1.frozen 3;obtain⟨i0,hi,fo,eP,eV⟩:=info_parts pT;obtain⟨N,hN⟩:=aja S.length;have hS':N<=1000000:=by omega
 go_enter func152,ntmps152;go_upto_region 1 with fail
 go_cut [6] from 7 to 22 (fun v1 wc=>∃a1 cap1,v1=.slice a1 N cap1/\w.grownBy wc none/\wc.ownsRow w.heap.size 134 2 (.slice a1 N cap1) N (bo S))
 case first=>
  rcases h3 with⟨rfl,rfl⟩|⟨g,cap,cs,rfl,hb,hg,kX,Bc⟩
  ·simp at hN;subst hN;go_wp2_with (at_builtin;refine wpList_append_own_none rfl _ _ 130 rfl w.heap.size 134 i0 2 underlying130 hi (.slice none 0 0) 0 [] rfl (ajj _ _ _ _) rfl ?q1)
   go_meet
   exact⟨none,0,rfl,aH _ _,ajj _ _ _ _⟩
  rw[hN]at c3;have Ts:=Bc.news (cap:=0) hb;have HNW:Hid _:=Ts;clear Ts;go_wp2_with (at_builtin;refine wpList_append_own_at _ rfl _ _ 130 rfl w.heap.size 134 i0 _ 2 16 underlying130 hi fo eP eV rfl (by decide) (.slice none 0 0) 0 [] rfl (ajj _ _ _ _) ⟨g,0,none⟩ N cap (bo S) rfl ?pp1 ?pp2 ?pp3 ?pp4 ?pp5 ?pp6 ?pp7)
  case pp1=>rw[eN,hN]
  case pp2=>exact HNW.out
  case pp3=>exact kN S
  case pp4=>simp[maxLen];omega
  case pp5=>omega
  case pp6=>exact nLr _
  case pp7=>
   intro v' w' bn bU _ _;obtain⟨a',cap',rfl,_,_⟩:=aG bn;go_wp2_with fail;go_meet
   refine⟨a',cap',by simp,bU,by simpa using bn⟩
 case rest=>
  obtain⟨w3,rfl⟩:∃z,z=wc:=⟨wc,rfl⟩;obtain⟨a1,cap1,rfl,bU,bn⟩:=hcut;have kv:=h1.grown bU (by simp);have k3:=kv.cell 3;have q3:=kv.frozen 3;simp at k3;have gy:=bU.size;clear c3 f3;go_wp2_with (at_builtin;refine wpList_append_own_at _ rfl _ _ 130 rfl w.heap.size 134 i0 _ 2 16 underlying130 hi fo eP eV rfl (by decide) (.slice a1 N cap1) N (bo S) rfl (bn.alloc _) ⟨w3.heap.size,0,none⟩ 1 1 [.int .i64 t,.int .i64 n] rfl rfl ?r2 ?r3 ?r4 ?r5 ?r6 ?r7)
  case r2=>exact mb _ _ _ _
  case r3=>simp[Value.oneCell']
  case r4=>simp[maxLen];omega
  case r5=>omega
  case r6=>simp;omega
  case r7=>
   intro v' w' cG cD _ _;obtain⟨a',cap',rfl,_,_⟩:=aG cG;have hA:=aB bU (aC w3 (.cells #[.int .i64 t,.int .i64 n] 134) none);have xg:w.grownBy w' none:=by
    cases i7:(Value.slice a1 N cap1).ownBlock with
    |none=>rw[i7]at cD;exact aB hA cD
    |some g=>rw[i7]at cD;exact aO hA (ba bn g i7).1 cD
   have jK:=h1.grown xg (by simp);have k4:=jK.cell 3;have q4:=jK.frozen 3;simp at k4;have Eb:=jK.lt;clear k3 q3;go_wp2_with fail;go_end0;have cZ:bo (S++[(t,n)])=bo S++[.int .i64 t,.int .i64 n]:=by rw[gu];rfl
   rw[<-cZ]at cG;have hv:=zk (no:=gl) cG (by simp[hN]) iB;refine⟨rfl,aB (nA xg) (aD _ _ _ _),nX jK (h2.keep (fun cs hx=>hx.grown xg (by simp))) hv,?_⟩;rw[(jK.set 3 _).cell,h1.cell];simp
theorem Ds{t:Nat}{n:Int}(h:aI w c W f gl L S)(hS:S.length<=1000000):Calls prog 152 #[ptr c,.int .i64 t,.int .i64 n] w fun r w'=>r=.returned (.tuple #[])/\w.grownBy w' (some c)/\aI w' c W f gl L (S++[(t,n)]):=(qF h hS).mono fun r w' ⟨a,b,d,_⟩=>⟨a,b,d⟩
end
section
variable {w w':World}{c W f gl m left ay e waits:Nat}{ended:Bool}{L S:List TV}{v:Value}
theorem pS.snd{g:Nat}{cs:Array Value}{a b:List TV}(hb:Blk w g cs 134)(h:pS cs (a++b)):∀j u,(bo b)[j]?=some u->w.cell? ((⟨g,a.length*2,none⟩:Addr).add j)=some u:=by
 intro j u hj;have:=h.news (cap:=0) hb (a.length*2+j) u (by
  rw[gu,ajs (by rw[eN];omega),eN,Nat.add_sub_cancel_left]
  exact hj)
 rw[cJ]at this ⊢;rw[ajx]at this;exact this
theorem aad{A B C:List TV}(h:aI w c W f gl L (A++B++C))(hS:(A++B++C).length<=1000000):Calls prog 74 #[ptr c,.int .i64 A.length,.int .i64 C.length] w fun r w'=>r=.returned (.tuple #[])/\w.grownBy w' (some c)/\aI w' c W f gl L (A++C):=by
 obtain⟨iX,iB⟩:=h.lt;obtain⟨vL,vS,h1,h2,h3⟩:=h;have c3:=h1.cell 3;simp at c3;have f3:=h1.frozen 3;obtain⟨i0,hi,fo,eP,eV⟩:=info_parts pT;obtain⟨na,uv⟩:=aja A.length;obtain⟨nk,A8⟩:=aja C.length;obtain⟨lo,nO⟩:=aja ((A++B).length);have jM:na<=lo:=by rw[<-uv,<-nO];simp
 have Qr:(A++B++C).length=lo+nk:=by rw[ajb,nO,A8]
 have hS':lo+nk<=1000000:=by omega
 rw[uv,A8];have i1:(na:Int)<=(lo:Int):=by omega
 have i2:(lo:Int)+(nk:Int)<=1000000:=by omega
 have OU:Hid _:=uv;have LD:Hid _:=A8;have zl:Hid _:=nO;rcases h3 with⟨rfl,e3⟩|⟨g,cap,cs,rfl,hb,hg,kX,Bc⟩
 ·have eA:A=[]:=by simp at e3;exact e3.1
  have eB:B=[]:=by simp at e3;exact e3.2.1
  have eC:C=[]:=by simp at e3;exact e3.2.2
  subst eA;subst eB;subst eC;simp at uv A8 nO;subst uv;subst A8;subst nO;clear e3;have Ly:IntKind.i64.wrap 0=0:=rfl;go_enter func74,ntmps74;go_wp2_with (at_builtin;refine wpList_append_own_none rfl _ _ 130 rfl w.heap.size 134 i0 2 underlying130 hi (.slice none 0 0) 0 [] rfl (ajj _ _ _ _) rfl ?q1)
  go_region_law (refine kM rfl _ _ 130 rfl w.heap.size 134 i0 2 underlying130 hi (.slice none 0 0) 0 [] rfl (ajj _ _ _ _) rfl ?_)
  all_goals
   go_wp2_with fail;go_end0;exact⟨rfl,bj (aD _ _ _ _),nX (w:=w.drew) h1 h2 (.inl ⟨rfl,rfl⟩)⟩
 rw[Qr]at c3 kX h1;have n1:=(Bc.fst.fst).news (cap:=0) hb;have n2:=Bc.snd hb;rw[nO]at n2;have dlt:decide (lo<na)=false:=by simp;omega
 have HN1:Hid _:=n1;have Dt:Hid _:=n2;have H1:Hid _:=h1;have H2:Hid _:=h2;have HB:Hid _:=hb;have PM:=hb.lt;clear n1 n2 uv A8 nO Bc Qr hS h1 h2 hb;go_enter func74,ntmps74;go_upto_region 3 with fail
 go_cut [6] from 21 to 47 (fun v1 wc=>∃a1 cap1,v1=.slice a1 na cap1/\w.grownBy wc none/\wc.ownsRow w.heap.size 134 2 (.slice a1 na cap1) na (bo A))
 case first=>
  go_wp2_with (at_builtin;refine wpList_append_own_at _ rfl _ _ 130 rfl w.heap.size 134 i0 _ 2 16 underlying130 hi fo eP eV rfl (by decide) (.slice none 0 0) 0 [] rfl (ajj _ _ _ _) ⟨g,0,none⟩ na cap (bo A) rfl ?pp1 ?pp2 ?pp3 ?pp4 ?pp5 ?pp6 ?pp7)
  case pp1=>rw[eN,OU.out]
  case pp2=>exact HN1.out
  case pp3=>exact kN A
  case pp4=>simp[maxLen];omega
  case pp5=>omega
  case pp6=>exact nLr _
  case pp7=>
   intro v' w' bn bU _ _;obtain⟨a',cap',rfl,_,_⟩:=aG bn;go_wp2_with fail;go_meet
   refine⟨a',cap',by simp,bU,by simpa using bn⟩
 case rest=>
  obtain⟨w3,rfl⟩:∃z,z=wc:=⟨wc,rfl⟩;obtain⟨a1,cap1,rfl,bU,bn⟩:=hcut;have kv:=Blk.grown H1.out bU (by simp);have k3:=kv.cell 3;have q3:=kv.frozen 3;simp at k3;have gy:=bU.size;have HN3:Hid (∀j u,(bo C)[j]?=some u->w3.drew.cell? ((⟨g,lo*2,none⟩:Addr).add j)=some u):=fun j u hj=>by have:=Dt.out j u hj;rw[cJ]at this ⊢;have qX:=Blk.grown HB.out bU (by simp);show w3.cell? _=_;rw[qX.cell];rw[Blk.cell HB.out]at this;exact this
  clear c3 f3;have q5:na+nk<=maxLen:=by simp[maxLen];omega
  have q6:(na+nk)*16<=140737488355328:=by omega
  have q7:w.heap.size<=w3.drew.heap.size:=gy;have q8:(bo C).length=nk*2:=by rw[eN,LD.out]
  have zm:Hid _:=kN C;have j7:w3.drew.ownsRow w.heap.size 134 2 (.slice a1 na cap1) na (bo A):=aJ bn (fun g c hb=>hb);have HG:Hid (∀w4:World,w3.drew.grownBy w4 (Value.slice a1 na cap1).ownBlock->w.grownBy w4 none/\w4.cell? ⟨c,3,none⟩=some (.slice (some ⟨g,0,none⟩) (lo+nk) cap)/\w4.frozen? ⟨c,3,none⟩=false/\c<w4.heap.size):=fun w4 cD=>by
   have xg:w.grownBy w4 none:=by
    cases i7:(Value.slice a1 na cap1).ownBlock with
    |none=>rw[i7]at cD;exact aB (aE bU) cD
    |some g=>rw[i7]at cD;exact aO (aE bU) (ba bn g i7).1 cD
   have jK:=Blk.grown H1.out xg (by simp);have k4:=jK.cell 3;simp at k4;exact⟨xg,k4,jK.frozen 3,jK.lt⟩
  have HE:Hid (∀(w4:World) (v':Value),w3.drew.grownBy w4 (Value.slice a1 na cap1).ownBlock->w4.ownsRow w.heap.size 134 2 v' (na+nk) (bo A++bo C)->w.grownBy (w4.setCell ⟨c,3,none⟩ v') (some c)/\aI (w4.setCell ⟨c,3,none⟩ v') c W f gl L (A++C)):=fun w4 v' cD cG=>by obtain⟨xg,_⟩:=HG.out w4 cD;rw[<-gu]at cG;have hv:=zk (no:=gl) cG (by rw[ajb,OU.out,LD.out]) iB;exact⟨aB (nA xg) (aD _ _ _ _),nX (Blk.grown H1.out xg (by simp)) (uX.keep H2.out (fun cs hx=>hx.grown xg (by simp))) hv⟩
  have Ik:IntKind.i64.wrap (lo:Int)=(lo:Int):=IntWalk.i64_in _ (by omega);have ol:(lo:Int)<=(lo:Int)+(nk:Int):=by omega
  by_cases iX:cap=lo
  ·have uH:nk=0:=by omega
   have HC:Hid (∀j u,(bo C)[j]?=some u->w3.drew.cell? ((⟨g,0,none⟩:Addr).add j)=some u):=fun j u hj=>by have:=(gEs.1 hj).1;rw[q8]at this;omega
   have hct:(cap=lo)=True:=by simp[iX]
   clear iX uH;go_wp2_with fail
   go_region_law (refine bQ rfl _ _ 130 rfl w.heap.size 134 i0 _ 2 16 underlying130 hi fo eP eV rfl (by decide) (.slice a1 na cap1) na (bo A) rfl j7 ⟨g,0,none⟩ nk (cap-lo) (bo C) rfl q8 HC.out zm.out q5 q6 q7 ?_;intro v' w' cG cD;obtain⟨a',cap',rfl,_⟩:=aG cG;obtain⟨kw,k4,q4,Eb⟩:=HG.out _ cD)
   all_goals
    go_wp2_with fail;go_end0;exact⟨rfl,HE.out _ _ cD cG⟩
  go_wp2_with fail
  go_region_law (refine bQ rfl _ _ 130 rfl w.heap.size 134 i0 _ 2 16 underlying130 hi fo eP eV rfl (by decide) (.slice a1 na cap1) na (bo A) rfl j7 ⟨g,lo*2,none⟩ nk (cap-lo) (bo C) rfl q8 HN3.out zm.out q5 q6 q7 ?_;intro v' w' cG cD;obtain⟨a',cap',rfl,_⟩:=aG cG;obtain⟨kw,k4,q4,Eb⟩:=HG.out _ cD)
  all_goals
   go_wp2_with fail;go_end0;exact⟨rfl,HE.out _ _ cD cG⟩
end
