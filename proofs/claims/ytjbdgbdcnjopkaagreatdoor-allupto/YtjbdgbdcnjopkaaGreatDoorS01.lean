import Derived.RangeFuncNested
import Derived.RangeFuncBound
import Derived.RangeFuncCalls
import Derived.RangeFuncLeaves
import Derived.Shelf.Abstract
import Derived.Shelf.RegionOpen
import Derived.WalkKit
import Derived.OwnWalkIn
import Derived.TacticsInMore
import Derived.LoopNIn
import Derived.LoopIn
import Derived.Test.YtjbdgbdcnjopkaaGreatDoorProg
import Derived.ProofKit
import Derived.Below
import Derived.BigQuiet
import Derived.Deep.QuietTactic
import Derived.WalkSmall
import Derived.Deep.OwnRows
namespace Go.Proofs.YtjbdgbdcnjopkaaGreatDoor
open Go.RowKit Tryz
set_option linter.all false
set_option maxRecDepth 100000
set_option maxHeartbeats 4000000
theorem beqn {α:Type}[BEq α] [LawfulBEq α] {a b:α}(h:a≠b):(a==b)=false:=beq_eq_false_iff_ne.2 h
theorem gEg {α:Type}{l:List α}{i:Nat}(h:i<l.length):l[i]?=some l[i]:=List.getElem?_eq_getElem h
theorem gEs {α:Type}{l:List α}{i:Nat}{a:α}:l[i]?=some a↔∃h:i<l.length,l[i]=a:=List.getElem?_eq_some_iff
theorem gMo {α:Type}{l:List α}{i:Nat}{a:α}(h:l[i]?=some a):a∈l:=List.mem_of_getElem? h
theorem gAl {α:Type}{k l:List α}{i:Nat}(h:i<k.length):(k++l)[i]?=k[i]?:=List.getElem?_append_left h
theorem nLr (n:Nat):n≤n:=Nat.le_refl n
theorem ai9{x k:Nat}(e:x=k):((x:Int)==0)=(k==0)/\((x:Int)==1)=(k==1)/\((x:Int)==2)=(k==2)/\((x:Int)==3)=(k==3)/\((x:Int)==4)=(k==4)/\((x:Int)==5)=(k==5)/\((x:Int)==6)=(k==6)/\((x:Int)==7)=(k==7)/\((x:Int)==8)=(k==8)/\((x:Int)==9)=(k==9)/\((x:Int)==10)=(k==10)/\((x:Int)==11)=(k==11)/\((x:Int)==12)=(k==12)/\((x:Int)==13)=(k==13)/\((x:Int)==14)=(k==14)/\((x:Int)==15)=(k==15)/\((x:Int)==16)=(k==16)/\((x:Int)==17)=(k==17):=by subst e;refine ⟨?_,?_,?_,?_,?_,?_,?_,?_,?_,?_,?_,?_,?_,?_,?_,?_,?_,?_⟩<;>(rw[Bool.eq_iff_iff];simp<;>omega)
theorem aja{α:Type}(a:α):∃b,a=b:=⟨a,rfl⟩
abbrev ajb:=@List.length_append.{0}
abbrev ajc:=@if_neg.{1}
abbrev ajd:=@if_pos.{1}
abbrev aje:=@Array.getElem?_setIfInBounds_ne.{0}
abbrev ajf:=@Array.getElem?_setIfInBounds_self_of_lt.{0}
abbrev ajg:=@Option.map_eq_some_iff.{0,0}
abbrev ajh:=@IntWalk.i32_left
abbrev aji:=@IntWalk.i64_left
abbrev ajj:=@World.ownsRow_nil
abbrev ajk:=@List.getLast?_eq_getElem?.{0}
abbrev ajl:=@Nat.zero_le
abbrev ajm:=@List.mem_of_getLast?.{0}
abbrev ajn:=@List.getElem_append_left.{0}
abbrev ajo:=@List.getElem_append_right.{0}
abbrev ajp:=@List.getElem?_eq_none.{0}
abbrev ajq:=@List.length_take.{0}
abbrev ajr:=@List.length_cons.{0}
abbrev ajs:=@List.getElem?_append_right.{0}
abbrev ajt:=@beq_eq_false_iff_ne.{0}
abbrev aju:=@List.take_append_of_le_length.{0}
abbrev ajv:=@List.length_nil.{0}
abbrev ajw:=@List.getElem_mem.{0}
abbrev ajx:=@Nat.zero_add
abbrev ajy:=@List.mem_append.{0}
abbrev ajz:=@World.size_alloc
abbrev ajA:=@Nat.lt_of_lt_of_le
abbrev ajB:=@List.take_of_length_le.{0}
abbrev ajC:=@Nat.mul_comm
abbrev ajD:=@Option.isSome_iff_exists.{0}
abbrev ajE:=@Nat.le_trans
abbrev ajF:=@Array.length_toList.{0}
abbrev ajG:=@List.mem_cons.{0}
abbrev ajH:=@Nat.lt_of_le_of_lt
abbrev ajI:=@List.getElem?_take_of_lt.{0}
abbrev ajJ:=@Nat.le_of_eq
abbrev ajK:=@World.cell?_of_block
abbrev Er:=Nat×Nat
def bnd{α β:Type}(x:Except Er α)(f:α->Except Er β):Except Er β:=
 match x with
 |.ok a=>f a
 |.error e=>.error e
@[simp] theorem aM{α β:Type}(a:α)(f:α->Except Er β):bnd (.ok a) f=f a:=rfl
@[simp] theorem aW{α β:Type}(e:Er)(f:α->Except Er β):bnd (.error e) f=.error e:=rfl
def fe(bs:List UInt8)(p:Nat):Except Er Nat:=
 match bs[p]? with
 |some b=>.ok b.toNat
 |none=>.error (2,bs.length)
def bN(bs:List UInt8)(p lo hi:Nat):Except Er Nat:=
 bnd (fe bs p) fun n=>if n<lo\/hi<n then .error (2,p) else .ok n
def eH(bs:List UInt8)(p lo hi:Nat):Except Er Nat:=
 bnd (fe bs p) fun h=>bnd (fe bs (p+1)) fun l=>if 256*h+l<lo\/hi<256*h+l then .error (2,p) else .ok (256*h+l)
def dm(bs:List UInt8):Nat->Nat->Except Er (List Nat)
 |0,_=>.ok []
 |k+1,p=>bnd (bN bs p 1 2) fun t=>bnd (dm bs k (p+1)) fun l=>.ok (t::l)
def eO(bs:List UInt8)(p most:Nat):Except Er (List Nat):=
 bnd (bN bs p 0 most) fun k=>dm bs k (p+1)
abbrev Sig:=List Nat×List Nat
def rZ(bs:List UInt8)(p:Nat):Except Er (Sig×Nat):=
 bnd (eO bs p 6) fun ts=>bnd (eO bs (p+1+ts.length) 3) fun gs=>.ok ((ts,gs),p+1+ts.length+1+gs.length)
def di(bs:List UInt8):Nat->Nat->Except Er (List Sig×Nat)
 |0,p=>.ok ([],p)
 |k+1,p=>bnd (rZ bs p) fun s=>bnd (di bs k s.2) fun l=>.ok (s.1::l.1,l.2)
structure ck where
 sig:Nat
 ai:List Nat
 ax:Nat
 code:List UInt8
def vx(bs:List UInt8)(p len:Nat):Except Er (List UInt8):=
 if bs.length-p<len then .error (2,bs.length) else .ok ((bs.drop p).take len)
def lP(bs:List UInt8)(nsig p:Nat):Except Er (ck×Nat):=
 bnd (bN bs p 0 (nsig-1)) fun s=>bnd (eO bs (p+1) 8) fun ls=>
 bnd (eH bs (p+1+1+ls.length) 1 400) fun len=>
 bnd (vx bs (p+1+1+ls.length+2) len) fun c=>
 .ok ({sig:=s,ai:=ls,ax:=p+1+1+ls.length+2,code:=c},p+1+1+ls.length+2+len)
def d9(bs:List UInt8)(nsig:Nat):Nat->Nat->Except Er (List ck×Nat)
 |0,p=>.ok ([],p)
 |k+1,p=>bnd (lP bs nsig p) fun f=>bnd (d9 bs nsig k f.2) fun l=>.ok (f.1::l.1,l.2)
structure bf where
 sigs:List Sig
 funs:List ck
def fT(bs:List UInt8):List Nat->Nat->Except Er Unit
 | [],_=>.ok ()
 |c::l,p=>bnd (bN bs p c c) fun _=>fT bs l (p+1)
def eD(bs:List UInt8):Except Er bf:=
 if 4000<bs.length then .error (1,0) else
 bnd (fT bs [84,82,1] 0) fun _=>
 bnd (bN bs 3 1 20) fun n=>bnd (di bs n 4) fun s=>
 bnd (bN bs s.2 1 20) fun k=>bnd (d9 bs s.1.length k (s.2+1)) fun f=>
 if f.2<bs.length then .error (2,f.2) else .ok {sigs:=s.1,funs:=f.1}
structure K5 where
 au:Nat
 ab:Nat
 aj:Nat
 of:Nat
 ak:Nat
def dS:List (Nat×K5):=
 [(0,⟨0,0,0,0,0⟩),(1,⟨1,0,0,0,0⟩),(2,⟨2,1,0,0,0⟩),(3,⟨3,1,0,0,0⟩),(4,⟨4,1,0,0,0⟩),(5,⟨5,0,0,0,0⟩),(6,⟨6,0,0,0,0⟩),
  (7,⟨7,4,0,0,0⟩),(8,⟨8,4,0,0,0⟩),(9,⟨9,5,0,0,0⟩),(10,⟨10,0,0,0,0⟩),(11,⟨11,2,0,0,0⟩),(12,⟨12,0,0,0,0⟩),(13,⟨13,0,0,0,0⟩),
  (14,⟨14,3,0,0,0⟩),(15,⟨15,3,0,0,0⟩),(16,⟨16,3,0,0,0⟩),(20,⟨17,6,0,0,1⟩),(21,⟨17,7,0,0,2⟩),
  (30,⟨18,0,2,1,1⟩),(31,⟨19,0,2,1,1⟩),(32,⟨20,0,2,1,1⟩),(33,⟨21,0,2,1,1⟩),(34,⟨22,0,2,1,1⟩),(35,⟨23,0,2,1,1⟩),(36,⟨24,0,2,1,1⟩),
  (37,⟨25,0,2,1,1⟩),(38,⟨26,0,2,1,1⟩),(39,⟨27,0,2,1,1⟩),(40,⟨28,0,2,1,1⟩),(41,⟨29,0,2,1,1⟩),(42,⟨30,0,1,1,1⟩),
  (50,⟨18,0,2,2,2⟩),(51,⟨19,0,2,2,2⟩),(52,⟨20,0,2,2,2⟩),(53,⟨21,0,2,2,2⟩),(54,⟨22,0,2,2,2⟩),(55,⟨23,0,2,2,2⟩),(56,⟨24,0,2,2,2⟩),
  (57,⟨25,0,2,2,2⟩),(58,⟨26,0,2,2,2⟩),(59,⟨27,0,2,2,2⟩),(60,⟨28,0,2,2,1⟩),(61,⟨29,0,2,2,1⟩),(62,⟨30,0,1,2,1⟩),
  (70,⟨31,0,1,2,1⟩),(71,⟨32,0,1,1,2⟩)]
def cr(b:Nat):Option K5:=dS.lookup b
structure aX where
 aa:K5
 idx:List Nat
 num:Int
 next:Nat
def cy(l:List UInt8):Nat:=l.foldl (fun n b=>256*n+b.toNat) 0
def signed(bits n:Nat):Int:=if n<2 ^ (bits-1) then (n:Int) else (n:Int)-2 ^ bits
def cn(c:List UInt8)(p k:Nat):Option (List UInt8):=if c.length<p+k then none else some ((c.drop p).take k)
def bq(c:List UInt8)(p:Nat)(what:Nat):Option (List Nat×Int×Nat):=
 if what=1\/what=2\/what=3\/what=4 then
  (cn c p 1).map fun l=>(l.map (·.toNat),0,p+1)
 else if what=5 then
  match cn c p 1 with
  |some [b]=>if 10<b.toNat then none else (cn c (p+1) (b.toNat+1)).map fun l=>(l.map (·.toNat),0,p+1+(b.toNat+1))
  |_=>none
 else if what=6 then (cn c p 4).map fun l=>([],signed 32 (cy l),p+4)
 else if what=7 then (cn c p 8).map fun l=>([],signed 64 (cy l),p+8)
 else some ([],0,p)
def bJ(c:List UInt8)(p:Nat):Option aX:=
 match cn c p 1 with
 |some [b]=>
  match cr b.toNat with
  |none=>none
  |some k=>(bq c (p+1) k.ab).map fun r=>{aa:=k,idx:=r.1,num:=r.2.1,next:=r.2.2}
 |_=>none
variable {F:Fence}{n:Nat}{P:Program}
def AA(P:Program)(l:Nat)(R:Ending->World->Prop):Exit->Act->World->Prop
 |.normal,_,w=>∃v w',(Instr.endRound l none).run P w=.ok v w'/\R (.returned v) w'
 |.panic chain,a,w=>a.defers=[]/\R (.panicked chain) w
 |_,_,_=>False
theorem ql{l:Nat}{f:FuncId}{fn:Func}{tmps:Array Value}{assign body:Code}{w:World}{R:Ending->World->Prop}(hF:F.fn f)(xQ:P.funcs[f]?=some fn)(h:assign.wpIn (F.inRound l) n P (Exit.then (fun a₁ w₁=>∃w₂,(Instr.beginRound l).run P w₁=.ok () w₂/\body.wpIn (F.inRound l) n P (AA P l R) a₁ w₂) (fun _ _ _=>False)) {tmps:=tmps,defers:=[]} w):RoundIn F n P l f tmps assign body w R:=by
 refine⟨hF,fun c cs hr=>?_⟩
 let b:Frame:={(default:Frame) with fn:=f,kind:=.normal,roundOf:=some l}
 have Ev:Frame.round l f tmps assign body .normal=b.atR {tmps:=tmps,defers:=[]} [.code assign,.beginRound,.code body]:=by simp[Frame.round,Frame.atR,b]
 have Ph:(F.inRound l).room ((c::cs).length+1+n):=hr;have AB:(F.inRound l).fn b.fn:=hF;obtain⟨e,a₁,w₁,hq,Mt⟩:=h b [.beginRound,.code body] (c::cs) rfl AB Ph;rw[<-Ev]at Mt;cases e with
 |normal=>
  obtain⟨w₂,Ta,Ey⟩:=hq;have s1:StepsIn (Machine.fenced P (F.inRound l)) P (lone (b.atR a₁ [.beginRound,.code body]) (c::cs) w₁) (lone (b.atR a₁ [.code body]) (c::cs) w₂):=
   .one (fenced_calm (fr:=b.atR a₁ [.beginRound,.code body]) AB Ph rfl) (stepR_beginRound rfl Ta)
  obtain⟨e₂,a₂,w₃,hq₂,harr₂⟩:=Ey b [] (c::cs) rfl AB Ph;cases e₂ with
  |normal=>
   obtain⟨v,w₄,IQ,hR⟩:=hq₂;exact⟨.returned v,w₄,hR,(StepsIn.trans Mt s1).trans (StepsIn.trans harr₂ (.one (fenced_calm (fr:=b.atR a₂ []) AB Ph rfl) (stepR_round_end rfl rfl IQ)))⟩
  |ret=>exact hq₂.elim
  |exit id=>exact hq₂.elim
  |goto t=>exact hq₂.elim
  |panic chain=>
   obtain⟨hd,hR⟩:=hq₂;obtain⟨todo,hs⟩:=harr₂;have hl:({b.atR a₂ todo with mode:=.panicking chain}:Frame).leaving P w₃ (.panicked chain):=⟨rfl,hd,fn,xQ⟩;exact⟨.panicked chain,w₃,hR,(StepsIn.trans Mt s1).trans (StepsIn.trans hs (.one (fenced_leaving (F:=F.inRound l) AB Ph hl) (step_leave_panicked hl)))⟩
  |outgrown=>exact hq₂.elim
 |exit id=>exact hq.elim
 |goto t=>exact hq.elim
 |ret=>exact hq.elim
 |panic chain=>exact hq.elim
 |outgrown=>exact hq.elim
def Ez(I:World->Prop)(Ip:List PanicEntry->World->Prop)(W:World):Exit->Act->World->Prop
 |.normal,_,W'=>KeepsOthers W W'/\I W'
 |.panic ch,a,W'=>KeepsOthers W W'/\a.defers=[]/\Ip ch W'
 |_,_,_=>False
theorem rF{g:Operand}{ps:Array Tmp}{assign body:Code}{Q:Exit->Act->World->Prop}{a:Act}{w:World}(R1:F.round=none) (h1:1<=n) {gf:Nat}{lb:Array Value} (hg:a.eval g=.func (.func gf) #[] lb) (Ze:F.fn gf) (eg:∀args w,(callFunc gf args).run P w=.ok (.enter gf args) w){N:Nat}{encs:Nat->Array Value} (Ox:∀k,(encs k).size=ps.size)(I:Nat->World->Prop) (Ip:List PanicEntry->World->Prop)(Pj:∀(l:Nat) (J:Nat->World->Prop) (Jp:List PanicEntry->World->Prop) (W:World),(∀k W,J k W->I k W) -> (∀k W,k<N->J (k+1) W->YieldAt F (n-1-1) P l (encs k) W fun e W'=>(e=.returned (.bool true)/\J k W')\/(∃ch,e=.panicked ch/\Jp ch W'))->J N W -> CallsIn F (n-1) P gf (#[.func (.yield l) #[] #[]]++lb) W fun e W'=>(∃v,e=.returned v/\J 0 W')\/(∃ch,e=.panicked ch/\Jp ch W'))(hI:∀k W r o o',I k W->w.heap.size<=r->W.heap[r]?=some o->o.isCells=false->I k (W.putObj r o'))(h0:∀o o',I N ((w.alloc o).alloc o')) (a₁:Nat->Act)(IR:∀(l k:Nat) (W:World) (K:Act->World->Prop),K (a₁ k) W -> assign.wpIn (F.inRound l) (n-1-1) P (Exit.then K (fun _ _ _=>False)) {tmps:=(ps.zip (encs k)).foldl (fun t (p,v)=>t.setIfInBounds p v) a.tmps,defers:=[]} W)(Ey:∀(l k:Nat) (W:World),k<N->I (k+1) W->body.wpIn (F.inRound l) (n-1-1) P (Ez (I k) Ip W) (a₁ k) W)(Pk:∀(D:Nat) (W:World),w.heap.size<=D->I 0 W->W.heap[D]?=some (.deferred (some []))->Q .normal {a with defers:={target:=.collected D,args:=#[]}::a.defers} W)(Tb:∀(D:Nat) (ch:List PanicEntry) (W:World),w.heap.size<=D->Ip ch W->W.heap[D]?=some (.deferred (some []))->Q (.panic ch) {a with defers:={target:=.collected D,args:=#[]}::a.defers} W)(Tc:∀fn,F.fn fn->∃f,P.funcs[fn]?=some f):(Code.rangeFunc g ps assign body).wpIn F n P Q a w:=by
 refine wpIn_rangeFunc ?_;intro fn xQ;obtain⟨func,Pl⟩:=Tc fn xQ;rw[R1];obtain⟨rec,yu⟩:∃rec:LoopState->Option Code->Loop,rec=fun st pe=>{state:=st,pending:=pe,fn,tmps:=a.tmps,params:=ps,assign,body,defers:=w.heap.size}:=⟨_,rfl⟩;obtain⟨W1,EA⟩:=aja ((w.alloc (.deferred (some []))).alloc (.loop (rec .ready none)));have R3:W1.heap[w.heap.size+1]?=some (.loop (rec .ready none)):=by rw[<-EA];have:=World.alloc_heap_new (w.alloc (.deferred (some []))) (.loop (rec .ready none));rwa [ajz]at this
 have Zf:W1.heap[w.heap.size]?=some (.deferred (some [])):=by rw[<-EA];exact(Below.heap_alloc _ _ _ (by simp)).trans (World.alloc_heap_new w _)
 have Zg:I N W1:=by rw[<-EA];exact h0 _ _
 refine⟨w.heap.size+1,[{target:=.collected w.heap.size,args:=#[]}],W1,{target:=.fn (.func gf) lb,args:=#[.func (.yield (w.heap.size+1)) #[] #[]]},W1,gf,
  #[.func (.yield (w.heap.size+1)) #[] #[]]++lb,W1,?_,?_,?_,?_,fun _=>h1,?_⟩
 ·rw[<-EA,yu];exact run_enterLoop_outer _ _ _ _ _
 ·simp only[resolve,hg];simp[go_sem]
 ·intro f' xR;simp[Target.leads]at xR;subst xR;exact Ze
 ·simp[invoke,go_sem,eg]
 refine(Pj (w.heap.size+1)
  (fun k W=>I k W/\W.heap[w.heap.size+1]?=some (.loop (rec .ready none))/\W.heap[w.heap.size]?=some (.deferred (some [])))
  (fun ch W=>Ip ch W/\W.heap[w.heap.size]?=some (.deferred (some [])))
  W1 (fun k W h=>h.1) ?_ ⟨Zg,R3,Zf⟩).mono ?_
 ·rintro k W hk ⟨hi,hl,hd⟩;have bM:w.heap.size+1<W.heap.size:=(Array.getElem?_eq_some_iff.1 hl).1;have hy:=run_yield (P:=P) (args:=encs k) hl (by rw[yu];exact Ox k);rw[yu]at hy;refine⟨fn,_,assign,body,hy,ql xQ Pl (IR _ k W _ ⟨_,run_beginRound hl (by rw[yu]),?_⟩)⟩;have jD:(W.putObj (w.heap.size+1) (.loop {rec .ready none with state:=.busy})).heap[w.heap.size+1]?=some (.loop {rec .ready none with state:=.busy}):=World.putObj_heap_same bM;have lg:(W.putObj (w.heap.size+1) (.loop {rec .ready none with state:=.busy})).heap[w.heap.size]?=some (.deferred (some [])):=(World.putObj_heap_other (by omega)).trans hd;refine wpIn_mono (Ey _ k _ hk (hI _ _ _ _ _ hi (by omega) hl rfl)) ?_;rintro e a3 W3 hp;cases e with
  |normal=>
   obtain⟨lj,Td⟩:=hp;have Oy:=lj.same _ _ jD rfl;have hr:=run_endRound (P:=P) none Oy;rw[yu]at hr Oy;refine⟨_,_,hr,.inl ⟨rfl,hI _ _ _ _ _ Td (by omega) Oy rfl,?_,(World.putObj_heap_other (by omega)).trans (lj.same _ _ lg rfl)⟩⟩;rw[World.putObj_heap_same (Array.getElem?_eq_some_iff.1 Oy).1,yu];rfl
  |panic ch=>
   obtain⟨lj,Zh,Td⟩:=hp;exact⟨Zh,.inr ⟨ch,rfl,Td,lj.same _ _ lg rfl⟩⟩
  |ret=>exact hp.elim
  |exit id=>exact hp.elim
  |goto t=>exact hp.elim
  |outgrown=>exact hp.elim
 rintro e W2 (⟨v,rfl,hi,hl,hd⟩|⟨ch,rfl,hi,hd⟩)
 ·exact⟨none,_,by have:=run_endLoop (P:=P) hl (by rw[yu];simp);rw[yu]at this;exact this,Pk _ _ (nLr _) (hI _ _ _ _ _ hi (by omega) hl rfl) ((World.putObj_heap_other (by omega)).trans hd)⟩
 exact Tb _ ch _ (nLr _) hi hd
abbrev Blk(w:World)(b:Nat)(c:Array Value)(t:TypeId):Prop:=w.heap[b]?=some (.cells c t (0,0))
theorem Blk.lt{w:World}{b:Nat}{c:Array Value}{t:TypeId}(h:Blk w b c t):b<w.heap.size:=(Array.getElem?_eq_some_iff.1 h).1
theorem Blk.cell{w:World}{b:Nat}{c:Array Value}{t:TypeId}(h:Blk w b c t)(i:Nat):w.cell? ⟨b,i,none⟩=c[i]?:=by simp[World.cell?,h]
theorem Blk.frozen{w:World}{b:Nat}{c:Array Value}{t:TypeId}(h:Blk w b c t)(i:Nat):w.frozen? ⟨b,i,none⟩=false:=by simp[World.frozen?,h]
theorem Blk.new(w:World)(c:Array Value)(t:TypeId):Blk (w.alloc (.cells c t)) w.heap.size c t:=World.alloc_heap_new w _
theorem Blk.alloc{w:World}{b:Nat}{c:Array Value}{t:TypeId}(h:Blk w b c t)(o:Obj):Blk (w.alloc o) b c t:=(Below.heap_alloc w o b h.lt).trans h
theorem Blk.drew{w:World}{b:Nat}{c:Array Value}{t:TypeId}(h:Blk w b c t):Blk w.drew b c t:=h
theorem Blk.set{w:World}{b:Nat}{c:Array Value}{t:TypeId}(h:Blk w b c t)(i:Nat)(v:Value):Blk (w.setCell ⟨b,i,none⟩ v) b (c.setIfInBounds i v) t:=by
 have hl:=h.lt;have h':w.heap[b]=.cells c t (0,0):=by have:=Array.getElem?_eq_some_iff.1 h;exact this.2
 show (w.heap.modify b _)[b]?=_;rw[Array.getElem?_eq_getElem (by rw[Array.size_modify];exact hl),Array.getElem_modify_self,h'];simp
theorem Blk.setOther{w:World}{b:Nat}{c:Array Value}{t:TypeId}(h:Blk w b c t){a:Addr}(v:Value)(ec:b≠a.block):Blk (w.setCell a v) b c t:=(Below.heap_setCell w a v b ec).trans h
theorem Blk.grown{w w':World}{b:Nat}{c:Array Value}{t:TypeId}{row:Option Nat}(h:Blk w b c t)(hg:w.grownBy w' row)(ec:some b≠row):Blk w' b c t:=(hg.block b h.lt ec).trans h
theorem aH(w:World)(row:Option Nat):w.grownBy w row:=⟨rfl,rfl,rfl,nLr _,fun _ _ _=>rfl⟩
theorem aC(w:World)(o:Obj)(row:Option Nat):w.grownBy (w.alloc o) row:=World.grownBy_alloc w o row
theorem aD(w:World)(b i:Nat)(v:Value):w.grownBy (w.setCell ⟨b,i,none⟩ v) (some b):=⟨rfl,rfl,rfl,by simp[World.setCell],fun k _ hk=>Below.heap_setCell _ _ _ _ (fun e=>hk (by simp[e]))⟩
theorem aB{a b c:World}{row:Option Nat}(h:a.grownBy b row)(k:b.grownBy c row):a.grownBy c row:=
 ⟨k.os.trans h.os,k.tape.trans h.tape,k.output.trans h.output,ajE h.size k.size,
  fun i hi ec=>(k.block i (ajA hi h.size) ec).trans (h.block i hi ec)⟩
theorem aE{a b:World}{row:Option Nat}(h:a.grownBy b row):a.grownBy b.drew row:=⟨h.os,h.tape,h.output,h.size,h.block⟩
theorem bd{a b:World}{row:Option Nat}(h:a.grownBy b row)(n:Nat):a.grownBy (b.drewN n) row:=⟨h.os,h.tape,h.output,h.size,h.block⟩
theorem aO{a b c:World}{row:Option Nat}(h:a.grownBy b row){g:Nat}(hg:a.heap.size<=g)(k:b.grownBy c (some g)):a.grownBy c row:=
 ⟨k.os.trans h.os,k.tape.trans h.tape,k.output.trans h.output,ajE h.size k.size,
  fun i hi ec=>(k.block i (ajA hi h.size) (fun e=>by cases e;omega)).trans (h.block i hi ec)⟩
theorem Below.of_grown{w w':World}{r B:Nat}(h:w.grownBy w' (some r))(hr:B<=r)(hB:B<=w.heap.size):Below B w w':=⟨h.os,h.tape,h.output,h.size,fun k hk=>h.block k (by omega) (fun e=>by cases e;omega)⟩
abbrev ep(e:Er):Ending:=.panicked [{v:=.iface 161 (.agg #[.int .i64 e.1,.int .i64 e.2]),recovered:=false}]
def fh{α:Type}(x:Except Er α)(good:α->Ending->World->Prop)(e:Ending)(w':World):Prop:=
 match x with
 |.ok a=>good a e w'
 |.error er=>e=ep er
theorem aY{α:Type}{x:Except Er α}{a:α}(h:x=.ok a){good:α->Ending->World->Prop}{e:Ending}{w':World}(hg:good a e w'):fh x good e w':=by subst h;exact hg
theorem aK{α:Type}{x:Except Er α}{er:Er}(h:x=.error er){good:α->Ending->World->Prop}{e:Ending}{w':World}(hg:e=ep er):fh x good e w':=by subst h;exact hg
theorem fh.ok{α:Type}{x:Except Er α}{a:α}(h:x=.ok a){good:α->Ending->World->Prop}{e:Ending}{w':World}(hg:fh x good e w'):good a e w':=by subst h;exact hg
theorem fh.err{α:Type}{x:Except Er α}{er:Er}(h:x=.error er){good:α->Ending->World->Prop}{e:Ending}{w':World}(hg:fh x good e w'):e=ep er:=by subst h;exact hg
structure Rd(w:World)(r:Nat)(a:Option Addr)(cap:Nat)(bs:List UInt8)(p:Nat):Prop where
 blk:Blk w r #[.slice a bs.length cap,.int .i64 p] 172
 bytes:∀i (h:i<bs.length),∃b o,a=some ⟨b,o,none⟩/\b<r/\w.cell? ⟨b,o+i,none⟩=some (.int .u8 bs[i].toNat)
 small:bs.length<=4000
 room:bs.length<=cap
 inside:p<=bs.length
theorem Rd.moved{w w':World}{r:Nat}{a:Option Addr}{cap:Nat}{bs:List UInt8}{p p':Nat}(h:Rd w r a cap bs p)(hg:w.grownBy w' (some r))(hb:Blk w' r #[.slice a bs.length cap,.int .i64 p'] 172) (hp:p'<=bs.length):Rd w' r a cap bs p':=
 ⟨hb,fun i hi=>by
  obtain⟨b,o,e,bM,hc⟩:=h.bytes i hi
  refine⟨b,o,e,bM,?_⟩
  rw[ajK (w:=w) (hg.block b (Nat.lt_trans bM h.blk.lt) (by simp;omega))];exact hc,h.small,h.room,hp⟩
theorem ib(w:World)(r:Option Addr)(p:Nat):Calls prog 108 #[.pointer r,.int .i64 p] w fun e w'=>e=ep (2,p)/\w'=w:=by go_enter func108,ntmps108;go_wp2;exact⟨rfl,rfl,rfl⟩
theorem jh{w:World}{r:Nat}{a:Option Addr}{cap:Nat}{bs:List UInt8}{p:Nat}(h:Rd w r a cap bs p)(hp:p<bs.length):Calls prog 143 #[.pointer (some ⟨r,0,none⟩)] w fun e w'=>e=.returned (.int .i64 bs[p].toNat)/\w.grownBy w' (some r)/\Rd w' r a cap bs (p+1):=by
 have hs:=h.small;have c0:=h.blk.cell 0;have c1:=h.blk.cell 1;have f1:=h.blk.frozen 1;obtain⟨b,o,rfl,bM,hc⟩:=h.bytes p hp;have ec:b≠r:=by omega
 simp at c0 c1;have BG:(bs[p].toNat:Int)<=255:=by have:=bs[p].toNat_lt;omega
 have RY:0<=(bs[p].toNat:Int):=by omega
 go_enter func143,ntmps143;go_wp2;go_region
 go_wp2;go_region
 go_wp2;go_ret;have hg:w.grownBy (w.setCell ⟨r,1,none⟩ (.int .i64 (p+1))).drew.drew (some r):=aE (aE (aD _ _ _ _));exact⟨rfl,hg,h.moved hg (Blk.drew (Blk.drew (by have:=h.blk.set 1 (.int .i64 (p+1));simpa using this))) (by omega)⟩
theorem sh{w:World}{r:Nat}{a:Option Addr}{cap:Nat}{bs:List UInt8}{p:Nat}(h:Rd w r a cap bs p)(hp:¬p<bs.length):Calls prog 143 #[.pointer (some ⟨r,0,none⟩)] w fun e w'=>e=ep (2,bs.length)/\w.grownBy w' (some r):=by
 have hs:=h.small;have c0:=h.blk.cell 0;have c1:=h.blk.cell 1;have hi:=h.inside;simp at c0 c1;obtain rfl:p=bs.length:=by omega
 go_enter func143,ntmps143;go_wp2;go_region
 go_wp2_with (go_at_call 108;refine(ib _ _ _).mono ?_;rintro e w' ⟨rfl,rfl⟩)
 exact⟨rfl,rfl,aE (aH _ _)⟩
theorem qg{w:World}{r:Nat}{a:Option Addr}{cap:Nat}{bs:List UInt8}{p lo hi n:Nat}(h:Rd w r a cap bs p)(hn:bN bs p lo hi=.ok n):Calls prog 105 #[.pointer (some ⟨r,0,none⟩),.int .i64 lo,.int .i64 hi] w fun e w'=>e=.returned (.int .i64 n)/\w.grownBy w' (some r)/\Rd w' r a cap bs (p+1):=by
 have hp:p<bs.length:=by apply Classical.byContradiction;intro hp;simp[bN,fe,ajp (Nat.le_of_not_lt hp)]at hn
 obtain⟨h1,h2,rfl⟩:lo<=bs[p].toNat/\bs[p].toNat<=hi/\n=bs[p].toNat:=by
  simp only[bN,fe,gEg hp,aM]at hn;split at hn
  ·cases hn
  cases hn;omega
 have c1:=h.blk.cell 1;simp at c1;have g1:(lo:Int)<=bs[p].toNat:=by omega
 have g2:(bs[p].toNat:Int)<=hi:=by omega
 go_enter func105,ntmps105;go_wp2_with (go_at_call 143;refine(jh h hp).mono ?_;rintro e w' ⟨rfl,hg,hr⟩)
 go_ret;exact⟨rfl,hg,hr⟩
theorem oE{w:World}{r:Nat}{a:Option Addr}{cap:Nat}{bs:List UInt8}{p lo hi:Nat}{er:Er}(h:Rd w r a cap bs p)(hn:bN bs p lo hi=.error er):Calls prog 105 #[.pointer (some ⟨r,0,none⟩),.int .i64 lo,.int .i64 hi] w fun e w'=>e=ep er/\w.grownBy w' (some r):=by
 have c1:=h.blk.cell 1;simp at c1;by_cases hp:p<bs.length
 ·obtain⟨h1,rfl⟩:(bs[p].toNat<lo\/hi<bs[p].toNat)/\er=(2,p):=by
   simp only[bN,fe,gEg hp,aM]at hn;split at hn
   ·cases hn;exact⟨by assumption,rfl⟩
   cases hn
  by_cases Id:bs[p].toNat<lo
  ·have g1:(bs[p].toNat:Int)<lo:=by omega
   go_enter func105,ntmps105;go_wp2_with (first|(go_at_call 143;refine(jh h hp).mono ?_;rintro e w' ⟨rfl,hg,hr⟩)|(go_at_call 108;refine(ib _ _ _).mono ?_;rintro e w' ⟨rfl,rfl⟩))
   exact⟨rfl,rfl,hg⟩
  have g1:(lo:Int)<=bs[p].toNat:=by omega
  have g2:(hi:Int)<bs[p].toNat:=by omega
  go_enter func105,ntmps105;go_wp2_with (first|(go_at_call 143;refine(jh h hp).mono ?_;rintro e w' ⟨rfl,hg,hr⟩)|(go_at_call 108;refine(ib _ _ _).mono ?_;rintro e w' ⟨rfl,rfl⟩))
  exact⟨rfl,rfl,hg⟩
 obtain rfl:er=(2,bs.length):=by simp[bN,fe,ajp (Nat.le_of_not_lt hp)]at hn;exact hn.symm
 go_enter func105,ntmps105;go_wp2_with (go_at_call 143;refine(sh h hp).mono ?_;rintro e w' ⟨rfl,hg⟩)
 exact⟨rfl,rfl,hg⟩
theorem BH(x y:Nat)(hx:x<256)(hy:y<256):bits .or .i64 ((x:Int)*256) (y:Int)=((256*x+y:Nat):Int):=by
 have e1:BitVec.ofInt 64 ((x:Int)*256)=BitVec.ofNat 64 (2 ^ 8*x):=by rw[<-BitVec.ofInt_natCast];congr 1;omega
 have e2:BitVec.ofInt 64 (y:Int)=BitVec.ofNat 64 y:=BitVec.ofInt_natCast ..;have e3:((BitVec.ofNat 64 (2 ^ 8*x)) ||| (BitVec.ofNat 64 y)).toNat=256*x+y:=by rw[BitVec.toNat_or,BitVec.toNat_ofNat,BitVec.toNat_ofNat,Nat.mod_eq_of_lt (by omega),Nat.mod_eq_of_lt (by omega),<-Nat.two_pow_add_eq_or_of_lt (i:=8) (by omega) x]
 show IntKind.i64.wrap ((BitVec.ofInt 64 ((x:Int)*256)) ||| (BitVec.ofInt 64 (y:Int))).toNat=_;rw[e1,e2,e3];simp only[IntKind.wrap,IntKind.bits,IntKind.signed];simp;omega
theorem si{w:World}{r:Nat}{a:Option Addr}{cap:Nat}{bs:List UInt8}{p lo hi n:Nat}(h:Rd w r a cap bs p)(hn:eH bs p lo hi=.ok n):Calls prog 144 #[.pointer (some ⟨r,0,none⟩),.int .i64 lo,.int .i64 hi] w fun e w'=>e=.returned (.int .i64 n)/\w.grownBy w' (some r)/\Rd w' r a cap bs (p+1+1):=by
 have hp:p<bs.length:=by apply Classical.byContradiction;intro hp;simp[eH,fe,ajp (Nat.le_of_not_lt hp)]at hn
 have ir:p+1<bs.length:=by apply Classical.byContradiction;intro ir;simp[eH,fe,ajp (Nat.le_of_not_lt ir),gEg hp]at hn
 obtain⟨h1,h2,e⟩:lo<=256*bs[p].toNat+bs[p+1].toNat/\256*bs[p].toNat+bs[p+1].toNat<=hi/\256*bs[p].toNat+bs[p+1].toNat=n:=by
  simp only[eH,fe,gEg hp,gEg ir,aM]at hn;split at hn
  ·cases hn
  cases hn;omega
 have oF:=BH bs[p].toNat bs[p+1].toNat bs[p].toNat_lt bs[p+1].toNat_lt;rw[e]at oF h1 h2;have c1:=h.blk.cell 1;simp at c1;have BG:(bs[p].toNat:Int)<=255:=by have:=bs[p].toNat_lt;omega
 have RY:0<=(bs[p].toNat:Int):=by omega
 have g1:(lo:Int)<=n:=by omega
 have g2:(n:Int)<=hi:=by omega
 clear e hn h1 h2;go_enter func144,ntmps144;go_wp2_with fail;refine(jh h hp).mono ?_;rintro e w' ⟨rfl,hg,hr⟩;go_wp2_with fail;refine(jh hr ir).mono ?_;rintro e w2 ⟨rfl,aP,lM⟩;go_wp2;go_ret;exact⟨rfl,aB hg aP,lM⟩
theorem yg{w:World}{r:Nat}{a:Option Addr}{cap:Nat}{bs:List UInt8}{p lo hi:Nat}{er:Er}(h:Rd w r a cap bs p)(hn:eH bs p lo hi=.error er):Calls prog 144 #[.pointer (some ⟨r,0,none⟩),.int .i64 lo,.int .i64 hi] w fun e w'=>e=ep er/\w.grownBy w' (some r):=by
 have c1:=h.blk.cell 1;simp at c1;by_cases hp:p<bs.length
 ·have BG:(bs[p].toNat:Int)<=255:=by have:=bs[p].toNat_lt;omega
  have RY:0<=(bs[p].toNat:Int):=by omega
  by_cases ir:p+1<bs.length
  ·obtain⟨h1,rfl⟩:(256*bs[p].toNat+bs[p+1].toNat<lo\/hi<256*bs[p].toNat+bs[p+1].toNat)/\er=(2,p):=by
    simp only[eH,fe,gEg hp,gEg ir,aM]at hn;split at hn
    ·cases hn;exact⟨by assumption,rfl⟩
    cases hn
   clear hn;have oF:=BH bs[p].toNat bs[p+1].toNat bs[p].toNat_lt bs[p+1].toNat_lt;obtain⟨n,e⟩:=aja (256*bs[p].toNat+bs[p+1].toNat);rw[e]at oF h1;clear e;by_cases Id:n<lo
   ·have g1:(n:Int)<lo:=by omega
    go_enter func144,ntmps144;go_wp2_with fail;refine(jh h hp).mono ?_;rintro e w' ⟨rfl,hg,hr⟩;go_wp2_with fail;refine(jh hr ir).mono ?_;rintro e w2 ⟨rfl,aP,lM⟩;go_wp2_with (go_at_call 108;refine(ib _ _ _).mono ?_;rintro e w' ⟨rfl,rfl⟩)
    exact⟨rfl,rfl,aB hg aP⟩
   have g1:(lo:Int)<=n:=by omega
   have g2:(hi:Int)<n:=by omega
   go_enter func144,ntmps144;go_wp2_with fail;refine(jh h hp).mono ?_;rintro e w' ⟨rfl,hg,hr⟩;go_wp2_with fail;refine(jh hr ir).mono ?_;rintro e w2 ⟨rfl,aP,lM⟩;go_wp2_with (go_at_call 108;refine(ib _ _ _).mono ?_;rintro e w' ⟨rfl,rfl⟩)
   exact⟨rfl,rfl,aB hg aP⟩
  obtain rfl:er=(2,bs.length):=by simp[eH,fe,ajp (Nat.le_of_not_lt ir),gEg hp]at hn;exact hn.symm
  go_enter func144,ntmps144;go_wp2_with fail;refine(jh h hp).mono ?_;rintro e w' ⟨rfl,hg,hr⟩;go_wp2_with fail;refine(sh hr ir).mono ?_;rintro e w2 ⟨rfl,aP⟩;go_wp2;exact⟨rfl,rfl,aB hg aP⟩
 obtain rfl:er=(2,bs.length):=by simp[eH,fe,ajp (Nat.le_of_not_lt hp)]at hn;exact hn.symm
 go_enter func144,ntmps144;go_wp2_with (go_at_call 143;refine(sh h hp).mono ?_;rintro e w' ⟨rfl,hg⟩)
 exact⟨rfl,rfl,hg⟩
def gN(lo:Nat)(w:World)(v:Value)(xs:List Nat):Prop:=
 ∃g cap c,v=.slice (some ⟨g,0,none⟩) xs.length cap/\lo<=g/\Blk w g c 3/\∀i (h:i<xs.length),c[i]?=some (.int .i64 xs[i])
def dC(lo:Nat)(w w':World):Prop:=∀k,lo<=k->k<w.heap.size->w'.heap[k]?=w.heap[k]?
theorem dC.refl(lo:Nat)(w:World):dC lo w w:=fun _ _ _=>rfl
theorem dC.trans{lo:Nat}{a b c:World}(h:dC lo a b)(k:dC lo b c)(hs:a.heap.size<=b.heap.size):dC lo a c:=fun i hi hl=>(k i hi (ajA hl hs)).trans (h i hi hl)
theorem dC.of_grown{lo:Nat}{w w':World}{row:Option Nat}(h:w.grownBy w' row)(hr:∀b,row=some b->b<lo):dC lo w w':=fun k hk hl=>h.block k hl (fun e=>by have:=hr k e.symm;omega)
theorem gN.kept{lo:Nat}{w w':World}{v:Value}{xs:List Nat}(h:gN lo w v xs)(k:dC lo w w'):gN lo w' v xs:=by obtain⟨g,cap,c,rfl,hg,hb,hc⟩:=h;exact⟨g,cap,c,rfl,hg,(k g hg hb.lt).trans hb,hc⟩
theorem gN.mono{lo lo':Nat}{w:World}{v:Value}{xs:List Nat}(h:gN lo w v xs)(k:lo'<=lo):gN lo' w v xs:=by obtain⟨g,cap,c,rfl,hg,hb,hc⟩:=h;exact⟨g,cap,c,rfl,ajE k hg,hb,hc⟩
theorem Rd.moved'{w w':World}{r g:Nat}{a:Option Addr}{cap:Nat}{bs:List UInt8}{p:Nat}(h:Rd w r a cap bs p)(hg:w.grownBy w' (some g))(hr:r<g):Rd w' r a cap bs p:=
 ⟨h.blk.grown hg (by simp;omega),fun i hi=>by
  obtain⟨b,o,e,bM,hc⟩:=h.bytes i hi
  refine⟨b,o,e,bM,?_⟩
  rw[ajK (w:=w) (hg.block b (Nat.lt_trans bM h.blk.lt) (by simp;omega))];exact hc,h.small,h.room,h.inside⟩
theorem ml:(prog.info? 3).map (fun i=>(i.zero,i.size,i.bytes))=some (some (.int .i64 0),1,8):=by kernel_rfl
def ab(l:List Nat)(x:Except Er (List Nat)):Except Er (List Nat):=bnd x fun l'=>.ok (l++l')
theorem yh{bs:List UInt8}{l:List Nat}{k p:Nat}{t:Nat}(h:bN bs p 1 2=.ok t):ab l (dm bs (k+1) p)=ab (l++[t]) (dm bs k (p+1)):=by simp only[dm,h,aM,ab];cases dm bs k (p+1) <;> simp
theorem gB{w:World}{r:Nat}{a:Option Addr}{cap:Nat}{bs:List UInt8}{p most:Nat}(h:Rd w r a cap bs p):Calls prog 106 #[.pointer (some ⟨r,0,none⟩),.int .i64 most] w fun e w'=>w.grownBy w' (some r) /\ fh (eO bs p most) (fun l e w'=>∃v,e=.returned v/\gN w.heap.size w' v l/\Rd w' r a cap bs (p+1+l.length)) e w':=by
 cases hn:bN bs p 0 most with
 |error er=>
  have ht:eO bs p most=.error er:=by simp[eO,hn]
  go_enter func106,ntmps106;go_wp2_with (go_at_call 105;refine(oE h hn).mono ?_;rintro e w' ⟨rfl,hg⟩)
  exact⟨rfl,hg,aK ht rfl⟩
 |ok n=>
  have ht:eO bs p most=ab [] (dm bs n (p+1)):=by simp[eO,hn,ab];cases dm bs n (p+1) <;> rfl
  rw[ht];clear ht;have WJ:n<=255:=by
   simp only[bN,fe]at hn;split at hn
   ·simp only[aM]at hn;split at hn
    ·cases hn
    cases hn;rename_i b _ _;have:=b.toNat_lt;omega
   simp at hn
  have um:=run_make_row' (P:=prog) 44 3 (.int .i64 0) 8 underlying44 ml rfl .i64 .i64 n (by omega) (by omega);go_enter func106,ntmps106;go_wp2_with (go_at_call 105;refine(qg h hn).mono ?_;rintro e w1 ⟨rfl,hg,hr⟩)
  have Pb:r<w1.heap.size:=hr.blk.lt;go_loopw [13] (fun i wr=>∃(k:Nat) (l:List Nat) (c:Array Value),i=.int .i64 k/\k<=n/\l.length=k/\Hid (ab [] (dm bs n (p+1))=ab l (dm bs (n-k) (p+1+k))) /\
    w.grownBy wr (some r)/\Rd wr r a cap bs (p+1+k)/\Blk wr w1.heap.size c 3/\c.size=n/\∀i (h:i<l.length),c[i]?=some (.int .i64 l[i])) (fun i _=>n-(intOf i).toNat)
  case atStart=>
   exact⟨0,[],_,rfl,ajl _,rfl,rfl,aB hg (aC _ _ _),hr.moved (aC _ _ _) (hr.blk.alloc _) hr.inside,Blk.new _ _ _,by simp[madeCells],fun i h=>by simp at h⟩
  case round=>
   obtain⟨k,l,c,rfl,hk,hl,HE,bU,nM,eF,gy,hc⟩:=hrel;by_cases bM:k<n
   ·obtain⟨m,hm⟩:∃m,n-k=m+1:=⟨n-k-1,by omega⟩;have hE:=HE.out;rw[hm]at hE;clear HE;cases hx:bN bs (p+1+k) 1 2 with
    |error er=>
     have d8:Hid (ab [] (dm bs n (p+1))=.error er):=by show _=_;rw[hE];simp[dm,hx,ab]
     clear hE hm;go_wp2_with (go_at_call 105;refine(oE nM hx).mono ?_;rintro e w' ⟨rfl,aP⟩)
     exact⟨rfl,aB bU aP,aK d8.out rfl⟩
    |ok t=>
     have d8:Hid (ab [] (dm bs n (p+1))=ab (l++[t]) (dm bs m (p+1+k+1))):=hE.trans (yh hx);clear hE;have HM:Hid _:=hm;clear hm;have RZ:(c[k]?).isSome=true:=by simp[gy,bM]
     obtain⟨old,oG⟩:=Option.isSome_iff_exists.1 RZ;go_wp2_with (go_at_call 105;refine(qg nM hx).mono ?_;rintro e w2 ⟨rfl,aP,lM⟩;have df:=eF.grown aP (by simp;omega);have sj:=(df.cell k).trans oG;have hZ:=df.frozen k)
     have dU:w2.grownBy (w2.setCell ⟨w1.heap.size,k,none⟩ (.int .i64 t)) (some w1.heap.size):=aD _ _ _ _;go_roundw
     case rel=>
      refine⟨k+1,l++[t],c.setIfInBounds k (.int .i64 t),by simp,by omega,by simp[hl],?_,aO (aB bU aP) hg.size dU,?_,df.set _ _,by simp[gy],?_⟩
      ·have e1:n-(k+1)=m:=by have:=HM.out;omega
       show _=_;rw[d8.out,e1];rfl
      ·exact lM.moved' dU Pb
      intro i hi;simp at hi;by_cases e:i=k
      ·subst e;simp[gy,bM,hl]
      rw[aje (Ne.symm e),ajn (by omega)];exact hc i (by omega)
     case measure=>simp[intOf];omega
   obtain rfl:k=n:=by omega
   have d8:ab [] (dm bs k (p+1))=.ok l:=by rw[HE.out];simp[dm,ab]
   go_wp2;go_ret;refine⟨bU,aY d8 ?_⟩;exact⟨_,rfl,⟨w1.heap.size,k,c,by rw[hl];rfl,hg.size,eF,hc⟩,by rw[hl];exact nM⟩
