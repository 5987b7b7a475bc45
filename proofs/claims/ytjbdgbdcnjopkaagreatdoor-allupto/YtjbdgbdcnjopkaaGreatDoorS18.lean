import Derived.Test.YtjbdgbdcnjopkaaGreatDoorS06
namespace Go.Proofs.YtjbdgbdcnjopkaaGreatDoor
open Go.RowKit Tryz
set_option linter.all false
set_option maxRecDepth 100000
set_option maxHeartbeats 4000000
def bx(b:Bool):Int:=if b then 1 else 0
def eE(k:IntKind)(a b:Int):Int:=bits .and k a (k.wrap (b-1))
def cM(k:IntKind)(au:Nat)(a b:Int):Int:=
 if au=18 then k.wrap (a+b) else if au=19 then k.wrap (a-b) else if au=20 then k.wrap (a*b)
 else if au=23 then bits .and k a b
 else if au=24 then bits .or k a b
 else bits .xor k a b
def dR(k:IntKind)(a b:Int):Int×Nat:=
 if b=0 then (0,2) else if b = -1/\a=k.wrap (-a)/\a≠0 then (0,3) else (k.wrap (a.tdiv b),0)
def eJ(a b:Int):Int×Nat:=if b=0 then (0,2) else (a.tmod b,0)
def fy(k:IntKind)(nb:Int)(au:Nat)(a b:Int):Int×Nat:=
 if au=21 then dR k a b else if au=22 then eJ a b
 else if au=26 then (k.wrap (a*2 ^ (eE k b nb).toNat),0)
 else if au=27 then (a / 2 ^ (eE k b nb).toNat,0)
 else if au=28 then (bx (decide (a=b)),0)
 else if au=29 then (bx (decide (a<b)),0)
 else (cM k au a b,0)
def bZ(k:K5)(a b:Int):Int×Nat:=
 if k.of=1 then fy .i32 32 k.au (IntKind.i32.wrap a) (IntKind.i32.wrap b) else fy .i64 64 k.au a b
def kU(au:Nat)(n:Int):Int:=
 if au=30 then bx (decide (n=0)) else if au=31 then IntKind.i32.wrap n else n
structure bS where
 fn:Nat
 next:Nat
 ai:List Int
 af:List Int
abbrev Tg:=Nat×Nat×Nat
def kD(c:bS)(n:Int):bS:={c with af:=c.af++[n]}
def ff(c:bS)(l:List Int):bS:={c with af:=c.af++l}
def kV(c:bS):Option (Int×bS):=
 match c.af.getLast? with
 |none=>none
 |some n=>some (n,{c with af:=c.af.dropLast})
def dE(c:bS)(k:Nat):Option (List Int×bS):=
 if c.af.length<k then none else some (c.af.drop (c.af.length-k),{c with af:=c.af.take (c.af.length-k)})
def qS(c:bS)(t:Tg):Option bS:=
 if c.af.length<t.2.1+t.2.2 then none else some {c with next:=t.1,af:=c.af.take t.2.2++c.af.drop (c.af.length-t.2.1)}
def goC(ts:List Tg)(c:bS)(t:Option Nat):Option bS:=
 match t with
 |none=>none
 |some i=>match ts[i]? with
  |none=>none
  |some t=>qS c t
def kE(l:List Nat)(n:Int):Option Nat:=if n<0\/(l.length:Int)-1<n then l[l.length-1]? else l[n.toNat]?
def mj(ts:List Tg)(c:bS)(st:PSt):Option bS:=
 if st.ah.length=0 then none
 else if st.aa.au=4 then
  match kV c with
  |none=>none
  |some (n,c1)=>if n=0 then goC ts c1 st.ah[0]? else some c1
 else if st.aa.au=8 then
  match kV c with
  |none=>none
  |some (n,c1)=>if n=0 then some c1 else goC ts c1 st.ah[0]?
 else if st.aa.au=9 then
  match kV c with
  |none=>none
  |some (n,c1)=>goC ts c1 (kE st.ah n)
 else goC ts c st.ah[0]?
def vy(c:bS):Option bS:=
 match kV c with
 |none=>none
 |some (asked,c1)=>match kV c1 with
  |none=>none
  |some (second,c2)=>match kV c2 with
   |none=>none
   |some (first,c3)=>some (kD c3 (if asked=0 then second else first))
def mH(c:bS)(st:PSt):Option bS:=
 match c.ai[st.index]? with
 |none=>none
 |some n=>
  if st.aa.au=15 then
   match kV c with
   |none=>none
   |some (x,c1)=>some {c1 with ai:=c1.ai.set st.index x}
  else if st.aa.au=16 then
   match kV c with
   |none=>none
   |some (x,c1)=>some (kD {c1 with ai:=c1.ai.set st.index x} x)
  else some (kD c n)
def jL(c:bS)(k:K5):Option (Nat×bS):=
 if k.aj=1 then
  match kV c with
  |none=>none
  |some (n,c1)=>some (0,kD c1 (kU k.au n))
 else if k.aj=2 then
  match kV c with
  |none=>none
  |some (second,c1)=>match kV c1 with
   |none=>none
   |some (first,c2)=>
    if (bZ k first second).2=0 then some (0,kD c2 (bZ k first second).1) else some ((bZ k first second).2,c2)
 else some (0,c)
def okC(x:Option bS):Option (Nat×bS):=x.map fun c=>(0,c)
def doC(ts:List Tg)(c:bS)(st:PSt):Option (Nat×bS):=
 let n:=st.aa.au
 if n=4\/n=5\/n=7\/n=8\/n=9 then okC (mj ts c st)
 else if n=12 then okC ((kV c).map (·.2))
 else if n=13 then okC (vy c)
 else if n=14\/n=15\/n=16 then okC (mH c st)
 else if n=17 then okC (some (kD c st.num))
 else jL c st.aa
structure Out where
 ends:Nat
 ay:Nat
 values:List Int
structure MSt where
 call:bS
 rest:List bS
 ay:Nat
def fL(f:bu)(i:Nat)(args:List Int):bS:=
 {fn:=i,next:=0,ai:=args.take f.ai++List.replicate (f.ai-args.length) 0,af:=[]}
def bB(fs:List bu)(aA:Nat)(s:MSt):Option (MSt ⊕ Out):=
 match fs[s.call.fn]? with
 |none=>none
 |some f=>
  match f.ay[s.call.next]? with
  |some st=>
   if s.ay=aA then some (.inr ⟨4,s.ay,[]⟩) else
   let c:={s.call with next:=s.call.next+1}
   if st.aa.au=0 then some (.inr ⟨1,s.ay+1,[]⟩)
   else if st.aa.au=11 then
    if 40<s.rest.length+1 then some (.inr ⟨5,s.ay+1,[]⟩) else
    match fs[st.index]? with
    |none=>none
    |some f2=>match dE c f2.aj.length with
     |none=>none
     |some (args,c1)=>some (.inl {call:=fL f2 st.index args,rest:=c1::s.rest,ay:=s.ay+1})
   else if st.aa.au=10 then
    match dE c f.ak.length with
    |none=>none
    |some (vals,_)=>match s.rest with
     | []=>some (.inr ⟨0,s.ay+1,vals⟩)
     |d::r=>some (.inl {call:=ff d vals,rest:=r,ay:=s.ay+1})
   else match doC f.ah c st with
    |none=>none
    |some (e,c1)=>if e=0 then some (.inl {s with call:=c1,ay:=s.ay+1}) else some (.inr ⟨e,s.ay+1,[]⟩)
  |none=>
   match dE s.call f.ak.length with
   |none=>none
   |some (vals,_)=>match s.rest with
    | []=>some (.inr ⟨0,s.ay,vals⟩)
    |d::r=>some (.inl {call:=ff d vals,rest:=r,ay:=s.ay})
def dx(fs:List bu)(aA:Nat):Nat->MSt->Option Out
 |0,_=>none
 |k+1,s=>match bB fs aA s with
  |none=>none
  |some (.inr o)=>some o
  |some (.inl s1)=>dx fs aA k s1
def wQ(fs:List bu)(i:Nat)(args:List Int)(aA:Nat):Option Out:=
 match fs[i]? with
 |none=>none
 |some f=>dx fs aA (2*aA+3) {call:=fL f i args,rest:=[],ay:=0}
theorem lQ(b:Bool)(w:World):Calls prog 171 #[.bool b] w fun e w'=>e=.returned (.int .i64 (bx b))/\w'=w:=by cases b <;> (go_enter func171,ntmps171;go_wp2;go_ret;exact⟨rfl,rfl⟩)
theorem sb(a b:Int)(w:World):Calls prog 184 #[.int .i64 a,.int .i64 b] w fun e w'=>e=.returned (.int .i64 (eE .i64 a b))/\w'=w:=by go_enter func184,ntmps184;go_wp2;go_ret;first|exact⟨rfl,rfl⟩|(refine⟨?_,rfl⟩;simp[eE,cM,bx,aji,ajh])
theorem Aq(a b:Int)(w:World):Calls prog 183 #[.int .i64 a,.int .i64 b] w fun e w'=>e=.returned (.tuple #[.int .i64 (eJ a b).1,.int .i64 (eJ a b).2])/\w'=w:=by
 by_cases h:b=0
 ·subst h;go_enter func183,ntmps183;go_wp2;exact bodyPost_ret (v:=.tuple #[_,_]) (by simp[results,results183,go_sem];exact⟨rfl,rfl⟩) rfl ⟨by simp[eJ,dR,bx,aji,ajh],rfl⟩
 have hr:eJ a b=(a.tmod b,0):=by simp[eJ,h]
 rw[hr];clear hr;have hb:(b==0)=false:=by simpa using h
 go_enter func183,ntmps183;go_wp2;exact bodyPost_ret (v:=.tuple #[_,_]) (by simp[results,results183,go_sem];exact⟨rfl,rfl⟩) rfl ⟨by simp[eJ,dR,bx,aji,ajh],rfl⟩
theorem Ar(a b:Int)(w:World):Calls prog 182 #[.int .i64 a,.int .i64 b] w fun e w'=>e=.returned (.tuple #[.int .i64 (dR .i64 a b).1,.int .i64 (dR .i64 a b).2])/\w'=w:=by
 by_cases h:b=0
 ·subst h;go_enter func182,ntmps182;go_wp2;exact bodyPost_ret (v:=.tuple #[_,_]) (by simp[results,results182,go_sem];exact⟨rfl,rfl⟩) rfl ⟨by simp[eJ,dR,bx,aji,ajh],rfl⟩
 have hb:(b==0)=false:=by simpa using h
 by_cases h1:b = -1
 ·by_cases h2:a=IntKind.i64.wrap (-a)
  ·by_cases h3:a=0
   ·have hr:dR .i64 a b=(0,0):=by subst h3;subst h1;rfl
    rw[hr];subst h3;subst h1;clear hr h2;go_enter func182,ntmps182;go_wp2;exact bodyPost_ret (v:=.tuple #[_,_]) (by simp[results,results182,go_sem];exact⟨rfl,rfl⟩) rfl ⟨by simp[eJ,dR,bx,aji,ajh],rfl⟩
   have hr:dR .i64 a b=(0,3):=by simp only[dR,ajc h,ajd (And.intro h1 (And.intro h2 h3))]
   rw[hr];have b2:(a==IntKind.i64.wrap (-a))=true:=by simpa using h2
   have b3:(a==0)=false:=by simpa using h3
   obtain⟨x,e1⟩:=aja (IntKind.i64.wrap (-a));have e2:wrap64 (-a)=x:=by rw[<-e1,aji]
   have e3:wrap64 (0-a)=x:=by rw[Int.zero_sub];exact e2
   have e4:IntKind.i64.wrap (0-a)=x:=by rw[Int.zero_sub];exact e1
   rw[e1]at b2;subst h1;clear hr h2 h3 h hb;go_enter func182,ntmps182;go_wp2;exact bodyPost_ret (v:=.tuple #[.int .i64 0,.int .i64 3]) (by simp[results,results182,go_sem]) rfl ⟨rfl,rfl⟩
  have hr:dR .i64 a b=(IntKind.i64.wrap (a.tdiv b),0):=by simp only[dR,ajc h,ajc (fun (x:b = -1/\a=IntKind.i64.wrap (-a)/\a≠0)=>h2 x.2.1)]
  rw[hr];have b2:(a==IntKind.i64.wrap (-a))=false:=by simpa using h2
  obtain⟨x,e1⟩:=aja (IntKind.i64.wrap (-a));have e2:wrap64 (-a)=x:=by rw[<-e1,aji]
  have e3:wrap64 (0-a)=x:=by rw[Int.zero_sub];exact e2
  have e4:IntKind.i64.wrap (0-a)=x:=by rw[Int.zero_sub];exact e1
  rw[e1]at b2;subst h1;have e5:a.tdiv (-1) = -a:=by simp
  rw[e5,e1];clear hr h2 h hb;go_enter func182,ntmps182;go_wp2;exact bodyPost_ret (v:=.tuple #[_,_]) (by simp[results,results182,go_sem];exact⟨rfl,rfl⟩) rfl ⟨by simp[e1,e2],rfl⟩
 have hr:dR .i64 a b=(IntKind.i64.wrap (a.tdiv b),0):=by simp only[dR,ajc h,ajc (fun (x:b = -1/\a=IntKind.i64.wrap (-a)/\a≠0)=>h1 x.1)]
 rw[hr];have b1:(b==-1)=false:=by simpa using h1
 clear hr h1;go_enter func182,ntmps182;go_wp2;exact bodyPost_ret (v:=.tuple #[_,_]) (by simp[results,results182,go_sem];exact⟨rfl,rfl⟩) rfl ⟨by simp[eJ,dR,bx,aji,ajh],rfl⟩
theorem ux(au:Nat)(a b:Int)(w:World):Calls prog 185 #[.int .i64 au,.int .i64 a,.int .i64 b] w fun e w'=>e=.returned (.int .i64 (cM .i64 au a b))/\w'=w:=by
 by_cases Mi:au=18
 ·subst Mi;go_enter func185,ntmps185;go_wp2;go_ret;first|exact⟨rfl,rfl⟩|(refine⟨?_,rfl⟩;simp[eE,cM,bx,aji,ajh])
 by_cases Mj:au=19
 ·subst Mj;go_enter func185,ntmps185;go_wp2;go_ret;first|exact⟨rfl,rfl⟩|(refine⟨?_,rfl⟩;simp[eE,cM,bx,aji,ajh])
 by_cases Ab:au=20
 ·subst Ab;go_enter func185,ntmps185;go_wp2;go_ret;first|exact⟨rfl,rfl⟩|(refine⟨?_,rfl⟩;simp[eE,cM,bx,aji,ajh])
 by_cases Mk:au=23
 ·subst Mk;go_enter func185,ntmps185;go_wp2;go_ret;first|exact⟨rfl,rfl⟩|(refine⟨?_,rfl⟩;simp[eE,cM,bx,aji,ajh])
 by_cases El:au=24
 ·subst El;go_enter func185,ntmps185;go_wp2;go_ret;first|exact⟨rfl,rfl⟩|(refine⟨?_,rfl⟩;simp[eE,cM,bx,aji,ajh])
 have hr:cM .i64 au a b=bits .xor .i64 a b:=by simp only[cM,ajc Mi,ajc Mj,ajc Ab,ajc Mk,ajc El]
 rw[hr];have b18:((au:Int)==18)=false:=beqn (by omega);have b19:((au:Int)==19)=false:=beqn (by omega);have b20:((au:Int)==20)=false:=beqn (by omega);have b23:((au:Int)==23)=false:=beqn (by omega);have b24:((au:Int)==24)=false:=beqn (by omega);clear hr Mi Mj Ab Mk El;go_enter func185,ntmps185;go_wp2;go_ret;first|exact⟨rfl,rfl⟩|(refine⟨?_,rfl⟩;simp[eE,cM,bx,aji,ajh])
theorem sd(b:Int):0<=eE .i64 b 64/\eE .i64 b 64<=63:=by
 have h:eE .i64 b 64=IntKind.i64.wrap ((BitVec.ofInt IntKind.i64.bits b &&& BitVec.ofInt IntKind.i64.bits 63).toNat:Int):=rfl;have h2:(BitVec.ofInt IntKind.i64.bits b &&& BitVec.ofInt IntKind.i64.bits 63).toNat<=63:=by rw[BitVec.toNat_and];exact Nat.and_le_right
 rw[h,IntKind.wrap_i64];omega
theorem As(au:Nat)(a b:Int)(w:World):Calls prog 173 #[.int .i64 au,.int .i64 a,.int .i64 b,.int .i64 64] w fun e w'=>e=.returned (.tuple #[.int .i64 (fy .i64 64 au a b).1,.int .i64 (fy .i64 64 au a b).2])/\w'=w:=by
 by_cases Ml:au=21
 ·subst Ml;rw[show fy .i64 64 21 a b=dR .i64 a b from rfl]
  go_enter func173,ntmps173;go_wp2_with (go_at_call 182;refine(Ar a b _).mono ?_;rintro e w1 ⟨rfl,rfl⟩)
  exact bodyPost_ret (v:=.tuple #[_,_]) (by simp[results,results173,go_sem];exact⟨rfl,rfl⟩) rfl ⟨by simp[eJ,dR,bx,aji,ajh],rfl⟩
 by_cases Mm:au=22
 ·subst Mm;rw[show fy .i64 64 22 a b=eJ a b from rfl]
  go_enter func173,ntmps173;go_wp2_with (go_at_call 183;refine(Aq a b _).mono ?_;rintro e w1 ⟨rfl,rfl⟩)
  exact bodyPost_ret (v:=.tuple #[_,_]) (by simp[results,results173,go_sem];exact⟨rfl,rfl⟩) rfl ⟨by simp[eJ,dR,bx,aji,ajh],rfl⟩
 by_cases Mn:au=26
 ·subst Mn;have hm:=sd b;have hM:=fun w=>sb b 64 w;rw[show fy .i64 64 26 a b=(IntKind.i64.wrap (a*2 ^ (eE .i64 b 64).toNat),0) from rfl]
  generalize eE .i64 b 64=m at hm hM;go_enter func173,ntmps173;go_wp2_with (go_at_call 184;refine(hM _).mono ?_;rintro e w1 ⟨rfl,rfl⟩)
  exact bodyPost_ret (v:=.tuple #[_,_]) (by simp[results,results173,go_sem];exact⟨rfl,rfl⟩) rfl ⟨by simp[eJ,dR,bx,aji,ajh],rfl⟩
 by_cases Mo:au=27
 ·subst Mo;have hm:=sd b;have hM:=fun w=>sb b 64 w;rw[show fy .i64 64 27 a b=(a / 2 ^ (eE .i64 b 64).toNat,0) from rfl]
  generalize eE .i64 b 64=m at hm hM;go_enter func173,ntmps173;go_wp2_with (go_at_call 184;refine(hM _).mono ?_;rintro e w1 ⟨rfl,rfl⟩)
  exact bodyPost_ret (v:=.tuple #[_,_]) (by simp[results,results173,go_sem];exact⟨rfl,rfl⟩) rfl ⟨by simp[eJ,dR,bx,aji,ajh],rfl⟩
 by_cases Mp:au=28
 ·subst Mp;rw[show fy .i64 64 28 a b=(bx (decide (a=b)),0) from rfl]
  go_enter func173,ntmps173;go_wp2_with (go_at_call 171;refine(lQ _ _).mono ?_;rintro e w1 ⟨rfl,rfl⟩)
  exact bodyPost_ret (v:=.tuple #[_,_]) (by simp[results,results173,go_sem];exact⟨rfl,rfl⟩) rfl ⟨by simp[eJ,dR,bx,aji,ajh],rfl⟩
 by_cases Mq:au=29
 ·subst Mq;rw[show fy .i64 64 29 a b=(bx (decide (a<b)),0) from rfl]
  go_enter func173,ntmps173;go_wp2_with (go_at_call 171;refine(lQ _ _).mono ?_;rintro e w1 ⟨rfl,rfl⟩)
  exact bodyPost_ret (v:=.tuple #[_,_]) (by simp[results,results173,go_sem];exact⟨rfl,rfl⟩) rfl ⟨by simp[eJ,dR,bx,aji,ajh],rfl⟩
 have hr:fy .i64 64 au a b=(cM .i64 au a b,0):=by simp only[fy,ajc Ml,ajc Mm,ajc Mn,ajc Mo,ajc Mp,ajc Mq]
 rw[hr];have b21:((au:Int)==21)=false:=beqn (by omega);have b22:((au:Int)==22)=false:=beqn (by omega);have b26:((au:Int)==26)=false:=beqn (by omega);have b27:((au:Int)==27)=false:=beqn (by omega);have b28:((au:Int)==28)=false:=beqn (by omega);have b29:((au:Int)==29)=false:=beqn (by omega);clear hr Ml Mm Mn Mo Mp Mq;go_enter func173,ntmps173;go_wp2_with (go_at_call 185;refine(ux au a b _).mono ?_;rintro e w1 ⟨rfl,rfl⟩)
 exact bodyPost_ret (v:=.tuple #[_,_]) (by simp[results,results173,go_sem];exact⟨rfl,rfl⟩) rfl ⟨by simp[eJ,dR,bx,aji,ajh],rfl⟩
theorem po(b:Bool)(w:World):Calls prog 180 #[.bool b] w fun e w'=>e=.returned (.int .i32 (bx b))/\w'=w:=by cases b <;> (go_enter func180,ntmps180;go_wp2;go_ret;exact⟨rfl,rfl⟩)
theorem se(a b:Int)(w:World):Calls prog 179 #[.int .i32 a,.int .i32 b] w fun e w'=>e=.returned (.int .i32 (eE .i32 a b))/\w'=w:=by go_enter func179,ntmps179;go_wp2;go_ret;first|exact⟨rfl,rfl⟩|(refine⟨?_,rfl⟩;simp[eE,cM,bx,aji,ajh])
theorem At(a b:Int)(w:World):Calls prog 178 #[.int .i32 a,.int .i32 b] w fun e w'=>e=.returned (.tuple #[.int .i32 (eJ a b).1,.int .i64 (eJ a b).2])/\w'=w:=by
 by_cases h:b=0
 ·subst h;go_enter func178,ntmps178;go_wp2;exact bodyPost_ret (v:=.tuple #[_,_]) (by simp[results,results178,go_sem];exact⟨rfl,rfl⟩) rfl ⟨by simp[eJ,dR,bx,aji,ajh],rfl⟩
 have hr:eJ a b=(a.tmod b,0):=by simp[eJ,h]
 rw[hr];clear hr;have hb:(b==0)=false:=by simpa using h
 go_enter func178,ntmps178;go_wp2;exact bodyPost_ret (v:=.tuple #[_,_]) (by simp[results,results178,go_sem];exact⟨rfl,rfl⟩) rfl ⟨by simp[eJ,dR,bx,aji,ajh],rfl⟩
theorem Au(a b:Int)(w:World):Calls prog 177 #[.int .i32 a,.int .i32 b] w fun e w'=>e=.returned (.tuple #[.int .i32 (dR .i32 a b).1,.int .i64 (dR .i32 a b).2])/\w'=w:=by
 by_cases h:b=0
 ·subst h;go_enter func177,ntmps177;go_wp2;exact bodyPost_ret (v:=.tuple #[_,_]) (by simp[results,results177,go_sem];exact⟨rfl,rfl⟩) rfl ⟨by simp[eJ,dR,bx,aji,ajh],rfl⟩
 have hb:(b==0)=false:=by simpa using h
 by_cases h1:b = -1
 ·by_cases h2:a=IntKind.i32.wrap (-a)
  ·by_cases h3:a=0
   ·have hr:dR .i32 a b=(0,0):=by subst h3;subst h1;rfl
    rw[hr];subst h3;subst h1;clear hr h2;go_enter func177,ntmps177;go_wp2;exact bodyPost_ret (v:=.tuple #[_,_]) (by simp[results,results177,go_sem];exact⟨rfl,rfl⟩) rfl ⟨by simp[eJ,dR,bx,aji,ajh],rfl⟩
   have hr:dR .i32 a b=(0,3):=by simp only[dR,ajc h,ajd (And.intro h1 (And.intro h2 h3))]
   rw[hr];have b2:(a==IntKind.i32.wrap (-a))=true:=by simpa using h2
   have b3:(a==0)=false:=by simpa using h3
   obtain⟨x,e1⟩:=aja (IntKind.i32.wrap (-a));have e2:wrap32 (-a)=x:=by rw[<-e1,ajh]
   have e3:wrap32 (0-a)=x:=by rw[Int.zero_sub];exact e2
   have e4:IntKind.i32.wrap (0-a)=x:=by rw[Int.zero_sub];exact e1
   rw[e1]at b2;subst h1;clear hr h2 h3 h hb;go_enter func177,ntmps177;go_wp2;exact bodyPost_ret (v:=.tuple #[.int .i32 0,.int .i64 3]) (by simp[results,results177,go_sem]) rfl ⟨rfl,rfl⟩
  have hr:dR .i32 a b=(IntKind.i32.wrap (a.tdiv b),0):=by simp only[dR,ajc h,ajc (fun (x:b = -1/\a=IntKind.i32.wrap (-a)/\a≠0)=>h2 x.2.1)]
  rw[hr];have b2:(a==IntKind.i32.wrap (-a))=false:=by simpa using h2
  obtain⟨x,e1⟩:=aja (IntKind.i32.wrap (-a));have e2:wrap32 (-a)=x:=by rw[<-e1,ajh]
  have e3:wrap32 (0-a)=x:=by rw[Int.zero_sub];exact e2
  have e4:IntKind.i32.wrap (0-a)=x:=by rw[Int.zero_sub];exact e1
  rw[e1]at b2;subst h1;have e5:a.tdiv (-1) = -a:=by simp
  rw[e5,e1];clear hr h2 h hb;go_enter func177,ntmps177;go_wp2;exact bodyPost_ret (v:=.tuple #[_,_]) (by simp[results,results177,go_sem];exact⟨rfl,rfl⟩) rfl ⟨by simp[e1,e2],rfl⟩
 have hr:dR .i32 a b=(IntKind.i32.wrap (a.tdiv b),0):=by simp only[dR,ajc h,ajc (fun (x:b = -1/\a=IntKind.i32.wrap (-a)/\a≠0)=>h1 x.1)]
 rw[hr];have b1:(b==-1)=false:=by simpa using h1
 clear hr h1;go_enter func177,ntmps177;go_wp2;exact bodyPost_ret (v:=.tuple #[_,_]) (by simp[results,results177,go_sem];exact⟨rfl,rfl⟩) rfl ⟨by simp[eJ,dR,bx,aji,ajh],rfl⟩
theorem uy(au:Nat)(a b:Int)(w:World):Calls prog 181 #[.int .i64 au,.int .i32 a,.int .i32 b] w fun e w'=>e=.returned (.int .i32 (cM .i32 au a b))/\w'=w:=by
 by_cases Mi:au=18
 ·subst Mi;go_enter func181,ntmps181;go_wp2;go_ret;first|exact⟨rfl,rfl⟩|(refine⟨?_,rfl⟩;simp[eE,cM,bx,aji,ajh])
 by_cases Mj:au=19
 ·subst Mj;go_enter func181,ntmps181;go_wp2;go_ret;first|exact⟨rfl,rfl⟩|(refine⟨?_,rfl⟩;simp[eE,cM,bx,aji,ajh])
 by_cases Ab:au=20
 ·subst Ab;go_enter func181,ntmps181;go_wp2;go_ret;first|exact⟨rfl,rfl⟩|(refine⟨?_,rfl⟩;simp[eE,cM,bx,aji,ajh])
 by_cases Mk:au=23
 ·subst Mk;go_enter func181,ntmps181;go_wp2;go_ret;first|exact⟨rfl,rfl⟩|(refine⟨?_,rfl⟩;simp[eE,cM,bx,aji,ajh])
 by_cases El:au=24
 ·subst El;go_enter func181,ntmps181;go_wp2;go_ret;first|exact⟨rfl,rfl⟩|(refine⟨?_,rfl⟩;simp[eE,cM,bx,aji,ajh])
 have hr:cM .i32 au a b=bits .xor .i32 a b:=by simp only[cM,ajc Mi,ajc Mj,ajc Ab,ajc Mk,ajc El]
 rw[hr];have b18:((au:Int)==18)=false:=beqn (by omega);have b19:((au:Int)==19)=false:=beqn (by omega);have b20:((au:Int)==20)=false:=beqn (by omega);have b23:((au:Int)==23)=false:=beqn (by omega);have b24:((au:Int)==24)=false:=beqn (by omega);clear hr Mi Mj Ab Mk El;go_enter func181,ntmps181;go_wp2;go_ret;first|exact⟨rfl,rfl⟩|(refine⟨?_,rfl⟩;simp[eE,cM,bx,aji,ajh])
theorem sf(b:Int):0<=eE .i32 b 32/\eE .i32 b 32<=31:=by
 have h:eE .i32 b 32=IntKind.i32.wrap ((BitVec.ofInt IntKind.i32.bits b &&& BitVec.ofInt IntKind.i32.bits 31).toNat:Int):=rfl;have h2:(BitVec.ofInt IntKind.i32.bits b &&& BitVec.ofInt IntKind.i32.bits 31).toNat<=31:=by rw[BitVec.toNat_and];exact Nat.and_le_right
 rw[h,IntKind.wrap_i32];omega
theorem Av(au:Nat)(a b:Int)(w:World):Calls prog 172 #[.int .i64 au,.int .i32 a,.int .i32 b,.int .i32 32] w fun e w'=>e=.returned (.tuple #[.int .i32 (fy .i32 32 au a b).1,.int .i64 (fy .i32 32 au a b).2])/\w'=w:=by
 by_cases Ml:au=21
 ·subst Ml;rw[show fy .i32 32 21 a b=dR .i32 a b from rfl]
  go_enter func172,ntmps172;go_wp2_with (go_at_call 177;refine(Au a b _).mono ?_;rintro e w1 ⟨rfl,rfl⟩)
  exact bodyPost_ret (v:=.tuple #[_,_]) (by simp[results,results172,go_sem];exact⟨rfl,rfl⟩) rfl ⟨by simp[eJ,dR,bx,aji,ajh],rfl⟩
 by_cases Mm:au=22
 ·subst Mm;rw[show fy .i32 32 22 a b=eJ a b from rfl]
  go_enter func172,ntmps172;go_wp2_with (go_at_call 178;refine(At a b _).mono ?_;rintro e w1 ⟨rfl,rfl⟩)
  exact bodyPost_ret (v:=.tuple #[_,_]) (by simp[results,results172,go_sem];exact⟨rfl,rfl⟩) rfl ⟨by simp[eJ,dR,bx,aji,ajh],rfl⟩
 by_cases Mn:au=26
 ·subst Mn;have hm:=sf b;have hM:=fun w=>se b 32 w;rw[show fy .i32 32 26 a b=(IntKind.i32.wrap (a*2 ^ (eE .i32 b 32).toNat),0) from rfl]
  generalize eE .i32 b 32=m at hm hM;go_enter func172,ntmps172;go_wp2_with (go_at_call 179;refine(hM _).mono ?_;rintro e w1 ⟨rfl,rfl⟩)
  exact bodyPost_ret (v:=.tuple #[_,_]) (by simp[results,results172,go_sem];exact⟨rfl,rfl⟩) rfl ⟨by simp[eJ,dR,bx,aji,ajh],rfl⟩
 by_cases Mo:au=27
 ·subst Mo;have hm:=sf b;have hM:=fun w=>se b 32 w;rw[show fy .i32 32 27 a b=(a / 2 ^ (eE .i32 b 32).toNat,0) from rfl]
  generalize eE .i32 b 32=m at hm hM;go_enter func172,ntmps172;go_wp2_with (go_at_call 179;refine(hM _).mono ?_;rintro e w1 ⟨rfl,rfl⟩)
  exact bodyPost_ret (v:=.tuple #[_,_]) (by simp[results,results172,go_sem];exact⟨rfl,rfl⟩) rfl ⟨by simp[eJ,dR,bx,aji,ajh],rfl⟩
 by_cases Mp:au=28
 ·subst Mp;rw[show fy .i32 32 28 a b=(bx (decide (a=b)),0) from rfl]
  go_enter func172,ntmps172;go_wp2_with (go_at_call 180;refine(po _ _).mono ?_;rintro e w1 ⟨rfl,rfl⟩)
  exact bodyPost_ret (v:=.tuple #[_,_]) (by simp[results,results172,go_sem];exact⟨rfl,rfl⟩) rfl ⟨by simp[eJ,dR,bx,aji,ajh],rfl⟩
 by_cases Mq:au=29
 ·subst Mq;rw[show fy .i32 32 29 a b=(bx (decide (a<b)),0) from rfl]
  go_enter func172,ntmps172;go_wp2_with (go_at_call 180;refine(po _ _).mono ?_;rintro e w1 ⟨rfl,rfl⟩)
  exact bodyPost_ret (v:=.tuple #[_,_]) (by simp[results,results172,go_sem];exact⟨rfl,rfl⟩) rfl ⟨by simp[eJ,dR,bx,aji,ajh],rfl⟩
 have hr:fy .i32 32 au a b=(cM .i32 au a b,0):=by simp only[fy,ajc Ml,ajc Mm,ajc Mn,ajc Mo,ajc Mp,ajc Mq]
 rw[hr];have b21:((au:Int)==21)=false:=beqn (by omega);have b22:((au:Int)==22)=false:=beqn (by omega);have b26:((au:Int)==26)=false:=beqn (by omega);have b27:((au:Int)==27)=false:=beqn (by omega);have b28:((au:Int)==28)=false:=beqn (by omega);have b29:((au:Int)==29)=false:=beqn (by omega);clear hr Ml Mm Mn Mo Mp Mq;go_enter func172,ntmps172;go_wp2_with (go_at_call 181;refine(uy au a b _).mono ?_;rintro e w1 ⟨rfl,rfl⟩)
 exact bodyPost_ret (v:=.tuple #[_,_]) (by simp[results,results172,go_sem];exact⟨rfl,rfl⟩) rfl ⟨by simp[eJ,dR,bx,aji,ajh],rfl⟩
theorem Cn(au:Nat)(n:Int)(w:World):Calls prog 148 #[.int .i64 au,.int .i64 n] w fun e w'=>e=.returned (.int .i64 (kU au n))/\w'=w:=by
 by_cases Co:au=30
 ·subst Co;rw[show kU 30 n=bx (decide (n=0)) from rfl]
  go_enter func148,ntmps148;go_wp2_with (go_at_call 171;refine(lQ _ _).mono ?_;rintro e w1 ⟨rfl,rfl⟩)
  go_ret;first|exact⟨rfl,rfl⟩|(refine⟨?_,rfl⟩;simp[eE,cM,bx,aji,ajh])
 by_cases S3:au=31
 ·subst S3;rw[show kU 31 n=IntKind.i32.wrap n from rfl]
  go_enter func148,ntmps148;go_wp2;go_ret;refine⟨?_,rfl⟩;have:wrap64 (wrap32 n)=IntKind.i32.wrap n:=by rw[ajh];exact IntWalk.wrap64_in _ (by unfold wrap32;omega)
  simp[this]
 rw[show kU au n=n by simp only[kU,ajc Co,ajc S3]];have b30:((au:Int)==30)=false:=beqn (by omega);have b31:((au:Int)==31)=false:=beqn (by omega);clear Co S3;go_enter func148,ntmps148;go_wp2;go_ret;first|exact⟨rfl,rfl⟩|(refine⟨?_,rfl⟩;simp[eE,cM,bx,aji,ajh])
abbrev Em(k:K5):Value:=.agg #[.int .i64 k.au,.int .i64 k.ab,.int .i64 k.aj,.int .i64 k.of,.int .i64 k.ak]
theorem Aw(au:Nat)(a b:Int):IntKind.i64.wrap (fy .i32 32 au (IntKind.i32.wrap a) (IntKind.i32.wrap b)).1=(fy .i32 32 au (IntKind.i32.wrap a) (IntKind.i32.wrap b)).1:=by
 have hw:∀x:Int,IntKind.i64.wrap (IntKind.i32.wrap x)=IntKind.i32.wrap x:=fun x=>by rw[IntKind.wrap_i64,IntKind.wrap_i32];omega
 have hx:-2147483648<=IntKind.i32.wrap a/\IntKind.i32.wrap a<=2147483647:=by rw[IntKind.wrap_i32];omega
 have hy:-2147483648<=IntKind.i32.wrap b/\IntKind.i32.wrap b<=2147483647:=by rw[IntKind.wrap_i32];omega
 generalize IntKind.i32.wrap a=x at hx;generalize IntKind.i32.wrap b=y at hy;unfold fy;split
 ·unfold dR;split
  ·rfl
  split
  ·rfl
  exact hw _
 split
 ·unfold eJ;split
  ·rfl
  have h1:(x.tmod y).natAbs<=x.natAbs:=by rw[Int.natAbs_tmod];exact Nat.mod_le _ _
  exact IntWalk.i64_in _ (by show -9223372036854775808<=x.tmod y/\x.tmod y<=9223372036854775807;omega)
 split
 ·exact hw _
 split
 ·show IntKind.i64.wrap (x / 2 ^ _)=x / 2 ^ _;generalize (eE IntKind.i32 y 32).toNat=m;have hp:(0:Int)<2 ^ m:=Int.pow_pos (by decide);have h1:x / 2 ^ m<=2147483647:=by
   apply Int.le_trans (b:=(2147483647:Int) / 2 ^ m)
   ·exact Int.ediv_le_ediv hp hx.2
   apply Int.ediv_le_self;decide
  have h2:-2147483648<=x / 2 ^ m:=by apply Int.le_ediv_of_mul_le hp;have:(1:Int)<=2 ^ m:=hp;have:=Int.mul_le_mul_of_nonneg_left this (show (0:Int)<=2147483648 by decide);omega
  exact IntWalk.i64_in _ (by omega)
 split
 ·unfold bx;split <;> rfl
 split
 ·unfold bx;split <;> rfl
 unfold cM;repeat' split
 all_goals exact hw _
theorem Cp(k:K5)(a b:Int)(w:World):Calls prog 149 #[Em k,.int .i64 a,.int .i64 b] w fun e w'=>e=.returned (.tuple #[.int .i64 (bZ k a b).1,.int .i64 (bZ k a b).2])/\w.grownBy w' none:=by
 by_cases h:k.of=1
 ·rw[show bZ k a b=fy .i32 32 k.au (IntKind.i32.wrap a) (IntKind.i32.wrap b) by simp only[bZ,ajd h]];have hw:=Aw k.au a b;have hv:=hw;rw[aji]at hv;have hT:=fun w=>Av k.au (IntKind.i32.wrap a) (IntKind.i32.wrap b) w;generalize fy .i32 32 k.au (IntKind.i32.wrap a) (IntKind.i32.wrap b)=r at hw hv hT;rw[ajh,ajh]at hT;have b1:((k.of:Int)==1)=true:=by rw[h];rfl
  clear h;go_enter func149,ntmps149;go_wp2_with (go_at_call 172;refine(hT _).mono ?_;rintro e w1 ⟨rfl,rfl⟩)
  refine bodyPost_ret (v:=.tuple #[.int .i64 r.1,.int .i64 r.2]) (by simp[results,results149,go_sem]) rfl ⟨rfl,?_⟩;exact aC _ _ _
 rw[show bZ k a b=fy .i64 64 k.au a b by simp only[bZ,ajc h]];have hT:=fun w=>As k.au a b w;generalize fy .i64 64 k.au a b=r at hT;have b1:((k.of:Int)==1)=false:=beqn (by omega);clear h;go_enter func149,ntmps149;go_wp2_with (go_at_call 173;refine(hT _).mono ?_;rintro e w1 ⟨rfl,rfl⟩)
 refine bodyPost_ret (v:=.tuple #[.int .i64 r.1,.int .i64 r.2]) (by simp[results,results149,go_sem]) rfl ⟨rfl,?_⟩;exact aC _ _ _
