import Derived.Test.YtjbdgbdcnjopkaaGreatDoorP24
import Derived.Test.YtjbdgbdcnjopkaaGreatDoorP36
namespace Go.Proofs.YtjbdgbdcnjopkaaGreatDoor
open Go.RowKit Tryz
set_option linter.unusedVariables false
set_option linter.unusedSimpArgs false
set_option maxRecDepth 100000
set_option maxHeartbeats 4000000
theorem jx {a b:Int} (h:0<=a):a.tmod b=a % b:=Int.tmod_eq_emod_of_nonneg h
theorem tmod_neg {a b:Int} (h:a<0):a.tmod b = -((-a) % b):=by have:=Int.neg_tmod (-a) b;rw[Int.neg_neg] at this;rw[this,jx (by omega)]
theorem pU {a b:Int} (h:0<=a):a.tdiv b=a / b:=Int.tdiv_eq_ediv_of_nonneg h
theorem tdiv_neg {a b:Int} (h:a<0):a.tdiv b = -((-a) / b):=by have:=Int.neg_tdiv (-a) b;rw[Int.neg_neg] at this;rw[this,pU (by omega)]
def rU (n:Int):Int:=
 let m:=if n.tmod 4294967296<0 then n.tmod 4294967296+4294967296 else n.tmod 4294967296
 if 2147483648<=m then m-4294967296 else m
theorem oY (n:Int):rU n=wrap32 n:=by
 unfold rU wrap32;by_cases h:0<=n
 ·rw[jx h];simp only;split <;> split <;> omega
 ·rw[tmod_neg (by omega)];simp only;split <;> split <;> omega
def uY:Nat->Int->Int
 | 0,x=>x
 | n+1,x=>uY n (wrap64 (x+x))
def qG:Nat->Int->Int
 | 0,x=>x
 | n+1,x=>qG n (x / 2)
theorem dc {x:Int} (h:dZ x):wrap64 x=x:=by unfold dZ at h;unfold wrap64;omega
theorem qH {x:Int} (h:eX x):wrap32 x=x:=by unfold eX at h;unfold wrap32;omega
theorem Bd (a k:Int):wrap64 (wrap64 a*k)=wrap64 (a*k):=by
 have h:∃q:Int,wrap64 a=a+q*18446744073709551616:=by refine⟨(wrap64 a-a) / 18446744073709551616,?_⟩;unfold wrap64;omega
 obtain⟨q,hq⟩:=h;rw[hq,Int.add_mul];have e:q*18446744073709551616*k=(q*k)*18446744073709551616:=by rw[Int.mul_right_comm]
 rw[e];generalize a*k=z;generalize q*k=y;unfold wrap64;omega
theorem gw (x:Int):dZ (wrap64 x):=by unfold dZ wrap64;omega
theorem rV:∀(n:Nat) {x:Int},dZ x->uY n x=wrap64 (x*2 ^ n)
 | 0,x,h=>by rw[uY];simp;exact(dc h).symm
 | n+1,x,h=>by
  rw[uY,rV n (gw _),Bd]
  congr 1
  rw[Int.pow_succ,<-Int.two_mul,Int.mul_comm 2 x,Int.mul_assoc,Int.mul_comm 2 (2 ^ n)]
theorem rW:∀(n:Nat) (x:Int),qG n x=x / 2 ^ n
 | 0,x=>by simp[qG]
 | n+1,x=>by rw[qG,rW n,Int.ediv_ediv_of_nonneg (by decide),Int.pow_succ,Int.mul_comm]
theorem Gp {x:Int} (h:x<0) (ho:x.tmod 2≠0):x.tdiv 2-1=x / 2:=by rw[tmod_neg h] at ho;rw[tdiv_neg h];omega
theorem Du {x:Int} (ho:x.tmod 2=0):x.tdiv 2=x / 2:=by
 by_cases h:0<=x
 ·exact pU h
 ·rw[tmod_neg (by omega)] at ho;rw[tdiv_neg (by omega)];omega
theorem Gq {x:Int} (h:0<=x):x.tdiv 2=x / 2:=pU h
theorem nC (z:Int):wrap32 (wrap64 z)=wrap32 z:=by unfold wrap32 wrap64;omega
theorem nD (a b:Nat) (h:a % 4294967296=b % 4294967296):wrap32 (a:Int)=wrap32 (b:Int):=by unfold wrap32;omega
theorem jg (x:Int):(BitVec.ofInt 64 x).setWidth 32=BitVec.ofInt 32 x:=by apply BitVec.eq_of_toNat_eq;simp only[BitVec.toNat_setWidth,BitVec.toNat_ofInt];omega
theorem qI (op:BinOp) (ex:op=.and\/op=.or\/op=.xor) (x y:Int):wrap32 (bits op .i64 x y)=bits op .i32 x y:=by
 unfold bits;rcases ex with rfl|rfl|rfl
 ·simp only[IntWalk.i64_left,IntWalk.i32_left,show IntKind.i64.bits=64 from rfl,show IntKind.i32.bits=32 from rfl]
  rw[nC];apply nD;show (BitVec.ofInt 64 x &&& BitVec.ofInt 64 y).toNat % 4294967296=(BitVec.ofInt 32 x &&& BitVec.ofInt 32 y).toNat % 4294967296;have:(BitVec.ofInt 64 x &&& BitVec.ofInt 64 y).setWidth 32=BitVec.ofInt 32 x &&& BitVec.ofInt 32 y:=by rw[BitVec.setWidth_and,jg,jg]
  have h:=congrArg BitVec.toNat this;simp only[BitVec.toNat_setWidth] at h;have h2:=(BitVec.ofInt 32 x &&& BitVec.ofInt 32 y).isLt;omega
 ·simp only[IntWalk.i64_left,IntWalk.i32_left,show IntKind.i64.bits=64 from rfl,show IntKind.i32.bits=32 from rfl]
  rw[nC];apply nD;show (BitVec.ofInt 64 x ||| BitVec.ofInt 64 y).toNat % 4294967296=(BitVec.ofInt 32 x ||| BitVec.ofInt 32 y).toNat % 4294967296;have:(BitVec.ofInt 64 x ||| BitVec.ofInt 64 y).setWidth 32=BitVec.ofInt 32 x ||| BitVec.ofInt 32 y:=by rw[BitVec.setWidth_or,jg,jg]
  have h:=congrArg BitVec.toNat this;simp only[BitVec.toNat_setWidth] at h;have h2:=(BitVec.ofInt 32 x ||| BitVec.ofInt 32 y).isLt;omega
 ·simp only[IntWalk.i64_left,IntWalk.i32_left,show IntKind.i64.bits=64 from rfl,show IntKind.i32.bits=32 from rfl]
  rw[nC];apply nD;show (BitVec.ofInt 64 x ^^^ BitVec.ofInt 64 y).toNat % 4294967296=(BitVec.ofInt 32 x ^^^ BitVec.ofInt 32 y).toNat % 4294967296;have:(BitVec.ofInt 64 x ^^^ BitVec.ofInt 64 y).setWidth 32=BitVec.ofInt 32 x ^^^ BitVec.ofInt 32 y:=by rw[BitVec.setWidth_xor,jg,jg]
  have h:=congrArg BitVec.toNat this;simp only[BitVec.toNat_setWidth] at h;have h2:=(BitVec.ofInt 32 x ^^^ BitVec.ofInt 32 y).isLt;omega
theorem B4 (y:Int):eE .i64 y 64=y % 64:=by
 have h:eE .i64 y 64=IntKind.i64.wrap ((BitVec.ofInt 64 y &&& BitVec.ofInt 64 63).toNat:Int):=rfl;have h2:(BitVec.ofInt 64 y &&& BitVec.ofInt 64 63).toNat=(y % 18446744073709551616).toNat % 64:=by rw[BitVec.toNat_and,BitVec.toNat_ofInt];have e:(BitVec.ofInt 64 63).toNat=2 ^ 6-1:=rfl;rw[e,Nat.and_two_pow_sub_one_eq_mod];rfl
 rw[h,h2];have h3:(((y % 18446744073709551616).toNat % 64:Nat):Int)=y % 64:=by omega
 rw[h3];exact IntWalk.i64_in _ (by omega)
theorem B5 (y:Int):eE .i32 y 32=y % 32:=by
 have h:eE .i32 y 32=IntKind.i32.wrap ((BitVec.ofInt 32 y &&& BitVec.ofInt 32 31).toNat:Int):=rfl;have h2:(BitVec.ofInt 32 y &&& BitVec.ofInt 32 31).toNat=(y % 4294967296).toNat % 32:=by rw[BitVec.toNat_and,BitVec.toNat_ofInt];have e:(BitVec.ofInt 32 31).toNat=2 ^ 5-1:=rfl;rw[e,Nat.and_two_pow_sub_one_eq_mod];rfl
 rw[h,h2];have h3:(((y % 4294967296).toNat % 32:Nat):Int)=y % 32:=by omega
 rw[h3];exact IntWalk.i32_in _ (by omega)
def fd (rest:Bool) (x y least:Int):Int×Nat:=
 if y=0 then (0,2) else if y = -1 then (if rest then (0,0) else if x=least then (0,3) else (-x,0)) else if rest then (x.tmod y,0) else (x.tdiv y,0)
theorem oZ {x:Int} (h:eX x):IntKind.i32.wrap x=x:=IntWalk.i32_in x h
theorem Nr {x:Int} (h:dZ x):IntKind.i64.wrap x=x:=IntWalk.i64_in x h
theorem Gr {x y:Int} (hx:eX x) (hy:eX y):(fd false x y (-2147483648)).2=(bZ ⟨21,0,2,1,1⟩ x y).2/\((bZ ⟨21,0,2,1,1⟩ x y).2=0->wrap32 (fd false x y (-2147483648)).1=(bZ ⟨21,0,2,1,1⟩ x y).1):=by
 have e:bZ ⟨21,0,2,1,1⟩ x y=dR .i32 x y:=by unfold bZ;rw[if_pos rfl,oZ hx,oZ hy];unfold fy;rw[if_pos rfl]
 rw[e];unfold fd dR;by_cases h0:y=0
 ·rw[if_pos h0,if_pos h0];exact⟨rfl,fun h=>by cases h⟩
 ·rw[if_neg h0,if_neg h0];by_cases h1:y = -1
  ·rw[if_pos h1];simp only[Bool.false_eq_true,if_false];by_cases h2:x = -2147483648
   ·have hc:y = -1/\x=IntKind.i32.wrap (-x)/\x≠0:=by
     refine⟨h1,?_,?_⟩
     ·rw[IntWalk.i32_left];unfold wrap32;omega
     ·omega
    rw[if_pos h2,if_pos hc];exact⟨rfl,fun h=>by cases h⟩
   ·have hw:IntKind.i32.wrap (-x) = -x:=oZ (by unfold eX at hx ⊢;omega);rw[if_neg h2,if_neg (by rw[hw];omega)];refine⟨rfl,fun _=>?_⟩;rw[h1];have e2:x.tdiv (-1) = -x:=by rw[Int.tdiv_neg,Int.tdiv_one]
    rw[e2,IntWalk.i32_left]
  ·rw[if_neg h1];simp only[Bool.false_eq_true,if_false];rw[if_neg (fun c=>h1 c.1)];refine⟨rfl,fun _=>?_⟩;rw[IntWalk.i32_left]
theorem Gs {x y:Int} (hx:dZ x) (hy:dZ y):(fd false x y (-9223372036854775808)).2=(bZ ⟨21,0,2,2,2⟩ x y).2/\((bZ ⟨21,0,2,2,2⟩ x y).2=0->wrap64 (fd false x y (-9223372036854775808)).1=(bZ ⟨21,0,2,2,2⟩ x y).1):=by
 have e:bZ ⟨21,0,2,2,2⟩ x y=dR .i64 x y:=rfl;rw[e];unfold fd dR;by_cases h0:y=0
 ·rw[if_pos h0,if_pos h0];exact⟨rfl,fun h=>by cases h⟩
 ·rw[if_neg h0,if_neg h0];by_cases h1:y = -1
  ·rw[if_pos h1];simp only[Bool.false_eq_true,if_false];by_cases h2:x = -9223372036854775808
   ·rw[if_pos h2,if_pos ⟨h1,by rw[h2,IntWalk.i64_left];unfold wrap64;omega,by omega⟩];exact⟨rfl,fun h=>by cases h⟩
   ·have hw:IntKind.i64.wrap (-x) = -x:=Nr (by unfold dZ at hx ⊢;omega);rw[if_neg h2,if_neg (by rw[hw];omega)];refine⟨rfl,fun _=>?_⟩;rw[h1];have e2:x.tdiv (-1) = -x:=by rw[Int.tdiv_neg,Int.tdiv_one]
    rw[e2,IntWalk.i64_left]
  ·rw[if_neg h1];simp only[Bool.false_eq_true,if_false];rw[if_neg (fun c=>h1 c.1)];refine⟨rfl,fun _=>?_⟩;rw[IntWalk.i64_left]
theorem zo {x y least:Int}:fd true x y least=eJ x y:=by
 unfold fd eJ;by_cases h0:y=0
 ·rw[if_pos h0,if_pos h0]
 ·rw[if_neg h0,if_neg h0];by_cases h1:y = -1
  ·rw[if_pos h1,h1,Int.tmod_neg,Int.tmod_one];rfl
  ·rw[if_neg h1];rfl
def kz (t r:Nat) (x y:Int):Int×Nat:=
 let v:Int×Nat:=if r=0 then (wrap64 (x+y),0) else if r=1 then (wrap64 (x-y),0) else if r=2 then (wrap64 (x*y),0)
  else if r=3\/r=4 then fd (r == 4) x y (if t=2 then -9223372036854775808 else -2147483648)
  else if r=5 then (bits .and .i64 x y,0) else if r=6 then (bits .or .i64 x y,0) else if r=7 then (bits .xor .i64 x y,0)
  else if r=9 then (qG (y % (if t=2 then 64 else 32)).toNat x,0) else (uY (y % (if t=2 then 64 else 32)).toNat x,0)
 (if t=1 then wrap32 v.1 else wrap64 v.1,v.2)
theorem Gt {x:Int} (h:eX x) (n:Nat):eX (x / 2 ^ n):=by
 have:=xC x n;unfold eX at h ⊢;by_cases h0:0<=x
 ·have:=this.1 h0;omega
 ·have:=this.2 (by omega);omega
theorem zp {x:Int} (h:dZ x) (n:Nat):dZ (x / 2 ^ n):=by
 have:=xC x n;unfold dZ at h ⊢;by_cases h0:0<=x
 ·have:=this.1 h0;omega
 ·have:=this.2 (by omega);omega
theorem Gu {x:Int} (h:eX x) (y:Int):eX (x.tmod y):=by
 have h1:=rT x y;have h2:=nV x y;unfold eX at h ⊢;by_cases h0:0<=x
 ·have:=h2.1 h0;omega
 ·have:=h2.2 (by omega);omega
theorem zq {x:Int} (h:dZ x) (y:Int):dZ (x.tmod y):=by
 have h1:=rT x y;have h2:=nV x y;unfold dZ at h ⊢;by_cases h0:0<=x
 ·have:=h2.1 h0;omega
 ·have:=h2.2 (by omega);omega
theorem Be {x y:Int} (hx:eX x) (hy:eX y) {r:Nat} (hr:r<=9):(kz 1 r x y).2=(bZ ⟨18+r,0,2,1,1⟩ x y).2/\((bZ ⟨18+r,0,2,1,1⟩ x y).2=0->(kz 1 r x y).1=(bZ ⟨18+r,0,2,1,1⟩ x y).1):=by
 have e:bZ ⟨18+r,0,2,1,1⟩ x y=fy .i32 32 (18+r) x y:=by show fy .i32 32 (18+r) (IntKind.i32.wrap x) (IntKind.i32.wrap y)=_;rw[oZ hx,oZ hy]
 obtain rfl|rfl|rfl|rfl|rfl|rfl|rfl|rfl|rfl|rfl:r=0\/r=1\/r=2\/r=3\/r=4\/r=5\/r=6\/r=7\/r=8\/r=9:=by omega
 ·rw[e];exact⟨rfl,fun _=>by show wrap32 (wrap64 (x+y))=IntKind.i32.wrap (x+y);rw[nC,IntWalk.i32_left]⟩
 ·rw[e];exact⟨rfl,fun _=>by show wrap32 (wrap64 (x-y))=IntKind.i32.wrap (x-y);rw[nC,IntWalk.i32_left]⟩
 ·rw[e];exact⟨rfl,fun _=>by show wrap32 (wrap64 (x*y))=IntKind.i32.wrap (x*y);rw[nC,IntWalk.i32_left]⟩
 ·exact Gr hx hy
 ·rw[e];have e2:fy .i32 32 (18+4) x y=eJ x y:=rfl;have e3:kz 1 4 x y=(wrap32 (fd true x y (-2147483648)).1,(fd true x y (-2147483648)).2):=rfl;rw[e2,e3,zo];refine⟨rfl,fun h=>?_⟩;unfold eJ;by_cases h0:y=0
  ·rw[if_pos h0];exact qH (by unfold eX;decide)
  ·rw[if_neg h0];exact qH (Gu hx y)
 ·rw[e];exact⟨rfl,fun _=>by show wrap32 (bits .and .i64 x y)=bits .and .i32 x y;exact qI _ (.inl rfl) _ _⟩
 ·rw[e];exact⟨rfl,fun _=>by show wrap32 (bits .or .i64 x y)=bits .or .i32 x y;exact qI _ (.inr (.inl rfl)) _ _⟩
 ·rw[e];exact⟨rfl,fun _=>by show wrap32 (bits .xor .i64 x y)=bits .xor .i32 x y;exact qI _ (.inr (.inr rfl)) _ _⟩
 ·rw[e];exact⟨rfl,fun _=>by show wrap32 (uY (y % 32).toNat x)=IntKind.i32.wrap (x*2 ^ (eE .i32 y 32).toNat);rw[B5,rV _ hx.wide,nC,IntWalk.i32_left]⟩
 ·rw[e];exact⟨rfl,fun _=>by show wrap32 (qG (y % 32).toNat x)=x / 2 ^ (eE .i32 y 32).toNat;rw[B5,rW];exact qH (Gt hx _)⟩
theorem Dv {x y:Int} (hx:dZ x) (hy:dZ y) {r:Nat} (hr:r<=9):(kz 2 r x y).2=(bZ ⟨18+r,0,2,2,2⟩ x y).2/\((bZ ⟨18+r,0,2,2,2⟩ x y).2=0->(kz 2 r x y).1=(bZ ⟨18+r,0,2,2,2⟩ x y).1):=by
 have e:bZ ⟨18+r,0,2,2,2⟩ x y=fy .i64 64 (18+r) x y:=rfl;have ww:∀z,wrap64 (wrap64 z)=wrap64 z:=fun z=>dc (gw z);obtain rfl|rfl|rfl|rfl|rfl|rfl|rfl|rfl|rfl|rfl:r=0\/r=1\/r=2\/r=3\/r=4\/r=5\/r=6\/r=7\/r=8\/r=9:=by omega
 ·rw[e];exact⟨rfl,fun _=>by show wrap64 (wrap64 (x+y))=IntKind.i64.wrap (x+y);rw[ww,IntWalk.i64_left]⟩
 ·rw[e];exact⟨rfl,fun _=>by show wrap64 (wrap64 (x-y))=IntKind.i64.wrap (x-y);rw[ww,IntWalk.i64_left]⟩
 ·rw[e];exact⟨rfl,fun _=>by show wrap64 (wrap64 (x*y))=IntKind.i64.wrap (x*y);rw[ww,IntWalk.i64_left]⟩
 ·exact Gs hx hy
 ·rw[e];have e2:fy .i64 64 (18+4) x y=eJ x y:=rfl;have e3:kz 2 4 x y=(wrap64 (fd true x y (-9223372036854775808)).1,(fd true x y (-9223372036854775808)).2):=rfl;rw[e2,e3,zo];refine⟨rfl,fun h=>?_⟩;unfold eJ;by_cases h0:y=0
  ·rw[if_pos h0];exact dc (by unfold dZ;decide)
  ·rw[if_neg h0];exact dc (zq hx y)
 ·rw[e];exact⟨rfl,fun _=>dc (gH .and x y)⟩
 ·rw[e];exact⟨rfl,fun _=>dc (gH .or x y)⟩
 ·rw[e];exact⟨rfl,fun _=>dc (gH .xor x y)⟩
 ·rw[e];exact⟨rfl,fun _=>by show wrap64 (uY (y % 64).toNat x)=IntKind.i64.wrap (x*2 ^ (eE .i64 y 64).toNat);rw[B4,rV _ hx,ww,IntWalk.i64_left]⟩
 ·rw[e];exact⟨rfl,fun _=>by show wrap64 (qG (y % 64).toNat x)=x / 2 ^ (eE .i64 y 64).toNat;rw[B4,rW];exact dc (zp hx _)⟩
section
variable {w:World}
theorem J3 (b:Bool):Calls prog 153 #[.bool b] w fun r w'=>r=.returned (.int .i64 (bx b))/\w'=w:=by
 cases b with
 | true =>
  go_enter func153,ntmps153;go_wp2;go_ret;exact⟨rfl,rfl⟩
 | false =>
  go_enter func153,ntmps153;go_wp2;go_ret;exact⟨rfl,rfl⟩
theorem o7 (n:Int):Calls prog 154 #[.int .i64 n] w fun r w'=>r=.returned (.int .i64 (rU n))/\w'=w:=by
 unfold rU;obtain⟨q,hq⟩:∃q,n.tmod 4294967296=q:=⟨_,rfl⟩;have hb:-4294967296<q/\q<4294967296:=by
  by_cases h:0<=n
  ·rw[jx h] at hq;omega
  ·rw[tmod_neg (by omega)] at hq;omega
 rw[hq];obtain⟨h1,h2⟩:=hb;by_cases h3:q<0
 ·rw[if_pos h3];by_cases h4:2147483648<=q+4294967296
  ·rw[if_pos h4];go_enter func154,ntmps154;go_wp2;go_ret;have e9:q+4294967296-4294967296=q:=by omega
   rw[e9];exact⟨rfl,rfl⟩
  ·rw[if_neg h4];have h5:q+4294967296<2147483648:=by omega
   go_enter func154,ntmps154;go_wp2;go_ret;exact⟨rfl,rfl⟩
 ·rw[if_neg h3];have Mz:0<=q:=by omega
  by_cases h4:2147483648<=q
  ·rw[if_pos h4];go_enter func154,ntmps154;go_wp2;go_ret;exact⟨rfl,rfl⟩
  ·rw[if_neg h4];have h5:q<2147483648:=by omega
   go_enter func154,ntmps154;go_wp2;go_ret;exact⟨rfl,rfl⟩
def qJ (right:Bool) (n:Nat) (x:Int):Int:=if right then qG n x else uY n x
theorem Dw (right:Bool) {x y:Int} (hx:dZ x) (b:Nat) (hb:b=32\/b=64):Calls prog 175 #[.bool right,.int .i64 x,.int .i64 y,.int .i64 b] w fun r w'=>r=.returned (.int .i64 (qJ right (y % (b:Int)).toNat x))/\w'=w:=by
 have Ev:((b:Int) == 0)=false:=beqn (by omega);have Se:((b:Int) == -1)=false:=beqn (by omega);have Ns:32<=(b:Int)/\(b:Int)<=64:=by omega
 obtain⟨q,hq⟩:∃q,y.tmod (b:Int)=q:=⟨_,rfl⟩;obtain⟨k0,uH⟩:∃k0:Nat,(y % (b:Int)).toNat=k0:=⟨_,rfl⟩;have hqb:-64<q/\q<64/\(k0:Int)=if q<0 then q+b else q:=by
  have p1:=Int.emod_nonneg y (show (b:Int)≠0 by omega);have p2:=Int.emod_lt_of_pos y (show (0:Int)<b by omega);rcases hb with rfl|rfl
  ·by_cases h:0<=y
   ·rw[jx h] at hq;split <;> omega
   ·rw[tmod_neg (by omega)] at hq;split <;> omega
  ·by_cases h:0<=y
   ·rw[jx h] at hq;split <;> omega
   ·rw[tmod_neg (by omega)] at hq;split <;> omega
 obtain⟨q1,q2,q3⟩:=hqb;have UN:k0<=64:=by split at q3 <;> omega
 rw[uH];have HK:Hid _:=uH;have HQ:Hid _:=q3;obtain⟨b1,b2⟩:=Ns;clear uH q3 hb;go_enter func175,ntmps175;go_wp2_with fail;all_goals
  go_loopw [1,9] (fun v i wr=>∃(k:Nat) (x':Int),v=.int .i64 x'/\i=.int .i64 k/\k<=64/\dZ x'/\wr=w/\Hid (qJ right k x'=qJ right k0 x)) (fun _ i _=>(intOf i).toNat)
  case atStart =>
   refine⟨k0,x,rfl,?_,UN,hx,rfl,rfl⟩;have h9:=HQ.out;first|rw[if_pos (by omega)] at h9|rw[if_neg (by omega)] at h9
   rw[h9]
  case round =>
   obtain⟨k,x',rfl,rfl,hk,OV,vF,HR⟩:=hrel;subst vF;obtain⟨u,hu⟩:∃u,x'.tmod 2=u:=⟨_,rfl⟩;have rQ:(k:Int)<=64:=by omega
   cases k with
   | zero =>
    go_wp2_with fail;go_ret;refine⟨?_,rfl⟩;rw[<-HR.out];cases right <;> rfl
   | succ k =>
    have mD:0<((k+1:Nat):Int):=by omega
    have x1:-9223372036854775808<=x':=OV.1;have x2:x'<=9223372036854775807:=OV.2;cases right with
    | false =>
     go_wp2_with fail;go_roundw
     case rel=>exact⟨k,wrap64 (x'+x'),rfl,by simp,by omega,gw _,by trivial,HR.out⟩
     case measure=>simp[intOf]
    | true =>
     have hh:x' / 2=(if x'<0/\u≠0 then x'.tdiv 2-1 else x'.tdiv 2):=by
      split
      ·rename_i c;rw[Gp c.1 (by rw[hu];exact c.2)]
      ·rename_i c;by_cases h0:0<=x'
       ·rw[Gq h0]
       ·rw[Du (by rw[hu];omega)]
     obtain⟨z,hz⟩:∃z,x'.tdiv 2=z:=⟨_,rfl⟩;have hzb:-4611686018427387904<=z/\z<=4611686018427387904:=by
      by_cases h0:0<=x'
      ·rw[pU h0] at hz;omega
      ·rw[tdiv_neg (by omega)] at hz;omega
     obtain⟨z1,z2⟩:=hzb;rw[hz] at hh;by_cases CO:x'<0
     ·by_cases Gv:u=0
      ·rw[if_neg (by omega)] at hh;have HH:Hid _:=hh;clear hh;subst Gv;go_wp2_with fail;go_roundw
       case rel=>exact⟨k,z,rfl,by simp,by omega,by unfold dZ;omega,by trivial,by have:=HR.out;unfold qJ at this ⊢;rw[if_pos rfl] at this ⊢;rw[qG,HH.out] at this;exact this⟩
       case measure=>simp[intOf]
      ·rw[if_pos ⟨CO,Gv⟩] at hh;have HH:Hid _:=hh;have hu1:(u != 0)=true:=by rw[bne_iff_ne];exact Gv
       have lO:(u == 0)=false:=by rw[beq_eq_false_iff_ne];exact Gv
       clear hh Gv;go_wp2_with fail;go_roundw
       case rel=>exact⟨k,z-1,rfl,by simp,by omega,by unfold dZ;omega,by trivial,by have:=HR.out;unfold qJ at this ⊢;rw[if_pos rfl] at this ⊢;rw[qG,HH.out] at this;exact this⟩
       case measure=>simp[intOf]
     ·rw[if_neg (by omega)] at hh;have XS:0<=x':=by omega
      have HH:Hid _:=hh;clear hh;go_wp2_with fail;go_roundw
      case rel=>exact⟨k,z,rfl,by simp,by omega,by unfold dZ;omega,by trivial,by have:=HR.out;unfold qJ at this ⊢;rw[if_pos rfl] at this ⊢;rw[qG,HH.out] at this;exact this⟩
      case measure=>simp[intOf]
end
section
variable {w w':World}{c W f gl m left ay e waits:Nat}{ended:Bool}{L S:List TV}{v:Value}
theorem aI.machine (h:aI w c W f gl L S):w.cell? ⟨c,0,none⟩=some (ptr W):=by obtain⟨vL,vS,h1,_⟩:=h;have:=h1.cell 0;simpa using this
def wo (w:World) (W m left ay e0 waits e:Nat):Prop:=cE w W m left ay (e != 0) (if e=0 then e0 else e) waits
theorem Bf (hc:aI w c W f gl L S) (hm:cE w W m left ay false e waits) (rest:Bool) {x y least:Int} (hx:dZ x) (hy:dZ y):Calls prog 174 #[ptr c,.bool rest,.int .i64 x,.int .i64 y,.int .i64 least] w fun r w'=>r=.returned (.int .i64 (wrap64 (fd rest x y least).1))/\w.grownBy w' (some W)/\wo w' W m left ay e waits (fd rest x y least).2:=by
 have Ly:wrap64 0=0:=dc (by unfold dZ;omega);have c0:=hc.machine;have iX:=hc.lt.1;obtain⟨x1,x2⟩:=hx;obtain⟨y1,y2⟩:=hy;unfold fd;by_cases h0:y=0
 ·rw[if_pos h0];have hN:=ny hm 2;subst h0;have FIN:Hid _:=hm;clear hm hc;go_enter func174,ntmps174;go_wp2_with fail;refine hN.mono ?_;clear hN;rintro e w2 ⟨rfl,aP,gY⟩;go_wp2_with fail;go_ret;exact⟨by first|rfl|(rw[Ly];rfl),aP,gY⟩
 ·rw[if_neg h0];have b0:(y == 0)=false:=by rw[beq_eq_false_iff_ne];exact h0
  by_cases h1:y = -1
  ·rw[if_pos h1];have b1:(y == -1)=true:=by rw[beq_iff_eq];exact h1
   clear h1 h0;cases rest with
   | true =>
    clear hc;go_enter func174,ntmps174;go_wp2_with fail;go_ret;exact⟨by first|rfl|(rw[Ly];rfl),aH _ _,hm⟩
   | false =>
    simp only[Bool.false_eq_true,if_false];by_cases h2:x=least
    ·rw[if_pos h2];have b2:(x == least)=true:=by rw[beq_iff_eq];exact h2
     clear h2;have hN:=ny hm 3;clear hm hc;go_enter func174,ntmps174;go_wp2_with fail;refine hN.mono ?_;clear hN;rintro e w2 ⟨rfl,aP,gY⟩;go_wp2_with fail;go_ret;exact⟨by first|rfl|(rw[Ly];rfl),aP,gY⟩
    ·rw[if_neg h2];have b2:(x == least)=false:=by rw[beq_eq_false_iff_ne];exact h2
     clear h2 hc;go_enter func174,ntmps174;go_wp2_with fail;go_ret;exact⟨rfl,aH _ _,hm⟩
  ·rw[if_neg h1];have b1:(y == -1)=false:=by rw[beq_eq_false_iff_ne];exact h1
   clear h1;cases rest with
   | true =>
    simp only[if_true];clear hc;have hq:dZ (x.tmod y):=zq ⟨x1,x2⟩ y;obtain⟨q,B6⟩:∃q,x.tmod y=q:=⟨_,rfl⟩;rw[B6] at hq ⊢;rw[dc hq];go_enter func174,ntmps174;go_wp2_with fail;go_ret;exact⟨rfl,aH _ _,hm⟩
   | false =>
    simp only[Bool.false_eq_true,if_false];clear hc;go_enter func174,ntmps174;go_wp2_with fail;go_ret;exact⟨rfl,aH _ _,hm⟩
end
theorem km (c0 c1:Value) (w:World):(Instr.field 134 (.agg #[c0,c1]) 1).run prog w=.ok c1 w:=by kernel_rfl
structure Fc (c W gl:Nat) (w w':World):Prop where
 os:w'.os=w.os
 tape:w'.tape=w.tape
 output:w'.output=w.output
 size:w.heap.size<=w'.heap.size
 block:∀i,i<w.heap.size->i≠c->i≠W->i≠gl->w'.heap[i]?=w.heap[i]?
section
variable {w w' w2:World}{c W f gl m left ay e waits:Nat}{ended:Bool}{L S:List TV}{v:Value}
theorem Fc.refl:Fc c W gl w w:=⟨rfl,rfl,rfl,nLr _,fun _ _ _ _ _=>rfl⟩
theorem Fc.trans (h:Fc c W gl w w') (k:Fc c W gl w' w2):Fc c W gl w w2:=⟨k.os.trans h.os,k.tape.trans h.tape,k.output.trans h.output,Nat.le_trans h.size k.size,fun i hi h1 h2 h3=>(k.block i (Nat.lt_of_lt_of_le hi h.size) h1 h2 h3).trans (h.block i hi h1 h2 h3)⟩
theorem Fc.none (h:w.grownBy w' none):Fc c W gl w w':=⟨h.os,h.tape,h.output,h.size,fun i hi _ _ _=>h.block i hi (by simp)⟩
theorem Fc.call (h:w.grownBy w' (some c)):Fc c W gl w w':=⟨h.os,h.tape,h.output,h.size,fun i hi h1 _ _=>h.block i hi (by simpa using h1)⟩
theorem Fc.mach (h:w.grownBy w' (some W)):Fc c W gl w w':=⟨h.os,h.tape,h.output,h.size,fun i hi _ h1 _=>h.block i hi (by simpa using h1)⟩
theorem Fc.locs (h:w.grownBy w' (some gl)):Fc c W gl w w':=⟨h.os,h.tape,h.output,h.size,fun i hi _ _ h1=>h.block i hi (by simpa using h1)⟩
theorem Fc.keep (h:Fc c W gl w w') {g t:Nat}{cs:Array Value} (hb:Blk w g cs t) (h1:g≠c) (h2:g≠W) (h3:g≠gl):Blk w' g cs t:=(h.block g hb.lt h1 h2 h3).trans hb
theorem jP {w:World}{g g' t t':Nat}{c c':Array Value} (h:Blk w g c t) (h':Blk w g' c' t') (ec:t≠t'):g≠g':=by intro e;subst e;have h2:=h.symm.trans h';cases h2;exact ec rfl
theorem aI.ne (h:aI w c W f gl L S) {g t:Nat}{cs:Array Value} (hb:Blk w g cs t) (h1:t≠132) (h2:t≠134):g≠c/\g≠gl:=by
 obtain⟨vL,vS,a1,a2,_⟩:=h;have hc:=jP hb a1 h1;refine⟨hc,?_⟩;rcases a2 with⟨_,_,rfl⟩|⟨cap,cs',_,q,_⟩
 ·exact hc
 ·exact jP hb q h2
theorem Fc.types (h:Fc c W gl w w') (hc:aI w c W f gl L S) (hm:cE w W m left ay ended e waits) {g t:Nat}{cs:Array Value} (hb:Blk w g cs t) (h1:t≠132) (h2:t≠134) (h3:t≠128):Blk w' g cs t:=
 h.keep hb (hc.ne hb h1 h2).1 (jP hb hm h3) (hc.ne hb h1 h2).2
theorem cE.wroteC (h:cE w W m left ay ended e waits) (hc:aI w c W f gl L S) (k:w.grownBy w' (some c)):cE w' W m left ay ended e waits:=by obtain⟨vL,vS,a1,_⟩:=hc;exact aF k a1 h (by decide)
def iL (op t r:Nat):Prop:=(t=1/\op=30+r)\/(t=2/\op=50+r)
theorem Dx {op t r:Nat}{x y:Int} (ho:iL op t r) (hr:r=0\/r=1\/r=2\/r=5\/r=6\/r=7) (hc:aI w c W f gl L (S++[(t,x)]++[(t,y)])) (hm:cE w W m left ay false e waits) (hS:S.length<=900000) (hx:dZ x) (hy:dZ y) :
  Calls prog 155 #[ptr c,.int .i64 op] w fun res w'=>res=.returned (.tuple #[])/\Fc c W gl w w'/\aI w' c W f gl L (S++[(t,(kz t r x y).1)])/\cE w' W m left ay false e waits:=by
 have iV:=tM (t':=t) hc (.inr rfl) (by simp;omega);have qK:=fun (W2:World) (h2:aI W2 c W f gl L (S++[(t,x)]))=>tM (t':=t) h2 (.inr rfl) (by omega);have og:=fun (W2:World) (n:Int) (h2:aI W2 c W f gl L S)=>Ds (t:=t) (n:=n) h2 (by omega);have n40:((op:Int) == 40)=false:=by rw[beq_eq_false_iff_ne];unfold iL at ho;omega
 have n60:((op:Int) == 60)=false:=by rw[beq_eq_false_iff_ne];unfold iL at ho;omega
 have n41:((op:Int) == 41)=false:=by rw[beq_eq_false_iff_ne];unfold iL at ho;omega
 have n61:((op:Int) == 61)=false:=by rw[beq_eq_false_iff_ne];unfold iL at ho;omega
 have mA:(op:Int).tmod 10=(r:Int):=by rw[jx (by omega)];unfold iL at ho;omega
 obtain⟨x1,x2⟩:=hx;obtain⟨y1,y2⟩:=hy;rcases ho with⟨rfl,ho⟩|⟨rfl,ho⟩
 ·have lo:(op:Int)<50:=by omega
  clear ho;simp only[show ((1:Nat):Int)=1 from rfl] at iV qK og
  have qL:Hid _:=og;have rM:Hid _:=qK;clear og qK;have lv:=km;rcases hr with rfl|rfl|rfl|rfl|rfl|rfl;all_goals
   simp only[show ((0:Nat):Int)=0 from rfl,show ((1:Nat):Int)=1 from rfl,show ((2:Nat):Int)=2 from rfl,show ((5:Nat):Int)=5 from rfl,show ((6:Nat):Int)=6 from rfl,show ((7:Nat):Int)=7 from rfl] at mA
   go_enter func155,ntmps155;go_wp2_with fail;refine iV.mono ?_;clear iV;rintro e1 w2 ⟨rfl,aP,fc⟩;go_wp2_with fail;refine(rM.out w2 fc).mono ?_;rintro e2 w3 ⟨rfl,co,gz⟩;have md:=(hm.wroteC hc aP).wroteC fc co;have et:Fc c W gl w w3:=(Fc.call aP).trans (Fc.call co);clear aP co fc hc hm rM;go_wp2_with (go_at_call 154;refine(o7 _).mono ?_;rintro e3 w4 ⟨rfl,ye⟩;subst ye)
   refine(qL.out _ _ gz).mono ?_;rintro e5 w5 ⟨rfl,jA,pm⟩;have qn:=md.wroteC gz jA;have iv:=et.trans (Fc.call jA);clear md et jA gz qL;go_wp2_with fail;go_end0;refine⟨rfl,iv,?_,qn⟩;rw[oY] at pm;exact pm
 ·have lo:50<=(op:Int):=by omega
  clear ho;simp only[show ((2:Nat):Int)=2 from rfl] at iV qK og
  have qL:Hid _:=og;have rM:Hid _:=qK;clear og qK;have lv:=km;rcases hr with rfl|rfl|rfl|rfl|rfl|rfl;all_goals
   simp only[show ((0:Nat):Int)=0 from rfl,show ((1:Nat):Int)=1 from rfl,show ((2:Nat):Int)=2 from rfl,show ((5:Nat):Int)=5 from rfl,show ((6:Nat):Int)=6 from rfl,show ((7:Nat):Int)=7 from rfl] at mA
   go_enter func155,ntmps155;go_wp2_with fail;refine iV.mono ?_;clear iV;rintro e1 w2 ⟨rfl,aP,fc⟩;go_wp2_with fail;refine(rM.out w2 fc).mono ?_;rintro e2 w3 ⟨rfl,co,gz⟩;have md:=(hm.wroteC hc aP).wroteC fc co;have et:Fc c W gl w w3:=(Fc.call aP).trans (Fc.call co);clear aP co fc hc hm rM;go_wp2_with fail;refine(qL.out _ _ gz).mono ?_;rintro e5 w5 ⟨rfl,jA,pm⟩;have qn:=md.wroteC gz jA;have iv:=et.trans (Fc.call jA);clear md et jA gz qL;go_wp2_with fail;go_end0;refine⟨rfl,iv,?_,qn⟩;first
    | (rw[show (kz 2 0 x y).1=wrap64 (x+y) from dc (gw _)];exact pm)
    | (rw[show (kz 2 1 x y).1=wrap64 (x-y) from dc (gw _)];exact pm)
    | (rw[show (kz 2 2 x y).1=wrap64 (x*y) from dc (gw _)];exact pm)
    | (rw[show (kz 2 5 x y).1=bits .and .i64 x y from dc (gH .and x y)];exact pm)
    | (rw[show (kz 2 6 x y).1=bits .or .i64 x y from dc (gH .or x y)];exact pm)
    | (rw[show (kz 2 7 x y).1=bits .xor .i64 x y from dc (gH .xor x y)];exact pm)
theorem Bg {op t r:Nat}{x y:Int} (ho:iL op t r) (hr:r=3\/r=4) (hc:aI w c W f gl L (S++[(t,x)]++[(t,y)])) (hm:cE w W m left ay false e waits) (hS:S.length<=900000) (hx:dZ x) (hy:dZ y) :
  Calls prog 155 #[ptr c,.int .i64 op] w fun res w'=>res=.returned (.tuple #[])/\Fc c W gl w w'/\aI w' c W f gl L (S++[(t,(kz t r x y).1)])/\wo w' W m left ay e waits (kz t r x y).2:=by
 have iV:=tM (t':=t) hc (.inr rfl) (by simp;omega);have qK:=fun (W2:World) (h2:aI W2 c W f gl L (S++[(t,x)]))=>tM (t':=t) h2 (.inr rfl) (by omega);have Gw:=fun (W2:World) (h2:aI W2 c W f gl L S) (rL:cE W2 W m left ay false e waits) (least:Int)=>Bf (least:=least) h2 rL (r == 4) hx hy;have og:=fun (W2:World) (n:Int) (h2:aI W2 c W f gl L S)=>Ds (t:=t) (n:=n) h2 (by omega);have n40:((op:Int) == 40)=false:=by rw[beq_eq_false_iff_ne];unfold iL at ho;omega
 have n60:((op:Int) == 60)=false:=by rw[beq_eq_false_iff_ne];unfold iL at ho;omega
 have n41:((op:Int) == 41)=false:=by rw[beq_eq_false_iff_ne];unfold iL at ho;omega
 have n61:((op:Int) == 61)=false:=by rw[beq_eq_false_iff_ne];unfold iL at ho;omega
 have mA:(op:Int).tmod 10=(r:Int):=by rw[jx (by omega)];unfold iL at ho;omega
 have Iw:Hid _:=Gw;clear Gw;have lv:=km;rcases ho with⟨rfl,ho⟩|⟨rfl,ho⟩
 ·have lo:(op:Int)<50:=by omega
  clear ho;simp only[show ((1:Nat):Int)=1 from rfl] at iV qK og
  have qL:Hid _:=og;have rM:Hid _:=qK;clear og qK;rcases hr with rfl|rfl;all_goals
   simp only[show ((3:Nat):Int)=3 from rfl,show ((4:Nat):Int)=4 from rfl] at mA
   go_enter func155,ntmps155;go_wp2_with fail;refine iV.mono ?_;clear iV;rintro e1 w2 ⟨rfl,aP,fc⟩;go_wp2_with fail;refine(rM.out w2 fc).mono ?_;rintro e2 w3 ⟨rfl,co,gz⟩;have md:=(hm.wroteC hc aP).wroteC fc co;have et:Fc c W gl w w3:=(Fc.call aP).trans (Fc.call co);clear aP co fc hc hm rM;go_wp2_with fail;refine(Iw.out w3 gz md _).mono ?_;rintro e4 w4 ⟨rfl,dv,zr⟩;have xX:=gz.wroteW md dv;have fD:=et.trans (Fc.mach dv);clear et dv gz md Iw;go_wp2_with (go_at_call 154;refine(o7 _).mono ?_;rintro e3 w6 ⟨rfl,J4⟩;subst J4)
   refine(qL.out _ _ xX).mono ?_;rintro e5 w5 ⟨rfl,jA,pm⟩;have qn:wo _ _ _ _ _ _ _ _:=cE.wroteC zr xX jA;have iv:=fD.trans (Fc.call jA);clear zr fD jA xX qL;go_wp2_with fail;go_end0;refine⟨rfl,iv,?_,qn⟩;rw[oY,nC] at pm;exact pm
 ·have lo:50<=(op:Int):=by omega
  clear ho;simp only[show ((2:Nat):Int)=2 from rfl] at iV qK og
  have qL:Hid _:=og;have rM:Hid _:=qK;clear og qK;rcases hr with rfl|rfl;all_goals
   simp only[show ((3:Nat):Int)=3 from rfl,show ((4:Nat):Int)=4 from rfl] at mA
   go_enter func155,ntmps155;go_wp2_with fail;refine iV.mono ?_;clear iV;rintro e1 w2 ⟨rfl,aP,fc⟩;go_wp2_with fail;refine(rM.out w2 fc).mono ?_;rintro e2 w3 ⟨rfl,co,gz⟩;have md:=(hm.wroteC hc aP).wroteC fc co;have et:Fc c W gl w w3:=(Fc.call aP).trans (Fc.call co);clear aP co fc hc hm rM;go_wp2_with fail;refine(Iw.out w3 gz md _).mono ?_;rintro e4 w4 ⟨rfl,dv,zr⟩;have xX:=gz.wroteW md dv;have fD:=et.trans (Fc.mach dv);clear et dv gz md Iw;go_wp2_with fail;refine(qL.out _ _ xX).mono ?_;rintro e5 w5 ⟨rfl,jA,pm⟩;have qn:wo _ _ _ _ _ _ _ _:=cE.wroteC zr xX jA;have iv:=fD.trans (Fc.call jA);clear zr fD jA xX qL;go_wp2_with fail;go_end0;exact⟨rfl,iv,pm,qn⟩
theorem Dy {op t r:Nat}{x y:Int} (ho:iL op t r) (hr:r=8\/r=9) (hc:aI w c W f gl L (S++[(t,x)]++[(t,y)])) (hm:cE w W m left ay false e waits) (hS:S.length<=900000) (hx:dZ x) (hy:dZ y) :
  Calls prog 155 #[ptr c,.int .i64 op] w fun res w'=>res=.returned (.tuple #[])/\Fc c W gl w w'/\aI w' c W f gl L (S++[(t,(kz t r x y).1)])/\cE w' W m left ay false e waits:=by
 have iV:=tM (t':=t) hc (.inr rfl) (by simp;omega);have qK:=fun (W2:World) (h2:aI W2 c W f gl L (S++[(t,x)]))=>tM (t':=t) h2 (.inr rfl) (by omega);have Gw:=fun (W2:World)=>Dw (w:=W2) (r == 9) (y:=y) hx (if t=2 then 64 else 32) (by split <;> simp);have og:=fun (W2:World) (n:Int) (h2:aI W2 c W f gl L S)=>Ds (t:=t) (n:=n) h2 (by omega);have n40:((op:Int) == 40)=false:=by rw[beq_eq_false_iff_ne];unfold iL at ho;omega
 have n60:((op:Int) == 60)=false:=by rw[beq_eq_false_iff_ne];unfold iL at ho;omega
 have n41:((op:Int) == 41)=false:=by rw[beq_eq_false_iff_ne];unfold iL at ho;omega
 have n61:((op:Int) == 61)=false:=by rw[beq_eq_false_iff_ne];unfold iL at ho;omega
 have mA:(op:Int).tmod 10=(r:Int):=by rw[jx (by omega)];unfold iL at ho;omega
 have lv:=km;rcases ho with⟨rfl,ho⟩|⟨rfl,ho⟩
 ·have lo:(op:Int)<50:=by omega
  clear ho;rw[if_neg (by decide)] at Gw;simp only[show ((1:Nat):Int)=1 from rfl] at iV qK og
  simp only[show ((32:Nat):Int)=32 from rfl] at Gw
  have Iw:Hid _:=Gw;have qL:Hid _:=og;have rM:Hid _:=qK;clear og qK Gw;rcases hr with rfl|rfl;all_goals
   simp only[show ((8:Nat):Int)=8 from rfl,show ((9:Nat):Int)=9 from rfl] at mA
   go_enter func155,ntmps155;go_wp2_with fail;refine iV.mono ?_;clear iV;rintro e1 w2 ⟨rfl,aP,fc⟩;go_wp2_with fail;refine(rM.out w2 fc).mono ?_;rintro e2 w3 ⟨rfl,co,gz⟩;have md:=(hm.wroteC hc aP).wroteC fc co;have et:Fc c W gl w w3:=(Fc.call aP).trans (Fc.call co);clear aP co fc hc hm rM;go_wp2_with fail;refine(Iw.out w3).mono ?_;rintro e4 w4 ⟨rfl,ye⟩;subst ye;clear Iw;go_wp2_with (go_at_call 154;refine(o7 _).mono ?_;rintro e3 w6 ⟨rfl,J4⟩;subst J4)
   refine(qL.out _ _ gz).mono ?_;rintro e5 w5 ⟨rfl,jA,pm⟩;have qn:=md.wroteC gz jA;have iv:=et.trans (Fc.call jA);clear md et jA gz qL;go_wp2_with fail;go_end0;refine⟨rfl,iv,?_,qn⟩;rw[oY] at pm;exact pm
 ·have lo:50<=(op:Int):=by omega
  clear ho;rw[if_pos rfl] at Gw;simp only[show ((2:Nat):Int)=2 from rfl] at iV qK og
  simp only[show ((64:Nat):Int)=64 from rfl] at Gw
  have Iw:Hid _:=Gw;have qL:Hid _:=og;have rM:Hid _:=qK;clear og qK Gw;rcases hr with rfl|rfl;all_goals
   simp only[show ((8:Nat):Int)=8 from rfl,show ((9:Nat):Int)=9 from rfl] at mA
   go_enter func155,ntmps155;go_wp2_with fail;refine iV.mono ?_;clear iV;rintro e1 w2 ⟨rfl,aP,fc⟩;go_wp2_with fail;refine(rM.out w2 fc).mono ?_;rintro e2 w3 ⟨rfl,co,gz⟩;have md:=(hm.wroteC hc aP).wroteC fc co;have et:Fc c W gl w w3:=(Fc.call aP).trans (Fc.call co);clear aP co fc hc hm rM;go_wp2_with fail;refine(Iw.out w3).mono ?_;rintro e4 w4 ⟨rfl,ye⟩;subst ye;clear Iw;go_wp2_with fail;refine(qL.out _ _ gz).mono ?_;rintro e5 w5 ⟨rfl,jA,pm⟩;have qn:=md.wroteC gz jA;have iv:=et.trans (Fc.call jA);clear md et jA gz qL;go_wp2_with fail;go_end0;refine⟨rfl,iv,?_,qn⟩;first
    | (rw[show (kz 2 8 x y).1=uY (y % 64).toNat x from (by show wrap64 (uY (y % 64).toNat x)=_;rw[rV _ hx];exact dc (gw _))];exact pm)
    | (rw[show (kz 2 9 x y).1=qG (y % 64).toNat x from (by show wrap64 (qG (y % 64).toNat x)=_;rw[rW];exact dc (zp hx _))];exact pm)
theorem wq {op t:Nat}{x y:Int}{lt:Bool} (ho:(t=1/\op=(if lt then 41 else 40))\/(t=2/\op=(if lt then 61 else 60))) (hc:aI w c W f gl L (S++[(t,x)]++[(t,y)])) (hm:cE w W m left ay false e waits) (hS:S.length<=900000) :
  Calls prog 155 #[ptr c,.int .i64 op] w fun res w'=>res=.returned (.tuple #[])/\Fc c W gl w w'/\aI w' c W f gl L (S++[(1,bx (if lt then decide (x<y) else decide (x=y)))])/\cE w' W m left ay false e waits:=by
 have iV:=tM (t':=t) hc (.inr rfl) (by simp;omega);have qK:=fun (W2:World) (h2:aI W2 c W f gl L (S++[(t,x)]))=>tM (t':=t) h2 (.inr rfl) (by omega);have og:=fun (W2:World) (n:Int) (h2:aI W2 c W f gl L S)=>Ds (t:=1) (n:=n) h2 (by omega);have XT:=fun (W2:World) (b:Bool)=>J3 (w:=W2) b;simp only[show ((1:Nat):Int)=1 from rfl] at og
 have XU:Hid _:=XT;have qL:Hid _:=og;have lv:=km;have rM:Hid _:=qK;clear og qK XT;rcases ho with⟨rfl,ho⟩|⟨rfl,ho⟩;all_goals
  cases lt;all_goals
   simp only[Bool.false_eq_true,if_false,if_true] at ho ⊢;subst ho;simp only[show ((1:Nat):Int)=1 from rfl,show ((2:Nat):Int)=2 from rfl] at iV
   go_enter func155,ntmps155;go_wp2_with fail;refine iV.mono ?_;clear iV;rintro e1 w2 ⟨rfl,aP,fc⟩;go_wp2_with fail;refine(rM.out w2 fc).mono ?_;rintro e2 w3 ⟨rfl,co,gz⟩;have md:=(hm.wroteC hc aP).wroteC fc co;have et:Fc c W gl w w3:=(Fc.call aP).trans (Fc.call co);clear aP co fc hc hm rM;go_wp2_with fail;refine(XU.out w3 _).mono ?_;rintro e4 w4 ⟨rfl,ye⟩;subst ye;clear XU;go_wp2_with fail;refine(qL.out _ _ gz).mono ?_;rintro e5 w5 ⟨rfl,jA,pm⟩;have qn:=md.wroteC gz jA;have iv:=et.trans (Fc.call jA);clear md et jA gz qL;go_wp2_with fail;first|go_end0|refine bodyPost_ret (results_none rfl _ _ _) rfl ?_
   exact⟨rfl,iv,pm,qn⟩
end
