import Derived.Test.YtjbdgbdcnjopkaaGreatDoorS24
import Derived.Test.YtjbdgbdcnjopkaaGreatDoorS36
namespace Go.Proofs.YtjbdgbdcnjopkaaGreatDoor
open Go.RowKit Tryz
set_option linter.all false
set_option maxRecDepth 100000
set_option maxHeartbeats 4000000
theorem jx{a b:Int}(h:0<=a):a.tmod b=a % b:=Int.tmod_eq_emod_of_nonneg h
theorem tmod_neg{a b:Int}(h:a<0):a.tmod b = -((-a) % b):=by have:=Int.neg_tmod (-a) b;rw[Int.neg_neg]at this;rw[this,jx (by omega)]
theorem pU{a b:Int}(h:0<=a):a.tdiv b=a / b:=Int.tdiv_eq_ediv_of_nonneg h
theorem tdiv_neg{a b:Int}(h:a<0):a.tdiv b = -((-a) / b):=by have:=Int.neg_tdiv (-a) b;rw[Int.neg_neg]at this;rw[this,pU (by omega)]
def rU(n:Int):Int:=
 let m:=if n.tmod 4294967296<0 then n.tmod 4294967296+4294967296 else n.tmod 4294967296
 if 2147483648<=m then m-4294967296 else m
theorem oY(n:Int):rU n=wrap32 n:=by
 unfold rU wrap32;by_cases h:0<=n
 ·rw[jx h];simp only;split <;> split <;> omega
 rw[tmod_neg (by omega)];simp only;split <;> split <;> omega
def uY:Nat->Int->Int
 |0,x=>x
 |n+1,x=>uY n (wrap64 (x+x))
def qG:Nat->Int->Int
 |0,x=>x
 |n+1,x=>qG n (x / 2)
theorem dc{x:Int}(h:dZ x):wrap64 x=x:=by unfold dZ at h;unfold wrap64;omega
theorem qH{x:Int}(h:eX x):wrap32 x=x:=by unfold eX at h;unfold wrap32;omega
theorem Bd(a k:Int):wrap64 (wrap64 a*k)=wrap64 (a*k):=by
 have h:∃q:Int,wrap64 a=a+q*18446744073709551616:=by refine⟨(wrap64 a-a) / 18446744073709551616,?_⟩;unfold wrap64;omega
 obtain⟨q,hq⟩:=h;rw[hq,Int.add_mul];have e:q*18446744073709551616*k=(q*k)*18446744073709551616:=by rw[Int.mul_right_comm]
 rw[e];generalize a*k=z;generalize q*k=y;unfold wrap64;omega
theorem gw(x:Int):dZ (wrap64 x):=by unfold dZ wrap64;omega
theorem rV:∀(n:Nat) {x:Int},dZ x->uY n x=wrap64 (x*2 ^ n)
 |0,x,h=>by rw[uY];simp;exact(dc h).symm
 |n+1,x,h=>by
  rw[uY,rV n (gw _),Bd]
  congr 1
  rw[Int.pow_succ,<-Int.two_mul,Int.mul_comm 2 x,Int.mul_assoc,Int.mul_comm 2 (2 ^ n)]
theorem rW:∀(n:Nat) (x:Int),qG n x=x / 2 ^ n
 |0,x=>by simp[qG]
 |n+1,x=>by rw[qG,rW n,Int.ediv_ediv_of_nonneg (by decide),Int.pow_succ,Int.mul_comm]
theorem Gp{x:Int}(h:x<0)(ho:x.tmod 2≠0):x.tdiv 2-1=x / 2:=by rw[tmod_neg h]at ho;rw[tdiv_neg h];omega
theorem Du{x:Int}(ho:x.tmod 2=0):x.tdiv 2=x / 2:=by
 by_cases h:0<=x
 ·exact pU h
 rw[tmod_neg (by omega)]at ho;rw[tdiv_neg (by omega)];omega
theorem Gq{x:Int}(h:0<=x):x.tdiv 2=x / 2:=pU h
theorem nC(z:Int):wrap32 (wrap64 z)=wrap32 z:=by unfold wrap32 wrap64;omega
theorem nD(a b:Nat)(h:a % 4294967296=b % 4294967296):wrap32 (a:Int)=wrap32 (b:Int):=by unfold wrap32;omega
theorem jg(x:Int):(BitVec.ofInt 64 x).setWidth 32=BitVec.ofInt 32 x:=by apply BitVec.eq_of_toNat_eq;simp only[BitVec.toNat_setWidth,BitVec.toNat_ofInt];omega
theorem qI(op:BinOp)(ex:op=.and\/op=.or\/op=.xor)(x y:Int):wrap32 (bits op .i64 x y)=bits op .i32 x y:=by
 unfold bits;rcases ex with rfl|rfl|rfl
 ·simp only[aji,ajh,show IntKind.i64.bits=64 from rfl,show IntKind.i32.bits=32 from rfl]
  rw[nC];apply nD;show (BitVec.ofInt 64 x &&& BitVec.ofInt 64 y).toNat % 4294967296=(BitVec.ofInt 32 x &&& BitVec.ofInt 32 y).toNat % 4294967296;have:(BitVec.ofInt 64 x &&& BitVec.ofInt 64 y).setWidth 32=BitVec.ofInt 32 x &&& BitVec.ofInt 32 y:=by rw[BitVec.setWidth_and,jg,jg]
  have h:=congrArg BitVec.toNat this;simp only[BitVec.toNat_setWidth]at h;have h2:=(BitVec.ofInt 32 x &&& BitVec.ofInt 32 y).isLt;omega
 ·simp only[aji,ajh,show IntKind.i64.bits=64 from rfl,show IntKind.i32.bits=32 from rfl]
  rw[nC];apply nD;show (BitVec.ofInt 64 x ||| BitVec.ofInt 64 y).toNat % 4294967296=(BitVec.ofInt 32 x ||| BitVec.ofInt 32 y).toNat % 4294967296;have:(BitVec.ofInt 64 x ||| BitVec.ofInt 64 y).setWidth 32=BitVec.ofInt 32 x ||| BitVec.ofInt 32 y:=by rw[BitVec.setWidth_or,jg,jg]
  have h:=congrArg BitVec.toNat this;simp only[BitVec.toNat_setWidth]at h;have h2:=(BitVec.ofInt 32 x ||| BitVec.ofInt 32 y).isLt;omega
 simp only[aji,ajh,show IntKind.i64.bits=64 from rfl,show IntKind.i32.bits=32 from rfl]
 rw[nC];apply nD;show (BitVec.ofInt 64 x ^^^ BitVec.ofInt 64 y).toNat % 4294967296=(BitVec.ofInt 32 x ^^^ BitVec.ofInt 32 y).toNat % 4294967296;have:(BitVec.ofInt 64 x ^^^ BitVec.ofInt 64 y).setWidth 32=BitVec.ofInt 32 x ^^^ BitVec.ofInt 32 y:=by rw[BitVec.setWidth_xor,jg,jg]
 have h:=congrArg BitVec.toNat this;simp only[BitVec.toNat_setWidth]at h;have h2:=(BitVec.ofInt 32 x ^^^ BitVec.ofInt 32 y).isLt;omega
theorem B4(y:Int):eE .i64 y 64=y % 64:=by
 have h:eE .i64 y 64=IntKind.i64.wrap ((BitVec.ofInt 64 y &&& BitVec.ofInt 64 63).toNat:Int):=rfl;have h2:(BitVec.ofInt 64 y &&& BitVec.ofInt 64 63).toNat=(y % 18446744073709551616).toNat % 64:=by rw[BitVec.toNat_and,BitVec.toNat_ofInt];have e:(BitVec.ofInt 64 63).toNat=2 ^ 6-1:=rfl;rw[e,Nat.and_two_pow_sub_one_eq_mod];rfl
 rw[h,h2];have h3:(((y % 18446744073709551616).toNat % 64:Nat):Int)=y % 64:=by omega
 rw[h3];exact IntWalk.i64_in _ (by omega)
theorem B5(y:Int):eE .i32 y 32=y % 32:=by
 have h:eE .i32 y 32=IntKind.i32.wrap ((BitVec.ofInt 32 y &&& BitVec.ofInt 32 31).toNat:Int):=rfl;have h2:(BitVec.ofInt 32 y &&& BitVec.ofInt 32 31).toNat=(y % 4294967296).toNat % 32:=by rw[BitVec.toNat_and,BitVec.toNat_ofInt];have e:(BitVec.ofInt 32 31).toNat=2 ^ 5-1:=rfl;rw[e,Nat.and_two_pow_sub_one_eq_mod];rfl
 rw[h,h2];have h3:(((y % 4294967296).toNat % 32:Nat):Int)=y % 32:=by omega
 rw[h3];exact IntWalk.i32_in _ (by omega)
def fd(rest:Bool)(x y least:Int):Int×Nat:=
 if y=0 then (0,2) else if y = -1 then (if rest then (0,0) else if x=least then (0,3) else (-x,0)) else if rest then (x.tmod y,0) else (x.tdiv y,0)
theorem oZ{x:Int}(h:eX x):IntKind.i32.wrap x=x:=IntWalk.i32_in x h
theorem Nr{x:Int}(h:dZ x):IntKind.i64.wrap x=x:=IntWalk.i64_in x h
theorem Gr{x y:Int}(hx:eX x)(hy:eX y):(fd false x y (-2147483648)).2=(bZ ⟨21,0,2,1,1⟩ x y).2/\((bZ ⟨21,0,2,1,1⟩ x y).2=0->wrap32 (fd false x y (-2147483648)).1=(bZ ⟨21,0,2,1,1⟩ x y).1):=by
 have e:bZ ⟨21,0,2,1,1⟩ x y=dR .i32 x y:=by unfold bZ;rw[ajd rfl,oZ hx,oZ hy];unfold fy;rw[ajd rfl]
 rw[e];unfold fd dR;by_cases h0:y=0
 ·rw[ajd h0,ajd h0];exact⟨rfl,fun h=>by cases h⟩
 rw[ajc h0,ajc h0];by_cases h1:y = -1
 ·rw[ajd h1];simp only[Bool.false_eq_true,if_false];by_cases h2:x = -2147483648
  ·have hc:y = -1/\x=IntKind.i32.wrap (-x)/\x≠0:=by
    refine⟨h1,?_,?_⟩
    ·rw[ajh];unfold wrap32;omega
    omega
   rw[ajd h2,ajd hc];exact⟨rfl,fun h=>by cases h⟩
  have hw:IntKind.i32.wrap (-x) = -x:=oZ (by unfold eX at hx ⊢;omega);rw[ajc h2,ajc (by rw[hw];omega)];refine⟨rfl,fun _=>?_⟩;rw[h1];have e2:x.tdiv (-1) = -x:=by rw[Int.tdiv_neg,Int.tdiv_one]
  rw[e2,ajh]
 rw[ajc h1];simp only[Bool.false_eq_true,if_false];rw[ajc (fun c=>h1 c.1)];refine⟨rfl,fun _=>?_⟩;rw[ajh]
theorem Gs{x y:Int}(hx:dZ x)(hy:dZ y):(fd false x y (-9223372036854775808)).2=(bZ ⟨21,0,2,2,2⟩ x y).2/\((bZ ⟨21,0,2,2,2⟩ x y).2=0->wrap64 (fd false x y (-9223372036854775808)).1=(bZ ⟨21,0,2,2,2⟩ x y).1):=by
 have e:bZ ⟨21,0,2,2,2⟩ x y=dR .i64 x y:=rfl;rw[e];unfold fd dR;by_cases h0:y=0
 ·rw[ajd h0,ajd h0];exact⟨rfl,fun h=>by cases h⟩
 rw[ajc h0,ajc h0];by_cases h1:y = -1
 ·rw[ajd h1];simp only[Bool.false_eq_true,if_false];by_cases h2:x = -9223372036854775808
  ·rw[ajd h2,ajd ⟨h1,by rw[h2,aji];unfold wrap64;omega,by omega⟩];exact⟨rfl,fun h=>by cases h⟩
  have hw:IntKind.i64.wrap (-x) = -x:=Nr (by unfold dZ at hx ⊢;omega);rw[ajc h2,ajc (by rw[hw];omega)];refine⟨rfl,fun _=>?_⟩;rw[h1];have e2:x.tdiv (-1) = -x:=by rw[Int.tdiv_neg,Int.tdiv_one]
  rw[e2,aji]
 rw[ajc h1];simp only[Bool.false_eq_true,if_false];rw[ajc (fun c=>h1 c.1)];refine⟨rfl,fun _=>?_⟩;rw[aji]
theorem zo{x y least:Int}:fd true x y least=eJ x y:=by
 unfold fd eJ;by_cases h0:y=0
 ·rw[ajd h0,ajd h0]
 rw[ajc h0,ajc h0];by_cases h1:y = -1
 ·rw[ajd h1,h1,Int.tmod_neg,Int.tmod_one];rfl
 rw[ajc h1];rfl
def kz(t r:Nat)(x y:Int):Int×Nat:=
 let v:Int×Nat:=if r=0 then (wrap64 (x+y),0) else if r=1 then (wrap64 (x-y),0) else if r=2 then (wrap64 (x*y),0)
  else if r=3\/r=4 then fd (r==4) x y (if t=2 then -9223372036854775808 else -2147483648)
  else if r=5 then (bits .and .i64 x y,0) else if r=6 then (bits .or .i64 x y,0) else if r=7 then (bits .xor .i64 x y,0)
  else if r=9 then (qG (y % (if t=2 then 64 else 32)).toNat x,0) else (uY (y % (if t=2 then 64 else 32)).toNat x,0)
 (if t=1 then wrap32 v.1 else wrap64 v.1,v.2)
theorem Gt{x:Int}(h:eX x)(n:Nat):eX (x / 2 ^ n):=by
 have:=xC x n;unfold eX at h ⊢;by_cases h0:0<=x
 ·have:=this.1 h0;omega
 have:=this.2 (by omega);omega
theorem zp{x:Int}(h:dZ x)(n:Nat):dZ (x / 2 ^ n):=by
 have:=xC x n;unfold dZ at h ⊢;by_cases h0:0<=x
 ·have:=this.1 h0;omega
 have:=this.2 (by omega);omega
theorem Gu{x:Int}(h:eX x)(y:Int):eX (x.tmod y):=by
 have h1:=rT x y;have h2:=nV x y;unfold eX at h ⊢;by_cases h0:0<=x
 ·have:=h2.1 h0;omega
 have:=h2.2 (by omega);omega
theorem zq{x:Int}(h:dZ x)(y:Int):dZ (x.tmod y):=by
 have h1:=rT x y;have h2:=nV x y;unfold dZ at h ⊢;by_cases h0:0<=x
 ·have:=h2.1 h0;omega
 have:=h2.2 (by omega);omega
theorem Be{x y:Int}(hx:eX x)(hy:eX y){r:Nat}(hr:r<=9):(kz 1 r x y).2=(bZ ⟨18+r,0,2,1,1⟩ x y).2/\((bZ ⟨18+r,0,2,1,1⟩ x y).2=0->(kz 1 r x y).1=(bZ ⟨18+r,0,2,1,1⟩ x y).1):=by
 have e:bZ ⟨18+r,0,2,1,1⟩ x y=fy .i32 32 (18+r) x y:=by show fy .i32 32 (18+r) (IntKind.i32.wrap x) (IntKind.i32.wrap y)=_;rw[oZ hx,oZ hy]
 obtain rfl|rfl|rfl|rfl|rfl|rfl|rfl|rfl|rfl|rfl:r=0\/r=1\/r=2\/r=3\/r=4\/r=5\/r=6\/r=7\/r=8\/r=9:=by omega
 ·rw[e];exact⟨rfl,fun _=>by show wrap32 (wrap64 (x+y))=IntKind.i32.wrap (x+y);rw[nC,ajh]⟩
 ·rw[e];exact⟨rfl,fun _=>by show wrap32 (wrap64 (x-y))=IntKind.i32.wrap (x-y);rw[nC,ajh]⟩
 ·rw[e];exact⟨rfl,fun _=>by show wrap32 (wrap64 (x*y))=IntKind.i32.wrap (x*y);rw[nC,ajh]⟩
 ·exact Gr hx hy
 ·rw[e];have e2:fy .i32 32 (18+4) x y=eJ x y:=rfl;have e3:kz 1 4 x y=(wrap32 (fd true x y (-2147483648)).1,(fd true x y (-2147483648)).2):=rfl;rw[e2,e3,zo];refine⟨rfl,fun h=>?_⟩;unfold eJ;by_cases h0:y=0
  ·rw[ajd h0];exact qH (by unfold eX;decide)
  rw[ajc h0];exact qH (Gu hx y)
 ·rw[e];exact⟨rfl,fun _=>by show wrap32 (bits .and .i64 x y)=bits .and .i32 x y;exact qI _ (.inl rfl) _ _⟩
 ·rw[e];exact⟨rfl,fun _=>by show wrap32 (bits .or .i64 x y)=bits .or .i32 x y;exact qI _ (.inr (.inl rfl)) _ _⟩
 ·rw[e];exact⟨rfl,fun _=>by show wrap32 (bits .xor .i64 x y)=bits .xor .i32 x y;exact qI _ (.inr (.inr rfl)) _ _⟩
 ·rw[e];exact⟨rfl,fun _=>by show wrap32 (uY (y % 32).toNat x)=IntKind.i32.wrap (x*2 ^ (eE .i32 y 32).toNat);rw[B5,rV _ hx.wide,nC,ajh]⟩
 rw[e];exact⟨rfl,fun _=>by show wrap32 (qG (y % 32).toNat x)=x / 2 ^ (eE .i32 y 32).toNat;rw[B5,rW];exact qH (Gt hx _)⟩
theorem Dv{x y:Int}(hx:dZ x)(hy:dZ y){r:Nat}(hr:r<=9):(kz 2 r x y).2=(bZ ⟨18+r,0,2,2,2⟩ x y).2/\((bZ ⟨18+r,0,2,2,2⟩ x y).2=0->(kz 2 r x y).1=(bZ ⟨18+r,0,2,2,2⟩ x y).1):=by
 have e:bZ ⟨18+r,0,2,2,2⟩ x y=fy .i64 64 (18+r) x y:=rfl;have ww:∀z,wrap64 (wrap64 z)=wrap64 z:=fun z=>dc (gw z);obtain rfl|rfl|rfl|rfl|rfl|rfl|rfl|rfl|rfl|rfl:r=0\/r=1\/r=2\/r=3\/r=4\/r=5\/r=6\/r=7\/r=8\/r=9:=by omega
 ·rw[e];exact⟨rfl,fun _=>by show wrap64 (wrap64 (x+y))=IntKind.i64.wrap (x+y);rw[ww,aji]⟩
 ·rw[e];exact⟨rfl,fun _=>by show wrap64 (wrap64 (x-y))=IntKind.i64.wrap (x-y);rw[ww,aji]⟩
 ·rw[e];exact⟨rfl,fun _=>by show wrap64 (wrap64 (x*y))=IntKind.i64.wrap (x*y);rw[ww,aji]⟩
 ·exact Gs hx hy
 ·rw[e];have e2:fy .i64 64 (18+4) x y=eJ x y:=rfl;have e3:kz 2 4 x y=(wrap64 (fd true x y (-9223372036854775808)).1,(fd true x y (-9223372036854775808)).2):=rfl;rw[e2,e3,zo];refine⟨rfl,fun h=>?_⟩;unfold eJ;by_cases h0:y=0
  ·rw[ajd h0];exact dc (by unfold dZ;decide)
  rw[ajc h0];exact dc (zq hx y)
 ·rw[e];exact⟨rfl,fun _=>dc (gH .and x y)⟩
 ·rw[e];exact⟨rfl,fun _=>dc (gH .or x y)⟩
 ·rw[e];exact⟨rfl,fun _=>dc (gH .xor x y)⟩
 ·rw[e];exact⟨rfl,fun _=>by show wrap64 (uY (y % 64).toNat x)=IntKind.i64.wrap (x*2 ^ (eE .i64 y 64).toNat);rw[B4,rV _ hx,ww,aji]⟩
 rw[e];exact⟨rfl,fun _=>by show wrap64 (qG (y % 64).toNat x)=x / 2 ^ (eE .i64 y 64).toNat;rw[B4,rW];exact dc (zp hx _)⟩
section
variable {w:World}
theorem J3(b:Bool):Calls prog 153 #[.bool b] w fun r w'=>r=.returned (.int .i64 (bx b))/\w'=w:=by
 cases b with
 |true=>
  go_enter func153,ntmps153;go_wp2;go_ret;exact⟨rfl,rfl⟩
 |false=>
  go_enter func153,ntmps153;go_wp2;go_ret;exact⟨rfl,rfl⟩
theorem o7(n:Int):Calls prog 154 #[.int .i64 n] w fun r w'=>r=.returned (.int .i64 (rU n))/\w'=w:=by
 unfold rU;obtain⟨q,hq⟩:=aja (n.tmod 4294967296);have hb:-4294967296<q/\q<4294967296:=by
  by_cases h:0<=n
  ·rw[jx h]at hq;omega
  rw[tmod_neg (by omega)]at hq;omega
 rw[hq];obtain⟨h1,h2⟩:=hb;by_cases h3:q<0
 ·rw[ajd h3];by_cases h4:2147483648<=q+4294967296
  ·rw[ajd h4];go_enter func154,ntmps154;go_wp2;go_ret;have e9:q+4294967296-4294967296=q:=by omega
   rw[e9];exact⟨rfl,rfl⟩
  rw[ajc h4];have h5:q+4294967296<2147483648:=by omega
  go_enter func154,ntmps154;go_wp2;go_ret;exact⟨rfl,rfl⟩
 rw[ajc h3];have Mz:0<=q:=by omega
 by_cases h4:2147483648<=q
 ·rw[ajd h4];go_enter func154,ntmps154;go_wp2;go_ret;exact⟨rfl,rfl⟩
 rw[ajc h4];have h5:q<2147483648:=by omega
 go_enter func154,ntmps154;go_wp2;go_ret;exact⟨rfl,rfl⟩
def qJ(right:Bool)(n:Nat)(x:Int):Int:=if right then qG n x else uY n x
theorem Dw(right:Bool){x y:Int}(hx:dZ x)(b:Nat)(hb:b=32\/b=64):Calls prog 175 #[.bool right,.int .i64 x,.int .i64 y,.int .i64 b] w fun r w'=>r=.returned (.int .i64 (qJ right (y % (b:Int)).toNat x))/\w'=w:=by
 have Ev:((b:Int)==0)=false:=beqn (by omega);have Se:((b:Int)==-1)=false:=beqn (by omega);have Ns:32<=(b:Int)/\(b:Int)<=64:=by omega
 obtain⟨q,hq⟩:=aja (y.tmod (b:Int));obtain⟨k0,uH⟩:∃k0:Nat,(y % (b:Int)).toNat=k0:=⟨_,rfl⟩;have hqb:-64<q/\q<64/\(k0:Int)=if q<0 then q+b else q:=by
  have p1:=Int.emod_nonneg y (show (b:Int)≠0 by omega);have p2:=Int.emod_lt_of_pos y (show (0:Int)<b by omega);rcases hb with rfl|rfl
  ·by_cases h:0<=y
   ·rw[jx h]at hq;split <;> omega
   rw[tmod_neg (by omega)]at hq;split <;> omega
  by_cases h:0<=y
  ·rw[jx h]at hq;split <;> omega
  rw[tmod_neg (by omega)]at hq;split <;> omega
 obtain⟨q1,q2,q3⟩:=hqb;have UN:k0<=64:=by split at q3 <;> omega
 rw[uH];have HK:Hid _:=uH;have HQ:Hid _:=q3;obtain⟨b1,b2⟩:=Ns;clear uH q3 hb;go_enter func175,ntmps175;go_wp2_with fail;all_goals
  go_loopw [1,9] (fun v i wr=>∃(k:Nat) (x':Int),v=.int .i64 x'/\i=.int .i64 k/\k<=64/\dZ x'/\wr=w/\Hid (qJ right k x'=qJ right k0 x)) (fun _ i _=>(intOf i).toNat)
  case atStart=>
   refine⟨k0,x,rfl,?_,UN,hx,rfl,rfl⟩;have h9:=HQ.out;first|rw[ajd (by omega)]at h9|rw[ajc (by omega)]at h9
   rw[h9]
  case round=>
   obtain⟨k,x',rfl,rfl,hk,OV,vF,HR⟩:=hrel;subst vF;obtain⟨u,hu⟩:=aja (x'.tmod 2);have rQ:(k:Int)<=64:=by omega
   cases k with
   |zero=>
    go_wp2_with fail;go_ret;refine⟨?_,rfl⟩;rw[<-HR.out];cases right <;> rfl
   |succ k=>
    have mD:0<((k+1:Nat):Int):=by omega
    have x1:-9223372036854775808<=x':=OV.1;have x2:x'<=9223372036854775807:=OV.2;cases right with
    |false=>
     go_wp2_with fail;go_roundw
     case rel=>exact⟨k,wrap64 (x'+x'),rfl,by simp,by omega,gw _,by trivial,HR.out⟩
     case measure=>simp[intOf]
    |true=>
     have hh:x' / 2=(if x'<0/\u≠0 then x'.tdiv 2-1 else x'.tdiv 2):=by
      split
      ·rename_i c;rw[Gp c.1 (by rw[hu];exact c.2)]
      rename_i c;by_cases h0:0<=x'
      ·rw[Gq h0]
      rw[Du (by rw[hu];omega)]
     obtain⟨z,hz⟩:=aja (x'.tdiv 2);have hzb:-4611686018427387904<=z/\z<=4611686018427387904:=by
      by_cases h0:0<=x'
      ·rw[pU h0]at hz;omega
      rw[tdiv_neg (by omega)]at hz;omega
     obtain⟨z1,z2⟩:=hzb;rw[hz]at hh;by_cases CO:x'<0
     ·by_cases Gv:u=0
      ·rw[ajc (by omega)]at hh;have HH:Hid _:=hh;clear hh;subst Gv;go_wp2_with fail;go_roundw
       case rel=>exact⟨k,z,rfl,by simp,by omega,by unfold dZ;omega,by trivial,by have:=HR.out;unfold qJ at this ⊢;rw[ajd rfl]at this ⊢;rw[qG,HH.out]at this;exact this⟩
       case measure=>simp[intOf]
      rw[ajd ⟨CO,Gv⟩]at hh;have HH:Hid _:=hh;have hu1:(u != 0)=true:=by rw[bne_iff_ne];exact Gv
      have lO:(u==0)=false:=by rw[ajt];exact Gv
      clear hh Gv;go_wp2_with fail;go_roundw
      case rel=>exact⟨k,z-1,rfl,by simp,by omega,by unfold dZ;omega,by trivial,by have:=HR.out;unfold qJ at this ⊢;rw[ajd rfl]at this ⊢;rw[qG,HH.out]at this;exact this⟩
      case measure=>simp[intOf]
     rw[ajc (by omega)]at hh;have XS:0<=x':=by omega
     have HH:Hid _:=hh;clear hh;go_wp2_with fail;go_roundw
     case rel=>exact⟨k,z,rfl,by simp,by omega,by unfold dZ;omega,by trivial,by have:=HR.out;unfold qJ at this ⊢;rw[ajd rfl]at this ⊢;rw[qG,HH.out]at this;exact this⟩
     case measure=>simp[intOf]
end
section
variable {w w':World}{c W f gl m left ay e waits:Nat}{ended:Bool}{L S:List TV}{v:Value}
theorem aI.machine(h:aI w c W f gl L S):w.cell? ⟨c,0,none⟩=some (ptr W):=by obtain⟨vL,vS,h1,_⟩:=h;have:=h1.cell 0;simpa using this
def wo(w:World)(W m left ay e0 waits e:Nat):Prop:=cE w W m left ay (e != 0) (if e=0 then e0 else e) waits
theorem Bf(hc:aI w c W f gl L S)(hm:cE w W m left ay false e waits)(rest:Bool){x y least:Int}(hx:dZ x)(hy:dZ y):Calls prog 174 #[ptr c,.bool rest,.int .i64 x,.int .i64 y,.int .i64 least] w fun r w'=>r=.returned (.int .i64 (wrap64 (fd rest x y least).1))/\w.grownBy w' (some W)/\wo w' W m left ay e waits (fd rest x y least).2:=by
 have Ly:wrap64 0=0:=dc (by unfold dZ;omega);have c0:=hc.machine;have iX:=hc.lt.1;obtain⟨x1,x2⟩:=hx;obtain⟨y1,y2⟩:=hy;unfold fd;by_cases h0:y=0
 ·rw[ajd h0];have hN:=ny hm 2;subst h0;have FIN:Hid _:=hm;clear hm hc;go_enter func174,ntmps174;go_wp2_with fail;refine hN.mono ?_;clear hN;rintro e w2 ⟨rfl,aP,gY⟩;go_wp2_with fail;go_ret;exact⟨by first|rfl|(rw[Ly];rfl),aP,gY⟩
 rw[ajc h0];have b0:(y==0)=false:=by rw[ajt];exact h0
 by_cases h1:y = -1
 ·rw[ajd h1];have b1:(y==-1)=true:=by rw[beq_iff_eq];exact h1
  clear h1 h0;cases rest with
  |true=>
   clear hc;go_enter func174,ntmps174;go_wp2_with fail;go_ret;exact⟨by first|rfl|(rw[Ly];rfl),aH _ _,hm⟩
  |false=>
   simp only[Bool.false_eq_true,if_false];by_cases h2:x=least
   ·rw[ajd h2];have b2:(x==least)=true:=by rw[beq_iff_eq];exact h2
    clear h2;have hN:=ny hm 3;clear hm hc;go_enter func174,ntmps174;go_wp2_with fail;refine hN.mono ?_;clear hN;rintro e w2 ⟨rfl,aP,gY⟩;go_wp2_with fail;go_ret;exact⟨by first|rfl|(rw[Ly];rfl),aP,gY⟩
   rw[ajc h2];have b2:(x==least)=false:=by rw[ajt];exact h2
   clear h2 hc;go_enter func174,ntmps174;go_wp2_with fail;go_ret;exact⟨rfl,aH _ _,hm⟩
 rw[ajc h1];have b1:(y==-1)=false:=by rw[ajt];exact h1
 clear h1;cases rest with
 |true=>
  simp only[if_true];clear hc;have hq:dZ (x.tmod y):=zq ⟨x1,x2⟩ y;obtain⟨q,B6⟩:=aja (x.tmod y);rw[B6]at hq ⊢;rw[dc hq];go_enter func174,ntmps174;go_wp2_with fail;go_ret;exact⟨rfl,aH _ _,hm⟩
 |false=>
  simp only[Bool.false_eq_true,if_false];clear hc;go_enter func174,ntmps174;go_wp2_with fail;go_ret;exact⟨rfl,aH _ _,hm⟩
end
theorem km(c0 c1:Value)(w:World):(Instr.field 134 (.agg #[c0,c1]) 1).run prog w=.ok c1 w:=by kernel_rfl
structure Fc(c W gl:Nat)(w w':World):Prop where
 os:w'.os=w.os
 tape:w'.tape=w.tape
 output:w'.output=w.output
 size:w.heap.size<=w'.heap.size
 block:∀i,i<w.heap.size->i≠c->i≠W->i≠gl->w'.heap[i]?=w.heap[i]?
section
variable {w w' w2:World}{c W f gl m left ay e waits:Nat}{ended:Bool}{L S:List TV}{v:Value}
theorem Fc.refl:Fc c W gl w w:=⟨rfl,rfl,rfl,nLr _,fun _ _ _ _ _=>rfl⟩
theorem Fc.trans(h:Fc c W gl w w')(k:Fc c W gl w' w2):Fc c W gl w w2:=⟨k.os.trans h.os,k.tape.trans h.tape,k.output.trans h.output,ajE h.size k.size,fun i hi h1 h2 h3=>(k.block i (ajA hi h.size) h1 h2 h3).trans (h.block i hi h1 h2 h3)⟩
theorem Fc.none(h:w.grownBy w' none):Fc c W gl w w':=⟨h.os,h.tape,h.output,h.size,fun i hi _ _ _=>h.block i hi (by simp)⟩
theorem Fc.call(h:w.grownBy w' (some c)):Fc c W gl w w':=⟨h.os,h.tape,h.output,h.size,fun i hi h1 _ _=>h.block i hi (by simpa using h1)⟩
theorem Fc.mach(h:w.grownBy w' (some W)):Fc c W gl w w':=⟨h.os,h.tape,h.output,h.size,fun i hi _ h1 _=>h.block i hi (by simpa using h1)⟩
theorem Fc.locs(h:w.grownBy w' (some gl)):Fc c W gl w w':=⟨h.os,h.tape,h.output,h.size,fun i hi _ _ h1=>h.block i hi (by simpa using h1)⟩
theorem Fc.keep(h:Fc c W gl w w'){g t:Nat}{cs:Array Value}(hb:Blk w g cs t)(h1:g≠c)(h2:g≠W)(h3:g≠gl):Blk w' g cs t:=(h.block g hb.lt h1 h2 h3).trans hb
theorem jP{w:World}{g g' t t':Nat}{c c':Array Value}(h:Blk w g c t)(h':Blk w g' c' t')(ec:t≠t'):g≠g':=by intro e;subst e;have h2:=h.symm.trans h';cases h2;exact ec rfl
theorem aI.ne(h:aI w c W f gl L S){g t:Nat}{cs:Array Value}(hb:Blk w g cs t)(h1:t≠132)(h2:t≠134):g≠c/\g≠gl:=by
 obtain⟨vL,vS,a1,a2,_⟩:=h;have hc:=jP hb a1 h1;refine⟨hc,?_⟩;rcases a2 with⟨_,_,rfl⟩|⟨cap,cs',_,q,_⟩
 ·exact hc
 exact jP hb q h2
theorem Fc.types(h:Fc c W gl w w')(hc:aI w c W f gl L S)(hm:cE w W m left ay ended e waits){g t:Nat}{cs:Array Value}(hb:Blk w g cs t)(h1:t≠132)(h2:t≠134)(h3:t≠128):Blk w' g cs t:=h.keep hb (hc.ne hb h1 h2).1 (jP hb hm h3) (hc.ne hb h1 h2).2
theorem cE.wroteC(h:cE w W m left ay ended e waits)(hc:aI w c W f gl L S)(k:w.grownBy w' (some c)):cE w' W m left ay ended e waits:=by obtain⟨vL,vS,a1,_⟩:=hc;exact aF k a1 h (by decide)
def iL(op t r:Nat):Prop:=(t=1/\op=30+r)\/(t=2/\op=50+r)
theorem Dx{op t r:Nat}{x y:Int}(ho:iL op t r)(hr:r=0\/r=1\/r=2\/r=5\/r=6\/r=7)(hc:aI w c W f gl L (S++[(t,x)]++[(t,y)]))(hm:cE w W m left ay false e waits)(hS:S.length<=900000)(hx:dZ x)(hy:dZ y):Calls prog 155 #[ptr c,.int .i64 op] w fun res w'=>res=.returned (.tuple #[])/\Fc c W gl w w'/\aI w' c W f gl L (S++[(t,(kz t r x y).1)])/\cE w' W m left ay false e waits:=by
 have iV:=tM (t':=t) hc (.inr rfl) (by simp;omega);have qK:=fun (W2:World) (h2:aI W2 c W f gl L (S++[(t,x)]))=>tM (t':=t) h2 (.inr rfl) (by omega);have og:=fun (W2:World) (n:Int) (h2:aI W2 c W f gl L S)=>Ds (t:=t) (n:=n) h2 (by omega);have n40:((op:Int)==40)=false:=by rw[ajt];unfold iL at ho;omega
 have n60:((op:Int)==60)=false:=by rw[ajt];unfold iL at ho;omega
 have n41:((op:Int)==41)=false:=by rw[ajt];unfold iL at ho;omega
 have n61:((op:Int)==61)=false:=by rw[ajt];unfold iL at ho;omega
 have mA:(op:Int).tmod 10=(r:Int):=by rw[jx (by omega)];unfold iL at ho;omega
 obtain⟨x1,x2⟩:=hx;obtain⟨y1,y2⟩:=hy;rcases ho with⟨rfl,ho⟩|⟨rfl,ho⟩
 ·have lo:(op:Int)<50:=by omega
  clear ho;simp only[show ((1:Nat):Int)=1 from rfl]at iV qK og
  have qL:Hid _:=og;have rM:Hid _:=qK;clear og qK;have lv:=km;rcases hr with rfl|rfl|rfl|rfl|rfl|rfl;all_goals
   simp only[show ((0:Nat):Int)=0 from rfl,show ((1:Nat):Int)=1 from rfl,show ((2:Nat):Int)=2 from rfl,show ((5:Nat):Int)=5 from rfl,show ((6:Nat):Int)=6 from rfl,show ((7:Nat):Int)=7 from rfl]at mA
   go_enter func155,ntmps155;go_wp2_with fail;refine iV.mono ?_;clear iV;rintro e1 w2 ⟨rfl,aP,fc⟩;go_wp2_with fail;refine(rM.out w2 fc).mono ?_;rintro e2 w3 ⟨rfl,co,gz⟩;have md:=(hm.wroteC hc aP).wroteC fc co;have et:Fc c W gl w w3:=(Fc.call aP).trans (Fc.call co);clear aP co fc hc hm rM;go_wp2_with (go_at_call 154;refine(o7 _).mono ?_;rintro e3 w4 ⟨rfl,ye⟩;subst ye)
   refine(qL.out _ _ gz).mono ?_;rintro e5 w5 ⟨rfl,jA,pm⟩;have qn:=md.wroteC gz jA;have iv:=et.trans (Fc.call jA);clear md et jA gz qL;go_wp2_with fail;go_end0;refine⟨rfl,iv,?_,qn⟩;rw[oY]at pm;exact pm
 have lo:50<=(op:Int):=by omega
 clear ho;simp only[show ((2:Nat):Int)=2 from rfl]at iV qK og
 have qL:Hid _:=og;have rM:Hid _:=qK;clear og qK;have lv:=km;rcases hr with rfl|rfl|rfl|rfl|rfl|rfl;all_goals
  simp only[show ((0:Nat):Int)=0 from rfl,show ((1:Nat):Int)=1 from rfl,show ((2:Nat):Int)=2 from rfl,show ((5:Nat):Int)=5 from rfl,show ((6:Nat):Int)=6 from rfl,show ((7:Nat):Int)=7 from rfl]at mA
  go_enter func155,ntmps155;go_wp2_with fail;refine iV.mono ?_;clear iV;rintro e1 w2 ⟨rfl,aP,fc⟩;go_wp2_with fail;refine(rM.out w2 fc).mono ?_;rintro e2 w3 ⟨rfl,co,gz⟩;have md:=(hm.wroteC hc aP).wroteC fc co;have et:Fc c W gl w w3:=(Fc.call aP).trans (Fc.call co);clear aP co fc hc hm rM;go_wp2_with fail;refine(qL.out _ _ gz).mono ?_;rintro e5 w5 ⟨rfl,jA,pm⟩;have qn:=md.wroteC gz jA;have iv:=et.trans (Fc.call jA);clear md et jA gz qL;go_wp2_with fail;go_end0;refine⟨rfl,iv,?_,qn⟩;first
   | (rw[show (kz 2 0 x y).1=wrap64 (x+y) from dc (gw _)];exact pm)
   | (rw[show (kz 2 1 x y).1=wrap64 (x-y) from dc (gw _)];exact pm)
   | (rw[show (kz 2 2 x y).1=wrap64 (x*y) from dc (gw _)];exact pm)
   | (rw[show (kz 2 5 x y).1=bits .and .i64 x y from dc (gH .and x y)];exact pm)
   | (rw[show (kz 2 6 x y).1=bits .or .i64 x y from dc (gH .or x y)];exact pm)
   | (rw[show (kz 2 7 x y).1=bits .xor .i64 x y from dc (gH .xor x y)];exact pm)
theorem Bg{op t r:Nat}{x y:Int}(ho:iL op t r)(hr:r=3\/r=4)(hc:aI w c W f gl L (S++[(t,x)]++[(t,y)]))(hm:cE w W m left ay false e waits)(hS:S.length<=900000)(hx:dZ x)(hy:dZ y):Calls prog 155 #[ptr c,.int .i64 op] w fun res w'=>res=.returned (.tuple #[])/\Fc c W gl w w'/\aI w' c W f gl L (S++[(t,(kz t r x y).1)])/\wo w' W m left ay e waits (kz t r x y).2:=by
 have iV:=tM (t':=t) hc (.inr rfl) (by simp;omega);have qK:=fun (W2:World) (h2:aI W2 c W f gl L (S++[(t,x)]))=>tM (t':=t) h2 (.inr rfl) (by omega);have Gw:=fun (W2:World) (h2:aI W2 c W f gl L S) (rL:cE W2 W m left ay false e waits) (least:Int)=>Bf (least:=least) h2 rL (r==4) hx hy;have og:=fun (W2:World) (n:Int) (h2:aI W2 c W f gl L S)=>Ds (t:=t) (n:=n) h2 (by omega);have n40:((op:Int)==40)=false:=by rw[ajt];unfold iL at ho;omega
 have n60:((op:Int)==60)=false:=by rw[ajt];unfold iL at ho;omega
 have n41:((op:Int)==41)=false:=by rw[ajt];unfold iL at ho;omega
 have n61:((op:Int)==61)=false:=by rw[ajt];unfold iL at ho;omega
 have mA:(op:Int).tmod 10=(r:Int):=by rw[jx (by omega)];unfold iL at ho;omega
 have Iw:Hid _:=Gw;clear Gw;have lv:=km;rcases ho with⟨rfl,ho⟩|⟨rfl,ho⟩
 ·have lo:(op:Int)<50:=by omega
  clear ho;simp only[show ((1:Nat):Int)=1 from rfl]at iV qK og
  have qL:Hid _:=og;have rM:Hid _:=qK;clear og qK;rcases hr with rfl|rfl;all_goals
   simp only[show ((3:Nat):Int)=3 from rfl,show ((4:Nat):Int)=4 from rfl]at mA
   go_enter func155,ntmps155;go_wp2_with fail;refine iV.mono ?_;clear iV;rintro e1 w2 ⟨rfl,aP,fc⟩;go_wp2_with fail;refine(rM.out w2 fc).mono ?_;rintro e2 w3 ⟨rfl,co,gz⟩;have md:=(hm.wroteC hc aP).wroteC fc co;have et:Fc c W gl w w3:=(Fc.call aP).trans (Fc.call co);clear aP co fc hc hm rM;go_wp2_with fail;refine(Iw.out w3 gz md _).mono ?_;rintro e4 w4 ⟨rfl,dv,zr⟩;have xX:=gz.wroteW md dv;have fD:=et.trans (Fc.mach dv);clear et dv gz md Iw;go_wp2_with (go_at_call 154;refine(o7 _).mono ?_;rintro e3 w6 ⟨rfl,J4⟩;subst J4)
   refine(qL.out _ _ xX).mono ?_;rintro e5 w5 ⟨rfl,jA,pm⟩;have qn:wo _ _ _ _ _ _ _ _:=cE.wroteC zr xX jA;have iv:=fD.trans (Fc.call jA);clear zr fD jA xX qL;go_wp2_with fail;go_end0;refine⟨rfl,iv,?_,qn⟩;rw[oY,nC]at pm;exact pm
 have lo:50<=(op:Int):=by omega
 clear ho;simp only[show ((2:Nat):Int)=2 from rfl]at iV qK og
 have qL:Hid _:=og;have rM:Hid _:=qK;clear og qK;rcases hr with rfl|rfl;all_goals
  simp only[show ((3:Nat):Int)=3 from rfl,show ((4:Nat):Int)=4 from rfl]at mA
  go_enter func155,ntmps155;go_wp2_with fail;refine iV.mono ?_;clear iV;rintro e1 w2 ⟨rfl,aP,fc⟩;go_wp2_with fail;refine(rM.out w2 fc).mono ?_;rintro e2 w3 ⟨rfl,co,gz⟩;have md:=(hm.wroteC hc aP).wroteC fc co;have et:Fc c W gl w w3:=(Fc.call aP).trans (Fc.call co);clear aP co fc hc hm rM;go_wp2_with fail;refine(Iw.out w3 gz md _).mono ?_;rintro e4 w4 ⟨rfl,dv,zr⟩;have xX:=gz.wroteW md dv;have fD:=et.trans (Fc.mach dv);clear et dv gz md Iw;go_wp2_with fail;refine(qL.out _ _ xX).mono ?_;rintro e5 w5 ⟨rfl,jA,pm⟩;have qn:wo _ _ _ _ _ _ _ _:=cE.wroteC zr xX jA;have iv:=fD.trans (Fc.call jA);clear zr fD jA xX qL;go_wp2_with fail;go_end0;exact⟨rfl,iv,pm,qn⟩
theorem Dy{op t r:Nat}{x y:Int}(ho:iL op t r)(hr:r=8\/r=9)(hc:aI w c W f gl L (S++[(t,x)]++[(t,y)]))(hm:cE w W m left ay false e waits)(hS:S.length<=900000)(hx:dZ x)(hy:dZ y):Calls prog 155 #[ptr c,.int .i64 op] w fun res w'=>res=.returned (.tuple #[])/\Fc c W gl w w'/\aI w' c W f gl L (S++[(t,(kz t r x y).1)])/\cE w' W m left ay false e waits:=by
 have iV:=tM (t':=t) hc (.inr rfl) (by simp;omega);have qK:=fun (W2:World) (h2:aI W2 c W f gl L (S++[(t,x)]))=>tM (t':=t) h2 (.inr rfl) (by omega);have Gw:=fun (W2:World)=>Dw (w:=W2) (r==9) (y:=y) hx (if t=2 then 64 else 32) (by split <;> simp);have og:=fun (W2:World) (n:Int) (h2:aI W2 c W f gl L S)=>Ds (t:=t) (n:=n) h2 (by omega);have n40:((op:Int)==40)=false:=by rw[ajt];unfold iL at ho;omega
 have n60:((op:Int)==60)=false:=by rw[ajt];unfold iL at ho;omega
 have n41:((op:Int)==41)=false:=by rw[ajt];unfold iL at ho;omega
 have n61:((op:Int)==61)=false:=by rw[ajt];unfold iL at ho;omega
 have mA:(op:Int).tmod 10=(r:Int):=by rw[jx (by omega)];unfold iL at ho;omega
 have lv:=km;rcases ho with⟨rfl,ho⟩|⟨rfl,ho⟩
 ·have lo:(op:Int)<50:=by omega
  clear ho;rw[ajc (by decide)]at Gw;simp only[show ((1:Nat):Int)=1 from rfl]at iV qK og
  simp only[show ((32:Nat):Int)=32 from rfl]at Gw
  have Iw:Hid _:=Gw;have qL:Hid _:=og;have rM:Hid _:=qK;clear og qK Gw;rcases hr with rfl|rfl;all_goals
   simp only[show ((8:Nat):Int)=8 from rfl,show ((9:Nat):Int)=9 from rfl]at mA
   go_enter func155,ntmps155;go_wp2_with fail;refine iV.mono ?_;clear iV;rintro e1 w2 ⟨rfl,aP,fc⟩;go_wp2_with fail;refine(rM.out w2 fc).mono ?_;rintro e2 w3 ⟨rfl,co,gz⟩;have md:=(hm.wroteC hc aP).wroteC fc co;have et:Fc c W gl w w3:=(Fc.call aP).trans (Fc.call co);clear aP co fc hc hm rM;go_wp2_with fail;refine(Iw.out w3).mono ?_;rintro e4 w4 ⟨rfl,ye⟩;subst ye;clear Iw;go_wp2_with (go_at_call 154;refine(o7 _).mono ?_;rintro e3 w6 ⟨rfl,J4⟩;subst J4)
   refine(qL.out _ _ gz).mono ?_;rintro e5 w5 ⟨rfl,jA,pm⟩;have qn:=md.wroteC gz jA;have iv:=et.trans (Fc.call jA);clear md et jA gz qL;go_wp2_with fail;go_end0;refine⟨rfl,iv,?_,qn⟩;rw[oY]at pm;exact pm
 have lo:50<=(op:Int):=by omega
 clear ho;rw[ajd rfl]at Gw;simp only[show ((2:Nat):Int)=2 from rfl]at iV qK og
 simp only[show ((64:Nat):Int)=64 from rfl]at Gw
 have Iw:Hid _:=Gw;have qL:Hid _:=og;have rM:Hid _:=qK;clear og qK Gw;rcases hr with rfl|rfl;all_goals
  simp only[show ((8:Nat):Int)=8 from rfl,show ((9:Nat):Int)=9 from rfl]at mA
  go_enter func155,ntmps155;go_wp2_with fail;refine iV.mono ?_;clear iV;rintro e1 w2 ⟨rfl,aP,fc⟩;go_wp2_with fail;refine(rM.out w2 fc).mono ?_;rintro e2 w3 ⟨rfl,co,gz⟩;have md:=(hm.wroteC hc aP).wroteC fc co;have et:Fc c W gl w w3:=(Fc.call aP).trans (Fc.call co);clear aP co fc hc hm rM;go_wp2_with fail;refine(Iw.out w3).mono ?_;rintro e4 w4 ⟨rfl,ye⟩;subst ye;clear Iw;go_wp2_with fail;refine(qL.out _ _ gz).mono ?_;rintro e5 w5 ⟨rfl,jA,pm⟩;have qn:=md.wroteC gz jA;have iv:=et.trans (Fc.call jA);clear md et jA gz qL;go_wp2_with fail;go_end0;refine⟨rfl,iv,?_,qn⟩;first
   | (rw[show (kz 2 8 x y).1=uY (y % 64).toNat x from (by show wrap64 (uY (y % 64).toNat x)=_;rw[rV _ hx];exact dc (gw _))];exact pm)
   | (rw[show (kz 2 9 x y).1=qG (y % 64).toNat x from (by show wrap64 (qG (y % 64).toNat x)=_;rw[rW];exact dc (zp hx _))];exact pm)
theorem wq{op t:Nat}{x y:Int}{lt:Bool}(ho:(t=1/\op=(if lt then 41 else 40))\/(t=2/\op=(if lt then 61 else 60)))(hc:aI w c W f gl L (S++[(t,x)]++[(t,y)]))(hm:cE w W m left ay false e waits)(hS:S.length<=900000):Calls prog 155 #[ptr c,.int .i64 op] w fun res w'=>res=.returned (.tuple #[])/\Fc c W gl w w'/\aI w' c W f gl L (S++[(1,bx (if lt then decide (x<y) else decide (x=y)))])/\cE w' W m left ay false e waits:=by
 have iV:=tM (t':=t) hc (.inr rfl) (by simp;omega);have qK:=fun (W2:World) (h2:aI W2 c W f gl L (S++[(t,x)]))=>tM (t':=t) h2 (.inr rfl) (by omega);have og:=fun (W2:World) (n:Int) (h2:aI W2 c W f gl L S)=>Ds (t:=1) (n:=n) h2 (by omega);have XT:=fun (W2:World) (b:Bool)=>J3 (w:=W2) b;simp only[show ((1:Nat):Int)=1 from rfl]at og
 have XU:Hid _:=XT;have qL:Hid _:=og;have lv:=km;have rM:Hid _:=qK;clear og qK XT;rcases ho with⟨rfl,ho⟩|⟨rfl,ho⟩;all_goals
  cases lt;all_goals
   simp only[Bool.false_eq_true,if_false,if_true]at ho ⊢;subst ho;simp only[show ((1:Nat):Int)=1 from rfl,show ((2:Nat):Int)=2 from rfl]at iV
   go_enter func155,ntmps155;go_wp2_with fail;refine iV.mono ?_;clear iV;rintro e1 w2 ⟨rfl,aP,fc⟩;go_wp2_with fail;refine(rM.out w2 fc).mono ?_;rintro e2 w3 ⟨rfl,co,gz⟩;have md:=(hm.wroteC hc aP).wroteC fc co;have et:Fc c W gl w w3:=(Fc.call aP).trans (Fc.call co);clear aP co fc hc hm rM;go_wp2_with fail;refine(XU.out w3 _).mono ?_;rintro e4 w4 ⟨rfl,ye⟩;subst ye;clear XU;go_wp2_with fail;refine(qL.out _ _ gz).mono ?_;rintro e5 w5 ⟨rfl,jA,pm⟩;have qn:=md.wroteC gz jA;have iv:=et.trans (Fc.call jA);clear md et jA gz qL;go_wp2_with fail;first|go_end0|refine bodyPost_ret (results_none rfl _ _ _) rfl ?_
   exact⟨rfl,iv,pm,qn⟩
end
def nE(w w':World)(c W f gl:Nat)(L S:List TV)(m left ay e waits:Nat):Prop:=Fc c W gl w w'/\aI w' c W f gl L S/\cE w' W m left ay false e waits
section
variable {w w' w2:World}{c W f gl m left ay e waits a:Nat}{ended:Bool}{L S:List TV}{num:Int}{v2 v3 v4 v5 v6 v7:Value}
theorem aI.wrote(h:aI w c W f gl L S)(k:w.grownBy w' (some c)){g t:Nat}{cs:Array Value}(hb:Blk w g cs t)(ht:t≠132):Blk w' g cs t:=by obtain⟨vL,vS,h1,_⟩:=h;exact aF k h1 hb ht
theorem gJ{g:Nat}{x y:Value}(h:Blk w g #[x,y] 134):w.cell? ⟨g,0,none⟩=some x/\w.cell? ⟨g,1,none⟩=some y/\w.frozen? ⟨g,0,none⟩=false/\w.frozen? ⟨g,1,none⟩=false/\g<w.heap.size:=by have a:=h.cell 0;have b:=h.cell 1;simp at a b;exact⟨a,b,h.frozen 0,h.frozen 1,h.lt⟩
theorem Nt(hn:Blk w a #[.int .i64 1,.int .i64 num,v2,v3,v4,v5,v6,v7] 157)(hc:aI w c W f gl L S)(hm:cE w W m left ay false e waits):Calls prog 126 #[ptr c,ptr a] w fun r w'=>r=.returned (.tuple #[])/\nE w w' c W f gl L S m left ay e waits:=by have k0:=hn.cell 0;simp at k0;have dW:=hn.lt;go_enter func126,ntmps126;go_wp2_with fail;go_end0;exact⟨rfl,Fc.refl,hc,hm⟩
theorem J5{t:Nat}{n:Int}(hn:Blk w a #[.int .i64 12,.int .i64 num,v2,v3,v4,v5,v6,v7] 157)(hc:aI w c W f gl L (S++[(t,n)]))(hm:cE w W m left ay false e waits)(hS:S.length<=900000):Calls prog 126 #[ptr c,ptr a] w fun r w'=>r=.returned (.tuple #[])/\nE w w' c W f gl L S m left ay e waits:=by
 have k0:=hn.cell 0;simp at k0;have dW:=hn.lt;have iV:=tM (t':=0) hc (.inl rfl) (by omega);simp only[show ((0:Nat):Int)=0 from rfl]at iV
 go_enter func126,ntmps126;go_wp2_with fail;refine iV.mono ?_;clear iV;rintro e1 w2 ⟨rfl,aP,fc⟩;have rL:=hm.wroteC hc aP;clear hm hc;go_wp2_with fail;go_end0;exact⟨rfl,Fc.call aP,fc,rL⟩
theorem J6{t:Nat}{x y n:Int}(hn:Blk w a #[.int .i64 13,.int .i64 num,v2,v3,v4,v5,v6,v7] 157)(hc:aI w c W f gl L (S++[(t,x)]++[(t,y)]++[(1,n)]))(hm:cE w W m left ay false e waits)(hS:S.length<=900000):Calls prog 126 #[ptr c,ptr a] w fun r w'=>r=.returned (.tuple #[])/\nE w w' c W f gl L (S++[(t,if n=0 then y else x)]) m left ay e waits:=by
 have k0:=hn.cell 0;simp at k0;have dW:=hn.lt;have iV:=tM (t':=1) hc (.inr rfl) (by simp;omega);have qK:=fun (W2:World) (h2:aI W2 c W f gl L (S++[(t,x)]++[(t,y)]))=>tM (t':=0) h2 (.inl rfl) (by simp;omega);have XV:=fun (W2:World) (h2:aI W2 c W f gl L (S++[(t,x)]))=>tM (t':=t) h2 (.inr rfl) (by omega);have og:=fun (W2:World) (n:Int) (h2:aI W2 c W f gl L S)=>Ds (t:=t) (n:=n) h2 (by omega);simp only[show ((0:Nat):Int)=0 from rfl,show ((1:Nat):Int)=1 from rfl]at iV qK
 have rM:Hid _:=qK;have Nu:Hid _:=XV;have qL:Hid _:=og;clear qK XV og;by_cases hz:n=0
 ·rw[ajd hz];subst hz;go_enter func126,ntmps126;go_wp2_with fail;refine iV.mono ?_;clear iV;rintro e1 w2 ⟨rfl,aP,fc⟩;have rL:=hm.wroteC hc aP;have dq:Fc c W gl w w2:=Fc.call aP;clear hm hc aP;go_wp2_with fail;have xF:=fc.grown (aC w2 (.cells #[.int .i64 1,.int .i64 0] 134) none);have Gx:cE _ _ _ _ _ _ _ _:=Blk.alloc rL (.cells #[.int .i64 1,.int .i64 0] 134);have Gy:Fc c W gl w _:=dq.trans (Fc.none (aC w2 (.cells #[.int .i64 1,.int .i64 0] 134) none));have y2:=Blk.new w2 #[.int .i64 1,.int .i64 0] 134;refine(rM.out _ xF).mono ?_;rintro e2 w3 ⟨rfl,co,gz⟩;have md:=Gx.wroteC xF co;have et:=Gy.trans (Fc.call co);have y3:=xF.wrote co y2 (by decide);clear fc xF rL Gx dq Gy y2 co rM;obtain⟨b1,iW⟩:=aja w2.heap.size;rw[iW]at y3 ⊢;clear iW;go_wp2_with fail;have tN:=gz.grown (aC w3 (.cells #[.int .i64 t,.int .i64 y] 134) none);have Gz:cE _ _ _ _ _ _ _ _:=Blk.alloc md (.cells #[.int .i64 t,.int .i64 y] 134);have AQ:=et.trans (Fc.none (aC w3 (.cells #[.int .i64 t,.int .i64 y] 134) none));have z2:=Blk.new w3 #[.int .i64 t,.int .i64 y] 134;refine(Nu.out _ tN).mono ?_;rintro e3 w4 ⟨rfl,dv,xX⟩;have zr:=Gz.wroteC tN dv;have fD:=AQ.trans (Fc.call dv);have y4:=tN.wrote dv (y3.alloc _) (by decide);have z4:=tN.wrote dv z2 (by decide);clear gz tN md Gz et AQ y3 z2 dv Nu;obtain⟨b2,df⟩:=aja w3.heap.size;rw[df]at z4 ⊢;clear df;obtain⟨p1,p2,p3,p4,p5⟩:=gJ y4;obtain⟨q1,q2,q3,q4,q5⟩:=gJ z4;clear y4 z4;go_wp2_with fail;refine(qL.out _ _ (xX.grown (aC w4 _ none))).mono ?_;rintro e5 w5 ⟨rfl,jA,pm⟩;have qn:=(show cE _ _ _ _ _ _ _ _ from Blk.alloc zr _).wroteC (xX.grown (aC w4 _ none)) jA
  have iv:=fD.trans ((Fc.none (aC w4 _ none)).trans (Fc.call jA));clear zr fD jA xX qL;go_wp2_with fail;go_end0;exact⟨rfl,iv,pm,qn⟩
 rw[ajc hz];have bz:(n==0)=false:=by rw[ajt];exact hz
 clear hz;go_enter func126,ntmps126;go_wp2_with fail;refine iV.mono ?_;clear iV;rintro e1 w2 ⟨rfl,aP,fc⟩;have rL:=hm.wroteC hc aP;have dq:Fc c W gl w w2:=Fc.call aP;clear hm hc aP;go_wp2_with fail;have xF:=fc.grown (aC w2 (.cells #[.int .i64 1,.int .i64 n] 134) none);have Gx:cE _ _ _ _ _ _ _ _:=Blk.alloc rL (.cells #[.int .i64 1,.int .i64 n] 134);have Gy:Fc c W gl w _:=dq.trans (Fc.none (aC w2 (.cells #[.int .i64 1,.int .i64 n] 134) none));have y2:=Blk.new w2 #[.int .i64 1,.int .i64 n] 134;refine(rM.out _ xF).mono ?_;rintro e2 w3 ⟨rfl,co,gz⟩;have md:=Gx.wroteC xF co;have et:=Gy.trans (Fc.call co);have y3:=xF.wrote co y2 (by decide);clear fc xF rL Gx dq Gy y2 co rM;obtain⟨b1,iW⟩:=aja w2.heap.size;rw[iW]at y3 ⊢;clear iW;go_wp2_with fail;have tN:=gz.grown (aC w3 (.cells #[.int .i64 t,.int .i64 y] 134) none);have Gz:cE _ _ _ _ _ _ _ _:=Blk.alloc md (.cells #[.int .i64 t,.int .i64 y] 134);have AQ:=et.trans (Fc.none (aC w3 (.cells #[.int .i64 t,.int .i64 y] 134) none));have z2:=Blk.new w3 #[.int .i64 t,.int .i64 y] 134;refine(Nu.out _ tN).mono ?_;rintro e3 w4 ⟨rfl,dv,xX⟩;have zr:=Gz.wroteC tN dv;have fD:=AQ.trans (Fc.call dv);have y4:=tN.wrote dv (y3.alloc _) (by decide);have z4:=tN.wrote dv z2 (by decide);clear gz tN md Gz et AQ y3 z2 dv Nu;obtain⟨b2,df⟩:=aja w3.heap.size;rw[df]at z4 ⊢;clear df;obtain⟨p1,p2,p3,p4,p5⟩:=gJ y4;obtain⟨q1,q2,q3,q4,q5⟩:=gJ z4;clear y4 z4;go_wp2_with fail;refine(qL.out _ _ (xX.grown (aC w4 _ none))).mono ?_;rintro e5 w5 ⟨rfl,jA,pm⟩;have qn:=(show cE _ _ _ _ _ _ _ _ from Blk.alloc zr _).wroteC (xX.grown (aC w4 _ none)) jA
 have iv:=fD.trans ((Fc.none (aC w4 _ none)).trans (Fc.call jA));clear zr fD jA xX qL;go_wp2_with fail;go_end0;exact⟨rfl,iv,pm,qn⟩
end
section
variable {w w' w2:World}{c W f gl m left ay e waits a:Nat}{ended:Bool}{L S:List TV}{num:Int}{v2 v3 v4 v5 v6 v7:Value}
theorem uX.at{v:Value}{i t:Nat}{n:Int}(h:uX w c gl v L)(hi:L[i]?=some (t,n)):∃cap,v=.slice (some ⟨gl,0,none⟩) L.length cap/\L.length<=cap/\w.cell? ⟨gl,i*2,none⟩=some (.int .i64 t)/\w.cell? ⟨gl,i*2+1,none⟩=some (.int .i64 n)/\i<L.length/\gl<w.heap.size/\∃cs,Blk w gl cs 134/\pS cs L:=by
 have lx:=(gEs.1 hi).1;rcases h with⟨_,h,_⟩|⟨cap,cs,h1,h2,h3,h4⟩
 ·rw[h]at lx;simp at lx
 obtain⟨x1,x2⟩:=h4 i lx;have e:L[i]=(t,n):=by rw[gEg lx]at hi;exact Option.some.inj hi
 rw[e]at x1 x2;exact⟨cap,h1,h3,by rw[h2.cell];exact x1,by rw[h2.cell];exact x2,lx,h2.lt,cs,h2,h4⟩
theorem Nv{i t:Nat}{n:Int}(hi:L[i]?=some (t,n))(hn:Blk w a #[.int .i64 14,.int .i64 i,v2,v3,v4,v5,v6,v7] 157)(hc:aI w c W f gl L S)(hm:cE w W m left ay false e waits)(hS:S.length<=900000)(hL:L.length<=1000):Calls prog 126 #[ptr c,ptr a] w fun r w'=>r=.returned (.tuple #[])/\nE w w' c W f gl L (S++[(t,n)]) m left ay e waits:=by
 have k0:=hn.cell 0;have k1:=hn.cell 1;simp at k0 k1;have dW:=hn.lt;have Qs:=qF (w:=w.drew) (t:=t) (n:=n) (show aI w.drew c W f gl L S from hc) (by omega)
 have HC:Hid _:=hc;obtain⟨vL,vS,h1,h2,h3⟩:=hc;have iX:=h1.lt;obtain⟨cap,rfl,kX,y0,y1,lx,iB,eF⟩:=h2.at hi;have c2:=h1.cell 2;simp at c2;obtain⟨N,hN⟩:=aja L.length;rw[hN]at c2 lx kX hL;have hiN:(i:Int)<(N:Int):=by omega
 have HP:Hid _:=Qs;have HN:Hid _:=hn;have HM:Hid _:=hm;obtain⟨cs,Bc,_⟩:=eF;have HB:Hid _:=Bc;clear h1 h2 h3 hi hN Qs hn Bc hm;go_enter func126,ntmps126;go_wp2_with fail
 go_region_held (fun w'=>w'.cell? ⟨c,2,none⟩=some (.slice (some ⟨gl,0,none⟩) N cap)/\w'.cell? ⟨a,1,none⟩=some (.int .i64 i)/\w'.cell? ⟨gl,i*2,none⟩=some (.int .i64 t)/\w'.cell? ⟨gl,i*2+1,none⟩=some (.int .i64 n)) (first|assumption|go_keep) ((go_at_call 152;refine Calls.mono HP.out ?_;rintro e1 w2 ⟨rfl,aP,fc,lg⟩;have gY:w2.cell? ⟨c,2,none⟩=some (.slice (some ⟨gl,0,none⟩) N cap)/\w2.cell? ⟨a,1,none⟩=some (.int .i64 i)/\w2.cell? ⟨gl,i*2,none⟩=some (.int .i64 t)/\w2.cell? ⟨gl,i*2+1,none⟩=some (.int .i64 n):=⟨lg.trans c2,(((aI.wrote (w:=w.drew) HC.out aP (show Blk w.drew a _ 157 from HN.out) (by decide)).cell 1).trans (by simp)),(((aI.wrote (w:=w.drew) HC.out aP (show Blk w.drew gl _ 134 from HB.out) (by decide)).cell _).trans ((Blk.cell HB.out _).symm.trans y0)),(((aI.wrote (w:=w.drew) HC.out aP (show Blk w.drew gl _ 134 from HB.out) (by decide)).cell _).trans ((Blk.cell HB.out _).symm.trans y1))⟩))
 all_goals
  go_wp2_with fail;go_end0;exact⟨rfl,Fc.call (show w.grownBy w2 (some c) from bj aP),fc,cE.wroteC (w:=w.drew) HM.out HC.out aP⟩
end
