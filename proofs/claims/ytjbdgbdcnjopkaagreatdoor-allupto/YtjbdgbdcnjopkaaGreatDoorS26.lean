import Derived.Test.YtjbdgbdcnjopkaaGreatDoorS15
import Derived.Deep.LoopGhost
import Derived.Defers
import Derived.Laws.CopyOwn
import Derived.Laws.IdiomStrings
import Derived.Lib.ConvBytes
import Derived.Recover
namespace Go.Proofs.YtjbdgbdcnjopkaaGreatDoor
open Go.RowKit Tryz
set_option linter.all false
set_option maxRecDepth 100000
set_option maxHeartbeats 4000000
def dN(bs:List UInt8)(at_:Nat)(er:Er):Nat×Nat×Er:=
 if er.1≠0 then (0,at_,er) else match bs[at_]? with
  |some b=>(b.toNat,at_+1,er)
  |none=>(0,at_,(2,bs.length))
def noS(er:Er)(e p:Nat):Er:=if er.1=0 then (e,p) else er
def bH(bs:List UInt8)(at_:Nat)(er:Er)(lo hi:Nat):Nat×Nat×Er:=
 let r:=dN bs at_ er
 let er2:=if r.2.2.1=0/\(r.1<lo\/hi<r.1) then (2,at_) else r.2.2
 (if er2.1=0 then r.1 else lo,r.2.1,er2)
def eR(bs:List UInt8):Nat->Nat->Er->List Nat->List Nat×Nat×Er
 |0,at_,er,l=>(l,at_,er)
 |n+1,at_,er,l=>if er.1=0 then eR bs n (bH bs at_ er 1 2).2.1 (bH bs at_ er 1 2).2.2 (l++[(bH bs at_ er 1 2).1]) else (l,at_,er)
def dO(bs:List UInt8)(at_:Nat)(er:Er)(most:Nat):List Nat×Nat×Er:=
 eR bs (bH bs at_ er 0 most).1 (bH bs at_ er 0 most).2.1 (bH bs at_ er 0 most).2.2 []
def Sc(w:World)(x:Nat)(s:ByteArray)(at_:Nat)(er:Er):Prop:=Blk w x #[.string s,.int .i64 at_,.int .i64 er.1,.int .i64 er.2] 116
section
variable {w:World}{x:Nat}{s:ByteArray}{at_:Nat}{er:Er}
theorem Sc.cells(h:Sc w x s at_ er):w.cell? ⟨x,0,none⟩=some (.string s)/\w.cell? ⟨x,1,none⟩=some (.int .i64 at_)/\w.cell? ⟨x,2,none⟩=some (.int .i64 er.1)/\w.cell? ⟨x,3,none⟩=some (.int .i64 er.2):=by have a0:=Blk.cell h 0;have a1:=Blk.cell h 1;have a2:=Blk.cell h 2;have a3:=Blk.cell h 3;simp at a0 a1 a2 a3;exact⟨a0,a1,a2,a3⟩
theorem Sc.setAt(h:Sc w x s at_ er)(n:Nat):Sc (w.setCell ⟨x,1,none⟩ (.int .i64 n)) x s n er:=by have:=Blk.set h 1 (.int .i64 n);simpa [Sc] using this
theorem Sc.setEr(h:Sc w x s at_ er)(e p:Nat):Sc ((w.setCell ⟨x,2,none⟩ (.int .i64 e)).setCell ⟨x,3,none⟩ (.int .i64 p)) x s at_ (e,p):=by have:=(Blk.set h 2 (.int .i64 e)).set 3 (.int .i64 p);simpa [Sc] using this
theorem i6(h:Sc w x s at_ er)(e p:Nat):Calls prog 52 #[.pointer (some ⟨x,0,none⟩),.int .i64 e,.int .i64 p] w fun r w'=>r=.returned (.tuple #[])/\w.grownBy w' (some x)/\Sc w' x s at_ (noS er e p):=by
 obtain⟨c0,c1,c2,c3⟩:=h.cells;have f2:=Blk.frozen h 2;have f3:=Blk.frozen h 3;have hl:=Blk.lt h;by_cases h0:er.1=0
 ·rw[h0]at c2;have gK:noS er e p=(e,p):=by unfold noS;rw[ajd h0]
  rw[gK];clear gK h0;go_enter func52,ntmps52;go_wp2;go_end0;exact⟨rfl,aB (aD _ _ _ _) (aD _ _ _ _),h.setEr e p⟩
 have b0:((er.1:Int)==0)=false:=beqn (by omega);have gK:noS er e p=er:=by unfold noS;rw[ajc h0]
 rw[gK];clear gK h0;go_enter func52,ntmps52;go_wp2;go_end0;exact⟨rfl,aH _ _,h⟩
theorem pH(h:Sc w x s at_ er)(hs:s.size<=9223372036854775807)(ha:at_<=100000):Calls prog 51 #[.pointer (some ⟨x,0,none⟩)] w fun r w'=>r=.returned (.int .i64 (dN s.data.toList at_ er).1)/\w.grownBy w' (some x)/\Sc w' x s (dN s.data.toList at_ er).2.1 (dN s.data.toList at_ er).2.2:=by
 obtain⟨c0,c1,c2,c3⟩:=h.cells;have hl:=Blk.lt h;have aQ:s.data.toList.length=s.size:=by rw[ajF];rfl
 have Z2:(s.size:Int)<=9223372036854775807:=by omega
 have PX:(at_:Int)<=100000:=by omega
 by_cases h0:er.1=0
 ·by_cases bM:at_<s.size
  ·have kY:s.data.toList[at_]?=some s.data.toList[at_]:=gEg (by omega);have dH:dN s.data.toList at_ er=(s.data.toList[at_].toNat,at_+1,er):=by unfold dN;rw[ajc (by simp[h0]),kY]
   rw[dH];have pB:(at_:Int)<(s.size:Int):=by omega
   have hb:s.data.toList[at_]'(by omega)=s[at_]:=by rw[Array.getElem_toList];rfl
   have ri:=(s[at_]).toNat_lt;obtain⟨v,hv⟩:∃v:Nat,(s[at_]).toNat=v:=⟨_,rfl⟩;rw[hv]at ri;have HV:Hid (s.data.toList[at_].toNat=v):=by show _=_;rw[hb,hv]
   have OK:wrap64 (v:Int)=(v:Int):=IntWalk.wrap64_in _ (by omega);have f1:=Blk.frozen h 1;have hS:=h.setAt (at_+1);rw[h0]at c2;have HS:Hid _:=hS;clear kY dH hS h0 hb;go_enter func51,ntmps51;go_wp2;go_region
   go_wp2;go_region
   go_wp2;go_ret;refine⟨?_,aE (aE (aD w x 1 _)),HS.out⟩;rw[HV.out];first|rfl|(simp[hv,OK])
  have dH:dN s.data.toList at_ er=(0,at_,(2,s.size)):=by unfold dN;rw[ajc (by simp[h0]),ajp (by omega),aQ]
  rw[dH];have xf:(s.size:Int)<=(at_:Int):=by omega
  have gK:noS er 2 s.size=(2,s.size):=by unfold noS;rw[ajd h0]
  have hN:=i6 (w:=w.drew) (er:=er) (x:=x) (s:=s) (at_:=at_) h 2 s.size;rw[gK]at hN;clear dH gK h0;go_enter func51,ntmps51;go_wp2;go_region
  go_wp2_with fail;refine hN.mono ?_;rintro e w2 ⟨rfl,aP,gY⟩;obtain⟨d0,d1,d2,d3⟩:=gY.cells;simp only at d2;clear hN;go_wp2;go_ret;exact⟨rfl,bj aP,gY⟩
 have b0:((er.1:Int)==0)=false:=beqn (by omega);have b1:((er.1:Int) != 0)=true:=by simp only[bne,b0];rfl
 have dH:dN s.data.toList at_ er=(0,at_,er):=by unfold dN;rw[ajd h0]
 rw[dH];by_cases bM:at_<s.size
 ·have pB:(at_:Int)<(s.size:Int):=by omega
  clear dH h0;go_enter func51,ntmps51;go_wp2;go_region
  go_wp2;go_ret;exact⟨rfl,aE (aH _ _),h⟩
 have xf:(s.size:Int)<=(at_:Int):=by omega
 have gK:noS er 2 s.size=er:=by unfold noS;rw[ajc h0]
 have hN:=i6 (w:=w.drew) (er:=er) (x:=x) (s:=s) (at_:=at_) h 2 s.size;rw[gK]at hN;clear dH gK h0;go_enter func51,ntmps51;go_wp2;go_region
 go_wp2_with fail;refine hN.mono ?_;rintro e w2 ⟨rfl,aP,gY⟩;obtain⟨d0,d1,d2,d3⟩:=gY.cells;clear hN;go_wp2;go_ret;exact⟨rfl,bj aP,gY⟩
theorem mX{bs:List UInt8}:(dN bs at_ er).2.1<=at_+1/\(dN bs at_ er).1<256:=by
 unfold dN;split
 ·simp
 split
 ·rename_i b _;have:=b.toNat_lt;simp;omega
 simp
theorem jr(h:Sc w x s at_ er)(hs:s.size<=9223372036854775807)(ha:at_<=100000)(lo hi:Nat)(nO:lo<=1000)(XC:hi<=1000):Calls prog 53 #[.pointer (some ⟨x,0,none⟩),.int .i64 lo,.int .i64 hi] w fun r w'=>r=.returned (.int .i64 (bH s.data.toList at_ er lo hi).1)/\w.grownBy w' (some x)/\Sc w' x s (bH s.data.toList at_ er lo hi).2.1 (bH s.data.toList at_ er lo hi).2.2:=by
 obtain⟨c0,c1,c2,c3⟩:=h.cells;have hl:=Blk.lt h;have hB:=pH h hs ha;obtain⟨b1,b2⟩:=mX (at_:=at_) (er:=er) (bs:=s.data.toList);obtain⟨r,hr⟩:=aja (dN s.data.toList at_ er);rw[hr]at hB b1 b2;obtain⟨n,at2,er2⟩:=r;simp only at hB b1 b2;have iz:∀a b,bH s.data.toList at_ er a b=(if (if er2.1=0/\(n<a\/b<n) then (2,at_) else er2:Er).1=0 then n else a,at2,if er2.1=0/\(n<a\/b<n) then (2,at_) else er2):=fun a b=>by unfold bH;rw[hr]
 rw[iz];have uJ:(n:Int)<256:=by omega
 have aab:(lo:Int)<=1000:=by omega
 have aac:(hi:Int)<=1000:=by omega
 have PX:(at_:Int)<=100000:=by omega
 clear hr iz;by_cases h0:er2.1=0
 ·by_cases h1:n<lo
  ·have Id:(n:Int)<(lo:Int):=by omega
   have hc:er2.1=0/\(n<lo\/hi<n):=⟨h0,.inl h1⟩;simp only[ajd hc,show ¬((2:Nat)=0) by decide,if_false];clear hc;have hN:=fun W (hW:Sc W x s at2 er2)=>i6 hW 2 at_;have gK:noS er2 2 at_=(2,at_):=by unfold noS;rw[ajd h0]
   rw[gK]at hN;clear gK;go_enter func53,ntmps53;go_wp2_with fail;refine hB.mono ?_;rintro e w2 ⟨rfl,aP,gY⟩;obtain⟨d0,d1,d2,d3⟩:=gY.cells;rw[h0]at d2;have PY:=hN w2 gY;clear hB hN h0;go_wp2_with fail;refine PY.mono ?_;clear PY;rintro e w3 ⟨rfl,co,vQ⟩;obtain⟨d0,d1,d2,d3⟩:=vQ.cells;simp only at d2;go_wp2_with fail;go_ret;exact⟨rfl,aB aP co,vQ⟩
  by_cases h2:hi<n
  ·have Id:(lo:Int)<=(n:Int):=by omega
   have h2':(hi:Int)<(n:Int):=by omega
   have hc:er2.1=0/\(n<lo\/hi<n):=⟨h0,.inr h2⟩;simp only[ajd hc,show ¬((2:Nat)=0) by decide,if_false];clear hc;have hN:=fun W (hW:Sc W x s at2 er2)=>i6 hW 2 at_;have gK:noS er2 2 at_=(2,at_):=by unfold noS;rw[ajd h0]
   rw[gK]at hN;clear gK;go_enter func53,ntmps53;go_wp2_with fail;refine hB.mono ?_;rintro e w2 ⟨rfl,aP,gY⟩;obtain⟨d0,d1,d2,d3⟩:=gY.cells;rw[h0]at d2;have PY:=hN w2 gY;clear hB hN h0;go_wp2_with fail;refine PY.mono ?_;clear PY;rintro e w3 ⟨rfl,co,vQ⟩;obtain⟨d0,d1,d2,d3⟩:=vQ.cells;simp only at d2;go_wp2_with fail;go_ret;exact⟨rfl,aB aP co,vQ⟩
  have Id:(lo:Int)<=(n:Int):=by omega
  have h2':(n:Int)<=(hi:Int):=by omega
  have hc:¬(er2.1=0/\(n<lo\/hi<n)):=by omega
  simp only[ajc hc,ajd h0];clear hc;go_enter func53,ntmps53;go_wp2_with fail;refine hB.mono ?_;rintro e w2 ⟨rfl,aP,gY⟩;obtain⟨d0,d1,d2,d3⟩:=gY.cells;rw[h0]at d2;clear hB h0;go_wp2_with fail;go_ret;exact⟨rfl,aP,gY⟩
 have e0:((er2.1:Int)==0)=false:=beqn (by omega);have e1:((er2.1:Int) != 0)=true:=by simp only[bne,e0];rfl
 have hc:¬(er2.1=0/\(n<lo\/hi<n)):=by omega
 simp only[ajc hc,ajc h0];clear hc;go_enter func53,ntmps53;go_wp2_with fail;refine hB.mono ?_;rintro e w2 ⟨rfl,aP,gY⟩;obtain⟨d0,d1,d2,d3⟩:=gY.cells;clear hB h0;go_wp2_with fail;go_ret;exact⟨rfl,aP,gY⟩
end
theorem dj{w:World}{lo e size n:Nat}{v:Value}{xs:List Value}(h:w.ownsRow lo e size v n xs):w.ownsRow 0 e size v n xs:=by
 refine⟨h.1,?_⟩;rcases h.2 with h2|⟨g,cap,cur,h1,_,h3⟩
 ·exact .inl h2
 exact .inr ⟨g,cap,cur,h1,ajl _,h3⟩
section
variable {w:World}{x:Nat}{s:ByteArray}{at_:Nat}{er:Er}
theorem ij{bs:List UInt8}{lo hi:Nat}:(bH bs at_ er lo hi).2.1<=at_+1/\((bH bs at_ er lo hi).1<256\/(bH bs at_ er lo hi).1=lo):=by
 have h:=mX (at_:=at_) (er:=er) (bs:=bs);unfold bH;simp only;refine⟨h.1,?_⟩;repeat' split
 all_goals first|exact .inl h.2|exact .inr rfl
def aV(l:List Nat):List Value:=l.map fun n:Nat=>.int .i64 (n:Int)
theorem lW(l:List Nat)(t:Nat):aV (l++[t])=aV l++[.int .i64 (t:Int)]:=by simp[aV]
theorem oR{a b:World}{row:Option Nat}(h:a.grownBy b none):a.grownBy b row:=⟨h.os,h.tape,h.output,h.size,fun i hi _=>h.block i hi (by simp)⟩
theorem Sc.grown{w':World}(h:Sc w x s at_ er)(k:w.grownBy w' none):Sc w' x s at_ er:=Blk.grown h k (by simp)
theorem oS(h:Sc w x s at_ er)(hs:s.size<=9223372036854775807)(ha:at_<=90000)(most:Nat)(hm:most<=100):Calls prog 54 #[.pointer (some ⟨x,0,none⟩),.int .i64 most] w fun r w'=>∃v,r=.returned v/\w.grownBy w' (some x)/\w'.ownsRow w.heap.size 3 1 v (dO s.data.toList at_ er most).1.length (aV (dO s.data.toList at_ er most).1)/\Sc w' x s (dO s.data.toList at_ er most).2.1 (dO s.data.toList at_ er most).2.2:=by
 have hN:=jr h hs (by omega) 0 most (by decide) (by omega);obtain⟨n1,n2⟩:=ij (at_:=at_) (er:=er) (bs:=s.data.toList) (lo:=0) (hi:=most);unfold dO;obtain⟨r,hr⟩:=aja (bH s.data.toList at_ er 0 most);rw[hr]at hN n1 n2;rw[hr];obtain⟨n,at1,er1⟩:=r;simp only at hN n1 n2 ⊢;have XD:n<=256:=by omega
 obtain⟨i0,hi,fo,eP,eV⟩:=info_parts ml;have xV:=Blk.lt h;clear hr n2;go_enter func54,ntmps54;go_wp2_with fail;refine hN.mono ?_;clear hN;rintro e w2 ⟨rfl,aP,gY⟩;go_wp2_with fail;go_loopw [5,6] (fun v i wr=>∃(k at2:Nat) (er2:Er) (l:List Nat),i=.int .i64 k/\k+l.length=n/\at2<=at1+l.length/\Hid (eR s.data.toList n at1 er1 []=eR s.data.toList k at2 er2 l)/\wr.ownsRow w.heap.size 3 1 v l.length (aV l)/\w.grownBy wr (some x)/\Sc wr x s at2 er2) (fun _ i _=>(intOf i).toNat)
 case atStart=>exact⟨n,at1,er1,[],rfl,rfl,nLr _,rfl,ajj _ _ _ _,aP,gY⟩
 case round=>
  obtain⟨k,at2,er2,l,rfl,jl,KR,HE,bn,bU,pk⟩:=hrel;obtain⟨av,capv,rfl,BX,_⟩:=aG bn;obtain⟨d0,d1,d2,d3⟩:=pk.cells;have rQ:(k:Int)<=256:=by omega
  by_cases h0:er2.1=0
  ·rw[h0]at d2;cases k with
   |zero=>
    have HF:Hid (eR s.data.toList n at1 er1 []=(l,at2,er2)):=by show _=_;rw[HE.out];rfl
    clear HE h0;go_wp2_with fail;go_ret;have hf:=HF.out;exact⟨_,rfl,bU,by rw[hf];exact bn,by rw[hf];exact pk⟩
   |succ k=>
    have So:=jr pk hs (by omega) 1 2 (by decide) (by decide);obtain⟨m1,m2⟩:=ij (at_:=at2) (er:=er2) (bs:=s.data.toList) (lo:=1) (hi:=2);have kK:Hid (eR s.data.toList n at1 er1 []=eR s.data.toList k (bH s.data.toList at2 er2 1 2).2.1 (bH s.data.toList at2 er2 1 2).2.2 (l++[(bH s.data.toList at2 er2 1 2).1])):=by show _=_;rw[HE.out,eR,ajd h0]
    obtain⟨r,hr⟩:=aja (bH s.data.toList at2 er2 1 2);rw[hr]at So m1 m2 kK;obtain⟨t,at3,er3⟩:=r;simp only at So m1 m2 kK;have mD:0<((k+1:Nat):Int):=by omega
    obtain⟨w5,rfl⟩:∃z,z=wr:=⟨wr,rfl⟩;clear HE h0 hr;go_wp2_with fail;refine So.mono ?_;clear So;rintro e w3 ⟨rfl,co,vQ⟩;have j7:w3.ownsRow w.heap.size 3 1 (.slice av l.length capv) l.length (aV l):=aJ bn (fun g c hb=>aF co pk hb (by decide));go_wp2_with (at_builtin;refine wpList_append_own_at _ rfl _ _ 44 rfl w.heap.size 3 i0 (.int .i64 0) 1 8 underlying44 hi fo eP eV rfl (by decide) (.slice av l.length capv) l.length (aV l) rfl (j7.alloc _) ⟨w3.heap.size,0,none⟩ 1 1 [.int .i64 t] rfl rfl ?q2 ?q3 ?q4 ?q5 ?q6 ?q7)
    case q2=>exact cell_one_new _ _ _
    case q3=>simp[Value.oneCell']
    case q4=>simp[maxLen];omega
    case q5=>omega
    case q6=>have:=(aB bU co).size;simp;omega
    case q7=>
     intro v' w' cG cD _ _;obtain⟨a',cap',rfl,_,_⟩:=aG cG;have lm:w.grownBy w' (some x):=by
      have g0:=aB (aB bU co) (aC w3 (.cells #[.int .i64 t] 3) (some x));cases i7:(Value.slice av l.length capv).ownBlock with
      |none=>rw[i7]at cD;exact aB g0 (oR cD)
      |some g=>rw[i7]at cD;exact aO g0 (ba j7 g i7).1 cD
     have hSf:Sc w' x s at3 er3:=by
      have hb:=Blk.alloc vQ (.cells #[.int .i64 t] 3);cases i7:(Value.slice av l.length capv).ownBlock with
      |none=>rw[i7]at cD;exact Blk.grown hb cD (by simp)
      |some g=>
       rw[i7]at cD;obtain⟨_,c',kt⟩:=ba (j7.alloc (.cells #[.int .i64 t] 3)) g i7;exact aF cD kt hb (by decide)
     have PZ:w'.ownsRow w.heap.size 3 1 (.slice a' (l.length+1) cap') (l++[t]).length (aV (l++[t])):=by rw[lW];simpa using cG
     go_wp2_with fail;go_roundw
     case rel=>exact⟨k,at3,er3,l++[t],by simp,by simp;omega,by simp;omega,kK,PZ,lm,hSf⟩
     case measure=>simp[intOf]
  have e0:((er2.1:Int)==0)=false:=beqn (by omega);have HF:Hid (eR s.data.toList n at1 er1 []=(l,at2,er2)):=by
   show _=_;rw[HE.out];cases k with
   |zero=>rfl
   |succ k=>rw[eR,ajc h0]
  clear HE h0;by_cases uH:k=0
  ·subst uH;go_wp2_with fail;go_ret;have hf:=HF.out;exact⟨_,rfl,bU,by rw[hf];exact bn,by rw[hf];exact pk⟩
  have mD:0<(k:Int):=by omega
  go_wp2_with fail;go_ret;have hf:=HF.out;exact⟨_,rfl,bU,by rw[hf];exact bn,by rw[hf];exact pk⟩
end
section
variable {bs:List UInt8}{at_:Nat}{er e:Er}
theorem i8(h:er.1≠0):dN bs at_ er=(0,at_,er):=by unfold dN;rw[ajd h]
theorem iw(h:er.1≠0)(lo hi:Nat):bH bs at_ er lo hi=(lo,at_,er):=by unfold bH;simp only[i8 h,ajc (show ¬(er.1=0/\(0<lo\/hi<0)) from fun c=>h c.1),ajc h]
theorem oT(h:er.1≠0)(n:Nat)(l:List Nat):eR bs n at_ er l=(l,at_,er):=by
 cases n with
 |zero=>rfl
 |succ n=>rw[eR,ajc h]
theorem s8(h:er.1≠0)(most:Nat):dO bs at_ er most=([],at_,er):=by unfold dO;rw[iw h];exact oT h _ _
theorem j9(h:er.1=0){n:Nat}(hn:fe bs at_=.ok n):dN bs at_ er=(n,at_+1,er):=by unfold fe at hn;unfold dN;rw[ajc (by simp[h])];split at hn <;> simp_all
theorem nQ(h:er.1=0)(hn:fe bs at_=.error e):dN bs at_ er=(0,at_,e)/\e.1=2:=by
 unfold fe at hn;unfold dN;rw[ajc (by simp[h])];split at hn
 ·cases hn
 rename_i hb;cases hn;rw[hb];exact⟨rfl,rfl⟩
theorem fY(h:er.1=0){n lo hi:Nat}(hn:bN bs at_ lo hi=.ok n):bH bs at_ er lo hi=(n,at_+1,er)/\lo<=n/\n<=hi:=by
 unfold bN at hn;cases hx:fe bs at_ with
 |error e=>rw[hx]at hn;cases hn
 |ok m=>
  rw[hx,aM]at hn;split at hn
  ·cases hn
  rename_i hc;cases hn;unfold bH;rw[j9 h hx];simp only[ajc (show ¬(er.1=0/\(n<lo\/hi<n)) from fun c=>hc c.2),ajd h]
  exact⟨trivial,by omega,by omega⟩
theorem js(h:er.1=0){lo hi:Nat}(hn:bN bs at_ lo hi=.error e):(bH bs at_ er lo hi).1=lo/\(bH bs at_ er lo hi).2.2=e/\e.1=2:=by
 unfold bN at hn;cases hx:fe bs at_ with
 |error e'=>
  rw[hx,aW]at hn;cases hn;obtain⟨h1,h2⟩:=nQ h hx;unfold bH;rw[h1];simp only[ajc (show ¬(e.1=0/\(0<lo\/hi<0)) from fun c=>by omega),ajc (show ¬e.1=0 by omega)]
  exact⟨trivial,trivial,h2⟩
 |ok m=>
  rw[hx,aM]at hn;split at hn
  ·rename_i hc;cases hn;unfold bH;rw[j9 h hx];simp only[ajd (show er.1=0/\(m<lo\/hi<m) from ⟨h,hc⟩)]
   exact⟨by rw[ajc (by decide)],trivial,trivial⟩
  cases hn
theorem vR(h:er.1=0):∀(k:Nat) {p:Nat}{l:List Nat} (acc:List Nat),dm bs k p=.ok l->eR bs k p er acc=(acc++l,p+l.length,er)/\l.length=k
 |0,p,l,acc,hl=>by cases hl;simp[eR]
 |k+1,p,l,acc,hl=>by
  rw[dm]at hl;cases hx:bN bs p 1 2 with
  |error e=>rw[hx]at hl;cases hl
  |ok t=>
   rw[hx,aM]at hl;cases hy:dm bs k (p+1) with
   |error e=>rw[hy]at hl;cases hl
   |ok l'=>
    rw[hy,aM]at hl;cases hl;obtain⟨a,b⟩:=vR h k (acc++[t]) hy;rw[eR,ajd h,(fY h hx).1];simp only;rw[a];exact⟨by simp;omega,by simp[b]⟩
theorem s9(h:er.1=0):∀(k:Nat) {p:Nat} (acc:List Nat),dm bs k p=.error e->(eR bs k p er acc).2.2=e/\e.1=2
 |0,p,acc,hl=>by cases hl
 |k+1,p,acc,hl=>by
  rw[dm]at hl;rw[eR,ajd h];cases hx:bN bs p 1 2 with
  |error e'=>
   rw[hx,aW]at hl;cases hl;obtain⟨_,b,c⟩:=js h hx;rw[b,oT (by omega)];exact⟨rfl,c⟩
  |ok t=>
   rw[hx,aM]at hl;rw[(fY h hx).1];cases hy:dm bs k (p+1) with
   |error e'=>
    rw[hy,aW]at hl;cases hl;exact s9 h k _ hy
   |ok l'=>rw[hy]at hl;cases hl
theorem nR(h:er.1=0){most:Nat}{l:List Nat}(hl:eO bs at_ most=.ok l):dO bs at_ er most=(l,at_+1+l.length,er)/\l.length<=most:=by
 unfold eO at hl;cases hx:bN bs at_ 0 most with
 |error e=>rw[hx]at hl;cases hl
 |ok k=>
  rw[hx,aM]at hl;obtain⟨a,_,b⟩:=fY h hx;obtain⟨c,d⟩:=vR h k [] hl;unfold dO;rw[a];simp only;rw[c];exact⟨by simp,by omega⟩
theorem oU(h:er.1=0){most:Nat}(hl:eO bs at_ most=.error e):(dO bs at_ er most).2.2=e/\e.1=2:=by
 unfold eO at hl;unfold dO;cases hx:bN bs at_ 0 most with
 |error e'=>
  rw[hx,aW]at hl;cases hl;obtain⟨_,b,c⟩:=js h hx;rw[b,oT (by omega)];exact⟨rfl,c⟩
 |ok k=>
  rw[hx,aM]at hl;rw[(fY h hx).1];exact s9 h k _ hl
structure pI where
 sig:Nat
 more:List Nat
 ax:Nat
 stop:Nat
def cK(bs:List UInt8)(nsig at_:Nat)(er:Er):pI×Nat×Er:=
 let k:=bH bs at_ er 0 (nsig-1)
 let t:=dO bs k.2.1 k.2.2 8
 let a:=dN bs t.2.1 t.2.2
 let b:=dN bs a.2.1 a.2.2
 let n:=256*a.1+b.1
 let er1:Er:=if b.2.2.1=0/\(n<1\/400<n) then (2,t.2.1) else b.2.2
 let er2:Er:=if er1.1=0/\bs.length<b.2.1+n then (2,bs.length) else er1
 ({sig:=k.1,more:=t.1,ax:=b.2.1,stop:=b.2.1+n},b.2.1+n,er2)
theorem xp(h:er.1=0){nsig:Nat}{f:ck}{q:Nat}(hf:lP bs nsig at_=.ok (f,q)):cK bs nsig at_ er=({sig:=f.sig,more:=f.ai,ax:=f.ax,stop:=q},q,er)/\f.sig<=nsig-1/\f.ai.length<=8/\q=f.ax+f.code.length/\f.code=(bs.drop f.ax).take f.code.length/\q<=bs.length/\1<=f.code.length/\f.code.length<=400:=by
 unfold lP at hf;cases h1:bN bs at_ 0 (nsig-1) with
 |error e=>rw[h1]at hf;cases hf
 |ok k=>
  rw[h1,aM]at hf;obtain⟨a1,_,a2⟩:=fY h h1;cases h2:eO bs (at_+1) 8 with
  |error e=>rw[h2]at hf;cases hf
  |ok l=>
   rw[h2,aM]at hf;obtain⟨b1,b2⟩:=nR h h2;unfold eH at hf;cases h3:fe bs (at_+1+1+l.length) with
   |error e=>rw[h3]at hf;cases hf
   |ok x=>
    rw[h3,aM]at hf;cases h4:fe bs (at_+1+1+l.length+1) with
    |error e=>rw[h4]at hf;cases hf
    |ok y=>
     rw[h4,aM]at hf;by_cases h5:256*x+y<1\/400<256*x+y
     ·rw[ajd h5]at hf;cases hf
     rw[ajc h5,aM]at hf;unfold vx at hf;by_cases h6:bs.length-(at_+1+1+l.length+2)<256*x+y
     ·rw[ajd h6]at hf;cases hf
     rw[ajc h6,aM]at hf;cases hf;have aQ:((bs.drop (at_+1+1+l.length+2)).take (256*x+y)).length=256*x+y:=by simp;omega
     unfold cK;rw[a1];simp only;rw[b1];simp only;rw[j9 h h3];simp only;rw[j9 h h4];simp only[aQ];rw[ajc (show ¬(er.1=0/\(256*x+y<1\/400<256*x+y)) from fun c=>h5 c.2),ajc (by omega)]
     exact⟨rfl,a2,b2,trivial,trivial,by omega,by omega,by omega⟩
theorem uP(h:er.1=0){nsig:Nat}(hf:lP bs nsig at_=.error e):(cK bs nsig at_ er).2.2=e/\e.1=2:=by
 have off:∀(n1 n2:Nat) (p:Nat),e.1=2->(if (if e.1=0/\(n1<1\/400<n1) then ((2,p):Er) else e).1=0/\bs.length<n2 then ((2,bs.length):Er) else if e.1=0/\(n1<1\/400<n1) then ((2,p):Er) else e)=e:=by intro n1 n2 p h2;rw[ajc (show ¬(e.1=0/\(n1<1\/400<n1)) by omega),ajc (by omega)]
 unfold lP at hf;unfold cK;cases h1:bN bs at_ 0 (nsig-1) with
 |error e'=>
  rw[h1,aW]at hf;cases hf;obtain⟨_,b,c⟩:=js h h1;simp only[b];rw[s8 (er:=e) (by omega)];simp only;rw[i8 (er:=e) (by omega)];simp only;rw[i8 (er:=e) (by omega)];simp only;exact⟨off _ _ _ c,c⟩
 |ok k=>
  rw[h1,aM]at hf;obtain⟨a1,_,a2⟩:=fY h h1;rw[a1];simp only;cases h2:eO bs (at_+1) 8 with
  |error e'=>
   rw[h2,aW]at hf;cases hf;obtain⟨b,c⟩:=oU h h2;rw[b,i8 (er:=e) (by omega)];simp only;rw[i8 (er:=e) (by omega)];exact⟨off _ _ _ c,c⟩
  |ok l=>
   rw[h2,aM]at hf;obtain⟨b1,b2⟩:=nR h h2;rw[b1];simp only;unfold eH at hf;cases h3:fe bs (at_+1+1+l.length) with
   |error e'=>
    rw[h3]at hf;cases hf;obtain⟨b,c⟩:=nQ h h3;rw[b];simp only;rw[i8 (er:=e) (by omega)];exact⟨off _ _ _ c,c⟩
   |ok x=>
    rw[h3,aM]at hf;rw[j9 h h3];simp only;cases h4:fe bs (at_+1+1+l.length+1) with
    |error e'=>
     rw[h4]at hf;cases hf;obtain⟨b,c⟩:=nQ h h4;rw[b];exact⟨off _ _ _ c,c⟩
    |ok y=>
     rw[h4,aM]at hf;rw[j9 h h4];simp only;by_cases h5:256*x+y<1\/400<256*x+y
     ·rw[ajd h5]at hf;cases hf;rw[ajd (show er.1=0/\_ from ⟨h,h5⟩),ajc (by simp)]
      exact⟨rfl,rfl⟩
     rw[ajc h5,aM]at hf;unfold vx at hf;rw[ajc (show ¬(er.1=0/\(256*x+y<1\/400<256*x+y)) from fun c=>h5 c.2)]
     by_cases h6:bs.length-(at_+1+1+l.length+2)<256*x+y
     ·rw[ajd h6]at hf;cases hf;rw[ajd (by omega)];exact⟨rfl,rfl⟩
     rw[ajc h6]at hf;cases hf
end
