import Derived.Test.YtjbdgbdcnjopkaaGreatDoorS03
namespace Go.Proofs.YtjbdgbdcnjopkaaGreatDoor
open Go.RowKit Tryz
set_option linter.all false
set_option maxRecDepth 100000
set_option maxHeartbeats 4000000
structure Cr(w:World)(r:Nat)(a:Option Addr)(cap:Nat)(cs:List UInt8)(p ar:Nat):Prop where
 blk:Blk w r #[.slice a cs.length cap,.int .i64 p,.int .i64 3,.int .i64 ar] 223
 bytes:∀i (h:i<cs.length),∃b o,a=some ⟨b,o,none⟩/\b<r/\w.cell? ⟨b,o+i,none⟩=some (.int .u8 cs[i].toNat)
 small:cs.length<=4000
 room:cs.length<=cap
 inside:p<=cs.length
theorem Cr.moved{w w':World}{r:Nat}{a:Option Addr}{cap:Nat}{cs:List UInt8}{p p' ar:Nat}(h:Cr w r a cap cs p ar)(hg:w.grownBy w' (some r))(hb:Blk w' r #[.slice a cs.length cap,.int .i64 p',.int .i64 3,.int .i64 ar] 223) (hp:p'<=cs.length):Cr w' r a cap cs p' ar:=
 ⟨hb,fun i hi=>by
  obtain⟨b,o,e,bM,hc⟩:=h.bytes i hi
  refine⟨b,o,e,bM,?_⟩
  rw[ajK (w:=w) (hg.block b (Nat.lt_trans bM h.blk.lt) (by simp;omega))];exact hc,h.small,h.room,hp⟩
theorem Cr.moved'{w w':World}{r g:Nat}{a:Option Addr}{cap:Nat}{cs:List UInt8}{p ar:Nat}(h:Cr w r a cap cs p ar)(hg:w.grownBy w' (some g))(hr:r<g):Cr w' r a cap cs p ar:=
 ⟨h.blk.grown hg (by simp;omega),fun i hi=>by
  obtain⟨b,o,e,bM,hc⟩:=h.bytes i hi
  refine⟨b,o,e,bM,?_⟩
  rw[ajK (w:=w) (hg.block b (Nat.lt_trans bM h.blk.lt) (by simp;omega))];exact hc,h.small,h.room,h.inside⟩
theorem Cr.alloc{w:World}{r:Nat}{a:Option Addr}{cap:Nat}{cs:List UInt8}{p ar:Nat}(h:Cr w r a cap cs p ar)(o:Obj):Cr (w.alloc o) r a cap cs p ar:=h.moved (aC _ _ _) (h.blk.alloc _) h.inside
theorem Cr.drew{w:World}{r:Nat}{a:Option Addr}{cap:Nat}{cs:List UInt8}{p ar:Nat}(h:Cr w r a cap cs p ar):Cr w.drew r a cap cs p ar:=⟨h.blk,h.bytes,h.small,h.room,h.inside⟩
theorem sy{w:World}{r b o:Nat}{cap:Nat}{cs:List UInt8}{p ar k:Nat}(h:Cr w r (some ⟨b,o,none⟩) cap cs p ar)(h0:0<k)(hp:p+k<=cs.length):Calls prog 156 #[.pointer (some ⟨r,0,none⟩),.int .i64 k] w fun e w'=>e=.returned (.slice (some ⟨b,o+p,none⟩) k (cap-p))/\w.grownBy w' (some r)/\Cr w' r (some ⟨b,o,none⟩) cap cs (p+k) ar:=by
 have c0:=h.blk.cell 0;have c1:=h.blk.cell 1;have f1:=h.blk.frozen 1;have hs:=h.small;have Za:=h.room;simp at c0 c1;have e1:(p:Int)+(k:Int)<=(cap:Int):=by omega
 have e2:(p:Int)<=(p:Int)+(k:Int):=by omega
 have Ct:¬cap=p:=by omega
 have e3:(k:Int)<=(cs.length:Int)-(p:Int):=by omega
 have e4:(p:Int)+(k:Int)-(k:Int)=(p:Int):=by omega
 have e5:((p:Int)+(k:Int)).toNat-p=k:=by omega
 go_enter func156,ntmps156;go_wp2;go_region
 go_wp2;go_region
 go_wp2;go_ret;have dU:w.grownBy (w.setCell ⟨r,1,none⟩ (.int .i64 (↑p + ↑k))).drew.drew (some r):=aE (aE (aD _ _ _ _));exact⟨rfl,dU,h.moved dU (Blk.drew (Blk.drew (by have:=h.blk.set 1 (.int .i64 (↑p + ↑k));simpa using this))) (by omega)⟩
theorem qh{w:World}{r:Nat}{a:Option Addr}{cap:Nat}{cs:List UInt8}{p ar k:Nat}(h:Cr w r a cap cs p ar)(hp:cs.length<p+k)(hk:k<=1000):Calls prog 156 #[.pointer (some ⟨r,0,none⟩),.int .i64 k] w fun e w'=>e=ep (3,ar)/\w.grownBy w' (some r):=by
 have c0:=h.blk.cell 0;have c1:=h.blk.cell 1;have c2:=h.blk.cell 2;have c3:=h.blk.cell 3;have hs:=h.small;have hi:=h.inside;simp at c0 c1 c2 c3;have e3:(cs.length:Int)-(p:Int)<(k:Int):=by omega
 go_enter func156,ntmps156;go_wp2;go_region
 go_wp2;exact⟨rfl,rfl,aE (aH _ _)⟩
theorem Cr.addr{w:World}{r:Nat}{a:Option Addr}{cap:Nat}{cs:List UInt8}{p ar:Nat}(h:Cr w r a cap cs p ar)(h0:0<cs.length):∃b o,a=some ⟨b,o,none⟩:=by obtain⟨b,o,e,_⟩:=h.bytes 0 h0;exact⟨b,o,e⟩
theorem Cr.byte{w:World}{r b o:Nat}{cap:Nat}{cs:List UInt8}{p ar:Nat}(h:Cr w r (some ⟨b,o,none⟩) cap cs p ar){i:Nat}(hi:i<cs.length):w.cell? ⟨b,o+i,none⟩=some (.int .u8 cs[i].toNat):=by obtain⟨b',o',e,_,hc⟩:=h.bytes i hi;cases e;exact hc
theorem pq{w:World}{r:Nat}{a:Option Addr}{cap:Nat}{cs:List UInt8}{p ar:Nat}(h:Cr w r a cap cs p ar)(hp:p<cs.length):Calls prog 130 #[.pointer (some ⟨r,0,none⟩)] w fun e w'=>e=.returned (.int .u8 cs[p].toNat)/\w.grownBy w' (some r)/\Cr w' r a cap cs (p+1) ar:=by
 obtain⟨b,o,rfl⟩:=h.addr (by omega);have hT:=sy h (k:=1) (by omega) (by omega);go_enter func130,ntmps130;go_wp2_with (go_at_call 156;refine hT.mono ?_;rintro e w1 ⟨rfl,hg,hr⟩;have hb:=hr.byte hp)
 go_ret;exact⟨rfl,hg,hr⟩
theorem qi{w:World}{r:Nat}{a:Option Addr}{cap:Nat}{cs:List UInt8}{p ar:Nat}(h:Cr w r a cap cs p ar)(hp:¬p<cs.length):Calls prog 130 #[.pointer (some ⟨r,0,none⟩)] w fun e w'=>e=ep (3,ar)/\w.grownBy w' (some r):=by
 have hT:=qh h (k:=1) (by omega) (by omega);go_enter func130,ntmps130;go_wp2_with (go_at_call 156;refine hT.mono ?_;rintro e w1 ⟨rfl,hg⟩)
 exact⟨rfl,rfl,hg⟩
theorem yo{w:World}{r:Nat}{a:Option Addr}{cap:Nat}{cs:List UInt8}{p ar:Nat}(h:Cr w r a cap cs p ar)(hp:p<cs.length)(hm:cs[p].toNat<=10):Calls prog 158 #[.pointer (some ⟨r,0,none⟩)] w fun e w'=>e=.returned (.int .i64 cs[p].toNat)/\w.grownBy w' (some r)/\Cr w' r a cap cs (p+1) ar:=by
 have e1:(cs[p].toNat:Int)<=10:=by omega
 have e2:0<=(cs[p].toNat:Int):=by omega
 go_enter func158,ntmps158;go_wp2_with (go_at_call 130;refine(pq h hp).mono ?_;rintro e w1 ⟨rfl,hg,hr⟩)
 go_ret;exact⟨rfl,hg,hr⟩
theorem vC{w:World}{r:Nat}{a:Option Addr}{cap:Nat}{cs:List UInt8}{p ar:Nat}(h:Cr w r a cap cs p ar)(hp:∀hp:p<cs.length,10<cs[p].toNat):Calls prog 158 #[.pointer (some ⟨r,0,none⟩)] w fun e w'=>e=ep (3,ar)/\w.grownBy w' (some r):=by
 by_cases hq:p<cs.length
 ·have e0:=hp hq;have e1:(10:Int)<(cs[p].toNat:Int):=by omega
  have e2:(cs[p].toNat:Int)<=255:=by have:=cs[p].toNat_lt;omega
  have e3:0<=(cs[p].toNat:Int):=by omega
  clear hp;go_enter func158,ntmps158;go_wp2_with (go_at_call 130;refine(pq h hq).mono ?_;rintro e w1 ⟨rfl,hg,hr⟩;have c2:=hr.blk.cell 2;have c3:=hr.blk.cell 3;simp at c2 c3)
  exact⟨rfl,rfl,hg⟩
 clear hp;go_enter func158,ntmps158;go_wp2_with (go_at_call 130;refine(qi h hq).mono ?_;rintro e w1 ⟨rfl,hg⟩)
 exact⟨rfl,rfl,hg⟩
theorem IP(cs:List UInt8)(p k i:Nat)(hi:i<k)(hp:p+k<=cs.length):∃h:i<(((cs.drop p).take k).map (·.toNat)).length,(((cs.drop p).take k).map (·.toNat))[i]=(cs[p+i]'(by omega)).toNat:=⟨by simp;omega,by simp⟩
theorem sz{w:World}{r:Nat}{a:Option Addr}{cap:Nat}{cs:List UInt8}{p ar k:Nat}(h:Cr w r a cap cs p ar)(h0:0<k)(hk:k<=20)(hp:p+k<=cs.length):Calls prog 157 #[.pointer (some ⟨r,0,none⟩),.int .i64 k] w fun e w'=>w.grownBy w' (some r)/\∃v,e=.returned v/\gN w.heap.size w' v (((cs.drop p).take k).map (·.toNat))/\Cr w' r a cap cs (p+k) ar:=by
 obtain⟨b,o,rfl⟩:=h.addr (by omega);have um:=run_make_row' (P:=prog) 44 3 (.int .i64 0) 8 underlying44 ml rfl .i64 .i64 k (by omega) (by omega);have Ah:(k:Int)<=20:=by omega
 have S5:r<w.heap.size:=h.blk.lt;have hs:=h.small;go_enter func157,ntmps157;go_wp2_with (go_at_call 156;refine(sy (h.alloc _) h0 hp).mono ?_;rintro e w1 ⟨rfl,hg,hr⟩)
 have iW:Blk w1 w.heap.size (madeCells #[.int .i64 0] k) 3:=(Blk.new w _ _).grown hg (by simp;omega);have eZ:w.grownBy w1 (some r):=aB (aC _ _ _) hg;go_loopw [14] (fun i wr=>∃(j:Nat) (c:Array Value),i=.int .i64 j/\j<=k/\w.grownBy wr (some r)/\Cr wr r (some ⟨b,o,none⟩) cap cs (p+k) ar/\Blk wr w.heap.size c 3/\c.size=k/\∀i (h:i<j) (h':i<k),c[i]?=some (.int .i64 (cs[p+i]'(by omega)).toNat)) (fun i _=>k-(intOf i).toNat)
 case atStart=>
  exact⟨0,_,rfl,ajl _,eZ,hr,iW,by simp[madeCells],fun i h _=>by omega⟩
 case round=>
  obtain⟨j,c,rfl,hj,bU,nM,eF,gy,hc⟩:=hrel;by_cases bM:j<k
  ·have RZ:(c[j]?).isSome=true:=by simp[gy,bM]
   obtain⟨old,oG⟩:=Option.isSome_iff_exists.1 RZ;have sj:=(eF.cell j).trans oG;have hZ:=eF.frozen j;have Pf:wr.cell? ⟨b,o+p+j,none⟩=some (.int .u8 (cs[p+j]'(by omega)).toNat):=by rw[Nat.add_assoc];exact nM.byte (by omega)
   have BG:((cs[p+j]'(by omega)).toNat:Int)<=255:=by have:=(cs[p+j]'(by omega)).toNat_lt;omega
   have RY:0<=((cs[p+j]'(by omega)).toNat:Int):=by omega
   clear RZ oG;have HC:Hid _:=hc;clear hc;go_wp2;have dU:wr.grownBy (wr.setCell ⟨w.heap.size,j,none⟩ (.int .i64 (cs[p+j]'(by omega)).toNat)) (some w.heap.size):=aD _ _ _ _;go_roundw
   case rel=>
    refine⟨j+1,_,by simp,by omega,aO bU (nLr _) dU,nM.moved' dU S5,eF.set _ _,by simp[gy],?_⟩;intro i hi jB;by_cases e:i=j
    ·subst e;rw[ajf (by omega)]
    rw[aje (Ne.symm e)];exact HC.out i (by omega) jB
   case measure=>simp[intOf];omega
  obtain rfl:j=k:=by omega
  go_wp2;go_ret;refine⟨bU,_,rfl,⟨w.heap.size,j,c,?_,nLr _,eF,?_⟩,nM⟩
  ·have:(((cs.drop p).take j).map (·.toNat)).length=j:=by simp;omega
   rw[this];rfl
  intro i hi;have jB:i<j:=by simp at hi;omega
  obtain⟨_,h2⟩:=IP cs p j i jB hp;rw[h2];exact hc i jB jB
theorem qV{w:World}{r:Nat}{a:Option Addr}{cap:Nat}{cs:List UInt8}{p ar k:Nat}(h:Cr w r a cap cs p ar)(hk:k<=20)(hp:cs.length<p+k):Calls prog 157 #[.pointer (some ⟨r,0,none⟩),.int .i64 k] w fun e w'=>w.grownBy w' (some r)/\e=ep (3,ar):=by
 have um:=run_make_row' (P:=prog) 44 3 (.int .i64 0) 8 underlying44 ml rfl .i64 .i64 k (by omega) (by omega);go_enter func157,ntmps157;go_wp2_with (go_at_call 156;refine(qh (h.alloc _) hp (by omega)).mono ?_;rintro e w1 ⟨rfl,hg⟩)
 exact⟨rfl,aB (aC _ _ _) hg,rfl⟩
theorem Cx(x y:Nat)(hx:x<2 ^ 56)(hy:y<256):bits .or .u64 ((x:Int)*256) (y:Int)=((256*x+y:Nat):Int):=by
 have e1:BitVec.ofInt 64 ((x:Int)*256)=BitVec.ofNat 64 (2 ^ 8*x):=by rw[<-BitVec.ofInt_natCast];congr 1;omega
 have e2:BitVec.ofInt 64 (y:Int)=BitVec.ofNat 64 y:=BitVec.ofInt_natCast ..;have e3:((BitVec.ofNat 64 (2 ^ 8*x)) ||| (BitVec.ofNat 64 y)).toNat=256*x+y:=by rw[BitVec.toNat_or,BitVec.toNat_ofNat,BitVec.toNat_ofNat,Nat.mod_eq_of_lt (by omega),Nat.mod_eq_of_lt (by omega),<-Nat.two_pow_add_eq_or_of_lt (i:=8) (by omega) x]
 show IntKind.u64.wrap ((BitVec.ofInt 64 ((x:Int)*256)) ||| (BitVec.ofInt 64 (y:Int))).toNat=_;rw[e1,e2,e3];simp only[IntKind.wrap,IntKind.bits,IntKind.signed];simp;omega
theorem kG(l:List UInt8)(b:UInt8):cy (l++[b])=256*cy l+b.toNat:=by simp[cy,List.foldl_append]
theorem uA(l:List UInt8):cy l.reverse<256 ^ l.length:=by
 induction l with
 |nil=>simp[cy]
 |cons b l ih=>
  rw[List.reverse_cons,kG,ajr,Nat.pow_succ];have:=b.toNat_lt;omega
theorem lr(l:List UInt8):cy l<256 ^ l.length:=by have:=uA l.reverse;simpa using this
theorem sA{w:World}{r:Nat}{a:Option Addr}{cap:Nat}{cs:List UInt8}{p ar k:Nat}(h:Cr w r a cap cs p ar)(h0:0<k)(hk:k<=8)(hp:p+k<=cs.length):Calls prog 159 #[.pointer (some ⟨r,0,none⟩),.int .i64 k] w fun e w'=>e=.returned (.int .u64 (cy ((cs.drop p).take k)))/\w.grownBy w' (some r)/\Cr w' r a cap cs (p+k) ar:=by
 obtain⟨b,o,rfl⟩:=h.addr (by omega);have Ah:(k:Int)<=8:=by omega
 have hs:=h.small;go_enter func159,ntmps159;go_wp2_with (go_at_call 156;refine(sy h h0 hp).mono ?_;rintro e w1 ⟨rfl,hg,hr⟩)
 go_loop [5,12] (fun n i=>∃(j:Nat),i=.int .i64 j/\j<=k/\n=.int .u64 (cy ((cs.drop p).take j))) (fun _ i=>k-(intOf i).toNat)
 case atStart=>exact⟨0,rfl,ajl _,by simp[cy]⟩
 case round=>
  obtain⟨j,rfl,hj,rfl⟩:=hrel;by_cases bM:j<k
  ·have Pf:w1.cell? ⟨b,o+p+j,none⟩=some (.int .u8 (cs[p+j]'(by omega)).toNat):=by rw[Nat.add_assoc];exact hr.byte (by omega)
   have BG:((cs[p+j]'(by omega)).toNat:Int)<=255:=by have:=(cs[p+j]'(by omega)).toNat_lt;omega
   have RY:0<=((cs[p+j]'(by omega)).toNat:Int):=by omega
   have cT:Hid ((cs.drop p).take (j+1)=(cs.drop p).take j++[cs[p+j]'(by omega)]):=by show _=_;rw[List.take_succ_eq_append_getElem (by simp;omega)];simp
   have BK:cy ((cs.drop p).take j)<2 ^ 56:=by
    have h1:=lr ((cs.drop p).take j);have h2:((cs.drop p).take j).length<=7:=by simp;omega
    have h3:256 ^ ((cs.drop p).take j).length<=256 ^ 7:=Nat.pow_le_pow_right (by omega) h2;have h4:(256:Nat) ^ 7=2 ^ 56:=by decide
    omega
   have oF:=Cx _ _ BK (cs[p+j]'(by omega)).toNat_lt;have HS:Hid (cy ((cs.drop p).take (j+1))=256*cy ((cs.drop p).take j)+(cs[p+j]'(by omega)).toNat):=by show _=_;rw[cT.out,kG]
   clear cT;have iW:(cy ((cs.drop p).take j):Int)<=72057594037927935:=by omega
   have Ev:0<=(cy ((cs.drop p).take j):Int):=by omega
   go_wp2
   go_round
   case rel=>exact⟨j+1,by simp,by omega,by rw[HS.out];simp⟩
   case measure=>simp[intOf];omega
  obtain rfl:j=k:=by omega
  go_wp2;go_ret;exact⟨rfl,hg,hr⟩
theorem qW{w:World}{r:Nat}{a:Option Addr}{cap:Nat}{cs:List UInt8}{p ar k:Nat}(h:Cr w r a cap cs p ar)(hk:k<=8)(hp:cs.length<p+k):Calls prog 159 #[.pointer (some ⟨r,0,none⟩),.int .i64 k] w fun e w'=>e=ep (3,ar)/\w.grownBy w' (some r):=by
 go_enter func159,ntmps159;go_wp2_with (go_at_call 156;refine(qh h hp (by omega)).mono ?_;rintro e w1 ⟨rfl,hg⟩)
 exact⟨rfl,rfl,hg⟩
def ea(lo:Nat)(w:World)(v:Value)(xs:List Nat):Prop:=(v=.slice none 0 0/\xs=[])\/gN lo w v xs
theorem ea.kept{lo:Nat}{w w':World}{v:Value}{xs:List Nat}(h:ea lo w v xs)(k:dC lo w w'):ea lo w' v xs:=h.imp id fun h=>h.kept k
theorem ea.mono{lo lo':Nat}{w:World}{v:Value}{xs:List Nat}(h:ea lo w v xs)(k:lo'<=lo):ea lo' w v xs:=h.imp id fun h=>h.mono k
theorem ea.isSlice{lo:Nat}{w:World}{v:Value}{xs:List Nat}(h:ea lo w v xs):∃a n c,v=.slice a n c:=by
 rcases h with⟨rfl,_⟩|h
 ·exact⟨_,_,_,rfl⟩
 exact h.isSlice
def cN{α:Type}(x:Option α)(ar:Nat):Except Er α:=match x with
 |some a=>.ok a
 |none=>.error (3,ar)
theorem gC{c:List UInt8}{p k:Nat}(h:c.length<p+k):cn c p k=none:=by simp[cn,h]
theorem gD{c:List UInt8}{p k:Nat}(h:p+k<=c.length):cn c p k=some ((c.drop p).take k):=by simp[cn];omega
theorem uB(n:Nat)(h:n<2 ^ 32):wrap32 (n:Int)=signed 32 n:=by simp only[wrap32,signed];split <;> simp at * <;> omega
theorem uC(n:Nat)(h:n<2 ^ 64):wrap64 (n:Int)=signed 64 n:=by simp only[wrap64,signed];split <;> simp at * <;> omega
theorem uD(x:Int):wrap64 (wrap32 x)=wrap32 x:=by simp only[wrap64,wrap32];omega
theorem yp(cs:List UInt8)(p:Nat)(h:p<cs.length):(cs.drop p).take 1=[cs[p]]:=by rw[List.drop_eq_getElem_cons h];rfl
theorem Az{w:World}{r:Nat}{a:Option Addr}{cap:Nat}{cs:List UInt8}{p ar what:Nat}(h:Cr w r a cap cs p ar)(hw:what<=7):Calls prog 131 #[.pointer (some ⟨r,0,none⟩),.int .i64 what] w fun e w'=>w.grownBy w' (some r) /\ fh (cN (bq cs p what) ar) (fun x e w'=>∃v,e=.returned (.tuple #[v,.int .i64 x.2.1])/\ea w.heap.size w' v x.1/\Cr w' r a cap cs x.2.2 ar) e w':=by
 have one:what=1\/what=2\/what=3\/what=4->Calls prog 131 #[.pointer (some ⟨r,0,none⟩),.int .i64 what] w fun e w'=>w.grownBy w' (some r) /\
   fh (cN (bq cs p what) ar) (fun x e w'=>∃v,e=.returned (.tuple #[v,.int .i64 x.2.1])/\ea w.heap.size w' v x.1/\Cr w' r a cap cs x.2.2 ar) e w':=by
  intro ho;by_cases hp:p+1<=cs.length
  ·have hr:cN (bq cs p what) ar=.ok (((cs.drop p).take 1).map (·.toNat),0,p+1):=by simp only[bq,ajd ho,gD hp,cN,Option.map_some]
   have hI:=sz h (k:=1) (by omega) (by omega) hp;rcases ho with rfl|rfl|rfl|rfl;all_goals
    go_enter func131,ntmps131;go_wp2_with (go_at_call 157;refine hI.mono ?_;rintro e w1 ⟨hg,v,rfl,hv,hc⟩)
    go_ret2;exact⟨hg,aY hr ⟨_,rfl,.inr hv,hc⟩⟩
  have hr:cN (bq cs p what) ar=.error (3,ar):=by simp only[bq,ajd ho,gC (Nat.lt_of_not_le hp),cN,Option.map_none]
  have hI:=qV h (k:=1) (by omega) (Nat.lt_of_not_le hp);rcases ho with rfl|rfl|rfl|rfl;all_goals
   go_enter func131,ntmps131;go_wp2_with (go_at_call 157;refine hI.mono ?_;rintro e w1 ⟨hg,rfl⟩)
   exact⟨rfl,hg,aK hr rfl⟩
 by_cases ho:what=1\/what=2\/what=3\/what=4
 ·exact one ho
 clear one;obtain rfl|rfl|rfl|rfl:what=0\/what=5\/what=6\/what=7:=by omega
 ·go_enter func131,ntmps131;go_wp2;go_ret2;exact⟨aH _ _,aY (a:=([],0,p)) (by simp[bq,cN]) ⟨_,rfl,.inl ⟨rfl,rfl⟩,h⟩⟩
 ·by_cases hq:p<cs.length
  ·have iW:cn cs p 1=some [cs[p]]:=by rw[gD (by omega),yp cs p hq]
   by_cases hm:cs[p].toNat<=10
   ·have e1:(cs[p].toNat:Int)<=10:=by omega
    have e2:0<=(cs[p].toNat:Int):=by omega
    by_cases hp:p+1+(cs[p].toNat+1)<=cs.length
    ·have hr:cN (bq cs p 5) ar=.ok (((cs.drop (p+1)).take (cs[p].toNat+1)).map (·.toNat),0,p+1+(cs[p].toNat+1)):=by simp only[bq,iW,ajc ho,if_true,ajc (Nat.not_lt.2 hm),gD hp,cN,Option.map_some]
     go_enter func131,ntmps131;go_wp2_with fail;refine(yo h hq hm).mono ?_;rintro e w1 ⟨rfl,hg,hc⟩;go_wp2_with (go_at_call 157;refine(sz (k:=cs[p].toNat+1) hc (by omega) (by omega) hp).mono ?_;rintro e w2 ⟨aP,v,rfl,hv,sj⟩)
     go_ret2;exact⟨aB hg aP,aY hr ⟨_,rfl,.inr (hv.mono hg.size),sj⟩⟩
    have hr:cN (bq cs p 5) ar=.error (3,ar):=by simp only[bq,iW,ajc ho,if_true,ajc (Nat.not_lt.2 hm),gC (Nat.lt_of_not_le hp),cN,Option.map_none]
    go_enter func131,ntmps131;go_wp2_with fail;refine(yo h hq hm).mono ?_;rintro e w1 ⟨rfl,hg,hc⟩;go_wp2_with (go_at_call 157;refine(qV (k:=cs[p].toNat+1) hc (by omega) (Nat.lt_of_not_le hp)).mono ?_;rintro e w2 ⟨aP,rfl⟩)
    exact⟨rfl,aB hg aP,aK hr rfl⟩
   have hr:cN (bq cs p 5) ar=.error (3,ar):=by simp only[bq,iW,ajc ho,if_true,ajd (Nat.lt_of_not_le hm),cN]
   go_enter func131,ntmps131;go_wp2_with (go_at_call 158;refine(vC h (fun _=>by omega)).mono ?_;rintro e w1 ⟨rfl,hg⟩)
   exact⟨rfl,hg,aK hr rfl⟩
  have hr:cN (bq cs p 5) ar=.error (3,ar):=by simp only[bq,ajc ho,if_true,gC (p:=p) (k:=1) (c:=cs) (by omega),cN]
  go_enter func131,ntmps131;go_wp2_with (go_at_call 158;refine(vC h (fun hp=>absurd hp hq)).mono ?_;rintro e w1 ⟨rfl,hg⟩)
  exact⟨rfl,hg,aK hr rfl⟩
 ·by_cases hp:p+4<=cs.length
  ·have hr:cN (bq cs p 6) ar=.ok ([],signed 32 (cy ((cs.drop p).take 4)),p+4):=by simp[bq,gD hp,cN]
   have hI:=sA h (k:=4) (by omega) (by omega) hp;have hb:=lr ((cs.drop p).take 4);have hl:((cs.drop p).take 4).length=4:=by simp;omega
   rw[hl]at hb;have hx:wrap64 (wrap32 (cy ((cs.drop p).take 4):Int))=signed 32 (cy ((cs.drop p).take 4)):=by rw[uD,uB _ (by omega)]
   clear hb hl;go_enter func131,ntmps131;go_wp2_with (go_at_call 159;refine hI.mono ?_;rintro e w1 ⟨rfl,hg,hc⟩)
   go_ret2;exact⟨hg,aY hr ⟨.slice none 0 0,by show Ending.returned (.tuple #[.slice none 0 0,.int .i64 (wrap64 (wrap32 _))])=_;rw[hx],.inl ⟨rfl,rfl⟩,hc⟩⟩
  have hr:cN (bq cs p 6) ar=.error (3,ar):=by simp[bq,gC (Nat.lt_of_not_le hp),cN]
  have hI:=qW h (k:=4) (by omega) (Nat.lt_of_not_le hp);go_enter func131,ntmps131;go_wp2_with (go_at_call 159;refine hI.mono ?_;rintro e w1 ⟨rfl,hg⟩)
  exact⟨rfl,hg,aK hr rfl⟩
 by_cases hp:p+8<=cs.length
 ·have hr:cN (bq cs p 7) ar=.ok ([],signed 64 (cy ((cs.drop p).take 8)),p+8):=by simp[bq,gD hp,cN]
  have hI:=sA h (k:=8) (by omega) (by omega) hp;have hb:=lr ((cs.drop p).take 8);have hl:((cs.drop p).take 8).length=8:=by simp;omega
  rw[hl]at hb;have hx:wrap64 (cy ((cs.drop p).take 8):Int)=signed 64 (cy ((cs.drop p).take 8)):=uC _ (by omega);clear hb hl;go_enter func131,ntmps131;go_wp2_with (go_at_call 159;refine hI.mono ?_;rintro e w1 ⟨rfl,hg,hc⟩)
  go_ret2;exact⟨hg,aY hr ⟨.slice none 0 0,by show Ending.returned (.tuple #[.slice none 0 0,.int .i64 (wrap64 _)])=_;rw[hx],.inl ⟨rfl,rfl⟩,hc⟩⟩
 have hr:cN (bq cs p 7) ar=.error (3,ar):=by simp[bq,gC (Nat.lt_of_not_le hp),cN]
 have hI:=qW h (k:=8) (by omega) (Nat.lt_of_not_le hp);go_enter func131,ntmps131;go_wp2_with (go_at_call 159;refine hI.mono ?_;rintro e w1 ⟨rfl,hg⟩)
 exact⟨rfl,hg,aK hr rfl⟩
