import Derived.Test.YtjbdgbdcnjopkaaGreatDoorS23
import Derived.Laws.IdiomStrings
import Derived.Lib.ConvBytes
namespace Go.Proofs.YtjbdgbdcnjopkaaGreatDoor
open Go.RowKit Tryz
set_option linter.all false
set_option maxRecDepth 100000
set_option maxHeartbeats 4000000
section
variable {w:World}{gF:Nat}{fs:List bu}{f:bu}
def dt(w:World)(sp:Option Addr)(args:List Int):Prop:=0<args.length->∃b o,sp=some ⟨b,o,none⟩/\b<w.heap.size/\∀j (h:j<args.length),w.cell? ⟨b,o+j,none⟩=some (.int .i64 args[j])
theorem dt.kept{w':World}{sp:Option Addr}{args:List Int}(h:dt w sp args)(k:w.grownBy w' none):dt w' sp args:=fun h0=>by obtain⟨b,o,h1,h2,h3⟩:=h h0;exact⟨b,o,h1,ajA h2 k.size,fun j hj=>k.cell (h3 j hj) (by simp)⟩
theorem dt.src{sp:Option Addr}{args:List Int}(h:dt w sp args):0<args.length->∃ad,sp=some ad/\∀j v,(cA args)[j]?=some v->w.cell? (ad.add j)=some v:=fun h0=>by
 obtain⟨b,o,h1,h2,h3⟩:=h h0;refine⟨⟨b,o,none⟩,h1,fun j v hj=>?_⟩;have qc:j<args.length:=by have:=(gEs.1 hj).1;rwa [dw]at this
 rw[ly qc]at hj;cases hj;rw[cJ];exact h3 j qc
theorem dM.grown{w':World}{v:Value}{l:List bu}(h:dM w v l)(k:w.grownBy w' none):dM w' v l:=h.kept39 fun g c t _ hb=>hb.grown k (by simp)
theorem yT{w w':World}(h:Below w.heap.size w w'):w.grownBy w' none:=⟨h.os,h.tape,h.output,h.size,fun k hk _=>h.block k hk⟩
theorem CX(hL:dM w (.slice (some ⟨gF,0,none⟩) fs.length fs.length) fs)(fQ:yJ fs){i:Nat}(hf:fs[i]?=some f){sp:Option Addr}{cap:Nat}{args:List Int}(ha:dt w sp args){aA:Nat}(du:aA<=100000){o:Out}(hr:wQ fs i args aA=some o):Calls prog 50 #[.slice (some ⟨gF,0,none⟩) fs.length fs.length,.int .i64 i,.slice sp args.length cap,.int .i64 aA] w fun e w'=>w.grownBy w' none/\∃v,e=.returned v/\ow w w' v o:=by
 unfold wQ at hr;rw[hf]at hr;simp only at hr;obtain⟨w1,M8⟩:=aja (w.alloc (.cells #[.int .i64 0,.int .i64 0,.slice none 0 0] 73));have oa:w.grownBy w1 none:=by rw[<-M8];exact aC _ _ _
 have Ad:w1.heap.size=w.heap.size+1:=by rw[<-M8];simp
 have ku:Blk w1 w.heap.size #[.int .i64 0,.int .i64 0,.slice none 0 0] 73:=by rw[<-M8];exact Blk.new _ _ _
 obtain⟨W,hW⟩:=aja (w1.alloc (.cells #[.slice (some ⟨gF,0,none⟩) fs.length fs.length,.slice none 0 0,.int .i64 0] 148));have eZ:w1.grownBy W none:=by rw[<-hW];exact aC _ _ _
 have hq:Blk W (w.heap.size+1) #[.slice (some ⟨gF,0,none⟩) fs.length fs.length,.slice none 0 0,.int .i64 0] 148:=by rw[<-hW,<-Ad];exact Blk.new _ _ _
 have kI:Below w1.heap.size w1 W:=(bc.none eZ (nLr _)).below;have pj:FR w1 gF fs W:=⟨hL.grown oa,kI,fQ⟩;have yN:MR w1 gF fs.length (w.heap.size+1) (.slice none 0 0) W [] 0:=⟨hq,ajJ Ad,⟨rfl,.inl ⟨rfl,rfl⟩⟩,fun e he=>by simp at he,List.Pairwise.nil⟩;have PU:=sP pj yN hf (cap:=cap) rfl ((ha.kept oa).kept eZ).src (by simp);have sV:=(fQ.2 f (gMo hf)).2.2.1;have HR:Hid _:=hr;clear hr;go_enter func50,ntmps50;go_wp2_with fail;refine PU.mono ?_;rintro e w2 ⟨rfl,Ih,vc,cb,vl,Am,CV⟩;have dq:=pj.mono Ih.below;have sX:=Fi dq CV du HR.out ⟨by
  intro d hd
  simp at hd
  subst hd
  simp[fL];omega,by
  intro d hd
  simp at hd
  subst hd
  simp[fL];omega,by simp,by simp⟩
 clear PU HR hW M8;go_wp2_with fail;refine sX.mono ?_;clear sX;rintro e w3 ⟨EF,v3,rfl,vv,rfl,hv⟩;have hB:Below w1.heap.size w1 w3:=(kI.trans Ih.below).trans EF;have mC:=iY hB ku;have x0:=mC.cell 0;have x1:=mC.cell 1;have x2:=mC.cell 2;have y0:=mC.frozen 0;have y1:=mC.frozen 1;have y2:=mC.frozen 2;simp at x0 x1 x2;obtain⟨va,vn,vcap,JD⟩:∃a n c,vv=.slice a n c:=by
  rcases hv with⟨rfl,_⟩|⟨g,rfl,_⟩
  ·exact⟨_,_,_,rfl⟩
  exact⟨_,_,_,rfl⟩
 subst JD;go_wp2_with fail;have r8:=jq mC (.int .i64 o.ends) (.int .i64 o.ay) (.slice va vn vcap);have g8:=aO (aB oa (yT hB)) (nLr w.heap.size) (ii w3 w.heap.size (.int .i64 o.ends) (.int .i64 o.ay) (.slice va vn vcap));have b8:=fun g (c:Array Value) (hb:Blk w3 g c 2)=>aF (ii w3 w.heap.size (.int .i64 o.ends) (.int .i64 o.ay) (.slice va vn vcap)) mC hb (by decide);unfold sQ at r8 g8 b8;have z0:=r8.cell 0;have z1:=r8.cell 1;have z2:=r8.cell 2;simp at z0 z1 z2;refine bodyPost_ret (v:=.agg #[.int .i64 o.ends,.int .i64 o.ay,.slice va vn vcap]) (by simp[results,results50,go_sem,z0,z1,z2]) rfl ⟨g8,_,rfl,_,rfl,?_⟩;rcases hv with⟨h1,h2⟩|⟨g,h1,h2,h3⟩
 ·exact .inl ⟨h1,h2⟩
 exact .inr ⟨g,h1,by omega,b8 g _ h3⟩
theorem vP{b:Nat}{l:Nat}(hb:Blk w b #[.slice (some ⟨gF,0,none⟩) l l] 106)(hl:0<l):Calls prog 47 #[.pointer (some ⟨b,0,none⟩)] w fun e w'=>e=.returned (.bool false)/\w'=w:=by
 have c0:=hb.cell 0;simp at c0;have bl:((l:Int)==0)=false:=beqn (by omega);have kx:¬l=0:=by omega
 go_enter func47,ntmps47;go_wp2;go_ret;exact⟨rfl,rfl⟩
theorem yU(n:Int):Calls prog 82 #[.int .i64 n] w fun e w'=>e=.returned (.bool (n==IntKind.i32.wrap n))/\w'=w:=by have hw:wrap64 (wrap32 n)=wrap32 n:=IntWalk.wrap64_in _ (by unfold wrap32;omega);rw[ajh];obtain⟨x,hx⟩:=aja (wrap32 n);rw[hx]at hw ⊢;go_enter func82,ntmps82;go_wp2;go_ret;exact⟨rfl,rfl⟩
def fj:List Nat->List Int->Bool
 | [],[]=>true
 |t::ts,x::xs=>(!(t==1) || (x==IntKind.i32.wrap x)) && fj ts xs
 |_,_=>false
theorem zL{ts:List Nat}{xs:List Int}{k:Nat}(h1:k<ts.length)(h2:k<xs.length):fj (ts.drop k) (xs.drop k)=((!(ts[k]==1) || (xs[k]==IntKind.i32.wrap xs[k])) && fj (ts.drop (k+1)) (xs.drop (k+1))):=by rw[List.drop_eq_getElem_cons h1,List.drop_eq_getElem_cons h2];rfl
theorem tY:∀{ts:List Nat}{xs:List Int},ts.length≠xs.length->fj ts xs=false
 | [],[],h=>by simp at h
 |t::ts,[],h=>rfl
 | [],x::xs,h=>rfl
 |t::ts,x::xs,h=>by simp only[fj];rw[tY (by simpa using h)];simp
theorem abF{az g cap cap2:Nat}{ts:List Nat}{xs:List Int}{sp:Option Addr}(hv:bO az w (.slice (some ⟨g,0,none⟩) ts.length cap) ts)(ha:dt w sp xs)(hl:ts.length<=100):Calls prog 69 #[.slice (some ⟨g,0,none⟩) ts.length cap,.slice sp xs.length cap2] w fun e w'=>e=.returned (.bool (fj ts xs))/\w'=w:=by
 obtain⟨g',cap',c,e,_,hb,hc⟩:=hv;cases e;by_cases aQ:ts.length=xs.length
 ·obtain⟨n,hn⟩:=aja ts.length;rw[<-aQ,hn];have HN:Hid _:=hn;have HX:Hid (xs.length=n):=by show _=_;omega
  have HC:Hid _:=hc;have HA:Hid _:=ha;have In:(n:Int)<=100:=by omega
  obtain⟨q,hq⟩:∃b,fj ts xs=b:=⟨_,rfl⟩;rw[hq];have HB:Hid _:=hq;clear hn aQ hc ha hq hl;go_enter func69,ntmps69;go_wp2_with fail;go_loopw [14] (fun i wr=>∃k:Nat,i=.int .i64 k/\k<=n/\wr=w/\fj (ts.drop k) (xs.drop k)=q) (fun i _=>n-(intOf i).toNat)
  case atStart=>exact⟨0,rfl,ajl _,rfl,by simpa using HB.out⟩
  case round=>
   obtain⟨k,rfl,hk,rfl,i7⟩:=hrel;by_cases bM:k<n
   ·have pB:(k:Int)<(n:Int):=by omega
    have ME:k<ts.length:=by rw[HN.out];exact bM
    have PV:k<xs.length:=by rw[HX.out];exact bM
    obtain⟨bA,o,rfl,BK,cZ⟩:=HA.out (by omega);have x1:=cZ k PV;have t2:=(hb.cell k).trans (HC.out k ME);rw[zL ME PV]at i7;obtain⟨t,ht⟩:=aja (ts[k]);obtain⟨x,hx⟩:=aja (xs[k]);rw[ht]at t2 i7;rw[hx]at x1 i7;have qQ:Hid _:=i7;clear cZ ht hx i7;by_cases h1:t=1
    ·subst h1;have XB:=yU (w:=wr) x;cases hs:(x==IntKind.i32.wrap x)
     ·rw[hs]at XB;have hf:q=false:=by rw[<-qQ.out,hs];rfl
      clear hs;subst hf;go_wp2_with (go_at_call 82;refine XB.mono ?_;rintro e w2 ⟨rfl,rfl⟩)
      go_ret;exact⟨rfl,rfl⟩
     rw[hs]at XB;have hf:Hid (fj (ts.drop (k+1)) (xs.drop (k+1))=q):=by show _=_;rw[<-qQ.out,hs];simp
     clear hs qQ;go_wp2_with (go_at_call 82;refine XB.mono ?_;rintro e w2 ⟨rfl,rfl⟩)
     go_roundw
     case rel=>exact⟨k+1,by simp,by omega,by trivial,hf.out⟩
     case measure=>simp[intOf];omega
    have b1:((t:Int)==1)=false:=beqn (by omega);have hf:Hid (fj (ts.drop (k+1)) (xs.drop (k+1))=q):=by
     show _=_;rw[<-qQ.out];have:(t==1)=false:=by rw[ajt];exact h1
     rw[this];simp
    clear h1 qQ;go_wp2_with fail;go_roundw
    case rel=>exact⟨k+1,by simp,by omega,by trivial,hf.out⟩
    case measure=>simp[intOf];omega
   obtain rfl:k=n:=by omega
   rw[List.drop_of_length_le (by rw[HN.out];exact nLr _),List.drop_of_length_le (by rw[HX.out];exact nLr _)]at i7;have hb:q=true:=i7.symm;subst hb;clear i7;go_wp2_with fail;go_ret;exact⟨rfl,rfl⟩
 rw[tY aQ];obtain⟨n1,h1⟩:∃n,ts.length=n:=⟨_,rfl⟩;obtain⟨n2,h2⟩:∃n,xs.length=n:=⟨_,rfl⟩;rw[h1,h2]at aQ ⊢;have b1:((n2:Int)==(n1:Int))=false:=beqn (by omega);have b2:((n2:Int) != (n1:Int))=true:=by rw[bne_iff_ne];omega
 clear hc ha hb hl h1 h2 aQ;go_enter func69,ntmps69;go_wp2_with fail;go_ret;exact⟨rfl,rfl⟩
theorem CY{b:Nat}(hb:Blk w b #[.slice (some ⟨gF,0,none⟩) fs.length fs.length] 106)(hL:dM w (.slice (some ⟨gF,0,none⟩) fs.length fs.length) fs)(fQ:yJ fs){i:Nat}(hf:fs[i]?=some f){sp:Option Addr}{cap:Nat}{args:List Int}(ha:dt w sp args){aA:Nat}(du:aA<=100000)(Fs:fj f.aj args=true):Calls prog 49 #[.pointer (some ⟨b,0,none⟩),.int .i64 i,.slice sp args.length cap,.int .i64 aA] w fun e w'=>e=.returned (.bool true)/\w'=w:=by
 have hR:FR w gF fs w:=⟨hL,Below.refl _ _,fQ⟩;have c0:=hb.cell 0;simp at c0;obtain⟨g,cF,e,Uj,ou⟩:=hL;cases e;obtain⟨bM,rfl⟩:=gEs.1 hf;obtain⟨v0,v1,v2,v3,y0,y1,y2,y3,vt,vg,vp,tb,cs,e,ht,hg,ho,M2,Sl⟩:=ou i bM;cases e;have Mu:=ht;obtain⟨g1,k1,q1,rfl,_⟩:=Mu;have Ft:=(fQ.2 _ (ajw bM)).1;have PW:=abF (cap2:=cap) ht ha Ft;rw[Fs]at PW;have z0:=Uj.cell (i*4);rw[ajC,y0,ajC]at z0;have lx:(i:Int)<(fs.length:Int):=by omega
 have lv:(fs.length:Int)<=100:=by have:=fQ.1;omega
 have PO:(aA:Int)<=100000:=by omega
 obtain⟨n1,vz⟩:=aja (fs[i].aj.length);rw[vz]at z0 PW;clear vz y0 y1 y2 y3;go_enter func49,ntmps49;go_wp2_with (go_at_call 69;refine PW.mono ?_;rintro e w2 ⟨rfl,rfl⟩)
 go_ret;exact⟨rfl,rfl⟩
theorem JE{b:Nat}(hb:Blk w b #[.slice (some ⟨gF,0,none⟩) fs.length fs.length] 106)(hL:dM w (.slice (some ⟨gF,0,none⟩) fs.length fs.length) fs)(fQ:yJ fs){i:Nat}(hf:fs[i]?=some f){sp:Option Addr}{cap:Nat}{args:List Int}(ha:dt w sp args){aA:Nat}(du:aA<=100000)(Fs:fj f.aj args=true){o:Out}(hr:wQ fs i args aA=some o):Calls prog 24 #[.pointer (some ⟨b,0,none⟩),.int .i64 i,.slice sp args.length cap,.int .i64 aA] w fun e w'=>w.grownBy w' none/\∃v,e=.returned (.tuple #[v,.int .i64 0])/\ow w w' v o:=by
 have kx:0<fs.length:=by have:=(gEs.1 hf).1;omega
 obtain⟨w1,M8⟩:=aja (w.alloc (.cells #[.int .i64 0,.int .i64 0,.slice none 0 0] 73));have oa:w.grownBy w1 none:=by rw[<-M8];exact aC _ _ _
 have ku:Blk w1 w.heap.size #[.int .i64 0,.int .i64 0,.slice none 0 0] 73:=by rw[<-M8];exact Blk.new _ _ _
 have iW:=hb.grown oa (by simp);have R3:=hL.grown oa;have rD:=ha.kept oa;have h1:=vP iW kx;have h2:=CY (cap:=cap) iW R3 fQ hf rD du Fs;have h3:=CX (cap:=cap) R3 fQ hf rD du hr;have c0:=iW.cell 0;simp at c0;clear hr Fs hf;go_enter func24,ntmps24;go_wp2_with (first|(go_at_call 47;refine h1.mono ?_;rintro e w2 ⟨rfl,rfl⟩)|(go_at_call 49;refine h2.mono ?_;rintro e w2 ⟨rfl,rfl⟩))
 refine h3.mono ?_;clear h1 h2 h3;rintro e w3 ⟨co,v3,rfl,vv,rfl,hv⟩;have mC:=ku.grown co (by simp);have x0:=mC.cell 0;have x1:=mC.cell 1;have x2:=mC.cell 2;have y0:=mC.frozen 0;have y1:=mC.frozen 1;have y2:=mC.frozen 2;simp at x0 x1 x2;obtain⟨va,vn,vcap,JD⟩:∃a n c,vv=.slice a n c:=by
  rcases hv with⟨rfl,_⟩|⟨g,rfl,_⟩
  ·exact⟨_,_,_,rfl⟩
  exact⟨_,_,_,rfl⟩
 subst JD;go_wp2_with fail;have r8:=jq mC (.int .i64 o.ends) (.int .i64 o.ay) (.slice va vn vcap);have g8:=aO (aB oa co) (nLr w.heap.size) (ii w3 w.heap.size (.int .i64 o.ends) (.int .i64 o.ay) (.slice va vn vcap));have b8:=fun g (c:Array Value) (hb:Blk w3 g c 2)=>aF (ii w3 w.heap.size (.int .i64 o.ends) (.int .i64 o.ay) (.slice va vn vcap)) mC hb (by decide);unfold sQ at r8 g8 b8;have z0:=r8.cell 0;have z1:=r8.cell 1;have z2:=r8.cell 2;simp at z0 z1 z2;refine bodyPost_ret (v:=.tuple #[.agg #[.int .i64 o.ends,.int .i64 o.ay,.slice va vn vcap],.int .i64 0]) (by simp[results,results24,go_sem,z0,z1,z2]) rfl ⟨g8,_,rfl,_,rfl,?_⟩;rcases hv with⟨h1,h2⟩|⟨g,h1,h2,h3⟩
 ·exact .inl ⟨h1,h2⟩
 exact .inr ⟨g,h1,ajE oa.size h2,b8 g _ h3⟩
theorem Fu{B:Nat}{a:Option Addr}{cap:Nat}{bs:List UInt8}(hK:iu B w)(hB:B<=w.heap.size)(hb:∀i (h:i<bs.length),∃b o,a=some ⟨b,o,none⟩/\w.cell? ⟨b,o+i,none⟩=some (.int .u8 bs[i].toNat))(hc:bs.length<=cap)(hn:bs.length<=9223372036854775807):Calls prog 21 #[.slice a bs.length cap] w fun e w'=>w.grownBy w' none/\∃v er,e=.returned (.tuple #[v,.int .i64 (er:Er).1,.int .i64 er.2])/\vM w' (eU bs) v er:=by have h1:=E6 hK hB hb hc hn;go_enter func21,ntmps21;go_wp2_with fail;refine h1.mono ?_;rintro e w2 ⟨hg,v,er,rfl,hv⟩;clear h1;go_wp2_with fail;exact bodyPost_ret (v:=.tuple #[v,.int .i64 er.1,.int .i64 er.2]) (by simp[results,results21,go_sem]) rfl ⟨hg,v,er,rfl,hv⟩
end
def WH(n:Nat):ByteArray:=⟨#[UInt8.ofNat n]⟩
@[go_sem,simp] theorem Pa(n:Nat):(WH n).size=1:=rfl
def pg(w:World)(v:Value)(l:List ByteArray):Prop:=∃g cap,v=.slice (some ⟨g,0,none⟩) l.length cap/\g<w.heap.size/\∀j (h:j<l.length),w.cell? ⟨g,j,none⟩=some (.string l[j])
theorem pg.kept{w w':World}{v:Value}{l:List ByteArray}(h:pg w v l)(k:w.grownBy w' none):pg w' v l:=by obtain⟨g,cap,h1,h2,h3⟩:=h;exact⟨g,cap,h1,ajA h2 k.size,fun j hj=>k.cell (h3 j hj) (by simp)⟩
def ul(w:World)(b:Nat)(fs:List bu):Prop:=∃gF,Blk w b #[.slice (some ⟨gF,0,none⟩) fs.length fs.length] 106/\dM w (.slice (some ⟨gF,0,none⟩) fs.length fs.length) fs
theorem ul.kept{w w':World}{b:Nat}{fs:List bu}(h:ul w b fs)(k:w.grownBy w' none):ul w' b fs:=by obtain⟨gF,h1,h2⟩:=h;exact⟨gF,h1.grown k (by simp),h2.grown k⟩
theorem pg.one(w:World)(X:ByteArray):pg (w.alloc (.cells #[.string X] 9)) (.slice (some ⟨w.heap.size,0,none⟩) 1 1) [X]:=
 ⟨w.heap.size,1,rfl,by simp,fun j hj=>by
  have:j=0:=by simp at hj;omega
  subst this
  rw[(Blk.new w #[.string X] 9).cell];rfl⟩
theorem pg.two(w:World)(X Y:ByteArray):pg (w.alloc (.cells #[.string X,.string Y] 9)) (.slice (some ⟨w.heap.size,0,none⟩) 2 2) [X,Y]:=
 ⟨w.heap.size,2,rfl,by simp,fun j hj=>by
  rw[(Blk.new w #[.string X,.string Y] 9).cell]
  match j,hj with
  |0,_=>rfl
  | 1,_=>rfl⟩
theorem dt.one(w:World)(x:Int):dt (w.alloc (.cells #[.int .i64 x] 2)) (some ⟨w.heap.size,0,none⟩) [x]:=fun _=>
 ⟨w.heap.size,0,rfl,by simp,fun j hj=>by
  have:j=0:=by simp at hj;omega
  subst this
  rw[(Blk.new w #[.int .i64 x] 2).cell];rfl⟩
theorem dt.two(w:World)(x y:Int):dt (w.alloc (.cells #[.int .i64 x,.int .i64 y] 2)) (some ⟨w.heap.size,0,none⟩) [x,y]:=fun _=>
 ⟨w.heap.size,0,rfl,by simp,fun j hj=>by
  rw[(Blk.new w #[.int .i64 x,.int .i64 y] 2).cell]
  match j,hj with
  |0,_=>rfl
  | 1,_=>rfl⟩
theorem iu.none{B:Nat}{w w':World}(h:iu B w)(hB:B<=w.heap.size)(k:w.grownBy w' none):iu B w'/\B<=w'.heap.size:=⟨h.grown k hB (by simp),ajE hB k.size⟩
