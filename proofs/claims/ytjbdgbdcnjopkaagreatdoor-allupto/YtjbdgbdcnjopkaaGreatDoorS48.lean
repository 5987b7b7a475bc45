import Derived.Test.YtjbdgbdcnjopkaaGreatDoorS24
import Derived.Test.YtjbdgbdcnjopkaaGreatDoorS34
namespace Go.Proofs.YtjbdgbdcnjopkaaGreatDoor
open Go.RowKit Tryz
set_option linter.all false
set_option maxRecDepth 100000
set_option maxHeartbeats 4000000
def iO(l:List Nat):List Value:=l.map fun (n:Nat)=>.int .i64 (n:Int)
theorem jQ(l:List Nat):(iO l).length=l.length:=by simp[iO]
theorem DW{l:List Nat}{i:Nat}(h:i<l.length):(iO l)[i]?=some (.int .i64 l[i]):=by simp[iO,h]
theorem DX(l:List Nat):∀v∈iO l,v.oneCell'=true:=by intro v hv;obtain⟨n,_,rfl⟩:=List.mem_map.1 hv;rfl
theorem AP:(prog.info? 3).map (·.size)=some 1:=by kernel_rfl
theorem uf(W:World)(g:Nat)(dCap sLen sCap:Nat)(sp:Option Addr)(cur cs:List Value)(hb:Blk W g cur.toArray 3)(hn:cs.length=Nat.min sLen cur.length)(h1:∀v∈cs,v.oneCell'=true)(rJ:0<cs.length->∃ad,sp=some ad/\∀j v,cs[j]?=some v->W.cell? (ad.add j)=some v):∃W2,(Builtin.copy_ #[44,44] 3 #[.slice (some ⟨g,0,none⟩) cur.length dCap,.slice sp sLen sCap]).run prog W=.ok (.int .i64 cs.length) W2/\Blk W2 g (splice cur 0 cs).toArray 3/\Below g W W2:=by
 by_cases h0:cs.length=0
 ·obtain rfl:cs=[]:=List.eq_nil_of_length_eq_zero h0;refine⟨W,run_copy_none (P:=prog) W 44 44 3 3 _ _ _ _ _ _ underlying44 AP hn.symm,?_,Below.refl _ _⟩;simpa [splice] using hb
 obtain⟨ad,rfl,hs⟩:=rJ (by omega);have jM:cs.length<=cur.length:=by rw[hn];exact Nat.min_le_right _ _
 refine⟨_,run_copy_row (P:=prog) W 44 44 3 3 g 0 _ _ ad _ _ cur.toArray 3 cs underlying44 AP hb hn hs (by simpa using jM) h1,?_,below_setRow (Below.refl _ _) (nLr _) _⟩;have:=setRow_heap W g cur.toArray (List.take 0 cur.toArray.toList++cs++List.drop (0+cs.length) cur.toArray.toList).toArray 3 (0,0) hb;simpa [splice] using this
theorem ug{w:World}{az g cap:Nat}{xs:List Nat}(h:bO az w (.slice (some ⟨g,0,none⟩) xs.length cap) xs)(hl:xs.length<=100):Calls prog 48 #[.slice (some ⟨g,0,none⟩) xs.length cap] w fun e w'=>w.grownBy w' none/\e=.returned (.slice (some ⟨w.heap.size,0,none⟩) xs.length xs.length)/\Blk w' w.heap.size (iO xs).toArray 3:=by
 obtain⟨g',cap',c,e,hg,hb,hc⟩:=h;cases e;have um:=run_make_row' (P:=prog) 44 3 (.int .i64 0) 8 underlying44 ml rfl .i64 .i64 xs.length (by omega) (by omega);obtain⟨W,hW⟩:=aja (w.alloc (Obj.cells (madeCells #[Value.int IntKind.i64 0] xs.length) 3));have TT:Sem.run prog (Instr.makeSlice 44 (Value.int IntKind.i64 xs.length) (Value.int IntKind.i64 xs.length)) w=Result.ok (Value.slice (some ⟨w.heap.size,0,none⟩) xs.length xs.length) W:=by rw[um,hW]
 have jW:Blk W w.heap.size (List.replicate xs.length (Value.int .i64 0)).toArray 3:=by rw[<-hW,<-qs,Array.toArray_toList];exact Blk.new _ _ _
 have E7:w.grownBy W none:=by rw[<-hW];exact aC _ _ _
 obtain⟨W2,h1,h2,h3⟩:=uf W w.heap.size xs.length xs.length cap (some ⟨g,0,none⟩) (List.replicate xs.length (Value.int .i64 0)) (iO xs) jW (by rw[jQ];simp) (DX _) (fun j5=>by
  refine⟨⟨g,0,none⟩,rfl,fun j v hj=>?_⟩
  have qc:j<xs.length:=by have:=(gEs.1 hj).1;rwa [jQ]at this
  rw[DW qc]at hj
  cases hj
  rw[cJ,ajx]
  exact((hb.grown E7 (by simp)).cell j).trans (hc j qc))
 rw[jQ]at h1;simp only[List.length_replicate]at h1;have mE:splice (List.replicate xs.length (Value.int .i64 0)) 0 (iO xs)=iO xs:=by simp[splice,jQ]
 rw[mE]at h2;have Md:w.grownBy W2 none:=⟨h3.os.trans E7.os,h3.tape.trans E7.tape,h3.output.trans E7.output,ajE E7.size h3.size,fun k hk _=>(h3.block k hk).trans (E7.block k hk (by simp))⟩;have H2:Hid _:=h2;have HG:Hid _:=Md;clear um hW jW E7 h3 h2 Md mE hb hc;go_enter func48,ntmps48;go_wp2;go_ret;exact⟨HG.out,rfl,H2.out⟩
structure uh(lo:Nat)(w:World)(g:Nat)(c:Array Value)(bt bg:Nat->Nat)(l:List bu):Prop where
 cells:∀i (h:i<l.length),c[2*i]?=some (.slice (some ⟨bt i,0,none⟩) l[i].aj.length l[i].aj.length)/\c[2*i+1]?=some (.slice (some ⟨bg i,0,none⟩) l[i].ak.length l[i].ak.length)
 aj:∀i (h:i<l.length),lo<=bt i/\Blk w (bt i) (iO l[i].aj).toArray 3
 ak:∀i (h:i<l.length),lo<=bg i/\Blk w (bg i) (iO l[i].ak).toArray 3
 apart:∀i,i<l.length->bt i≠bg i/\∀j,j<i->bt j<bt i/\bt j<bg i/\bg j<bt i/\bg j<bg i
theorem Oi:(prog.info? 70).map (fun i=>(i.zero,i.size,i.bytes))=some (some (.agg #[.slice none 0 0,.slice none 0 0]),2,48):=by kernel_rfl
def set2(c:Array Value)(i:Nat)(v0 v1:Value):Array Value:=(c.setIfInBounds i v0).setIfInBounds (i+1) v1
theorem KH(c:Array Value)(i:Nat)(v0 v1:Value)(h:i+1<c.size):(set2 c i v0 v1)[i]?=some v0/\(set2 c i v0 v1)[i+1]?=some v1:=by
 unfold set2;constructor
 ·rw[aje (by omega),ajf (by omega)]
 rw[ajf (by rw[Array.size_setIfInBounds];omega)]
theorem ui(c:Array Value)(i:Nat)(v0 v1:Value){j:Nat}(h:j≠i/\j≠i+1):(set2 c i v0 v1)[j]?=c[j]?:=by unfold set2;rw[aje (by omega),aje (by omega)]
theorem DY(c:Array Value)(i:Nat)(v0 v1:Value):(set2 c i v0 v1).size=c.size:=by simp[set2]
theorem vr{w:World}{b gF:Nat}{fs:List bu}(hb:Blk w b #[.slice (some ⟨gF,0,none⟩) fs.length fs.length] 106)(hL:dM w (.slice (some ⟨gF,0,none⟩) fs.length fs.length) fs)(fQ:yJ fs)(j5:0<fs.length):Calls prog 22 #[.pointer (some ⟨b,0,none⟩)] w fun e w'=>w.grownBy w' none/\∃c bt bg,e=.returned (.slice (some ⟨w.heap.size,0,none⟩) fs.length fs.length)/\Blk w' w.heap.size c 70/\c.size=fs.length*2/\uh (w.heap.size+1) w' w.heap.size c bt bg fs:=by
 have h1:=vP hb j5;have c0:=hb.cell 0;simp at c0;obtain⟨gF',cF,e,Uj,ou⟩:=hL;cases e;have Ft:fs.length<=100:=fQ.1;obtain⟨n,hn⟩:=aja fs.length;obtain⟨i0,hi,fo,eP,eV⟩:=info_parts Oi;rw[hn]at c0 hb Ft;have um:=fun (w:World)=>run_make (P:=prog) w 27 70 i0 _ underlying27 hi fo .i64 .i64 n n (by omega) (by omega) (by rw[eV];omega) (by omega);rw[eP]at um;simp only[Int.toNat_natCast]at um;clear hi fo eP eV;have uJ:(n:Int)<=100:=by omega
 obtain⟨W,hW⟩:=aja (w.alloc (Obj.cells (madeCells (Value.cells (.agg #[.slice none 0 0,.slice none 0 0])) n) 70));have HN:Hid _:=hn;have HIN:Hid _:=ou;have OD:Hid _:=fQ;clear hn ou fQ;rw[HN.out];have acC:=hb.lt;go_enter func22,ntmps22;go_wp2_with (go_at_call 47;refine h1.mono ?_;rintro e w2 ⟨rfl,xa⟩;replace xa:=xa.symm;subst xa)
 go_loopw [19] (fun i wr=>∃(k:Nat) (c:Array Value) (bt bg:Nat->Nat),i=.int .i64 k/\k<=n/\w.grownBy wr none/\Blk wr w.heap.size c 70/\c.size=n*2/\Hid (uh (w.heap.size+1) wr w.heap.size c bt bg (fs.take k))) (fun i _=>n-(intOf i).toNat)
 case atStart=>
  refine⟨0,_,fun _=>0,fun _=>0,rfl,ajl _,aC _ _ _,Blk.new _ _ _,by simp[madeCells],?_⟩;exact⟨fun i h=>by simp at h,fun i h=>by simp at h,fun i h=>by simp at h,fun i h=>by simp at h⟩
 case round=>
  obtain⟨k,c,bt,bg,rfl,hk,bU,eF,gy,HT⟩:=hrel;have KI:=Uj.grown bU (by simp);have Ik:=bU.size;have BK:=eF.lt;by_cases bM:k<n
  ·have pB:(k:Int)<(n:Int):=by omega
   have vI:k<fs.length:=by rw[HN.out];exact bM
   obtain⟨v0,v1,v2,v3,y0,y1,y2,y3,vt,vg,vp,tb,cs,e,ht,hg,ho,M2,Sl⟩:=HIN.out k vI;cases e;have jN:=OD.out.2 _ (ajw vI);obtain⟨g1,k1,q1,rfl,eZ,iW,Ae⟩:=ht;obtain⟨g2,k2,q2,rfl,aP,df,sj⟩:=hg;obtain⟨pa,pcap,rfl,_,_⟩:=aG ho;have z0:=KI.cell (k*4);have z1:=KI.cell (k*4+1);have z2:=KI.cell (k*4+2);have z3:=KI.cell (k*4+3);rw[ajC]at z0 z1 z2 z3;rw[y0]at z0;rw[y1]at z1;rw[y2]at z2;rw[y3]at z3;rw[ajC]at z0 z1 z2 z3;obtain⟨W1,EA⟩:=aja (wr.alloc (.cells #[.slice (some ⟨g1,0,none⟩) fs[k].aj.length k1,.slice (some ⟨g2,0,none⟩) fs[k].ak.length k2,.int .i64 fs[k].ai,.slice pa fs[k].ay.length pcap] 110));clear y0 y1 y2 y3 ho M2 Sl;have Oj:w.grownBy W1 none:=by rw[<-EA];exact aB bU (aC _ _ _)
   have Ay:Blk W1 wr.heap.size #[.slice (some ⟨g1,0,none⟩) fs[k].aj.length k1,.slice (some ⟨g2,0,none⟩) fs[k].ak.length k2,.int .i64 fs[k].ai,.slice pa fs[k].ay.length pcap] 110:=by rw[<-EA];exact Blk.new _ _ _
   have RK:Blk W1 w.heap.size c 70:=by rw[<-EA];exact eF.alloc _
   have Wz:W1.heap.size=wr.heap.size+1:=by rw[<-EA];simp
   have oG:∀(g:Nat) (q:Array Value) (t:TypeId),Blk wr g q t->Blk W1 g q t:=fun g q t h=>by rw[<-EA];exact h.alloc _
   have YU:∀W,W1.grownBy W none->Calls prog 48 #[.slice (some ⟨g1,0,none⟩) fs[k].aj.length k1] W fun e w'=>W.grownBy w' none/\e=.returned (.slice (some ⟨W.heap.size,0,none⟩) fs[k].aj.length fs[k].aj.length)/\Blk w' W.heap.size (iO fs[k].aj).toArray 3:=fun W hW=>ug (az:=w.heap.size) ⟨g1,k1,q1,rfl,eZ,(iW.grown Oj (by simp)).grown hW (by simp),Ae⟩ jN.1;have YV:∀W,W1.grownBy W none->Calls prog 48 #[.slice (some ⟨g2,0,none⟩) fs[k].ak.length k2] W fun e w'=>W.grownBy w' none/\e=.returned (.slice (some ⟨W.heap.size,0,none⟩) fs[k].ak.length fs[k].ak.length)/\Blk w' W.heap.size (iO fs[k].ak).toArray 3:=fun W hW=>ug (az:=w.heap.size) ⟨g2,k2,q2,rfl,aP,(df.grown Oj (by simp)).grown hW (by simp),sj⟩ jN.2.1;have hx:∀W,W1.grownBy W none->W.cell? ⟨wr.heap.size,0,none⟩=some (.slice (some ⟨g1,0,none⟩) fs[k].aj.length k1)/\W.cell? ⟨wr.heap.size,1,none⟩=some (.slice (some ⟨g2,0,none⟩) fs[k].ak.length k2):=fun W hW=>by have h5:=Ay.grown hW (by simp);have a0:=h5.cell 0;have a1:=h5.cell 1;simp at a0 a1;exact⟨a0,a1⟩
   obtain⟨x0,x1⟩:=hx W1 (aH _ _);have D6:(c[k*2]?).isSome=true:=by simp[gy];omega
   have rD:(c[k*2+1]?).isSome=true:=by simp[gy];omega
   obtain⟨old0,IL⟩:=Option.isSome_iff_exists.1 D6;obtain⟨old1,ym⟩:=Option.isSome_iff_exists.1 rD;have vo:Hid _:=YU;have ID:Hid _:=YV;have HX:Hid _:=hx;clear YU YV hx D6 rD;go_upto_region 7 with fail
   clear EA;go_region_with (go_at_call 48;first
    | (have acD:=yf;refine(ID.out _ (by first|exact yf|exact aE yf|exact aE (aE yf))).mono ?_;rintro e w3 ⟨co,rfl,WA⟩;have Ok:W1.grownBy w3 none:=(by first|exact aB yf co|exact aB yf (bj co));have sG:=RK.grown Ok (by simp);have Ow:=(sG.cell (k*2)).trans IL;have Ae:=(sG.cell (k*2+1)).trans ym;have IM:=sG.frozen (k*2);have ie:=sG.frozen (k*2+1);have hl9:=sG.lt)
    | (refine(vo.out _ (by first|exact aH _ _|exact aE (aH _ _)|exact aE (aE (aH _ _)))).mono ?_;rintro e w2 ⟨aP,rfl,RL⟩;have yf:W1.grownBy w2 none:=(by first|exact aP|exact bj aP);obtain⟨x0,x1⟩:=HX.out w2 yf))
   all_goals
    have sk:=aB (aD w3 w.heap.size (k*2) (.slice (some ⟨wr.heap.size+1,0,none⟩) fs[k].aj.length fs[k].aj.length)) (aD _ w.heap.size (k*2+1) (.slice (some ⟨w2.heap.size,0,none⟩) fs[k].ak.length fs[k].ak.length));have Es:Blk _ w.heap.size (set2 c (k*2) (.slice (some ⟨wr.heap.size+1,0,none⟩) fs[k].aj.length fs[k].aj.length) (.slice (some ⟨w2.heap.size,0,none⟩) fs[k].ak.length fs[k].ak.length)) 70:=(sG.set (k*2) (.slice (some ⟨wr.heap.size+1,0,none⟩) fs[k].aj.length fs[k].aj.length)).set (k*2+1) (.slice (some ⟨w2.heap.size,0,none⟩) fs[k].ak.length fs[k].ak.length);have kS:=fun g (q:Array Value) (h:Blk w3 g q 3)=>aF sk sG h (by decide);have k3:=fun g (q:Array Value) (h:Blk w2 g q 3)=>kS g q (h.grown (row:=none) (by first|exact co|exact bj co) (by simp));have kR:=fun g (q:Array Value) (h:Blk wr g q 3)=>kS g q ((oG g q 3 h).grown Ok (by simp));have hsT:wr.heap.size+1<w2.heap.size:=by have q:Blk w2 W1.heap.size (iO fs[k].aj).toArray 3:=RL;have:=q.lt;omega
    have hbT:Blk w2 (wr.heap.size+1) (iO fs[k].aj).toArray 3:=by have q:Blk w2 W1.heap.size (iO fs[k].aj).toArray 3:=RL;rw[Wz]at q;exact q
    have hbG:Blk w3 w2.heap.size (iO fs[k].ak).toArray 3:=WA;have tw:=KH c (k*2) (.slice (some ⟨wr.heap.size+1,0,none⟩) fs[k].aj.length fs[k].aj.length) (.slice (some ⟨w2.heap.size,0,none⟩) fs[k].ak.length fs[k].ak.length) (by omega);have ey:Hid (uh (w.heap.size+1) ((w3.setCell ⟨w.heap.size,k*2,none⟩ (.slice (some ⟨wr.heap.size+1,0,none⟩) fs[k].aj.length fs[k].aj.length)).setCell ⟨w.heap.size,k*2+1,none⟩ (.slice (some ⟨w2.heap.size,0,none⟩) fs[k].ak.length fs[k].ak.length)) w.heap.size (set2 c (k*2) (.slice (some ⟨wr.heap.size+1,0,none⟩) fs[k].aj.length fs[k].aj.length) (.slice (some ⟨w2.heap.size,0,none⟩) fs[k].ak.length fs[k].ak.length)) (fun i=>if i=k then wr.heap.size+1 else bt i) (fun i=>if i=k then w2.heap.size else bg i) (fs.take (k+1))):=by
     have hT:=HT.out;have Mw:(fs.take (k+1)).length=k+1:=by rw[ajq];omega
     have kx:(fs.take k).length=k:=by rw[ajq];omega
     refine⟨fun i hi=>?_,fun i hi=>?_,fun i hi=>?_,fun i hi=>?_⟩
     ·by_cases e:i=k
      ·subst e;simp only[ajd,List.getElem_take];rw[ajC 2 i];exact tw
      have Et:i<k:=by omega
      obtain⟨a1,a2⟩:=hT.cells i (by omega);simp only[ajc e,List.getElem_take]at a1 a2 ⊢;rw[ui _ _ _ _ (by omega),ui _ _ _ _ (by omega)];exact⟨a1,a2⟩
     ·by_cases e:i=k
      ·subst e;simp only[ajd,List.getElem_take];exact⟨by omega,k3 _ _ hbT⟩
      obtain⟨a1,a2⟩:=hT.aj i (by omega);simp only[ajc e,List.getElem_take]at a1 a2 ⊢;exact⟨a1,kR _ _ a2⟩
     ·by_cases e:i=k
      ·subst e;simp only[ajd,List.getElem_take];exact⟨by omega,kS _ _ hbG⟩
      obtain⟨a1,a2⟩:=hT.ak i (by omega);simp only[ajc e,List.getElem_take]at a1 a2 ⊢;exact⟨a1,kR _ _ a2⟩
     by_cases e:i=k
     ·subst e;simp only[ajd];refine⟨by omega,fun j hj=>?_⟩;have b1:=(hT.aj j (by omega)).2.lt;have b2:=(hT.ak j (by omega)).2.lt;have ec:j≠i:=by omega
      simp only[ajc ec];omega
     have Et:i<k:=by omega
     obtain⟨a1,a2⟩:=hT.apart i (by omega);simp only[ajc e];refine⟨a1,fun j hj=>?_⟩;have ec:j≠k:=by omega
     simp only[ajc ec];exact a2 j hj
    go_wp2_with fail;go_roundw
    case rel=>exact⟨k+1,_,_,_,by simp,by omega,aO (aB Oj Ok) (nLr _) sk,Es,by simp[DY,gy],ey⟩
    case measure=>simp[intOf];omega
  obtain rfl:k=n:=by omega
  have d8:uh (w.heap.size+1) wr w.heap.size c bt bg fs:=by have:=HT.out;rw[ajB (ajJ HN.out)]at this;exact this
  go_wp2_with fail;go_ret;exact⟨bU,c,bt,bg,rfl,eF,gy,d8⟩
section
variable {ar:Nat}{s:LSt}{m:bf}{ai:List Nat}{st:aX}{er:Er}
end
section
variable {bs:List UInt8}{er:Er}
end
theorem bL.size{m:bf}{ai ak:List Nat}{f:ck}{T:Nat->LSt}{R:Nat->aX}{P:Nat->Nat}{n:Nat}(L:bL m ai ak f T R P n):n<=f.code.length:=by
 have key:∀i,i<=n->i<=P i:=fun i=>by
  induction i with
  |zero=>intro _;omega
  |succ i ih=>
   intro hi;have h1:=ih (by omega);have h2:=(L.trace i hi).2;have h3:=fB (L.trace i hi).1.read;omega
 rcases Nat.eq_zero_or_pos n with h0|h0
 ·omega
 have h1:=(L.trace (n-1) (by omega)).2;have h2:=im (L.trace (n-1) (by omega)).1.read;have e:n-1+1=n:=by omega
 rw[e]at h1;have:=key n (nLr _);omega
theorem bL.targetsLen{m:bf}{ai ak:List Nat}{f:ck}{T:Nat->LSt}{R:Nat->aX}{P:Nat->Nat}{n:Nat}(L:bL m ai ak f T R P n):∀st∈(T n).ay,st.ah.length<=1000:=by
 intro st cT;obtain⟨i,hi,rfl⟩:=List.getElem_of_mem cT;have hn:=(L.inv n (nLr _)).len;have ou:i<n:=by omega
 obtain⟨x,x1,x2,x3,x4,x5,x6⟩:=(L.inv n (nLr _)).ay i ou;have hx:x=(T n).ay[i]:=by rw[gEg hi]at x1;exact(Option.some.inj x1).symm
 rw[<-hx];have fQ:=yD (L.trace i ou).1.read;by_cases h4:(R i).aa.au=4
 ·rcases (L.inv n (nLr _)).ifs i ou h4 with⟨_,_,_,_,_,h,_⟩|⟨_,N,y,t,j,h1,h2,h3,_⟩
  ·rw[L.last]at h;simp at h
  rw[x1]at h2;cases h2;rw[h3];simp
 by_cases h5:(R i).aa.au=5
 ·obtain⟨F,_,_,h⟩:=x6 h5;rw[h];simp
 rw[x5 h4 h5];unfold dP;simp only;split
 ·rw[List.length_map];have:=fQ.len;omega
 simp
theorem wP{bs:List UInt8}{fs:List bu}(h:eU bs=.ok fs):yJ fs/\0<fs.length:=by
 obtain⟨m,hm,A⟩:=Bb h;obtain⟨s1,s2,s3,s4⟩:=sM hm;refine⟨⟨by rw[<-A.2];have:=s1.2.1;omega,fun f hf=>?_⟩,by rw[<-A.2];exact s3⟩;obtain⟨i,hi,rfl⟩:=List.getElem_of_mem hf;obtain⟨ai,T,R,P,n,F⟩:=A.1 i _ (gEg hi);obtain⟨pf,p1,p2,p3,L⟩:=F.fn;have iD:=s1.2.2.2 _ (gMo p2);have Ea:=s2 pf (gMo p1);have hl:=F.nloc;rw[p3,ajb]at hl;have h1:=iD.1;have h2:=iD.2.1;simp only at h1 h2;have gy:=L.size;have aQ:=(L.inv n (nLr _)).len;refine⟨by omega,by omega,?_,?_,?_⟩
 ·have:=Ea.2.1;omega
 ·rw[F.ay,aQ];have:=Ea.2.2.2.1;omega
 rw[F.ay];exact L.targetsLen
