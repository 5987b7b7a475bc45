import Derived.Test.YtjbdgbdcnjopkaaGreatDoorS47
import Derived.Test.YtjbdgbdcnjopkaaGreatDoorS48
import Derived.Test.YtjbdgbdcnjopkaaGreatDoorS49
namespace Go.Proofs.YtjbdgbdcnjopkaaGreatDoor
open Go.RowKit Tryz
set_option linter.all false
set_option maxRecDepth 100000
set_option maxHeartbeats 4000000
theorem ud{w:World}{x:Int}:Calls prog 37 #[.int .i64 x] w fun e w'=>e=.returned (.int .i64 x)/\w'=w:=by go_enter func37,ntmps37;go_wp2_with fail;go_ret;exact⟨rfl,rfl⟩
theorem Hz{w:World}{x:Int}:Calls prog 41 #[.int .i64 x] w fun e w'=>e=.returned (.int .i64 x)/\w'=w:=by go_enter func41,ntmps41;go_wp2_with fail;go_ret;exact⟨rfl,rfl⟩
theorem DV{w:World}{s:ByteArray}(hs:s.size<=9223372036854775807):Calls prog 36 #[.string s] w fun r w'=>w.grownBy w' none/\GO w.heap.size w' s.data.toList r:=by
 rcases Nat.lt_or_ge 4000 s.size with h|h
 ·refine Calls.mono (By hs h) ?_;rintro r w' ⟨rfl,rfl⟩;refine⟨aH _ _,.inl ⟨(1,0),?_,rfl⟩⟩;have hl:s.data.toList.length=s.size:=by rw[ajF];rfl
  unfold eU eD;rw[ajd (by omega)];rfl
 exact zR DU h
def BC(w:World)(b:Nat)(fs:List bu):Prop:=∃gF,Blk w b #[.slice (some ⟨gF,0,none⟩) fs.length fs.length] 106/\dM w (.slice (some ⟨gF,0,none⟩) fs.length fs.length) fs
theorem BC.kept{w w':World}{b:Nat}{fs:List bu}(h:BC w b fs)(k:w.grownBy w' none):BC w' b fs:=by obtain⟨gF,h1,h2⟩:=h;exact⟨gF,h1.grown k (by simp),h2.grown k⟩
def mh(w:World)(x:Nat)(fs:List bu)(mm:bf):Prop:=∃b r ads az,Blk w x #[ptr b,ptr r] 42/\BC w b fs/\pV az w r mm ads
theorem mh.kept{w w':World}{x:Nat}{fs:List bu}{mm:bf}(h:mh w x fs mm)(k:w.grownBy w' none):mh w' x fs mm:=by obtain⟨b,r,ads,az,h1,h2,h3⟩:=h;exact⟨b,r,ads,az,h1.grown k (by simp),h2.kept k,h3.keep fun g cs t _ _ _ hb=>hb.grown k (by simp)⟩
def Oh(w w':World)(bs:List UInt8)(e:Ending):Prop:=
 w.grownBy w' none/\((∃er,eU bs=.error er/\e=.returned (.tuple #[.pointer none,.bool true]))\/∃x fs mm,eD bs=.ok mm/\bR mm mm.funs=.ok fs/\eU bs=.ok fs/\e=.returned (.tuple #[ptr x,.bool true])/\mh w' x fs mm)
theorem ue{w:World}{B g o cap:Nat}{s:ByteArray}(hK:iu B w)(hB:B<=w.heap.size)(hb:∀i (h:i<s.data.toList.length),w.cell? ⟨g,o+i,none⟩=some (.int .u8 s.data.toList[i].toNat))(hc:s.size<=cap)(hn:s.size<=9223372036854775807):Calls prog 13 #[.slice (some ⟨g,o,none⟩) s.size cap] w fun e w'=>Oh w w' s.data.toList e:=by
 have aQ:s.data.toList.length=s.size:=by rw[ajF];rfl
 have H5:=Fu (w:=w) (a:=some ⟨g,o,none⟩) (cap:=cap) (bs:=s.data.toList) hK hB (fun i hi=>⟨g,o,rfl,hb i hi⟩) (by rw[aQ];exact hc) (by rw[aQ];exact hn);have yc:=run_convert_bytes_back (P:=prog) w 26 9 5 ⟨g,o,none⟩ cap s.data.toList underlying26 underlying5 underlying9 (fun j hj=>by rw[cJ];exact hb j hj);rw[aQ]at H5 yc;have M2:(⟨s.data.toList.toArray⟩:ByteArray)=s:=by simp
 rw[M2]at yc;have Mc:Hid _:=H5;clear H5 M2 aQ hb hK hc;go_enter func13,ntmps13;go_wp2_with fail;clear yc;refine Calls.mono Mc.out ?_;rintro e w1 ⟨eZ,v,er,rfl,hv⟩;have hR:=DV (w:=w1) hn;have HR:Hid _:=hR;have HV:Hid _:=hv;have HG:Hid _:=eZ;clear hR hv eZ Mc;go_wp2_with fail;refine Calls.mono HR.out ?_;rintro e2 w2 ⟨aP,SJ⟩;have DR:Hid _:=aP;clear HR aP;rcases SJ with⟨er2,h1,rfl⟩|⟨mm,l,r,ads,h1,h2,h3,rfl,h4,h5⟩
 ·have hv:=HV.out;rw[h1]at hv;obtain⟨rfl,rfl⟩:=hv;have H1:Hid _:=h1;clear h1 HV;obtain⟨e1,e2⟩:=er;simp only;go_wp2_with (go_at_call 37;refine(ud).mono ?_;rintro e9 w9 ⟨rfl,Iy⟩;replace Iy:=Iy.symm;subst Iy)
  go_ret2;exact⟨aB HG.out DR.out,.inl ⟨_,H1.out,rfl⟩⟩
 have A6:eU s.data.toList=.ok l:=by unfold eU;rw[h1];exact h2
 have hv:=HV.out;rw[A6]at hv;obtain⟨rfl,b,vf,rfl,hb,hL⟩:=hv;have hL':=hL;obtain⟨gF,c,rfl,_⟩:=hL';have HL:Hid (BC w2 b l):=BC.kept ⟨gF,hb,hL⟩ DR.out;have HM:Hid (pV w1.heap.size w2 r mm ads):=⟨h4,h5⟩;have H1:Hid _:=h1;have H2:Hid _:=h2;have H3:Hid _:=A6;clear h1 h2 h3 h4 h5 hb hL A6 HV;simp only;go_wp2_with (go_at_call 37;refine(ud).mono ?_;rintro e9 w9 ⟨rfl,Iy⟩;replace Iy:=Iy.symm;subst Iy)
 go_ret2;have lm:=aC w2 (.cells #[ptr b,ptr r] 42) none;exact⟨aB (aB HG.out DR.out) lm,.inr ⟨_,l,mm,H1.out,H2.out,H3.out,rfl,b,r,ads,_,Blk.new _ _ _,HL.out.kept lm,HM.out.keep fun g cs t _ _ _ hb=>hb.alloc _⟩⟩
def wide(l:List Nat):List Int:=l.map fun (n:Nat)=>(n:Int)
theorem lK(l:List Nat):(wide l).length=l.length:=by simp[wide]
theorem fH.row{w:World}{v:Value}{l:List Nat}(h:aR w v l):fH w v (wide l):=by
 obtain⟨a,cap,e,_,_⟩:=aG h;refine⟨a,cap,by rw[lK];exact e,fun j hj=>?_⟩;have qc:j<l.length:=by rw[<-lK];exact hj
 rcases h.cases with⟨_,q⟩|⟨g,cp,e1,e2⟩
 ·rw[q]at qc;simp at qc
 obtain⟨_,cc,od⟩:=ba h g (by rw[e1];simp[Value.ownBlock]);rw[e]at e1;cases e1;refine⟨g,0,rfl,od.lt,?_⟩;rw[ajx];exact e2 j _ (by simp[aV,wide,gEg qc])
theorem fH.blk{w:World}{g cap:Nat}{l:List Nat}(h:Blk w g (iO l).toArray 3):fH w (.slice (some ⟨g,0,none⟩) l.length cap) (wide l):=by
 refine⟨_,cap,by rw[lK],fun j hj=>⟨g,0,rfl,h.lt,?_⟩⟩;have qc:j<l.length:=by rw[<-lK];exact hj
 rw[ajx,h.cell];simp[iO,wide,gEg qc]
theorem H6{w:World}{x:Nat}{fs:List bu}{mm:bf}{bs:List UInt8}(hx:mh w x fs mm)(hm:eD bs=.ok mm)(ht:bR mm mm.funs=.ok fs):Calls prog 14 #[ptr x] w fun e w'=>w.grownBy w' none/\∃c bt bg,e=.returned (.tuple #[.slice (some ⟨w.heap.size,0,none⟩) fs.length fs.length,.bool true])/\Blk w' w.heap.size c 70/\c.size=fs.length*2/\uh (w.heap.size+1) w' w.heap.size c bt bg fs:=by
 obtain⟨b,r,ads,az,h1,⟨gF,h2,h3⟩,h4⟩:=hx;have A6:eU bs=.ok fs:=by unfold eU;rw[hm];exact ht
 obtain⟨fQ,j5⟩:=wP A6;obtain⟨cL,xQ⟩:=B9 hm ht;have Om:=vr h2 h3 fQ j5;have hn:mm.funs.length=fs.length:=cL.2;have x0:=h1.cell 0;have x1:=h1.cell 1;simp at x0 x1;have xV:=h1.lt;obtain⟨lo,nO⟩:=aja w.heap.size;obtain⟨n,kJ⟩:=aja fs.length;have Pe:n<=1000000:=by have:=fQ.1;omega
 rw[nO,kJ]at Om ⊢;have O7:Hid (∀g∈mm.sigs,g.1.length<=1000000/\g.2.length<=1000000):=fun g hg=>by have:=(sM hm).1.2.2.2 g hg;omega
 have RN:Hid _:=Om;have H1:Hid _:=h1;have H4:Hid _:=h4;have HFN:Hid _:=xQ;have HN:Hid _:=hn;have O5:Hid _:=kJ;have uJ:(n:Int)<=1000000:=by omega
 clear Om h1 h2 h3 h4 xQ hn kJ fQ j5 cL A6 hm ht nO;go_enter func14,ntmps14;go_wp2_with fail;refine Calls.mono RN.out ?_;rintro e w1 ⟨eZ,c,bt,bg,rfl,oO,Bc,hT⟩;have SW:Hid (Blk w1 x #[ptr b,ptr r] 42):=Blk.grown H1.out eZ (by simp);have HM:Hid (pV az w1 r mm ads):=H4.out.keep fun g cs t _ _ _ hb=>hb.grown eZ (by simp);have Mf:0<mm.funs.length:=HM.out.ga.pos;obtain⟨vs,gR,capR,f0,cs1,cs2,b1,_,_,b2,_⟩:=HM.out.fn Mf;have y1:=(Blk.cell SW.out 1);simp at y1;have acP:=(Blk.lt SW.out);have m1:=b1.cell 1;simp at m1;rw[HN.out,O5.out]at m1;have SJ:=b1.lt;have ID:Hid (w.grownBy w1 none):=eZ;have Kg:Hid _:=oO;have Q3:Hid _:=Bc;have HT:Hid _:=hT;have iX:=oO.lt;clear eZ oO Bc hT b1 b2 Mf RN x0 x1 xV;go_wp2_with fail;go_loopw [5] (fun i wr=>∃k m:Nat,i=.int .i64 k/\k<=n/\wr=w1.drewN m) (fun i _=>n-(intOf i).toNat)
 case atStart=>exact⟨0,0,rfl,ajl _,rfl⟩
 case round=>
  obtain⟨k,m,rfl,hk,vF⟩:=hrel;have Sa:Hid _:=vF;have Ap:Hid (∀g cs t,Blk w1 g cs t->Blk wr g cs t):=fun g cs t hb=>by rw[vF];exact hb
  clear vF;obtain⟨w3,rfl⟩:∃z,z=wr:=⟨wr,rfl⟩;by_cases bM:k<n
  ·have pB:(k:Int)<(n:Int):=by omega
   have vI:k<fs.length:=by rw[O5.out];exact bM
   have SX:k<mm.funs.length:=by rw[HN.out];exact vI
   obtain⟨vs',gR',capR',f,cs1,cs2,b1,Ci,cF,b2,b3⟩:=HM.out.fn SX;have Y1:=HM.out.ga.fns k SX f Ci;obtain⟨pf,ai,T,R,P,nn,hF⟩:=HFN.out k fs[k] (gEg vI);have vh:mm.funs[k]'SX=pf:=by have:=hF.tr.fn;rw[gEg SX]at this;exact Option.some.inj this
   have iD:da mm k=(fs[k].aj,fs[k].ak):=jz SX (by rw[vh];exact hF.tr.sig);rw[iD]at Y1;obtain⟨vt,vg,vl,vb,t1,t2,t3,_⟩:=Y1;simp only at t2 t3;have e1:=(b1.cell 1);simp at e1;rw[m1]at e1;cases e1;have z1:=(Ap.out _ _ _ SW.out).cell 1;have z2:=(Ap.out _ _ _ b1).cell 1;have z3:=(Ap.out _ _ _ b2).cell k;rw[<-b2.cell,cF]at z3;have z4:=(Ap.out _ _ _ t1).cell 0;have z5:=(Ap.out _ _ _ t1).cell 1;obtain⟨q1,q2⟩:=HT.out.cells k vI;have z6:=(Ap.out _ _ _ Kg.out).cell (k*2);have z7:=(Ap.out _ _ _ Kg.out).cell (k*2+1);rw[show k*2=2*k by omega,q1]at z6;rw[show k*2=2*k by omega,q2]at z7;rw[show 2*k=k*2 by omega]at z6 z7;simp at z1 z2 z4 z5;rw[HN.out,O5.out]at z2;have l1:=(Ap.out _ _ _ SW.out).lt;have l2:=(Ap.out _ _ _ b1).lt;have l3:=(Ap.out _ _ _ b2).lt;have l4:=(Ap.out _ _ _ t1).lt;have l5:=(Ap.out _ _ _ Kg.out).lt;have u1:aR w3 vt fs[k].aj:=aJ t2 fun g cs hb=>Ap.out g cs 3 hb;have u2:aR w3 vg fs[k].ak:=aJ t3 fun g cs hb=>Ap.out g cs 3 hb;have u3:=Ap.out _ _ _ (HT.out.aj k vI).2;have u4:=Ap.out _ _ _ (HT.out.ak k vI).2;have k1:fs[k].aj.length<=1000000:=O7.out _ (gMo hF.tr.sig) |>.1;have k2:fs[k].ak.length<=1000000:=O7.out _ (gMo hF.tr.sig) |>.2;obtain⟨nt,ld⟩:=aja (fs[k].aj.length);obtain⟨ng,qN⟩:=aja (fs[k].ak.length);have PG:∀q,Calls prog 38 #[.slice (some ⟨bt k,0,none⟩) nt nt,vt] (w3.drewN q) fun e w'=>e=.returned (.bool true)/\∃m,w'=(w3.drewN q).drewN m:=fun q=>by rw[<-ld];exact rA (w:=w3.drewN q) (fH.blk (w:=w3) u3) (fH.row (w:=w3) u1) (by rw[lK];exact k1)
   have gY:∀q q2,Calls prog 38 #[.slice (some ⟨bg k,0,none⟩) ng ng,vg] ((w3.drewN q).drewN q2) fun e w'=>e=.returned (.bool true)/\∃m,w'=((w3.drewN q).drewN q2).drewN m:=fun q q2=>by rw[<-qN];exact rA (w:=(w3.drewN q).drewN q2) (fH.blk (w:=w3) u4) (fH.row (w:=w3) u2) (by rw[lK];exact k2)
   rw[ld]at z6;rw[qN]at z7;obtain⟨bk,i7⟩:∃z,bt k=z:=⟨_,rfl⟩;obtain⟨bk2,RO⟩:∃z,bg k=z:=⟨_,rfl⟩;rw[i7]at z6 PG;rw[RO]at z7 gY;clear b1 b2 b3 cF Ci t1 t2 t3 hF vh iD q1 q2 u1 u2 u3 u4 k1 k2 ld qN i7 RO y1 m1;go_wp2_with fail;go_quiet (first|(go_at_call 38;refine Calls.quiet_of (PG _)))
   clear PG;obtain⟨w4,ye⟩:∃z,w3.drewN nq=z:=⟨_,rfl⟩;have k4:∀a v,w3.cell? a=some v->w4.cell? a=some v:=fun a v h=>by rw[<-ye];exact h
   have s4:w3.heap.size=w4.heap.size:=by rw[<-ye];rfl
   replace z1:=k4 _ _ z1;replace z2:=k4 _ _ z2;replace z3:=k4 _ _ z3;replace z4:=k4 _ _ z4;replace z5:=k4 _ _ z5;replace z6:=k4 _ _ z6;replace z7:=k4 _ _ z7;rw[s4]at l1 l2 l3 l4 l5;have Fw:∀q,Calls prog 38 #[.slice (some ⟨bk2,0,none⟩) ng ng,vg] (w4.drewN q) fun e w'=>e=.returned (.bool true)/\∃m,w'=(w4.drewN q).drewN m:=fun q=>by rw[<-ye];exact gY nq q
   have HW4:Hid _:=ye;rw[ye];clear gY ye k4 s4;go_wp2_with fail;go_quiet (first|(go_at_call 38;refine Calls.quiet_of (Fw _)))
   clear Fw;go_wp2_with fail;go_roundw
   case rel=>exact⟨k+1,_,by simp,by omega,by rw[<-HW4.out,Sa.out,World.drewN_drewN,World.drewN_drewN]⟩
   case measure=>simp[intOf];omega
  obtain rfl:k=n:=by omega
  clear y1 m1;go_wp2_with fail;go_ret2;have hw:=Sa.out;subst hw;refine⟨bd ID.out _,c,bt,bg,rfl,Kg.out,Q3.out,?_⟩;have h9:=HT.out;exact⟨h9.cells,h9.aj,h9.ak,h9.apart⟩
theorem RP{bs:List UInt8}{mm:bf}{fs:List bu}{aA:Nat}(hm:eD bs=.ok mm)(ht:bR mm mm.funs=.ok fs)(hf:aA<=100000):Pu mm fs aA:=by
 obtain⟨h1,h2⟩:=B9 hm ht;have hl:bs.length<=4000:=by
  unfold eD at hm;split at hm
  ·cases hm
  omega
 obtain⟨_,_,_,_,q1,q2,q3⟩:=(tR hl).1 mm hm;exact⟨h1,h2,q2,fun f hf=>⟨(q3 f hf).2.1,(q3 f hf).2.2.2.2.2⟩,q1,hf⟩
theorem fH.own{w:World}{az:Nat}{v:Value}{l:List Int}(h:w.ownsRow az 2 1 v l.length (cA l)):fH w v l:=by obtain⟨a,cap,rfl,_,_⟩:=aG h;refine⟨a,cap,rfl,fun j hj=>?_⟩;obtain⟨g,e1,e2⟩:=lz (m:=0) h j _ (ly hj);obtain⟨_,cc,od⟩:=ba h g (by rw[e1];rfl);exact⟨g,0,e1,od.lt,by rw[ajx];exact e2⟩
theorem dt.own{w:World}{az cap:Nat}{a:Option Addr}{l:List Int}(h:w.ownsRow az 2 1 (.slice a l.length cap) l.length (cA l)):dt w a l:=fun h0=>by obtain⟨g,e1,_⟩:=lz (m:=0) h 0 _ (ly h0);obtain⟨_,cc,od⟩:=ba h g (by rw[e1];rfl);refine⟨g,0,e1,od.lt,fun j hj=>?_⟩;obtain⟨g',e1',e2⟩:=lz (m:=0) h j _ (ly hj);rw[e1]at e1';cases e1';rw[ajx];exact e2
theorem fH.out{w0 w:World}{vv:Value}{l:List Int}(h:(vv=.slice none 0 0/\l=[])\/∃g,vv=.slice (some ⟨g,0,none⟩) l.length l.length/\w0.heap.size<=g/\Blk w g (cA l).toArray 2):fH w vv l:=by
 rcases h with⟨rfl,rfl⟩|⟨g,rfl,_,hb⟩
 ·exact⟨none,0,rfl,fun j hj=>by simp at hj⟩
 refine⟨_,_,rfl,fun j hj=>⟨g,0,rfl,hb.lt,?_⟩⟩;rw[ajx,hb.cell];simpa using ly hj
theorem zT{w:World}{ops:Array Oper}{rest:List Oper}{o:Oper}{a:Act}{Q:Exit->Act->World->Prop}(us:o.guard=none)(s x:Operand)(ho:o.op=.call {callee:=.builtin .append,args:=#[s,x],argTypes:=#[31,31]})(lo:Nat)(hs:a.eval s=.slice none 0 0){sp:Option Addr}{cap:Nat}{args:List Int}{na:Nat}(uv:args.length=na)(hx:a.eval x=.slice sp na cap)(ha:dt w sp args)(kX:sp=none->cap=0)(h8:na*8<=140737488355328)(nO:lo<=w.heap.size)(h:∀ac capc w',w'.ownsRow lo 2 1 (.slice ac na capc) na (cA args)->dt w' ac args->w.grownBy w' none->wpList prog ops Q rest (a.put o.dst (.slice ac na capc)) w'):wpList prog ops Q (o::rest) a w:=by
 obtain⟨j0,Lu,Lp,WC,WD⟩:=info_parts sN;subst uv;cases mE:sp with
 |none=>
  have h0:args.length=0:=by
   rcases Nat.eq_zero_or_pos args.length with h|h
   ·exact h
   obtain⟨b,o,e,_⟩:=ha h;rw[mE]at e;cases e
  rw[mE,kX mE,h0]at hx;refine wpList_append_own_none us _ _ 31 ho lo 2 j0 1 underlying31 Lu (.slice none 0 0) 0 [] hs (ajj _ _ _ _) hx ?_;have h1:args=[]:=List.eq_nil_of_length_eq_zero h0;have:=h none 0 w (by rw[h0,h1];exact ajj _ _ _ _) (fun h=>by omega) (aH _ _);rw[h0]at this;exact this
 |some ad=>
  rw[mE]at hx;have rJ:∀j v,(cA args)[j]?=some v->w.cell? (ad.add j)=some v:=fun j v hj=>by
   have qc:j<args.length:=by have:=(gEs.1 hj).1;rwa [dw]at this
   obtain⟨ad',e1,e2⟩:=ha.src (by omega);rw[mE]at e1;cases e1;exact e2 j v hj
  refine wpList_append_own_at _ us _ _ 31 ho lo 2 j0 (.int .i64 0) 1 8 underlying31 Lu Lp WC WD rfl (by decide) (.slice none 0 0) 0 [] hs (ajj _ _ _ _) ad args.length cap (cA args) hx (by rw[dw,Nat.mul_one]) rJ ?_ (by unfold maxLen;omega) (by omega) nO ?_
  ·intro u hu;unfold cA at hu;obtain⟨z,_,rfl⟩:=List.mem_map.1 hu;rfl
  intro v' w1 cG cD _ _;simp only[ajx,List.nil_append]at cG;obtain⟨ac,capc,rfl,_,_⟩:=aG cG;exact h ac capc w1 cG (dt.own cG) cD
theorem KL{w:World}{x:Nat}{fs:List bu}{mm:bf}(hx:mh w x fs mm){f aA er:Int}{sp:Option Addr}{cap:Nat}{args:List Int}(ha:dt w sp args)(kX:sp=none->cap=0)(h8:args.length*8<=140737488355328){o:Out}(SY:o.values.length<=1000000)(hT:∀w1 b,BC w1 b fs->dt w1 sp args->Calls prog 24 #[ptr b,.int .i64 f,.slice sp args.length cap,.int .i64 aA] w1 fun e w'=>w1.grownBy w' none/\∃v,e=.returned (.tuple #[v,.int .i64 er])/\ow w1 w' v o)(hR:∀w1 az r ads ac capc,pV az w1 r mm ads->dt w1 ac args->Calls prog 39 #[ptr r,.int .i64 f,.slice ac args.length capc,.int .i64 aA] w1 fun e w'=>w1.grownBy w' none/\∃vv,e=.returned (.tuple #[.int .i64 o.ends,.int .i64 o.ay,vv,.int .i64 er])/\w'.ownsRow w1.heap.size 2 1 vv o.values.length (cA o.values)):Calls prog 15 #[ptr x,.int .i64 f,.slice sp args.length cap,.int .i64 aA] w fun e w'=>w.grownBy w' none/\∃vv,e=.returned (.tuple #[vv,.bool true])/\((vv=.slice none 0 0/\o.values=[])\/∃g,vv=.slice (some ⟨g,0,none⟩) o.values.length o.values.length/\w.heap.size<=g/\Blk w' g (cA o.values).toArray 2):=by
 obtain⟨lo,nO⟩:=aja w.heap.size;obtain⟨na,uv⟩:=aja args.length;rw[uv]at h8 hT hR ⊢;have HX:Hid _:=hx;have HA:Hid _:=ha;have HT:Hid _:=hT;have HR:Hid _:=hR;have OU:Hid _:=uv;have zl:Hid _:=nO;have HC:Hid _:=kX;have H8:Hid _:=h8;have HOL:Hid _:=SY;rw[nO];clear hx ha uv kX nO SY hT hR h8;go_enter func15,ntmps15;go_upto_region 3 with(at_builtin;refine zT rfl _ _ rfl lo rfl OU.out rfl HA.out HC.out H8.out (ajJ zl.out.symm) ?aq5;intro ac capc w1 _ Y2 RQ)
 have HAC:Hid _:=Y2;have ID:Hid (w.grownBy w1 none):=RQ;clear Y2 RQ;obtain⟨b,r,ads,az,h1,h2,h4⟩:=mh.kept HX.out ID.out;have x0:=h1.cell 0;have xV:=h1.lt;simp at x0;have hT:=HT.out w1 b h2 (dt.kept HA.out ID.out);have R8:Hid _:=hT;have H1:Hid _:=h1;have H4:Hid (pV az w1 r mm ads):=h4;clear hT h1 h2 h4;go_wp2_with fail;refine Calls.mono R8.out ?_;rintro e w2 ⟨aP,v,rfl,vv,rfl,JD⟩;have DR:Hid _:=aP;have Y3:Hid _:=JD;obtain⟨va,vn,vc,rfl⟩:∃a n c,vv=.slice a n c:=by
  rcases JD with⟨rfl,_⟩|⟨g,rfl,_⟩
  ·exact⟨_,_,_,rfl⟩
  exact⟨_,_,_,rfl⟩
 clear aP JD R8 x0 xV;go_upto_region 4 with fail
 have hO:=Blk.new w2 #[.int .i64 o.ends,.int .i64 o.ay,.slice va vn vc] 73;have SZ:=aC w2 (.cells #[.int .i64 o.ends,.int .i64 o.ay,.slice va vn vc] 73) none;obtain⟨wC,Y4⟩:∃z,w2.alloc (.cells #[.int .i64 o.ends,.int .i64 o.ay,.slice va vn vc] 73)=z:=⟨_,rfl⟩;rw[Y4]at hO SZ ⊢;obtain⟨gO,Y5⟩:∃z,w2.heap.size=z:=⟨_,rfl⟩;rw[Y5]at hO ⊢;have xc:=aB DR.out SZ;have tk:Blk wC x #[ptr b,ptr r] 42:=Blk.grown H1.out xc (by simp);have x1:=tk.cell 1;have xV:=tk.lt;simp at x1;have hR:=HR.out wC az r ads ac capc (pV.keep H4.out fun g cs t _ _ _ hb=>Blk.grown hb xc (by simp)) (dt.kept HAC.out xc);have uw:Hid _:=hR;have HO:Hid _:=hO;have RM:Hid _:=SZ;clear hR hO SZ Y4 Y5 xc tk;go_wp2_with fail;refine Calls.mono uw.out ?_;rintro e2 w3 ⟨co,v3,rfl,jm⟩;have S0:Blk w3 gO #[.int .i64 o.ends,.int .i64 o.ay,.slice va vn vc] 73:=Blk.grown HO.out co (by simp);have xl:w2.grownBy w3 none:=aB RM.out co;have vz:fH w3 (.slice va vn vc) o.values:=by
  refine fH.out (w0:=w1) ?_;rcases Y3.out with⟨e1,e2⟩|⟨g,e1,e2,e3⟩
  ·exact .inl ⟨e1,e2⟩
  exact .inr ⟨g,e1,e2,Blk.grown e3 xl (by simp)⟩
 have BR:=fH.own jm;have hS:=xL vz BR (ajE HOL.out (by decide));obtain⟨a3,c3,rfl,_,_⟩:=aG jm;have HS:Hid _:=hS;have HG4:Hid _:=xl;have o2:=S0.cell 2;simp at o2;have RR:=S0.lt;have V4:Hid _:=S0;clear S0 xl vz BR hS jm co uw x1 xV;go_wp2_with fail;refine Calls.mono HS.out ?_;rintro e3 w4 ⟨rfl,m4,ye⟩;have RS:Blk w4 gO #[.int .i64 o.ends,.int .i64 o.ay,.slice va vn vc] 73:=by rw[ye];exact V4.out
 have Y6:Hid (w2.grownBy w4 none):=by show w2.grownBy w4 none;rw[ye];exact bd HG4.out _
 clear ye HS o2 RR;have o0:=RS.cell 0;have o1:=RS.cell 1;have o2:=RS.cell 2;simp at o0 o1 o2;have RR:=RS.lt;clear RS;go_wp2_with fail;go_quiet (first|(go_at_call 37;refine Calls.quiet_of_same ud)|(go_at_call 41;refine Calls.quiet_of_same Hz))
 go_wp2_with fail;go_ret2;refine⟨bd (aB (aB ID.out DR.out) Y6.out) _,_,rfl,?_⟩;rcases Y3.out with⟨e1,e2⟩|⟨g,e1,e2,e3⟩
 ·exact .inl ⟨e1,e2⟩
 exact .inr ⟨g,e1,by have h1:=ID.out.size;have h2:=zl.out;omega,Blk.grown e3 (bd Y6.out _) (by simp)⟩
theorem On{w:World}{x:Nat}{fs:List bu}{mm:bf}{bs:List UInt8}(hx:mh w x fs mm)(hm:eD bs=.ok mm)(ht:bR mm mm.funs=.ok fs){i aA:Nat}(du:aA<=100000){lf:bu}(hf:fs[i]?=some lf){sp:Option Addr}{cap:Nat}{args:List Int}(ha:dt w sp args)(kX:sp=none->cap=0)(hv:bG lf.aj args){o:Out}(hr:wQ fs i args aA=some o)(SY:o.values.length<=1000000):Calls prog 15 #[ptr x,.int .i64 i,.slice sp args.length cap,.int .i64 aA] w fun e w'=>w.grownBy w' none/\∃vv,e=.returned (.tuple #[vv,.bool true])/\((vv=.slice none 0 0/\o.values=[])\/∃g,vv=.slice (some ⟨g,0,none⟩) o.values.length o.values.length/\w.heap.size<=g/\Blk w' g (cA o.values).toArray 2):=by
 have hp:=RP hm ht du;have A6:eU bs=.ok fs:=by unfold eU;rw[hm];exact ht
 obtain⟨fQ,j5⟩:=wP A6;have acU:args.length<=6:=by obtain⟨pf,ai,T,R,P,n,hF⟩:=hp.fns i lf hf;have:=(hp.sigs _ (gMo hF.tr.sig)).1;have h2:=hv.len;simp only at this;omega
 exact KL hx ha kX (by omega) SY (fun w1 b ⟨gF,h1,h2⟩ rD=>JE h1 h2 fQ hf rD du (uj hv) hr) (fun w1 az r ads ac capc h1 rD=>KJ hp h1 hf rD hv hr)
def uk:ByteArray:=⟨#[84,82,1,1,2,1,1,1,1,1,0,0,0,6,14,0,14,1,30,6]⟩
def Oo:Bool:=match eU uk.data.toList with
 |.error _=>false
 |.ok fs=>match fs[0]? with
  |none=>false
  |some lf=>(lf.aj==[1,1]) && (match wQ fs 0 [5,7] 9 with
   |none=>false
   |some o=>o.values==[12])
theorem Cm:Oo=true:=by kernel_rfl
theorem D1{fs:List bu}(h:eU uk.data.toList=.ok fs):∃lf o,fs[0]?=some lf/\lf.aj=[1,1]/\wQ fs 0 [5,7] 9=some o/\o.values=[12]:=by
 have hb:=Cm;unfold Oo at hb;rw[h]at hb;simp only at hb;cases hf:fs[0]? with
 |none=>rw[hf]at hb;cases hb
 |some lf=>
  rw[hf]at hb;simp only[Bool.and_eq_true]at hb;cases hr:wQ fs 0 [5,7] 9 with
  |none=>rw[hr]at hb;exact absurd hb.2 (by simp)
  |some o=>
   rw[hr]at hb;exact⟨lf,o,rfl,by simpa using hb.1,rfl,by simpa using hb.2⟩
theorem KM{er:Er}(h:eU uk.data.toList=.error er):False:=by have hb:=Cm;unfold Oo at hb;rw[h]at hb;cases hb
theorem zU:(#[.int .u8 84,.int .u8 82,.int .u8 1,.int .u8 1,.int .u8 2,.int .u8 1,.int .u8 1,.int .u8 1,.int .u8 1,.int .u8 1,.int .u8 0,.int .u8 0,.int .u8 0,.int .u8 6,.int .u8 14,.int .u8 0,.int .u8 14,.int .u8 1,.int .u8 30,.int .u8 6]:Array Value)=uk.data.map fun b=>Value.int .u8 b.toNat:=by kernel_rfl
theorem H7(w:World)(x y:Int):dt (w.alloc (.cells #[.int .i64 x,.int .i64 y] 2)) (some ⟨w.heap.size,0,none⟩) [x,y]:=fun _=>
 ⟨w.heap.size,0,rfl,by simp,fun j hj=>by
  rw[ajx,(Blk.new w #[.int .i64 x,.int .i64 y] 2).cell]
  match j,hj with
  |0,_=>rfl
  | 1,_=>rfl⟩
def iP(w:World)(c:Array Value):World:=(w.alloc (.cells c 5)).freeze ⟨w.heap.size,c.size,none⟩ 1
theorem lL(w:World)(c:Array Value)(n k:Nat):(convert 26 26 (.slice (some ⟨w.heap.size,0,none⟩) n k)).run prog (w.alloc (.cells c 5))=.ok (.slice (some ⟨w.heap.size,0,none⟩) n k) (iP w c):=by
 have hsh:(w.alloc (.cells c 5)).shape? w.heap.size=some (5,c.size):=by simp[World.shape?,World.alloc,-World.alloc_eq]
 simp[convert,run_underlying underlying26,run_underlying underlying5,markStringish,iP,hsh,Result.andThen]
theorem zV(w:World)(c:Array Value)(j:Nat)(hj:j<w.heap.size):(iP w c).heap[j]?=w.heap[j]?:=by
 have h1:w.heap.size≠j:=by omega
 simp[iP,World.freeze,World.alloc,-World.alloc_eq,Array.getElem?_modify,Array.getElem?_push,h1,Ne.symm h1]
theorem zW(w:World)(c:Array Value):(iP w c).heap[w.heap.size]?=some (.cells c 5 (c.size,c.size+1)):=by simp[iP,World.freeze,World.alloc,-World.alloc_eq];rw[Array.getElem_modify_self];simp
theorem xN(w:World)(c:Array Value):(iP w c).heap.size=w.heap.size+1:=by simp[iP,World.freeze,World.alloc,-World.alloc_eq]
theorem xO(w:World)(c:Array Value)(j:Nat):(iP w c).cell? ⟨w.heap.size,j,none⟩=c[j]?:=by simp[World.cell?,zW]
theorem vu(w:World)(c:Array Value):w.grownBy (iP w c) none:=⟨rfl,rfl,rfl,by rw[xN];omega,fun k hk _=>zV w c k hk⟩
theorem D2{w:World}{B:Nat}(hK:iu B w)(hB:B<=w.heap.size):Calls prog 12 #[] w fun e w'=>w.grownBy w' none/\∃x,e=.returned (ptr x)/\∃fs mm,mh w' x fs mm/\eD uk.data.toList=.ok mm/\bR mm mm.funs=.ok fs:=by
 have yc:=lL w #[.int .u8 84,.int .u8 82,.int .u8 1,.int .u8 1,.int .u8 2,.int .u8 1,.int .u8 1,.int .u8 1,.int .u8 1,.int .u8 1,.int .u8 0,.int .u8 0,.int .u8 0,.int .u8 6,.int .u8 14,.int .u8 0,.int .u8 14,.int .u8 1,.int .u8 30,.int .u8 6] 20 20;have qm:=vu w #[.int .u8 84,.int .u8 82,.int .u8 1,.int .u8 1,.int .u8 2,.int .u8 1,.int .u8 1,.int .u8 1,.int .u8 1,.int .u8 1,.int .u8 0,.int .u8 0,.int .u8 0,.int .u8 6,.int .u8 14,.int .u8 0,.int .u8 14,.int .u8 1,.int .u8 30,.int .u8 6];have jW:=xO w #[.int .u8 84,.int .u8 82,.int .u8 1,.int .u8 1,.int .u8 2,.int .u8 1,.int .u8 1,.int .u8 1,.int .u8 1,.int .u8 1,.int .u8 0,.int .u8 0,.int .u8 0,.int .u8 6,.int .u8 14,.int .u8 0,.int .u8 14,.int .u8 1,.int .u8 30,.int .u8 6];obtain⟨wA,Ak⟩:∃z,iP w #[.int .u8 84,.int .u8 82,.int .u8 1,.int .u8 1,.int .u8 2,.int .u8 1,.int .u8 1,.int .u8 1,.int .u8 1,.int .u8 1,.int .u8 0,.int .u8 0,.int .u8 0,.int .u8 6,.int .u8 14,.int .u8 0,.int .u8 14,.int .u8 1,.int .u8 30,.int .u8 6]=z:=⟨_,rfl⟩;rw[Ak]at yc qm jW;clear Ak;have hL:=ue (s:=uk) (g:=w.heap.size) (o:=0) (cap:=20) (hK.grown qm hB (by simp)) (ajE hB qm.size) (fun i hi=>by
  rw[ajx,jW,zU]
  simp only[Array.getElem?_map]
  rw[Array.getElem?_eq_getElem (by simpa using hi)]
  simp) (by decide) (by decide)
 have HL:Hid _:=hL;have G6:Hid _:=qm;clear hL qm jW hK hB;go_enter func12,ntmps12;go_wp2_with fail;clear yc;refine Calls.mono HL.out ?_;rintro e w1 ⟨eZ,gL⟩;rcases gL with⟨er,h1,_⟩|⟨x,fs,mm,h1,h2,h3,rfl,h4⟩
 ·exact(KM h1).elim
 obtain⟨lf,o,p1,p2,p3,p4⟩:=D1 h3;have Mv:=aC w1 (.cells #[.int .i64 5,.int .i64 7] 2) none;have hR:=On (i:=0) (aA:=9) (cap:=2) (h4.kept Mv) h1 h2 (by decide) p1 (H7 w1 5 7) (by simp) (by rw[p2];exact⟨.inl ⟨rfl,by unfold eX;decide⟩,.inl ⟨rfl,by unfold eX;decide⟩,trivial⟩) p3 (by rw[p4];decide);rw[p4]at hR;have HR:Hid _:=hR;have HB4:Hid (mh w1 x fs mm/\eD uk.data.toList=.ok mm/\bR mm mm.funs=.ok fs):=⟨h4,h1,h2⟩;have ID:Hid _:=eZ;have HGB:Hid _:=Mv;clear hR h1 h2 h3 h4 p1 p2 p3 p4 eZ Mv HL;go_wp2_with fail;refine Calls.mono HR.out ?_;rintro e2 w2 ⟨aP,vv,rfl,JD⟩;rcases JD with⟨_,h0⟩|⟨g,rfl,_,hb⟩
 ·cases h0
 have c0:=hb.cell 0;simp[cA]at c0;have iB:=hb.lt;have DR:Hid _:=aP;clear hb aP HR;go_wp2_with fail;go_ret;exact⟨aB (aB G6.out ID.out) (aB HGB.out DR.out),x,rfl,fs,mm,mh.kept HB4.out.1 (aB HGB.out DR.out),HB4.out.2⟩
def aaS(raw:List Int)(aj:List Nat)(k:Nat):Int:=
 if aj[k]?=some 1 then ((raw[k]?).getD k).tmod 2147483648 else (raw[k]?).getD k
def aaz(raw:List Int)(aj:List Nat)(k:Nat):List Int:=(List.range k).map (aaS raw aj)
theorem aaZ(raw:List Int)(aj:List Nat)(k:Nat):(aaz raw aj k).length=k:=by simp[aaz]
theorem aaF(raw:List Int)(aj:List Nat)(k:Nat):aaz raw aj (k+1)=aaz raw aj k++[aaS raw aj k]:=by simp[aaz,List.range_succ]
theorem acX(n:Int):eX (n.tmod 2147483648):=by have h1:=Int.natAbs_tmod n 2147483648;have h2:n.natAbs % 2147483648<2147483648:=Nat.mod_lt _ (by decide);unfold eX;have h3:(2147483648:Int).natAbs=2147483648:=rfl;rw[h3]at h1;omega
theorem acY{raw:List Int}{aj:List Nat}{k t:Nat}(hr:∀x∈raw,dZ x)(ht:aj[k]?=some t)(C9:t=1\/t=2)(hk:k<=100):fw t (aaS raw aj k):=by
 have hn:dZ ((raw[k]?).getD k):=by
  cases h:raw[k]? with
  |none=>simp[dZ];omega
  |some x=>exact hr x (gMo h)
 unfold aaS;rcases C9 with rfl|rfl
 ·rw[ajd ht];exact .inl ⟨rfl,acX _⟩
 rw[ajc (by rw[ht];decide)];exact .inr ⟨rfl,hn⟩
theorem abb{raw:List Int}{aj:List Nat}(hr:∀x∈raw,dZ x)(C9:∀t∈aj,t=1\/t=2)(hl:aj.length<=100):∀k,k<=aj.length->bG (aj.take k) (aaz raw aj k)
 |0,_=>by simp[aaz,bG]
 |k+1,hk=>by rw[aaF,List.take_succ_eq_append_getElem (by omega)];have hg:=gEg (l:=aj) (i:=k) (by omega);exact(abb hr C9 hl k (by omega)).append (bG.single (acY hr hg (C9 _ (ajw (by omega))) (by omega)))
section
variable {w:World}{fs:List bu}{gF:Nat}
theorem acx{b:Nat}(hb:Blk w b #[.slice (some ⟨gF,0,none⟩) fs.length fs.length] 106)(hL:dM w (.slice (some ⟨gF,0,none⟩) fs.length fs.length) fs)(fQ:yJ fs){f aA:Int}{sp:Option Addr}{cap:Nat}{args:List Int}(ha:dt w sp args)(gK:∀(i fu:Nat) (lf:bu),f=i->fs[i]?=some lf->aA=fu->fu<=100000->fj lf.aj args=false):Calls prog 49 #[.pointer (some ⟨b,0,none⟩),.int .i64 f,.slice sp args.length cap,.int .i64 aA] w fun e w'=>e=.returned (.bool false)/\w'=w:=by
 have c0:=hb.cell 0;simp at c0;have lv:(fs.length:Int)<=100:=by have:=fQ.1;omega
 by_cases h1:f<0
 ·clear gK ha hL fQ;go_enter func49,ntmps49;go_wp2_with fail;go_ret;exact⟨rfl,rfl⟩
 obtain⟨i,rfl⟩:∃i:Nat,f=i:=⟨f.toNat,by omega⟩;clear h1;by_cases h2:i<fs.length
 ·have lx:(i:Int)<(fs.length:Int):=by omega
  by_cases h3:aA<0
  ·clear gK ha hL fQ h2;go_enter func49,ntmps49;go_wp2_with fail;go_ret;exact⟨rfl,rfl⟩
  obtain⟨fu,rfl⟩:∃i:Nat,aA=i:=⟨aA.toNat,by omega⟩;clear h3;by_cases h4:fu<=100000
  ·have Fs:=gK i fu fs[i] rfl (gEg h2) rfl h4;have PO:(fu:Int)<=100000:=by omega
   obtain⟨g,cF,e,Uj,ou⟩:=hL;cases e;obtain⟨v0,v1,v2,v3,y0,y1,y2,y3,vt,vg,vp,tb,cs,e,ht,hg,ho,M2,Sl⟩:=ou i h2;cases e;have Mu:=ht;obtain⟨g1,k1,q1,rfl,_⟩:=Mu;have Ft:=(fQ.2 _ (ajw h2)).1;have PW:=abF (cap2:=cap) ht ha Ft;rw[Fs]at PW;have z0:=Uj.cell (i*4);rw[ajC,y0,ajC]at z0;obtain⟨n1,vz⟩:=aja (fs[i].aj.length);rw[vz]at z0 PW;clear vz y0 y1 y2 y3 Fs h4;go_enter func49,ntmps49;go_wp2_with (go_at_call 69;refine PW.mono ?_;rintro e w2 ⟨rfl,rfl⟩)
   go_ret;exact⟨rfl,rfl⟩
  have PO:(100000:Int)<(fu:Int):=by omega
  clear gK ha hL fQ h2 h4;go_enter func49,ntmps49;go_wp2_with fail;go_ret;exact⟨rfl,rfl⟩
 have lx:(fs.length:Int)<=(i:Int):=by omega
 clear gK ha hL fQ h2;go_enter func49,ntmps49;go_wp2_with fail;go_ret;exact⟨rfl,rfl⟩
theorem adg{b:Nat}(hb:Blk w b #[.slice (some ⟨gF,0,none⟩) fs.length fs.length] 106)(hL:dM w (.slice (some ⟨gF,0,none⟩) fs.length fs.length) fs)(fQ:yJ fs)(kx:0<fs.length){f aA:Int}{sp:Option Addr}{cap:Nat}{args:List Int}(ha:dt w sp args)(gK:∀(i fu:Nat) (lf:bu),f=i->fs[i]?=some lf->aA=fu->fu<=100000->fj lf.aj args=false):Calls prog 24 #[.pointer (some ⟨b,0,none⟩),.int .i64 f,.slice sp args.length cap,.int .i64 aA] w fun e w'=>w.grownBy w' none/\∃v,e=.returned (.tuple #[v,.int .i64 8])/\ow w w' v ⟨0,0,[]⟩:=by
 obtain⟨w1,M8⟩:=aja (w.alloc (.cells #[.int .i64 0,.int .i64 0,.slice none 0 0] 73));have oa:w.grownBy w1 none:=by rw[<-M8];exact aC _ _ _
 have ku:Blk w1 w.heap.size #[.int .i64 0,.int .i64 0,.slice none 0 0] 73:=by rw[<-M8];exact Blk.new _ _ _
 have iW:=hb.grown oa (by simp);have h1:=vP iW kx;have h2:=acx (cap:=cap) iW (hL.grown oa) fQ (ha.kept oa) gK;have c0:=iW.cell 0;simp at c0;have x0:=ku.cell 0;have x1:=ku.cell 1;have x2:=ku.cell 2;simp at x0 x1 x2;have y0:=ku.frozen 0;have y1:=ku.frozen 1;have y2:=ku.frozen 2;clear gK;go_enter func24,ntmps24;go_wp2_with (first|(go_at_call 47;refine h1.mono ?_;rintro e w2 ⟨rfl,rfl⟩)|(go_at_call 49;refine h2.mono ?_;rintro e w2 ⟨rfl,rfl⟩))
 have r8:=jq ku (.int .i64 0) (.int .i64 0) (.slice none 0 0);have g8:=aO oa (nLr w.heap.size) (ii _ w.heap.size (.int .i64 0) (.int .i64 0) (.slice none 0 0));unfold sQ at r8 g8;have z0:=r8.cell 0;have z1:=r8.cell 1;have z2:=r8.cell 2;simp at z0 z1 z2;exact bodyPost_ret (v:=.tuple #[.agg #[.int .i64 0,.int .i64 0,.slice none 0 0],.int .i64 8]) (by simp[results,results24,go_sem,z0,z1,z2]) rfl ⟨g8,_,rfl,_,rfl,.inl ⟨rfl,rfl⟩⟩
end
def abS(c:Int)(n:Nat):Nat:=(if c<0 then -(c+1) else c).toNat % n
theorem abo{w:World}{c:Int}(h1:-9223372036854775808<=c)(h2:c<=9223372036854775807){n:Nat}(hn:0<n)(BR:n<=10000000):Calls prog 16 #[.int .i64 c,.int .i64 n] w fun e w'=>e=.returned (.int .i64 (abS c n))/\w'=w:=by
 obtain⟨k0,uH,mD⟩:∃k0:Nat,(if c<0 then -(c+1) else c)=(k0:Int)/\k0<=9223372036854775807:=⟨(if c<0 then -(c+1) else c).toNat,by split <;> omega,by split <;> omega⟩;have hp:abS c n=k0 % n:=by unfold abS;rw[uH,Int.toNat_natCast]
 rw[hp];clear hp;have uJ:(n:Int)<=10000000:=by omega
 have yk:0<(n:Int):=by omega
 have e4:(k0:Int).tmod (n:Int)=((k0 % n:Nat):Int):=by rw[Int.tmod_eq_emod_of_nonneg (by omega)];rfl
 have rQ:(k0:Int)<=9223372036854775807:=by omega
 by_cases a:c<0
 ·rw[ajd a]at uH;have e:c = -(k0:Int)-1:=by omega
  subst e;have e2:-(-(k0:Int)-1+1)=(k0:Int):=by omega
  have e3:(0:Int)-(-(k0:Int)-1+1)=(k0:Int):=by omega
  clear uH;go_enter func16,ntmps16;go_wp2;go_ret;refine⟨?_,rfl⟩;first|rfl|(simp;done)|simp[e4]
 rw[ajc a]at uH;subst uH;go_enter func16,ntmps16;go_wp2;go_ret;refine⟨?_,rfl⟩;first|rfl|(simp;done)|simp[e4]
theorem aaO{w0 w:World}{ops:Array Oper}{rest:List Oper}{o:Oper}{a:Act}{Q:Exit->Act->World->Prop}(us:o.guard=none)(s x:Operand)(ho:o.op=.call {callee:=.builtin .append,args:=#[s,x],argTypes:=#[31,31]}){lo:Nat}(nO:w0.heap.size=lo){av:Option Addr}{j capv:Nat}{l:List Int}{M:Int}(hs:a.eval s=.slice av j capv)(hx:a.eval x=.slice (some ⟨w.heap.size,0,none⟩) 1 1)(bn:w.ownsRow lo 2 1 (.slice av j capv) j (cA l))(hj:j<=100)(hg:w0.grownBy w none)(h:∀a' cap' w',w'.ownsRow lo 2 1 (.slice a' (j+1) cap') (j+1) (cA (l++[M]))->w0.grownBy w' none->wpList prog ops Q rest (a.put o.dst (.slice a' (j+1) cap')) w'):wpList prog ops Q (o::rest) a (w.alloc (.cells #[.int .i64 M] 2)):=by
 obtain⟨i0,hi,fo,eP,eV⟩:=info_parts sN;refine wpList_append_own_at _ us _ _ 31 ho lo 2 i0 (.int .i64 0) 1 8 underlying31 hi fo eP eV rfl (by decide) (.slice av j capv) j (cA l) hs (bn.alloc _) ⟨w.heap.size,0,none⟩ 1 1 [.int .i64 M] hx rfl (cell_one_new _ _ _) (by simp[Value.oneCell']) (by simp[maxLen];omega) (by omega) (by have:=hg.size;simp;omega) ?_;intro v' w' cG cD _ _;obtain⟨a',cap',rfl,_,_⟩:=aG cG;refine h a' cap' w' ?_ ?_
 ·have e:cA (l++[M])=cA l++[.int .i64 M]:=by simp[cA]
  rw[e];exact cG
 have g0:=aB hg (aC w (.cells #[.int .i64 M] 2) none);cases i7:(Value.slice av j capv).ownBlock with
 |none=>rw[i7]at cD;exact aB g0 cD
 |some g=>rw[i7]at cD;exact aO g0 (by have:=(ba bn g i7).1;omega) cD
theorem acd{w:World}{capt cap:Nat}{at_:Option Addr}{ts:List Nat}{sp:Option Addr}{raw:List Int}(hv:aR w (.slice at_ ts.length capt) ts)(hl:ts.length<=6)(ha:dt w sp raw)(hr:∀x∈raw,dZ x)(SJ:raw.length<=9223372036854775807):Calls prog 17 #[.slice at_ ts.length capt,.slice sp raw.length cap] w fun e w'=>w.grownBy w' none/\∃a c,e=.returned (.slice a ts.length c)/\dt w' a (aaz raw ts ts.length)/\(a=none->c=0):=by
 obtain⟨lo,nO⟩:=aja w.heap.size;obtain⟨n,hn⟩:=aja ts.length;obtain⟨rl,acg⟩:∃n,raw.length=n:=⟨_,rfl⟩;have BL:∀k (h:k<ts.length),∃gq,at_=some ⟨gq,0,none⟩/\gq<lo/\w.cell? ⟨gq,k,none⟩=some (.int .i64 ts[k]):=fun k hk=>by
  rcases hv.cases with⟨_,e⟩|⟨gq,cp,e1,e2⟩
  ·rw[e]at hk;simp at hk
  cases e1;obtain⟨_,cc,od⟩:=ba hv gq (by simp[Value.ownBlock]);exact⟨gq,rfl,by have:=od.lt;omega,e2 k _ (by simp[aV,gEg hk])⟩
 have HT:Hid _:=BL;have HA:Hid _:=ha;have HR:Hid _:=hr;have zl:Hid (w.heap.size=lo):=nO;have HN:Hid _:=hn;have HRL:Hid _:=acg;have uJ:(n:Int)<=6:=by omega
 have ZO:(rl:Int)<=9223372036854775807:=by omega
 rw[hn,acg];clear BL ha hr nO hn acg hv hl SJ;go_enter func17,ntmps17;go_wp2_with fail;go_loopw [5,6] (fun v i wr=>∃(j:Nat) (av:Option Addr) (capv:Nat),v=.slice av j capv/\i=.int .i64 j/\j<=n/\wr.ownsRow lo 2 1 (.slice av j capv) j (cA (aaz raw ts j))/\w.grownBy wr none) (fun _ i _=>n-(intOf i).toNat)
 case atStart=>exact⟨0,none,0,rfl,rfl,ajl _,ajj _ _ _ _,aH _ _⟩
 case round=>
  obtain⟨j,av,capv,rfl,rfl,hj,bn,To⟩:=hrel;by_cases hj1:j<n
  ·have ahC:(j:Int)<(n:Int):=by omega
   have Lu:(0:Int)<=j:=by omega
   have hjt:j<ts.length:=by rw[HN.out];exact hj1
   obtain⟨gq,rfl,hgq,Qt⟩:=HT.out j hjt;have ct3:=To.cell Qt (by simp);have ahE:gq<wr.heap.size:=by have:=To.size;have:=zl.out;omega
   obtain⟨tt,htj⟩:=aja (ts[j]);rw[htj]at ct3;have HG:Hid (ts[j]?=some tt):=by show _=_;rw[gEg hjt,htj]
   clear Qt htj hgq;have HO:Hid _:=bn;have HGI:Hid _:=To;clear bn;obtain⟨N,hN,hN1,JS⟩:∃N:Int,(raw[j]?).getD j=N /\ -9223372036854775808<=N/\N<=9223372036854775807:=by
    refine⟨_,rfl,?_⟩;cases hq:raw[j]? with
    |none=>simp;omega
    |some y=>exact HR.out y (gMo hq)
   obtain⟨M,hM⟩:=aja (Int.tmod N 2147483648);have aee:=acX N;rw[hM]at aee;obtain⟨yN,CV⟩:=aee;have HM:Hid (Int.tmod N 2147483648=M):=hM;have O8:Hid _:=hN;clear hN;by_cases S5:j<rl
   ·have ae6:(j:Int)<(rl:Int):=by omega
    have hrx:j<raw.length:=by rw[HRL.out];exact S5
    obtain⟨rb,ro,rfl,ahF,hrc⟩:=(dt.kept HA.out To) (by omega);have hxr:=hrc j hrx;have e1:raw[j]=N:=by have:=O8.out;rw[gEg hrx]at this;exact this
    rw[e1]at hxr;clear hrc e1 To;by_cases htt:tt=1
    ·have HV:Hid (aaS raw ts j=M):=by show _=_;unfold aaS;rw[ajd (by rw[HG.out,htt]),O8.out,HM.out]
     subst htt;go_wp2_with (at_builtin;refine aaO (M:=M) rfl _ _ rfl zl.out rfl rfl HO.out (by omega) HGI.out ?_;intro a' cap' w' PZ lm)
     go_roundw
     case rel=>exact⟨j+1,a',cap',rfl,by simp,by omega,by rw[aaF,HV.out];exact PZ,lm⟩
     case measure=>simp[intOf];omega
    have HV:Hid (aaS raw ts j=N):=by show _=_;unfold aaS;rw[ajc (by rw[HG.out];intro e;exact htt (Option.some.inj e)),O8.out]
    have btt:((tt:Int)==1)=false:=beqn (by omega);clear hM htt;go_wp2_with (at_builtin;refine aaO (M:=N) rfl _ _ rfl zl.out rfl rfl HO.out (by omega) HGI.out ?_;intro a' cap' w' PZ lm)
    go_roundw
    case rel=>exact⟨j+1,a',cap',rfl,by simp,by omega,by rw[aaF,HV.out];exact PZ,lm⟩
    case measure=>simp[intOf];omega
   have ae6:(rl:Int)<=(j:Int):=by omega
   have e1:(j:Int)=N:=by have:=O8.out;rw[ajp (by rw[HRL.out];omega)]at this;exact this
   clear To;by_cases htt:tt=1
   ·have HV:Hid (aaS raw ts j=M):=by show _=_;unfold aaS;rw[ajd (by rw[HG.out,htt]),O8.out,HM.out]
    rw[<-e1]at hM;clear e1 O8 HM hN1 JS;subst htt;go_wp2_with (at_builtin;refine aaO (M:=M) rfl _ _ rfl zl.out rfl rfl HO.out (by omega) HGI.out ?_;intro a' cap' w' PZ lm)
    go_roundw
    case rel=>exact⟨j+1,a',cap',rfl,by simp,by omega,by rw[aaF,HV.out];exact PZ,lm⟩
    case measure=>simp[intOf];omega
   have HV:Hid (aaS raw ts j=(j:Int)):=by show _=_;unfold aaS;rw[ajc (by rw[HG.out];intro e;exact htt (Option.some.inj e)),O8.out];exact e1.symm
   have btt:((tt:Int)==1)=false:=beqn (by omega);clear hM htt e1 O8 HM hN1 JS;go_wp2_with (at_builtin;refine aaO (M:=(j:Int)) rfl _ _ rfl zl.out rfl rfl HO.out (by omega) HGI.out ?_;intro a' cap' w' PZ lm)
   go_roundw
   case rel=>exact⟨j+1,a',cap',rfl,by simp,by omega,by rw[aaF,HV.out];exact PZ,lm⟩
   case measure=>simp[intOf];omega
  obtain rfl:j=n:=by omega
  have HO:Hid _:=bn;have HGI:Hid _:=To;clear bn To;go_wp2_with fail;go_ret;refine⟨HGI.out,av,capv,rfl,?_,fun e=>?_⟩
  ·have h:=HO.out;have e:j=(aaz raw ts j).length:=(aaZ _ _ _).symm;exact dt.own (l:=aaz raw ts j) (cap:=capv) (az:=lo) (by rw[<-e];exact h)
  rcases HO.out.2 with⟨e1,_⟩|⟨g,cp,cur,e1,_⟩
  ·cases e1;rfl
  rw[e]at e1;cases e1
theorem aeg(au:Nat){a b:Int}(ha:eX a):(fy .i32 32 au a b).2=0\/(fy .i32 32 au a b).2=2\/(fy .i32 32 au a b).2=3:=by
 unfold fy dR eJ;repeat' split
 all_goals simp
theorem aeh(au:Nat){a b:Int}(ha:dZ a):(fy .i64 64 au a b).2=0\/(fy .i64 64 au a b).2=2\/(fy .i64 64 au a b).2=3:=by
 unfold fy dR eJ;repeat' split
 all_goals simp
theorem abT{au:Nat}(h:28<=au)(h2:au<=29)(a b:Int):eX (fy .i64 64 au a b).1:=by
 unfold fy;rw[ajc (by omega),ajc (by omega),ajc (by omega),ajc (by omega)];split
 ·show eX (bx (decide (a=b)));exact gj _
 rw[ajd (by omega)];show eX (bx (decide (a<b)));exact gj _
theorem ach(k:K5){a b:Int}(ha:dZ a):(bZ k a b).2=0\/(bZ k a b).2=2\/(bZ k a b).2=3:=by
 unfold bZ;split
 ·exact aeg _ (jf _)
 exact aeh _ ha
section
variable {m:bf}{fs:List bu}{lf:bu}{ai:List Nat}{T:Nat->LSt}{R:Nat->aX}{P:Nat->Nat}{n:Nat}{c:bS}
theorem adh{az w:List Nat}{j h:Nat}(hv:bG (az++w) c.af)(hh:h<=az.length):∃vs,qS c (j,w.length,h)=some {c with next:=j,af:=vs}/\bG ((az++w).take h++w) vs:=by
 obtain⟨x,y,e,h1,h2⟩:=bG.split az hv;have l1:=h1.len;have l2:=h2.len;refine⟨c.af.take h++c.af.drop (c.af.length-w.length),?_,?_⟩
 ·unfold qS;rw[ajc (by rw[e];simp only[ajb];omega)]
 have e2:c.af.drop (c.af.length-w.length)=y:=by rw[e,ajb,l2,Nat.add_sub_cancel,List.drop_left]
 rw[e2];exact(hv.take h).append h2
theorem acZ{ts:List Tg}{az w:List Nat}{j h t:Nat}{ak:List Nat}{f:ck}(ht:ts[t]?=some (j,w.length,h))(hl:bG ai c.ai)(hj:j<=n)(ha:gd (T j))(hs:(T j).af=(az++w).take h++w)(hv:bG (az++w) c.af)(hh:h<=az.length):∃c1,goC ts c (some t)=some c1/\c1.fn=c.fn/\Qq ai T n c1:=by obtain⟨vs,g1,g2⟩:=adh (j:=j) hv hh;refine⟨{c with next:=j,af:=vs},?_,rfl,hl,hj,ha,by show bG (T j).af vs;rw[hs];exact g2⟩;unfold goC;simp only[ht,g1]
theorem aa1(F0:Dn m fs c.fn lf ai T R P n){i l:Nat}{F G:PFr}{az:List Nat}(hi:i<n)(ha:gd (T i))(hf:(T i).ae.getLast?=some F)(hl:bT (T i) l=some G)(cT:(T i).af=az++aZ G\/(T i).af=az++aZ G++[1])(hb:F.am<=az.length)(sV:bG ai c.ai)(hv:bG (az++aZ G) c.af):∃c1,goC lf.ah c (some G.target)=some c1/\c1.fn=c.fn/\Qq ai T n c1:=by
 obtain⟨pf,L⟩:=F0.looked;obtain⟨j,j1,j2,j3,j4⟩:=L.label hi ha hl;have hh:=L.high hi hf hl;refine acZ (ak:=lf.ak) (f:=pf) (az:=az) (w:=aZ G) (by rw[F0.ah];exact j2) sV j1 j4 ?_ hv (by omega);rw[j3]
 congr 1
 rcases cT with h|h
 ·rw[h]
 rw[h,aju (by simp;omega)]
theorem adM(F0:Dn m fs c.fn lf ai T R P n){i:Nat}{st:PSt}(hi:i<n)(ha:gd (T i))(sV:bG ai c.ai)(hv:bG (T i).af c.af)(ph:c.next=i+1)(cT:lf.ay[i]?=some st)(hn:st.aa.au≠0/\st.aa.au≠10/\st.aa.au≠11):∃e c1,doC lf.ah c st=some (e,c1)/\(e=0->c1.fn=c.fn/\Qq ai T n c1)/\(e=0\/e=2\/e=3):=by
 obtain⟨pf,L⟩:=F0.looked;have S:=(L.trace i hi).1;obtain⟨F,hf,M,ty,hh⟩:=L.typed hi ha;obtain⟨x,x1,x2,x3,x4,x5,x6⟩:=(L.inv n (nLr _)).ay i hi;have hx:x=st:=by rw[F0.ay,x1]at cT;exact Option.some.inj cT
 subst hx;obtain⟨⟨ka1,ka2,ka3⟩,kb,kc1,kc2,kc3,kc4,kc5⟩:=cC S.read;obtain⟨id1,id2⟩:=nU S.read;obtain⟨nm1,nm2⟩:=Da S.read;have cL:=Gg S.find;rw[x2]at hn;have nxt:∀(vs:List Int),bG (T (i+1)).af vs->¬((R i).aa.au=0\/(R i).aa.au=7\/(R i).aa.au=9\/(R i).aa.au=10)->∀(ls:List Int),bG ai ls->Qq ai T n {c with af:=vs,ai:=ls}:=fun vs h1 h2 ls h3=>⟨h3,by show c.next<=n;omega,by show gd (T c.next);rw[ph];exact L.alive_next hi ha h2,by show bG (T c.next).af vs;rw[ph];exact h1⟩;unfold doC;simp only[x2];by_cases hj:(R i).aa.au=4\/(R i).aa.au=5\/(R i).aa.au=7\/(R i).aa.au=8\/(R i).aa.au=9
 ·rw[ajd hj]
  suffices h:∃c1,mj lf.ah c x=some c1/\c1.fn=c.fn/\Qq ai T n c1 by obtain⟨c1,h1,h2⟩:=h;exact⟨0,c1,by rw[h1];rfl,fun _=>h2,.inl rfl⟩
  unfold mj;simp only[x2];by_cases n4:(R i).aa.au=4
  ·obtain⟨az,sig,y1,y2,y3,y4⟩:=ty.iff n4;obtain⟨x',t,j,z1,z2,z3,z4,z5,z6⟩:=L.iff hi ha n4 y1 y2 y4;have:x'=x:=by rw[x1]at z1;exact(Option.some.inj z1).symm
   subst this;rw[y2]at hv;obtain⟨v,vs,e,p1,p2,p3⟩:=jI hv;rw[ajc (by rw[z2];simp),ajd n4,p1];simp only;split
   ·rw[z2];exact acZ (c:={c with af:=vs}) (ak:=lf.ak) (f:=pf) (az:=az) (w:=sig.1) (by rw[F0.ah];exact z4) sV z3 z6 (by rw[z5];simp) p2 (nLr _)
   exact⟨_,rfl,rfl,nxt vs (by rw[y4];exact p2) (by omega) c.ai sV⟩
  by_cases n5:(R i).aa.au=5
  ·obtain⟨G,g1,g2,g3⟩:=x6 n5;have Uq:G=F:=by rw[hf]at g1;exact(Option.some.inj g1).symm
   subst Uq;have iX:=ty.close (.inl n5);have hw:aZ G=G.ak:=by simp[aZ,g2]
   rw[ajc (by rw[g3];simp),ajc n4,ajc (by omega),ajc (by omega),g3];have kx:bT (T i) 0=some G:=by unfold bT;rw[ajd S.ae,<-g1,ajk];rfl
   refine aa1 F0 hi ha hf kx (az:=(T i).af.take G.am) (.inl (by rw[hw];exact iX)) (by rw[ajq];omega) sV ?_;rw[hw,<-iX];exact hv
  have oe:(R i).aa.ab=4\/(R i).aa.ab=5:=by omega
  have P5:x.ah=(R i).idx.map fun l=>((bT (T i) l).map (·.target)).getD 0:=by rw[x5 n4 n5];unfold dP;simp only[ajd oe]
  obtain⟨l0,ls,eb⟩:=id1 (by omega);have Nz:dI m ai (T i) (R i).aa.ab=(T i).ae.length:=by unfold dI;rw[ajc (by omega),ajc (by omega),ajc (by omega)]
  obtain⟨G,hG⟩:=tG (by rw[<-Nz];exact cL l0 (by rw[eb];simp));have hwo:dn (T i) (R i).idx=some (aZ G):=by rw[eb];simp only[dn,hG];rfl
  have Sn:x.ah[0]?=some G.target:=by rw[P5,eb];simp[hG]
  rw[ajc (by rw[P5,eb];simp),ajc n4];by_cases n8:(R i).aa.au=8
  ·obtain⟨az,wants,y1,y2,y3,y4⟩:=ty.goif n8;have U1:wants=aZ G:=by rw[hwo]at y1;exact(Option.some.inj y1).symm
   subst U1;rw[y2]at hv;obtain⟨v,vs,e,p1,p2,p3⟩:=jI hv;rw[ajd n8,p1];simp only;split
   ·exact⟨_,rfl,rfl,nxt vs (by rw[y4];exact p2) (by omega) c.ai sV⟩
   rw[Sn];exact aa1 (c:={c with af:=vs}) F0 hi ha hf hG (.inr y2) y3 sV p2
  rw[ajc n8];by_cases n9:(R i).aa.au=9
  ·obtain⟨az,wants,y1,y2,y3,y4⟩:=ty.goby n9;have U1:wants=aZ G:=by rw[hwo]at y1;exact(Option.some.inj y1).symm
   rw[y2]at hv;obtain⟨v,vs,e,p1,p2,p3⟩:=jI hv;rw[ajd n9,p1];simp only;have Lc:∃(k l:Nat) (H:PFr),kE x.ah v=x.ah[k]?/\(R i).idx[k]?=some l/\bT (T i) l=some H/\x.ah[k]?=some H.target:=by
    have aQ:x.ah.length=(R i).idx.length:=by rw[P5];simp
    have j5:0<(R i).idx.length:=by rw[eb];simp
    have key:∀k:Nat,k<(R i).idx.length->∃(l:Nat) (H:PFr),(R i).idx[k]?=some l/\bT (T i) l=some H/\x.ah[k]?=some H.target:=fun k hk=>by have hm:(R i).idx[k]∈(R i).idx:=ajw hk;obtain⟨H,hH⟩:=tG (by rw[<-Nz];exact cL _ hm);exact⟨_,H,gEg hk,hH,by rw[P5,List.getElem?_map,gEg hk];simp[hH]⟩
    unfold kE;split
    ·obtain⟨l,H,q1,q2,q3⟩:=key ((R i).idx.length-1) (by omega);exact⟨(R i).idx.length-1,l,H,by rw[aQ],q1,q2,q3⟩
    obtain⟨l,H,q1,q2,q3⟩:=key v.toNat (by omega);exact⟨v.toNat,l,H,rfl,q1,q2,q3⟩
   obtain⟨k,l,H,q1,q2,q3,q4⟩:=Lc;rw[q1,q4];have hHw:aZ H=wants:=by have:=y4 l (gMo q2);rw[q3]at this;simpa using this
   rw[<-hHw]at y2 p2;exact aa1 (c:={c with af:=vs}) F0 hi ha hf q3 (.inr y2) y3 sV p2
  rw[ajc n9,Sn];obtain⟨az,wants,y1,y2,y3⟩:=ty.go (.inl (by omega));have U1:wants=aZ G:=by rw[hwo]at y1;exact(Option.some.inj y1).symm
  subst U1;exact aa1 F0 hi ha hf hG (.inl y2) y3 sV (by rw[<-y2];exact hv)
 rw[ajc hj];have fin:∀{y:Option bS}{vs:List Int}{ls:List Int},y=some {c with af:=vs,ai:=ls}->bG (T (i+1)).af vs->bG ai ls->∃e c1,okC y=some (e,c1)/\(e=0->c1.fn=c.fn/\Qq ai T n c1)/\(e=0\/e=2\/e=3):=fun {y vs ls} h1 h2 h3=>
  ⟨0,{c with af:=vs,ai:=ls},by rw[h1];rfl,fun _=>⟨rfl,nxt vs h2 (by omega) ls h3⟩,.inl rfl⟩
 by_cases n12:(R i).aa.au=12
 ·rw[ajd n12];obtain⟨az,t,y1,y2⟩:=ty.drop n12;rw[y1]at hv;obtain⟨v,vs,e,p1,p2,p3⟩:=jI hv;exact fin (ls:=c.ai) (by rw[p1];rfl) (by rw[y2];exact p2) sV
 rw[ajc n12];by_cases n13:(R i).aa.au=13
 ·rw[ajd n13];obtain⟨az,t,y1,y2⟩:=ty.pick n13;have y1':(T i).af=az++[t]++[t]++[1]:=by rw[y1];simp
  rw[y1']at hv;obtain⟨v,vs,e,p1,p2,p3⟩:=jI hv;obtain⟨v2,vs2,e2,q1,q2,q3⟩:=jI (c:={c with af:=vs}) p2;obtain⟨v3,vs3,e3,r1,r2,r3⟩:=jI (c:={c with af:=vs2}) q2;refine fin (vs:=vs3++[if v=0 then v2 else v3]) (ls:=c.ai) ?_ (by rw[y2];exact r2.append (bG.single (by split <;> assumption))) sV;unfold vy;simp only[p1,q1,r1];rfl
 rw[ajc n13];by_cases n14:(R i).aa.au=14\/(R i).aa.au=15\/(R i).aa.au=16
 ·rw[ajd n14];have oe:(R i).aa.ab=3:=kc5 n14;have Nq:x.index=(R i).idx.headD 0:=by rw[x3];unfold dP;simp only[ajd (Or.inr oe)]
  unfold mH;simp only[x2,Nq];by_cases m15:(R i).aa.au=15
  ·obtain⟨az,t,y0,y1,y2⟩:=ty.set m15;obtain⟨v0,g1,g2⟩:=sV.get y0;rw[y1]at hv;obtain⟨v,vs,e,p1,p2,p3⟩:=jI hv;rw[g1];simp only[ajd m15,p1];exact fin rfl (by rw[y2];exact p2) (sV.set y0 p3)
  by_cases m16:(R i).aa.au=16
  ·obtain⟨az,t,y0,y1,y2⟩:=ty.tee m16;obtain⟨v0,g1,g2⟩:=sV.get y0;rw[y1]at hv;obtain⟨v,vs,e,p1,p2,p3⟩:=jI hv;rw[g1];simp only[ajc m15,ajd m16,p1];exact fin rfl (by rw[y2];exact p2.append (bG.single p3)) (sV.set y0 p3)
  obtain⟨t,y0,y2⟩:=ty.get (by omega);obtain⟨v0,g1,g2⟩:=sV.get y0;rw[g1];simp only[ajc m15,ajc m16];exact fin rfl (by rw[y2];exact hv.append (bG.single g2)) sV
 rw[ajc n14];by_cases n17:(R i).aa.au=17
 ·rw[ajd n17];obtain⟨t0,hg⟩:=ka3 n17;obtain⟨az,y1,y2⟩:=ty.other (.inr (by omega));rw[t0]at y1;simp at y1;rw[y1]at hv;have qA:fw (R i).aa.ak x.num:=by
   rw[x4];rcases hg with⟨b6,g1⟩|⟨b7,g2⟩
   ·exact .inl ⟨g1,nm1 b6⟩
   exact .inr ⟨g2,nm2 b7⟩
  refine fin (vs:=c.af++[x.num]) (ls:=c.ai) rfl ?_ sV;rw[y2,ajd (by omega)];exact hv.append (bG.single qA)
 rw[ajc n17];unfold jL;have nojump:¬((R i).aa.au=0\/(R i).aa.au=7\/(R i).aa.au=9\/(R i).aa.au=10):=by omega
 by_cases n18:18<=(R i).aa.au
 ·obtain⟨az,y1,y2⟩:=ty.other (.inr (by omega));rcases kb n18 with⟨t1,Co,k30,k31,k32⟩|⟨t2,Mq,Fs⟩
  ·rw[ajd t1];rw[t1]at y1;rw[y1]at hv;obtain⟨v,vs,e,p1,p2,p3⟩:=jI (ts:=az) (t:=(R i).aa.of) hv;rw[p1];have hg:(R i).aa.ak≠0:=by
    by_cases a:(R i).aa.au=30
    ·rw[k30 a];decide
    by_cases b:(R i).aa.au=31
    ·rw[k31 b];decide
    rw[(k32 (by omega)).2];decide
   have qA:fw (R i).aa.ak (kU (R i).aa.au v):=by
    unfold kU;by_cases a:(R i).aa.au=30
    ·rw[ajd a,k30 a];exact .inl ⟨rfl,gj _⟩
    rw[ajc a];by_cases b:(R i).aa.au=31
    ·rw[ajd b,k31 b];exact .inl ⟨rfl,jf _⟩
    rw[ajc b,(k32 (by omega)).2];exact .inr ⟨rfl,p3.wide⟩
   refine⟨0,_,rfl,fun _=>⟨rfl,nxt (vs++[kU (R i).aa.au v]) ?_ nojump c.ai sV⟩,.inl rfl⟩;rw[y2,ajd hg];exact p2.append (bG.single qA)
  rw[ajc (by omega),ajd t2];rw[t2]at y1;have y1':(T i).af=az++[(R i).aa.of]++[(R i).aa.of]:=by rw[y1];simp[List.replicate]
  rw[y1']at hv;obtain⟨v,vs,e,p1,p2,p3⟩:=jI hv;obtain⟨v2,vs2,e2,q1,q2,q3⟩:=jI (c:={c with af:=vs}) p2;simp only[p1,q1];split
  ·have hg:(R i).aa.ak≠0/\fw (R i).aa.ak (bZ (R i).aa v2 v).1:=by
    unfold bZ;rcases Fs with⟨o1,g1⟩|⟨o2,g2,g3⟩
    ·rw[ajd o1,g1];exact⟨by decide,.inl ⟨rfl,Ge _ (jf _)⟩⟩
    rw[ajc (by omega)];by_cases Mp:(R i).aa.au<28
    ·rw[g2 Mp];exact⟨by decide,.inr ⟨rfl,Gf _ q3.wide⟩⟩
    rw[g3 (by omega)];exact⟨by decide,.inl ⟨rfl,abT (by omega) Mq _ _⟩⟩
   refine⟨0,_,rfl,fun _=>⟨rfl,nxt (vs2++[(bZ (R i).aa v2 v).1]) ?_ nojump c.ai sV⟩,.inl rfl⟩;rw[y2,ajd hg.1];exact q2.append (bG.single hg.2)
  rename_i ec;refine⟨_,_,rfl,fun h0=>absurd h0 ec,?_⟩;exact ach _ q3.wide
 have adx:(R i).aa.au=1\/(R i).aa.au=2\/(R i).aa.au=3\/(R i).aa.au=6:=by omega
 obtain⟨t0,g0⟩:=ka2 adx;rw[ajc (by omega),ajc (by omega)];refine⟨0,c,rfl,fun _=>⟨rfl,nxt c.af ?_ nojump c.ai sV⟩,.inl rfl⟩;rcases adx with h|h|h|h
 ·obtain⟨az,y1,y2⟩:=ty.other (.inl h);rw[t0]at y1;rw[g0]at y2;simp at y1 y2;rw[y2,<-y1];exact hv
 ·obtain⟨az,sig,_,y1,_,y2⟩:=ty.block (.inl h);rw[y2,<-y1];exact hv
 ·obtain⟨az,sig,_,y1,_,y2⟩:=ty.block (.inr h);rw[y2,<-y1];exact hv
 obtain⟨_,hs,_⟩:=M.ended h;rw[hs,<-ty.close (.inr h)];exact hv
end
def aao(fs:List bu)(c:bS):List Nat:=match fs[c.fn]? with
 |some f=>f.ak
 |none=>[]
def aco(m:bf)(fs:List bu)(G0:List Nat):List Nat->List bS->Prop
 |g,[]=>g=G0
 |g,d::r=>Gi m fs d g/\aco m fs G0 (aao fs d) r
def MOk(m:bf)(fs:List bu)(G0:List Nat)(s:MSt):Prop:=Gh m fs s.call/\aco m fs G0 (aao fs s.call) s.rest
structure acq(G0:List Nat)(aA:Nat)(o:Out):Prop where
 ends:o.ends<=5
 ay:o.ay<=aA
 done:o.ends=0->bG G0 o.values
 none:o.ends≠0->o.values=[]
 aA:o.ends=4->o.ay=aA
section
variable {m:bf}{fs:List bu}{G0:List Nat}{s:MSt}{aA:Nat}
theorem abU(A:B3 m fs){i:Nat}{f:bu}{args:List Int}(hf:fs[i]?=some f)(ha:bG f.aj args):Gh m fs (fL f i args):=by
 obtain⟨ai,T,R,P,n,F⟩:=A.1 i f hf;obtain⟨pf,h1,h2,h3,L⟩:=F.fn;obtain⟨F0,s1,s2,s3,s4⟩:=L.ax;refine⟨f,ai,T,R,P,n,F,?_,ajl _,?_,?_⟩
 ·show bG ai (args.take f.ai++List.replicate (f.ai-args.length) 0);have hl:=ha.len;have hn:=F.nloc;rw[h3,ajb]at hn;rw[ajB (by omega),h3];have e:f.ai-args.length=pf.ai.length:=by omega
  rw[e];exact ha.append (bG.zeros fun t ht=>F.types t (by rw[h3];simp[ht]))
 ·show gd (T 0);intro G hG;rw[s1]at hG;simp at hG;subst hG;exact s2
 show bG (T 0).af [];rw[s4];trivial
theorem acz(A:B3 m fs)(h:MOk m fs G0 s)(hs:s.ay<=aA):(∃s',bB fs aA s=some (.inl s')/\MOk m fs G0 s'/\s'.ay<=aA/\(s'.ay=s.ay+1/\s'.rest.length<=s.rest.length+1\/s'.ay=s.ay/\s'.rest.length+1=s.rest.length)) \/ (∃o,bB fs aA s=some (.inr o)/\acq G0 aA o):=by
 obtain⟨⟨lf,ai,T,R,P,n,F,sV,ph,ha,hv⟩,Lc⟩:=h;obtain⟨pf,L⟩:=F.looked;have hg:aao fs s.call=lf.ak:=by unfold aao;rw[F.at_]
 rw[hg]at Lc;have aQ:lf.ay.length=n:=by rw[F.ay];exact(L.inv n (nLr _)).len
 have give_back:∀(vals:List Int) (k:Nat),k<=aA->bG lf.ak vals ->
   (∃s',(match s.rest with
     | []=>some (Sum.inr ⟨0,k,vals⟩)
     |d::r=>some (Sum.inl {call:=ff d vals,rest:=r,ay:=k}):Option (MSt ⊕ Out))=some (.inl s')/\MOk m fs G0 s'/\s'.ay=k/\s'.rest.length+1=s.rest.length) \/
   (∃o,(match s.rest with
     | []=>some (Sum.inr ⟨0,k,vals⟩)
     |d::r=>some (Sum.inl {call:=ff d vals,rest:=r,ay:=k}):Option (MSt ⊕ Out))=some (.inr o)/\acq G0 aA o):=fun vals k hk ady=>by
  cases hr:s.rest with
  |nil=>
   rw[hr]at Lc;have Js:lf.ak=G0:=Lc;exact .inr ⟨_,rfl,by simp,hk,fun _=>by rw[<-Js];exact ady,fun h0=>absurd rfl h0,fun h4=>by simp at h4⟩
  |cons d r=>
   rw[hr]at Lc;obtain⟨c1,c2⟩:=Lc;exact .inl ⟨_,rfl,⟨c1.back ady,c2⟩,rfl,by simp⟩
 unfold bB;rw[F.at_];simp only;by_cases bM:s.call.next<n
 ·obtain⟨st,cT⟩:∃st,lf.ay[s.call.next]?=some st:=⟨_,gEg (by rw[aQ];exact bM)⟩;rw[cT];simp only;obtain⟨x,x1,x2,x3,x4,x5,x6⟩:=(L.inv n (nLr _)).ay s.call.next bM;have hx:x=st:=by rw[F.ay,x1]at cT;exact Option.some.inj cT
  subst hx;obtain⟨F1,hf,M,ty,hh⟩:=L.typed bM ha;have S:=(L.trace s.call.next bM).1;obtain⟨⟨ka1,ka2,ka3⟩,kb,kc1,kc2,kc3,kc4,kc5⟩:=cC S.read;obtain⟨id1,id2⟩:=nU S.read;have cL:=Gg S.find;by_cases du:s.ay=aA
  ·rw[ajd du];exact .inr ⟨_,rfl,by simp,by show s.ay<=aA;omega,fun h0=>by simp at h0,fun _=>rfl,fun _=>du⟩
  rw[ajc du];by_cases n0:x.aa.au=0
  ·rw[ajd n0];exact .inr ⟨_,rfl,by simp,by show s.ay+1<=aA;omega,fun h0=>by simp at h0,fun _=>rfl,fun h4=>by simp at h4⟩
  rw[ajc n0];by_cases n11:x.aa.au=11
  ·rw[ajd n11];split
   ·exact .inr ⟨_,rfl,by simp,by show s.ay+1<=aA;omega,fun h0=>by simp at h0,fun _=>rfl,fun h4=>by simp at h4⟩
   rw[x2]at n11;have oe:=kc4 n11;have Nq:x.index=(R s.call.next).idx.headD 0:=by rw[x3];unfold dP;simp only[ajd (Or.inl oe)]
   obtain⟨az,fn,sig,y1,y2,y3,y4⟩:=ty.call n11;have lx:(R s.call.next).idx.headD 0<fs.length:=by rw[<-A.2];exact(gEs.1 y1).1
   obtain⟨f2,hZ⟩:∃f2,fs[(R s.call.next).idx.headD 0]?=some f2:=⟨_,gEg lx⟩;obtain⟨l2,T2,R2,P2,k2,F2⟩:=A.1 _ _ hZ;obtain⟨pf2,q1,q2,q3,q4⟩:=F2.fn;have vh:pf2=fn:=by rw[y1]at q1;exact(Option.some.inj q1).symm
   subst vh;have iD:sig=(f2.aj,f2.ak):=by rw[y2]at q2;exact Option.some.inj q2
   subst iD;rw[Nq,hZ];simp only;simp only at y3 y4;rw[y3]at hv;obtain⟨xs,args,p1,p2,p3⟩:=Do (c:={s.call with next:=s.call.next+1}) hv;rw[p1];refine .inl ⟨_,rfl,⟨abU A hZ p3,?_,?_⟩,by show s.ay+1<=aA;omega,.inl ⟨rfl,by simp⟩⟩
   ·have aP:aao fs (fL f2 ((R s.call.next).idx.headD 0) args)=f2.ak:=by unfold aao fL;simp only[hZ]
    rw[aP];exact⟨lf,ai,T,R,P,n,az,F,sV,by show s.call.next+1<=n;omega,L.alive_next bM ha (by omega),y4,p2⟩
   show aco m fs G0 (aao fs {s.call with next:=s.call.next+1,af:=xs}) s.rest;have:aao fs {s.call with next:=s.call.next+1,af:=xs}=lf.ak:=by unfold aao;simp only[F.at_]
   rw[this];exact Lc
  rw[ajc n11];by_cases n10:x.aa.au=10
  ·rw[ajd n10];rw[x2]at n10;obtain⟨az,wants,y1,y2,y3⟩:=ty.go (.inr n10);have hw:wants=lf.ak:=by rw[id2 (kc3 (.inr n10))]at y1;unfold dn at y1;simp only at y1;obtain⟨G,g1,g2⟩:=Option.map_eq_some_iff.1 y1;have:=((L.inv s.call.next (by omega)).bottom G (by rw[List.head?_eq_getElem?]at g1;exact g1)).1;rw[<-g2,this]
   subst hw;rw[y2]at hv;obtain⟨xs,vals,p1,p2,p3⟩:=Do (c:={s.call with next:=s.call.next+1}) hv;rw[p1];simp only;rcases give_back vals (s.ay+1) (by omega) p3 with⟨s',h1,h2,h3,h4⟩|⟨o,h1,h2⟩
   ·exact .inl ⟨s',h1,h2,by omega,.inl ⟨h3,by omega⟩⟩
   exact .inr ⟨o,h1,h2⟩
  rw[ajc n10];obtain⟨e,c1,d1,d2,d3⟩:=adM (c:={s.call with next:=s.call.next+1}) F bM ha sV hv rfl cT ⟨n0,n10,n11⟩;rw[d1];simp only;split
  ·rename_i he;obtain⟨xQ,Ig⟩:=d2 he;have adi:c1.fn=s.call.fn:=xQ;refine .inl ⟨_,rfl,⟨⟨lf,ai,T,R,P,n,by show Dn m fs c1.fn _ _ _ _ _ _;rw[adi];exact F,Ig⟩,?_⟩,by show s.ay+1<=aA;omega,.inl ⟨rfl,by simp⟩⟩;show aco m fs G0 (aao fs c1) s.rest;have:aao fs c1=lf.ak:=by unfold aao;rw[adi,F.at_]
   rw[this];exact Lc
  rename_i he;exact .inr ⟨_,rfl,by show e<=5;omega,by show s.ay+1<=aA;omega,fun h0=>absurd h0 he,fun _=>rfl,fun h4=>by have:e=4:=h4;omega⟩
 have MK:s.call.next=n:=by omega
 rw[ajp (by omega)];simp only;rw[MK,(L.lastStack).1]at hv;obtain⟨xs,vals,p1,p2,p3⟩:=Do (c:=s.call) (az:=[]) (w:=lf.ak) hv;rw[p1];simp only;rcases give_back vals s.ay hs p3 with⟨s',h1,h2,h3,h4⟩|⟨o,h1,h2⟩
 ·exact .inl ⟨s',h1,h2,by omega,.inr ⟨h3,h4⟩⟩
 exact .inr ⟨o,h1,h2⟩
theorem abW(A:B3 m fs):∀(k:Nat) {s:MSt},MOk m fs G0 s->s.ay<=aA->2*(aA-s.ay)+s.rest.length<k->∃o,dx fs aA k s=some o/\acq G0 aA o
 |0,s,_,_,hk=>by omega
 |k+1,s,h,hs,hk=>by
  unfold dx;rcases acz A h hs with⟨s',h1,h2,h3,h4⟩|⟨o,h1,h2⟩
  ·rw[h1];simp only;exact abW A k h2 h3 (by omega)
  rw[h1];exact⟨o,rfl,h2⟩
theorem acA(A:B3 m fs){i:Nat}{f:bu}{args:List Int}(hf:fs[i]?=some f)(ha:bG f.aj args):∃o,wQ fs i args aA=some o/\acq f.ak aA o:=by unfold wQ;rw[hf];simp only;refine abW A _ ⟨abU A hf ha,?_⟩ (ajl _) (by simp);show aao fs (fL f i args)=f.ak;unfold aao fL;simp only[hf]
end
theorem adj{az:Nat}{w:World}{m:Nat}{ads:List Nat}{mm:bf}{fs:List bu}(hp:Pu mm fs 0)(mA:pV az w m mm ads){f aA:Int}{sp:Option Addr}{cap:Nat}{args:List Int}(ha:dt w sp args)(gK:∀(i fu:Nat) (lf:bu),f=i->fs[i]?=some lf->aA=fu->fu<=100000->fj lf.aj args=false):Calls prog 39 #[ptr m,.int .i64 f,.slice sp args.length cap,.int .i64 aA] w fun e w'=>w.grownBy w' none/\∃vv,e=.returned (.tuple #[.int .i64 0,.int .i64 0,vv,.int .i64 8])/\w'.ownsRow w.heap.size 2 1 vv 0 (cA []):=by
 have Nz:=hp.count;have j5:=hp.all.2;obtain⟨vs,vf,h1,h2,h3⟩:=mA.ga.mod;obtain⟨aF,capF,WN,_,_⟩:=aG h3;have aQ:=mA.ga.len;have m1:=h1.cell 1;rw[WN]at m1;simp at m1;have LY:=h1.lt;obtain⟨nf,Ai⟩:=aja mm.funs.length;rw[Ai]at m1;have acH:(nf:Int)<=20:=by omega
 obtain⟨na,uv⟩:=aja args.length;by_cases g1:f<0
 ·rw[uv];clear gK ha mA hp h1 h2 h3 aQ Ai uv WN;go_enter func39,ntmps39;go_wp2_with fail;exact bodyPost_ret (pZ rfl _ _ _) rfl ⟨aH _ _,_,rfl,ajj _ _ _ _⟩
 obtain⟨i,rfl⟩:∃i:Nat,f=i:=⟨f.toNat,by omega⟩;clear g1;by_cases g2:i<nf
 ·have bM:i<mm.funs.length:=by omega
  have PO:i<fs.length:=by omega
  have hf:=gEg PO;obtain⟨pf,ai,T,R,P,n,hF⟩:=hp.fns i _ hf;have vh:mm.funs[i]'bM=pf:=by have:=hF.tr.fn;rw[gEg bM]at this;exact Option.some.inj this
  have iD:da mm i=(fs[i].aj,fs[i].ak):=jz bM (by rw[vh];exact hF.tr.sig);have YW:fs[i].aj.length<=6:=(hp.sigs _ (gMo hF.tr.sig)).1;obtain⟨vs',gF,capF',ff,cs1,cs2,b1,Ci,cF,b2,b3⟩:=mA.fn bM;have xJ:=mA.ga.fns i bM ff Ci;rw[iD]at xJ;have KK:=DS (cap:=cap) xJ ha YW;have e1:=h1.cell 1;rw[<-e1,b1.cell 1]at e1;have n1:=b1.cell 1;simp at n1;rw[Ai]at n1;rw[n1]at m1;cases m1;have hgF:=b2.lt;have jE:(i:Int)<(nf:Int):=by omega
  obtain⟨q,hq⟩:=aja (fj fs[i].aj args);rw[hq]at KK;have HNO:Hid (∀fu:Nat,aA=fu->fu<=100000->q=false):=fun fu h1 h2=>by rw[<-hq];exact gK i fu _ rfl hf h1 h2
  have ae9:Hid _:=KK;rw[uv]at KK ⊢;clear gK ha mA hp h1 h2 h3 aQ Ai uv hF vh iD YW b1 Ci b2 b3 xJ hq hf e1 ae9 WN Nz j5 g2;have Bc:q=false\/(q=true/\aA<0)\/(q=true/\0<=aA/\100000<aA):=by
   cases q
   ·exact .inl rfl
   by_cases g3:aA<0
   ·exact .inr (.inl ⟨rfl,g3⟩)
   refine .inr (.inr ⟨rfl,by omega,?_⟩);rcases Int.lt_or_le 100000 aA with h|h
   ·exact h
   exact absurd (HNO.out aA.toNat (by omega) (by omega)) (by simp)
  clear HNO;rcases Bc with rfl|⟨rfl,g3⟩|⟨rfl,g5,g4⟩;all_goals
   go_enter func39,ntmps39;go_wp2_with fail;refine KK.mono ?_;clear KK;rintro e w2 ⟨rfl,xa⟩;replace xa:=xa.symm;subst xa;go_wp2_with fail;exact bodyPost_ret (pZ rfl _ _ _) rfl ⟨aH _ _,_,rfl,ajj _ _ _ _⟩
 have jE:(nf:Int)<=(i:Int):=by omega
 rw[uv];clear gK ha mA hp h1 h2 h3 aQ Ai uv WN g2;go_enter func39,ntmps39;go_wp2_with fail;exact bodyPost_ret (pZ rfl _ _ _) rfl ⟨aH _ _,_,rfl,ajj _ _ _ _⟩
theorem abH:∀{ts:List Nat}{xs:List Int},bG ts xs->∀x∈xs,dZ x
 | [],[],_,x,hx=>by simp at hx
 |t::ts,y::ys,h,x,hx=>by
  rcases List.mem_cons.1 hx with rfl|hx
  ·exact h.1.wide
  exact abH h.2 x hx
 | [],x::xs,h,_,_=>False.elim h
 |t::ts,[],h,_,_=>False.elim h
def abN(w w':World)(vv:Value)(vs:List Int):Prop:=vs.length<=3/\((vv=.slice none 0 0/\vs=[])\/∃g,vv=.slice (some ⟨g,0,none⟩) vs.length vs.length/\w.heap.size<=g/\Blk w' g (cA vs).toArray 2)
theorem abY{bs:List UInt8}{mm:bf}{fs:List bu}(hm:eD bs=.ok mm)(ht:bR mm mm.funs=.ok fs){i:Nat}{lf:bu}(hf:fs[i]?=some lf):(∀t∈lf.aj,t=1\/t=2)/\lf.aj.length<=6/\lf.ak.length<=3:=by have hp:=RP (aA:=0) hm ht (by omega);obtain⟨pf,ai,T,R,P,n,hF⟩:=hp.fns i lf hf;have h6:=hp.sigs _ (gMo hF.tr.sig);obtain⟨locals',T',R',P',n',F⟩:=hp.all.1 i lf hf;obtain⟨pf',p1,p2,p3,L⟩:=F.fn;exact⟨fun t ht=>F.types t (by rw[p3];simp[ht]),h6.1,h6.2⟩
theorem adk{w:World}{x:Nat}{fs:List bu}{mm:bf}{bs:List UInt8}(hx:mh w x fs mm)(hm:eD bs=.ok mm)(ht:bR mm mm.funs=.ok fs){f aA:Int}{sp:Option Addr}{cap:Nat}{args:List Int}(ha:dt w sp args)(kX:sp=none->cap=0)(h8:args.length*8<=140737488355328)(h64:∀x∈args,dZ x):Calls prog 15 #[ptr x,.int .i64 f,.slice sp args.length cap,.int .i64 aA] w fun e w'=>w.grownBy w' none/\∃vv vs,e=.returned (.tuple #[vv,.bool true])/\abN w w' vv vs:=by
 have A6:eU bs=.ok fs:=by unfold eU;rw[hm];exact ht
 obtain⟨fQ,j5⟩:=wP A6;by_cases hg:∃(i fu:Nat) (lf:bu),f=i/\fs[i]?=some lf/\aA=fu/\fu<=100000/\fj lf.aj args=true
 ·obtain⟨i,fu,lf,rfl,hf,rfl,du,Fs⟩:=hg;have hp:=RP hm ht du;obtain⟨k1,k2,k3⟩:=abY hm ht hf;have hv:=aba Fs k1 h64;obtain⟨o,hr,hoo⟩:=acA (aA:=fu) hp.all hf hv;have SY:o.values.length<=3:=by
   by_cases h0:o.ends=0
   ·have:=(hoo.done h0).len;omega
   rw[hoo.none h0];simp
  refine Calls.mono (On hx hm ht du hf ha kX hv hr (by omega)) ?_;rintro e w' ⟨h1,vv,h2,h3⟩;exact⟨h1,vv,o.values,h2,SY,h3⟩
 have gK:∀(i fu:Nat) (lf:bu),f=i->fs[i]?=some lf->aA=fu->fu<=100000->fj lf.aj args=false:=fun i fu lf h1 h2 h3 h4=>by
  cases hq:fj lf.aj args with
  |false=>rfl
  |true=>exact absurd ⟨i,fu,lf,h1,h2,h3,h4,hq⟩ hg
 have hp:=RP (aA:=0) hm ht (by omega);refine Calls.mono (KL (o:=⟨0,0,[]⟩) (er:=8) hx ha kX h8 (by simp) (fun w1 b ⟨gF,h1,h2⟩ rD=>adg h1 h2 fQ j5 rD gK) (fun w1 az r ads ac capc h1 rD=>adj hp h1 rD gK)) ?_;rintro e w' ⟨h1,vv,h2,h3⟩;exact⟨h1,vv,[],h2,by simp,h3⟩
