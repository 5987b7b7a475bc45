import Derived.Test.YtjbdgbdcnjopkaaGreatDoorP48
import Derived.Test.YtjbdgbdcnjopkaaGreatDoorP49
import Derived.Test.YtjbdgbdcnjopkaaGreatDoorP50
import Derived.Test.YtjbdgbdcnjopkaaGreatDoorP51
namespace Go.Proofs.YtjbdgbdcnjopkaaGreatDoor
open Go.RowKit Tryz
set_option linter.unusedVariables false
set_option linter.unusedSimpArgs false
set_option maxRecDepth 100000
set_option maxHeartbeats 4000000
theorem ud {w:World}{x:Int}:Calls prog 37 #[.int .i64 x] w fun e w'=>e=.returned (.int .i64 x)/\w'=w:=by go_enter func37,ntmps37;go_wp2_with fail;go_ret;exact⟨rfl,rfl⟩
theorem Hz {w:World}{x:Int}:Calls prog 41 #[.int .i64 x] w fun e w'=>e=.returned (.int .i64 x)/\w'=w:=by go_enter func41,ntmps41;go_wp2_with fail;go_ret;exact⟨rfl,rfl⟩
theorem DV {w:World}{s:ByteArray} (hs:s.size<=9223372036854775807):Calls prog 36 #[.string s] w fun r w'=>w.grownBy w' none/\GO w.heap.size w' s.data.toList r:=by
 rcases Nat.lt_or_ge 4000 s.size with h|h
 ·refine Calls.mono (By hs h) ?_;rintro r w' ⟨rfl,rfl⟩;refine⟨aH _ _,.inl ⟨(1,0),?_,rfl⟩⟩;have hl:s.data.toList.length=s.size:=by rw[Array.length_toList];rfl
  unfold eU eD;rw[if_pos (by omega)];rfl
 ·exact zR DU h
def BC (w:World) (b:Nat) (fs:List bu):Prop:=∃gF,Blk w b #[.slice (some ⟨gF,0,none⟩) fs.length fs.length] 106/\dM w (.slice (some ⟨gF,0,none⟩) fs.length fs.length) fs
theorem BC.kept {w w':World}{b:Nat}{fs:List bu} (h:BC w b fs) (k:w.grownBy w' none):BC w' b fs:=by obtain⟨gF,h1,h2⟩:=h;exact⟨gF,h1.grown k (by simp),h2.grown k⟩
def mh (w:World) (x:Nat) (fs:List bu) (mm:bf):Prop:=∃b r ads az,Blk w x #[ptr b,ptr r] 42/\BC w b fs/\pV az w r mm ads
theorem mh.kept {w w':World}{x:Nat}{fs:List bu}{mm:bf} (h:mh w x fs mm) (k:w.grownBy w' none):mh w' x fs mm:=by obtain⟨b,r,ads,az,h1,h2,h3⟩:=h;exact⟨b,r,ads,az,h1.grown k (by simp),h2.kept k,h3.keep fun g cs t _ _ _ hb=>hb.grown k (by simp)⟩
def Oh (w w':World) (bs:List UInt8) (e:Ending):Prop:=
 w.grownBy w' none/\((∃er,eU bs=.error er/\e=.returned (.tuple #[.pointer none,.bool true]))\/∃x fs mm,eD bs=.ok mm/\bR mm mm.funs=.ok fs/\eU bs=.ok fs/\e=.returned (.tuple #[ptr x,.bool true])/\mh w' x fs mm)
theorem ue {w:World}{B g o cap:Nat}{s:ByteArray} (hK:iu B w) (hB:B<=w.heap.size) (hb:∀i (h:i<s.data.toList.length),w.cell? ⟨g,o+i,none⟩=some (.int .u8 s.data.toList[i].toNat)) (hc:s.size<=cap) (hn:s.size<=9223372036854775807) :
  Calls prog 13 #[.slice (some ⟨g,o,none⟩) s.size cap] w fun e w'=>Oh w w' s.data.toList e:=by
 have aQ:s.data.toList.length=s.size:=by rw[Array.length_toList];rfl
 have H5:=Fu (w:=w) (a:=some ⟨g,o,none⟩) (cap:=cap) (bs:=s.data.toList) hK hB (fun i hi=>⟨g,o,rfl,hb i hi⟩) (by rw[aQ];exact hc) (by rw[aQ];exact hn);have yc:=run_convert_bytes_back (P:=prog) w 26 9 5 ⟨g,o,none⟩ cap s.data.toList underlying26 underlying5 underlying9 (fun j hj=>by rw[cJ];exact hb j hj);rw[aQ] at H5 yc;have M2:(⟨s.data.toList.toArray⟩:ByteArray)=s:=by simp
 rw[M2] at yc;have Mc:Hid _:=H5;clear H5 M2 aQ hb hK hc;go_enter func13,ntmps13;go_wp2_with fail;clear yc;refine Calls.mono Mc.out ?_;rintro e w1 ⟨eZ,v,er,rfl,hv⟩;have hR:=DV (w:=w1) hn;have HR:Hid _:=hR;have HV:Hid _:=hv;have HG:Hid (w.grownBy w1 none):=eZ;clear hR hv eZ Mc;go_wp2_with fail;refine Calls.mono HR.out ?_;rintro e2 w2 ⟨aP,SJ⟩;have DR:Hid (w1.grownBy w2 none):=aP;clear HR aP;rcases SJ with⟨er2,h1,rfl⟩|⟨mm,l,r,ads,h1,h2,h3,rfl,h4,h5⟩
 ·have hv:=HV.out;rw[h1] at hv;obtain⟨rfl,rfl⟩:=hv;have H1:Hid _:=h1;clear h1 HV;obtain⟨e1,e2⟩:=er;simp only;go_wp2_with (go_at_call 37;refine(ud).mono ?_;rintro e9 w9 ⟨rfl,Iy⟩;replace Iy:=Iy.symm;subst Iy)
  go_ret2;exact⟨aB HG.out DR.out,.inl ⟨_,H1.out,rfl⟩⟩
 ·have A6:eU s.data.toList=.ok l:=by unfold eU;rw[h1];exact h2
  have hv:=HV.out;rw[A6] at hv;obtain⟨rfl,b,vf,rfl,hb,hL⟩:=hv;have hL':=hL;obtain⟨gF,c,rfl,_⟩:=hL';have HL:Hid (BC w2 b l):=BC.kept ⟨gF,hb,hL⟩ DR.out;have HM:Hid (pV w1.heap.size w2 r mm ads):=⟨h4,h5⟩;have H1:Hid _:=h1;have H2:Hid _:=h2;have H3:Hid _:=A6;clear h1 h2 h3 h4 h5 hb hL A6 HV;simp only;go_wp2_with (go_at_call 37;refine(ud).mono ?_;rintro e9 w9 ⟨rfl,Iy⟩;replace Iy:=Iy.symm;subst Iy)
  go_ret2;have lm:=aC w2 (.cells #[ptr b,ptr r] 42) none;exact⟨aB (aB HG.out DR.out) lm,.inr ⟨_,l,mm,H1.out,H2.out,H3.out,rfl,b,r,ads,_,Blk.new _ _ _,HL.out.kept lm,HM.out.keep fun g cs t _ _ _ hb=>hb.alloc _⟩⟩
def wide (l:List Nat):List Int:=l.map fun (n:Nat)=>(n:Int)
theorem lK (l:List Nat):(wide l).length=l.length:=by simp[wide]
theorem fH.row {w:World}{v:Value}{l:List Nat} (h:aR w v l):fH w v (wide l):=by
 obtain⟨a,cap,e,_,_⟩:=aG h;refine⟨a,cap,by rw[lK];exact e,fun j hj=>?_⟩;have qc:j<l.length:=by rw[<-lK];exact hj
 rcases h.cases with⟨_,q⟩|⟨g,cp,e1,e2⟩
 ·rw[q] at qc;simp at qc
 ·obtain⟨_,cc,od⟩:=ba h g (by rw[e1];simp[Value.ownBlock]);rw[e] at e1;cases e1;refine⟨g,0,rfl,od.lt,?_⟩;rw[Nat.zero_add];exact e2 j _ (by simp[aV,wide,gEg qc])
theorem fH.blk {w:World}{g cap:Nat}{l:List Nat} (h:Blk w g (iO l).toArray 3):fH w (.slice (some ⟨g,0,none⟩) l.length cap) (wide l):=by
 refine⟨_,cap,by rw[lK],fun j hj=>⟨g,0,rfl,h.lt,?_⟩⟩;have qc:j<l.length:=by rw[<-lK];exact hj
 rw[Nat.zero_add,h.cell];simp[iO,wide,gEg qc]
theorem H6 {w:World}{x:Nat}{fs:List bu}{mm:bf}{bs:List UInt8} (hx:mh w x fs mm) (hm:eD bs=.ok mm) (ht:bR mm mm.funs=.ok fs) :
  Calls prog 14 #[ptr x] w fun e w'=>w.grownBy w' none/\∃c bt bg,e=.returned (.tuple #[.slice (some ⟨w.heap.size,0,none⟩) fs.length fs.length,.bool true])/\Blk w' w.heap.size c 70/\c.size=fs.length*2/\uh (w.heap.size+1) w' w.heap.size c bt bg fs:=by
 obtain⟨b,r,ads,az,h1,⟨gF,h2,h3⟩,h4⟩:=hx;have A6:eU bs=.ok fs:=by unfold eU;rw[hm];exact ht
 obtain⟨fQ,j5⟩:=wP A6;obtain⟨cL,xQ⟩:=B9 hm ht;have Om:=vr h2 h3 fQ j5;have hn:mm.funs.length=fs.length:=cL.2;have x0:=h1.cell 0;have x1:=h1.cell 1;simp at x0 x1;have xV:=h1.lt;obtain⟨lo,nO⟩:∃lo,w.heap.size=lo:=⟨_,rfl⟩;obtain⟨n,kJ⟩:∃n,fs.length=n:=⟨_,rfl⟩;have Pe:n<=1000000:=by have:=fQ.1;omega
 rw[nO,kJ] at Om ⊢;have O7:Hid (∀g∈mm.sigs,g.1.length<=1000000/\g.2.length<=1000000):=fun g hg=>by have:=(sM hm).1.2.2.2 g hg;omega
 have RN:Hid _:=Om;have H1:Hid (Blk w x #[ptr b,ptr r] 42):=h1;have H4:Hid _:=h4;have HFN:Hid _:=xQ;have HN:Hid (mm.funs.length=fs.length):=hn;have O5:Hid (fs.length=n):=kJ;have uJ:(n:Int)<=1000000:=by omega
 clear Om h1 h2 h3 h4 xQ hn kJ fQ j5 cL A6 hm ht nO;go_enter func14,ntmps14;go_wp2_with fail;refine Calls.mono RN.out ?_;rintro e w1 ⟨eZ,c,bt,bg,rfl,oO,Bc,hT⟩;have SW:Hid (Blk w1 x #[ptr b,ptr r] 42):=Blk.grown H1.out eZ (by simp);have HM:Hid (pV az w1 r mm ads):=H4.out.keep fun g cs t _ _ _ hb=>hb.grown eZ (by simp);have Mf:0<mm.funs.length:=HM.out.ga.pos;obtain⟨vs,gR,capR,f0,cs1,cs2,b1,_,_,b2,_⟩:=HM.out.fn Mf;have y1:=(Blk.cell SW.out 1);simp at y1;have acP:=(Blk.lt SW.out);have m1:=b1.cell 1;simp at m1;rw[HN.out,O5.out] at m1;have SJ:=b1.lt;have ID:Hid (w.grownBy w1 none):=eZ;have Kg:Hid (Blk w1 lo c 70):=oO;have Q3:Hid _:=Bc;have HT:Hid _:=hT;have iX:=oO.lt;clear eZ oO Bc hT b1 b2 Mf RN x0 x1 xV;go_wp2_with fail;go_loopw [5] (fun i wr=>∃k m:Nat,i=.int .i64 k/\k<=n/\wr=w1.drewN m) (fun i _=>n-(intOf i).toNat)
 case atStart=>exact⟨0,0,rfl,Nat.zero_le _,rfl⟩
 case round =>
  obtain⟨k,m,rfl,hk,vF⟩:=hrel;have Sa:Hid (wr=w1.drewN m):=vF;have Ap:Hid (∀g cs t,Blk w1 g cs t->Blk wr g cs t):=fun g cs t hb=>by rw[vF];exact hb
  clear vF;obtain⟨w3,rfl⟩:∃z,z=wr:=⟨wr,rfl⟩;by_cases bM:k<n
  ·have pB:(k:Int)<(n:Int):=by omega
   have vI:k<fs.length:=by rw[O5.out];exact bM
   have SX:k<mm.funs.length:=by rw[HN.out];exact vI
   obtain⟨vs',gR',capR',f,cs1,cs2,b1,Ci,cF,b2,b3⟩:=HM.out.fn SX;have Y1:=HM.out.ga.fns k SX f Ci;obtain⟨pf,ai,T,R,P,nn,hF⟩:=HFN.out k fs[k] (gEg vI);have vh:mm.funs[k]'SX=pf:=by have:=hF.tr.fn;rw[gEg SX] at this;exact Option.some.inj this
   have iD:da mm k=(fs[k].aj,fs[k].ak):=jz SX (by rw[vh];exact hF.tr.sig);rw[iD] at Y1;obtain⟨vt,vg,vl,vb,t1,t2,t3,_⟩:=Y1;simp only at t2 t3;have e1:=(b1.cell 1);simp at e1;rw[m1] at e1;cases e1;have z1:=(Ap.out _ _ _ SW.out).cell 1;have z2:=(Ap.out _ _ _ b1).cell 1;have z3:=(Ap.out _ _ _ b2).cell k;rw[<-b2.cell,cF] at z3;have z4:=(Ap.out _ _ _ t1).cell 0;have z5:=(Ap.out _ _ _ t1).cell 1;obtain⟨q1,q2⟩:=HT.out.cells k vI;have z6:=(Ap.out _ _ _ Kg.out).cell (k*2);have z7:=(Ap.out _ _ _ Kg.out).cell (k*2+1);rw[show k*2=2*k by omega,q1] at z6;rw[show k*2=2*k by omega,q2] at z7;rw[show 2*k=k*2 by omega] at z6 z7;simp at z1 z2 z4 z5;rw[HN.out,O5.out] at z2;have l1:=(Ap.out _ _ _ SW.out).lt;have l2:=(Ap.out _ _ _ b1).lt;have l3:=(Ap.out _ _ _ b2).lt;have l4:=(Ap.out _ _ _ t1).lt;have l5:=(Ap.out _ _ _ Kg.out).lt;have u1:aR w3 vt fs[k].aj:=aJ t2 fun g cs hb=>Ap.out g cs 3 hb;have u2:aR w3 vg fs[k].ak:=aJ t3 fun g cs hb=>Ap.out g cs 3 hb;have u3:=Ap.out _ _ _ (HT.out.aj k vI).2;have u4:=Ap.out _ _ _ (HT.out.ak k vI).2;have k1:fs[k].aj.length<=1000000:=O7.out _ (gMo hF.tr.sig) |>.1;have k2:fs[k].ak.length<=1000000:=O7.out _ (gMo hF.tr.sig) |>.2;obtain⟨nt,ld⟩:∃nt,fs[k].aj.length=nt:=⟨_,rfl⟩;obtain⟨ng,qN⟩:∃ng,fs[k].ak.length=ng:=⟨_,rfl⟩;have PG:∀q,Calls prog 38 #[.slice (some ⟨bt k,0,none⟩) nt nt,vt] (w3.drewN q) fun e w'=>e=.returned (.bool true)/\∃m,w'=(w3.drewN q).drewN m:=fun q=>by rw[<-ld];exact rA (w:=w3.drewN q) (fH.blk (w:=w3) u3) (fH.row (w:=w3) u1) (by rw[lK];exact k1)
   have gY:∀q q2,Calls prog 38 #[.slice (some ⟨bg k,0,none⟩) ng ng,vg] ((w3.drewN q).drewN q2) fun e w'=>e=.returned (.bool true)/\∃m,w'=((w3.drewN q).drewN q2).drewN m:=fun q q2=>by rw[<-qN];exact rA (w:=(w3.drewN q).drewN q2) (fH.blk (w:=w3) u4) (fH.row (w:=w3) u2) (by rw[lK];exact k2)
   rw[ld] at z6;rw[qN] at z7;obtain⟨bk,i7⟩:∃z,bt k=z:=⟨_,rfl⟩;obtain⟨bk2,RO⟩:∃z,bg k=z:=⟨_,rfl⟩;rw[i7] at z6 PG;rw[RO] at z7 gY;clear b1 b2 b3 cF Ci t1 t2 t3 hF vh iD q1 q2 u1 u2 u3 u4 k1 k2 ld qN i7 RO y1 m1;go_wp2_with fail;go_quiet (first|(go_at_call 38;refine Calls.quiet_of (PG _)))
   clear PG;obtain⟨w4,ye⟩:∃z,w3.drewN nq=z:=⟨_,rfl⟩;have k4:∀a v,w3.cell? a=some v->w4.cell? a=some v:=fun a v h=>by rw[<-ye];exact h
   have s4:w3.heap.size=w4.heap.size:=by rw[<-ye];rfl
   replace z1:=k4 _ _ z1;replace z2:=k4 _ _ z2;replace z3:=k4 _ _ z3;replace z4:=k4 _ _ z4;replace z5:=k4 _ _ z5;replace z6:=k4 _ _ z6;replace z7:=k4 _ _ z7;rw[s4] at l1 l2 l3 l4 l5;have Fw:∀q,Calls prog 38 #[.slice (some ⟨bk2,0,none⟩) ng ng,vg] (w4.drewN q) fun e w'=>e=.returned (.bool true)/\∃m,w'=(w4.drewN q).drewN m:=fun q=>by rw[<-ye];exact gY nq q
   have HW4:Hid (w3.drewN nq=w4):=ye;rw[ye];clear gY ye k4 s4;go_wp2_with fail;go_quiet (first|(go_at_call 38;refine Calls.quiet_of (Fw _)))
   clear Fw;go_wp2_with fail;go_roundw
   case rel=>exact⟨k+1,_,by simp,by omega,by rw[<-HW4.out,Sa.out,World.drewN_drewN,World.drewN_drewN]⟩
   case measure=>simp[intOf];omega
  ·obtain rfl:k=n:=by omega
   clear y1 m1;go_wp2_with fail;go_ret2;have hw:=Sa.out;subst hw;refine⟨bd ID.out _,c,bt,bg,rfl,Kg.out,Q3.out,?_⟩;have h9:=HT.out;exact⟨h9.cells,h9.aj,h9.ak,h9.apart⟩
