import Derived.Test.YtjbdgbdcnjopkaaGreatDoorS07
namespace Go.Proofs.YtjbdgbdcnjopkaaGreatDoor
open Go.RowKit Tryz
set_option linter.all false
set_option maxRecDepth 100000
set_option maxHeartbeats 4000000
theorem eh{ar:Nat}:∀(l:List Nat) {s r:LSt},bw ar s l=.ok r->r.ae=s.ae/\r.ay=s.ay/\r.ah=s.ah
 | [],s,r,h=>by cases h;exact⟨rfl,rfl,rfl⟩
 |t::l,s,r,h=>by
  simp only[bw]at h;cases hx:bD ar s t with
  |error e=>simp[hx]at h
  |ok x=>
   simp only[hx,aM]at h;obtain⟨h1,h2,h3⟩:=eh l h;have hy:x.2.ae=s.ae/\x.2.ay=s.ay/\x.2.ah=s.ah:=by
    unfold bD at hx;split at hx
    ·cases hx
    split at hx
    ·split at hx
     ·cases hx;exact⟨rfl,rfl,rfl⟩
     cases hx
    split at hx
    ·cases hx
    split at hx
    ·cases hx
    cases hx;exact⟨rfl,rfl,rfl⟩
   exact⟨h1.trans hy.1,h2.trans hy.2.1,h3.trans hy.2.2⟩
section
variable {az l:Nat}{vm vloc:Value}{tb:List Nat}{ar:Nat}{vs vf vp:Value}{w:World}{s:LSt}
theorem LR.cutFrames(h:LR az l vm vloc tb ar vs vf vp w s){fa:Option Addr}{fcap:Nat}(hv:vf=.slice fa s.ae.length fcap):LR az l vm vloc tb ar vs (.slice fa (s.ae.length-1) fcap) vp (w.setCell ⟨l,3,none⟩ (.slice fa (s.ae.length-1) fcap)) {s with ae:=s.ae.dropLast}:=by
 subst hv;obtain⟨cf,ie,hZ⟩:=h.frm;obtain⟨cp,ir,qj⟩:=h.stp;have hg:=aD w l 3 (.slice fa (s.ae.length-1) fcap);have kB:Below az w (w.setCell ⟨l,3,none⟩ (.slice fa (s.ae.length-1) fcap)):=dV hg h.base_le (by intro r e;cases e;exact h.low);have hcut:=pw ie (k:=s.ae.length-1) (by omega);have hb:=h.blk.set 3 (.slice fa (s.ae.length-1) fcap);simp at hb;have rO:s.ae.dropLast.length=s.ae.length-1:=by simp
 refine⟨hb,h.low,h.stk.kept hg (fX h.stk h.blk (by decide)),⟨cf.take ((s.ae.length-1)*7),?_,?_⟩,⟨cp,ir.kept hg (fX ir h.blk (by decide)),qj.kept fun g c hb=>aF hg h.blk hb (by decide)⟩,
  h.tgt.kept fun g c hb=>aF hg h.blk hb (by decide),h.ns,by rw[rO];have:=h.nf;omega,h.np⟩
 ·rw[rO];exact hcut.kept hg (fX hcut h.blk (by decide))
 intro i hi;have jB:i<s.ae.length-1:=by simpa using hi
 obtain⟨vt,vg,b,h1,h2,h3,h4⟩:=hZ i (by omega);have hx:s.ae.dropLast[i]=s.ae[i]'(by omega):=List.getElem_dropLast _;rw[hx];exact⟨vt,vg,b,fun j hj=>by rw[ajI (by omega)];exact h1 j hj,h2,h3.kept kB,h4.kept kB⟩
theorem LR.keptBox{w':World}{g:Nat}{c:Array Value}(h:LR az l vm vloc tb ar vs vf vp w s)(bU:w.grownBy w' (some g))(hb:Blk w g c 217)(hg:az<=g)(ec:vf.ownBlock≠some g):LR az l vm vloc tb ar vs vf vp w' s:=by obtain⟨o1,o2,_,o4,o5,o6⟩:=h.others (e:=217) bU (by intro g' e;cases e;exact⟨hg,c,hb⟩) (by decide);obtain⟨cf,ie,hZ⟩:=h.frm;exact⟨o1 (by decide),h.low,o2 (by decide),⟨cf,ie.kept bU (.inr ec),hZ.kept o6.below⟩,o4 (by decide) (by decide),o5 (by decide),h.ns,h.nf,h.np⟩
theorem vE(h:LR az l vm vloc tb ar vs vf vp w s){f:PFr}(hf:s.ae.getLast?=some f)(iB:f.ak.length<=6)(aP:∀t∈f.ak,t<=2)(Ii:f.aj.length<=6)(hh:f.am<=100000)(qX:f.au=4->∃k:Nat,f.ao=k/\k<s.ay.length)(dL:f.au<=40):Calls prog 163 #[.pointer (some ⟨l,0,none⟩)] w fun e w'=>bc az w w' /\ fh (dT ar s) (fun r e w'=>∃v tb',e=.returned v/\(∀(i b:Nat),tb[i]?=some b->tb'[i]?=some b)/\pr az w' tb' v r.1/\iQ az l vm vloc tb' ar w' r.2) e w':=by
 have lv:0<s.ae.length:=by
  cases hx:s.ae with
  |nil=>rw[hx]at hf;simp at hf
  |cons a l=>simp
 have IZ:s.ae[s.ae.length-1]=f:=by rw[ajk,gEg (by omega)]at hf;exact Option.some.inj hf
 have hB:=h.base_le;have hC:Hid (dT ar s=bnd (bw ar s f.ak.reverse) fun s1=>
   if s1.af.length≠f.am then .error (7,ar) else
   .ok (f,{(if f.au=4 then cR {s1 with ah:=s1.ah++[(s1.ay.length,f.aj.length,f.am)]} f.ao.toNat s1.ah.length else s1) with ae:=(if f.au=4 then cR {s1 with ah:=s1.ah++[(s1.ay.length,f.aj.length,f.am)]} f.ao.toNat s1.ah.length else s1).ae.dropLast})):=by
  show _=_;simp only[dT,hf]
 have hI:=kW (h.kept (aC w (.cells #[.int .i64 0,.slice none 0 0,.slice none 0 0,.int .i64 0,.bool false,.int .i64 0,.pointer none] 217) none)) lv;rw[IZ]at hI;have HF:Hid _:=hf;clear hf IZ;go_enter func163,ntmps163;go_wp2_with fail;refine hI.mono ?_;rintro e w1 ⟨v,rfl,eZ,at1,nt1,ct1,at2,nt2,ct2,b,rfl,hb,h3,h4⟩;have qm:=aB (aC w (.cells #[.int .i64 0,.slice none 0 0,.slice none 0 0,.int .i64 0,.bool false,.int .i64 0,.pointer none] 217) none) eZ;have h1:=h.kept qm;have BO:=(Blk.new w #[.int .i64 0,.slice none 0 0,.slice none 0 0,.int .i64 0,.bool false,.int .i64 0,.pointer none] 217).grown eZ (by simp);have Mw:=h1.blk.lt;have hT:=fun o=>dk (h1.kept (aC w1 o none)) lv (h4.kept (bc.none (aC w1 o none) h1.base_le).below) iB aP;go_wp2_with fail;refine(hT _).mono ?_;rintro e w2 ⟨hgt,hG⟩;have CA:=aC w1 (.cells #[.int .i64 f.au,.slice at1 nt1 ct1,.slice at2 nt2 ct2,.int .i64 f.am,.bool f.dead,.int .i64 f.ao,.pointer (some ⟨b,0,none⟩)] 217) none;have Ih:bc az w w2:=(bc.none qm hB).trans ((bc.none CA h1.base_le).trans ((h1.kept CA).went hgt));cases hx:bw ar s f.ak.reverse with
 |error er=>
  have hr:dT ar s=.error er:=by rw[hC.out,hx];rfl
  cases hG.err hx;go_wp2_with fail;exact⟨rfl,Ih,aK hr rfl⟩
 |ok x=>
  obtain⟨rfl,vs2,h2⟩:=hG.ok hx;clear hG hT hI;obtain⟨I0,EG,R7⟩:=eh _ hx;have OA:Hid (dT ar s=if x.af.length≠f.am then .error (7,ar) else
   .ok (f,{(if f.au=4 then cR {x with ah:=x.ah++[(x.ay.length,f.aj.length,f.am)]} f.ao.toNat x.ah.length else x) with ae:=(if f.au=4 then cR {x with ah:=x.ah++[(x.ay.length,f.aj.length,f.am)]} f.ao.toNat x.ah.length else x).ae.dropLast})):=by
   show _=_;rw[hC.out,hx,aM]
  clear hC;have on:=(Blk.new w1 #[.int .i64 f.au,.slice at1 nt1 ct1,.slice at2 nt2 ct2,.int .i64 f.am,.bool f.dead,.int .i64 f.ao,.pointer (some ⟨b,0,none⟩)] 217).grown hgt (by simp;omega);have gX:=(BO.alloc (.cells #[.int .i64 f.au,.slice at1 nt1 ct1,.slice at2 nt2 ct2,.int .i64 f.am,.bool f.dead,.int .i64 f.ao,.pointer (some ⟨b,0,none⟩)] 217)).grown hgt (by have:=h.blk.lt;simp;omega);have Mz:=(h3.kept (bc.none CA h1.base_le).below).kept ((h1.kept CA).went hgt).below;have uE:=(h4.kept (bc.none CA h1.base_le).below).kept ((h1.kept CA).went hgt).below;obtain⟨sa,scap,rfl,_,_⟩:=aG h2.stk;have c2:=h2.blk.cell 2;have m0:=on.cell 0;have m1:=on.cell 1;have m2:=on.cell 2;have m3:=on.cell 3;have m4:=on.cell 4;have m5:=on.cell 5;have m6:=on.cell 6;simp at c2 m0 m1 m2 m3 m4 m5 m6;have r0:=gX.cell 0;have r1:=gX.cell 1;have r2:=gX.cell 2;have r3:=gX.cell 3;have r4:=gX.cell 4;have r5:=gX.cell 5;have r6:=gX.cell 6;have fr0:=gX.frozen 0;have fr1:=gX.frozen 1;have fr2:=gX.frozen 2;have fr3:=gX.frozen 3;have fr4:=gX.frozen 4;have fr5:=gX.frozen 5;have fr6:=gX.frozen 6;simp at r0 r1 r2 r3 r4 r5 r6;have Zo:¬l=w.heap.size:=by have:=h.blk.lt;omega
  have KS:=h2.ns;have HX:Hid _:=hx;clear hx;by_cases ec:x.af.length=f.am
  ·have HN:Hid _:=ec;have b1:((x.af.length:Int)==(f.am:Int))=true:=by simp;omega
   have b1':((x.af.length:Int) != (f.am:Int))=false:=by simp;omega
   clear ec;by_cases I1:f.au=4
   ·have e4:(f.au:Int)=4:=by omega
    obtain⟨k,hk,ur⟩:=qX I1;have d8:Hid (dT ar s=.ok (f,{(cR {x with ah:=x.ah++[(x.ay.length,f.aj.length,f.am)]} k x.ah.length) with ae:=(cR {x with ah:=x.ah++[(x.ay.length,f.aj.length,f.am)]} k x.ah.length).ae.dropLast})):=by show _=_;rw[OA.out,ajc (by simpa using HN.out),ajd I1,hk];rfl
    have vz:nt1=f.aj.length:=by obtain⟨_,_,_,e,_⟩:=h3;cases e;rfl
    have HK:Hid (f.ao=k):=hk;have qn:w2.cell? ⟨w1.heap.size,5,none⟩=some (.int .i64 k):=by rw[m5,hk]
    rw[hk]at on;clear m5 hk OA;have Tm:0<x.ae.length:=by rw[I0];exact lv
    have Tn:k<x.ay.length:=by rw[EG];exact ur
    have MA:Hid _:=I0;have Zp:Hid _:=EG;have R8:Hid _:=R7;have WU:Hid _:=lv;clear I0 EG R7 lv qX;have Ij:=h2.base_le;have jD:=h2.blk.lt;have Zq:=on.lt;have Zr:=gX.lt;have text:∀{b6:Nat} (i b:Nat),tb[i]?=some b->(tb++[b6])[i]?=some b:=fun {b6} i b hb=>by rw[gAl (gEs.1 hb).1];exact hb
    have tnew:∀{b6:Nat},(tb++[b6])[x.ah.length]?=some b6:=fun {b6}=>by rw[<-h2.tgt.1];simp
    have Zs:LR az l vm vloc (tb++[w2.heap.size]) ar (.slice sa x.af.length scap) vf vp (w2.alloc (.cells #[.int .i64 x.ay.length,.int .i64 f.aj.length,.int .i64 f.am] 220)) {x with ah:=x.ah++[(x.ay.length,f.aj.length,f.am)]}:=
     (h2.kept (aC _ _ _)).addTarget (x.ay.length,f.aj.length,f.am) Ij (fun i b' mn=>h2.tlt i b' mn) (Blk.new _ _ _)
    have Pm:Blk (w2.alloc (.cells #[.int .i64 x.ay.length,.int .i64 f.aj.length,.int .i64 f.am] 220)).drew.drew w1.heap.size #[.int .i64 f.au,.slice at1 nt1 ct1,.slice at2 nt2 ct2,.int .i64 f.am,.bool f.dead,.int .i64 k,.pointer (some ⟨b,0,none⟩)] 217:=(on.alloc _).drew.drew;have Pn:Blk (w2.alloc (.cells #[.int .i64 x.ay.length,.int .i64 f.aj.length,.int .i64 f.am] 220)).drew.drew w.heap.size #[.int .i64 0,.slice none 0 0,.slice none 0 0,.int .i64 0,.bool false,.int .i64 0,.pointer none] 217:=(gX.alloc _).drew.drew;have MB:bc az w2 (w2.alloc (.cells #[.int .i64 x.ay.length,.int .i64 f.aj.length,.int .i64 f.am] 220)).drew.drew:=bc.none (aE (aE (aC _ _ _))) Ij;have KT:=yw Zs.drew.drew (i:=k) (t:=x.ah.length) (b:=w2.heap.size) Tn tnew;subst vz;go_wp2_with fail;go_region
    go_wp2_with fail
    go_region_held (fun w'=>w'.cell? ⟨w1.heap.size,1,none⟩=some (.slice at1 f.aj.length ct1)/\w'.cell? ⟨w1.heap.size,3,none⟩=some (.int .i64 f.am)/\w'.cell? ⟨w1.heap.size,5,none⟩=some (.int .i64 k))
     (go_keep)
     ((first
      | (go_at_call 128;refine(jR (h2.drew.drew)).mono ?_;rintro e w4 ⟨rfl,rfl⟩)
      | (go_at_call 164;refine KT.mono ?_;rintro e w6 ⟨rfl,MC,D9,h6⟩;have sD:=D9 _ _ _ (by decide) Pm;have s0:=sD.cell 0;have s1:=sD.cell 1;have s2:=sD.cell 2;have s3:=sD.cell 3;have s4:=sD.cell 4;have s5:=sD.cell 5;have s6:=sD.cell 6;simp at s0 s1 s2 s3 s4 s5 s6)))
    have jX:=D9 _ _ _ (by decide) Pn;have Zt:=(Mz.kept MB.below).kept MC.below;have Zu:=(uE.kept MB.below).kept MC.below;have xd:=(Ih.trans MB).trans MC;have t0:=jX.cell 0;have t1:=jX.cell 1;have t2:=jX.cell 2;have t3:=jX.cell 3;have t4:=jX.cell 4;have t5:=jX.cell 5;have t6:=jX.cell 6;have u0:=jX.frozen 0;have u1:=jX.frozen 1;have u2:=jX.frozen 2;have u3:=jX.frozen 3;have u4:=jX.frozen 4;have u5:=jX.frozen 5;have u6:=jX.frozen 6;simp at t0 t1 t2 t3 t4 t5 t6;obtain⟨cf2,Po,_⟩:=h6.frm;have MD:w6.ownsRow az 217 7 vf x.ae.length cf2:=Po;obtain⟨fa,fcap,rfl,yz,_⟩:=aG MD;have uF:(Value.slice fa (x.ae.length-1) fcap).ownBlock≠some w.heap.size:=by
     intro e;obtain⟨cf0,yA,_⟩:=h.frm;cases fa with
     |none=>cases e
     |some a0=>
      obtain⟨_,c',kt⟩:=ba yA a0.block rfl;have e':a0.block=w.heap.size:=by simpa [Value.ownBlock] using e
      have:=kt.lt;omega
    have cc3:=h6.blk.cell 3;have ff3:=h6.blk.frozen 3;simp at cc3;have Ai:x.ae.length<=20:=h6.nf;have i1:(x.ae.length:Int)-1=((x.ae.length-1:Nat):Int):=by omega
    have i2:((x.ae.length-1:Nat):Int)<=(fcap:Int):=by omega
    have HH6:Hid _:=h6;clear m0 m1 m2 m3 m4 qn m6 r0 r1 r2 r3 r4 r5 r6 fr0 fr1 fr2 fr3 fr4 fr5 fr6 KT c2;go_wp2_with fail;go_region
    go_wp2_with fail;have hcut:LR az l vm vloc (tb++[w2.heap.size]) ar (.slice sa x.af.length scap) (.slice fa (x.ae.length-1) fcap) vp (w6.setCell ⟨l,3,none⟩ (.slice fa (x.ae.length-1) fcap)) {(cR {x with ah:=x.ah++[(x.ay.length,f.aj.length,f.am)]} k x.ah.length) with ae:=(cR {x with ah:=x.ah++[(x.ay.length,f.aj.length,f.am)]} k x.ah.length).ae.dropLast}:=h6.cutFrames rfl;have mM:=jX.setOther (a:=⟨l,3,none⟩) (.slice fa (x.ae.length-1) fcap) (by have:=h.blk.lt;simp;omega);have b7:=pt mM (.int .i64 4) (.slice at1 f.aj.length ct1) (.slice at2 nt2 ct2) (.int .i64 f.am) (.bool f.dead) (.int .i64 k) (.pointer (some ⟨b,0,none⟩));have g7:=lR (w6.setCell ⟨l,3,none⟩ (.slice fa (x.ae.length-1) fcap)) w.heap.size (.int .i64 4) (.slice at1 f.aj.length ct1) (.slice at2 nt2 ct2) (.int .i64 f.am) (.bool f.dead) (.int .i64 k) (.pointer (some ⟨b,0,none⟩));have EH:=hcut.keptBox g7 mM hB uF;have CB:bc az w (mx (w6.setCell ⟨l,3,none⟩ (.slice fa (x.ae.length-1) fcap)) w.heap.size (.int .i64 4) (.slice at1 f.aj.length ct1) (.slice at2 nt2 ct2) (.int .i64 f.am) (.bool f.dead) (.int .i64 k) (.pointer (some ⟨b,0,none⟩))):=
     (xd.trans (h6.went_set 3 _)).trans (bc.grown g7 hcut.base_le (fun r e=>by cases e;exact⟨hB,_,_,mM,by decide⟩))
    have kB7:=((h6.went_set 3 (.slice fa (x.ae.length-1) fcap)).trans (bc.grown g7 hcut.base_le (fun r e=>by cases e;exact⟨hB,_,_,mM,by decide⟩))).below;have b8:=b7.drew;have Pp:=EH.drew;have xU:=CB.trans (bc.none (aE (aH (mx (w6.setCell ⟨l,3,none⟩ (.slice fa (x.ae.length-1) fcap)) w.heap.size (.int .i64 4) (.slice at1 f.aj.length ct1) (.slice at2 nt2 ct2) (.int .i64 f.am) (.bool f.dead) (.int .i64 k) (.pointer (some ⟨b,0,none⟩))) none)) EH.base_le);have i3:=(Zt.kept kB7).kept (bc.none (aE (aH (mx (w6.setCell ⟨l,3,none⟩ (.slice fa (x.ae.length-1) fcap)) w.heap.size (.int .i64 4) (.slice at1 f.aj.length ct1) (.slice at2 nt2 ct2) (.int .i64 f.am) (.bool f.dead) (.int .i64 k) (.pointer (some ⟨b,0,none⟩))) none)) EH.base_le).below;have i4:=(Zu.kept kB7).kept (bc.none (aE (aH (mx (w6.setCell ⟨l,3,none⟩ (.slice fa (x.ae.length-1) fcap)) w.heap.size (.int .i64 4) (.slice at1 f.aj.length ct1) (.slice at2 nt2 ct2) (.int .i64 f.am) (.bool f.dead) (.int .i64 k) (.pointer (some ⟨b,0,none⟩))) none)) EH.base_le).below;show bodyPost _ _ _ _ _ (mx (w6.setCell ⟨l,3,none⟩ (.slice fa (x.ae.length-1) fcap)) w.heap.size (.int .i64 4) (.slice at1 f.aj.length ct1) (.slice at2 nt2 ct2) (.int .i64 f.am) (.bool f.dead) (.int .i64 k) (.pointer (some ⟨b,0,none⟩))).drew;obtain⟨W8,KU⟩:=aja ((mx (w6.setCell ⟨l,3,none⟩ (.slice fa (x.ae.length-1) fcap)) w.heap.size (.int .i64 4) (.slice at1 f.aj.length ct1) (.slice at2 nt2 ct2) (.int .i64 f.am) (.bool f.dead) (.int .i64 k) (.pointer (some ⟨b,0,none⟩))).drew);rw[KU]at b8 Pp xU i3 i4 ⊢;clear KU EH CB kB7 g7 b7 mM hcut;have q0:=b8.cell 0;have q1:=b8.cell 1;have q2:=b8.cell 2;have q3:=b8.cell 3;have q4:=b8.cell 4;have q5:=b8.cell 5;have q6:=b8.cell 6;simp at q0 q1 q2 q3 q4 q5 q6;exact bodyPost_ret (v:=.agg #[.int .i64 4,.slice at1 f.aj.length ct1,.slice at2 nt2 ct2,.int .i64 f.am,.bool f.dead,.int .i64 k,.pointer (some ⟨b,0,none⟩)])
     (by simp[results,results163,go_sem,q0,q1,q2,q3,q4,q5,q6]) rfl ⟨xU,aY d8.out ⟨_,tb++[w2.heap.size],rfl,text,⟨at1,f.aj.length,ct1,at2,nt2,ct2,b,by rw[HK.out,I1];rfl,text _ _ hb,i3,i4⟩,_,_,_,Pp⟩⟩
   have e4:((f.au:Int)==4)=false:=by simp;omega
   have d8:Hid (dT ar s=.ok (f,{x with ae:=x.ae.dropLast})):=by show _=_;rw[OA.out,ajc (by simpa using HN.out),ajc I1]
   have xV:x.ae.length=s.ae.length:=by rw[I0]
   have Tm:0<x.ae.length:=by omega
   have MA:Hid _:=I0;have Zp:Hid _:=EG;have R8:Hid _:=R7;have WU:Hid _:=lv;clear OA I0 EG R7 xV lv;obtain⟨cf2,MD,_⟩:=h2.frm;obtain⟨fa,fcap,rfl,yz,_⟩:=aG MD;have uF:(Value.slice fa (x.ae.length-1) fcap).ownBlock≠some w.heap.size:=by
    intro e;obtain⟨cf0,yA,_⟩:=h.frm;cases fa with
    |none=>cases e
    |some a0=>
     obtain⟨_,c',kt⟩:=ba yA a0.block rfl;have e':a0.block=w.heap.size:=by simpa [Value.ownBlock] using e
     have:=kt.lt;omega
   have cc3:=h2.blk.cell 3;have ff3:=h2.blk.frozen 3;simp at cc3;have Ai:=h2.nf;have i1:(x.ae.length:Int)-1=((x.ae.length-1:Nat):Int):=by omega
   have i2:((x.ae.length-1:Nat):Int)<=(fcap:Int):=by omega
   go_wp2_with fail;go_region
   go_wp2_with fail;go_region
   go_wp2_with fail;have hcut:=h2.cutFrames rfl;have mM:=gX.setOther (a:=⟨l,3,none⟩) (.slice fa (x.ae.length-1) fcap) (by have:=h.blk.lt;simp;omega);have b7:=pt mM (.int .i64 f.au) (.slice at1 nt1 ct1) (.slice at2 nt2 ct2) (.int .i64 f.am) (.bool f.dead) (.int .i64 f.ao) (.pointer (some ⟨b,0,none⟩));have g7:=lR (w2.setCell ⟨l,3,none⟩ (.slice fa (x.ae.length-1) fcap)) w.heap.size (.int .i64 f.au) (.slice at1 nt1 ct1) (.slice at2 nt2 ct2) (.int .i64 f.am) (.bool f.dead) (.int .i64 f.ao) (.pointer (some ⟨b,0,none⟩));have EH:=hcut.keptBox g7 mM hB uF;have CB:bc az w (mx (w2.setCell ⟨l,3,none⟩ (.slice fa (x.ae.length-1) fcap)) w.heap.size (.int .i64 f.au) (.slice at1 nt1 ct1) (.slice at2 nt2 ct2) (.int .i64 f.am) (.bool f.dead) (.int .i64 f.ao) (.pointer (some ⟨b,0,none⟩))):=
    (Ih.trans (h2.went_set 3 _)).trans (bc.grown g7 hcut.base_le (fun r e=>by cases e;exact⟨hB,_,_,mM,by decide⟩))
   have kB7:=((h2.went_set 3 (.slice fa (x.ae.length-1) fcap)).trans (bc.grown g7 hcut.base_le (fun r e=>by cases e;exact⟨hB,_,_,mM,by decide⟩))).below;have b8:=b7.drew.drew;have Pp:=EH.drew.drew;have xU:=CB.trans (bc.none (aE (aE (aH (mx (w2.setCell ⟨l,3,none⟩ (.slice fa (x.ae.length-1) fcap)) w.heap.size (.int .i64 f.au) (.slice at1 nt1 ct1) (.slice at2 nt2 ct2) (.int .i64 f.am) (.bool f.dead) (.int .i64 f.ao) (.pointer (some ⟨b,0,none⟩))) none))) EH.base_le);have i3:=(Mz.kept kB7).kept (bc.none (aE (aE (aH (mx (w2.setCell ⟨l,3,none⟩ (.slice fa (x.ae.length-1) fcap)) w.heap.size (.int .i64 f.au) (.slice at1 nt1 ct1) (.slice at2 nt2 ct2) (.int .i64 f.am) (.bool f.dead) (.int .i64 f.ao) (.pointer (some ⟨b,0,none⟩))) none))) EH.base_le).below;have i4:=(uE.kept kB7).kept (bc.none (aE (aE (aH (mx (w2.setCell ⟨l,3,none⟩ (.slice fa (x.ae.length-1) fcap)) w.heap.size (.int .i64 f.au) (.slice at1 nt1 ct1) (.slice at2 nt2 ct2) (.int .i64 f.am) (.bool f.dead) (.int .i64 f.ao) (.pointer (some ⟨b,0,none⟩))) none))) EH.base_le).below;show bodyPost _ _ _ _ _ (mx (w2.setCell ⟨l,3,none⟩ (.slice fa (x.ae.length-1) fcap)) w.heap.size (.int .i64 f.au) (.slice at1 nt1 ct1) (.slice at2 nt2 ct2) (.int .i64 f.am) (.bool f.dead) (.int .i64 f.ao) (.pointer (some ⟨b,0,none⟩))).drew.drew;obtain⟨W8,KU⟩:=aja ((mx (w2.setCell ⟨l,3,none⟩ (.slice fa (x.ae.length-1) fcap)) w.heap.size (.int .i64 f.au) (.slice at1 nt1 ct1) (.slice at2 nt2 ct2) (.int .i64 f.am) (.bool f.dead) (.int .i64 f.ao) (.pointer (some ⟨b,0,none⟩))).drew.drew);rw[KU]at b8 Pp xU i3 i4 ⊢;clear KU EH CB kB7 g7 b7 mM hcut;have q0:=b8.cell 0;have q1:=b8.cell 1;have q2:=b8.cell 2;have q3:=b8.cell 3;have q4:=b8.cell 4;have q5:=b8.cell 5;have q6:=b8.cell 6;simp at q0 q1 q2 q3 q4 q5 q6;exact bodyPost_ret (v:=.agg #[.int .i64 f.au,.slice at1 nt1 ct1,.slice at2 nt2 ct2,.int .i64 f.am,.bool f.dead,.int .i64 f.ao,.pointer (some ⟨b,0,none⟩)])
    (by simp[results,results163,go_sem,q0,q1,q2,q3,q4,q5,q6]) rfl ⟨xU,aY d8.out ⟨_,tb,rfl,fun _ _ hb=>hb,⟨at1,nt1,ct1,at2,nt2,ct2,b,rfl,hb,i3,i4⟩,_,_,_,Pp⟩⟩
  have d8:Hid (dT ar s=.error (7,ar)):=by show _=_;rw[OA.out,ajd ec]
  have b1':((x.af.length:Int) != (f.am:Int))=true:=by simp;omega
  clear OA ec;go_wp2_with fail;go_region
  go_wp2_with (go_at_call 100;refine(ed h2.drew 7).mono ?_;rintro e w5 ⟨rfl,rfl⟩)
  exact⟨rfl,Ih.trans (bc.none (aE (aH _ none)) h2.base_le),aK d8.out rfl⟩
end
theorem mN{ar:Nat}{s:LSt}{t:Nat}{r:Nat×LSt}(h:bD ar s t=.ok r)(hs:∀t∈s.af,t<=2):r.1<=2/\(∀t∈r.2.af,t<=2)/\r.2.af.length<=s.af.length/\r.2.ae=s.ae:=by
 unfold bD at h;split at h
 ·cases h
 split at h
 ·split at h
  ·cases h;exact⟨by simp,hs,nLr _,rfl⟩
  cases h
 split at h
 ·cases h
 rename_i got wY;split at h
 ·cases h
 cases h;refine⟨hs _ (ajm wY),fun t ht=>hs t ((List.dropLast_sublist _).subset ht),by simp,rfl⟩
section
variable {az l:Nat}{vm vloc:Value}{tb:List Nat}{ar:Nat}{vs vf vp:Value}{w:World}{s:LSt}
theorem EI(h:LR az l vm vloc tb ar vs vf vp w s)(hi:0<s.ae.length)(hs:∀t∈s.af,t<=2)(hn:s.af.length<=90000):Calls prog 140 #[.pointer (some ⟨l,0,none⟩)] w fun e w'=>bc az w w'/\fh (jk ar s) (fun r e w'=>e=.returned (.tuple #[])/\iQ az l vm vloc tb ar w' r) e w':=by
 go_enter func140,ntmps140;go_wp2_with fail;refine(dJ h hi 1 (by omega)).mono ?_;rintro e w1 ⟨eZ,up⟩;have W1:=h.went eZ;cases h1:bD ar s 1 with
 |error er=>
  cases up.err h1;go_wp2_with fail;exact⟨rfl,W1,aK (by simp[jk,h1]) rfl⟩
 |ok r1=>
  obtain⟨rfl,vs1,L1⟩:=up.ok h1;obtain⟨a1,s1,n1,f1⟩:=mN h1 hs;go_wp2_with fail;refine(dJ L1 (by rw[f1];exact hi) 0 (by omega)).mono ?_;rintro e w2 ⟨aP,cO⟩;have W2:=W1.trans (L1.went aP);cases h2:bD ar r1.2 0 with
  |error er=>
   cases cO.err h2;go_wp2_with fail;exact⟨rfl,W2,aK (by simp[jk,h1,h2]) rfl⟩
  |ok r2=>
   obtain⟨rfl,vs2,L2⟩:=cO.ok h2;obtain⟨a2,s2,n2,f2⟩:=mN h2 s1;go_wp2_with fail;refine(dJ L2 (by rw[f2,f1];exact hi) r2.1 a2).mono ?_;rintro e w3 ⟨co,kF⟩;have W3:=W2.trans (L2.went co);cases h3:bD ar r2.2 r2.1 with
   |error er=>
    cases kF.err h3;go_wp2_with fail;exact⟨rfl,W3,aK (by simp[jk,h1,h2,h3]) rfl⟩
   |ok r3=>
    obtain⟨rfl,vs3,L3⟩:=kF.ok h3;obtain⟨a3,s3,n3,f3⟩:=mN h3 s2;clear up cO kF;by_cases hz:r2.1=0
    ·have IT:(r2.1:Int)=0:=by omega
     have hr:jk ar s=.ok (ez r3.2 r3.1):=by simp only[jk,h1,h2,h3,aM,ajd hz]
     have HR:Hid _:=hr;have HZ:Hid _:=hz;clear hr hz h1 h2 h3;go_wp2_with (go_at_call 169;refine(mL L3 r3.1 (by omega)).mono ?_;rintro e w4 ⟨rfl,W4,L4⟩)
     first|go_end0|refine bodyPost_ret (results_none rfl _ _ _) rfl ?_
     exact⟨W3.trans W4,aY HR.out ⟨rfl,L4⟩⟩
    have IT:((r2.1:Int)==0)=false:=by simp;omega
    have hr:jk ar s=.ok (ez r3.2 r2.1):=by simp only[jk,h1,h2,h3,aM,ajc hz]
    have HR:Hid _:=hr;have HZ:Hid _:=hz;clear hr h1 h2 h3;go_wp2_with (go_at_call 169;refine(mL L3 r2.1 (by omega)).mono ?_;rintro e w4 ⟨rfl,W4,L4⟩)
    first|go_end0|refine bodyPost_ret (results_none rfl _ _ _) rfl ?_
    exact⟨W3.trans W4,aY HR.out ⟨rfl,L4⟩⟩
theorem rG{ar of:Nat}{s:LSt}{k:Nat}{r:Nat×LSt}(h:bD ar s of=.ok r):plainTakes ar of s (k+1)=plainTakes ar of r.2 k:=by simp only[plainTakes,h,aM]
theorem CC(h:LR az l vm vloc tb ar vs vf vp w s)(hi:0<s.ae.length)(hs:∀t∈s.af,t<=2)(hn:s.af.length<=90000)(k:K5)(mD:k.aj<=2)(lg:k.of<=2)(lj:k.ak<=2):Calls prog 142 #[.pointer (some ⟨l,0,none⟩),.agg #[.int .i64 k.au,.int .i64 k.ab,.int .i64 k.aj,.int .i64 k.of,.int .i64 k.ak]] w fun e w'=>bc az w w'/\fh (fU ar s k) (fun r e w'=>e=.returned (.tuple #[])/\iQ az l vm vloc tb ar w' r) e w':=by
 have hB:=h.base_le;have ME:(k.aj:Int)<=2:=by omega
 have dW:=aC w (.cells #[.int .i64 k.au,.int .i64 k.ab,.int .i64 k.aj,.int .i64 k.of,.int .i64 k.ak] 183) none;have I2:=h.blk.lt;go_enter func142,ntmps142;go_wp2_with fail;go_loopw [6] (fun i wr=>∃(j:Nat) (s':LSt) (vs':Value),i=.int .i64 j/\j<=k.aj/\LR az l vm vloc tb ar vs' vf vp wr s'/\s'.ae=s.ae/\(∀t∈s'.af,t<=2)/\s'.af.length<=s.af.length/\Hid (plainTakes ar k.of s k.aj=plainTakes ar k.of s' (k.aj-j)) /\
   (w.alloc (.cells #[.int .i64 k.au,.int .i64 k.ab,.int .i64 k.aj,.int .i64 k.of,.int .i64 k.ak] 183)).grownBy wr (some l)) (fun i _=>k.aj-(intOf i).toNat)
 case atStart=>exact⟨0,s,vs,rfl,ajl _,h.kept dW,rfl,hs,nLr _,rfl,aH _ _⟩
 case round=>
  obtain⟨j,s',vs',rfl,hj,L',xR,D8,EJ,HE,bU⟩:=hrel;have CD:Blk wr w.heap.size #[.int .i64 k.au,.int .i64 k.ab,.int .i64 k.aj,.int .i64 k.of,.int .i64 k.ak] 183:=(Blk.new w _ _).grown bU (by simp;omega);have x3:=CD.cell 3;have x4:=CD.cell 4;simp at x3 x4;have hW:bc az w wr:=(bc.none dW hB).trans ((h.kept dW).went bU);by_cases bM:j<k.aj
  ·obtain⟨m,hm⟩:∃m,k.aj-j=m+1:=⟨k.aj-j-1,by omega⟩;have hE:=HE.out;rw[hm]at hE;clear HE;have HM:Hid _:=hm;clear hm;cases hx:bD ar s' k.of with
   |error er=>
    have hr:Hid (fU ar s k=.error er):=by show _=_;simp[fU,hE,plainTakes,hx]
    clear hE;go_wp2_with (go_at_call 139;refine(dJ L' (by rw[xR];exact hi) k.of lg).mono ?_;rintro e w2 ⟨aP,cO⟩;cases cO.err hx)
    exact⟨rfl,hW.trans (L'.went aP),aK hr.out rfl⟩
   |ok r=>
    obtain⟨a2,s2,n2,f2⟩:=mN hx D8;have HS:Hid (plainTakes ar k.of s k.aj=plainTakes ar k.of r.2 m):=hE.trans (rG hx);clear hE;go_wp2_with (go_at_call 139;refine(dJ L' (by rw[xR];exact hi) k.of lg).mono ?_;rintro e w2 ⟨aP,cO⟩;obtain⟨rfl,vs2,L2⟩:=cO.ok hx)
    go_roundw
    case rel=>
     refine⟨j+1,r.2,vs2,by simp,by omega,L2,f2.trans xR,s2,by omega,?_,aB bU aP⟩;have e1:k.aj-(j+1)=m:=by have:=HM.out;omega
     show _=_;rw[HS.out,e1]
    case measure=>simp[intOf];omega
  have MF:k.aj-j=0:=by omega
  have hE:Hid (plainTakes ar k.of s k.aj=.ok s'):=by show _=_;rw[HE.out,MF];rfl
  clear HE;by_cases hz:k.ak=0
  ·have IT:(k.ak:Int)=0:=by omega
   have hr:Hid (fU ar s k=.ok s'):=by show _=_;simp[fU,hE.out,hz]
   clear hz hE;go_wp2_with fail;go_end0;exact⟨hW,aY hr.out ⟨rfl,_,_,_,L'⟩⟩
  have IT:((k.ak:Int) != 0)=true:=by simp;omega
  have hr:Hid (fU ar s k=.ok (ez s' k.ak)):=by show _=_;simp[fU,hE.out,hz]
  clear hE;go_wp2_with (go_at_call 169;refine(mL L' k.ak (by omega)).mono ?_;rintro e w4 ⟨rfl,W4,L4⟩)
  go_end0;exact⟨hW.trans W4,aY hr.out ⟨rfl,L4⟩⟩
end
section
variable {az l:Nat}{vm vloc:Value}{tb:List Nat}{ar:Nat}{vs vf vp:Value}{w:World}{s:LSt}{m:bf}{ai:List Nat}
theorem qo(h:LR az l vm vloc tb ar vs vf vp w s)(hl:bO az w vloc ai){v:Value}{st:aX}(hv:ef w v st)(hi:0<s.ae.length)(hn:s.af.length<=90000){i:Nat}{is:List Nat}(eb:st.idx=i::is)(lx:i<ai.length)(mO:ai.length<=1000)(h2:∀t∈ai,t<=2)(aN:st.aa.au=14\/st.aa.au=15\/st.aa.au=16):Calls prog 141 #[.pointer (some ⟨l,0,none⟩),v] w fun e w'=>bc az w w'/\fh (fx ar ai s st) (fun r e w'=>e=.returned (.tuple #[])/\iQ az l vm vloc tb ar w' r) e w':=by
 obtain⟨a,n,c,rfl,jE⟩:=hv;have rP:=jE.len;subst rP;obtain⟨gi,rfl,To,MG⟩:=jE.get (i:=0) (by rw[eb];simp);have Aj:st.idx[0]'(by rw[eb];simp)=i:=by simp[eb]
 rw[Aj]at MG;obtain⟨gl,capl,cl,rfl,If,BK,iX⟩:=hl;have hB:=h.base_le;have c1:=h.blk.cell 1;simp at c1;have I2:=h.blk.lt;have k1:w.cell? ⟨gl,i,none⟩=some (.int .i64 ai[i]):=by rw[BK.cell i];exact iX i lx
 have iB:=BK.lt;have oc:=h2 ai[i] (ajw lx);obtain⟨t,ht⟩:∃t,t=ai[i]:=⟨_,rfl⟩;have hL:Hid (fx ar ai s st=if st.aa.au=15 then bnd (bD ar s t) fun r=>.ok r.2
  else if st.aa.au=16 then bnd (bD ar s t) fun r=>.ok (ez r.2 t) else .ok (ez s t)):=by
  show _=_;simp only[fx,eb,List.headD_cons,gEg lx,ht]
 rw[<-ht]at k1 oc;have Zv:(i:Int)<(ai.length:Int):=by omega
 have Tp:(i:Int)<=1000:=by omega
 have oL:(0:Int)<(st.idx.length:Int):=by rw[eb];exact Int.natCast_pos.2 (by simp)
 have dW:=fun o=>aC w o none;obtain⟨N,hN⟩:∃N,N=st.idx.length:=⟨_,rfl⟩;rw[<-hN]at oL jE ⊢;clear ht eb Aj hN jE;rcases aN with dL|dL|dL
 ·have e1:(st.aa.au:Int)=14:=by omega
  have hr:Hid (fx ar ai s st=.ok (ez s t)):=by show _=_;rw[hL.out,ajc (by omega),ajc (by omega)]
  clear hL dL;go_enter func141,ntmps141;go_wp2_with fail;go_region
  go_wp2_with (go_at_call 169;refine(mL ((h.kept (dW _)).drew) t (by omega)).mono ?_;rintro e w4 ⟨rfl,W4,L4⟩)
  go_end0;exact⟨(bc.none (aE (dW _)) hB).trans W4,aY hr.out ⟨rfl,L4⟩⟩
 ·have e1:(st.aa.au:Int)=15:=by omega
  cases hx:bD ar s t with
  |error er=>
   have hr:Hid (fx ar ai s st=.error er):=by show _=_;rw[hL.out,ajd (by omega),hx];rfl
   clear hL dL;go_enter func141,ntmps141;go_wp2_with fail;go_region
   go_wp2_with (go_at_call 139;refine(dJ ((h.kept (dW _)).drew) hi t oc).mono ?_;rintro e w4 ⟨dv,BP⟩;cases BP.err hx)
   exact⟨rfl,(bc.none (aE (dW _)) hB).trans (((h.kept (dW _)).drew).went dv),aK hr.out rfl⟩
  |ok r=>
   have hr:Hid (fx ar ai s st=.ok r.2):=by show _=_;rw[hL.out,ajd (by omega),hx];rfl
   clear hL dL;go_enter func141,ntmps141;go_wp2_with fail;go_region
   go_wp2_with (go_at_call 139;refine(dJ ((h.kept (dW _)).drew) hi t oc).mono ?_;rintro e w4 ⟨dv,BP⟩;obtain⟨rfl,vs4,L4⟩:=BP.ok hx)
   go_end0;exact⟨(bc.none (aE (dW _)) hB).trans (((h.kept (dW _)).drew).went dv),aY hr.out ⟨rfl,_,_,_,L4⟩⟩
 have e1:(st.aa.au:Int)=16:=by omega
 cases hx:bD ar s t with
 |error er=>
  have hr:Hid (fx ar ai s st=.error er):=by show _=_;rw[hL.out,ajc (by omega),ajd (by omega),hx];rfl
  clear hL dL;go_enter func141,ntmps141;go_wp2_with fail;go_region
  go_wp2_with (go_at_call 139;refine(dJ ((h.kept (dW _)).drew) hi t oc).mono ?_;rintro e w4 ⟨dv,BP⟩;cases BP.err hx)
  exact⟨rfl,(bc.none (aE (dW _)) hB).trans (((h.kept (dW _)).drew).went dv),aK hr.out rfl⟩
 |ok r=>
  have hr:Hid (fx ar ai s st=.ok (ez r.2 t)):=by show _=_;rw[hL.out,ajc (by omega),ajd (by omega),hx];rfl
  have R9:r.2.af.length<=90000:=by
   unfold bD at hx;split at hx
   ·cases hx
   split at hx
   ·split at hx
    ·cases hx;exact hn
    cases hx
   split at hx
   ·cases hx
   split at hx
   ·cases hx
   cases hx;simp;omega
  clear hL dL;go_enter func141,ntmps141;go_wp2_with fail;go_region
  go_wp2_with (first|(go_at_call 139;refine(dJ ((h.kept (dW _)).drew) hi t oc).mono ?_;rintro e w4 ⟨dv,BP⟩;obtain⟨rfl,vs4,L4⟩:=BP.ok hx)|(go_at_call 169;refine(mL L4 t (by omega)).mono ?_;rintro e w5 ⟨rfl,W5,L5⟩))
  go_end0;exact⟨((bc.none (aE (dW _)) hB).trans (((h.kept (dW _)).drew).went dv)).trans W5,aY hr.out ⟨rfl,L5⟩⟩
end
def fM(m:bf):Prop:=m.sigs.length<=20/\m.funs.length<=20/\(∀f∈m.funs,f.sig<m.sigs.length)/\∀g∈m.sigs,g.1.length<=6/\g.2.length<=6/\(∀t∈g.1,t<=2)/\∀t∈g.2,t<=2
theorem eQ{ar:Nat}:∀(l:List Nat) {s r:LSt},bw ar s l=.ok r->r.af.length<=s.af.length
 | [],s,r,h=>by cases h;exact nLr _
 |t::l,s,r,h=>by
  simp only[bw]at h;cases hx:bD ar s t with
  |error e=>simp[hx]at h
  |ok x=>
   simp only[hx,aM]at h;have h1:=eQ l h;have h2:x.2.af.length<=s.af.length:=by
    unfold bD at hx;split at hx
    ·cases hx
    split at hx
    ·split at hx
     ·cases hx;exact nLr _
     cases hx
    split at hx
    ·cases hx
    split at hx
    ·cases hx
    cases hx;simp
   omega
section
variable {az l:Nat}{vm vloc:Value}{tb:List Nat}{ar:Nat}{vs vf vp:Value}{w:World}{s:LSt}{m:bf}{ai:List Nat}
theorem EK(h:LR az l vm vloc tb ar vs vf vp w s)(hm:dK az w vm m)(fQ:fM m)(hi:0<s.ae.length)(hn:s.af.length<=80000){f:Nat}(hf:f<m.funs.length):Calls prog 138 #[.pointer (some ⟨l,0,none⟩),.int .i64 f] w fun e w'=>bc az w w'/\fh (mi ar m s f) (fun r e w'=>e=.returned (.tuple #[])/\iQ az l vm vloc tb ar w' r) e w':=by
 obtain⟨b,gs,gf,cs,cf,rfl,iW,df,kv,m0,m1,qa,oJ,Ag,D7⟩:=hm.parts;obtain⟨ok1,ok2,ok3,ok4⟩:=fQ;have OB:=ok3 m.funs[f] (ajw hf);obtain⟨g,hg⟩:∃g,g=m.funs[f].sig:=⟨_,rfl⟩;rw[<-hg]at OB;obtain⟨vl,vc,x0,_⟩:=D7 f hf;rw[<-hg]at x0;obtain⟨vt,vg,y0,y1,it,ig⟩:=Ag g OB;obtain⟨at1,nt1,ct1,rfl⟩:=it.isSlice;obtain⟨at2,nt2,ct2,rfl⟩:=ig.isSlice;obtain⟨sl1,sl2,st1,st2⟩:=ok4 m.sigs[g] (ajw OB);have hC:Hid (mi ar m s f=bnd (bw ar s m.sigs[g].1.reverse) fun s1=>.ok (bE s1 m.sigs[g].2)):=by show _=_;simp only[mi,gEg hf,<-hg,gEg OB]
 have hB:=h.base_le;have c0:=h.blk.cell 0;simp at c0;have I2:=h.blk.lt;have k0:w.cell? ⟨gf,f*4,none⟩=some (.int .i64 g):=by rw[oJ.cell,ajC];exact x0
 have k1:w.cell? ⟨gs,g*2,none⟩=some (.slice at1 nt1 ct1):=by rw[qa.cell,ajC];exact y0
 have k2:w.cell? ⟨gs,g*2+1,none⟩=some (.slice at2 nt2 ct2):=by rw[qa.cell,ajC];exact y1
 have i1:(f:Int)<(m.funs.length:Int):=by omega
 have i2:(g:Int)<(m.sigs.length:Int):=by omega
 have i3:(m.funs.length:Int)<=20:=by omega
 have i4:(m.sigs.length:Int)<=20:=by omega
 have dU:=qa.lt;have Zc:=oJ.lt;have yr:b<w.heap.size:=by omega
 have dW:=fun o=>aC w o none;clear hg x0 y0 y1 Ag D7 ok1 ok2 ok3 ok4 qa oJ;go_enter func138,ntmps138;go_wp2_with fail;go_region
 go_wp2_with fail;have us:w.grownBy (w.alloc (.cells #[.slice at1 nt1 ct1,.slice at2 nt2 ct2] 107)).drew none:=aE (dW _);have L0:=h.kept us;have kd:=(bc.none us hB);refine(dk L0 hi (it.kept kd.below) sl1 st1).mono ?_;rintro e w2 ⟨aP,cO⟩;have W2:=kd.trans (L0.went aP);have CD:Blk w2 w.heap.size #[.slice at1 nt1 ct1,.slice at2 nt2 ct2] 107:=(Blk.drew (Blk.new w _ _)).grown aP (by simp;omega);have x1:=CD.cell 1;simp at x1;cases hx:bw ar s m.sigs[g].1.reverse with
 |error er=>
  cases cO.err hx;go_wp2_with fail;exact⟨rfl,W2,aK (by rw[hC.out,hx];rfl) rfl⟩
 |ok r=>
  obtain⟨rfl,vs2,L2⟩:=cO.ok hx;have rP:=eQ _ hx;have hr:Hid (mi ar m s f=.ok (bE r m.sigs[g].2)):=by show _=_;rw[hC.out,hx];rfl
  clear cO hC;go_wp2_with (go_at_call 161;refine(eK L2 (ig.kept W2.below) sl2 (by omega)).mono ?_;rintro e w3 ⟨rfl,W3,L3⟩)
  go_end0;exact⟨W2.trans W3,aY hr.out ⟨rfl,L3⟩⟩
def mP(s:LSt):Prop:=∀f∈s.ae,f.aj.length<=6/\f.ak.length<=6/\(∀t∈f.aj,t<=2)/\(∀t∈f.ak,t<=2)
theorem sE(hf:mP s){idx x:List Nat}(h:dn s idx=some x):x.length<=6/\∀t∈x,t<=2:=by
 have key:∀f∈s.ae,(aZ f).length<=6/\∀t∈aZ f,t<=2:=fun f hm=>by
  obtain⟨h1,h2,h3,h4⟩:=hf f hm;unfold aZ;split
  ·exact⟨h1,h3⟩
  exact⟨h2,h4⟩
 unfold dn at h;split at h
 ·cases hh:s.ae.head? with
  |none=>rw[hh]at h;simp at h
  |some f=>rw[hh]at h;simp at h;subst h;exact key f (List.mem_of_head? hh)
 rename_i i is;unfold bT at h;split at h
 ·rename_i bM;rw[gEg (by omega)]at h;simp at h;subst h;exact key _ (ajw _)
 simp at h
end
section
variable {az l:Nat}{vm vloc:Value}{tb:List Nat}{ar:Nat}{vs vf vp:Value}{w:World}{s:LSt}{m:bf}{ai:List Nat}
theorem lS{f:PFr}{t:Nat}{r:Nat×LSt}(hf:s.ae.getLast?=some f)(hh:f.am<=s.af.length)(h:bD ar s t=.ok r):f.am<=r.2.af.length:=by
 unfold bD at h;rw[hf]at h;simp only at h;split at h
 ·split at h
  ·cases h;exact hh
  cases h
 split at h
 ·cases h
 split at h
 ·cases h
 cases h;simp;omega
theorem jj{f:PFr}:∀(l:List Nat) {s r:LSt},s.ae.getLast?=some f->f.am<=s.af.length->bw ar s l=.ok r->f.am<=r.af.length
 | [],s,r,hf,hh,h=>by cases h;exact hh
 |t::l,s,r,hf,hh,h=>by
  simp only[bw]at h;cases hx:bD ar s t with
  |error e=>simp[hx]at h
  |ok x=>
   simp only[hx,aM]at h;exact jj l (by rw[iC hx];exact hf) (lS hf hh hx) h
theorem mQ(h:LR az l vm vloc tb ar vs vf vp w s){v:Value}{st:aX}(hv:ef w v st){f:PFr}(hf:s.ae.getLast?=some f)(hh:f.am<=s.af.length)(Ea:mP s)(hn:s.af.length<=80000){x:List Nat}(hx:dn s st.idx=some x)(eW:∀i∈st.idx,i<s.ae.length)(aQ:st.idx.length<=20)(aN:st.aa.au=0\/st.aa.au=7\/st.aa.au=8\/st.aa.au=9\/st.aa.au=10):Calls prog 137 #[.pointer (some ⟨l,0,none⟩),v] w fun e w'=>bc az w w'/\fh (eI ar s st) (fun r e w'=>e=.returned (.tuple #[])/\iQ az l vm vloc tb ar w' r) e w':=by
 have hi:0<s.ae.length:=by
  cases hq:s.ae with
  |nil=>rw[hq]at hf;simp at hf
  |cons a l=>simp
 obtain⟨BQ,KV⟩:=sE Ea hx;obtain⟨a,n,c,rfl,jE⟩:=hv;have hB:=h.base_le;have dW:=aC w (.cells #[.int .i64 st.aa.au,.int .i64 st.aa.ab,.int .i64 st.aa.aj,.int .i64 st.aa.of,.int .i64 st.aa.ak,.slice a n c,.int .i64 st.num,.int .i64 st.next] 202) none;have L0:=h.kept dW;have W0:=bc.none dW hB;have I2:=h.blk.lt;have hJ:Hid (eI ar s st=if st.aa.au=8 then bnd (bD ar s 1) fun r=>bnd (bw ar r.2 x.reverse) fun s1=>.ok (bE s1 x)
  else if st.aa.au=9 then bnd (gM ar s x st.idx) fun _=>bnd (bD ar s 1) fun r=>bnd (bw ar r.2 x.reverse) fun s1=>.ok (iy s1)
  else if st.aa.au=7\/st.aa.au=10 then bnd (bw ar s x.reverse) fun s1=>.ok (iy s1)
  else .ok (iy s)):=by show _=_;simp only[eI,hx]
 have KW:=yx L0 (v:=.agg #[.int .i64 st.aa.au,.int .i64 st.aa.ab,.int .i64 st.aa.aj,.int .i64 st.aa.of,.int .i64 st.aa.ak,.slice a n c,.int .i64 st.num,.int .i64 st.next]) ⟨a,n,c,rfl,jE.keptB fun g c hb=>hb.alloc _⟩ hx;go_enter func137,ntmps137;go_wp2_with fail;refine KW.mono ?_;rintro e w1 ⟨u,rfl,eZ,hu⟩;have L1:=L0.kept eZ;have W1:=W0.trans (bc.none eZ L0.base_le);have CD:Blk w1 w.heap.size #[.int .i64 st.aa.au,.int .i64 st.aa.ab,.int .i64 st.aa.aj,.int .i64 st.aa.of,.int .i64 st.aa.ak,.slice a n c,.int .i64 st.num,.int .i64 st.next] 202:=(Blk.new w _ _).grown eZ (by simp);have x0:=CD.cell 0;have x5:=CD.cell 5;simp at x0 x5;obtain⟨ua,un,uc,rfl⟩:=hu.isSlice;clear KW hx;have dies:∀{w3:World}{s3:LSt}{vs3:Value},LR az l vm vloc tb ar vs3 vf vp w3 s3->s3.ae=s.ae->f.am<=s3.af.length->Calls prog 168 #[.pointer (some ⟨l,0,none⟩)] w3 fun e w'=>e=.returned (.tuple #[])/\bc az w3 w'/\iQ az l vm vloc tb ar w' (iy s3):=fun L e1 e2=>IY L (by rw[e1];exact hf) e2;have DI:Hid _:=@dies;clear dies;rcases aN with dL|dL|dL|dL|dL
 ·have e1:(st.aa.au:Int)=0:=by omega
  have hr:Hid (eI ar s st=.ok (iy s)):=by show _=_;rw[hJ.out,ajc (by omega),ajc (by omega),ajc (by omega)]
  clear hJ dL;go_wp2_with (go_at_call 168;refine(DI.out L1 rfl hh).mono ?_;rintro e w4 ⟨rfl,W4,L4⟩)
  go_end0;exact⟨W1.trans W4,aY hr.out ⟨rfl,L4⟩⟩
 ·have e1:(st.aa.au:Int)=7:=by omega
  cases hy:bw ar s x.reverse with
  |error er=>
   have hr:Hid (eI ar s st=.error er):=by show _=_;rw[hJ.out,ajc (by omega),ajc (by omega),ajd (by omega),hy];rfl
   clear hJ dL;go_wp2_with (go_at_call 160;refine(dk L1 hi hu BQ KV).mono ?_;rintro e w2 ⟨aP,cO⟩;cases cO.err hy)
   exact⟨rfl,W1.trans (L1.went aP),aK hr.out rfl⟩
  |ok r=>
   have hr:Hid (eI ar s st=.ok (iy r)):=by show _=_;rw[hJ.out,ajc (by omega),ajc (by omega),ajd (by omega),hy];rfl
   have q1:=(eh _ hy).1;have q2:=jj _ hf hh hy;have Q1:Hid _:=q1;clear hJ dL q1;go_wp2_with (first|(go_at_call 160;refine(dk L1 hi hu BQ KV).mono ?_;rintro e w2 ⟨aP,cO⟩;obtain⟨rfl,vs2,L2⟩:=cO.ok hy)|(go_at_call 168;refine(DI.out L2 Q1.out q2).mono ?_;rintro e w4 ⟨rfl,W4,L4⟩))
   go_end0;exact⟨(W1.trans (L1.went aP)).trans W4,aY hr.out ⟨rfl,L4⟩⟩
 ·have e1:(st.aa.au:Int)=8:=by omega
  cases hy:bD ar s 1 with
  |error er=>
   have hr:Hid (eI ar s st=.error er):=by show _=_;rw[hJ.out,ajd (by omega),hy];rfl
   clear hJ dL;go_wp2_with (go_at_call 139;refine(dJ L1 hi 1 (by omega)).mono ?_;rintro e w2 ⟨aP,cO⟩;cases cO.err hy)
   exact⟨rfl,W1.trans (L1.went aP),aK hr.out rfl⟩
  |ok r1=>
   have f1:=iC hy;have vz:r1.2.af.length<=s.af.length:=eQ (ar:=ar) [1] (r:=r1.2) (by simp only[bw,hy,aM]);cases hz:bw ar r1.2 x.reverse with
   |error er=>
    have hr:Hid (eI ar s st=.error er):=by show _=_;rw[hJ.out,ajd (by omega),hy,aM,hz];rfl
    have F1:Hid _:=f1;clear hJ dL f1;go_wp2_with (first|(go_at_call 139;refine(dJ L1 hi 1 (by omega)).mono ?_;rintro e w2 ⟨aP,cO⟩;obtain⟨rfl,vs2,L2⟩:=cO.ok hy)|(go_at_call 160;refine(dk L2 (by rw[F1.out];exact hi) (hu.kept (L1.went aP).below) BQ KV).mono ?_;rintro e w3 ⟨co,kF⟩;cases kF.err hz))
    exact⟨rfl,(W1.trans (L1.went aP)).trans (L2.went co),aK hr.out rfl⟩
   |ok r2=>
    have hr:Hid (eI ar s st=.ok (bE r2 x)):=by show _=_;rw[hJ.out,ajd (by omega),hy,aM,hz];rfl
    have F1:Hid _:=f1;have BR:=eQ _ hz;clear hJ dL f1;go_wp2_with (first|(go_at_call 139;refine(dJ L1 hi 1 (by omega)).mono ?_;rintro e w2 ⟨aP,cO⟩;obtain⟨rfl,vs2,L2⟩:=cO.ok hy)|(go_at_call 160;refine(dk L2 (by rw[F1.out];exact hi) (hu.kept (L1.went aP).below) BQ KV).mono ?_;rintro e w3 ⟨co,kF⟩;obtain⟨rfl,vs3,L3⟩:=kF.ok hz)|(go_at_call 161;refine(eK L3 ((hu.kept (L1.went aP).below).kept (L2.went co).below) BQ (by omega)).mono ?_;rintro e w4 ⟨rfl,W4,L4⟩))
    go_end0;exact⟨((W1.trans (L1.went aP)).trans (L2.went co)).trans W4,aY hr.out ⟨rfl,L4⟩⟩
 ·have e1:(st.aa.au:Int)=9:=by omega
  have MH:ea 0 w1 (.slice a n c) st.idx:=(jE.keptB fun g c hb=>hb.alloc _).keptB fun g c hb=>hb.grown eZ (by simp);have WV:=Cy L1 MH eW aQ hu (by omega) (fun f hm=>by obtain⟨p1,p2,_⟩:=Ea f hm;omega);have AG:Hid _:=WV;have II:Hid _:=MH;clear WV MH jE;cases ha:gM ar s x st.idx with
  |error er=>
   have hr:Hid (eI ar s st=.error er):=by show _=_;rw[hJ.out,ajc (by omega),ajd (by omega),ha];rfl
   clear hJ dL;go_wp2_with (go_at_call 167;refine Calls.mono AG.out ?_;rintro e w2 ⟨aP,cO⟩;cases cO.err ha)
   exact⟨rfl,W1.trans (bc.none aP L1.base_le),aK hr.out rfl⟩
  |ok _=>
   cases hy:bD ar s 1 with
   |error er=>
    have hr:Hid (eI ar s st=.error er):=by show _=_;rw[hJ.out,ajc (by omega),ajd (by omega),ha,aM,hy];rfl
    clear hJ dL;go_wp2_with (first|(go_at_call 167;refine Calls.mono AG.out ?_;rintro e w2 ⟨aP,cO⟩;cases cO.ok ha)|(go_at_call 139;refine(dJ (L1.kept aP) hi 1 (by omega)).mono ?_;rintro e w3 ⟨co,kF⟩;cases kF.err hy))
    exact⟨rfl,(W1.trans (bc.none aP L1.base_le)).trans ((L1.kept aP).went co),aK hr.out rfl⟩
   |ok r1=>
    have f1:=iC hy;have q1:=lS hf hh hy;cases hz:bw ar r1.2 x.reverse with
    |error er=>
     have hr:Hid (eI ar s st=.error er):=by show _=_;rw[hJ.out,ajc (by omega),ajd (by omega),ha,aM,hy,aM,hz];rfl
     have F1:Hid _:=f1;clear hJ dL f1;go_wp2_with (first|(go_at_call 167;refine Calls.mono AG.out ?_;rintro e w2 ⟨aP,cO⟩;cases cO.ok ha)|(go_at_call 139;refine(dJ (L1.kept aP) hi 1 (by omega)).mono ?_;rintro e w3 ⟨co,kF⟩;obtain⟨rfl,vs3,L3⟩:=kF.ok hy)|(go_at_call 160;refine(dk L3 (by rw[F1.out];exact hi) ((hu.kept (bc.none aP L1.base_le).below).kept ((L1.kept aP).went co).below) BQ KV).mono ?_;rintro e w4 ⟨dv,BP⟩;cases BP.err hz))
     exact⟨rfl,((W1.trans (bc.none aP L1.base_le)).trans ((L1.kept aP).went co)).trans (L3.went dv),aK hr.out rfl⟩
    |ok r2=>
     have hr:Hid (eI ar s st=.ok (iy r2)):=by show _=_;rw[hJ.out,ajc (by omega),ajd (by omega),ha,aM,hy,aM,hz];rfl
     have q2:=jj _ (by rw[f1];exact hf) q1 hz;have f2:Hid (r2.ae=s.ae):=(eh _ hz).1.trans f1;have F1:Hid _:=f1;clear hJ dL f1;go_wp2_with (first|(go_at_call 167;refine Calls.mono AG.out ?_;rintro e w2 ⟨aP,cO⟩;cases cO.ok ha)|(go_at_call 139;refine(dJ (L1.kept aP) hi 1 (by omega)).mono ?_;rintro e w3 ⟨co,kF⟩;obtain⟨rfl,vs3,L3⟩:=kF.ok hy)|(go_at_call 160;refine(dk L3 (by rw[F1.out];exact hi) ((hu.kept (bc.none aP L1.base_le).below).kept ((L1.kept aP).went co).below) BQ KV).mono ?_;rintro e w4 ⟨dv,BP⟩;obtain⟨rfl,vs4,L4⟩:=BP.ok hz)|(go_at_call 168;refine(DI.out L4 f2.out q2).mono ?_;rintro e w5 ⟨rfl,W5,L5⟩))
     go_end0;exact⟨(((W1.trans (bc.none aP L1.base_le)).trans ((L1.kept aP).went co)).trans (L3.went dv)).trans W5,aY hr.out ⟨rfl,L5⟩⟩
 have e1:(st.aa.au:Int)=10:=by omega
 cases hy:bw ar s x.reverse with
 |error er=>
  have hr:Hid (eI ar s st=.error er):=by show _=_;rw[hJ.out,ajc (by omega),ajc (by omega),ajd (by omega),hy];rfl
  clear hJ dL;go_wp2_with (go_at_call 160;refine(dk L1 hi hu BQ KV).mono ?_;rintro e w2 ⟨aP,cO⟩;cases cO.err hy)
  exact⟨rfl,W1.trans (L1.went aP),aK hr.out rfl⟩
 |ok r=>
  have hr:Hid (eI ar s st=.ok (iy r)):=by show _=_;rw[hJ.out,ajc (by omega),ajc (by omega),ajd (by omega),hy];rfl
  have q1:=(eh _ hy).1;have q2:=jj _ hf hh hy;have Q1:Hid _:=q1;clear hJ dL q1;go_wp2_with (first|(go_at_call 160;refine(dk L1 hi hu BQ KV).mono ?_;rintro e w2 ⟨aP,cO⟩;obtain⟨rfl,vs2,L2⟩:=cO.ok hy)|(go_at_call 168;refine(DI.out L2 Q1.out q2).mono ?_;rintro e w4 ⟨rfl,W4,L4⟩))
  go_end0;exact⟨(W1.trans (L1.went aP)).trans W4,aY hr.out ⟨rfl,L4⟩⟩
end
section
variable {az l:Nat}{vm vloc:Value}{tb:List Nat}{ar:Nat}{vs vf vp:Value}{w:World}{s:LSt}{m:bf}{ai:List Nat}
theorem LR.targetBlk(h:LR az l vm vloc tb ar vs vf vp w s){t b:Nat}(ht:tb[t]?=some b):∃bM:t<s.ah.length,az<=b/\Blk w b #[.int .i64 (s.ah[t]).1,.int .i64 (s.ah[t]).2.1,.int .i64 (s.ah[t]).2.2] 220:=by
 obtain⟨t1,t2,t3⟩:=h.tgt;have bM:t<s.ah.length:=by rw[<-t1];exact(gEs.1 ht).1
 obtain⟨b',x1,x2,x3⟩:=t3 t bM;rw[ht]at x1;cases x1;exact⟨bM,x2,x3⟩
theorem LR.setNext(h:LR az l vm vloc tb ar vs vf vp w s){t b:Nat}(ht:tb[t]?=some b)(n:Nat):LR az l vm vloc tb ar vs vf vp (w.setCell ⟨b,0,none⟩ (.int .i64 n)) (YtjbdgbdcnjopkaaGreatDoor.setNext s t n)/\bc az w (w.setCell ⟨b,0,none⟩ (.int .i64 n)):=by
 obtain⟨bM,WX,hb⟩:=h.targetBlk ht;have hg:=aD w b 0 (.int .i64 n);obtain⟨o1,o2,o3,o4,_,o6⟩:=h.others (e:=220) hg (by intro g' e;cases e;exact⟨WX,_,hb⟩) (by decide);obtain⟨t1,t2,t3⟩:=h.tgt;refine⟨⟨o1 (by decide),h.low,o2 (by decide),o3 (by decide),o4 (by decide) (by decide),⟨by simp[YtjbdgbdcnjopkaaGreatDoor.setNext,t1],t2,fun i hi=>?_⟩,h.ns,h.nf,h.np⟩,o6⟩;have jB:i<s.ah.length:=by simpa [YtjbdgbdcnjopkaaGreatDoor.setNext] using hi
 obtain⟨b',x1,x2,x3⟩:=t3 i jB;by_cases e:i=t
 ·subst e;rw[ht]at x1;cases x1;have hx:(YtjbdgbdcnjopkaaGreatDoor.setNext s i n).ah[i]=(n,(s.ah[i]).2):=by simp[YtjbdgbdcnjopkaaGreatDoor.setNext,List.getElem_modify]
  rw[hx];have:=hb.set 0 (.int .i64 n);simp at this;exact⟨b,ht,WX,this⟩
 have hx:(YtjbdgbdcnjopkaaGreatDoor.setNext s t n).ah[i]=s.ah[i]:=by simp[YtjbdgbdcnjopkaaGreatDoor.setNext,List.getElem_modify,Ne.symm e]
 rw[hx];refine⟨b',x1,x2,x3.setOther _ ?_⟩;intro e';have e'':b'=b:=e';subst e'';exact e ((List.getElem?_inj (by rw[t1];exact jB) t2).1 (x1.trans ht.symm))
theorem I3(h:LR az l vm vloc tb ar vs vf vp w s){f:PFr}(hf:s.ae.getLast?=some f)(Ea:mP s)(hh:f.am<=s.af.length)(hn:s.af.length<=80000)(qX:f.au=4->∃k:Nat,f.ao=k/\k<s.ay.length)(dL:f.au<=40):Calls prog 136 #[.pointer (some ⟨l,0,none⟩)] w fun e w'=>bc az w w' /\ fh (lq ar s) (fun r e w'=>e=.returned (.tuple #[])/\∃tb',iQ az l vm vloc tb' ar w' r) e w':=by
 obtain⟨fo1,fo2,fo3,fo4⟩:=Ea f (ajm hf);have hB:=h.base_le;have hC:=vE h hf fo2 fo4 fo1 (by omega) qX dL;go_enter func136,ntmps136;go_wp2_with fail;refine hC.mono ?_;rintro e w1 ⟨W1,up⟩;cases hx:dT ar s with
 |error er=>
  cases up.err hx;go_wp2_with fail;exact⟨rfl,W1,aK (by simp[lq,hx]) rfl⟩
 |ok r=>
  obtain⟨v,tb1,rfl,Zw,hv,vs1,vf1,vp1,L1⟩:=up.ok hx;obtain⟨mB,R9⟩:r.1=f/\r.2.af.length<=s.af.length:=by
   simp only[dT,hf]at hx;cases hy:bw ar s f.ak.reverse with
   |error e=>simp[hy]at hx
   |ok s1=>
    simp only[hy,aM]at hx;split at hx
    ·cases hx
    cases hx;refine⟨rfl,?_⟩;have:=eQ _ hy;split <;> simpa [cR] using this
  obtain⟨fr,s1⟩:=r;simp only at mB R9;subst mB;obtain⟨at1,nt1,ct1,at2,nt2,ct2,b,rfl,hb,i1,i2⟩:=hv;have hE:Hid (lq ar s=if fr.au=4/\fr.aj≠fr.ak then .error (7,ar) else .ok (bE (if fr.au≠3 then YtjbdgbdcnjopkaaGreatDoor.setNext s1 fr.target s1.ay.length else s1) fr.ak)):=by show _=_;simp only[lq,hx,aM]
  have kI:=L1.base_le;have dW:=aC w1 (.cells #[.int .i64 fr.au,.slice at1 nt1 ct1,.slice at2 nt2 ct2,.int .i64 fr.am,.bool fr.dead,.int .i64 fr.ao,.pointer (some ⟨b,0,none⟩)] 217) none;have L2:=L1.kept dW;have W2:=bc.none dW kI;have Mw:=L1.blk.lt;simp only at i1 i2 hb L1;have BM:=fun (W:World) (hk:Below az w1 W) (hw:az<=W.heap.size)=>vD (xs:=fr.aj) (ys:=fr.ak) (i1.kept hk) (i2.kept hk) hw (by omega) (by omega);have EQ:Hid _:=BM;clear hC up hx BM;have us:=aE dW;have W3:=bc.none us kI;have L3:=L1.kept us;have CD:Blk (w1.alloc (.cells #[.int .i64 fr.au,.slice at1 nt1 ct1,.slice at2 nt2 ct2,.int .i64 fr.am,.bool fr.dead,.int .i64 fr.ao,.pointer (some ⟨b,0,none⟩)] 217)).drew w1.heap.size #[.int .i64 fr.au,.slice at1 nt1 ct1,.slice at2 nt2 ct2,.int .i64 fr.am,.bool fr.dead,.int .i64 fr.ao,.pointer (some ⟨b,0,none⟩)] 217:=Blk.drew (Blk.new _ _ _);have fin:∀{w4:World},(w1.alloc (.cells #[.int .i64 fr.au,.slice at1 nt1 ct1,.slice at2 nt2 ct2,.int .i64 fr.am,.bool fr.dead,.int .i64 fr.ao,.pointer (some ⟨b,0,none⟩)] 217)).drew.grownBy w4 none ->
    Blk w4 w1.heap.size #[.int .i64 fr.au,.slice at1 nt1 ct1,.slice at2 nt2 ct2,.int .i64 fr.am,.bool fr.dead,.int .i64 fr.ao,.pointer (some ⟨b,0,none⟩)] 217/\LR az l vm vloc tb1 ar vs1 vf1 vp1 w4 s1/\bc az w1 w4/\Blk w4 b #[.int .i64 (s1.ah[fr.target]'(L1.targetBlk hb).1).1,.int .i64 (s1.ah[fr.target]'(L1.targetBlk hb).1).2.1,.int .i64 (s1.ah[fr.target]'(L1.targetBlk hb).1).2.2] 220:=fun hk=>
   ⟨CD.grown hk (by simp),L3.kept hk,W3.trans (bc.none hk L3.base_le),(((L1.targetBlk hb).2.2.alloc _).drew).grown hk (by simp)⟩
  have FI:Hid _:=@fin;clear fin;obtain⟨wA,Ak⟩:=aja ((w1.alloc (.cells #[.int .i64 fr.au,.slice at1 nt1 ct1,.slice at2 nt2 ct2,.int .i64 fr.am,.bool fr.dead,.int .i64 fr.ao,.pointer (some ⟨b,0,none⟩)] 217)).drew);by_cases h4:fr.au=4
  ·have e4:((fr.au:Int)==4)=true:=by simp;omega
   have e3:((fr.au:Int) != 3)=true:=by simp;omega
   have BM:=EQ.out (w1.alloc (.cells #[.int .i64 fr.au,.slice at1 nt1 ct1,.slice at2 nt2 ct2,.int .i64 fr.am,.bool fr.dead,.int .i64 fr.ao,.pointer (some ⟨b,0,none⟩)] 217)).drew W3.below L3.base_le;by_cases hq:fr.aj=fr.ak
   ·have hr:Hid (lq ar s=.ok (bE (YtjbdgbdcnjopkaaGreatDoor.setNext s1 fr.target s1.ay.length) fr.ak)):=by show _=_;rw[hE.out,ajc (by intro hc;exact hc.2 hq),ajd (by omega)]
    rw[decide_eq_true hq]at BM;have EE:Hid _:=BM;clear hE hq BM h4 Ak;go_wp2_with fail;go_region
    go_wp2_with (go_at_call 165;refine Calls.mono EE.out ?_;rintro e w4 ⟨rfl,dv⟩;obtain⟨jK,L4,W4,MI⟩:=FI.out dv;have z0:=jK.cell 0;have z6:=jK.cell 6;have y0:=MI.cell 0;have q0:=MI.frozen 0;simp at z0 z6 y0)
    go_wp2_with fail;go_region_with (go_at_call 128;refine(jR L4.drew).mono ?_;rintro e w5 ⟨rfl,rfl⟩)
    all_goals
     have hS:=L4.drew.setNext hb s1.ay.length;go_wp2_with (go_at_call 161;refine(eK hS.1 (((i2.kept W4.below).kept (bc.none (aE (aH w4 none)) L4.base_le).below).kept hS.2.below) fo2 (by show s1.af.length<=90000;omega)).mono ?_;rintro e w6 ⟨rfl,W6,L6⟩)
     go_end0;exact⟨(((W1.trans W4).trans (bc.none (aE (aH w4 none)) L4.base_le)).trans hS.2).trans W6,aY hr.out ⟨rfl,tb1,L6⟩⟩
   have hr:Hid (lq ar s=.error (7,ar)):=by show _=_;rw[hE.out,ajd ⟨h4,hq⟩]
   rw[decide_eq_false hq]at BM;have EE:Hid _:=BM;clear hE hq BM h4 Ak;go_wp2_with fail;go_region
   go_wp2_with (first|(go_at_call 165;refine Calls.mono EE.out ?_;rintro e w4 ⟨rfl,dv⟩;obtain⟨jK,L4,W4,MI⟩:=FI.out dv)|(go_at_call 100;refine(ed L4 7).mono ?_;rintro e w5 ⟨rfl,rfl⟩))
   exact⟨rfl,W1.trans W4,aK hr.out rfl⟩
  have e4:((fr.au:Int)==4)=false:=by simp;omega
  obtain⟨jK,L4,W4,MI⟩:=FI.out (aH _ none);rw[Ak]at jK L4 W4 MI;have z0:=jK.cell 0;have z1:=jK.cell 1;have z2:=jK.cell 2;have z6:=jK.cell 6;have y0:=MI.cell 0;have q0:=MI.frozen 0;simp at z0 z1 z2 z6 y0;have HW:Hid _:=Ak;by_cases h3:fr.au=3
  ·have e3:((fr.au:Int) != 3)=false:=by simp;omega
   have hr:Hid (lq ar s=.ok (bE s1 fr.ak)):=by show _=_;rw[hE.out,ajc (by intro hc;exact h4 hc.1),ajc (by omega)]
   clear hE h3 h4;go_wp2_with fail;go_region
   go_wp2_with (go_at_call 161;refine(eK L4 (i2.kept W4.below) fo2 (by omega)).mono ?_;rintro e w6 ⟨rfl,W6,L6⟩)
   go_end0;exact⟨(W1.trans W4).trans W6,aY hr.out ⟨rfl,tb1,L6⟩⟩
  have e3:((fr.au:Int) != 3)=true:=by simp;omega
  have hr:Hid (lq ar s=.ok (bE (YtjbdgbdcnjopkaaGreatDoor.setNext s1 fr.target s1.ay.length) fr.ak)):=by show _=_;rw[hE.out,ajc (by intro hc;exact h4 hc.1),ajd h3]
  clear hE h3 h4;go_wp2_with fail;go_region
  go_wp2_with fail;go_region_with (go_at_call 128;refine(jR L4.drew).mono ?_;rintro e w5 ⟨rfl,rfl⟩)
  all_goals
   have hS:=L4.drew.setNext hb s1.ay.length;go_wp2_with (go_at_call 161;refine(eK hS.1 (((i2.kept W4.below).kept (bc.none (aE (aH wA none)) L4.base_le).below).kept hS.2.below) fo2 (by show s1.af.length<=90000;omega)).mono ?_;rintro e w6 ⟨rfl,W6,L6⟩)
   go_end0;exact⟨(((W1.trans W4).trans (bc.none (aE (aH wA none)) L4.base_le)).trans hS.2).trans W6,aY hr.out ⟨rfl,tb1,L6⟩⟩
end
theorem AD(c0 c1 c2 c3 c4 c5 c6:Value)(w:World):(Instr.field 217 (.agg #[c0,c1,c2,c3,c4,c5,c6]) 0).run prog w=.ok c0 w:=by kernel_rfl
theorem AE(c0 c1 c2 c3 c4 c5 c6:Value)(w:World):(Instr.field 217 (.agg #[c0,c1,c2,c3,c4,c5,c6]) 5).run prog w=.ok c6 w:=by kernel_rfl
