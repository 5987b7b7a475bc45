import Derived.Test.YtjbdgbdcnjopkaaGreatDoorS09
import Derived.Test.YtjbdgbdcnjopkaaGreatDoorS08
namespace Go.Proofs.YtjbdgbdcnjopkaaGreatDoor
open Go.RowKit Tryz
set_option linter.all false
set_option maxRecDepth 100000
set_option maxHeartbeats 4000000
section
variable {az l:Nat}{vm vloc:Value}{tb:List Nat}{ar:Nat}{vs vf vp:Value}{w:World}{s:LSt}{m:bf}{ai:List Nat}
theorem xe{f:PFr}{r:PFr×LSt}(hf:s.ae.getLast?=some f)(hx:dT ar s=.ok r):r.1=f/\r.2.af.length<=s.af.length/\r.2.ay.length=s.ay.length/\r.2.ae=s.ae.dropLast/\r.2.af.length=f.am:=by
 simp only[dT,hf]at hx;cases hy:bw ar s f.ak.reverse with
 |error e=>simp[hy]at hx
 |ok s1=>
  simp only[hy,aM]at hx;obtain⟨q1,q2,q3⟩:=eh _ hy;have q4:=eQ _ hy;split at hx
  ·cases hx
  rename_i ec;cases hx;refine⟨rfl,?_,?_,?_,?_⟩
  ·split <;> simpa [cR] using q4
  ·split <;> simp[cR,q2]
  ·split <;> simp[cR,q1]
  split <;> simpa [cR] using ec
theorem I4(h:LR az l vm vloc tb ar vs vf vp w s){i t b:Nat}(hi:i<s.ay.length)(ht:tb[t]?=some b)(x:Int)(hx:x=(i:Int)):Calls prog 164 #[.pointer (some ⟨l,0,none⟩),.int .i64 x,.pointer (some ⟨b,0,none⟩)] w fun e w'=>e=.returned (.tuple #[])/\bc az w w'/\(∀g c ty,ty≠186->Blk w g c ty->Blk w' g c ty)/\LR az l vm vloc tb ar vs vf vp w' (cR s i t):=by rw[hx];exact yw h hi ht
theorem EO(h:LR az l vm vloc tb ar vs vf vp w s){f:PFr}(hf:s.ae.getLast?=some f)(Ea:mP s)(hh:f.am<=s.af.length)(hn:s.af.length<=80000)(qX:f.au=4->∃k:Nat,f.ao=k/\k<s.ay.length)(dL:f.au<=40)(cT:0<s.ay.length):Calls prog 135 #[.pointer (some ⟨l,0,none⟩)] w fun e w'=>bc az w w' /\ fh (gU ar s) (fun r e w'=>e=.returned (.tuple #[])/\∃tb',iQ az l vm vloc tb' ar w' r) e w':=by
 obtain⟨fo1,fo2,fo3,fo4⟩:=Ea f (ajm hf);have hB:=h.base_le;have lv:0<s.ae.length:=by
  cases hx:s.ae with
  |nil=>rw[hx]at hf;simp at hf
  |cons a l=>simp
 have IZ:s.ae[s.ae.length-1]=f:=by rw[ajk,gEg (by omega)]at hf;exact Option.some.inj hf
 have hI:=kW h lv;rw[IZ]at hI;clear IZ;have WZ:=AD;by_cases h4:f.au=4
 ·have e4:((f.au:Int) != 4)=false:=by simp;omega
  have H4:Hid (f.au=4):=h4;clear h4;go_enter func135,ntmps135;go_wp2_with fail;refine hI.mono ?_;rintro e w0 ⟨v0,rfl,oa,bt1,mt1,dt1,bt2,mt2,dt2,b0,rfl,_⟩;have L0:=h.kept oa;have W0:=bc.none oa hB;have hC:=vE L0 hf fo2 fo4 fo1 (by omega) qX dL;clear hI;go_wp2_with fail;refine hC.mono ?_;rintro e w1 ⟨W1,up⟩;cases hx:dT ar s with
  |error er=>
   have hr:Hid (gU ar s=.error er):=by show _=_;simp[gU,hf,H4.out,hx]
   cases up.err hx;go_wp2_with fail;exact⟨rfl,W0.trans W1,aK hr.out rfl⟩
  |ok r=>
   obtain⟨v,tb1,rfl,Zw,hv,vs1,vf1,vp1,L1⟩:=up.ok hx;obtain⟨mB,R9,I5,Tv,_⟩:=xe hf hx;have hr:Hid (gU ar s=.ok (bE {(cR r.2 (r.2.ay.length-1) r.1.target) with ae:=(cR r.2 (r.2.ay.length-1) r.1.target).ae++[{r.1 with au:=5,dead:=false}]} r.1.aj)):=by show _=_;simp only[gU,hf,hx,aM,H4.out,ne_eq,not_true_eq_false,if_false]
   obtain⟨fr,s1⟩:=r;simp only at mB R9 I5 Tv L1 hr;subst mB;obtain⟨at1,nt1,ct1,at2,nt2,ct2,b,rfl,hb,i1,i2⟩:=hv;simp only at i1 i2 hb;have kI:=L1.base_le;have Mw:=L1.blk.lt;have dW:=aC w1 (.cells #[.int .i64 fr.au,.slice at1 nt1 ct1,.slice at2 nt2 ct2,.int .i64 fr.am,.bool fr.dead,.int .i64 fr.ao,.pointer (some ⟨b,0,none⟩)] 217) none;have us:=aE dW;have L3:=L1.kept us;have W3:=bc.none us kI;have OB:0<s1.ay.length:=by omega
   have IX:=L1.np;have vF:IntKind.i64.wrap ((s1.ay.length:Int)-1)=((s1.ay.length-1:Nat):Int):=by rw[IntKind.wrap_i64];omega
   have CD:Blk (w1.alloc (.cells #[.int .i64 fr.au,.slice at1 nt1 ct1,.slice at2 nt2 ct2,.int .i64 fr.am,.bool fr.dead,.int .i64 fr.ao,.pointer (some ⟨b,0,none⟩)] 217)).drew w1.heap.size #[.int .i64 fr.au,.slice at1 nt1 ct1,.slice at2 nt2 ct2,.int .i64 fr.am,.bool fr.dead,.int .i64 fr.ao,.pointer (some ⟨b,0,none⟩)] 217:=Blk.drew (Blk.new _ _ _);have Zx:Hid _:=Tv;clear hC up hx I5 Tv;have Tw:s1.ay.length-1<s1.ay.length:=by omega
   have Sa:Hid _:=vF;clear vF;have z6':=CD.cell 6;simp at z6';obtain⟨S2,gY⟩:=aja (cR s1 (s1.ay.length-1) fr.target);have Zy:S2.af.length=s1.af.length:=by rw[<-gY];rfl
   have Zz:S2.ae.length<20:=by rw[<-gY];show s1.ae.length<20;rw[Zx.out,List.length_dropLast];have:=h.nf;omega
   have uF:vf1.ownBlock≠some w1.heap.size:=by intro e;obtain⟨cf0,yA,_⟩:=L1.frm;obtain⟨_,c',kt⟩:=ba yA _ e;have:=kt.lt;omega
   go_upto_region 3 with fail
   go_cut [] from 11 (fun wd=>LR az l vm vloc tb1 ar vs1 vf1 vp1 wd S2/\bc az w1 wd/\Blk wd w1.heap.size #[.int .i64 fr.au,.slice at1 nt1 ct1,.slice at2 nt2 ct2,.int .i64 fr.am,.bool fr.dead,.int .i64 fr.ao,.pointer (some ⟨b,0,none⟩)] 217)
   case first=>
    go_region_with (first|(go_at_call 128;refine(jR L3).mono ?_;rintro e w5 ⟨rfl,rfl⟩)|(go_at_call 164;refine(I4 L3 (t:=fr.target) Tw hb _ (by first|rfl|exact Sa.out|(simp;omega))).mono ?_;rintro e w5 ⟨rfl,W5,Ed,L5⟩;have vG:=Ed _ _ _ (by decide) CD))
    all_goals
     go_wp2_with fail;go_meet
     case rel=>exact⟨gY ▸ L5,W3.trans W5,vG⟩
   case rest=>
    obtain⟨L5,W5,vG⟩:=hcut;have z0:=vG.cell 0;have z4:=vG.cell 4;have q0:=vG.frozen 0;have q4:=vG.frozen 4;simp at z0 z4;have Tx:=vG.lt;clear z6' L3 W3 CD us dW;go_upto_region 5 with fail
    have g1:=aD wc w1.heap.size 0 (.int .i64 5);have g2:=aD (wc.setCell ⟨w1.heap.size,0,none⟩ (.int .i64 5)) w1.heap.size 4 (.bool false);have b1:=(vG.set 0 (.int .i64 5)).set 4 (.bool false);simp at b1;have L6:=L5.keptBox (aB g1 g2) vG kI uF;have W6:=W5.trans (bc.grown (aB g1 g2) L5.base_le (fun r e=>by cases e;exact⟨kI,_,_,vG,by decide⟩));obtain⟨wd,Xa⟩:=aja (((wc.setCell ⟨w1.heap.size,0,none⟩ (.int .i64 5)).setCell ⟨w1.heap.size,4,none⟩ (.bool false)));rw[Xa]at b1 L6 W6 ⊢;clear Xa g1 g2 z0 z4 q0 q4 vG L5 W5 Tx;have xW:=L6.base_le;have I2:=L6.blk.lt;obtain⟨cf,ie,hZ⟩:=L6.frm;obtain⟨fa,fcap,rfl,_,_⟩:=aG ie;have y0:=b1.cell 0;have y1:=b1.cell 1;have y2:=b1.cell 2;have y3:=b1.cell 3;have y4:=b1.cell 4;have y5:=b1.cell 5;have y6:=b1.cell 6;have z3:=L6.blk.cell 3;simp at y0 y1 y2 y3 y4 y5 y6 z3;obtain⟨i0,hi,fo,eP,eV⟩:=info_parts BN;have kw:wd.grownBy (wd.alloc (.cells #[.int .i64 5,.slice at1 nt1 ct1,.slice at2 nt2 ct2,.int .i64 fr.am,.bool false,.int .i64 fr.ao,.pointer (some ⟨b,0,none⟩)] 217)).drew none:=aE (aC _ _ _);have h9:=L6.kept kw;have W9:=bc.none kw xW;have CF:=iT.push (f:={fr with au:=5,dead:=false}) (hZ.kept W9.below) ie.1 hb ((i1.kept W6.below).kept W9.below) ((i2.kept W6.below).kept W9.below);have b9:Blk (wd.alloc (.cells #[.int .i64 5,.slice at1 nt1 ct1,.slice at2 nt2 ct2,.int .i64 fr.am,.bool false,.int .i64 fr.ao,.pointer (some ⟨b,0,none⟩)] 217)).drew w1.heap.size #[.int .i64 5,.slice at1 nt1 ct1,.slice at2 nt2 ct2,.int .i64 fr.am,.bool false,.int .i64 fr.ao,.pointer (some ⟨b,0,none⟩)] 217:=b1.grown kw (by simp);go_wp2_with fail
    go_region_law (refine bQ rfl _ _ 196 rfl az 217 i0 _ 7 88 underlying196 hi fo eP eV rfl (by decide) _ S2.ae.length cf rfl (aJ ie fun g c hb=>by repeat (first|exact hb|apply Blk.drew|refine Blk.alloc ?_ _)) ⟨wd.heap.size,0,none⟩ 1 1 [.int .i64 5,.slice at1 nt1 ct1,.slice at2 nt2 ct2,.int .i64 fr.am,.bool false,.int .i64 fr.ao,.pointer (some ⟨b,0,none⟩)] rfl rfl (fun j u hj=>gE wd _ 217 j u hj) (by simp[Value.oneCell']) (by simp[maxLen];omega) (by omega) (by simp;omega) ?_;intro v' w' bn bU;obtain⟨df,hL,hW⟩:=h9.appFrames bU (by simpa [rE] using bn) CF (by simp;omega);have k3:=df.cell 3;have q3:=df.frozen 3;simp at k3;obtain⟨a',cap',rfl,_⟩:=aG bn;have b10:=(b9.grown bU (fun e=>uF e.symm)).setOther (a:=⟨l,3,none⟩) (.slice a' (S2.ae.length+1) cap') (by simp;omega);have p1:=b10.cell 1;simp at p1)
    all_goals
     go_wp2_with (go_at_call 161;refine(eK hL (((i1.kept W6.below).kept W9.below).kept hW.below) fo1 (by show S2.af.length<=90000;omega)).mono ?_;rintro e w6 ⟨rfl,W10,L10⟩)
     go_end0;rw[gY]at hr;exact⟨((((W0.trans W1).trans W6).trans W9).trans hW).trans W10,aY hr.out ⟨rfl,tb1,L10⟩⟩
 have e4:((f.au:Int) != 4)=true:=by simp;omega
 have hr:Hid (gU ar s=.error (5,ar)):=by show _=_;simp[gU,hf,h4]
 have H4:Hid _:=h4;clear h4;go_enter func135,ntmps135;go_wp2_with fail;refine hI.mono ?_;rintro e w0 ⟨v0,rfl,oa,bt1,mt1,dt1,bt2,mt2,dt2,b0,rfl,_⟩;go_wp2_with (go_at_call 100;refine(ed (h.kept oa) 5).mono ?_;rintro e w5 ⟨rfl,rfl⟩)
 exact⟨rfl,bc.none oa hB,aK hr.out rfl⟩
end
