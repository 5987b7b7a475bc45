import Derived.Test.YtjbdgbdcnjopkaaGreatDoorS14
import Derived.Test.YtjbdgbdcnjopkaaGreatDoorS15
import Derived.Test.YtjbdgbdcnjopkaaGreatDoorS05
namespace Go.Proofs.YtjbdgbdcnjopkaaGreatDoor
open Go.RowKit Tryz
set_option linter.all false
set_option maxRecDepth 100000
set_option maxHeartbeats 4000000
section
variable {az l:Nat}{vm vloc:Value}{tb:List Nat}{ar:Nat}{vs vf vp:Value}{w:World}{s:LSt}{m:bf}{ai:List Nat}
theorem LR.placed(h:LR az l vm vloc tb ar vs vf vp w s)(pl:Nat)(x:Int)(hx:x=(pl:Int)):LR az l vm vloc tb pl vs vf vp (w.setCell ⟨l,5,none⟩ (.int .i64 x)) s/\bc az w (w.setCell ⟨l,5,none⟩ (.int .i64 x)):=by subst hx;obtain⟨_,o2,o3,o4,o5,o6⟩:=h.others (aD w l 5 (.int .i64 pl)) (e:=198) (by intro g e;cases e;exact⟨h.low,_,h.blk⟩) (by decide);have hb:=h.blk.set 5 (.int .i64 pl);simp at hb;exact⟨⟨hb,h.low,o2 (by decide),o3 (by decide),o4 (by decide) (by decide),o5 (by decide),h.ns,h.nf,h.np⟩,o6⟩
theorem LR.ax{w:World}{vm vloc:Value}(l:Nat)(hb:Blk w l #[vm,vloc,.slice none 0 0,.slice none 0 0,.slice none 0 0,.int .i64 0] 198):LR l l vm vloc [] 0 (.slice none 0 0) (.slice none 0 0) (.slice none 0 0) w {af:=[],ae:=[],ay:=[],ah:=[]}:=⟨hb,nLr _,⟨rfl,.inl ⟨rfl,rfl⟩⟩,⟨[],⟨rfl,.inl ⟨rfl,rfl⟩⟩,fun i hi=>by simp at hi⟩,⟨[],⟨rfl,.inl ⟨rfl,rfl⟩⟩,fun i hi=>by simp at hi⟩,⟨rfl,by simp,fun i hi=>by simp at hi⟩,by simp,by simp,by simp⟩
theorem db.ax(sig:Sig)(h1:sig.1.length<=6/\sig.2.length<=6/\(∀t∈sig.1,t<=2)/\(∀t∈sig.2,t<=2)):db (dg {af:=[],ae:=[],ay:=[],ah:=[]} 2 sig):=by
 refine⟨fun f hf=>?_,fun t ht=>by simp[dg]at ht,fun f hf=>?_,fun f hf hn=>?_,fun f hf=>?_,by simp[dg]⟩ <;> simp[dg]at hf <;> subst hf
 ·exact h1
 ·simp
 ·simp at hn
 simp[dg]
theorem mR{a b c:World}{az:Nat}(h:a.grownBy b none)(k:Below az b c)(hB:a.heap.size<=az):a.grownBy c none:=⟨k.os.trans h.os,k.tape.trans h.tape,k.output.trans h.output,ajE h.size k.size,fun i hi ec=>(k.block i (by omega)).trans (h.block i hi ec)⟩
theorem dK.mono{b b':Nat}(h:dK b w vm m)(hb:b<=b'):dK b' w vm m:=by obtain⟨w0,h1,h2,h3⟩:=h;exact⟨w0,by omega,h2,h3⟩
theorem bO.mono{b b':Nat}{v:Value}{xs:List Nat}(h:bO b w v xs)(hb:b<=b'):bO b' w v xs:=by obtain⟨g,cap,c,h1,h2,h3⟩:=h;exact⟨g,cap,c,h1,by omega,h3⟩
theorem E2(h:LR az l vm vloc tb ar vs vf vp w s){v:Value}{st:aX}(hv:ef w v st)(IX:s.ay.length<1000){c:List UInt8}{p:Nat}(MU:MP c p st)(eW:st.aa.ab=4\/st.aa.ab=5->∀i∈st.idx,i<s.ae.length):Calls prog 103 #[.pointer (some ⟨l,0,none⟩),v] w fun e w'=>e=.returned (.tuple #[])/\bc az w w'/\(∀g c ty,ty≠198->ty≠186->Blk w g c ty->Blk w' g c ty)/\iQ az l vm vloc tb ar w' (ci s st):=by
 by_cases h1:st.aa.ab=2\/st.aa.ab=3
 ·have hl:=MU.some (by omega);cases hq:st.idx with
  |nil=>rw[hq]at hl;simp at hl
  |cons i is=>exact AK h hv IX hq h1
 by_cases h2:st.aa.ab=4\/st.aa.ab=5
 ·exact yB h hv IX (eW h2) MU.len h2
 exact CH h hv IX (by omega)
theorem xk{st:aX}(hf:iS ar m ai s st=.ok ())(hb:st.aa.ab=4\/st.aa.ab=5):∀i∈st.idx,i<s.ae.length:=by
 unfold iS at hf;split at hf
 ·rename_i h;intro i hm;have:=List.all_eq_true.1 h i hm;have hc:dI m ai s st.aa.ab=s.ae.length:=by rcases hb with hb|hb <;> simp[dI,hb]
  rw[hc]at this;simpa using this
 cases hf
theorem fR.kept{st:aX}(h:fR m ai s st)(st':aX):fR m ai (ci s st') st:=⟨h.aj,h.of,h.ak,h.opens,h.jumps,h.calls,h.locs⟩
theorem ea.lo0{lo:Nat}{v:Value}{xs:List Nat}(h:ea lo w v xs):ea 0 w v xs:=by
 rcases h with h|⟨g,cap,c,h1,h2,h3⟩
 ·exact .inl h
 exact .inr ⟨g,cap,c,h1,ajl _,h3⟩
def E3(m:bf)(f:ck):Prop:=f.sig<m.sigs.length/\f.ai.length<=8/\(∀t∈f.ai,t<=2)/\f.code.length<=400/\f.ax<=4000
def pD(w:World)(v:Value)(r:bu):Prop:=
 ∃vt vg vp tb cs,v=.agg #[vt,vg,.int .i64 r.ai,vp]/\bO w.heap.size w vt r.aj/\bO w.heap.size w vg r.ak/\w.ownsRow 0 186 8 vp r.ay.length cs/\gV 0 w tb r.ay cs/\oj 0 w tb r.ah
def K7(W3:World)(az l:Nat)(vm vloc:Value)(m:bf)(ai:List Nat)(f:ck)(R:Except Er LSt)(p:Nat)(wr:World):Prop:=
 ∃s tb ar vs vf vp k,LR az l vm vloc tb ar vs vf vp wr s/\bc az W3 wr/\db s/\s.ay.length<=p/\s.af.length<=6*p/\R=cS m ai f k s p/\f.code.length<k+p
end
section
variable {vm:Value}{w:World}{m:bf}
theorem bO.top{b:Nat}{W:World}{v:Value}{xs:List Nat}(h:bO b w v xs)(k:∀g c,Blk w g c 3->Blk W g c 3):bO W.heap.size W v xs:=by obtain⟨g,cap,c,e,_,hb,hc⟩:=h;exact⟨g,cap,c,e,(k _ _ hb).lt,k _ _ hb,hc⟩
theorem lT{lo e size n:Nat}{v:Value}{xs:List Value}(h:w.ownsRow lo e size v n xs):w.ownsRow 0 e size v n xs:=by
 refine⟨h.1,?_⟩;rcases h.2 with h2|⟨g,cap,cur,h1,_,h3⟩
 ·exact .inl h2
 exact .inr ⟨g,cap,cur,h1,ajl _,h3⟩
theorem gV.lo0{lo:Nat}{tb:List Nat}{ss:List PSt}{cs:List Value}(h:gV lo w tb ss cs):gV 0 w tb ss cs:=fun i hi=>by
 obtain⟨v,h1,h2⟩:=h i hi;refine⟨v,h1,?_⟩;rcases h2 with h2|⟨g,cap,c,e,_,h3⟩
 ·exact .inl h2
 exact .inr ⟨g,cap,c,e,ajl _,h3⟩
theorem oj.lo0{lo:Nat}{tb:List Nat}{ts:List (Nat×Nat×Nat)}(h:oj lo w tb ts):oj 0 w tb ts:=⟨h.1,h.2.1,fun i hi=>by obtain⟨b,h1,_,h3⟩:=h.2.2 i hi;exact⟨b,h1,ajl _,h3⟩⟩
theorem yF{B:Nat}(hK:iu B w)(hB:B<=w.heap.size)(hm:dK w.heap.size w vm m)(fQ:fM m){f:ck}(hf:E3 m f){vl:Value}(hl:bO w.heap.size w vl f.ai){g cap:Nat}{cc:Array Value}(Am:Blk w g cc 5)(od:∀j (h:j<f.code.length),cc[j]?=some (.int .u8 (f.code[j]).toNat))(kX:f.code.length<=cap):Calls prog 77 #[vm,.agg #[.int .i64 f.sig,vl,.int .i64 f.ax,.slice (some ⟨g,0,none⟩) f.code.length cap]] w fun e w'=>w.grownBy w' none/\fh (cz m f) (fun r e w'=>∃v,e=.returned v/\pD w' v r) e w':=by
 obtain⟨b,gs,gf,cs,cf,rfl,iW,df,kv,m0,m1,qa,oJ,Ag,D7⟩:=hm.parts;obtain⟨ok1,ok2,ok3,ok4⟩:=fQ;obtain⟨f1,f2,f3,f4,f5⟩:=hf;obtain⟨vt,vg,y0,y1,it,ig⟩:=Ag f.sig f1;obtain⟨at1,nt1,ct1,rfl⟩:=it.isSlice;obtain⟨at2,nt2,ct2,rfl⟩:=ig.isSlice;obtain⟨al,nl,cl,rfl⟩:=hl.isSlice;have MV:=ok4 m.sigs[f.sig] (ajw f1);obtain⟨sg,iD⟩:=aja (m.sigs[f.sig]);rw[iD]at it ig MV;have hT:Hid (cz m f=bnd (cS m (sg.1++f.ai) f (f.code.length+1) (dg {af:=[],ae:=[],ay:=[],ah:=[]} 2 sg) 0) fun s=>.ok {aj:=sg.1,ak:=sg.2,ai:=sg.1.length+f.ai.length,ay:=s.ay,ah:=s.ah}):=by show _=_;simp only[cz,gEg f1,iD]
 have k1:w.cell? ⟨gs,f.sig*2,none⟩=some (.slice at1 nt1 ct1):=by rw[qa.cell,ajC];exact y0
 have k2:w.cell? ⟨gs,f.sig*2+1,none⟩=some (.slice at2 nt2 ct2):=by rw[qa.cell,ajC];exact y1
 have i2:(f.sig:Int)<(m.sigs.length:Int):=by omega
 have i4:(m.sigs.length:Int)<=20:=by omega
 have dU:=qa.lt;have iB:=Am.lt;have yr:b<w.heap.size:=iW;have ZE:b<w.heap.size+1+1:=by omega
 have ZF:gs<w.heap.size+1+1:=by omega
 clear iD y0 y1 Ag D7 qa oJ m1;go_enter func77,ntmps77;go_wp2_with fail;go_region
 go_wp2_with fail;have aP:w.grownBy ((((w.alloc (.cells #[.int .i64 f.sig,.slice al nl cl,.int .i64 f.ax,.slice (some ⟨g,0,none⟩) f.code.length cap] 168)).alloc (.cells #[.slice none 0 0,.slice none 0 0,.int .i64 0,.slice none 0 0] 110)).alloc (.cells #[.slice at1 nt1 ct1,.slice at2 nt2 ct2] 107)).alloc (.cells #[.slice at1 nt1 ct1,.slice al nl cl] 44)).drew none:=aE (aB (aB (aB (aC _ _ _) (aC _ _ _)) (aC _ _ _)) (aC _ _ _));have q0:Blk ((((w.alloc (.cells #[.int .i64 f.sig,.slice al nl cl,.int .i64 f.ax,.slice (some ⟨g,0,none⟩) f.code.length cap] 168)).alloc (.cells #[.slice none 0 0,.slice none 0 0,.int .i64 0,.slice none 0 0] 110)).alloc (.cells #[.slice at1 nt1 ct1,.slice at2 nt2 ct2] 107)).alloc (.cells #[.slice at1 nt1 ct1,.slice al nl cl] 44)).drew w.heap.size #[.int .i64 f.sig,.slice al nl cl,.int .i64 f.ax,.slice (some ⟨g,0,none⟩) f.code.length cap] 168:=((((Blk.new w _ _).alloc _).alloc _).alloc _).drew;have q1:Blk ((((w.alloc (.cells #[.int .i64 f.sig,.slice al nl cl,.int .i64 f.ax,.slice (some ⟨g,0,none⟩) f.code.length cap] 168)).alloc (.cells #[.slice none 0 0,.slice none 0 0,.int .i64 0,.slice none 0 0] 110)).alloc (.cells #[.slice at1 nt1 ct1,.slice at2 nt2 ct2] 107)).alloc (.cells #[.slice at1 nt1 ct1,.slice al nl cl] 44)).drew (w.heap.size+1) #[.slice none 0 0,.slice none 0 0,.int .i64 0,.slice none 0 0] 110:=by have:=Blk.new (w.alloc (.cells #[.int .i64 f.sig,.slice al nl cl,.int .i64 f.ax,.slice (some ⟨g,0,none⟩) f.code.length cap] 168)) #[.slice none 0 0,.slice none 0 0,.int .i64 0,.slice none 0 0] 110;rw[ajz]at this;exact((this.alloc _).alloc _).drew
 have q2:Blk ((((w.alloc (.cells #[.int .i64 f.sig,.slice al nl cl,.int .i64 f.ax,.slice (some ⟨g,0,none⟩) f.code.length cap] 168)).alloc (.cells #[.slice none 0 0,.slice none 0 0,.int .i64 0,.slice none 0 0] 110)).alloc (.cells #[.slice at1 nt1 ct1,.slice at2 nt2 ct2] 107)).alloc (.cells #[.slice at1 nt1 ct1,.slice al nl cl] 44)).drew (w.heap.size+1+1) #[.slice at1 nt1 ct1,.slice at2 nt2 ct2] 107:=by have:=Blk.new ((w.alloc (.cells #[.int .i64 f.sig,.slice al nl cl,.int .i64 f.ax,.slice (some ⟨g,0,none⟩) f.code.length cap] 168)).alloc (.cells #[.slice none 0 0,.slice none 0 0,.int .i64 0,.slice none 0 0] 110)) #[.slice at1 nt1 ct1,.slice at2 nt2 ct2] 107;rw[ajz,ajz]at this;exact(this.alloc _).drew
 have q3:Blk ((((w.alloc (.cells #[.int .i64 f.sig,.slice al nl cl,.int .i64 f.ax,.slice (some ⟨g,0,none⟩) f.code.length cap] 168)).alloc (.cells #[.slice none 0 0,.slice none 0 0,.int .i64 0,.slice none 0 0] 110)).alloc (.cells #[.slice at1 nt1 ct1,.slice at2 nt2 ct2] 107)).alloc (.cells #[.slice at1 nt1 ct1,.slice al nl cl] 44)).drew (w.heap.size+1+1+1) #[.slice at1 nt1 ct1,.slice al nl cl] 44:=by have:=Blk.new (((w.alloc (.cells #[.int .i64 f.sig,.slice al nl cl,.int .i64 f.ax,.slice (some ⟨g,0,none⟩) f.code.length cap] 168)).alloc (.cells #[.slice none 0 0,.slice none 0 0,.int .i64 0,.slice none 0 0] 110)).alloc (.cells #[.slice at1 nt1 ct1,.slice at2 nt2 ct2] 107)) #[.slice at1 nt1 ct1,.slice al nl cl] 44;rw[ajz,ajz,ajz]at this;exact this.drew
 have xa:((((w.alloc (.cells #[.int .i64 f.sig,.slice al nl cl,.int .i64 f.ax,.slice (some ⟨g,0,none⟩) f.code.length cap] 168)).alloc (.cells #[.slice none 0 0,.slice none 0 0,.int .i64 0,.slice none 0 0] 110)).alloc (.cells #[.slice at1 nt1 ct1,.slice at2 nt2 ct2] 107)).alloc (.cells #[.slice at1 nt1 ct1,.slice al nl cl] 44)).drew.heap.size=w.heap.size+1+1+1+1:=by simp
 obtain⟨w2,PA⟩:=aja (((((w.alloc (.cells #[.int .i64 f.sig,.slice al nl cl,.int .i64 f.ax,.slice (some ⟨g,0,none⟩) f.code.length cap] 168)).alloc (.cells #[.slice none 0 0,.slice none 0 0,.int .i64 0,.slice none 0 0] 110)).alloc (.cells #[.slice at1 nt1 ct1,.slice at2 nt2 ct2] 107)).alloc (.cells #[.slice at1 nt1 ct1,.slice al nl cl] 44)).drew);rw[PA]at aP q0 q1 q2 q3 xa ⊢;clear PA k1 k2 m0;have kk:Below w.heap.size w w2:=(bc.none aP (nLr _)).below;refine(AM (it.kept kk) (hl.kept kk) aP.size (by omega) (by omega) q3).mono ?_;rintro e w3 ⟨vloc,rfl,co,Ie⟩;obtain⟨av,cv,rfl,_,_⟩:=aG Ie;have xl:=aB aP co;have AP:w.heap.size+1+1+1+1<=w3.heap.size:=by have:=co.size;omega
 have dv:=aC w3 (.cells #[.pointer (some ⟨b,0,none⟩),(.slice av (sg.1.length+f.ai.length) cv),.slice none 0 0,.slice none 0 0,.slice none 0 0,.int .i64 0] 198) none;have MW:=aB xl dv;have LS:=LR.ax w3.heap.size (Blk.new w3 #[.pointer (some ⟨b,0,none⟩),(.slice av (sg.1.length+f.ai.length) cv),.slice none 0 0,.slice none 0 0,.slice none 0 0,.int .i64 0] 198);have PB:dG w3.heap.size w3 (.slice av (sg.1.length+f.ai.length) cv) (sg.1++f.ai):=by
  rcases Ie.2 with⟨e1,e2⟩|⟨g',cap',cur,e1,e2,e3,e4,e5,e6,e7⟩
  ·refine .inl ⟨e1,?_⟩;rw[List.append_eq_nil_iff];exact⟨List.length_eq_zero_iff.1 (by omega),List.length_eq_zero_iff.1 (by omega)⟩
  refine .inr ⟨g',cap',cur,by cases e1;simp,(show Blk w3 g' cur 3 from e3).lt,e3,fun i hi=>?_⟩
  have jB:i<(sg.1.length+f.ai.length)*1:=by simp at hi;omega
  have h7:((sg.1++f.ai).map fun t:Nat=>Value.int .i64 (t:Int))[i]?=some (.int .i64 (sg.1++f.ai)[i]):=by rw[List.getElem?_map,gEg hi];rfl
  rw[<-e7,ajI jB]at h7;simpa using h7
 have MX:Below w.heap.size w (w3.alloc (.cells #[.pointer (some ⟨b,0,none⟩),(.slice av (sg.1.length+f.ai.length) cv),.slice none 0 0,.slice none 0 0,.slice none 0 0,.int .i64 0] 198)):=(bc.none MW (nLr _)).below;have it4:=(it.kept MX).mono (show w.heap.size<=w3.heap.size by omega);have ig4:=(ig.kept MX).mono (show w.heap.size<=w3.heap.size by omega);have Xk:=pz LS it4 ig4 2 (by omega) (by simp) (by omega) (by omega);have x2:=(q2.grown co (by simp)).alloc (.cells #[.pointer (some ⟨b,0,none⟩),(.slice av (sg.1.length+f.ai.length) cv),.slice none 0 0,.slice none 0 0,.slice none 0 0,.int .i64 0] 198);have z20:=x2.cell 0;have z21:=x2.cell 1;simp at z20 z21;have ZG:w.heap.size+1+1<w3.heap.size:=by omega
 go_wp2_with fail;refine Xk.mono ?_;rintro e w5 ⟨rfl,W5,_,tb0,vs5,vf5,vp5,L5⟩;obtain⟨R,hR⟩:∃R,cS m (sg.1++f.ai) f (f.code.length+1) (dg {af:=[],ae:=[],ay:=[],ah:=[]} 2 sg) 0=R:=⟨_,rfl⟩;rw[hR]at hT;have K8:K7 w5 w3.heap.size w3.heap.size (.pointer (some ⟨b,0,none⟩)) (.slice av (sg.1.length+f.ai.length) cv) m (sg.1++f.ai) f R 0 w5:=
  ⟨_,_,_,_,_,_,_,L5,bc.refl _ _,db.ax sg MV,by simp[dg],by simp[dg],hR.symm,by omega⟩
 have FACT:Hid (∀W:World,bc w3.heap.size w5 W->w.grownBy W none/\Blk W w.heap.size #[.int .i64 f.sig,.slice al nl cl,.int .i64 f.ax,.slice (some ⟨g,0,none⟩) f.code.length cap] 168/\Blk W (w.heap.size+1) #[.slice none 0 0,.slice none 0 0,.int .i64 0,.slice none 0 0] 110/\Blk W (w.heap.size+1+1) #[.slice at1 nt1 ct1,.slice at2 nt2 ct2] 107 /\
   dK w3.heap.size W (.pointer (some ⟨b,0,none⟩)) m/\dG w3.heap.size W (.slice av (sg.1.length+f.ai.length) cv) (sg.1++f.ai)/\iu B W/\(∀i (h:i<f.code.length),W.cell? ⟨g,0+i,none⟩=some (.int .u8 (f.code[i]).toNat))/\bO w3.heap.size W (.slice at1 nt1 ct1) sg.1/\bO w3.heap.size W (.slice at2 nt2 ct2) sg.2):=by
  intro W hW;have k45:=W5.below.trans hW.below;have gW:=mR MW k45 (by omega);have bW:Below w.heap.size w W:=(bc.none gW (nLr _)).below;have k3:Below w3.heap.size w3 W:=(bc.none dv (nLr _)).below.trans k45;refine⟨gW,?_,?_,?_,(hm.kept bW).mono (by omega),PB.kept k3,hK.kept (bW.mono hB),fun i hi=>?_,it4.kept k45,ig4.kept k45⟩
  ·exact(k3.block _ (by omega)).trans (q0.grown co (by simp))
  ·exact(k3.block _ (by omega)).trans (q1.grown co (by simp))
  ·exact(k3.block _ (by omega)).trans (q2.grown co (by simp))
  rw[ajx,(Am.grown gW (by simp)).cell i];exact od i hi
 have ED:w3.heap.size<w5.heap.size:=L5.blk.lt;have CL:(f.ax:Int)<=4000:=by omega
 have Jl:(f.code.length:Int)<=400:=by omega
 have mO:(sg.1++f.ai).length<=1000:=by simp;omega
 have jD:∀t∈sg.1++f.ai,t<=2:=fun t ht=>by
  rcases List.mem_append.1 ht with h|h
  ·exact MV.2.2.1 t h
  exact f3 t h
 have OD:Hid (fM m):=⟨ok1,ok2,ok3,ok4⟩;clear hR L5 LS PB W5 Xk x2 z20 z21 it4 ig4 MX MW dv Ie xl q0 q1 q2 q3 kk Am od hK hm hl it ig ok1 ok2 ok3 ok4 aP co;go_wp2_with fail;go_loopw [7] (fun i wr=>∃p:Nat,i=.int .i64 p/\p<=f.code.length/\K7 w5 w3.heap.size w3.heap.size (.pointer (some ⟨b,0,none⟩)) (.slice av (sg.1.length+f.ai.length) cv) m (sg.1++f.ai) f R p wr) (fun i _=>f.code.length-(intOf i).toNat)
 case atStart=>exact⟨0,rfl,ajl _,K8⟩
 case round=>
  obtain⟨p,rfl,jF,s,tb,ar,vs,vf,vp,k,L,W0,inv,mE,Ag,Sg,hkp⟩:=hrel;clear K8;obtain⟨gW,r0,r1,r2,_⟩:=FACT.out wr W0;have z00:=r0.cell 0;have z01:=r0.cell 1;have z02:=r0.cell 2;have z03:=r0.cell 3;have c5:=L.blk.cell 5;have f5':=L.blk.frozen 5;simp at z00 z01 z02 z03 c5;obtain⟨k',rfl⟩:∃k',k=k'+1:=⟨k-1,by omega⟩;have hp4:(p:Int)<=400:=by omega
  obtain⟨cf,ie,hZ⟩:=L.frm;obtain⟨fa,fcap,rfl,_,_⟩:=aG ie;by_cases TI:p<f.code.length
  ·have E4:R=bnd (dr m (sg.1++f.ai) f s p) fun r=>cS m (sg.1++f.ai) f k' r.1 r.2:=by rw[Sg];simp only[cS,ajd TI]
   have PC:Hid _:=E4;have ZH:(p:Int)<(f.code.length:Int):=by omega
   obtain⟨LP,WP⟩:=L.placed (f.ax+p) ((f.ax:Int)+(p:Int)) (by simp);have c3:=LP.blk.cell 3;simp at c3;have Ai:=L.nf;clear Sg E4;by_cases Ee:s.ae.length=0
   ·have hz:((s.ae.length:Int)==0)=true:=by rw[Ee];rfl
    have hr:Hid (cz m f=.error (5,f.ax+p)):=by show _=_;rw[hT.out,PC.out];simp[dr,Ee]
    have HFZ:Hid _:=Ee;clear Ee;go_wp2_with (go_at_call 100;refine(ed LP 5).mono ?_;rintro e w6 ⟨rfl,rfl⟩)
    exact⟨rfl,(FACT.out _ (W0.trans WP)).1,aK hr.out rfl⟩
   have hz:((s.ae.length:Int)==0)=false:=beq_eq_false_iff_ne.2 (by omega);have IT:Hid _:=Ee;clear Ee;obtain⟨gP,_,_,_,_,_,Xl,Xm,_,_⟩:=FACT.out _ (W0.trans WP);have Xn:=gP.size;have dz:Hid (R=bnd (match bJ f.code p with|none=>.error (3,f.ax+p)|some st=>bnd (iS (f.ax+p) m (sg.1++f.ai) s st) fun _=>bnd (doS (f.ax+p) m (sg.1++f.ai) (ci s st) st) fun s1=>.ok (s1,st.next)) fun r=>cS m (sg.1++f.ai) f k' r.1 r.2):=by show _=_;rw[PC.out];simp only[dr,ajc IT.out];rfl
   have TJ:=CK (sig:=f.sig) (al:=al) (nl:=nl) (cl:=cl) (ax:=f.ax) (p:=p) Xl (ajE hB Xn) Xm (ajA iB Xn) (by omega) kX (by omega) (by omega);go_wp2_with fail;refine TJ.mono ?_;rintro e w6 ⟨oM,BT⟩;cases hx:bJ f.code p with
   |none=>
    cases BT.err (er:=(3,f.ax+p)) (by rw[hx];rfl);have hr:Hid (cz m f=.error (3,f.ax+p)):=by show _=_;rw[hT.out,dz.out,hx];rfl
    clear BT TJ;go_wp2_with fail;exact⟨rfl,aB gP oM,aK hr.out rfl⟩
   |some st=>
    obtain⟨v6,rfl,Xo⟩:=BT.ok (a:=st) (by rw[hx];rfl);obtain⟨aa6,n6,c6,rfl⟩:=Xo.isSlice;have MU:=yD hx;have rI:=aB oM (aC w6 (.cells #[.int .i64 st.aa.au,.int .i64 st.aa.ab,.int .i64 st.aa.aj,.int .i64 st.aa.of,.int .i64 st.aa.ak,.slice aa6 n6 c6,.int .i64 st.num,.int .i64 st.next] 202) none);have L7:=LP.kept rI;have W7:=(W0.trans WP).trans (bc.none rI LP.base_le);obtain⟨gw7,_,_,_,An,TM,_⟩:=FACT.out _ W7;have Xp:ef (w6.alloc (.cells #[.int .i64 st.aa.au,.int .i64 st.aa.ab,.int .i64 st.aa.aj,.int .i64 st.aa.of,.int .i64 st.aa.ak,.slice aa6 n6 c6,.int .i64 st.num,.int .i64 st.next] 202)) (.agg #[.int .i64 st.aa.au,.int .i64 st.aa.ab,.int .i64 st.aa.aj,.int .i64 st.aa.of,.int .i64 st.aa.ak,.slice aa6 n6 c6,.int .i64 st.num,.int .i64 st.next]) st:=⟨aa6,n6,c6,rfl,Xo.lo0.keptB fun g c hb=>hb.alloc _⟩;have bx7:Blk (w6.alloc (.cells #[.int .i64 st.aa.au,.int .i64 st.aa.ab,.int .i64 st.aa.aj,.int .i64 st.aa.of,.int .i64 st.aa.ak,.slice aa6 n6 c6,.int .i64 st.num,.int .i64 st.next] 202)) w6.heap.size #[.int .i64 st.aa.au,.int .i64 st.aa.ab,.int .i64 st.aa.aj,.int .i64 st.aa.of,.int .i64 st.aa.ak,.slice aa6 n6 c6,.int .i64 st.num,.int .i64 st.next] 202:=Blk.new _ _ _;have ET:dI m (sg.1++f.ai) s st.aa.ab<=1000:=by
     have h1:=OD.out.1;have h2:=OD.out.2.1;unfold dI;split
     ·omega
     split
     ·omega
     split
     ·exact mO
     omega
    have TN:=I9 L7 An TM Xp MU.aa.2.2.2.1 MU.len MU.low ET;have HX:Hid _:=hx;have OE:Hid _:=MU;clear hx BT TJ Xm Xl ET;go_wp2_with fail;refine TN.mono ?_;rintro e w8 ⟨mS,Jm⟩;have L8:=L7.kept mS;have W8:=W7.trans (bc.none mS L7.base_le);cases hy:iS (f.ax+p) m (sg.1++f.ai) s st with
    |error er=>
     cases Jm.err hy;have hr:Hid (cz m f=.error er):=by show _=_;rw[hT.out,dz.out,HX.out];simp only[hy];rfl
     clear Jm TN;go_wp2_with fail;exact⟨rfl,aB gw7 mS,aK hr.out rfl⟩
    |ok u=>
     cases Jm.ok hy;have Xq:=Xp.keptB (w':=w8) fun g c hb=>hb.grown mS (by simp);have bx8:=bx7.grown mS (by simp);have a0:=bx8.cell 0;have a1:=bx8.cell 1;have a2:=bx8.cell 2;have a3:=bx8.cell 3;have a4:=bx8.cell 4;have a5:=bx8.cell 5;have a6:=bx8.cell 6;have a7:=bx8.cell 7;simp at a0 a1 a2 a3 a4 a5 a6 a7;have ZI:=E2 L8 Xq (by omega) OE.out (xk hy);have Aj:0<s.ae.length:=Nat.pos_of_ne_zero IT.out;have WZ:=(E0 OE.out hy Aj).kept st;have HY:Hid _:=hy;clear hy Jm TN;go_wp2_with fail;refine ZI.mono ?_;rintro e w9 ⟨rfl,W9,Ef,vs9,vf9,vp9,L9⟩;have bx9:=Ef _ _ _ (by decide) (by decide) bx8;have ZJ:=Xq.keptB (w':=w9) fun g c hb=>Ef g c 3 (by decide) (by decide) hb;have T9:=W8.trans W9;obtain⟨gw9,_,_,_,Il,TO,_⟩:=FACT.out _ T9;have d0:=bx9.cell 0;have d1:=bx9.cell 1;have d2:=bx9.cell 2;have d3:=bx9.cell 3;have d4:=bx9.cell 4;have d5:=bx9.cell 5;have d6:=bx9.cell 6;have d7:=bx9.cell 7;simp at d0 d1 d2 d3 d4 d5 d6 d7;have ur:(ci s st).ay.length=s.ay.length+1:=by simp[ci]
     have TP:=MM L9 Il OD.out TO mO jD ZJ (inv.keep st) Aj (by omega) (by show s.af.length<=80000;omega) WZ;go_wp2_with fail;refine TP.mono ?_;rintro e w10 ⟨W10,Jn⟩;cases hd:doS (f.ax+p) m (sg.1++f.ai) (ci s st) st with
     |error er=>
      cases Jn.err hd;have hr:Hid (cz m f=.error er):=by show _=_;rw[hT.out,dz.out,HX.out];simp only[HY.out,hd,aM];rfl
      clear Jn TP;go_wp2_with fail;exact⟨rfl,(FACT.out _ (T9.trans W10)).1,aK hr.out rfl⟩
     |ok r=>
      obtain⟨rfl,tb10,vs10,vf10,vp10,L10⟩:=Jn.ok hd;obtain⟨j1,j2,j3⟩:=Ji (inv.keep st) OD.out jD OE.out.aa.2.2.1 OE.out.aa.2.2.2.2.1 (by omega) Aj hd;have bx10:=W10.boxes _ _ _ (by decide) bx9;have b7:=bx10.cell 7;simp at b7;have ph:Hid (R=cS m (sg.1++f.ai) f k' r st.next):=by show _=_;rw[dz.out,HX.out];simp only[HY.out,hd,aM]
      have hj3:r.af.length<=s.af.length+6:=j3;have n1:=OE.out.next;have n2:=OE.out.last;clear Jn TP hd;go_wp2_with fail;go_roundw
      case rel=>exact⟨st.next,rfl,n2,r,tb10,_,_,_,_,k',L10,T9.trans W10,j1,by omega,by omega,ph.out,by omega⟩
      case measure=>simp[intOf];omega
  have TQ:p=f.code.length:=by omega
  have ZH:¬(p:Int)<(f.code.length:Int):=by omega
  have E4:R=if 0<s.ae.length then .error (5,f.ax+f.code.length) else .ok s:=by rw[Sg];simp only[cS,ajc TI]
  have PC:Hid _:=E4;obtain⟨LP,WP⟩:=L.placed (f.ax+f.code.length) ((f.ax:Int)+(f.code.length:Int)) (by simp);have Ai:=L.nf;obtain⟨gP,s0,s1,s2,_,_,_,_,it9,ig9⟩:=FACT.out _ (W0.trans WP);obtain⟨cp,ir,qj⟩:=LP.stp;obtain⟨pa,pcap,rfl,_,_⟩:=aG ir;have c1:=LP.blk.cell 1;have c3:=LP.blk.cell 3;have c4:=LP.blk.cell 4;have y20:=s2.cell 0;have y21:=s2.cell 1;have y10:=s1.cell 0;have y11:=s1.cell 1;have y12:=s1.cell 2;have y13:=s1.cell 3;have x10:=s1.frozen 0;have x11:=s1.frozen 1;have x12:=s1.frozen 2;have x13:=s1.frozen 3;simp at c1 c3 c4 y20 y21 y10 y11 y12 y13;clear Sg E4 TI TQ;by_cases Ee:0<s.ae.length
  ·have TR:(0:Int)<(s.ae.length:Int):=by omega
   have hr:Hid (cz m f=.error (5,f.ax+f.code.length)):=by show _=_;rw[hT.out,PC.out,ajd Ee];rfl
   clear Ee;go_wp2_with (go_at_call 100;refine(ed LP 5).mono ?_;rintro e w6 ⟨rfl,rfl⟩)
   exact⟨rfl,gP,aK hr.out rfl⟩
  have TR:¬(0:Int)<(s.ae.length:Int):=by omega
  have hr:Hid (cz m f=.ok {aj:=sg.1,ak:=sg.2,ai:=sg.1.length+f.ai.length,ay:=s.ay,ah:=s.ah}):=by show _=_;rw[hT.out,PC.out,ajc Ee];rfl
  clear Ee;go_wp2_with fail;go_region
  go_wp2_with fail;have gF:(wr.setCell ⟨w3.heap.size,5,none⟩ (.int .i64 ((f.ax:Int)+(f.code.length:Int)))).grownBy ((((((wr.setCell ⟨w3.heap.size,5,none⟩ (.int .i64 ((f.ax:Int)+(f.code.length:Int))))).setCell ⟨w.heap.size+1,0,none⟩ (.slice at1 nt1 ct1)).setCell ⟨w.heap.size+1,1,none⟩ (.slice at2 nt2 ct2)).setCell ⟨w.heap.size+1,2,none⟩ (.int .i64 ((sg.1.length:Int)+(f.ai.length:Int)))).setCell ⟨w.heap.size+1,3,none⟩ (.slice pa s.ay.length pcap)).drew (some (w.heap.size+1)):=aE (aB (aB (aB (aD _ _ _ _) (aD _ _ _ _)) (aD _ _ _ _)) (aD _ _ _ _));have bF:Blk ((((((wr.setCell ⟨w3.heap.size,5,none⟩ (.int .i64 ((f.ax:Int)+(f.code.length:Int))))).setCell ⟨w.heap.size+1,0,none⟩ (.slice at1 nt1 ct1)).setCell ⟨w.heap.size+1,1,none⟩ (.slice at2 nt2 ct2)).setCell ⟨w.heap.size+1,2,none⟩ (.int .i64 ((sg.1.length:Int)+(f.ai.length:Int)))).setCell ⟨w.heap.size+1,3,none⟩ (.slice pa s.ay.length pcap)).drew (w.heap.size+1) #[.slice at1 nt1 ct1,.slice at2 nt2 ct2,.int .i64 ((sg.1.length:Int)+(f.ai.length:Int)),.slice pa s.ay.length pcap] 110:=by have:=(((s1.set 0 (.slice at1 nt1 ct1)).set 1 (.slice at2 nt2 ct2)).set 2 (.int .i64 ((sg.1.length:Int)+(f.ai.length:Int)))).set 3 (.slice pa s.ay.length pcap);simp at this;exact this.drew
  obtain⟨WF,E5⟩:=aja (((((((wr.setCell ⟨w3.heap.size,5,none⟩ (.int .i64 ((f.ax:Int)+(f.code.length:Int))))).setCell ⟨w.heap.size+1,0,none⟩ (.slice at1 nt1 ct1)).setCell ⟨w.heap.size+1,1,none⟩ (.slice at2 nt2 ct2)).setCell ⟨w.heap.size+1,2,none⟩ (.int .i64 ((sg.1.length:Int)+(f.ai.length:Int)))).setCell ⟨w.heap.size+1,3,none⟩ (.slice pa s.ay.length pcap)).drew);rw[E5]at gF bF ⊢;have KP:∀g c t,t≠110->Blk (wr.setCell ⟨w3.heap.size,5,none⟩ (.int .i64 ((f.ax:Int)+(f.code.length:Int)))) g c t->Blk WF g c t:=fun g c t ht hb=>aF gF s1 hb ht;have ZK:w.grownBy WF none:=aO gP (Nat.le_succ _) gF;have K9:pD WF (.agg #[.slice at1 nt1 ct1,.slice at2 nt2 ct2,.int .i64 ((sg.1.length:Int)+(f.ai.length:Int)),.slice pa s.ay.length pcap]) {aj:=sg.1,ak:=sg.2,ai:=sg.1.length+f.ai.length,ay:=s.ay,ah:=s.ah}:=by refine⟨_,_,_,tb,cp,by simp,it9.top fun g c hb=>KP g c 3 (by decide) hb,ig9.top fun g c hb=>KP g c 3 (by decide) hb,lT (aJ ir fun g c hb=>KP g c 186 (by decide) hb),(qj.kept fun g c hb=>KP g c 215 (by decide) hb).lo0,(LP.tgt.kept fun g c hb=>KP g c 220 (by decide) hb).lo0⟩
  have t0:=bF.cell 0;have t1:=bF.cell 1;have t2:=bF.cell 2;have t3:=bF.cell 3;simp at t0 t1 t2 t3;clear E5 KP gF bF;exact bodyPost_ret (v:=.agg #[.slice at1 nt1 ct1,.slice at2 nt2 ct2,.int .i64 ((sg.1.length:Int)+(f.ai.length:Int)),.slice pa s.ay.length pcap])
   (by simp[results,results77,go_sem,t0,t1,t2,t3]) rfl ⟨ZK,aY hr.out ⟨_,rfl,K9⟩⟩
end
