import Derived.Test.YtjbdgbdcnjopkaaGreatDoorS19
namespace Go.Proofs.YtjbdgbdcnjopkaaGreatDoor
open Go.RowKit Tryz
set_option linter.all false
set_option maxRecDepth 100000
set_option maxHeartbeats 4000000
def mp(w:World)(v:Value)(ts:List Tg)(idx:List Nat):Prop:=
 (v=.slice none 0 0/\idx=[])\/∃g cap c,v=.slice (some ⟨g,0,none⟩) idx.length cap/\Blk w g c 215/\∀i (h:i<idx.length),∃b t,ts[idx[i]]?=some t/\c[i]?=some (.pointer (some ⟨b,0,none⟩))/\E8 w b t
theorem mp.of{w:World}{tb:List Nat}{v:Value}{ts:List Tg}{idx:List Nat}(h:jC 0 w tb v idx)(k:oj 0 w tb ts):mp w v ts idx:=by
 rcases h with⟨h1,h2⟩|⟨g,cap,c,h1,_,h3,h4⟩
 ·exact .inl ⟨h1,h2⟩
 refine .inr ⟨g,cap,c,h1,h3,fun i hi=>?_⟩;obtain⟨b,hb,hc⟩:=h4 i hi;have bM:idx[i] < ts.length:=by have:=(gEs.1 hb).1;rw[k.1]at this;exact this
 obtain⟨b',mn,_,hB⟩:=k.2.2 idx[i] bM;rw[hb]at mn;cases mn;exact⟨b,ts[idx[i]],gEg bM,hc,hB⟩
theorem mp.slice{w:World}{v:Value}{ts:List Tg}{idx:List Nat}(h:mp w v ts idx):∃a cap,v=.slice a idx.length cap:=by
 rcases h with⟨h1,h2⟩|⟨g,cap,c,h1,_⟩
 ·exact⟨none,0,by rw[h1,h2];rfl⟩
 exact⟨_,cap,h1⟩
abbrev pE(st:PSt)(v:Value):Value:=.agg #[.int .i64 st.aa.au,.int .i64 st.aa.ab,.int .i64 st.aa.aj,.int .i64 st.aa.of,.int .i64 st.aa.ak,.int .i64 st.index,.int .i64 st.num,v]
def yJ(fs:List bu):Prop:=fs.length<=100/\∀f∈fs,f.aj.length<=100/\f.ak.length<=100/\f.ai<=100/\f.ay.length<=1000/\∀st∈f.ay,st.ah.length<=1000
structure FR(w0:World)(gF:Nat)(fs:List bu)(w:World):Prop where
 at0:dM w0 (.slice (some ⟨gF,0,none⟩) fs.length fs.length) fs
 below:Below w0.heap.size w0 w
 ok:yJ fs
theorem iY{w0 w:World}{g t:Nat}{c:Array Value}(h:Below w0.heap.size w0 w)(hb:Blk w0 g c t):Blk w g c t:=(h.block g hb.lt).trans hb
def CN(w:World)(b:Nat)(v0 v1 v2 v3 v4 v5 v6 v7:Value):World:=
 ((((((((w.setCell ⟨b,0,none⟩ v0).setCell ⟨b,1,none⟩ v1).setCell ⟨b,2,none⟩ v2).setCell ⟨b,3,none⟩ v3).setCell ⟨b,4,none⟩ v4).setCell ⟨b,5,none⟩ v5).setCell ⟨b,6,none⟩ v6).setCell ⟨b,7,none⟩ v7)
theorem AS(w:World)(b:Nat)(v0 v1 v2 v3 v4 v5 v6 v7:Value):w.grownBy (CN w b v0 v1 v2 v3 v4 v5 v6 v7) (some b):=aB (aB (aB (aB (aB (aB (aB (aD _ _ _ _) (aD _ _ _ _)) (aD _ _ _ _)) (aD _ _ _ _)) (aD _ _ _ _)) (aD _ _ _ _)) (aD _ _ _ _)) (aD _ _ _ _)
theorem Fa{w:World}{b t:Nat}{u0 u1 u2 u3 u4 u5 u6 u7:Value}(h:Blk w b #[u0,u1,u2,u3,u4,u5,u6,u7] t)(v0 v1 v2 v3 v4 v5 v6 v7:Value):Blk (CN w b v0 v1 v2 v3 v4 v5 v6 v7) b #[v0,v1,v2,v3,v4,v5,v6,v7] t:=by have:=(((((((h.set 0 v0).set 1 v1).set 2 v2).set 3 v3).set 4 v4).set 5 v5).set 6 v6).set 7 v7;simp at this;exact this
section
variable {w0:World}{gF cb:Nat}{vl vs vs' vs1 vs2:Value}{w w' w1 w2:World}{c:bS}{fs:List bu}{f:bu}
theorem FR.mono(h:FR w0 gF fs w)(k:Below w0.heap.size w w'):FR w0 gF fs w':=⟨h.at0,h.below.trans k,h.ok⟩
structure PJ(w0 w:World)(gF i:Nat)(f:bu)(vt vg:Value)(ap:Option Addr)(cp:Nat):Prop where
 c0:w.cell? ⟨gF,i*4,none⟩=some vt
 c1:w.cell? ⟨gF,i*4+1,none⟩=some vg
 c2:w.cell? ⟨gF,i*4+2,none⟩=some (.int .i64 f.ai)
 c3:w.cell? ⟨gF,i*4+3,none⟩=some (.slice ap f.ay.length cp)
 lt:gF<w0.heap.size
 size:w0.heap.size<=w.heap.size
 ay:∀j st,f.ay[j]?=some st->∃g v,ap=some ⟨g,0,none⟩/\g<w0.heap.size/\(∀q,q<8->w.cell? ⟨g,j*8+q,none⟩=(wV st v)[q]?)/\mp w0 v f.ah st.ah
theorem FR.read(h:FR w0 gF fs w){i:Nat}(hi:fs[i]?=some f):∃at1 ct1 at2 ct2 ap cp,PJ w0 w gF i f (.slice at1 f.aj.length ct1) (.slice at2 f.ak.length ct2) ap cp:=by
 obtain⟨g,cF,e,hb,ou⟩:=h.at0;cases e;obtain⟨bM,rfl⟩:=gEs.1 hi;obtain⟨v0,v1,v2,v3,y0,y1,y2,y3,vt,vg,vp,tb,cs,e,ht,hg,ho,M2,Sl⟩:=ou i bM;cases e;obtain⟨g1,k1,q1,rfl,_⟩:=ht;obtain⟨g2,k2,q2,rfl,_⟩:=hg;obtain⟨ap,cp,rfl,_,_⟩:=aG ho;have yr:=iY h.below hb;refine⟨some ⟨g1,0,none⟩,k1,some ⟨g2,0,none⟩,k2,ap,cp,⟨?_,?_,?_,?_,hb.lt,h.below.size,?_⟩⟩
 ·rw[yr.cell,ajC];exact y0
 ·rw[yr.cell,ajC];exact y1
 ·rw[yr.cell,ajC];exact y2
 ·rw[yr.cell,ajC];exact y3
 intro j st hj;obtain⟨qc,rfl⟩:=gEs.1 hj;obtain⟨v,he,hp⟩:=M2 j qc;obtain⟨gs,cap,e2⟩:=cu ho (by omega);cases e2;obtain⟨cg,BS,_⟩:=dF ho;have Sm:=iY h.below BS;refine⟨gs,v,rfl,BS.lt,fun q hq=>?_,mp.of hp Sl⟩;have:=bK ho (j:=j*8+q) (by omega);rw[Sm.cell,<-BS.cell,this.1,he q hq]
theorem lB(hF:FR w0 gF fs w)(h:CR w0.heap.size gF cb vl vs w c)(hf:fs[c.fn]?=some f){st:PSt}(hs:f.ay[c.next]?=some st):Calls prog 85 #[.pointer (some ⟨cb,0,none⟩)] w fun e w'=>∃v,e=.returned (pE st v)/\mp w0 v f.ah st.ah/\bP cb vl vs w w' vs/\CR w0.heap.size gF cb vl vs w' {c with next:=c.next+1}:=by
 obtain⟨rP,_⟩:=gEs.1 hs;have fQ:=(hF.ok.2 f (gMo hf)).2.2.2.1;have b1:=h.blk.cell 1;have f1:=h.blk.frozen 1;simp at b1;have iX:=h.blk.lt;have uJ:(c.next:Int)+1<=1000:=by omega
 have ZS:(c.next:Int)<(f.ay.length:Int):=by omega
 go_enter func85,ntmps85;go_upto_region 2 with fail
 have hC:=(h.setNext (c.next+1) ((c.next:Int)+1) (by omega)).kept (aC _ (.cells #[.int .i64 0,.int .i64 0,.int .i64 0,.int .i64 0,.int .i64 0,.int .i64 0,.int .i64 0,.slice none 0 0] 186) none);have hW:bP cb vl vs w ((w.setCell ⟨cb,1,none⟩ (.int .i64 ((c.next:Int)+1))).alloc (.cells #[.int .i64 0,.int .i64 0,.int .i64 0,.int .i64 0,.int .i64 0,.int .i64 0,.int .i64 0,.slice none 0 0] 186)) vs:=(bP.cell _ _ _).trans (bP.none (aC _ _ _));have hN:=Blk.new (w.setCell ⟨cb,1,none⟩ (.int .i64 ((c.next:Int)+1))) #[.int .i64 0,.int .i64 0,.int .i64 0,.int .i64 0,.int .i64 0,.int .i64 0,.int .i64 0,.slice none 0 0] 186;rw[show (w.setCell ⟨cb,1,none⟩ (.int .i64 ((c.next:Int)+1))).heap.size=w.heap.size by simp[World.setCell]]at hN;obtain⟨W,KU⟩:=aja (((w.setCell ⟨cb,1,none⟩ (.int .i64 ((c.next:Int)+1))).alloc (.cells #[.int .i64 0,.int .i64 0,.int .i64 0,.int .i64 0,.int .i64 0,.int .i64 0,.int .i64 0,.slice none 0 0] 186)));rw[KU]at hC hW hN ⊢;clear KU b1 f1 iX;have Fb:=hF.mono (hW.below h);obtain⟨at1,ct1,at2,ct2,ap,cp,R⟩:=Fb.read hf;obtain⟨g,v,rfl,iB,cZ,hT⟩:=R.ay _ _ hs;have p3:=R.c3;have hl:=R.lt;have x0:=cZ 0 (by omega);have x1:=cZ 1 (by omega);have x2:=cZ 2 (by omega);have x3:=cZ 3 (by omega);have x4:=cZ 4 (by omega);have x5:=cZ 5 (by omega);have x6:=cZ 6 (by omega);have x7:=cZ 7 (by omega);simp[wV]at x0 x1 x2 x3 x4 x5 x6 x7;obtain⟨tsa,tsc,hv⟩:=hT.slice;subst hv;have b0:=hC.blk.cell 0;have b1:=hC.blk.cell 1;simp at b0 b1;have e1:(c.next:Int)+1-1=(c.next:Int):=by omega
 have n0:=hN.cell 0;have n1:=hN.cell 1;have n2:=hN.cell 2;have n3:=hN.cell 3;have n4:=hN.cell 4;have n5:=hN.cell 5;have n6:=hN.cell 6;have n7:=hN.cell 7;have m0:=hN.frozen 0;have m1:=hN.frozen 1;have m2:=hN.frozen 2;have m3:=hN.frozen 3;have m4:=hN.frozen 4;have m5:=hN.frozen 5;have m6:=hN.frozen 6;have m7:=hN.frozen 7;simp at n0 n1 n2 n3 n4 n5 n6 n7;clear hs hf cZ;go_region
 have q1:Below w.heap.size W (CN W w.heap.size (.int .i64 st.aa.au) (.int .i64 st.aa.ab) (.int .i64 st.aa.aj) (.int .i64 st.aa.of) (.int .i64 st.aa.ak) (.int .i64 st.index) (.int .i64 st.num) (.slice tsa st.ah.length tsc)).drew:=Below.of_grown (aE (AS _ _ _ _ _ _ _ _ _ _)) (nLr _) hW.size;have q2:=hC.under q1 h.blk.lt (fun i e=>(h.loc.lt i e).2) (fun i e=>(h.stk.lt i e).2);have q3:=hW.fresh (nLr _) q1;have q4:=(Fa hN (.int .i64 st.aa.au) (.int .i64 st.aa.ab) (.int .i64 st.aa.aj) (.int .i64 st.aa.of) (.int .i64 st.aa.ak) (.int .i64 st.index) (.int .i64 st.num) (.slice tsa st.ah.length tsc)).drew;obtain⟨X,hX⟩:=aja ((CN W w.heap.size (.int .i64 st.aa.au) (.int .i64 st.aa.ab) (.int .i64 st.aa.aj) (.int .i64 st.aa.of) (.int .i64 st.aa.ak) (.int .i64 st.index) (.int .i64 st.num) (.slice tsa st.ah.length tsc)).drew);unfold CN at hX;rw[hX];unfold CN at q2 q3 q4;rw[hX]at q2 q3 q4;have r0:=q4.cell 0;have r1:=q4.cell 1;have r2:=q4.cell 2;have r3:=q4.cell 3;have r4:=q4.cell 4;have r5:=q4.cell 5;have r6:=q4.cell 6;have r7:=q4.cell 7;simp at r0 r1 r2 r3 r4 r5 r6 r7;clear hX q1 n0 n1 n2 n3 n4 n5 n6 n7 m0 m1 m2 m3 m4 m5 m6 m7 x0 x1 x2 x3 x4 x5 x6 x7;go_wp2_with fail;exact bodyPost_ret (v:=pE st (.slice tsa st.ah.length tsc)) (by simp[results,results85,go_sem,r0,r1,r2,r3,r4,r5,r6,r7]) rfl ⟨_,rfl,hT,q3,q2⟩
end
section
variable {w0:World}{az gF cb:Nat}{vl vs vs' vs1 vs2:Value}{w w' w1 w2:World}{c:bS}{fs:List bu}{f:bu}
theorem mp.get{v:Value}{ts:List Tg}{idx:List Nat}(h:mp w0 v ts idx){i:Nat}(hi:i<idx.length):∃g cap b t,v=.slice (some ⟨g,0,none⟩) idx.length cap/\ts[idx[i]]?=some t/\g<w0.heap.size/\w0.cell? ⟨g,i,none⟩=some (.pointer (some ⟨b,0,none⟩))/\E8 w0 b t:=by
 rcases h with⟨_,h2⟩|⟨g,cap,c,h1,h2,h3⟩
 ·subst h2;simp at hi
 obtain⟨b,t,h4,h5,h6⟩:=h3 i hi;exact⟨g,cap,b,t,h1,h4,h2.lt,by rw[h2.cell];exact h5,h6⟩
theorem lU{g i:Nat}{v:Value}(h:Below w0.heap.size w0 w)(hg:g<w0.heap.size)(hc:w0.cell? ⟨g,i,none⟩=some v):w.cell? ⟨g,i,none⟩=some v:=(ajK (w:=w0) (w':=w) (h.block g hg)).trans hc
theorem bP.keep(k:bP cb vl vs w w' vs')(h:CR az gF cb vl vs w c){g t:Nat}{cs:Array Value}(hb:Blk w g cs t)(h1:t≠179)(h2:t≠2):Blk w' g cs t:=by
 refine(k.block g hb.lt ?_ ?_ ?_).trans hb
 ·intro e;subst e;have:=hb.symm.trans h.blk;cases this;exact h1 rfl
 ·intro e;obtain⟨_,c',hc⟩:=ba h.loc g e.symm;have:=hb.symm.trans hc;cases this;exact h2 rfl
 intro e;obtain⟨_,c',hc⟩:=ba h.stk g e.symm;have:=hb.symm.trans hc;cases this;exact h2 rfl
def Fd(w0:World)(ts:List Tg)(idx:List Nat)(n:Int)(b:Nat):Prop:=∃t i,kE idx n=some i/\ts[i]?=some t/\E8 w0 b t
theorem AT(hB:Below w0.heap.size w0 w){v:Value}{ts:List Tg}{idx:List Nat}(hT:mp w0 v ts idx)(n:Int)(h0:0<idx.length)(h1:idx.length<=1000):Calls prog 147 #[v,.int .i64 n] w fun e w'=>∃b,e=.returned (.pointer (some ⟨b,0,none⟩))/\w'=w/\Fd w0 ts idx n b:=by
 by_cases hn:n<0\/(idx.length:Int)-1<n
 ·obtain⟨g,cap,b,t,rfl,Ao,iB,bC,hb⟩:=hT.get (i:=idx.length-1) (by omega);have hc:=lU hB iB bC;have Lc:kE idx n=some idx[idx.length-1]:=by unfold kE;rw[ajd hn,gEg]
  have Js:Hid _:=Lc;obtain⟨k,hk⟩:=aja (idx.length-1);have jl:idx.length=k+1:=by omega
  rw[hk]at hc;have HT:Hid _:=Ao;have rQ:(k:Int)<=1000:=by omega
  rw[jl]at hn ⊢;have EJ:n<0\/(k:Int)<n:=by omega
  clear Lc hn bC Ao jl hk;by_cases CO:n<0
  ·go_enter func147,ntmps147;go_wp2;go_ret;exact⟨b,rfl,rfl,t,_,Js.out,HT.out,hb⟩
  have hgt:(k:Int)<n:=by omega
  have xf:0<=n:=by omega
  clear EJ;go_enter func147,ntmps147;go_wp2;go_ret;exact⟨b,rfl,rfl,t,_,Js.out,HT.out,hb⟩
 obtain⟨j,hj⟩:∃j:Nat,n=(j:Int):=⟨n.toNat,by omega⟩;have qc:j<idx.length:=by omega
 obtain⟨g,cap,b,t,rfl,Ao,iB,bC,hb⟩:=hT.get qc;have hc:=lU hB iB bC;have Lc:kE idx n=some idx[j]:=by unfold kE;rw[ajc hn,hj,Int.toNat_natCast,gEg]
 rw[hj]at Lc ⊢;have Js:Hid _:=Lc;have HT:Hid _:=Ao;have CP:(j:Int)<(idx.length:Int):=by omega
 have In:(idx.length:Int)<=1000:=by omega
 have Xx:(j:Int)<=(idx.length:Int)-1:=by omega
 clear Lc hn bC Ao hj;go_enter func147,ntmps147;go_wp2;go_ret;exact⟨b,rfl,rfl,t,_,Js.out,HT.out,hb⟩
theorem cW{c c1:bS}{n:Int}(h:kV c=some (n,c1)):c1.af.length+1=c.af.length/\c1.ai=c.ai/\c1.fn=c.fn/\c1.next=c.next:=by
 unfold kV at h;split at h
 ·cases h
 rename_i x hx;cases h;have:0<c.af.length:=by
  cases hs:c.af with
  |nil=>rw[hs]at hx;simp at hx
  |cons a l=>simp
 simp;omega
theorem CQ(h:CR az gF cb vl vs w c){c1:bS}(hp:vy c=some c1)(hn:c.af.length<=100000000):Calls prog 111 #[.pointer (some ⟨cb,0,none⟩)] w fun e w'=>e=.returned (.tuple #[])/\∃vs',bP cb vl vs w w' vs'/\CR az gF cb vl vs' w' c1:=by
 unfold vy at hp;split at hp
 ·cases hp
 rename_i asked c2 h1;split at hp
 ·cases hp
 rename_i second c3 h2;split at hp
 ·cases hp
 rename_i first c4 h3;cases hp;have l1:=(cW h1).1;have l2:=(cW h2).1;have l3:=(cW h3).1;by_cases ha:asked=0
 ·subst ha;go_enter func111,ntmps111;go_wp2_with fail;refine(cP h h1 hn).mono ?_;rintro e wa ⟨rfl,va,Wa,Ca⟩;go_wp2_with fail;refine(cP Ca h2 (by omega)).mono ?_;rintro e wb ⟨rfl,vb,Wb,Cb⟩;go_wp2_with fail;refine(cP Cb h3 (by omega)).mono ?_;rintro e wc ⟨rfl,vc,Wc,Cc⟩;go_wp2_with fail;refine(fI Cc second (by omega)).mono ?_;rintro e wd ⟨rfl,vd,Wd,Cd⟩;go_wp2_with fail;go_end0;exact⟨rfl,vd,((Wa.trans Wb).trans Wc).trans Wd,Cd⟩
 have hb:(asked==0)=false:=by simpa using ha
 rw[ajc ha];clear ha;go_enter func111,ntmps111;go_wp2_with fail;refine(cP h h1 hn).mono ?_;rintro e wa ⟨rfl,va,Wa,Ca⟩;go_wp2_with fail;refine(cP Ca h2 (by omega)).mono ?_;rintro e wb ⟨rfl,vb,Wb,Cb⟩;go_wp2_with fail;refine(cP Cb h3 (by omega)).mono ?_;rintro e wc ⟨rfl,vc,Wc,Cc⟩;go_wp2_with fail;refine(fI Cc first (by omega)).mono ?_;rintro e wd ⟨rfl,vd,Wd,Cd⟩;go_wp2_with fail;exact bodyPost_ret (v:=.tuple #[]) (by simp[results,results111,go_sem]) rfl ⟨rfl,vd,((Wa.trans Wb).trans Wc).trans Wd,Cd⟩
theorem yK(h:CR az gF cb vl vs w c)(k:K5){r:Nat×bS}(hp:jL c k=some r)(hn:c.af.length<=100000000):Calls prog 114 #[.pointer (some ⟨cb,0,none⟩),Em k] w fun e w'=>e=.returned (.int .i64 r.1)/\∃vs',bP cb vl vs w w' vs'/\CR az gF cb vl vs' w' r.2:=by
 have lm:=aC w (.cells #[.int .i64 k.au,.int .i64 k.ab,.int .i64 k.aj,.int .i64 k.of,.int .i64 k.ak] 183) none;have h0:=h.kept lm;have W0:bP cb vl vs w _ vs:=bP.none lm;have hN:=Blk.new w #[.int .i64 k.au,.int .i64 k.ab,.int .i64 k.aj,.int .i64 k.of,.int .i64 k.ak] 183;unfold jL at hp;by_cases k1:k.aj=1
 ·rw[ajd k1]at hp;split at hp
  ·cases hp
  rename_i n c2 h1;cases hp;have l1:=(cW h1).1;have b1:((k.aj:Int)==1)=true:=by rw[k1];rfl
  clear k1;go_enter func114,ntmps114;have z0:=hN.cell 0;simp at z0;go_upto_region 3 with fail
  go_region_with (first
   | (go_at_call 110;refine(cP h0.drew h1 hn).mono ?_;rintro e wa ⟨rfl,va,Wa,Ca⟩;have PK:=Wa.keep h0.drew hN.drew (by decide) (by decide);have z1:=PK.cell 0;simp at z1)
   | (go_at_call 148;refine(Cn k.au n _).mono ?_;rintro e wb ⟨rfl,rfl⟩)
   | (go_at_call 113;refine(fI Ca (kU k.au n) (by omega)).mono ?_;rintro e wc ⟨rfl,vc,Wc,Cc⟩))
  all_goals
   go_wp2_with fail;go_ret;exact⟨rfl,vc,((W0.trans (bP.none (aE (aH _ _)))).trans Wa).trans Wc,Cc⟩
 rw[ajc k1]at hp;by_cases k2:k.aj=2
 ·rw[ajd k2]at hp;split at hp
  ·cases hp
  rename_i second c2 h1;split at hp
  ·cases hp
  rename_i first c3 h2;have l1:=(cW h1).1;have l2:=(cW h2).1;have b1:((k.aj:Int)==1)=false:=by rw[k2];rfl
  have b2:((k.aj:Int)==2)=true:=by rw[k2];rfl
  clear k1 k2;go_enter func114,ntmps114;go_wp2_with fail;refine(cP h0 h1 hn).mono ?_;rintro e wa ⟨rfl,va,Wa,Ca⟩;have PK:=Wa.keep h0 hN (by decide) (by decide);go_wp2_with fail;refine(cP Ca h2 (by omega)).mono ?_;rintro e wb ⟨rfl,vb,Wb,Cb⟩;have PL:=Wb.keep Ca PK (by decide) (by decide);have z0:=PL.cell 0;have z1:=PL.cell 1;have z2:=PL.cell 2;have z3:=PL.cell 3;have z4:=PL.cell 4;simp at z0 z1 z2 z3 z4;go_wp2_with fail;refine(Cp k first second _).mono ?_;rintro e wc ⟨rfl,qb⟩;have Cc:=Cb.kept qb;have WW:=((W0.trans Wa).trans Wb).trans (bP.none qb);by_cases he:(bZ k first second).2=0
  ·simp only[ajd he]at hp;cases hp;have HE:Hid _:=he;have be:(((bZ k first second).2:Int)==0)=true:=by rw[he];rfl
   clear he;go_wp2_with fail;refine(fI Cc (bZ k first second).1 (by omega)).mono ?_;rintro e wd ⟨rfl,vd,Wd,Cd⟩;go_wp2_with fail;go_ret;exact⟨rfl,vd,WW.trans Wd,Cd⟩
  simp only[ajc he]at hp;cases hp;have be:(((bZ k first second).2:Int)==0)=false:=beqn (by omega);clear he;go_wp2_with fail;go_ret;exact⟨rfl,vb,WW,Cc⟩
 rw[ajc k2]at hp;cases hp;have b1:((k.aj:Int)==1)=false:=beqn (by omega);have b2:((k.aj:Int)==2)=false:=beqn (by omega);clear k1 k2;go_enter func114,ntmps114;go_wp2_with fail;go_ret;exact⟨rfl,vs,W0,h0⟩
end
section
variable {w0:World}{az gF cb:Nat}{vl vs vs' vs1 vs2:Value}{w w' w1 w2:World}{c:bS}{fs:List bu}{f:bu}
theorem CR.setLoc{gl n cap:Nat}(h:CR az gF cb (.slice (some ⟨gl,0,none⟩) n cap) vs w c)(i:Nat)(x:Int):CR az gF cb (.slice (some ⟨gl,0,none⟩) n cap) vs (w.setCell ⟨gl,i,none⟩ (.int .i64 x)) {c with ai:=c.ai.set i x}:=by
 obtain⟨_,cl,iX⟩:=ba h.loc gl rfl;have aQ:n=c.ai.length:=by obtain⟨a,k,e,_⟩:=aG h.loc;cases e;rfl
 subst aQ;refine⟨h.blk.setOther (a:=⟨gl,i,none⟩) _ ?_,h.low,?_,?_,h.apart⟩
 ·intro e;simp at e;subst e;have:=h.blk.symm.trans iX;cases this
 ·have:=wW h.loc (j:=i) (.int .i64 x);have e:cA (c.ai.set i x)=(cA c.ai).set i (.int .i64 x):=by simp[cA,List.map_set]
  simp only[List.length_set];rw[e];exact this
 refine h.stk.kept (aD w gl i _) ?_;rcases h.apart with e|e
 ·simp[Value.ownBlock]at e
 refine .inr ?_;intro e2;exact e (by rw[e2];rfl)
abbrev iR(w:World)(st:PSt)(v:Value):World:=w.alloc (.cells #[.int .i64 st.aa.au,.int .i64 st.aa.ab,.int .i64 st.aa.aj,.int .i64 st.aa.of,.int .i64 st.aa.ak,.int .i64 st.index,.int .i64 st.num,v] 186)
theorem AU(h:CR az gF cb vl vs w c)(st:PSt){a:Option Addr}{tn tc:Nat}{c1:bS}(hp:mH c st=some c1)(hn:c.af.length<100000000)(hl:c.ai.length<=1000)(aN:st.aa.au=14\/st.aa.au=15\/st.aa.au=16):Calls prog 112 #[.pointer (some ⟨cb,0,none⟩),pE st (.slice a tn tc)] w fun e w'=>e=.returned (.tuple #[])/\∃vs',bP cb vl vs w w' vs'/\CR az gF cb vl vs' w' c1:=by
 have lm:w.grownBy (iR w st (.slice a tn tc)) none:=aC w _ none;have h0:=h.kept lm;have W0:bP cb vl vs w (iR w st (.slice a tn tc)) vs:=bP.none lm;unfold mH at hp;split at hp
 ·cases hp
 rename_i n oL;obtain⟨lx,ZT⟩:=gEs.1 oL;obtain⟨gl,cap,rfl⟩:=cu h.loc (by omega);have c2:=h.blk.cell 2;simp at c2;have iX:=h.blk.lt;have jE:(st.index:Int)<(c.ai.length:Int):=by omega
 have In:(c.ai.length:Int)<=1000:=by omega
 have iB:gl<w.heap.size:=by obtain⟨c,hc,_⟩:=dF h.loc;exact hc.lt
 have TY:Hid _:=oL;clear oL ZT;rcases aN with e|e|e
 ·simp only[e,ajc (show ¬(14=15) by decide),ajc (show ¬(14=16) by decide)]at hp;cases hp;have b14:((st.aa.au:Int)==14)=true:=by rw[e];rfl
  have b15:=ai9 e;clear e;have bC:=(bK h.loc (j:=st.index) (by omega)).1;have hx:(cA c.ai)[st.index]?=some (.int .i64 n):=by simp[cA,TY.out]
  rw[hx]at bC;clear hx;go_enter func112,ntmps112;go_wp2_with fail;go_region
  go_wp2_with fail;refine(fI h0.drew n hn).mono ?_;rintro e wd ⟨rfl,vd,Wd,Cd⟩;go_wp2_with fail;go_end0;exact⟨rfl,vd,(W0.trans (bP.none (aE (aH _ _)))).trans Wd,Cd⟩
 ·simp only[e,ajd]at hp;split at hp
  ·cases hp
  rename_i x c2' h1;cases hp;have b14:((st.aa.au:Int)==14)=false:=by rw[e];rfl
  have b15:=ai9 e;obtain⟨l1,l2,l3,l4⟩:=cW h1;clear e;go_enter func112,ntmps112;go_wp2_with fail;go_region
  go_wp2_with fail;refine(cP h0.drew h1 (by omega)).mono ?_;rintro e wa ⟨rfl,va,Wa,Ca⟩;have Ca':=Ca.loc;rw[l2]at Ca';have Le:=bK Ca' (j:=st.index) (by omega);have hx:(cA c.ai)[st.index]?=some (.int .i64 n):=by simp[cA,TY.out]
  rw[hx]at Le;obtain⟨x1,x2⟩:=Le;have PM:gl<wa.heap.size:=by obtain⟨c,hc,_⟩:=dF Ca';exact hc.lt
  clear hx l2 l3 l4 l1;go_wp2_with fail;go_end0;exact⟨rfl,va,((W0.trans (bP.none (aE (aH _ _)))).trans Wa).trans (bP.loc _ _ rfl),Ca.setLoc st.index x⟩
 simp only[e,ajc (show ¬(16=15) by decide),ajd]at hp;split at hp
 ·cases hp
 rename_i x c2' h1;cases hp;have b14:((st.aa.au:Int)==14)=false:=by rw[e];rfl
 have b15:=ai9 e;obtain⟨l1,l2,l3,l4⟩:=cW h1;clear e;go_enter func112,ntmps112;go_wp2_with fail;go_region
 go_wp2_with fail;refine(cP h0.drew h1 (by omega)).mono ?_;rintro e wa ⟨rfl,va,Wa,Ca⟩;have Ca':=Ca.loc;rw[l2]at Ca';have Le:=bK Ca' (j:=st.index) (by omega);have hx:(cA c.ai)[st.index]?=some (.int .i64 n):=by simp[cA,TY.out]
 rw[hx]at Le;obtain⟨x1,x2⟩:=Le;have PM:gl<wa.heap.size:=by obtain⟨c,hc,_⟩:=dF Ca';exact hc.lt
 have Cs:=Ca.setLoc st.index x;clear hx l2 l3 l4;go_wp2_with fail;refine(fI Cs x (by show c2'.af.length<_;omega)).mono ?_;rintro e wd ⟨rfl,vd,Wd,Cd⟩;go_wp2_with fail;go_end0;exact⟨rfl,vd,(((W0.trans (bP.none (aE (aH _ _)))).trans Wa).trans (bP.loc _ _ rfl)).trans Wd,Cd⟩
end
