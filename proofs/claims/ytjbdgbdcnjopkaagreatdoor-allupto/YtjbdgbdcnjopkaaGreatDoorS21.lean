import Derived.Test.YtjbdgbdcnjopkaaGreatDoorS20
namespace Go.Proofs.YtjbdgbdcnjopkaaGreatDoor
open Go.RowKit Tryz
set_option linter.all false
set_option maxRecDepth 100000
set_option maxHeartbeats 4000000
section
variable {w0:World}{gF cb:Nat}{vl vs vs' vs1 vs2:Value}{w w' w1 w2:World}{c:bS}{fs:List bu}{f:bu}
theorem CS(hB:Below w0.heap.size w0 w)(h:CR w0.heap.size gF cb vl vs w c)(st:PSt){v:Value}{ts:List Tg}(hT:mp w0 v ts st.ah){c1:bS}(hp:mj ts c st=some c1)(hn:c.af.length<=100000000)(hl:st.ah.length<=1000)(aN:st.aa.au=4\/st.aa.au=5\/st.aa.au=7\/st.aa.au=8\/st.aa.au=9):Calls prog 109 #[.pointer (some ⟨cb,0,none⟩),pE st v] w fun e w'=>e=.returned (.tuple #[])/\∃vs',bP cb vl vs w w' vs'/\CR w0.heap.size gF cb vl vs' w' c1:=by
 unfold mj at hp;split at hp
 ·cases hp
 rename_i aQ;obtain⟨g,cap,b,t,rfl,Ao,iB,bC,TZ⟩:=hT.get (i:=0) (by omega);have lm:w.grownBy (iR w st (.slice (some ⟨g,0,none⟩) st.ah.length cap)) none:=aC w _ none;have h0:=h.kept lm;have W0:bP cb vl vs w (iR w st (.slice (some ⟨g,0,none⟩) st.ah.length cap)) vs:=bP.none lm;have hN:Blk (iR w st (.slice (some ⟨g,0,none⟩) st.ah.length cap)) w.heap.size _ 186:=Blk.new w _ _;have IU:=hB.trans (W0.below h);have hc:=lU IU iB bC;have sj:=lU hB iB bC;have Xy:=iY IU TZ;have In:(st.ah.length:Int)<=1000:=by omega
 have ZU:0<(st.ah.length:Int):=by omega
 have xS:g<w.heap.size:=by have:=hB.size;omega
 have Sn:st.ah[0]?=some st.ah[0]:=gEg (by omega);have Ig:∀c,goC ts c st.ah[0]?=qS c t:=by intro c;rw[Sn];simp only[goC];rw[Ao]
 simp only[Ig]at hp;clear Sn Ig bC Ao hc;rcases aN with e|e|e|e|e
 ·simp only[e,ajd]at hp;split at hp
  ·cases hp
  rename_i n c2 h1;have b4:((st.aa.au:Int)==4)=true:=by rw[e];rfl
  have b8:=ai9 e;have l1:=(cW h1).1;clear e;by_cases hz:n=0
  ·rw[ajd hz]at hp;subst hz;go_enter func109,ntmps109;go_wp2_with fail;refine(cP h0 h1 hn).mono ?_;rintro e wa ⟨rfl,va,Wa,Ca⟩;have PN:=iY (IU.trans (Wa.below h0)) TZ;go_wp2_with fail;refine(mU Ca PN hp (by omega)).mono ?_;rintro e wd ⟨rfl,vd,Wd,Cd⟩;go_wp2_with fail;go_end0;exact⟨rfl,vd,(W0.trans Wa).trans Wd,Cd⟩
  rw[ajc hz]at hp;cases hp;have bz:(n==0)=false:=by simpa using hz
  clear hz;go_enter func109,ntmps109;go_wp2_with fail;refine(cP h0 h1 hn).mono ?_;rintro e wa ⟨rfl,va,Wa,Ca⟩;go_wp2_with fail;go_end0;exact⟨rfl,va,W0.trans Wa,Ca⟩
 ·simp only[e,ajc (show ¬(5=4) by decide),ajc (show ¬(5=8) by decide),ajc (show ¬(5=9) by decide)]at hp;have b4:((st.aa.au:Int)==4)=false:=by rw[e];rfl
  have b8:=ai9 e;clear e;go_enter func109,ntmps109;go_wp2_with fail;refine(mU h0 Xy hp hn).mono ?_;rintro e wd ⟨rfl,vd,Wd,Cd⟩;go_wp2_with fail;go_end0;exact⟨rfl,vd,W0.trans Wd,Cd⟩
 ·simp only[e,ajc (show ¬(7=4) by decide),ajc (show ¬(7=8) by decide),ajc (show ¬(7=9) by decide)]at hp;have b4:((st.aa.au:Int)==4)=false:=by rw[e];rfl
  have b8:=ai9 e;clear e;go_enter func109,ntmps109;go_wp2_with fail;refine(mU h0 Xy hp hn).mono ?_;rintro e wd ⟨rfl,vd,Wd,Cd⟩;go_wp2_with fail;go_end0;exact⟨rfl,vd,W0.trans Wd,Cd⟩
 ·simp only[e,ajc (show ¬(8=4) by decide),ajd]at hp;split at hp
  ·cases hp
  rename_i n c2 h1;have b4:((st.aa.au:Int)==4)=false:=by rw[e];rfl
  have b8:=ai9 e;have l1:=(cW h1).1;clear e;by_cases hz:n=0
  ·rw[ajd hz]at hp;cases hp;subst hz;go_enter func109,ntmps109;go_wp2_with fail;refine(cP h0 h1 hn).mono ?_;rintro e wa ⟨rfl,va,Wa,Ca⟩;go_wp2_with fail;go_end0;exact⟨rfl,va,W0.trans Wa,Ca⟩
  rw[ajc hz]at hp;have bz:(n==0)=false:=by simpa using hz
  clear hz;go_enter func109,ntmps109;go_wp2_with fail;refine(cP h0 h1 hn).mono ?_;rintro e wa ⟨rfl,va,Wa,Ca⟩;have PN:=iY (IU.trans (Wa.below h0)) TZ;go_wp2_with fail;refine(mU Ca PN hp (by omega)).mono ?_;rintro e wd ⟨rfl,vd,Wd,Cd⟩;go_wp2_with fail;go_end0;exact⟨rfl,vd,(W0.trans Wa).trans Wd,Cd⟩
 simp only[e,ajc (show ¬(9=4) by decide),ajc (show ¬(9=8) by decide),ajd]at hp;split at hp
 ·cases hp
 rename_i n c2 h1;have b4:((st.aa.au:Int)==4)=false:=by rw[e];rfl
 have b8:=ai9 e;have l1:=(cW h1).1;clear e;have z7:=hN.cell 7;simp at z7;have D0:=h0.drew;have xW:Below w0.heap.size (iR w st (.slice (some ⟨g,0,none⟩) st.ah.length cap)) (iR w st (.slice (some ⟨g,0,none⟩) st.ah.length cap)).drew:=(bP.none (cb:=cb) (vl:=vl) (vs:=vs) (aE (aH _ _))).below h0;have HP:Hid _:=hp;clear hp;go_enter func109,ntmps109;go_upto_region 12 with fail
 go_region_with (first
  | (go_at_call 110;refine(cP D0 h1 hn).mono ?_;rintro e wa ⟨rfl,va,Wa,Ca⟩;have PK:=Wa.keep D0 hN.drew (by decide) (by decide);have z8:=PK.cell 7;simp at z8)
  | (go_at_call 147;refine(AT (IU.trans (xW.trans (Wa.below D0))) hT n (by omega) (by omega)).mono ?_;rintro e wb ⟨bb,rfl,rfl,ZV⟩))
 all_goals
  obtain⟨t2,i2,p1,p2,p3⟩:=ZV;have hp:=HP.out;simp only[p1,goC,p2]at hp;have PN:=iY (IU.trans (xW.trans (Wa.below D0))) p3;clear p1 p2;go_wp2_with fail;refine(mU Ca PN hp (by omega)).mono ?_;rintro e wd ⟨rfl,vd,Wd,Cd⟩;go_wp2_with fail;go_end0;exact⟨rfl,vd,((W0.trans (bP.none (aE (aH _ _)))).trans Wa).trans Wd,Cd⟩
theorem Fe{ts:List Tg}{st:PSt}(aN:st.aa.au=4\/st.aa.au=5\/st.aa.au=7\/st.aa.au=8\/st.aa.au=9):doC ts c st=okC (mj ts c st):=by unfold doC;simp only;rw[ajd aN]
theorem gZ{x:Option bS}{r:Nat×bS}(h:okC x=some r):r.1=0/\x=some r.2:=by
 unfold okC at h;cases x with
 |none=>cases h
 |some c=>cases h;exact⟨rfl,rfl⟩
theorem BW(hB:Below w0.heap.size w0 w)(h:CR w0.heap.size gF cb vl vs w c)(st:PSt){v:Value}{ts:List Tg}(hT:mp w0 v ts st.ah){r:Nat×bS}(hp:doC ts c st=some r)(hn:c.af.length<100000000)(hl:st.ah.length<=1000)(jD:c.ai.length<=1000):Calls prog 88 #[.pointer (some ⟨cb,0,none⟩),pE st v] w fun e w'=>e=.returned (.int .i64 r.1)/\∃vs',bP cb vl vs w w' vs'/\CR w0.heap.size gF cb vl vs' w' r.2:=by
 obtain⟨a,cap,rfl⟩:=hT.slice;have lm:w.grownBy (iR w st (.slice a st.ah.length cap)) none:=aC w _ none;have h0:=h.kept lm;have W0:bP cb vl vs w (iR w st (.slice a st.ah.length cap)) vs:=bP.none lm;have hN:Blk (iR w st (.slice a st.ah.length cap)) w.heap.size _ 186:=Blk.new w _ _;have IU:=hB.trans (W0.below h);by_cases hj:st.aa.au=4\/st.aa.au=5\/st.aa.au=7\/st.aa.au=8\/st.aa.au=9
 ·rw[Fe hj]at hp;obtain⟨hr,hp⟩:=gZ hp;rw[hr];have HJ:Hid _:=hj;have hQ:=CS IU h0 st hT hp (by omega) hl hj;clear hr hp;rcases hj with e|e|e|e|e
  ·have b4:((st.aa.au:Int)==4)=true:=by rw[e];rfl
   have b5:=ai9 e;clear e;go_enter func88,ntmps88;go_wp2_with fail;refine hQ.mono ?_;rintro e wd ⟨rfl,vd,Wd,Cd⟩;go_wp2_with fail;go_ret;exact⟨rfl,vd,W0.trans Wd,Cd⟩
  ·have b4:((st.aa.au:Int)==4)=false:=by rw[e];rfl
   have b5:=ai9 e;clear e;go_enter func88,ntmps88;go_wp2_with fail;refine hQ.mono ?_;rintro e wd ⟨rfl,vd,Wd,Cd⟩;go_wp2_with fail;go_ret;exact⟨rfl,vd,W0.trans Wd,Cd⟩
  ·have b4:((st.aa.au:Int)==4)=false:=by rw[e];rfl
   have b5:=ai9 e;clear e;go_enter func88,ntmps88;go_wp2_with fail;refine hQ.mono ?_;rintro e wd ⟨rfl,vd,Wd,Cd⟩;go_wp2_with fail;go_ret;exact⟨rfl,vd,W0.trans Wd,Cd⟩
  ·have b4:((st.aa.au:Int)==4)=false:=by rw[e];rfl
   have b5:=ai9 e;clear e;go_enter func88,ntmps88;go_wp2_with fail;refine hQ.mono ?_;rintro e wd ⟨rfl,vd,Wd,Cd⟩;go_wp2_with fail;go_ret;exact⟨rfl,vd,W0.trans Wd,Cd⟩
  have b4:((st.aa.au:Int)==4)=false:=by rw[e];rfl
  have b5:=ai9 e;clear e;go_enter func88,ntmps88;go_wp2_with fail;refine hQ.mono ?_;rintro e wd ⟨rfl,vd,Wd,Cd⟩;go_wp2_with fail;go_ret;exact⟨rfl,vd,W0.trans Wd,Cd⟩
 by_cases e12:st.aa.au=12
 ·have e:=e12;have hd:doC ts c st=okC ((kV c).map (·.2)):=by unfold doC;simp only[ajc hj,ajd e12]
  rw[hd]at hp;obtain⟨hr,hp⟩:=gZ hp;rw[hr];cases hq:kV c with
  |none=>rw[hq]at hp;cases hp
  |some p=>
   obtain⟨n,c2⟩:=p;rw[hq]at hp;simp at hp;subst hp;have b4:((st.aa.au:Int)==4)=false:=by rw[e];rfl
   have b5:=ai9 e;clear e e12 hj hd hr;go_enter func88,ntmps88;go_wp2_with fail;refine(cP h0 hq (by omega)).mono ?_;rintro e wd ⟨rfl,vd,Wd,Cd⟩;go_wp2_with fail;go_ret;exact⟨rfl,vd,W0.trans Wd,Cd⟩
 by_cases e13:st.aa.au=13
 ·have e:=e13;have hd:doC ts c st=okC (vy c):=by unfold doC;simp only[ajc hj,ajc e12,ajd e13]
  rw[hd]at hp;obtain⟨hr,hp⟩:=gZ hp;rw[hr];have b4:((st.aa.au:Int)==4)=false:=by rw[e];rfl
  have b5:=ai9 e;clear e e12 e13 hj hd hr;go_enter func88,ntmps88;go_wp2_with fail;refine(CQ h0 hp (by omega)).mono ?_;rintro e wd ⟨rfl,vd,Wd,Cd⟩;go_wp2_with fail;go_ret;exact⟨rfl,vd,W0.trans Wd,Cd⟩
 by_cases el:st.aa.au=14\/st.aa.au=15\/st.aa.au=16
 ·have hd:doC ts c st=okC (mH c st):=by unfold doC;simp only[ajc hj,ajc e12,ajc e13,ajd el]
  rw[hd]at hp;obtain⟨hr,hp⟩:=gZ hp;rw[hr];have hQ:=AU h0 st (a:=a) (tn:=st.ah.length) (tc:=cap) hp hn jD el;clear hr hp hd e12 e13 hj;rcases el with e|e|e
  ·have b4:((st.aa.au:Int)==4)=false:=by rw[e];rfl
   have b5:=ai9 e;clear e;go_enter func88,ntmps88;go_wp2_with fail;refine hQ.mono ?_;rintro e wd ⟨rfl,vd,Wd,Cd⟩;go_wp2_with fail;go_ret;exact⟨rfl,vd,W0.trans Wd,Cd⟩
  ·have b4:((st.aa.au:Int)==4)=false:=by rw[e];rfl
   have b5:=ai9 e;clear e;go_enter func88,ntmps88;go_wp2_with fail;refine hQ.mono ?_;rintro e wd ⟨rfl,vd,Wd,Cd⟩;go_wp2_with fail;go_ret;exact⟨rfl,vd,W0.trans Wd,Cd⟩
  have b4:((st.aa.au:Int)==4)=false:=by rw[e];rfl
  have b5:=ai9 e;clear e;go_enter func88,ntmps88;go_wp2_with fail;refine hQ.mono ?_;rintro e wd ⟨rfl,vd,Wd,Cd⟩;go_wp2_with fail;go_ret;exact⟨rfl,vd,W0.trans Wd,Cd⟩
 by_cases e17:st.aa.au=17
 ·have e:=e17;have hd:doC ts c st=okC (some (kD c st.num)):=by unfold doC;simp only[ajc hj,ajc e12,ajc e13,ajc el,ajd e17]
  rw[hd]at hp;obtain⟨hr,hp⟩:=gZ hp;rw[hr];simp only[Option.some.injEq]at hp;rw[<-hp];clear hp;have b4:((st.aa.au:Int)==4)=false:=by rw[e];rfl
  have b5:=ai9 e;clear e e12 e13 hj hd hr el e17;go_enter func88,ntmps88;go_wp2_with fail;refine(fI h0 st.num hn).mono ?_;rintro e wd ⟨rfl,vd,Wd,Cd⟩;go_wp2_with fail;go_ret;exact⟨rfl,vd,W0.trans Wd,Cd⟩
 have hd:doC ts c st=jL c st.aa:=by unfold doC;simp only[ajc hj,ajc e12,ajc e13,ajc el,ajc e17]
 rw[hd]at hp;have b4:((st.aa.au:Int)==4)=false:=beqn (by omega);have b5:((st.aa.au:Int)==5)=false:=beqn (by omega);have b7:((st.aa.au:Int)==7)=false:=beqn (by omega);have b8:((st.aa.au:Int)==8)=false:=beqn (by omega);have b9:((st.aa.au:Int)==9)=false:=beqn (by omega);have b12:((st.aa.au:Int)==12)=false:=beqn (by omega);have b13:((st.aa.au:Int)==13)=false:=beqn (by omega);have b14:((st.aa.au:Int)==14)=false:=beqn (by omega);have b15:((st.aa.au:Int)==15)=false:=beqn (by omega);have b16:((st.aa.au:Int)==16)=false:=beqn (by omega);have b17:((st.aa.au:Int)==17)=false:=beqn (by omega);clear e12 e13 hj hd el e17;go_enter func88,ntmps88;go_wp2_with fail;refine(yK h0 st.aa hp (by omega)).mono ?_;rintro e wd ⟨rfl,vd,Wd,Cd⟩;go_wp2_with fail;go_ret;exact⟨rfl,vd,W0.trans Wd,Cd⟩
end
