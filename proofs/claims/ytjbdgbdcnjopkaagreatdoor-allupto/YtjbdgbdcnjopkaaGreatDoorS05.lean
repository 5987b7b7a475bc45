import Derived.Test.YtjbdgbdcnjopkaaGreatDoorS04
import Derived.Deep.Cut
namespace Go.Proofs.YtjbdgbdcnjopkaaGreatDoor
open Go.RowKit Tryz
set_option linter.all false
set_option maxRecDepth 100000
set_option maxHeartbeats 4000000
def pC(k:Option K5):Value:=match k with
 |some k=>.agg #[.int .i64 k.au,.int .i64 k.ab,.int .i64 k.aj,.int .i64 k.of,.int .i64 k.ak]
 |none=>.agg #[.int .i64 0,.int .i64 0,.int .i64 0,.int .i64 0,.int .i64 0]
@[go_sem] theorem Jj:pC none=.agg #[.int .i64 0,.int .i64 0,.int .i64 0,.int .i64 0,.int .i64 0]:=rfl
@[go_sem] theorem Jk(k:K5):pC (some k)=.agg #[.int .i64 k.au,.int .i64 k.ab,.int .i64 k.aj,.int .i64 k.of,.int .i64 k.ak]:=rfl
def iu(B:Nat)(w:World):Prop:=
 ∃bm o,0<B/\bm<B/\w.cell? ⟨0,0,none⟩=some (.map (some bm))/\w.heap[bm]?=some o /\
  ∀W:World,W.heap[bm]?=some o->∀b:UInt8,(Instr.lookup 225 (.map (some bm)) (.int .u8 b.toNat) true).run prog W=.ok (.tuple #[pC (cr b.toNat),.bool (cr b.toNat).isSome]) W
theorem iu.kept{B:Nat}{w w':World}(h:iu B w)(k:Below B w w'):iu B w':=by obtain⟨bm,o,h0,hb,hc,ho,hl⟩:=h;exact⟨bm,o,h0,hb,(k.cell (p:=⟨0,0,none⟩) h0).trans hc,(k.block bm hb).trans ho,hl⟩
theorem sK{B:Nat}{w w':World}{row:Option Nat}(h:w.grownBy w' row)(hB:B<=w.heap.size)(hr:∀r,row=some r->B<=r):Below B w w':=⟨h.os,h.tape,h.output,h.size,fun k hk=>h.block k (by omega) (fun e=>by have:=hr k e.symm;omega)⟩
theorem iu.grown{B:Nat}{w w':World}{row:Option Nat}(h:iu B w)(k:w.grownBy w' row)(hB:B<=w.heap.size)(hr:∀r,row=some r->B<=r):iu B w':=h.kept (sK k hB hr)
theorem AN{l:List (Nat×K5)}(h:l.all (fun e=>decide (e.2.ab<=7))=true){b:Nat}{k:K5}(hk:l.lookup b=some k):k.ab<=7:=by
 induction l with
 |nil=>simp at hk
 |cons e l ih=>
  simp only[List.all_cons,Bool.and_eq_true,decide_eq_true_eq]at h;obtain⟨x,y⟩:=e;simp only[List.lookup_cons]at hk;split at hk
  ·cases hk;exact h.1
  exact ih h.2 hk
theorem uI{b:Nat}{k:K5}(h:cr b=some k):k.ab<=7:=AN (by decide) h
theorem CK{w:World}{B g cap sig ax p:Nat}{al:Option Addr}{nl cl:Nat}{cs:List UInt8}(hK:iu B w)(hB:B<=w.heap.size)(hb:∀i (h:i<cs.length),w.cell? ⟨g,0+i,none⟩=some (.int .u8 cs[i].toNat)) (hg:g<w.heap.size) (hs:cs.length<=4000) (hc:cs.length<=cap) (hp:p<=cs.length) (cT:ax<=10000):Calls prog 101 #[.agg #[.int .i64 sig,.slice al nl cl,.int .i64 ax,.slice (some ⟨g,0,none⟩) cs.length cap],.int .i64 p] w fun e w'=>w.grownBy w' none /\ fh (cN (bJ cs p) (ax+p)) (fun st e w'=>∃v,e=.returned (.agg #[.int .i64 st.aa.au,.int .i64 st.aa.ab,.int .i64 st.aa.aj,.int .i64 st.aa.of,.int .i64 st.aa.ak,v,.int .i64 st.num,.int .i64 st.next])/\ea w.heap.size w' v st.idx) e w':=by
 have e1:(ax:Int)<=10000:=by omega
 have e2:(p:Int)<=4000:=by omega
 have HB:Hid _:=hb;clear hb;obtain⟨bm,ob,h0B,Se,bC,TH,K2⟩:=hK;have hz:0<w.heap.size:=by omega
 obtain⟨w3,xY⟩:∃w3,((w.alloc (.cells #[.int .i64 sig,.slice al nl cl,.int .i64 ax,.slice (some ⟨g,0,none⟩) cs.length cap] 168)).alloc
  (.cells #[.int .i64 0,.int .i64 0,.int .i64 0,.int .i64 0,.int .i64 0,.slice none 0 0,.int .i64 0,.int .i64 0] 202)).alloc
  (.cells #[.slice (some ⟨g,0,none⟩) cs.length cap,.int .i64 p,.int .i64 3,.int .i64 (↑ax + ↑p)] 223)=w3:=⟨_,rfl⟩
 have xS:w.grownBy w3 none:=by rw[<-xY];exact aB (aB (aC _ _ _) (aC _ _ _)) (aC _ _ _)
 have gy:w3.heap.size=w.heap.size+1+1+1:=by rw[<-xY];simp
 have dH:Blk w3 (w.heap.size+1) #[.int .i64 0,.int .i64 0,.int .i64 0,.int .i64 0,.int .i64 0,.slice none 0 0,.int .i64 0,.int .i64 0] 202:=by rw[<-xY];exact Blk.alloc (by have:=Blk.new (w.alloc (.cells #[.int .i64 sig,.slice al nl cl,.int .i64 ax,.slice (some ⟨g,0,none⟩) cs.length cap] 168)) #[.int .i64 0,.int .i64 0,.int .i64 0,.int .i64 0,.int .i64 0,.slice none 0 0,.int .i64 0,.int .i64 0] 202;rwa [ajz]at this) _
 have K4:Cr w3 (w.heap.size+1+1) (some ⟨g,0,none⟩) cap cs p (ax+p):=by
  refine⟨?_,fun i hi=>⟨g,0,rfl,by omega,?_⟩,hs,hc,hp⟩
  ·rw[<-xY];have:=Blk.new ((w.alloc (.cells #[.int .i64 sig,.slice al nl cl,.int .i64 ax,.slice (some ⟨g,0,none⟩) cs.length cap] 168)).alloc
    (.cells #[.int .i64 0,.int .i64 0,.int .i64 0,.int .i64 0,.int .i64 0,.slice none 0 0,.int .i64 0,.int .i64 0] 202)) #[.slice (some ⟨g,0,none⟩) cs.length cap,.int .i64 p,.int .i64 3,.int .i64 (↑ax + ↑p)] 223
   rw[ajz,ajz]at this;simpa using this
  rw[ajK (w:=w) (xS.block g hg (by simp))];exact HB.out i hi
 have MT:w3.cell? ⟨0,0,none⟩=some (.map (some bm)):=(ajK (w:=w) (xS.block 0 hz (by simp))).trans bC;have Pw:w3.heap[bm]?=some ob:=(xS.block bm (by omega) (by simp)).trans TH;have HL:Hid _:=K2;clear K2;have glob:∀{w4:World},w3.grownBy w4 (some (w.heap.size+1+1))->w4.cell? ⟨0,0,none⟩=some (.map (some bm)):=fun dv=>(ajK (w:=w3) (dv.block 0 (by omega) (by simp))).trans MT;have look:∀{w4:World},w3.grownBy w4 (some (w.heap.size+1+1))->∀b:UInt8,(Instr.lookup 225 (.map (some bm)) (.int .u8 b.toNat) true).run prog w4=.ok (.tuple #[pC (cr b.toNat),.bool (cr b.toNat).isSome]) w4:=fun dv b=>
  HL.out _ ((dv.block bm (by omega) (by simp;omega)).trans Pw) b
 have resB:∀{w4:World},w3.grownBy w4 (some (w.heap.size+1+1))->Blk w4 (w.heap.size+1) #[.int .i64 0,.int .i64 0,.int .i64 0,.int .i64 0,.int .i64 0,.slice none 0 0,.int .i64 0,.int .i64 0] 202:=fun dv=>dH.grown dv (by simp);by_cases hq:p<cs.length
 ·have iW:cn cs p 1=some [cs[p]]:=by rw[gD (by omega),yp cs p hq]
  obtain⟨k,kn,Px,xZ,Py⟩:∃(k:K5) (kn:Bool),pC (cr cs[p].toNat)=.agg #[.int .i64 k.au,.int .i64 k.ab,.int .i64 k.aj,.int .i64 k.of,.int .i64 k.ak]/\(cr cs[p].toNat=if kn then some k else none)/\k.ab<=7:=by
   cases hk:cr cs[p].toNat with
   |none=>exact⟨⟨0,0,0,0,0⟩,false,rfl,rfl,by decide⟩
   |some k=>exact⟨k,true,rfl,rfl,uI hk⟩
  have ur:(cr cs[p].toNat).isSome=kn:=by rw[xZ];cases kn <;> rfl
  have HK:Hid _:=xZ;clear xZ;have look':∀{w4:World},w3.grownBy w4 (some (w.heap.size+1+1))->(Instr.lookup 225 (.map (some bm)) (.int .u8 cs[p].toNat) true).run prog w4=.ok (.tuple #[.agg #[.int .i64 k.au,.int .i64 k.ab,.int .i64 k.aj,.int .i64 k.of,.int .i64 k.ak],.bool kn]) w4:=fun dv=>by rw[look dv cs[p],Px,ur]
  have LK:Hid (∀{w4:World},w3.grownBy w4 (some (w.heap.size+1+1))->(Instr.lookup 225 (.map (some bm)) (.int .u8 cs[p].toNat) true).run prog w4=.ok (.tuple #[.agg #[.int .i64 k.au,.int .i64 k.ab,.int .i64 k.aj,.int .i64 k.of,.int .i64 k.ak],.bool kn]) w4):=look';have GL:Hid (∀{w4:World},w3.grownBy w4 (some (w.heap.size+1+1))->w4.cell? ⟨0,0,none⟩=some (.map (some bm))):=glob;clear look' look glob Px ur;go_enter func101,ntmps101;go_upto_region 2 with fail
  clear xY;go_cut [6,7] from 20 (fun s6 s7 wc=>∃n:Nat,s6=.pointer (some ⟨n,0,none⟩)/\s7=.bool kn/\w.grownBy wc none/\Cr wc (w.heap.size+1+1) (some ⟨g,0,none⟩) cap cs (p+1) (ax+p) /\
   Blk wc n #[.int .i64 k.au,.int .i64 k.ab,.int .i64 k.aj,.int .i64 k.of,.int .i64 k.ak] 183/\Blk wc (w.heap.size+1) #[.int .i64 0,.int .i64 0,.int .i64 0,.int .i64 0,.int .i64 0,.slice none 0 0,.int .i64 0,.int .i64 0] 202/\w.heap.size+1+1<n)
  case first=>
   go_region_with (go_at_call 130;first
    | (refine(pq K4.drew hq).mono ?_;rintro e w4 ⟨rfl,dv,Pd⟩;have dv:=bj dv;have Eb:=LK.out dv;have hl5:=fun o=>LK.out (aB dv (aC w4 o _));have Pz:=GL.out dv;have hz4:0<w4.heap.size:=by have:=dv.size;omega)
    | (refine(pq (K4.alloc _).drew hq).mono ?_;rintro e w4 ⟨rfl,dv,Pd⟩;have uo:=(Blk.drew (Blk.new w3 _ _)).grown dv (by simp;omega);have dv:=aB (aC _ _ _) (bj dv);have Eb:=LK.out dv;have Pz:=GL.out dv;rw[gy]at uo;have x0:=uo.cell 0;have x1:=uo.cell 1;have x2:=uo.cell 2;have x3:=uo.cell 3;have x4:=uo.cell 4;simp at x0 x1 x2 x3 x4;have y0:=uo.frozen 0;have y1:=uo.frozen 1;have y2:=uo.frozen 2;have y3:=uo.frozen 3;have y4:=uo.frozen 4))
   all_goals
    have az:w.grownBy w4 none:=aO xS (by omega) dv;have K6:=resB dv;have Sd:=dv.size;go_wp2_with fail;go_meet
    case rel=>first
     |exact⟨_,rfl,rfl,aB az (aC _ _ _),Pd.alloc _,by have:=Blk.new w4 #[.int .i64 k.au,.int .i64 k.ab,.int .i64 k.aj,.int .i64 k.of,.int .i64 k.ak] 183;simpa using this,K6.alloc _,by omega⟩
     | (have b5:=((((uo.set 0 (.int .i64 k.au)).set 1 (.int .i64 k.ab)).set 2 (.int .i64 k.aj)).set 3 (.int .i64 k.of)).set 4 (.int .i64 k.ak);simp at b5;have g5:=aB (aB (aB (aB (aD w4 (w.heap.size+1+1+1) 0 (.int .i64 k.au)) (aD _ (w.heap.size+1+1+1) 1 (.int .i64 k.ab))) (aD _ (w.heap.size+1+1+1) 2 (.int .i64 k.aj))) (aD _ (w.heap.size+1+1+1) 3 (.int .i64 k.of))) (aD _ (w.heap.size+1+1+1) 4 (.int .i64 k.ak));exact⟨_,rfl,rfl,aO az (by omega) g5,Pd.moved' g5 (by omega),b5,K6.grown g5 (by simp),by omega⟩)
  case rest=>
   obtain⟨n,rfl,rfl,qb,od,xT,Ta,MK⟩:=hcut;have n1:=xT.cell 1;have r2:=od.blk.cell 2;have r3:=od.blk.cell 3;simp at n1 r2 r3;cases kn with
   |false=>
    have hr:cN (bJ cs p) (ax+p)=.error (3,ax+p):=by have hk:=HK.out;simp only[Bool.false_eq_true,if_false]at hk;simp only[bJ,iW,hk,cN]
    go_wp2_with fail;exact⟨rfl,qb,aK hr rfl⟩
   |true=>
    have nM:Hid (bJ cs p=(bq cs (p+1) k.ab).map fun r=>{aa:=k,idx:=r.1,num:=r.2.1,next:=r.2.2}):=by have hk:=HK.out;simp only[if_true]at hk;show _=_;simp only[bJ,iW,hk]
    go_wp2_with fail;refine(Az od Py).mono ?_;rintro e w6 ⟨oM,BT⟩;cases hx:bq cs (p+1) k.ab with
    |none=>
     have hr:cN (bJ cs p) (ax+p)=.error (3,ax+p):=by rw[nM.out,hx];rfl
     cases BT.err (by rw[hx];rfl);go_wp2_with fail;exact⟨rfl,aO qb (by omega) oM,aK hr rfl⟩
    |some x=>
     have hr:cN (bJ cs p) (ax+p)=.ok {aa:=k,idx:=x.1,num:=x.2.1,next:=x.2.2}:=by rw[nM.out,hx];rfl
     obtain⟨v,rfl,hv,Sf⟩:=BT.ok (a:=x) (by rw[hx];rfl);obtain⟨av,nv,cv,rfl⟩:=hv.isSlice;have AO:=xT.grown oM (by simp;omega);have nP:=Ta.grown oM (by simp);have m0:=AO.cell 0;have m1:=AO.cell 1;have m2:=AO.cell 2;have m3:=AO.cell 3;have m4:=AO.cell 4;have at6:=Sf.blk.cell 1;have z0:=nP.cell 0;have z1:=nP.cell 1;have z2:=nP.cell 2;have z3:=nP.cell 3;have z4:=nP.cell 4;have z5:=nP.cell 5;have z6:=nP.cell 6;have z7:=nP.cell 7;have f0:=nP.frozen 0;have f1:=nP.frozen 1;have f2:=nP.frozen 2;have f3:=nP.frozen 3;have f4:=nP.frozen 4;have f5:=nP.frozen 5;have f6:=nP.frozen 6;have f7:=nP.frozen 7;simp at m0 m1 m2 m3 m4 at6 z0 z1 z2 z3 z4 z5 z6 z7;clear BT;go_wp2_with fail;go_region
     go_wp2_with fail;have b8:=(((((((nP.set 0 (.int .i64 k.au)).set 1 (.int .i64 k.ab)).set 2 (.int .i64 k.aj)).set 3 (.int .i64 k.of)).set 4 (.int .i64 k.ak)).set 5 (.slice av nv cv)).set 6 (.int .i64 x.2.1)).set 7 (.int .i64 x.2.2);have g8:=aB (aB (aB (aB (aB (aB (aB (aD w6 (w.heap.size+1) 0 (.int .i64 k.au)) (aD _ (w.heap.size+1) 1 (.int .i64 k.ab))) (aD _ (w.heap.size+1) 2 (.int .i64 k.aj))) (aD _ (w.heap.size+1) 3 (.int .i64 k.of))) (aD _ (w.heap.size+1) 4 (.int .i64 k.ak))) (aD _ (w.heap.size+1) 5 (.slice av nv cv))) (aD _ (w.heap.size+1) 6 (.int .i64 x.2.1))) (aD _ (w.heap.size+1) 7 (.int .i64 x.2.2));have g8':=aE g8;have b8':=Blk.drew b8;simp at b8';have q0:=b8'.cell 0;have q1:=b8'.cell 1;have q2:=b8'.cell 2;have q3:=b8'.cell 3;have q4:=b8'.cell 4;have q5:=b8'.cell 5;have q6:=b8'.cell 6;have q7:=b8'.cell 7;simp only[List.getElem?_toArray,List.getElem?_cons_succ,List.getElem?_cons_zero]at q0 q1 q2 q3 q4 q5 q6 q7;refine bodyPost_ret (v:=.agg #[.int .i64 k.au,.int .i64 k.ab,.int .i64 k.aj,.int .i64 k.of,.int .i64 k.ak,.slice av nv cv,.int .i64 x.2.1,.int .i64 x.2.2]) (by simp[results,results101,go_sem,q0,q1,q2,q3,q4,q5,q6,q7]) rfl ⟨aO (aO qb (by omega) oM) (by omega) g8',aY hr ?_⟩;refine⟨_,rfl,?_⟩;have hl:=xT.lt;exact((hv.mono (lo':=w.heap.size+1+1) (by omega)).kept (dC.of_grown g8' (by intro b e;cases e;omega))).mono (by omega)
 have hr:cN (bJ cs p) (ax+p)=.error (3,ax+p):=by simp only[bJ,gC (c:=cs) (p:=p) (k:=1) (by omega),cN]
 go_enter func101,ntmps101;go_wp2;clear xY
 go_region_dies
 all_goals
  first
   | (refine(qi K4.drew hq).mono ?_;rintro e w4 ⟨rfl,dv⟩;go_wp2;exact⟨rfl,aO xS (by omega) (bj dv),aK hr rfl⟩)
   | (refine(qi (K4.alloc _).drew hq).mono ?_;rintro e w4 ⟨rfl,dv⟩;go_wp2;exact⟨rfl,aO xS (by omega) (aB (aC _ _ _) (bj dv)),aK hr rfl⟩)
