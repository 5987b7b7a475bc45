import Derived.Test.YtjbdgbdcnjopkaaGreatDoorS24
import Derived.Test.YtjbdgbdcnjopkaaGreatDoorRows
import Derived.LaidMore
import Derived.OpenShut
import Derived.Stop.Joined
import Derived.Maps.Keyed
namespace Go.Proofs.YtjbdgbdcnjopkaaGreatDoor
open Go.RowKit Go.Proofs.Tryz
set_option linter.all false
set_option maxRecDepth 100000
set_option maxHeartbeats 4000000
section
open Go.ChangeShapes Go.WideShapes Go.ChangeAt Go.WideMaps Go.WideElems Go.RowKit
abbrev zX:List (String×DataW Unit):=Rows.loopsRow.laid
theorem Oq:prog.globalNamed (Rows.loopsRow.named.headD Tryz.f9.name)=some 0:=by kernel_rfl
theorem Ot:(prog.globals[0]?).map (·.type)=some 225:=by kernel_rfl
theorem KN:Maps.Keyed prog 5:=Maps.int_keyed underlying5
def zY{H:Type}(d:DataW H)(k:Option K5):Bool:=
 match d,k with
 |.nil,none=>true
 |.agg [.lit (.int .i64 a),.lit (.int .i64 b),.lit (.int .i64 c),.lit (.int .i64 e),.lit (.int .i64 f)],some k=>decide (a=k.au) && decide (b=k.ab) && decide (c=k.aj) && decide (e=k.of) && decide (f=k.ak)
 |_,_=>false
theorem H9{H:Type}:(List.range 256).all (fun n=>zY (H:=H) (Rows.laid_treadle_code_kinds.atKey (.int .u8 n) .nil) (cr n))=true:=by kernel_rfl
theorem BD{H:Type}{d:DataW H}(h:zY d none=true):d=.nil:=by
 unfold zY at h;split at h
 ·rfl
 ·rename_i My;cases My
 cases h
theorem BE{H:Type}{d:DataW H}{k:K5}(h:zY d (some k)=true):d=.agg [.lit (.int .i64 k.au),.lit (.int .i64 k.ab),.lit (.int .i64 k.aj),.lit (.int .i64 k.of),.lit (.int .i64 k.ak)]:=by
 unfold zY at h;split at h
 ·rename_i My;cases My
 ·rename_i My;cases My;simp only[Bool.and_eq_true,decide_eq_true_eq]at h;obtain⟨⟨⟨⟨h1,h2⟩,h3⟩,h4⟩,h5⟩:=h;rw[h1,h2,h3,h4,h5]
 cases h
theorem D5:(prog.underlying 183)=some (.struct ((prog.underlying 183).elim #[] fun d=>match d with|.struct fs=>fs|_=>#[])):=by kernel_rfl
theorem zZ:((prog.underlying 183).elim #[] fun d=>match d with|.struct fs=>fs|_=>#[]).toList.map (fun f=>(f.type,f.offset))=[(3,0),(3,1),(3,2),(3,3),(3,4)]:=by kernel_rfl
theorem RV:∃fs,prog.underlying 183=some (.struct fs)/\fs.toList.map (fun f=>(f.type,f.offset))=[(3,0),(3,1),(3,2),(3,3),(3,4)]:=⟨_,D5,zZ⟩
theorem Ou:prog.cellsOf 3=1:=by kernel_rfl
theorem Ia:prog.cellsOf 183=5:=by kernel_rfl
theorem RW{P:Program}{H:Type}{enc:TypeId×Value->H}{W:World}{az:Nat}{sp:Nat->Bool}{Ov:Bool}{n:Nat}{v:Value}{z:DataW H×List MemPlace}{ty:TypeId}{fs:Array Field}(hu:P.underlying ty=some (.struct fs))(RX:fs.toList.map (fun f=>(f.type,f.offset))=[(3,0),(3,1),(3,2),(3,3),(3,4)])(h3:P.underlying 3=some (.int .i64))(c3:P.cellsOf 3=1)(c5:P.cellsOf ty=5)(h:elemAt enc P W az sp Ov n ty v=some z) {a b c d e:Int}(hz:z.1=.agg [.lit (.int .i64 a),.lit (.int .i64 b),.lit (.int .i64 c),.lit (.int .i64 d),.lit (.int .i64 e)]):v=.agg #[.int .i64 a,.int .i64 b,.int .i64 c,.int .i64 d,.int .i64 e]:=by
 unfold elemAt at h;split at h
 ·rename_i hf;obtain⟨xs,m,_,rfl,hl,aQ,Jx⟩:=DataW.trod_struct hu h;cases v with
  |agg cs=>
   have gy:cs.size=5:=by have:=hf;simp only[Value.formed,hu,c5,beq_iff_eq]at this;exact this
   have Bc:(Value.agg cs).cells=cs:=rfl;rw[Bc]at Jx;obtain⟨l⟩:=cs;simp at gy
   match l,gy with
   | [c0,c1,c2,c3',c4],_=>
    obtain⟨fl⟩:=fs;have lv:fl.length=5:=by have:=congrArg List.length RX;simpa using this
    match fl,lv with
    | [f0,f1,f2,f3,f4],_=>
     simp only[List.map_cons,List.map_nil,List.cons.injEq,Prod.mk.injEq]at RX;obtain⟨⟨t0,o0⟩,⟨t1,o1⟩,⟨t2,o2⟩,⟨t3,o3⟩,⟨t4,o4⟩,_⟩:=RX
     match xs,aQ with
     | [x0,x1,x2,x3,x4],_=>
      have g0:=Jx 0 f0 rfl;have g1:=Jx 1 f1 rfl;have g2:=Jx 2 f2 rfl;have g3:=Jx 3 f3 rfl;have g4:=Jx 4 f4 rfl;rw[t0,o0,c3]at g0;rw[t1,o1,c3]at g1;rw[t2,o2,c3]at g2;rw[t3,o3,c3]at g3;rw[t4,o4,c3]at g4;obtain⟨k0,e0,q0,_⟩:=DataW.trod_int h3 g0;obtain⟨k1,e1,q1,_⟩:=DataW.trod_int h3 g1;obtain⟨k2,e2,q2,_⟩:=DataW.trod_int h3 g2;obtain⟨k3,e3,q3,_⟩:=DataW.trod_int h3 g3;obtain⟨k4,e4,q4,_⟩:=DataW.trod_int h3 g4;simp at e0 e1 e2 e3 e4;subst q0 q1 q2 q3 q4;simp at hz;obtain⟨rfl,rfl,rfl,rfl,rfl⟩:=hz;rw[e0,e1,e2,e3,e4]
  |_=>simp[Value.formed,hu]at hf
 cases h
theorem Ib{P:Program}{H:Type}{enc:TypeId×Value->H}{W:World}{az:Nat}{sp:Nat->Bool}{Ov:Bool}{n:Nat}{v:Value}{z:DataW H×List MemPlace}{ty:TypeId}{fs:Array Field}(hu:P.underlying ty=some (.struct fs))(h:elemAt enc P W az sp Ov n ty v=some z):∃l,z.1=.agg l:=by
 unfold elemAt at h;split at h
 ·obtain⟨xs,m,_,rfl,_⟩:=DataW.trod_struct hu h;exact⟨_,rfl⟩
 cases h
theorem KO(W:World):(zeroValue 183).run prog W=.ok (.agg #[.int .i64 0,.int .i64 0,.int .i64 0,.int .i64 0,.int .i64 0]) W:=by kernel_rfl
theorem vw{W:World}(h:laidMetH prog zX W):iu W.heap.size W:=by
 rw[MakeChecks.laidMetH_plain _ _ _ (by kernel_rfl)]at h;obtain⟨ps,⟨g0,t0,cs0,f0,p0,q0,oa,Sn,uG,E9,_⟩,_,_⟩:=h;obtain rfl:=Option.some.inj (Oq.symm.trans oa);obtain rfl:=Option.some.inj (Ot.symm.trans Sn);rcases open_map underlying225 E9 with⟨_,hx⟩|⟨bm,es,clock,m,rfl,Bc,hb,_,F,hx⟩
 ·simp[Rows.laid_treadle_code_kinds]at hx
 simp only[Prod.mk.injEq]at hx;have bC:W.cell? ⟨0,0,none⟩=some (.map (some bm)):=by have:=World.var?_cell oa uG 0;rw[Array.eq_one_of_toList Bc]at this;simpa using this
 refine⟨bm,_,World.block_lt_of_cell? W _ bC,(Array.getElem?_eq_some_iff.1 hb).1,bC,hb,?_⟩;intro W' mn b;have BF:=List.all_eq_true.1 (H9 (H:=Unit)) b.toNat (by simp;exact b.toNat_lt);have hwf:(Lit.int .u8 (b.toNat:Int)).wf=true:=by
  have:=b.toNat_lt;simp only[Lit.wf,Bool.and_eq_true,decide_eq_true_eq,show IntKind.u8.min=0 from rfl,show IntKind.u8.max=255 from rfl]
  omega
 rcases Maps.fit_look true KN underlying225 (KO W') mn F (Maps.keyOf_int_mk underlying5 hwf) with⟨sX,_,O6⟩|⟨e0,y,_,_,sX,hR,O6,_⟩
 ·have ha:=O6 .nil;rw[<-hx.1]at ha;cases hk:cr b.toNat with
  |none=>exact sX
  |some k=>
   rw[hk,ha]at BF;cases BF
 have ha:=O6 .nil;rw[<-hx.1]at ha;rw[ha]at BF;cases hk:cr b.toNat with
 |none=>
  rw[hk]at BF;have hn:=BD BF;obtain⟨fs,hu,_⟩:=RV;obtain⟨l,hl⟩:=Ib hu hR;rw[hl]at hn;cases hn
 |some k=>
  rw[hk]at BF;obtain⟨fs,hu,RX⟩:=RV;have hv:=RW hu RX underlying3 Ou Ia hR (BE BF);rw[hv]at sX;exact sX
end
section
open Go.ChangeShapes Go.WideShapes Go.ChangeAt Go.WideMaps Go.WideElems Go.RowKit
theorem WI:ownKnob prog.godebug=none:=by kernel_rfl
theorem Ic(os:Os)(args:Array Value):laidMetH prog zX ((World.doorLaid prog 400 os).forCall (fun _ _=>0) ⟨#[],args,[]⟩).memory:=laidMetH_of_parts3 (fuel:=8) (laidMet_of_run' 8 (by kernel_rfl) (by kernel_rfl)) (by kernel_rfl) (by kernel_rfl)
section
variable {H:Type}{enc:TypeId×Value->H}{P:Program}
theorem z9{f:Func}{s:ChangeSpec}{apart fresh KQ again:Bool}{W W':World}{args:Array Value}{v:Value}{ds gs:List (DataW H)}{before pa pv:List MemPlace}(hW:DataW.Whole enc P f.params.toList s.vars apart W args.toList ds gs before)(dH:∀(b:Nat) (sp:Nat->Bool) (hd:Bool),DataW.TrodAll enc P W' b sp hd f.resultTypes.toList (v.resultList f.resultTypes.size) (s.fn H (ds++gs)).results [])(ov:∀sp:Nat->Bool,(∀p∈before,sp p.block=true)->DataW.TrodAll enc P W' 0 sp true f.params.toList args.toList (s.fn H (ds++gs)).args pa)(Mg:∀sp:Nat->Bool,(∀p∈before,sp p.block=true)->DataW.TrodVars enc P W' sp s.vars (s.fn H (ds++gs)).vars pv)(Ox:before=pa++pv) (hg:W.grownBy W' none)(fQ:∀(j:Nat) (t:TypeId) (r:Value),f.resultTypes[j]?=some t->(v.resultList f.resultTypes.size)[j]?=some r->Value.okWide P W' .any 0 t r):s.post enc P f apart fresh KQ again W args v W':=by
 have hk:W.keptBut W' (·∈before):=(bc.none hg (nLr _)).below.frame _;have oG:∀p∈before,(fun b=>decide (b<W.heap.size)) p.block=true:=fun p hp=>by simpa using hW.lt p hp
 have bM:=hW.lt;refine⟨ds,gs,before,[],pa,pv,hW,dH _ _ _,ov _ oG,Mg _ oG,World.keptBut_mono (fun p hp=>⟨hp,?_⟩) hk,fun _=>?_⟩
 ·rw[Ox,ajy]at hp;exact Or.inr hp
 obtain⟨_,_,_,_,_,hz,hn⟩:=hW;refine⟨fQ,_,_,([]++pa)++pv,⟨[]++pa,pv,trodAll_append (ov _ (fun _ _=>rfl)) (dH _ _ _),Mg _ (fun _ _=>rfl),rfl,?_,?_⟩,?_⟩
 ·intro b off hp;have Y7:MemPlace.cell b off∈before:=by rw[Ox];simpa using hp
  have hb:=bM _ Y7;rw[World.frozen?_of_block (w:=W) (w':=W') (hg.block b hb (by simp))];exact hz b off Y7
 ·intro ha;have:=hn ha;rw[Ox]at this;simpa using this
 intro p hp _;rw[Ox];simpa using hp
end
end
