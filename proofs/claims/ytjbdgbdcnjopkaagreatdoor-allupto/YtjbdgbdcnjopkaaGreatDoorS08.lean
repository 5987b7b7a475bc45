import Derived.Test.YtjbdgbdcnjopkaaGreatDoorS07
import Derived.Deep.RegionLaw
namespace Go.Proofs.YtjbdgbdcnjopkaaGreatDoor
open Go.RowKit Tryz
set_option linter.all false
set_option maxRecDepth 100000
set_option maxHeartbeats 4000000
theorem gE(w:World)(xs:List Value)(t:TypeId):∀j u,xs[j]?=some u->(w.alloc (.cells xs.toArray t)).cell? ((⟨w.heap.size,0,none⟩:Addr).add j)=some u:=fun j u hj=>by rw[cJ,ajx,(Blk.new w xs.toArray t).cell j];simpa using hj
theorem bQ{P:Program}{ops:Array Oper}{o:Oper}{a:Act}{w:World}{K:Act->World->Prop}{Q:Exit->Act->World->Prop}{E:Prop}(hg:o.guard=none) (s x:Operand) (t:TypeId) (ex:o.op=Op.call {callee:=Callee.builtin Builtin.append,args:=#[s,x],argTypes:=#[t,t]})(az:Nat) (e:TypeId) (i:TypeInfo) (z:Value) (size bytes:Nat) (ht:P.underlying t=some (.slice e)) (hi:P.info? e=some i) (hz:i.zero=some z)(EL:i.size=size) (Pf:i.bytes=bytes) (Tq:z.cells.size=size) (gy:0<size)(v:Value) (n:Nat) (xs:List Value) (hs:a.eval s=v) (bn:w.ownsRow az e size v n xs)(ad:Addr) (m c:Nat) (news:List Value) (hx:a.eval x=.slice (some ad) m c) (hl:news.length=m*size) (EM:∀j u,news[j]?=some u->w.cell? (ad.add j)=some u) (h1:∀u∈news,u.oneCell'=true)(Tr:n+m<=maxLen) (AF:(n+m)*bytes<=140737488355328) (EN:az<=w.heap.size)(hK:∀v' w',w'.ownsRow az e size v' (n+m) (xs++news)->w.grownBy w' v.ownBlock->K (a.put o.dst v') w'):if Region.wanted o (yielded ops a.tmps)=true then Oper.wp P o a w K Q else E:=by
 have hw:Region.wanted o (yielded ops a.tmps)=true:=by simp[Region.wanted,hg]
 rw[ajd hw];obtain⟨v',w',hr,h2,h3,h4,h5⟩:=run_append_own_at (P:=P) w az t o.type e i z size bytes ht hi hz EL Pf Tq gy v n xs bn ad m c news hl EM h1 Tr AF EN;unfold Oper.wp execOp;simp only[ex,resolve,invoke,builtin,Sem.run_bind,Sem.run_pure,Result.andThen_ok,List.map_toArray,List.map_cons,List.map_nil,hs,hx,hr];exact hK _ _ h2 h3
section
variable {az l:Nat}{vm vloc:Value}{tb:List Nat}{ar:Nat}{vs vf vp:Value}{w:World}{s:LSt}
theorem pz(h:LR az l vm vloc tb ar vs vf vp w s){at1 at2:Option Addr}{nt1 ct1 nt2 ct2:Nat}{sig:Sig}(h1:bO az w (.slice at1 nt1 ct1) sig.1)(h2:bO az w (.slice at2 nt2 ct2) sig.2)(au:Nat)(hn:au<=40)(hf:s.ae.length<20)(Ad:sig.1.length<=100)(rC:sig.2.length<=100):Calls prog 99 #[.pointer (some ⟨l,0,none⟩),.int .i64 au,.agg #[.slice at1 nt1 ct1,.slice at2 nt2 ct2]] w fun e w'=>e=.returned (.tuple #[])/\bc az w w'/\(∀g c ty,ty≠198->ty≠217->Blk w g c ty->Blk w' g c ty)/\∃b,iQ az l vm vloc (tb++[b]) ar w' (dg s au sig):=by
 have c2:=h.blk.cell 2;have c3:=h.blk.cell 3;simp at c2 c3;obtain⟨sa,scap,rfl,_,_⟩:=aG h.stk;have ol:=h.blk.lt;have KS:=h.ns;have IX:=h.np;have hB:=h.base_le;have e1:(s.ay.length:Int)<=1000:=by omega
 have e2:(s.af.length:Int)<=100000:=by omega
 have vF:IntKind.i64.wrap ((s.ay.length:Int)-1)=(s.ay.length:Int)-1:=by rw[IntKind.wrap_i64];omega
 go_enter func99,ntmps99;go_upto_region 1 with fail
 go_cut [6] from 7 (fun s6 wc=>∃nb:Nat,s6=.pointer (some ⟨nb,0,none⟩)/\w.grownBy wc none/\w.heap.size<=nb/\Blk wc nb #[.int .i64 au,.slice at1 nt1 ct1,.slice at2 nt2 ct2,.int .i64 s.af.length,.bool false,.int .i64 ((s.ay.length:Int)-1),.pointer none] 217)
 case first=>
  go_region_held (fun w'=>w'.cell? ⟨l,2,none⟩=some (.slice sa s.af.length scap)/\w'.cell? ⟨w.heap.size,0,none⟩=some (.slice at1 nt1 ct1)/\w'.cell? ⟨w.heap.size,1,none⟩=some (.slice at2 nt2 ct2)/\w.grownBy w' none)
   (first|(refine⟨by go_keep,by go_keep,by go_keep,?_⟩;repeat (first|assumption|exact aH _ _|apply aE|refine aB ?_ (aC _ _ _)))|fail)
   ((go_at_call 128;refine(jR (h.kept (w':=_) ?_)).mono ?_;(repeat (first|assumption|exact aH _ _|apply aE|refine aB ?_ (aC _ _ _)));rintro e w4 ⟨rfl,rfl⟩))
  all_goals
   go_wp2_with fail;go_meet
   case rel=>
    refine⟨_,rfl,(by repeat (first|assumption|exact aH _ _|apply aE|refine aB ?_ (aC _ _ _))),(by simp),?_⟩;have xT:=Blk.new (w.alloc (.cells #[.slice at1 nt1 ct1,.slice at2 nt2 ct2] 107)) #[.int .i64 au,.slice at1 nt1 ct1,.slice at2 nt2 ct2,.int .i64 s.af.length,.bool false,.int .i64 ((s.ay.length:Int)-1),.pointer none] 217;rw[ajz]at xT;first|exact xT|exact Blk.drew xT
 case rest=>
  obtain⟨nb,rfl,qb,sF,xT⟩:=hcut;have x0:=xT.cell 0;have x1:=xT.cell 1;have x2:=xT.cell 2;have x3:=xT.cell 3;have x4:=xT.cell 4;have x5:=xT.cell 5;have x6:=xT.cell 6;simp at x0 x1 x2 x3 x4 x5 x6;obtain⟨aw,nw,cw,WY,Ik⟩:∃aw nw cw,(if au=3 then Value.slice at1 nt1 ct1 else .slice at2 nt2 ct2)=.slice aw nw cw/\nw=(if au=3 then sig.1 else sig.2).length:=by
   obtain⟨g1,k1,q1,y1,_⟩:=h1;obtain⟨g2,k2,q2,y2,_⟩:=h2;cases y1;cases y2;split
   ·exact⟨_,_,_,rfl,rfl⟩
   exact⟨_,_,_,rfl,rfl⟩
  have vF:∀{W:World}{p:Option Addr},Calls prog 129 #[.agg #[.int .i64 au,.slice at1 nt1 ct1,.slice at2 nt2 ct2,.int .i64 s.af.length,.bool false,.int .i64 ((s.ay.length:Int)-1),.pointer p]] W fun e w'=>e=.returned (.slice aw nw cw)/\W.grownBy w' none:=fun {W p}=>by rw[<-WY];exact Cz
  have Ts:nw<=100:=by rw[Ik];split <;> omega
  have WR:Hid _:=@vF;have WL:Hid _:=Ik;clear vF WY Ik;have cZ:∀{W:World},wc.grownBy W none->Blk W nb #[.int .i64 au,.slice at1 nt1 ct1,.slice at2 nt2 ct2,.int .i64 s.af.length,.bool false,.int .i64 ((s.ay.length:Int)-1),.pointer none] 217:=fun hk=>xT.grown hk (by simp);go_upto_region 2 with fail
  go_cut [] from 18 (fun wd=>∃b:Nat,w.grownBy wd none/\w.heap.size<=b/\Blk wd b #[.int .i64 s.ay.length,.int .i64 nw,.int .i64 s.af.length] 220/\Blk wd nb #[.int .i64 au,.slice at1 nt1 ct1,.slice at2 nt2 ct2,.int .i64 s.af.length,.bool false,.int .i64 ((s.ay.length:Int)-1),.pointer (some ⟨b,0,none⟩)] 217)
  case first=>
   go_region_with (first
    | (go_at_call 128;refine(jR (h.kept (w':=_) (by repeat (first|exact qb|apply aE|refine aB ?_ (aC _ _ _)|assumption)))).mono ?_;rintro e w4 ⟨rfl,rfl⟩)
    | (go_at_call 129;refine WR.out.mono ?_;rintro e w4 ⟨rfl,dv⟩;have jK:=cZ (aB (aE (aH wc none)) dv);have z3:=jK.cell 3;have z6:=jK.cell 6;have f6:=jK.frozen 6;simp at z3 z6;have Eb:=jK.lt;have CE:=aB (aE qb) dv))
   all_goals
    go_wp2_with fail;go_meet
    case rel=>
     refine⟨w4.heap.size,aB (aO CE sF (aD w4 nb 6 _)) (aC _ _ _),CE.size,?_,?_⟩
     ·have Tt:=Blk.new (w4.setCell ⟨nb,6,none⟩ (.pointer (some ⟨w4.heap.size,0,none⟩))) #[.int .i64 s.ay.length,.int .i64 nw,.int .i64 s.af.length] 220;have gy:(w4.setCell ⟨nb,6,none⟩ (.pointer (some ⟨w4.heap.size,0,none⟩))).heap.size=w4.heap.size:=by simp[World.setCell]
      rwa [gy]at Tt
     have Ec:=(jK.set 6 (.pointer (some ⟨w4.heap.size,0,none⟩))).alloc (.cells #[.int .i64 s.ay.length,.int .i64 nw,.int .i64 s.af.length] 220);simp at Ec;exact Ec
  case rest=>
   obtain⟨b,us,yr,Tt,oJ⟩:=hcut;have hT:=(h.kept us).addTarget (s.ay.length,nw,s.af.length) (ajE hB yr) (fun i b' mn=>ajA (h.tlt i b' mn) yr) Tt;have xW:=hT.base_le;obtain⟨cf,ie,hZ⟩:=hT.frm;obtain⟨fa,fcap,rfl,_,_⟩:=aG ie;have y0:=oJ.cell 0;have y1:=oJ.cell 1;have y2:=oJ.cell 2;have y3:=oJ.cell 3;have y4:=oJ.cell 4;have y5:=oJ.cell 5;have y6:=oJ.cell 6;have z3:=hT.blk.cell 3;simp at y0 y1 y2 y3 y4 y5 y6 z3;obtain⟨i0,hi,fo,eP,eV⟩:=info_parts BN;clear x0 x1 x2 x3 x4 x5 x6 cZ xT qb;have kw:wc.grownBy (wc.alloc (.cells #[.int .i64 au,.slice at1 nt1 ct1,.slice at2 nt2 ct2,.int .i64 s.af.length,.bool false,.int .i64 ((s.ay.length:Int)-1),.pointer (some ⟨b,0,none⟩)] 217)).drew none:=aE (aC _ _ _);have h9:=hT.kept kw;have k9:=(bc.none kw xW).below;have kd:=(bc.none us hB).below;have sG:(tb++[b])[s.ah.length]?=some b:=by rw[<-h.tgt.1];simp
   have CF:=iT.push (f:={au:=au,aj:=sig.1,ak:=sig.2,am:=s.af.length,dead:=false,ao:=(s.ay.length:Int)-1,target:=s.ah.length}) (hZ.kept k9) ie.1 sG ((h1.kept kd).kept k9) ((h2.kept kd).kept k9);have KX:∀g c ty,Blk w g c ty->Blk wc g c ty:=fun g c ty hb=>hb.grown us (by simp);have Tu:=ba ie;have I2:=hT.blk.lt;go_wp2_with fail
   go_region_law (refine bQ rfl _ _ 196 rfl az 217 i0 _ 7 88 underlying196 hi fo eP eV rfl (by decide) _ s.ae.length cf rfl (aJ ie fun g c hb=>by repeat (first|exact hb|apply Blk.drew|refine Blk.alloc ?_ _)) ⟨wc.heap.size,0,none⟩ 1 1 [.int .i64 au,.slice at1 nt1 ct1,.slice at2 nt2 ct2,.int .i64 s.af.length,.bool false,.int .i64 ((s.ay.length:Int)-1),.pointer (some ⟨b,0,none⟩)] rfl rfl (fun j u hj=>gE wc _ 217 j u hj) (by simp[Value.oneCell']) (by simp[maxLen];omega) (by omega) (by simp;omega) ?_;intro v' w' bn bU;obtain⟨df,hL,hW⟩:=h9.appFrames bU (by simpa [rE] using bn) CF (by simp;omega);have k3:=df.cell 3;have q3:=df.frozen 3;simp at k3;obtain⟨a',cap',rfl,_⟩:=aG bn)
   all_goals
    go_wp2_with fail;go_end0;have Ik:=WL.out;have hO:dg s au sig={s with ae:=s.ae++[{au:=au,aj:=sig.1,ak:=sig.2,am:=s.af.length,dead:=false,ao:=(s.ay.length:Int)-1,target:=s.ah.length}],ah:=s.ah++[(s.ay.length,nw,s.af.length)]}:=by simp only[dg,Ik]
    rw[hO];refine⟨rfl,((bc.none us hB).trans (bc.none kw xW)).trans hW,fun g c ty qY oc hb=>?_,b,_,_,_,hL⟩;have q1:Blk (wc.alloc (.cells #[.int .i64 au,.slice at1 nt1 ct1,.slice at2 nt2 ct2,.int .i64 s.af.length,.bool false,.int .i64 ((s.ay.length:Int)-1),.pointer (some ⟨b,0,none⟩)] 217)).drew g c ty:=(KX g c ty hb).grown kw (by simp);have q2:=q1.grown bU (by
     intro e
     obtain⟨_,c',kt⟩:=Tu g e.symm
     have:=(KX g c ty hb).symm.trans kt
     cases this;exact oc rfl)
    exact aF (aD _ l 3 _) df q2 qY
end
