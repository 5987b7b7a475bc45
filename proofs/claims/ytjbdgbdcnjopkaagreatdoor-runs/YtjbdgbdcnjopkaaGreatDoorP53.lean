/- For every text of bytes, function number, list of numbers and fuel the law Runs returns true: a function of a module that may be, run with any numbers and any fuel, and with numbers such as it takes, answers as the document has it; the condition: the table of kinds lies as the program's text lays it (the card ties that). -/
import Derived.Test.YtjbdgbdcnjopkaaGreatDoorP52
import Derived.Test.YtjbdgbdcnjopkaaGreatDoorP25
import Derived.Test.YtjbdgbdcnjopkaaGreatDoorCards
import Derived.Test.YtjbdgbdcnjopkaaGreatDoorTie
import Derived.SevenTiedAt
import Derived.WideKeyArgs
import Derived.Carry
namespace Go.Proofs.YtjbdgbdcnjopkaaGreatDoor
open Go.RowKit Go.Proofs.Tryz
set_option linter.unusedVariables false
set_option linter.unusedSimpArgs false
set_option maxRecDepth 100000
set_option maxHeartbeats 4000000
theorem RP {bs:List UInt8}{mm:bf}{fs:List bu}{aA:Nat} (hm:eD bs=.ok mm) (ht:bR mm mm.funs=.ok fs) (hf:aA<=100000):Pu mm fs aA:=by
 obtain⟨h1,h2⟩:=B9 hm ht;have hl:bs.length<=4000:=by
  unfold eD at hm;split at hm
  ·cases hm
  ·omega
 obtain⟨_,_,_,_,q1,q2,q3⟩:=(tR hl).1 mm hm;exact⟨h1,h2,q2,fun f hf=>⟨(q3 f hf).2.1,(q3 f hf).2.2.2.2.2⟩,q1,hf⟩
theorem fH.own {w:World}{az:Nat}{v:Value}{l:List Int} (h:w.ownsRow az 2 1 v l.length (cA l)):fH w v l:=by obtain⟨a,cap,rfl,_,_⟩:=aG h;refine⟨a,cap,rfl,fun j hj=>?_⟩;obtain⟨g,e1,e2⟩:=lz (m:=0) h j _ (ly hj);obtain⟨_,cc,od⟩:=ba h g (by rw[e1];rfl);exact⟨g,0,e1,od.lt,by rw[Nat.zero_add];exact e2⟩
theorem dt.own {w:World}{az cap:Nat}{a:Option Addr}{l:List Int} (h:w.ownsRow az 2 1 (.slice a l.length cap) l.length (cA l)):dt w a l:=fun h0=>by obtain⟨g,e1,_⟩:=lz (m:=0) h 0 _ (ly h0);obtain⟨_,cc,od⟩:=ba h g (by rw[e1];rfl);refine⟨g,0,e1,od.lt,fun j hj=>?_⟩;obtain⟨g',e1',e2⟩:=lz (m:=0) h j _ (ly hj);rw[e1] at e1';cases e1';rw[Nat.zero_add];exact e2
theorem fH.out {w0 w:World}{vv:Value}{l:List Int} (h:(vv=.slice none 0 0/\l=[])\/∃g,vv=.slice (some ⟨g,0,none⟩) l.length l.length/\w0.heap.size<=g/\Blk w g (cA l).toArray 2):fH w vv l:=by
 rcases h with⟨rfl,rfl⟩|⟨g,rfl,_,hb⟩
 ·exact⟨none,0,rfl,fun j hj=>by simp at hj⟩
 ·refine⟨_,_,rfl,fun j hj=>⟨g,0,rfl,hb.lt,?_⟩⟩;rw[Nat.zero_add,hb.cell];simpa using ly hj
theorem zT {w:World}{ops:Array Oper}{rest:List Oper}{o:Oper}{a:Act}{Q:Exit->Act->World->Prop} (us:o.guard=none) (s x:Operand) (ho:o.op=.call { callee:=.builtin .append,args:=#[s,x],argTypes:=#[31,31] }) (lo:Nat) (hs:a.eval s=.slice none 0 0) {sp:Option Addr}{cap:Nat}{args:List Int}{na:Nat} (uv:args.length=na) (hx:a.eval x=.slice sp na cap) (ha:dt w sp args) (kX:sp=none->cap=0) (h8:na*8<=140737488355328) (nO:lo<=w.heap.size)
  (h:∀ac capc w',w'.ownsRow lo 2 1 (.slice ac na capc) na (cA args)->dt w' ac args->w.grownBy w' none->wpList prog ops Q rest (a.put o.dst (.slice ac na capc)) w'):wpList prog ops Q (o::rest) a w:=by
 obtain⟨j0,Lu,Lp,WC,WD⟩:=info_parts sN;subst uv;cases mE:sp with
 | none =>
  have h0:args.length=0:=by
   rcases Nat.eq_zero_or_pos args.length with h|h
   ·exact h
   ·obtain⟨b,o,e,_⟩:=ha h;rw[mE] at e;cases e
  rw[mE,kX mE,h0] at hx;refine wpList_append_own_none us _ _ 31 ho lo 2 j0 1 underlying31 Lu (.slice none 0 0) 0 [] hs (World.ownsRow_nil _ _ _ _) hx ?_;have h1:args=[]:=List.eq_nil_of_length_eq_zero h0;have:=h none 0 w (by rw[h0,h1];exact World.ownsRow_nil _ _ _ _) (fun h=>by omega) (aH _ _);rw[h0] at this;exact this
 | some ad =>
  rw[mE] at hx;have rJ:∀j v,(cA args)[j]?=some v->w.cell? (ad.add j)=some v:=fun j v hj=>by
   have qc:j<args.length:=by have:=(gEs.1 hj).1;rwa [dw] at this
   obtain⟨ad',e1,e2⟩:=ha.src (by omega);rw[mE] at e1;cases e1;exact e2 j v hj
  refine wpList_append_own_at _ us _ _ 31 ho lo 2 j0 (.int .i64 0) 1 8 underlying31 Lu Lp WC WD rfl (by decide) (.slice none 0 0) 0 [] hs (World.ownsRow_nil _ _ _ _) ad args.length cap (cA args) hx (by rw[dw,Nat.mul_one]) rJ ?_ (by unfold maxLen;omega) (by omega) nO ?_
  ·intro u hu;unfold cA at hu;obtain⟨z,_,rfl⟩:=List.mem_map.1 hu;rfl
  ·intro v' w1 cG cD _ _;simp only[Nat.zero_add,List.nil_append] at cG;obtain⟨ac,capc,rfl,_,_⟩:=aG cG;exact h ac capc w1 cG (dt.own cG) cD
theorem KL {w:World}{x:Nat}{fs:List bu}{mm:bf} (hx:mh w x fs mm) {f aA er:Int}{sp:Option Addr}{cap:Nat}{args:List Int} (ha:dt w sp args) (kX:sp=none->cap=0) (h8:args.length*8<=140737488355328) {o:Out} (SY:o.values.length<=1000000)
  (hT:∀w1 b,BC w1 b fs->dt w1 sp args->Calls prog 24 #[ptr b,.int .i64 f,.slice sp args.length cap,.int .i64 aA] w1 fun e w'=>w1.grownBy w' none/\∃v,e=.returned (.tuple #[v,.int .i64 er])/\ow w1 w' v o)
  (hR:∀w1 az r ads ac capc,pV az w1 r mm ads->dt w1 ac args->Calls prog 39 #[ptr r,.int .i64 f,.slice ac args.length capc,.int .i64 aA] w1 fun e w'=>w1.grownBy w' none/\∃vv,e=.returned (.tuple #[.int .i64 o.ends,.int .i64 o.ay,vv,.int .i64 er])/\w'.ownsRow w1.heap.size 2 1 vv o.values.length (cA o.values)) :
  Calls prog 15 #[ptr x,.int .i64 f,.slice sp args.length cap,.int .i64 aA] w fun e w'=>w.grownBy w' none/\∃vv,e=.returned (.tuple #[vv,.bool true])/\((vv=.slice none 0 0/\o.values=[])\/∃g,vv=.slice (some ⟨g,0,none⟩) o.values.length o.values.length/\w.heap.size<=g/\Blk w' g (cA o.values).toArray 2):=by
 obtain⟨lo,nO⟩:∃lo,w.heap.size=lo:=⟨_,rfl⟩;obtain⟨na,uv⟩:∃na,args.length=na:=⟨_,rfl⟩;rw[uv] at h8 hT hR ⊢;have HX:Hid (mh w x fs mm):=hx;have HA:Hid (dt w sp args):=ha;have HT:Hid _:=hT;have HR:Hid _:=hR;have OU:Hid _:=uv;have zl:Hid _:=nO;have HC:Hid _:=kX;have H8:Hid (na*8<=140737488355328):=h8;have HOL:Hid (o.values.length<=1000000):=SY;rw[nO];clear hx ha uv kX nO SY hT hR h8;go_enter func15,ntmps15;go_upto_region 3 with(at_builtin;refine zT rfl _ _ rfl lo rfl OU.out rfl HA.out HC.out H8.out (Nat.le_of_eq zl.out.symm) ?aq5;intro ac capc w1 _ Y2 RQ)
 have HAC:Hid (dt w1 ac args):=Y2;have ID:Hid (w.grownBy w1 none):=RQ;clear Y2 RQ;obtain⟨b,r,ads,az,h1,h2,h4⟩:=mh.kept HX.out ID.out;have x0:=h1.cell 0;have xV:=h1.lt;simp at x0;have hT:=HT.out w1 b h2 (dt.kept HA.out ID.out);have R8:Hid _:=hT;have H1:Hid (Blk w1 x #[ptr b,ptr r] 42):=h1;have H4:Hid (pV az w1 r mm ads):=h4;clear hT h1 h2 h4;go_wp2_with fail;refine Calls.mono R8.out ?_;rintro e w2 ⟨aP,v,rfl,vv,rfl,JD⟩;have DR:Hid (w1.grownBy w2 none):=aP;have Y3:Hid ((vv=.slice none 0 0/\o.values=[])\/∃g,vv=.slice (some ⟨g,0,none⟩) o.values.length o.values.length/\w1.heap.size<=g/\Blk w2 g (cA o.values).toArray 2):=JD;obtain⟨va,vn,vc,rfl⟩:∃a n c,vv=.slice a n c:=by
  rcases JD with⟨rfl,_⟩|⟨g,rfl,_⟩
  ·exact⟨_,_,_,rfl⟩
  ·exact⟨_,_,_,rfl⟩
 clear aP JD R8 x0 xV;go_upto_region 4 with fail
 have hO:=Blk.new w2 #[.int .i64 o.ends,.int .i64 o.ay,.slice va vn vc] 73;have SZ:=aC w2 (.cells #[.int .i64 o.ends,.int .i64 o.ay,.slice va vn vc] 73) none;obtain⟨wC,Y4⟩:∃z,w2.alloc (.cells #[.int .i64 o.ends,.int .i64 o.ay,.slice va vn vc] 73)=z:=⟨_,rfl⟩;rw[Y4] at hO SZ ⊢;obtain⟨gO,Y5⟩:∃z,w2.heap.size=z:=⟨_,rfl⟩;rw[Y5] at hO ⊢;have xc:=aB DR.out SZ;have tk:Blk wC x #[ptr b,ptr r] 42:=Blk.grown H1.out xc (by simp);have x1:=tk.cell 1;have xV:=tk.lt;simp at x1;have hR:=HR.out wC az r ads ac capc (pV.keep H4.out fun g cs t _ _ _ hb=>Blk.grown hb xc (by simp)) (dt.kept HAC.out xc);have uw:Hid _:=hR;have HO:Hid (Blk wC gO #[.int .i64 o.ends,.int .i64 o.ay,.slice va vn vc] 73):=hO;have RM:Hid (w2.grownBy wC none):=SZ;clear hR hO SZ Y4 Y5 xc tk;go_wp2_with fail;refine Calls.mono uw.out ?_;rintro e2 w3 ⟨co,v3,rfl,jm⟩;have S0:Blk w3 gO #[.int .i64 o.ends,.int .i64 o.ay,.slice va vn vc] 73:=Blk.grown HO.out co (by simp);have xl:w2.grownBy w3 none:=aB RM.out co;have vz:fH w3 (.slice va vn vc) o.values:=by
  refine fH.out (w0:=w1) ?_;rcases Y3.out with⟨e1,e2⟩|⟨g,e1,e2,e3⟩
  ·exact .inl ⟨e1,e2⟩
  ·exact .inr ⟨g,e1,e2,Blk.grown e3 xl (by simp)⟩
 have BR:=fH.own jm;have hS:=xL vz BR HOL.out;obtain⟨a3,c3,rfl,_,_⟩:=aG jm;have HS:Hid _:=hS;have HG4:Hid (w2.grownBy w3 none):=xl;have o2:=S0.cell 2;simp at o2;have RR:=S0.lt;have V4:Hid (Blk w3 gO #[.int .i64 o.ends,.int .i64 o.ay,.slice va vn vc] 73):=S0;clear S0 xl vz BR hS jm co uw x1 xV;go_wp2_with fail;refine Calls.mono HS.out ?_;rintro e3 w4 ⟨rfl,m4,ye⟩;have RS:Blk w4 gO #[.int .i64 o.ends,.int .i64 o.ay,.slice va vn vc] 73:=by rw[ye];exact V4.out
 have Y6:Hid (w2.grownBy w4 none):=by show w2.grownBy w4 none;rw[ye];exact bd HG4.out _
 clear ye HS o2 RR;have o0:=RS.cell 0;have o1:=RS.cell 1;have o2:=RS.cell 2;simp at o0 o1 o2;have RR:=RS.lt;clear RS;go_wp2_with fail;go_quiet (first|(go_at_call 37;refine Calls.quiet_of_same ud)|(go_at_call 41;refine Calls.quiet_of_same Hz))
 go_wp2_with fail;go_ret2;refine⟨bd (aB (aB ID.out DR.out) Y6.out) _,_,rfl,?_⟩;rcases Y3.out with⟨e1,e2⟩|⟨g,e1,e2,e3⟩
 ·exact .inl ⟨e1,e2⟩
 ·exact .inr ⟨g,e1,by have h1:=ID.out.size;have h2:=zl.out;omega,Blk.grown e3 (bd Y6.out _) (by simp)⟩
theorem On {w:World}{x:Nat}{fs:List bu}{mm:bf}{bs:List UInt8} (hx:mh w x fs mm) (hm:eD bs=.ok mm) (ht:bR mm mm.funs=.ok fs) {i aA:Nat} (du:aA<=100000) {lf:bu} (hf:fs[i]?=some lf) {sp:Option Addr}{cap:Nat}{args:List Int} (ha:dt w sp args) (kX:sp=none->cap=0) (hv:bG lf.aj args) {o:Out} (hr:wQ fs i args aA=some o) (SY:o.values.length<=1000000) :
  Calls prog 15 #[ptr x,.int .i64 i,.slice sp args.length cap,.int .i64 aA] w fun e w'=>w.grownBy w' none/\∃vv,e=.returned (.tuple #[vv,.bool true])/\((vv=.slice none 0 0/\o.values=[])\/∃g,vv=.slice (some ⟨g,0,none⟩) o.values.length o.values.length/\w.heap.size<=g/\Blk w' g (cA o.values).toArray 2):=by
 have hp:=RP hm ht du;have A6:eU bs=.ok fs:=by unfold eU;rw[hm];exact ht
 obtain⟨fQ,j5⟩:=wP A6;have acU:args.length<=6:=by obtain⟨pf,ai,T,R,P,n,hF⟩:=hp.fns i lf hf;have:=(hp.sigs _ (gMo hF.tr.sig)).1;have h2:=hv.len;simp only at this;omega
 exact KL hx ha kX (by omega) SY (fun w1 b ⟨gF,h1,h2⟩ rD=>JE h1 h2 fQ hf rD du (uj hv) hr) (fun w1 az r ads ac capc h1 rD=>KJ hp h1 hf rD hv hr)
def uk:ByteArray:=⟨#[84,82,1,1,2,1,1,1,1,1,0,0,0,6,14,0,14,1,30,6]⟩
def Oo:Bool:=match eU uk.data.toList with
 | .error _=>false
 | .ok fs=>match fs[0]? with
  | none=>false
  | some lf=>(lf.aj == [1,1]) && (match wQ fs 0 [5,7] 9 with
   | none=>false
   | some o=>o.values == [12])
theorem Cm:Oo=true:=by kernel_rfl
theorem D1 {fs:List bu} (h:eU uk.data.toList=.ok fs):∃lf o,fs[0]?=some lf/\lf.aj=[1,1]/\wQ fs 0 [5,7] 9=some o/\o.values=[12]:=by
 have hb:=Cm;unfold Oo at hb;rw[h] at hb;simp only at hb;cases hf:fs[0]? with
 | none=>rw[hf] at hb;cases hb
 | some lf =>
  rw[hf] at hb;simp only[Bool.and_eq_true] at hb;cases hr:wQ fs 0 [5,7] 9 with
  | none=>rw[hr] at hb;exact absurd hb.2 (by simp)
  | some o =>
   rw[hr] at hb;exact⟨lf,o,rfl,by simpa using hb.1,rfl,by simpa using hb.2⟩
theorem KM {er:Er} (h:eU uk.data.toList=.error er):False:=by have hb:=Cm;unfold Oo at hb;rw[h] at hb;cases hb
theorem zU:(#[.int .u8 84,.int .u8 82,.int .u8 1,.int .u8 1,.int .u8 2,.int .u8 1,.int .u8 1,.int .u8 1,.int .u8 1,.int .u8 1,.int .u8 0,.int .u8 0,.int .u8 0,.int .u8 6,.int .u8 14,.int .u8 0,.int .u8 14,.int .u8 1,.int .u8 30,.int .u8 6]:Array Value)=uk.data.map fun b=>Value.int .u8 b.toNat:=by kernel_rfl
theorem H7 (w:World) (x y:Int):dt (w.alloc (.cells #[.int .i64 x,.int .i64 y] 2)) (some ⟨w.heap.size,0,none⟩) [x,y]:=fun _ =>
 ⟨w.heap.size,0,rfl,by simp,fun j hj=>by
  rw[Nat.zero_add,(Blk.new w #[.int .i64 x,.int .i64 y] 2).cell]
  match j,hj with
  | 0,_=>rfl
  | 1,_=>rfl⟩
def iP (w:World) (c:Array Value):World:=(w.alloc (.cells c 5)).freeze ⟨w.heap.size,c.size,none⟩ 1
theorem lL (w:World) (c:Array Value) (n k:Nat):(convert 26 26 (.slice (some ⟨w.heap.size,0,none⟩) n k)).run prog (w.alloc (.cells c 5))=.ok (.slice (some ⟨w.heap.size,0,none⟩) n k) (iP w c):=by
 have hsh:(w.alloc (.cells c 5)).shape? w.heap.size=some (5,c.size):=by simp[World.shape?,World.alloc,-World.alloc_eq]
 simp[convert,run_underlying underlying26,run_underlying underlying5,markStringish,iP,hsh,Result.andThen]
theorem zV (w:World) (c:Array Value) (j:Nat) (hj:j<w.heap.size):(iP w c).heap[j]?=w.heap[j]?:=by
 have h1:w.heap.size≠j:=by omega
 simp[iP,World.freeze,World.alloc,-World.alloc_eq,Array.getElem?_modify,Array.getElem?_push,h1,Ne.symm h1]
theorem zW (w:World) (c:Array Value):(iP w c).heap[w.heap.size]?=some (.cells c 5 (c.size,c.size+1)):=by simp[iP,World.freeze,World.alloc,-World.alloc_eq];rw[Array.getElem_modify_self];simp
theorem xN (w:World) (c:Array Value):(iP w c).heap.size=w.heap.size+1:=by simp[iP,World.freeze,World.alloc,-World.alloc_eq]
theorem xO (w:World) (c:Array Value) (j:Nat):(iP w c).cell? ⟨w.heap.size,j,none⟩=c[j]?:=by simp[World.cell?,zW]
theorem vu (w:World) (c:Array Value):w.grownBy (iP w c) none:=
 ⟨rfl,rfl,rfl,by rw[xN];omega,fun k hk _=>zV w c k hk⟩
theorem D2 {w:World}{B:Nat} (hK:iu B w) (hB:B<=w.heap.size):Calls prog 12 #[] w fun e w'=>w.grownBy w' none/\∃x,e=.returned (ptr x)/\∃fs mm,mh w' x fs mm/\eD uk.data.toList=.ok mm/\bR mm mm.funs=.ok fs:=by
 have yc:=lL w #[.int .u8 84,.int .u8 82,.int .u8 1,.int .u8 1,.int .u8 2,.int .u8 1,.int .u8 1,.int .u8 1,.int .u8 1,.int .u8 1,.int .u8 0,.int .u8 0,.int .u8 0,.int .u8 6,.int .u8 14,.int .u8 0,.int .u8 14,.int .u8 1,.int .u8 30,.int .u8 6] 20 20;have qm:=vu w #[.int .u8 84,.int .u8 82,.int .u8 1,.int .u8 1,.int .u8 2,.int .u8 1,.int .u8 1,.int .u8 1,.int .u8 1,.int .u8 1,.int .u8 0,.int .u8 0,.int .u8 0,.int .u8 6,.int .u8 14,.int .u8 0,.int .u8 14,.int .u8 1,.int .u8 30,.int .u8 6];have jW:=xO w #[.int .u8 84,.int .u8 82,.int .u8 1,.int .u8 1,.int .u8 2,.int .u8 1,.int .u8 1,.int .u8 1,.int .u8 1,.int .u8 1,.int .u8 0,.int .u8 0,.int .u8 0,.int .u8 6,.int .u8 14,.int .u8 0,.int .u8 14,.int .u8 1,.int .u8 30,.int .u8 6];obtain⟨wA,Ak⟩:∃z,iP w #[.int .u8 84,.int .u8 82,.int .u8 1,.int .u8 1,.int .u8 2,.int .u8 1,.int .u8 1,.int .u8 1,.int .u8 1,.int .u8 1,.int .u8 0,.int .u8 0,.int .u8 0,.int .u8 6,.int .u8 14,.int .u8 0,.int .u8 14,.int .u8 1,.int .u8 30,.int .u8 6]=z:=⟨_,rfl⟩;rw[Ak] at yc qm jW;clear Ak;have hL:=ue (s:=uk) (g:=w.heap.size) (o:=0) (cap:=20) (hK.grown qm hB (by simp)) (Nat.le_trans hB qm.size) (fun i hi=>by
  rw[Nat.zero_add,jW,zU]
  simp only[Array.getElem?_map]
  rw[Array.getElem?_eq_getElem (by simpa using hi)]
  simp) (by decide) (by decide)
 have HL:Hid _:=hL;have G6:Hid _:=qm;clear hL qm jW hK hB;go_enter func12,ntmps12;go_wp2_with fail;clear yc;refine Calls.mono HL.out ?_;rintro e w1 ⟨eZ,gL⟩;rcases gL with⟨er,h1,_⟩|⟨x,fs,mm,h1,h2,h3,rfl,h4⟩
 ·exact(KM h1).elim
 ·obtain⟨lf,o,p1,p2,p3,p4⟩:=D1 h3;have Mv:=aC w1 (.cells #[.int .i64 5,.int .i64 7] 2) none;have hR:=On (i:=0) (aA:=9) (cap:=2) (h4.kept Mv) h1 h2 (by decide) p1 (H7 w1 5 7) (by simp) (by rw[p2];exact⟨.inl ⟨rfl,by unfold eX;decide⟩,.inl ⟨rfl,by unfold eX;decide⟩,trivial⟩) p3 (by rw[p4];decide);rw[p4] at hR;have HR:Hid _:=hR;have HB4:Hid (mh w1 x fs mm/\eD uk.data.toList=.ok mm/\bR mm mm.funs=.ok fs):=⟨h4,h1,h2⟩;have ID:Hid _:=eZ;have HGB:Hid _:=Mv;clear hR h1 h2 h3 h4 p1 p2 p3 p4 eZ Mv HL;go_wp2_with fail;refine Calls.mono HR.out ?_;rintro e2 w2 ⟨aP,vv,rfl,JD⟩;rcases JD with⟨_,h0⟩|⟨g,rfl,_,hb⟩
  ·cases h0
  ·have c0:=hb.cell 0;simp[cA] at c0;have iB:=hb.lt;have DR:Hid _:=aP;clear hb aP HR;go_wp2_with fail;go_ret;exact⟨aB (aB G6.out ID.out) (aB HGB.out DR.out),x,rfl,fs,mm,mh.kept HB4.out.1 (aB HGB.out DR.out),HB4.out.2⟩
theorem D3 (w:World) (s:ByteArray):w.grownBy (Lib.bytesWorld w 5 s) none:=
 ⟨rfl,rfl,rfl,by rw[Lib.bytesWorld_size];omega,fun k hk _=>Lib.bytesWorld_at_old w 5 s k hk⟩
def aaz (raw:List Int) (aj:List Nat) (k:Nat):Int:=
 if aj[k]?=some 1 then ((raw[k]?).getD k).tmod 2147483648 else (raw[k]?).getD k
def aaq (raw:List Int) (aj:List Nat) (k:Nat):List Int:=(List.range k).map (aaz raw aj)
theorem aaB (raw:List Int) (aj:List Nat) (k:Nat):(aaq raw aj k).length=k:=by simp[aaq]
theorem aar (raw:List Int) (aj:List Nat) (k:Nat):aaq raw aj (k+1)=aaq raw aj k++[aaz raw aj k]:=by simp[aaq,List.range_succ]
theorem aa8 (n:Int):eX (n.tmod 2147483648):=by have h1:=Int.natAbs_tmod n 2147483648;have h2:n.natAbs % 2147483648<2147483648:=Nat.mod_lt _ (by decide);unfold eX;have h3:(2147483648:Int).natAbs=2147483648:=rfl;rw[h3] at h1;omega
theorem aa9 {raw:List Int}{aj:List Nat}{k t:Nat} (hr:∀x∈raw,dZ x) (ht:aj[k]?=some t) (C9:t=1\/t=2) (hk:k<=100):fw t (aaz raw aj k):=by
 have hn:dZ ((raw[k]?).getD k):=by
  cases h:raw[k]? with
  | none=>simp[dZ];omega
  | some x=>exact hr x (gMo h)
 unfold aaz;rcases C9 with rfl|rfl
 ·rw[if_pos ht];exact .inl ⟨rfl,aa8 _⟩
 ·rw[if_neg (by rw[ht];decide)];exact .inr ⟨rfl,hn⟩
theorem aaF {raw:List Int}{aj:List Nat} (hr:∀x∈raw,dZ x) (C9:∀t∈aj,t=1\/t=2) (hl:aj.length<=100):∀k,k<=aj.length->bG (aj.take k) (aaq raw aj k)
 | 0,_=>by simp[aaq,bG]
 | k+1,hk=>by rw[aar,List.take_succ_eq_append_getElem (by omega)];have hg:=gEg (l:=aj) (i:=k) (by omega);exact(aaF hr C9 hl k (by omega)).append (bG.single (aa9 hr hg (C9 _ (List.getElem_mem (by omega))) (by omega)))
section
variable {w:World}{fs:List bu}{gF:Nat}
theorem aa0 {az g cap cap2:Nat}{ts:List Nat}{xs:List Int}{sp:Option Addr} (hv:bO az w (.slice (some ⟨g,0,none⟩) ts.length cap) ts) (ha:dt w sp xs) (hl:ts.length<=100) :
  Calls prog 69 #[.slice (some ⟨g,0,none⟩) ts.length cap,.slice sp xs.length cap2] w fun e w'=>e=.returned (.bool (fj ts xs))/\w'=w:=by
 obtain⟨g',cap',c,e,_,hb,hc⟩:=hv;cases e;by_cases aQ:ts.length=xs.length
 ·obtain⟨n,hn⟩:∃n,ts.length=n:=⟨_,rfl⟩;rw[<-aQ,hn];have HN:Hid (ts.length=n):=hn;have HX:Hid (xs.length=n):=by show _=_;omega
  have HC:Hid _:=hc;have HA:Hid _:=ha;have In:(n:Int)<=100:=by omega
  obtain⟨q,hq⟩:∃b,fj ts xs=b:=⟨_,rfl⟩;rw[hq];have HB:Hid (fj ts xs=q):=hq;clear hn aQ hc ha hq hl;go_enter func69,ntmps69;go_wp2_with fail;go_loopw [14] (fun i wr=>∃k:Nat,i=.int .i64 k/\k<=n/\wr=w/\fj (ts.drop k) (xs.drop k)=q) (fun i _=>n-(intOf i).toNat)
  case atStart=>exact⟨0,rfl,Nat.zero_le _,rfl,by simpa using HB.out⟩
  case round =>
   obtain⟨k,rfl,hk,rfl,i7⟩:=hrel;by_cases bM:k<n
   ·have pB:(k:Int)<(n:Int):=by omega
    have ME:k<ts.length:=by rw[HN.out];exact bM
    have PV:k<xs.length:=by rw[HX.out];exact bM
    obtain⟨bA,o,rfl,BK,cZ⟩:=HA.out (by omega);have x1:=cZ k PV;have t2:=(hb.cell k).trans (HC.out k ME);rw[zL ME PV] at i7;obtain⟨t,ht⟩:∃t,ts[k]=t:=⟨_,rfl⟩;obtain⟨x,hx⟩:∃x,xs[k]=x:=⟨_,rfl⟩;rw[ht] at t2 i7;rw[hx] at x1 i7;have qQ:Hid _:=i7;clear cZ ht hx i7;by_cases h1:t=1
    ·subst h1;have XB:=yU (w:=wr) x;cases hs:(x == IntKind.i32.wrap x)
     ·rw[hs] at XB;have hf:q=false:=by rw[<-qQ.out,hs];rfl
      clear hs;subst hf;go_wp2_with (go_at_call 82;refine XB.mono ?_;rintro e w2 ⟨rfl,rfl⟩)
      go_ret;exact⟨rfl,rfl⟩
     ·rw[hs] at XB;have hf:Hid (fj (ts.drop (k+1)) (xs.drop (k+1))=q):=by show _=_;rw[<-qQ.out,hs];simp
      clear hs qQ;go_wp2_with (go_at_call 82;refine XB.mono ?_;rintro e w2 ⟨rfl,rfl⟩)
      go_roundw
      case rel=>exact⟨k+1,by simp,by omega,by trivial,hf.out⟩
      case measure=>simp[intOf];omega
    ·have b1:((t:Int) == 1)=false:=beqn (by omega);have hf:Hid (fj (ts.drop (k+1)) (xs.drop (k+1))=q):=by
      show _=_;rw[<-qQ.out];have:(t == 1)=false:=by rw[beq_eq_false_iff_ne];exact h1
      rw[this];simp
     clear h1 qQ;go_wp2_with fail;go_roundw
     case rel=>exact⟨k+1,by simp,by omega,by trivial,hf.out⟩
     case measure=>simp[intOf];omega
   ·obtain rfl:k=n:=by omega
    rw[List.drop_of_length_le (by rw[HN.out];exact nLr _),List.drop_of_length_le (by rw[HX.out];exact nLr _)] at i7;have hb:q=true:=i7.symm;subst hb;clear i7;go_wp2_with fail;go_ret;exact⟨rfl,rfl⟩
 ·rw[tY aQ];obtain⟨n1,h1⟩:∃n,ts.length=n:=⟨_,rfl⟩;obtain⟨n2,h2⟩:∃n,xs.length=n:=⟨_,rfl⟩;rw[h1,h2] at aQ ⊢;have b1:((n2:Int) == (n1:Int))=false:=beqn (by omega);have b2:((n2:Int) != (n1:Int))=true:=by rw[bne_iff_ne];omega
  clear hc ha hb hl h1 h2 aQ;go_enter func69,ntmps69;go_wp2_with fail;go_ret;exact⟨rfl,rfl⟩
theorem aa1 {b:Nat} (hb:Blk w b #[.slice (some ⟨gF,0,none⟩) fs.length fs.length] 106) (hL:dM w (.slice (some ⟨gF,0,none⟩) fs.length fs.length) fs) (fQ:yJ fs) {f aA:Int}{sp:Option Addr}{cap:Nat}{args:List Int} (ha:dt w sp args) (gK:∀(i fu:Nat) (lf:bu),f=i->fs[i]?=some lf->aA=fu->fu<=100000->fj lf.aj args=false) :
  Calls prog 49 #[.pointer (some ⟨b,0,none⟩),.int .i64 f,.slice sp args.length cap,.int .i64 aA] w fun e w'=>e=.returned (.bool false)/\w'=w:=by
 have c0:=hb.cell 0;simp at c0;have lv:(fs.length:Int)<=100:=by have:=fQ.1;omega
 by_cases h1:f<0
 ·clear gK ha hL fQ;go_enter func49,ntmps49;go_wp2_with fail;go_ret;exact⟨rfl,rfl⟩
 ·obtain⟨i,rfl⟩:∃i:Nat,f=i:=⟨f.toNat,by omega⟩;clear h1;by_cases h2:i<fs.length
  ·have lx:(i:Int)<(fs.length:Int):=by omega
   by_cases h3:aA<0
   ·clear gK ha hL fQ h2;go_enter func49,ntmps49;go_wp2_with fail;go_ret;exact⟨rfl,rfl⟩
   ·obtain⟨fu,rfl⟩:∃i:Nat,aA=i:=⟨aA.toNat,by omega⟩;clear h3;by_cases h4:fu<=100000
    ·have Fs:=gK i fu fs[i] rfl (gEg h2) rfl h4;have PO:(fu:Int)<=100000:=by omega
     obtain⟨g,cF,e,Uj,ou⟩:=hL;cases e;obtain⟨v0,v1,v2,v3,y0,y1,y2,y3,vt,vg,vp,tb,cs,e,ht,hg,ho,M2,Sl⟩:=ou i h2;cases e;have Mu:=ht;obtain⟨g1,k1,q1,rfl,_⟩:=Mu;have Ft:=(fQ.2 _ (List.getElem_mem h2)).1;have PW:=aa0 (cap2:=cap) ht ha Ft;rw[Fs] at PW;have z0:=Uj.cell (i*4);rw[Nat.mul_comm,y0,Nat.mul_comm] at z0;obtain⟨n1,vz⟩:∃n1,fs[i].aj.length=n1:=⟨_,rfl⟩;rw[vz] at z0 PW;clear vz y0 y1 y2 y3 Fs h4;go_enter func49,ntmps49;go_wp2_with (go_at_call 69;refine PW.mono ?_;rintro e w2 ⟨rfl,rfl⟩)
     go_ret;exact⟨rfl,rfl⟩
    ·have PO:(100000:Int)<(fu:Int):=by omega
     clear gK ha hL fQ h2 h4;go_enter func49,ntmps49;go_wp2_with fail;go_ret;exact⟨rfl,rfl⟩
  ·have lx:(fs.length:Int)<=(i:Int):=by omega
   clear gK ha hL fQ h2;go_enter func49,ntmps49;go_wp2_with fail;go_ret;exact⟨rfl,rfl⟩
theorem abn {b:Nat} (hb:Blk w b #[.slice (some ⟨gF,0,none⟩) fs.length fs.length] 106) (hL:dM w (.slice (some ⟨gF,0,none⟩) fs.length fs.length) fs) (fQ:yJ fs) (kx:0<fs.length) {f aA:Int}{sp:Option Addr}{cap:Nat}{args:List Int} (ha:dt w sp args) (gK:∀(i fu:Nat) (lf:bu),f=i->fs[i]?=some lf->aA=fu->fu<=100000->fj lf.aj args=false) :
  Calls prog 24 #[.pointer (some ⟨b,0,none⟩),.int .i64 f,.slice sp args.length cap,.int .i64 aA] w fun e w'=>w.grownBy w' none/\∃v,e=.returned (.tuple #[v,.int .i64 8])/\ow w w' v ⟨0,0,[]⟩:=by
 obtain⟨w1,M8⟩:∃w1,w.alloc (.cells #[.int .i64 0,.int .i64 0,.slice none 0 0] 73)=w1:=⟨_,rfl⟩;have oa:w.grownBy w1 none:=by rw[<-M8];exact aC _ _ _
 have ku:Blk w1 w.heap.size #[.int .i64 0,.int .i64 0,.slice none 0 0] 73:=by rw[<-M8];exact Blk.new _ _ _
 have iW:=hb.grown oa (by simp);have h1:=vP iW kx;have h2:=aa1 (cap:=cap) iW (hL.grown oa) fQ (ha.kept oa) gK;have c0:=iW.cell 0;simp at c0;have x0:=ku.cell 0;have x1:=ku.cell 1;have x2:=ku.cell 2;simp at x0 x1 x2;have y0:=ku.frozen 0;have y1:=ku.frozen 1;have y2:=ku.frozen 2;clear gK;go_enter func24,ntmps24;go_wp2_with (first|(go_at_call 47;refine h1.mono ?_;rintro e w2 ⟨rfl,rfl⟩)|(go_at_call 49;refine h2.mono ?_;rintro e w2 ⟨rfl,rfl⟩))
 have r8:=jq ku (.int .i64 0) (.int .i64 0) (.slice none 0 0);have g8:=aO oa (nLr w.heap.size) (ii _ w.heap.size (.int .i64 0) (.int .i64 0) (.slice none 0 0));unfold sQ at r8 g8;have z0:=r8.cell 0;have z1:=r8.cell 1;have z2:=r8.cell 2;simp at z0 z1 z2;exact bodyPost_ret (v:=.tuple #[.agg #[.int .i64 0,.int .i64 0,.slice none 0 0],.int .i64 8]) (by simp[results,results24,go_sem,z0,z1,z2]) rfl ⟨g8,_,rfl,_,rfl,.inl ⟨rfl,rfl⟩⟩
end
def aba (c:Int) (n:Nat):Nat:=(if c<0 then -(c+1) else c).toNat % n
theorem abb {w:World}{c:Int} (h1:-9223372036854775808<=c) (h2:c<=9223372036854775807) {n:Nat} (hn:0<n) (BR:n<=10000000) :
  Calls prog 16 #[.int .i64 c,.int .i64 n] w fun e w'=>e=.returned (.int .i64 (aba c n))/\w'=w:=by
 obtain⟨k0,uH,mD⟩:∃k0:Nat,(if c<0 then -(c+1) else c)=(k0:Int)/\k0<=9223372036854775807:=⟨(if c<0 then -(c+1) else c).toNat,by split <;> omega,by split <;> omega⟩;have hp:aba c n=k0 % n:=by unfold aba;rw[uH,Int.toNat_natCast]
 rw[hp];clear hp;have uJ:(n:Int)<=10000000:=by omega
 have yk:0<(n:Int):=by omega
 have e4:(k0:Int).tmod (n:Int)=((k0 % n:Nat):Int):=by rw[Int.tmod_eq_emod_of_nonneg (by omega)];rfl
 have rQ:(k0:Int)<=9223372036854775807:=by omega
 by_cases a:c<0
 ·rw[if_pos a] at uH;have e:c = -(k0:Int)-1:=by omega
  subst e;have e2:-(-(k0:Int)-1+1)=(k0:Int):=by omega
  have e3:(0:Int)-(-(k0:Int)-1+1)=(k0:Int):=by omega
  clear uH;go_enter func16,ntmps16;go_wp2;go_ret;refine⟨?_,rfl⟩;first|rfl|(simp;done)|simp[e4]
 ·rw[if_neg a] at uH;subst uH;go_enter func16,ntmps16;go_wp2;go_ret;refine⟨?_,rfl⟩;first|rfl|(simp;done)|simp[e4]
theorem aaG {w:World}{c:Int} (h1:-9223372036854775808<=c) (h2:c<=9223372036854775807) {n:Nat} (hn:0<n) (BR:n<=10000000) :
  Calls prog 16 #[.int .i64 c,.int .i64 n] w fun e w'=>(∃k:Nat,k<n/\e=.returned (.int .i64 k))/\w'=w:=
 (abb h1 h2 hn BR).mono fun _ _ h=>⟨⟨_,Nat.mod_lt _ hn,h.1⟩,h.2⟩
theorem aas {w0 w:World}{ops:Array Oper}{rest:List Oper}{o:Oper}{a:Act}{Q:Exit->Act->World->Prop} (us:o.guard=none) (s x:Operand) (ho:o.op=.call { callee:=.builtin .append,args:=#[s,x],argTypes:=#[31,31] }) {lo:Nat} (nO:w0.heap.size=lo) {av:Option Addr}{j capv:Nat}{l:List Int}{M:Int} (hs:a.eval s=.slice av j capv) (hx:a.eval x=.slice (some ⟨w.heap.size,0,none⟩) 1 1) (bn:w.ownsRow lo 2 1 (.slice av j capv) j (cA l)) (hj:j<=100) (hg:w0.grownBy w none)
  (h:∀a' cap' w',w'.ownsRow lo 2 1 (.slice a' (j+1) cap') (j+1) (cA (l++[M]))->w0.grownBy w' none->wpList prog ops Q rest (a.put o.dst (.slice a' (j+1) cap')) w'):wpList prog ops Q (o::rest) a (w.alloc (.cells #[.int .i64 M] 2)):=by
 obtain⟨i0,hi,fo,eP,eV⟩:=info_parts sN;refine wpList_append_own_at _ us _ _ 31 ho lo 2 i0 (.int .i64 0) 1 8 underlying31 hi fo eP eV rfl (by decide) (.slice av j capv) j (cA l) hs (bn.alloc _) ⟨w.heap.size,0,none⟩ 1 1 [.int .i64 M] hx rfl (cell_one_new _ _ _) (by simp[Value.oneCell']) (by simp[maxLen];omega) (by omega) (by have:=hg.size;simp;omega) ?_;intro v' w' cG cD _ _;obtain⟨a',cap',rfl,_,_⟩:=aG cG;refine h a' cap' w' ?_ ?_
 ·have e:cA (l++[M])=cA l++[.int .i64 M]:=by simp[cA]
  rw[e];exact cG
 ·have g0:=aB hg (aC w (.cells #[.int .i64 M] 2) none);cases i7:(Value.slice av j capv).ownBlock with
  | none=>rw[i7] at cD;exact aB g0 cD
  | some g=>rw[i7] at cD;exact aO g0 (by have:=(ba bn g i7).1;omega) cD
theorem aaS {w:World}{capt cap:Nat}{at_:Option Addr}{ts:List Nat}{sp:Option Addr}{raw:List Int} (hv:aR w (.slice at_ ts.length capt) ts) (hl:ts.length<=6) (ha:dt w sp raw) (hr:∀x∈raw,dZ x) (SJ:raw.length<=9223372036854775807) :
  Calls prog 17 #[.slice at_ ts.length capt,.slice sp raw.length cap] w fun e w'=>w.grownBy w' none/\∃a c,e=.returned (.slice a ts.length c)/\dt w' a (aaq raw ts ts.length)/\(a=none->c=0):=by
 obtain⟨lo,nO⟩:∃lo,w.heap.size=lo:=⟨_,rfl⟩;obtain⟨n,hn⟩:∃n,ts.length=n:=⟨_,rfl⟩;obtain⟨rl,abC⟩:∃n,raw.length=n:=⟨_,rfl⟩;have BL:∀k (h:k<ts.length),∃gq,at_=some ⟨gq,0,none⟩/\gq<lo/\w.cell? ⟨gq,k,none⟩=some (.int .i64 ts[k]):=fun k hk=>by
  rcases hv.cases with⟨_,e⟩|⟨gq,cp,e1,e2⟩
  ·rw[e] at hk;simp at hk
  ·cases e1;obtain⟨_,cc,od⟩:=ba hv gq (by simp[Value.ownBlock]);exact⟨gq,rfl,by have:=od.lt;omega,e2 k _ (by simp[aV,gEg hk])⟩
 have HT:Hid _:=BL;have HA:Hid (dt w sp raw):=ha;have HR:Hid _:=hr;have zl:Hid (w.heap.size=lo):=nO;have HN:Hid (ts.length=n):=hn;have HRL:Hid (raw.length=rl):=abC;have uJ:(n:Int)<=6:=by omega
 have ZO:(rl:Int)<=9223372036854775807:=by omega
 rw[hn,abC];clear BL ha hr nO hn abC hv hl SJ;go_enter func17,ntmps17;go_wp2_with fail;go_loopw [5,6] (fun v i wr=>∃(j:Nat) (av:Option Addr) (capv:Nat),v=.slice av j capv/\i=.int .i64 j/\j<=n/\wr.ownsRow lo 2 1 (.slice av j capv) j (cA (aaq raw ts j))/\w.grownBy wr none) (fun _ i _=>n-(intOf i).toNat)
 case atStart=>exact⟨0,none,0,rfl,rfl,Nat.zero_le _,World.ownsRow_nil _ _ _ _,aH _ _⟩
 case round =>
  obtain⟨j,av,capv,rfl,rfl,hj,bn,To⟩:=hrel;by_cases hj1:j<n
  ·have adN:(j:Int)<(n:Int):=by omega
   have Lu:(0:Int)<=j:=by omega
   have hjt:j<ts.length:=by rw[HN.out];exact hj1
   obtain⟨gq,rfl,hgq,Qt⟩:=HT.out j hjt;have ct3:=To.cell Qt (by simp);have adP:gq<wr.heap.size:=by have:=To.size;have:=zl.out;omega
   obtain⟨tt,htj⟩:∃tt,ts[j]=tt:=⟨_,rfl⟩;rw[htj] at ct3;have HG:Hid (ts[j]?=some tt):=by show _=_;rw[gEg hjt,htj]
   clear Qt htj hgq;have HO:Hid _:=bn;have HGI:Hid (w.grownBy wr none):=To;clear bn;obtain⟨N,hN,hN1,JS⟩:∃N:Int,(raw[j]?).getD j=N /\ -9223372036854775808<=N/\N<=9223372036854775807:=by
    refine⟨_,rfl,?_⟩;cases hq:raw[j]? with
    | none=>simp;omega
    | some y=>exact HR.out y (gMo hq)
   obtain⟨M,hM⟩:∃M,Int.tmod N 2147483648=M:=⟨_,rfl⟩;have abO:=aa8 N;rw[hM] at abO;obtain⟨yN,CV⟩:=abO;have HM:Hid (Int.tmod N 2147483648=M):=hM;have O8:Hid ((raw[j]?).getD j=N):=hN;clear hN;by_cases S5:j<rl
   ·have ab1:(j:Int)<(rl:Int):=by omega
    have hrx:j<raw.length:=by rw[HRL.out];exact S5
    obtain⟨rb,ro,rfl,adQ,hrc⟩:=(dt.kept HA.out To) (by omega);have hxr:=hrc j hrx;have e1:raw[j]=N:=by have:=O8.out;rw[gEg hrx] at this;exact this
    rw[e1] at hxr;clear hrc e1 To;by_cases htt:tt=1
    ·have HV:Hid (aaz raw ts j=M):=by show _=_;unfold aaz;rw[if_pos (by rw[HG.out,htt]),O8.out,HM.out]
     subst htt;go_wp2_with (at_builtin;refine aas (M:=M) rfl _ _ rfl zl.out rfl rfl HO.out (by omega) HGI.out ?_;intro a' cap' w' PZ lm)
     go_roundw
     case rel=>exact⟨j+1,a',cap',rfl,by simp,by omega,by rw[aar,HV.out];exact PZ,lm⟩
     case measure=>simp[intOf];omega
    ·have HV:Hid (aaz raw ts j=N):=by show _=_;unfold aaz;rw[if_neg (by rw[HG.out];intro e;exact htt (Option.some.inj e)),O8.out]
     have btt:((tt:Int) == 1)=false:=beqn (by omega);clear hM htt;go_wp2_with (at_builtin;refine aas (M:=N) rfl _ _ rfl zl.out rfl rfl HO.out (by omega) HGI.out ?_;intro a' cap' w' PZ lm)
     go_roundw
     case rel=>exact⟨j+1,a',cap',rfl,by simp,by omega,by rw[aar,HV.out];exact PZ,lm⟩
     case measure=>simp[intOf];omega
   ·have ab1:(rl:Int)<=(j:Int):=by omega
    have e1:(j:Int)=N:=by have:=O8.out;rw[List.getElem?_eq_none (by rw[HRL.out];omega)] at this;exact this
    clear To;by_cases htt:tt=1
    ·have HV:Hid (aaz raw ts j=M):=by show _=_;unfold aaz;rw[if_pos (by rw[HG.out,htt]),O8.out,HM.out]
     rw[<-e1] at hM;clear e1 O8 HM hN1 JS;subst htt;go_wp2_with (at_builtin;refine aas (M:=M) rfl _ _ rfl zl.out rfl rfl HO.out (by omega) HGI.out ?_;intro a' cap' w' PZ lm)
     go_roundw
     case rel=>exact⟨j+1,a',cap',rfl,by simp,by omega,by rw[aar,HV.out];exact PZ,lm⟩
     case measure=>simp[intOf];omega
    ·have HV:Hid (aaz raw ts j=(j:Int)):=by show _=_;unfold aaz;rw[if_neg (by rw[HG.out];intro e;exact htt (Option.some.inj e)),O8.out];exact e1.symm
     have btt:((tt:Int) == 1)=false:=beqn (by omega);clear hM htt e1 O8 HM hN1 JS;go_wp2_with (at_builtin;refine aas (M:=(j:Int)) rfl _ _ rfl zl.out rfl rfl HO.out (by omega) HGI.out ?_;intro a' cap' w' PZ lm)
     go_roundw
     case rel=>exact⟨j+1,a',cap',rfl,by simp,by omega,by rw[aar,HV.out];exact PZ,lm⟩
     case measure=>simp[intOf];omega
  ·obtain rfl:j=n:=by omega
   have HO:Hid _:=bn;have HGI:Hid (w.grownBy wr none):=To;clear bn To;go_wp2_with fail;go_ret;refine⟨HGI.out,av,capv,rfl,?_,fun e=>?_⟩
   ·have h:=HO.out;have e:j=(aaq raw ts j).length:=(aaB _ _ _).symm;exact dt.own (l:=aaq raw ts j) (cap:=capv) (az:=lo) (by rw[<-e];exact h)
   ·rcases HO.out.2 with⟨e1,_⟩|⟨g,cp,cur,e1,_⟩
    ·cases e1;rfl
    ·rw[e] at e1;cases e1
theorem abP (au:Nat) {a b:Int} (ha:eX a):(fy .i32 32 au a b).2=0\/(fy .i32 32 au a b).2=2\/(fy .i32 32 au a b).2=3:=by
 unfold fy dR eJ;repeat' split
 all_goals simp
theorem abR (au:Nat) {a b:Int} (ha:dZ a):(fy .i64 64 au a b).2=0\/(fy .i64 64 au a b).2=2\/(fy .i64 64 au a b).2=3:=by
 unfold fy dR eJ;repeat' split
 all_goals simp
theorem aaI {au:Nat} (h:28<=au) (h2:au<=29) (a b:Int):eX (fy .i64 64 au a b).1:=by
 unfold fy;rw[if_neg (by omega),if_neg (by omega),if_neg (by omega),if_neg (by omega)];split
 ·show eX (bx (decide (a=b)));exact gj _
 ·rw[if_pos (by omega)];show eX (bx (decide (a<b)));exact gj _
theorem aaT (k:K5) {a b:Int} (ha:dZ a):(bZ k a b).2=0\/(bZ k a b).2=2\/(bZ k a b).2=3:=by
 unfold bZ;split
 ·exact abP _ (jf _)
 ·exact abR _ ha
section
variable {m:bf}{fs:List bu}{lf:bu}{ai:List Nat}{T:Nat->LSt}{R:Nat->aX}{P:Nat->Nat}{n:Nat}{c:bS}
theorem abo {az w:List Nat}{j h:Nat} (hv:bG (az++w) c.af) (hh:h<=az.length):∃vs,qS c (j,w.length,h)=some { c with next:=j,af:=vs }/\bG ((az++w).take h++w) vs:=by
 obtain⟨x,y,e,h1,h2⟩:=bG.split az hv;have l1:=h1.len;have l2:=h2.len;refine⟨c.af.take h++c.af.drop (c.af.length-w.length),?_,?_⟩
 ·unfold qS;rw[if_neg (by rw[e];simp only[List.length_append];omega)]
 ·have e2:c.af.drop (c.af.length-w.length)=y:=by rw[e,List.length_append,l2,Nat.add_sub_cancel,List.drop_left]
  rw[e2];exact(hv.take h).append h2
theorem abc {ts:List Tg}{az w:List Nat}{j h t:Nat}{ak:List Nat}{f:ck} (ht:ts[t]?=some (j,w.length,h)) (hl:bG ai c.ai) (hj:j<=n) (ha:gd (T j)) (hs:(T j).af=(az++w).take h++w) (hv:bG (az++w) c.af) (hh:h<=az.length) :
  ∃c1,goC ts c (some t)=some c1/\c1.fn=c.fn/\Qq ai T n c1:=by
 obtain⟨vs,g1,g2⟩:=abo (j:=j) hv hh;refine⟨{ c with next:=j,af:=vs },?_,rfl,hl,hj,ha,by show bG (T j).af vs;rw[hs];exact g2⟩;unfold goC;simp only[ht,g1]
theorem abu {s:LSt}{l:Nat}{F:PFr} (h:bT s l=some F):((bT s l).map (·.target)).getD 0=F.target:=by rw[h];rfl
theorem aaC (F0:Dn m fs c.fn lf ai T R P n) {i l:Nat}{F G:PFr}{az:List Nat} (hi:i<n) (ha:gd (T i)) (hf:(T i).ae.getLast?=some F) (hl:bT (T i) l=some G) (cT:(T i).af=az++aZ G\/(T i).af=az++aZ G++[1]) (hb:F.am<=az.length) (sV:bG ai c.ai) (hv:bG (az++aZ G) c.af) :
  ∃c1,goC lf.ah c (some G.target)=some c1/\c1.fn=c.fn/\Qq ai T n c1:=by
 obtain⟨pf,L⟩:=F0.looked;obtain⟨j,j1,j2,j3,j4⟩:=L.label hi ha hl;have hh:=L.high hi hf hl;refine abc (ak:=lf.ak) (f:=pf) (az:=az) (w:=aZ G) (by rw[F0.ah];exact j2) sV j1 j4 ?_ hv (by omega);rw[j3]
 congr 1
 rcases cT with h|h
 ·rw[h]
 ·rw[h,List.take_append_of_le_length (by simp;omega)]
theorem abD (F0:Dn m fs c.fn lf ai T R P n) {i:Nat}{st:PSt} (hi:i<n) (ha:gd (T i)) (sV:bG ai c.ai) (hv:bG (T i).af c.af) (ph:c.next=i+1) (cT:lf.ay[i]?=some st) (hn:st.aa.au≠0/\st.aa.au≠10/\st.aa.au≠11) :
  ∃e c1,doC lf.ah c st=some (e,c1)/\(e=0->c1.fn=c.fn/\Qq ai T n c1)/\(e=0\/e=2\/e=3):=by
 obtain⟨pf,L⟩:=F0.looked;have S:=(L.trace i hi).1;obtain⟨F,hf,M,ty,hh⟩:=L.typed hi ha;obtain⟨x,x1,x2,x3,x4,x5,x6⟩:=(L.inv n (nLr _)).ay i hi;have hx:x=st:=by rw[F0.ay,x1] at cT;exact Option.some.inj cT
 subst hx;obtain⟨⟨ka1,ka2,ka3⟩,kb,kc1,kc2,kc3,kc4,kc5⟩:=cC S.read;obtain⟨id1,id2⟩:=nU S.read;obtain⟨nm1,nm2⟩:=Da S.read;have cL:=Gg S.find;rw[x2] at hn;have nxt:∀(vs:List Int),bG (T (i+1)).af vs->¬((R i).aa.au=0\/(R i).aa.au=7\/(R i).aa.au=9\/(R i).aa.au=10)->∀(ls:List Int),bG ai ls->Qq ai T n { c with af:=vs,ai:=ls }:=fun vs h1 h2 ls h3=>⟨h3,by show c.next<=n;omega,by show gd (T c.next);rw[ph];exact L.alive_next hi ha h2,by show bG (T c.next).af vs;rw[ph];exact h1⟩;unfold doC;simp only[x2];by_cases hj:(R i).aa.au=4\/(R i).aa.au=5\/(R i).aa.au=7\/(R i).aa.au=8\/(R i).aa.au=9
 ·rw[if_pos hj]
  suffices h:∃c1,mj lf.ah c x=some c1/\c1.fn=c.fn/\Qq ai T n c1 by obtain⟨c1,h1,h2⟩:=h;exact⟨0,c1,by rw[h1];rfl,fun _=>h2,.inl rfl⟩
  unfold mj;simp only[x2];by_cases n4:(R i).aa.au=4
  ·obtain⟨az,sig,y1,y2,y3,y4⟩:=ty.iff n4;obtain⟨x',t,j,z1,z2,z3,z4,z5,z6⟩:=L.iff hi ha n4 y1 y2 y4;have:x'=x:=by rw[x1] at z1;exact(Option.some.inj z1).symm
   subst this;rw[y2] at hv;obtain⟨v,vs,e,p1,p2,p3⟩:=jI hv;rw[if_neg (by rw[z2];simp),if_pos n4,p1];simp only;split
   ·rw[z2];exact abc (c:={ c with af:=vs }) (ak:=lf.ak) (f:=pf) (az:=az) (w:=sig.1) (by rw[F0.ah];exact z4) sV z3 z6 (by rw[z5];simp) p2 (nLr _)
   ·exact⟨_,rfl,rfl,nxt vs (by rw[y4];exact p2) (by omega) c.ai sV⟩
  by_cases n5:(R i).aa.au=5
  ·obtain⟨G,g1,g2,g3⟩:=x6 n5;have Uq:G=F:=by rw[hf] at g1;exact(Option.some.inj g1).symm
   subst Uq;have iX:=ty.close (.inl n5);have hw:aZ G=G.ak:=by simp[aZ,g2]
   rw[if_neg (by rw[g3];simp),if_neg n4,if_neg (by omega),if_neg (by omega),g3];have kx:bT (T i) 0=some G:=by unfold bT;rw[if_pos S.ae,<-g1,List.getLast?_eq_getElem?];rfl
   refine aaC F0 hi ha hf kx (az:=(T i).af.take G.am) (.inl (by rw[hw];exact iX)) (by rw[List.length_take];omega) sV ?_;rw[hw,<-iX];exact hv
  have oe:(R i).aa.ab=4\/(R i).aa.ab=5:=by omega
  have P5:x.ah=(R i).idx.map fun l=>((bT (T i) l).map (·.target)).getD 0:=by rw[x5 n4 n5];unfold dP;simp only[if_pos oe]
  obtain⟨l0,ls,eb⟩:=id1 (by omega);have Nz:dI m ai (T i) (R i).aa.ab=(T i).ae.length:=by unfold dI;rw[if_neg (by omega),if_neg (by omega),if_neg (by omega)]
  obtain⟨G,hG⟩:=tG (by rw[<-Nz];exact cL l0 (by rw[eb];simp));have hwo:dn (T i) (R i).idx=some (aZ G):=by rw[eb];simp only[dn,hG];rfl
  have Sn:x.ah[0]?=some G.target:=by rw[P5,eb];simp[hG]
  rw[if_neg (by rw[P5,eb];simp),if_neg n4];by_cases n8:(R i).aa.au=8
  ·obtain⟨az,wants,y1,y2,y3,y4⟩:=ty.goif n8;have U1:wants=aZ G:=by rw[hwo] at y1;exact(Option.some.inj y1).symm
   subst U1;rw[y2] at hv;obtain⟨v,vs,e,p1,p2,p3⟩:=jI hv;rw[if_pos n8,p1];simp only;split
   ·exact⟨_,rfl,rfl,nxt vs (by rw[y4];exact p2) (by omega) c.ai sV⟩
   ·rw[Sn];exact aaC (c:={ c with af:=vs }) F0 hi ha hf hG (.inr y2) y3 sV p2
  rw[if_neg n8];by_cases n9:(R i).aa.au=9
  ·obtain⟨az,wants,y1,y2,y3,y4⟩:=ty.goby n9;have U1:wants=aZ G:=by rw[hwo] at y1;exact(Option.some.inj y1).symm
   rw[y2] at hv;obtain⟨v,vs,e,p1,p2,p3⟩:=jI hv;rw[if_pos n9,p1];simp only;have Lc:∃(k l:Nat) (H:PFr),kE x.ah v=x.ah[k]?/\(R i).idx[k]?=some l/\bT (T i) l=some H/\x.ah[k]?=some H.target:=by
    have aQ:x.ah.length=(R i).idx.length:=by rw[P5];simp
    have j5:0<(R i).idx.length:=by rw[eb];simp
    have key:∀k:Nat,k<(R i).idx.length->∃(l:Nat) (H:PFr),(R i).idx[k]?=some l/\bT (T i) l=some H/\x.ah[k]?=some H.target:=fun k hk=>by have hm:(R i).idx[k]∈(R i).idx:=List.getElem_mem hk;obtain⟨H,hH⟩:=tG (by rw[<-Nz];exact cL _ hm);exact⟨_,H,gEg hk,hH,by rw[P5,List.getElem?_map,gEg hk];simp[hH]⟩
    unfold kE;split
    ·obtain⟨l,H,q1,q2,q3⟩:=key ((R i).idx.length-1) (by omega);exact⟨(R i).idx.length-1,l,H,by rw[aQ],q1,q2,q3⟩
    ·obtain⟨l,H,q1,q2,q3⟩:=key v.toNat (by omega);exact⟨v.toNat,l,H,rfl,q1,q2,q3⟩
   obtain⟨k,l,H,q1,q2,q3,q4⟩:=Lc;rw[q1,q4];have hHw:aZ H=wants:=by have:=y4 l (gMo q2);rw[q3] at this;simpa using this
   rw[<-hHw] at y2 p2;exact aaC (c:={ c with af:=vs }) F0 hi ha hf q3 (.inr y2) y3 sV p2
  ·rw[if_neg n9,Sn];obtain⟨az,wants,y1,y2,y3⟩:=ty.go (.inl (by omega));have U1:wants=aZ G:=by rw[hwo] at y1;exact(Option.some.inj y1).symm
   subst U1;exact aaC F0 hi ha hf hG (.inl y2) y3 sV (by rw[<-y2];exact hv)
 rw[if_neg hj];have fin:∀{y:Option bS}{vs:List Int}{ls:List Int},y=some { c with af:=vs,ai:=ls }->bG (T (i+1)).af vs->bG ai ls->∃e c1,okC y=some (e,c1)/\(e=0->c1.fn=c.fn/\Qq ai T n c1)/\(e=0\/e=2\/e=3):=fun {y vs ls} h1 h2 h3 =>
  ⟨0,{ c with af:=vs,ai:=ls },by rw[h1];rfl,fun _=>⟨rfl,nxt vs h2 (by omega) ls h3⟩,.inl rfl⟩
 by_cases n12:(R i).aa.au=12
 ·rw[if_pos n12];obtain⟨az,t,y1,y2⟩:=ty.drop n12;rw[y1] at hv;obtain⟨v,vs,e,p1,p2,p3⟩:=jI hv;exact fin (ls:=c.ai) (by rw[p1];rfl) (by rw[y2];exact p2) sV
 rw[if_neg n12];by_cases n13:(R i).aa.au=13
 ·rw[if_pos n13];obtain⟨az,t,y1,y2⟩:=ty.pick n13;have y1':(T i).af=az++[t]++[t]++[1]:=by rw[y1];simp
  rw[y1'] at hv;obtain⟨v,vs,e,p1,p2,p3⟩:=jI hv;obtain⟨v2,vs2,e2,q1,q2,q3⟩:=jI (c:={ c with af:=vs }) p2;obtain⟨v3,vs3,e3,r1,r2,r3⟩:=jI (c:={ c with af:=vs2 }) q2;refine fin (vs:=vs3++[if v=0 then v2 else v3]) (ls:=c.ai) ?_ (by rw[y2];exact r2.append (bG.single (by split <;> assumption))) sV;unfold vy;simp only[p1,q1,r1];rfl
 rw[if_neg n13];by_cases n14:(R i).aa.au=14\/(R i).aa.au=15\/(R i).aa.au=16
 ·rw[if_pos n14];have oe:(R i).aa.ab=3:=kc5 n14;have Nq:x.index=(R i).idx.headD 0:=by rw[x3];unfold dP;simp only[if_pos (Or.inr oe)]
  unfold mH;simp only[x2,Nq];by_cases m15:(R i).aa.au=15
  ·obtain⟨az,t,y0,y1,y2⟩:=ty.set m15;obtain⟨v0,g1,g2⟩:=sV.get y0;rw[y1] at hv;obtain⟨v,vs,e,p1,p2,p3⟩:=jI hv;rw[g1];simp only[if_pos m15,p1];exact fin rfl (by rw[y2];exact p2) (sV.set y0 p3)
  by_cases m16:(R i).aa.au=16
  ·obtain⟨az,t,y0,y1,y2⟩:=ty.tee m16;obtain⟨v0,g1,g2⟩:=sV.get y0;rw[y1] at hv;obtain⟨v,vs,e,p1,p2,p3⟩:=jI hv;rw[g1];simp only[if_neg m15,if_pos m16,p1];exact fin rfl (by rw[y2];exact p2.append (bG.single p3)) (sV.set y0 p3)
  ·obtain⟨t,y0,y2⟩:=ty.get (by omega);obtain⟨v0,g1,g2⟩:=sV.get y0;rw[g1];simp only[if_neg m15,if_neg m16];exact fin rfl (by rw[y2];exact hv.append (bG.single g2)) sV
 rw[if_neg n14];by_cases n17:(R i).aa.au=17
 ·rw[if_pos n17];obtain⟨t0,hg⟩:=ka3 n17;obtain⟨az,y1,y2⟩:=ty.other (.inr (by omega));rw[t0] at y1;simp at y1;rw[y1] at hv;have qA:fw (R i).aa.ak x.num:=by
   rw[x4];rcases hg with⟨b6,g1⟩|⟨b7,g2⟩
   ·exact .inl ⟨g1,nm1 b6⟩
   ·exact .inr ⟨g2,nm2 b7⟩
  refine fin (vs:=c.af++[x.num]) (ls:=c.ai) rfl ?_ sV;rw[y2,if_pos (by omega)];exact hv.append (bG.single qA)
 rw[if_neg n17];unfold jL;have nojump:¬((R i).aa.au=0\/(R i).aa.au=7\/(R i).aa.au=9\/(R i).aa.au=10):=by omega
 by_cases n18:18<=(R i).aa.au
 ·obtain⟨az,y1,y2⟩:=ty.other (.inr (by omega));rcases kb n18 with⟨t1,Co,k30,k31,k32⟩|⟨t2,Mq,Fs⟩
  ·rw[if_pos t1];rw[t1] at y1;rw[y1] at hv;obtain⟨v,vs,e,p1,p2,p3⟩:=jI (ts:=az) (t:=(R i).aa.of) hv;rw[p1];have hg:(R i).aa.ak≠0:=by
    by_cases a:(R i).aa.au=30
    ·rw[k30 a];decide
    ·by_cases b:(R i).aa.au=31
     ·rw[k31 b];decide
     ·rw[(k32 (by omega)).2];decide
   have qA:fw (R i).aa.ak (kU (R i).aa.au v):=by
    unfold kU;by_cases a:(R i).aa.au=30
    ·rw[if_pos a,k30 a];exact .inl ⟨rfl,gj _⟩
    ·rw[if_neg a];by_cases b:(R i).aa.au=31
     ·rw[if_pos b,k31 b];exact .inl ⟨rfl,jf _⟩
     ·rw[if_neg b,(k32 (by omega)).2];exact .inr ⟨rfl,p3.wide⟩
   refine⟨0,_,rfl,fun _=>⟨rfl,nxt (vs++[kU (R i).aa.au v]) ?_ nojump c.ai sV⟩,.inl rfl⟩;rw[y2,if_pos hg];exact p2.append (bG.single qA)
  ·rw[if_neg (by omega),if_pos t2];rw[t2] at y1;have y1':(T i).af=az++[(R i).aa.of]++[(R i).aa.of]:=by rw[y1];simp[List.replicate]
   rw[y1'] at hv;obtain⟨v,vs,e,p1,p2,p3⟩:=jI hv;obtain⟨v2,vs2,e2,q1,q2,q3⟩:=jI (c:={ c with af:=vs }) p2;simp only[p1,q1];split
   ·have hg:(R i).aa.ak≠0/\fw (R i).aa.ak (bZ (R i).aa v2 v).1:=by
     unfold bZ;rcases Fs with⟨o1,g1⟩|⟨o2,g2,g3⟩
     ·rw[if_pos o1,g1];exact⟨by decide,.inl ⟨rfl,Ge _ (jf _)⟩⟩
     ·rw[if_neg (by omega)];by_cases Mp:(R i).aa.au<28
      ·rw[g2 Mp];exact⟨by decide,.inr ⟨rfl,Gf _ q3.wide⟩⟩
      ·rw[g3 (by omega)];exact⟨by decide,.inl ⟨rfl,aaI (by omega) Mq _ _⟩⟩
    refine⟨0,_,rfl,fun _=>⟨rfl,nxt (vs2++[(bZ (R i).aa v2 v).1]) ?_ nojump c.ai sV⟩,.inl rfl⟩;rw[y2,if_pos hg.1];exact q2.append (bG.single hg.2)
   ·rename_i ec;refine⟨_,_,rfl,fun h0=>absurd h0 ec,?_⟩;exact aaT _ q3.wide
 ·have abw:(R i).aa.au=1\/(R i).aa.au=2\/(R i).aa.au=3\/(R i).aa.au=6:=by omega
  obtain⟨t0,g0⟩:=ka2 abw;rw[if_neg (by omega),if_neg (by omega)];refine⟨0,c,rfl,fun _=>⟨rfl,nxt c.af ?_ nojump c.ai sV⟩,.inl rfl⟩;rcases abw with h|h|h|h
  ·obtain⟨az,y1,y2⟩:=ty.other (.inl h);rw[t0] at y1;rw[g0] at y2;simp at y1 y2;rw[y2,<-y1];exact hv
  ·obtain⟨az,sig,_,y1,_,y2⟩:=ty.block (.inl h);rw[y2,<-y1];exact hv
  ·obtain⟨az,sig,_,y1,_,y2⟩:=ty.block (.inr h);rw[y2,<-y1];exact hv
  ·obtain⟨_,hs,_⟩:=M.ended h;rw[hs,<-ty.close (.inr h)];exact hv
end
def aao (fs:List bu) (c:bS):List Nat:=match fs[c.fn]? with
 | some f=>f.ak
 | none=>[]
def aaX (m:bf) (fs:List bu) (G0:List Nat):List Nat->List bS->Prop
 | g,[]=>g=G0
 | g,d::r=>Gi m fs d g/\aaX m fs G0 (aao fs d) r
def MOk (m:bf) (fs:List bu) (G0:List Nat) (s:MSt):Prop:=Gh m fs s.call/\aaX m fs G0 (aao fs s.call) s.rest
structure aaY (G0:List Nat) (aA:Nat) (o:Out):Prop where
 ends:o.ends<=5
 ay:o.ay<=aA
 done:o.ends=0->bG G0 o.values
 none:o.ends≠0->o.values=[]
 aA:o.ends=4->o.ay=aA
section
variable {m:bf}{fs:List bu}{G0:List Nat}{s:MSt}{aA:Nat}
theorem aaJ (A:B3 m fs) {i:Nat}{f:bu}{args:List Int} (hf:fs[i]?=some f) (ha:bG f.aj args):Gh m fs (fL f i args):=by
 obtain⟨ai,T,R,P,n,F⟩:=A.1 i f hf;obtain⟨pf,h1,h2,h3,L⟩:=F.fn;obtain⟨F0,s1,s2,s3,s4⟩:=L.ax;refine⟨f,ai,T,R,P,n,F,?_,Nat.zero_le _,?_,?_⟩
 ·show bG ai (args.take f.ai++List.replicate (f.ai-args.length) 0);have hl:=ha.len;have hn:=F.nloc;rw[h3,List.length_append] at hn;rw[List.take_of_length_le (by omega),h3];have e:f.ai-args.length=pf.ai.length:=by omega
  rw[e];exact ha.append (bG.zeros fun t ht=>F.types t (by rw[h3];simp[ht]))
 ·show gd (T 0);intro G hG;rw[s1] at hG;simp at hG;subst hG;exact s2
 ·show bG (T 0).af [];rw[s4];trivial
theorem aa2 (A:B3 m fs) (h:MOk m fs G0 s) (hs:s.ay<=aA) :
  (∃s',bB fs aA s=some (.inl s')/\MOk m fs G0 s'/\s'.ay<=aA/\(s'.ay=s.ay+1/\s'.rest.length<=s.rest.length+1\/s'.ay=s.ay/\s'.rest.length+1=s.rest.length)) \/
  (∃o,bB fs aA s=some (.inr o)/\aaY G0 aA o):=by
 obtain⟨⟨lf,ai,T,R,P,n,F,sV,ph,ha,hv⟩,Lc⟩:=h;obtain⟨pf,L⟩:=F.looked;have hg:aao fs s.call=lf.ak:=by unfold aao;rw[F.at_]
 rw[hg] at Lc;have aQ:lf.ay.length=n:=by rw[F.ay];exact(L.inv n (nLr _)).len
 have give_back:∀(vals:List Int) (k:Nat),k<=aA->bG lf.ak vals ->
   (∃s',(match s.rest with
     | []=>some (Sum.inr ⟨0,k,vals⟩)
     | d::r=>some (Sum.inl { call:=ff d vals,rest:=r,ay:=k }):Option (MSt ⊕ Out))=some (.inl s')/\MOk m fs G0 s'/\s'.ay=k/\s'.rest.length+1=s.rest.length) \/
   (∃o,(match s.rest with
     | []=>some (Sum.inr ⟨0,k,vals⟩)
     | d::r=>some (Sum.inl { call:=ff d vals,rest:=r,ay:=k }):Option (MSt ⊕ Out))=some (.inr o)/\aaY G0 aA o):=fun vals k hk abB=>by
  cases hr:s.rest with
  | nil =>
   rw[hr] at Lc;have Js:lf.ak=G0:=Lc;exact .inr ⟨_,rfl,by simp,hk,fun _=>by rw[<-Js];exact abB,fun h0=>absurd rfl h0,fun h4=>by simp at h4⟩
  | cons d r =>
   rw[hr] at Lc;obtain⟨c1,c2⟩:=Lc;exact .inl ⟨_,rfl,⟨c1.back abB,c2⟩,rfl,by simp⟩
 unfold bB;rw[F.at_];simp only;by_cases bM:s.call.next<n
 ·obtain⟨st,cT⟩:∃st,lf.ay[s.call.next]?=some st:=⟨_,gEg (by rw[aQ];exact bM)⟩;rw[cT];simp only;obtain⟨x,x1,x2,x3,x4,x5,x6⟩:=(L.inv n (nLr _)).ay s.call.next bM;have hx:x=st:=by rw[F.ay,x1] at cT;exact Option.some.inj cT
  subst hx;obtain⟨F1,hf,M,ty,hh⟩:=L.typed bM ha;have S:=(L.trace s.call.next bM).1;obtain⟨⟨ka1,ka2,ka3⟩,kb,kc1,kc2,kc3,kc4,kc5⟩:=cC S.read;obtain⟨id1,id2⟩:=nU S.read;have cL:=Gg S.find;by_cases du:s.ay=aA
  ·rw[if_pos du];exact .inr ⟨_,rfl,by simp,by show s.ay<=aA;omega,fun h0=>by simp at h0,fun _=>rfl,fun _=>du⟩
  rw[if_neg du];by_cases n0:x.aa.au=0
  ·rw[if_pos n0];exact .inr ⟨_,rfl,by simp,by show s.ay+1<=aA;omega,fun h0=>by simp at h0,fun _=>rfl,fun h4=>by simp at h4⟩
  rw[if_neg n0];by_cases n11:x.aa.au=11
  ·rw[if_pos n11];split
   ·exact .inr ⟨_,rfl,by simp,by show s.ay+1<=aA;omega,fun h0=>by simp at h0,fun _=>rfl,fun h4=>by simp at h4⟩
   ·rw[x2] at n11;have oe:=kc4 n11;have Nq:x.index=(R s.call.next).idx.headD 0:=by rw[x3];unfold dP;simp only[if_pos (Or.inl oe)]
    obtain⟨az,fn,sig,y1,y2,y3,y4⟩:=ty.call n11;have lx:(R s.call.next).idx.headD 0<fs.length:=by rw[<-A.2];exact(gEs.1 y1).1
    obtain⟨f2,hZ⟩:∃f2,fs[(R s.call.next).idx.headD 0]?=some f2:=⟨_,gEg lx⟩;obtain⟨l2,T2,R2,P2,k2,F2⟩:=A.1 _ _ hZ;obtain⟨pf2,q1,q2,q3,q4⟩:=F2.fn;have vh:pf2=fn:=by rw[y1] at q1;exact(Option.some.inj q1).symm
    subst vh;have iD:sig=(f2.aj,f2.ak):=by rw[y2] at q2;exact Option.some.inj q2
    subst iD;rw[Nq,hZ];simp only;simp only at y3 y4;rw[y3] at hv;obtain⟨xs,args,p1,p2,p3⟩:=Do (c:={ s.call with next:=s.call.next+1 }) hv;rw[p1];refine .inl ⟨_,rfl,⟨aaJ A hZ p3,?_,?_⟩,by show s.ay+1<=aA;omega,.inl ⟨rfl,by simp⟩⟩
    ·have aP:aao fs (fL f2 ((R s.call.next).idx.headD 0) args)=f2.ak:=by unfold aao fL;simp only[hZ]
     rw[aP];exact⟨lf,ai,T,R,P,n,az,F,sV,by show s.call.next+1<=n;omega,L.alive_next bM ha (by omega),y4,p2⟩
    ·show aaX m fs G0 (aao fs { s.call with next:=s.call.next+1,af:=xs }) s.rest;have:aao fs { s.call with next:=s.call.next+1,af:=xs }=lf.ak:=by unfold aao;simp only[F.at_]
     rw[this];exact Lc
  rw[if_neg n11];by_cases n10:x.aa.au=10
  ·rw[if_pos n10];rw[x2] at n10;obtain⟨az,wants,y1,y2,y3⟩:=ty.go (.inr n10);have hw:wants=lf.ak:=by rw[id2 (kc3 (.inr n10))] at y1;unfold dn at y1;simp only at y1;obtain⟨G,g1,g2⟩:=Option.map_eq_some_iff.1 y1;have:=((L.inv s.call.next (by omega)).bottom G (by rw[List.head?_eq_getElem?] at g1;exact g1)).1;rw[<-g2,this]
   subst hw;rw[y2] at hv;obtain⟨xs,vals,p1,p2,p3⟩:=Do (c:={ s.call with next:=s.call.next+1 }) hv;rw[p1];simp only;rcases give_back vals (s.ay+1) (by omega) p3 with⟨s',h1,h2,h3,h4⟩|⟨o,h1,h2⟩
   ·exact .inl ⟨s',h1,h2,by omega,.inl ⟨h3,by omega⟩⟩
   ·exact .inr ⟨o,h1,h2⟩
  rw[if_neg n10];obtain⟨e,c1,d1,d2,d3⟩:=abD (c:={ s.call with next:=s.call.next+1 }) F bM ha sV hv rfl cT ⟨n0,n10,n11⟩;rw[d1];simp only;split
  ·rename_i he;obtain⟨xQ,Ig⟩:=d2 he;have abS:c1.fn=s.call.fn:=xQ;refine .inl ⟨_,rfl,⟨⟨lf,ai,T,R,P,n,by show Dn m fs c1.fn _ _ _ _ _ _;rw[abS];exact F,Ig⟩,?_⟩,by show s.ay+1<=aA;omega,.inl ⟨rfl,by simp⟩⟩;show aaX m fs G0 (aao fs c1) s.rest;have:aao fs c1=lf.ak:=by unfold aao;rw[abS,F.at_]
   rw[this];exact Lc
  ·rename_i he;exact .inr ⟨_,rfl,by show e<=5;omega,by show s.ay+1<=aA;omega,fun h0=>absurd h0 he,fun _=>rfl,fun h4=>by have:e=4:=h4;omega⟩
 ·have MK:s.call.next=n:=by omega
  rw[List.getElem?_eq_none (by omega)];simp only;rw[MK,(L.lastStack).1] at hv;obtain⟨xs,vals,p1,p2,p3⟩:=Do (c:=s.call) (az:=[]) (w:=lf.ak) hv;rw[p1];simp only;rcases give_back vals s.ay hs p3 with⟨s',h1,h2,h3,h4⟩|⟨o,h1,h2⟩
  ·exact .inl ⟨s',h1,h2,by omega,.inr ⟨h3,h4⟩⟩
  ·exact .inr ⟨o,h1,h2⟩
theorem aaK (A:B3 m fs):∀(k:Nat) {s:MSt},MOk m fs G0 s->s.ay<=aA->2*(aA-s.ay)+s.rest.length<k->∃o,dx fs aA k s=some o/\aaY G0 aA o
 | 0,s,_,_,hk=>by omega
 | k+1,s,h,hs,hk=>by
  unfold dx;rcases aa2 A h hs with⟨s',h1,h2,h3,h4⟩|⟨o,h1,h2⟩
  ·rw[h1];simp only;exact aaK A k h2 h3 (by omega)
  ·rw[h1];exact⟨o,rfl,h2⟩
theorem aa3 (A:B3 m fs) {i:Nat}{f:bu}{args:List Int} (hf:fs[i]?=some f) (ha:bG f.aj args):∃o,wQ fs i args aA=some o/\aaY f.ak aA o:=by unfold wQ;rw[hf];simp only;refine aaK A _ ⟨aaJ A hf ha,?_⟩ (Nat.zero_le _) (by simp);show aao fs (fL f i args)=f.ak;unfold aao fL;simp only[hf]
end
theorem abv {az:Nat}{w:World}{m:Nat}{ads:List Nat}{mm:bf}{fs:List bu} (hp:Pu mm fs 0) (mA:pV az w m mm ads) {f aA:Int}{sp:Option Addr}{cap:Nat}{args:List Int} (ha:dt w sp args) (gK:∀(i fu:Nat) (lf:bu),f=i->fs[i]?=some lf->aA=fu->fu<=100000->fj lf.aj args=false) :
  Calls prog 39 #[ptr m,.int .i64 f,.slice sp args.length cap,.int .i64 aA] w fun e w'=>w.grownBy w' none/\∃vv,e=.returned (.tuple #[.int .i64 0,.int .i64 0,vv,.int .i64 8])/\w'.ownsRow w.heap.size 2 1 vv 0 (cA []):=by
 have Nz:=hp.count;have j5:=hp.all.2;obtain⟨vs,vf,h1,h2,h3⟩:=mA.ga.mod;obtain⟨aF,capF,WN,_,_⟩:=aG h3;have aQ:=mA.ga.len;have m1:=h1.cell 1;rw[WN] at m1;simp at m1;have LY:=h1.lt;obtain⟨nf,Ai⟩:∃nf,mm.funs.length=nf:=⟨_,rfl⟩;rw[Ai] at m1;have acH:(nf:Int)<=20:=by omega
 obtain⟨na,uv⟩:∃na,args.length=na:=⟨_,rfl⟩;by_cases g1:f<0
 ·rw[uv];clear gK ha mA hp h1 h2 h3 aQ Ai uv WN;go_enter func39,ntmps39;go_wp2_with fail;exact bodyPost_ret (pZ rfl _ _ _) rfl ⟨aH _ _,_,rfl,World.ownsRow_nil _ _ _ _⟩
 ·obtain⟨i,rfl⟩:∃i:Nat,f=i:=⟨f.toNat,by omega⟩;clear g1;by_cases g2:i<nf
  ·have bM:i<mm.funs.length:=by omega
   have PO:i<fs.length:=by omega
   have hf:=gEg PO;obtain⟨pf,ai,T,R,P,n,hF⟩:=hp.fns i _ hf;have vh:mm.funs[i]'bM=pf:=by have:=hF.tr.fn;rw[gEg bM] at this;exact Option.some.inj this
   have iD:da mm i=(fs[i].aj,fs[i].ak):=jz bM (by rw[vh];exact hF.tr.sig);have YW:fs[i].aj.length<=6:=(hp.sigs _ (gMo hF.tr.sig)).1;obtain⟨vs',gF,capF',ff,cs1,cs2,b1,Ci,cF,b2,b3⟩:=mA.fn bM;have xJ:=mA.ga.fns i bM ff Ci;rw[iD] at xJ;have KK:=DS (cap:=cap) xJ ha YW;have e1:=h1.cell 1;rw[<-e1,b1.cell 1] at e1;have n1:=b1.cell 1;simp at n1;rw[Ai] at n1;rw[n1] at m1;cases m1;have hgF:=b2.lt;have jE:(i:Int)<(nf:Int):=by omega
   obtain⟨q,hq⟩:∃q,fj fs[i].aj args=q:=⟨_,rfl⟩;rw[hq] at KK;have HNO:Hid (∀fu:Nat,aA=fu->fu<=100000->q=false):=fun fu h1 h2=>by rw[<-hq];exact gK i fu _ rfl hf h1 h2
   have ab8:Hid _:=KK;rw[uv] at KK ⊢;clear gK ha mA hp h1 h2 h3 aQ Ai uv hF vh iD YW b1 Ci b2 b3 xJ hq hf e1 ab8 WN Nz j5 g2;cases q
   ·go_enter func39,ntmps39;go_wp2_with fail;refine KK.mono ?_;clear KK;rintro e w2 ⟨rfl,xa⟩;replace xa:=xa.symm;subst xa;go_wp2_with fail;exact bodyPost_ret (pZ rfl _ _ _) rfl ⟨aH _ _,_,rfl,World.ownsRow_nil _ _ _ _⟩
   ·by_cases g3:aA<0
    ·go_enter func39,ntmps39;go_wp2_with fail;refine KK.mono ?_;clear KK;rintro e w2 ⟨rfl,xa⟩;replace xa:=xa.symm;subst xa;go_wp2_with fail;exact bodyPost_ret (pZ rfl _ _ _) rfl ⟨aH _ _,_,rfl,World.ownsRow_nil _ _ _ _⟩
    ·have g4:100000<aA:=by
      rcases Int.lt_or_le 100000 aA with h|h
      ·exact h
      ·exact absurd (HNO.out aA.toNat (by omega) (by omega)) (by simp)
     have g5:0<=aA:=by omega
     clear g3 HNO;go_enter func39,ntmps39;go_wp2_with fail;refine KK.mono ?_;clear KK;rintro e w2 ⟨rfl,xa⟩;replace xa:=xa.symm;subst xa;go_wp2_with fail;exact bodyPost_ret (pZ rfl _ _ _) rfl ⟨aH _ _,_,rfl,World.ownsRow_nil _ _ _ _⟩
  ·have jE:(nf:Int)<=(i:Int):=by omega
   rw[uv];clear gK ha mA hp h1 h2 h3 aQ Ai uv WN g2;go_enter func39,ntmps39;go_wp2_with fail;exact bodyPost_ret (pZ rfl _ _ _) rfl ⟨aH _ _,_,rfl,World.ownsRow_nil _ _ _ _⟩
theorem aaL:∀{ts:List Nat}{xs:List Int},fj ts xs=true->(∀t∈ts,t=1\/t=2)->(∀x∈xs,dZ x)->bG ts xs
 | [],[],_,_,_=>trivial
 | t::ts,x::xs,h,h1,h2=>by
  simp only[fj,Bool.and_eq_true,Bool.or_eq_true] at h;refine⟨?_,aaL h.2 (fun t ht=>h1 t (by simp[ht])) fun x hx=>h2 x (by simp[hx])⟩;rcases h1 t (by simp) with rfl|rfl
  ·refine .inl ⟨rfl,?_⟩;rcases h.1 with h|h
   ·simp at h
   ·have:=pY.1 h;unfold eX;omega
  ·exact .inr ⟨rfl,h2 x (by simp)⟩
 | [],x::xs,h,_,_=>by simp[fj] at h
 | t::ts,[],h,_,_=>by simp[fj] at h
theorem aaH:∀{ts:List Nat}{xs:List Int},bG ts xs->∀x∈xs,dZ x
 | [],[],_,x,hx=>by simp at hx
 | t::ts,y::ys,h,x,hx=>by
  rcases List.mem_cons.1 hx with rfl|hx
  ·exact h.1.wide
  ·exact aaH h.2 x hx
 | [],x::xs,h,_,_=>False.elim h
 | t::ts,[],h,_,_=>False.elim h
def abE (w w':World) (vv:Value) (vs:List Int):Prop:=vs.length<=3/\((vv=.slice none 0 0/\vs=[])\/∃g,vv=.slice (some ⟨g,0,none⟩) vs.length vs.length/\w.heap.size<=g/\Blk w' g (cA vs).toArray 2)
theorem aaM {bs:List UInt8}{mm:bf}{fs:List bu} (hm:eD bs=.ok mm) (ht:bR mm mm.funs=.ok fs) {i:Nat}{lf:bu} (hf:fs[i]?=some lf):(∀t∈lf.aj,t=1\/t=2)/\lf.aj.length<=6/\lf.ak.length<=3:=by have hp:=RP (aA:=0) hm ht (by omega);obtain⟨pf,ai,T,R,P,n,hF⟩:=hp.fns i lf hf;have h6:=hp.sigs _ (gMo hF.tr.sig);obtain⟨locals',T',R',P',n',F⟩:=hp.all.1 i lf hf;obtain⟨pf',p1,p2,p3,L⟩:=F.fn;exact⟨fun t ht=>F.types t (by rw[p3];simp[ht]),h6.1,h6.2⟩
theorem aaZ {w:World}{x:Nat}{fs:List bu}{mm:bf}{bs:List UInt8} (hx:mh w x fs mm) (hm:eD bs=.ok mm) (ht:bR mm mm.funs=.ok fs) {f aA:Int}{sp:Option Addr}{cap:Nat}{args:List Int} (ha:dt w sp args) (kX:sp=none->cap=0) (h8:args.length*8<=140737488355328) (h64:∀x∈args,dZ x) :
  Calls prog 15 #[ptr x,.int .i64 f,.slice sp args.length cap,.int .i64 aA] w fun e w'=>w.grownBy w' none/\∃vv vs,e=.returned (.tuple #[vv,.bool true])/\abE w w' vv vs:=by
 have A6:eU bs=.ok fs:=by unfold eU;rw[hm];exact ht
 obtain⟨fQ,j5⟩:=wP A6;by_cases hg:∃(i fu:Nat) (lf:bu),f=i/\fs[i]?=some lf/\aA=fu/\fu<=100000/\fj lf.aj args=true
 ·obtain⟨i,fu,lf,rfl,hf,rfl,du,Fs⟩:=hg;have hp:=RP hm ht du;obtain⟨k1,k2,k3⟩:=aaM hm ht hf;have hv:=aaL Fs k1 h64;obtain⟨o,hr,hoo⟩:=aa3 (aA:=fu) hp.all hf hv;have SY:o.values.length<=3:=by
   by_cases h0:o.ends=0
   ·have:=(hoo.done h0).len;omega
   ·rw[hoo.none h0];simp
  refine Calls.mono (On hx hm ht du hf ha kX hv hr (by omega)) ?_;rintro e w' ⟨h1,vv,h2,h3⟩;exact⟨h1,vv,o.values,h2,SY,h3⟩
 ·have gK:∀(i fu:Nat) (lf:bu),f=i->fs[i]?=some lf->aA=fu->fu<=100000->fj lf.aj args=false:=fun i fu lf h1 h2 h3 h4=>by
   cases hq:fj lf.aj args with
   | false=>rfl
   | true=>exact absurd ⟨i,fu,lf,h1,h2,h3,h4,hq⟩ hg
  have hp:=RP (aA:=0) hm ht (by omega);refine Calls.mono (KL (o:=⟨0,0,[]⟩) (er:=8) hx ha kX h8 (by simp) (fun w1 b ⟨gF,h1,h2⟩ rD=>abn h1 h2 fQ j5 rD gK) (fun w1 az r ads ac capc h1 rD=>abv hp h1 rD gK)) ?_;rintro e w' ⟨h1,vv,h2,h3⟩;exact⟨h1,vv,[],h2,by simp,h3⟩
theorem abj {w:World}{B:Nat} (hK:iu B w) (hB:B<=w.heap.size) (s:ByteArray) (hs:s.size<=9223372036854775807) {f aA:Int} (hf:-9223372036854775808<=f/\f<=9223372036854775807) (du:-9223372036854775808<=aA/\aA<=9223372036854775807) {sp:Option Addr}{cap:Nat}{raw:List Int} (ha:dt w sp raw) (kX:sp=none->cap=0) (h64:∀x∈raw,dZ x) (h8:raw.length*8<=140737488355328) :
  Calls prog 4 #[.string s,.int .i64 f,.slice sp raw.length cap,.int .i64 aA] w fun e w'=>e=.returned (.bool true)/\w.grownBy w' none:=by
 have RT:=D2 hK hB;obtain⟨rl,SJ⟩:∃n,raw.length=n:=⟨_,rfl⟩;have RU:Hid _:=RT;have HK:Hid (iu B w):=hK;have HB:Hid (B<=w.heap.size):=hB;have HS:Hid (s.size<=9223372036854775807):=hs;have HA:Hid (dt w sp raw):=ha;have HC:Hid _:=kX;have H64:Hid _:=h64;have H8:Hid (raw.length*8<=140737488355328):=h8;have HRL:Hid (raw.length=rl):=SJ;have HF:Hid _:=hf;have HFU:Hid _:=du;rw[SJ];clear RT hK hB hs ha kX h64 h8 SJ hf du;go_enter func4,ntmps4;go_wp2_with fail;refine Calls.mono RU.out ?_;rintro e w1 ⟨eZ,x,rfl,_⟩;have aQ:s.data.toList.length=s.size:=by rw[Array.length_toList];rfl
 have yc:=Lib.run_convert_string_bytes (P:=prog) w1 9 26 5 s underlying9 underlying26 underlying5;have bU:=D3 w1 s;have hL:=ue (w:=Lib.bytesWorld w1 5 s) (g:=w1.heap.size) (o:=0) (cap:=grownCap w1 s.size 0 5) (s:=s) ((HK.out.grown eZ HB.out (by simp)).grown bU (Nat.le_trans HB.out eZ.size) (by simp)) (Nat.le_trans HB.out (Nat.le_trans eZ.size bU.size)) (fun i hi=>by
  have:=Lib.bytesWorld_cell w1 5 s i (by rw[<-aQ];exact hi)
  rw[Nat.zero_add,this]
  rw[List.getD_eq_getElem?_getD,gEg hi];rfl) (grownCap_ge _ _ _ _) HS.out
 obtain⟨W,hW⟩:∃W,Lib.bytesWorld w1 5 s=W:=⟨_,rfl⟩;rw[hW] at yc bU hL;obtain⟨cp,Ct⟩:∃cp,grownCap w1 s.size 0 5=cp:=⟨_,rfl⟩;rw[Ct] at yc hL;have HG:Hid (w.grownBy W none):=aB eZ bU;have HL:Hid _:=hL;clear hW aQ Ct hL bU eZ RU;go_wp2_with fail;clear yc;refine Calls.mono HL.out ?_;rintro e2 w2 ⟨aP,gL⟩;have DR:Hid (w.grownBy w2 none):=aB HG.out aP;clear aP HL;rcases gL with⟨er,h1,rfl⟩|⟨y,fs,mm,h1,h2,h3,rfl,h4⟩
 ·clear h1;go_wp2_with fail;go_ret;exact⟨rfl,DR.out⟩
 ·have hT:=aaZ (f:=f) (aA:=aA) (cap:=cap) h4 h1 h2 (dt.kept HA.out DR.out) HC.out H8.out H64.out;rw[HRL.out] at hT;have HT:Hid _:=hT;have H4:Hid (mh w2 y fs mm):=h4;have H1:Hid _:=h1;have H2:Hid _:=h2;clear hT h1 h2 h3 h4;go_wp2_with fail;refine Calls.mono HT.out ?_;rintro e3 w3 ⟨co,vv,vs,rfl,_⟩;have RM:Hid (w.grownBy w3 none):=aB DR.out co;have h4:=mh.kept H4.out co;have H5:Hid (mh w3 y fs mm):=h4;clear co HT H4;obtain⟨b,r,ads,az,b1,_,mA⟩:=h4;have x1:=b1.cell 1;simp at x1;have Yb:=b1.lt;have hp:=RP (aA:=0) H1.out H2.out (by omega);have Nz:=hp.count;have j5:0<mm.funs.length:=by
   have A6:eU s.data.toList=.ok fs:=by unfold eU;rw[H1.out];exact H2.out
   have:=(wP A6).2;have:=hp.all.2;omega
  obtain⟨vs0,gF0,capF,f0,cs1,cs2,m1,_,_,mb,_⟩:=mA.fn j5;have r1:=m1.cell 1;simp at r1;have SJ:=m1.lt;have iB:=mb.lt;obtain⟨nf,Ai⟩:∃nf,mm.funs.length=nf:=⟨_,rfl⟩;rw[Ai] at r1 Nz j5;have hPk:=aaG (w:=w3) HF.out.1 HF.out.2 j5 (by omega);have UJ:(nf:Int)<=20:=by omega
  have aer:0<(nf:Int):=by omega
  have HPk:Hid _:=hPk;have NV:Hid (pV az w3 r mm ads):=mA;have HP:Hid (Pu mm fs 0):=hp;have Qm:Hid (mm.funs.length=nf):=Ai;have HM1:Hid (Blk w3 r #[vs0,.slice (some ⟨gF0,0,none⟩) mm.funs.length capF] 38):=m1;clear hPk mA hp Ai m1 mb Nz j5 b1;go_wp2_with fail;refine Calls.mono HPk.out ?_;rintro e4 w4 ⟨⟨k,hk,rfl⟩,ye⟩;replace ye:=ye.symm;subst ye;clear HPk;have bM:k<mm.funs.length:=by rw[Qm.out];exact hk
  have rQ:(k:Int)<(nf:Int):=by omega
  have PO:k<fs.length:=by have:=HP.out.all.2;omega
  have jN:=gEg PO;obtain⟨lf,Jr⟩:∃lf,fs[k]=lf:=⟨_,rfl⟩;rw[Jr] at jN;obtain⟨k1,k2,k3⟩:=aaM H1.out H2.out jN;obtain⟨pf,ai,T,R,P,n,hF⟩:=HP.out.fns k _ jN;have vh:mm.funs[k]'bM=pf:=by have:=hF.tr.fn;rw[gEg bM] at this;exact Option.some.inj this
  have iD:da mm k=(lf.aj,lf.ak):=jz bM (by rw[vh];exact hF.tr.sig);obtain⟨vs',gF,capF',ff,cs1',cs2',b1,Ci,cF,b2,b3⟩:=pV.fn NV.out bM;have xJ:=NV.out.ga.fns k bM ff Ci;rw[iD] at xJ;obtain⟨vt,vg,vl,vb,t1,t2,t3,t4⟩:=xJ;simp only at t2;have e1:=b1.cell 1;simp at e1;rw[Qm.out,r1] at e1;cases e1;obtain⟨aq,capq,oI,_,_⟩:=aG t2;subst oI;have F0:=t1.cell 0;simp at F0;have lv:=t1.lt;have hSh:=aaS (cap:=cap) t2 k2 (dt.kept HA.out RM.out) H64.out (by have:=H8.out;omega);obtain⟨nt,ld⟩:∃nt,lf.aj.length=nt:=⟨_,rfl⟩;rw[ld,HRL.out] at hSh;rw[ld] at F0;have HSh:Hid _:=hSh;have HFK:Hid _:=jN;have acb:Hid (∀t∈lf.aj,t=1\/t=2):=k1;have IA:Hid (lf.aj.length<=6):=k2;have QC:Hid (lf.aj.length=nt):=ld;clear hSh jN Jr PO k1 k2 k3 hF vh iD b1 Ci b2 b3 t1 t2 t3 t4 ld bM;go_wp2_with fail;refine Calls.mono HSh.out ?_;rintro e5 w5 ⟨jA,a5,c5,rfl,ha5,XX⟩;have abT:=aaG (w:=w5) (n:=2001) HFU.out.1 HFU.out.2 (by decide) (by decide);have abU:Hid _:=abT;have Y6:Hid (w3.grownBy w5 none):=jA;have HA5:Hid (dt w5 a5 (aaq raw lf.aj nt)):=ha5;have HC5:Hid _:=XX;clear abT jA ha5 XX HSh F0 lv cF r1 x1 Yb SJ iB;go_wp2_with fail;refine Calls.mono abU.out ?_;rintro e6 w6 ⟨⟨k6,D9,rfl⟩,J4⟩;replace J4:=J4.symm;subst J4;clear abU;have hv:bG lf.aj (aaq raw lf.aj nt):=by have:=aaF H64.out acb.out (by have:=IA.out;omega) lf.aj.length (nLr _);rw[List.take_of_length_le (nLr _)] at this;rw[<-QC.out];exact this
  have hR:=aaZ (f:=(k:Int)) (aA:=(k6:Int)) (cap:=c5) (mh.kept H5.out Y6.out) H1.out H2.out HA5.out HC5.out (by rw[aaB];have:=IA.out;have:=QC.out;omega) (aaH hv);rw[aaB] at hR;have HR:Hid _:=hR;clear hR hv;go_wp2_with fail;refine Calls.mono HR.out ?_;rintro e7 w7 ⟨rI,vv7,vs7,rfl,_⟩;have HG7:Hid (w.grownBy w7 none):=aB RM.out (aB Y6.out rI);clear rI HR;go_wp2_with fail;go_ret;exact⟨rfl,HG7.out⟩
section
open Go.ChangeShapes Go.WideShapes Go.ChangeAt Go.WideMaps Go.WideElems Go.RowKit
open Go.ChangeMaps (open_string shut_string)
theorem aaU {n:Int} (h:(Lit.int .i64 n).wf=true):-9223372036854775808<=n/\n<=9223372036854775807:=by
 simp only[Lit.wf,Bool.and_eq_true,decide_eq_true_eq,show IntKind.i64.min = -9223372036854775808 from rfl,show IntKind.i64.max=9223372036854775807 from rfl] at h
 exact h
theorem abk:laidOutB prog=true:=by kernel_rfl
theorem abF:prog.cellsOf 2=1:=by kernel_rfl
theorem abH:prog.bytesOf 2=8:=by kernel_rfl
theorem aaV {H:Type}{enc:TypeId×Value->H}{W:World}{az:Nat}{v:Value}{d:DataW H}{ps:List MemPlace} (hv:Value.okWide prog W .any az 31 v) (hd:DataW.Trod enc prog W 0 (fun _=>true) true 31 v d ps) :
  ∃sp raw cap,v=.slice sp (raw:List Int).length cap/\dt W sp raw/\(∀x∈raw,dZ x)/\(sp=none->cap=0)/\((d.weights prog 31).all (·<=reachBytes)=true->raw.length*8<=140737488355328):=by
 obtain⟨a0,len,cap,rfl⟩:=okWide_slice underlying31 hv;obtain⟨aA,hf⟩:=hd;rcases open_ints underlying31 underlying2 abF hf with⟨Bc,hx⟩|⟨a,len',cap',zs,Bc,_,jM,aeu,cL,hx,bC,hwf⟩
 ·simp[Value.cells] at Bc;obtain⟨rfl,rfl,rfl⟩:=Bc;exact⟨none,[],0,rfl,fun h=>by simp at h,fun x hx=>by simp at hx,fun _=>rfl,fun _=>by simp⟩
 ·simp[Value.cells] at Bc;obtain⟨rfl,rfl,rfl⟩:=Bc;simp only[if_true] at cL;have bM:(zs.take len).length=len:=by rw[List.length_take];omega
  refine⟨some a,zs.take len,cap,by rw[bM],fun hp=>?_,fun x hx=>?_,(fun e=>by cases e),fun hw=>?_⟩
  ·obtain⟨b,off,rfl,od⟩:=ints_at bC (by omega);refine⟨b,off,rfl,World.block_lt_of_cell? W _ (od 0 (by omega)),fun j hj=>?_⟩;rw[bM] at hj;have:=od j (by omega);rw[this];simp[List.getD,show j<zs.length by omega]
  ·exact aaU (hwf x (List.mem_of_mem_take hx))
  ·obtain⟨rfl,_⟩:=Prod.mk.inj hx;rw[bM];simp only[DataW.weights,underlying31,abH,List.all_cons,Bool.and_eq_true,decide_eq_true_eq,lits,List.length_map,List.length_take,List.length_drop] at hw;have:=hw.1;unfold reachBytes at this;omega
theorem aaO (os:Os) (started:os.Started) (H:Type) (enc:TypeId×Value->H) :
  ReturnsInHanded {} Tryz.checked os 4 .any (fun w args=>(Rows.runsSpec.pre enc prog Tryz.f4 [] false w args/\laidMetH prog zX w)/\sizedMet enc prog Tryz.f4 (OpenSpec.ofChange Rows.runsSpec) false w args)
   (Rows.runsSpec.post enc prog Tryz.f4 false true false false):=by
 refine returnsInHanded_of_change_and (C:=Tryz.checked) (X:=fun w _=>laidMetH prog zX w) (fun _ _ _ hh h=>h.of_heap hh) WI started (by kernel_rfl) func4
  (ChangeSpec.witness_shaped (enc:=enc) (C:=Tryz.checked) (os:=os) (X:=fun w _=>laidMetH prog zX w) false (World.doorLaid prog 400 os) #[.string ⟨#[]⟩,.int .i64 0,.slice none 0 0,.int .i64 0] 8 rfl (World.shaped_of_RefB (by kernel_rfl) (by kernel_rfl)) (by kernel_rfl) (by kernel_rfl) (by kernel_rfl) (Ic os _)) ?_
 intro W az args ds gs before Mh hW _ abW hL _;have qA:∀(j:Nat) t v,Tryz.f4.params[j]?=some t->args[j]?=some v->Value.okWide prog W .any az t v:=Mh;have Y8:=hW;obtain⟨p,q,Y9,hV,rfl,Ee,iA⟩:=hW;have hA:DataW.TrodAll enc prog W 0 (fun _=>true) true Tryz.f4.params.toList args.toList ds p:=Y9;rw[params4] at hA qA;obtain⟨v0,v1,v2,v3,d0,d1,d2,d3,p0,p1,p2,p3,rfl,rfl,rfl,h0,h1,h2,h3⟩:=trodAll_four hA;obtain⟨rfl,rfl⟩:=trodVars_none hV;obtain⟨s,rfl,rfl,rfl,hs⟩:=open_string underlying9 (qA 0 9 v0 rfl rfl) h0;obtain⟨f,rfl,rfl,rfl,hf⟩:=open_int underlying3 (qA 1 3 v1 rfl rfl) h1;obtain⟨n,rfl,rfl,rfl,hw⟩:=open_int underlying3 (qA 3 3 v3 rfl rfl) h3;obtain⟨sp,raw,cap,rfl,hAt,h64,kX,h8⟩:=aaV (qA 2 31 v2 rfl rfl) h2;have hwt:(DataW.weightsEach prog (Tryz.f4.params.toList++Rows.runsSpec.plain.varTypes prog) ([_,_,d2,_]++[])).all (·<=reachBytes)=true:=abW;rw[params4] at hwt;have xa:(d2.weights prog 31).all (·<=reachBytes)=true:=by simp only[List.cons_append,List.nil_append,DataW.weightsEach,List.all_append,Bool.and_eq_true] at hwt;exact hwt.2.2.1
 clear Y9 Mh hwt abW;simp only[List.append_nil,List.nil_append] at Y8;have bM:∀x∈p2,x.block<W.heap.size:=fun x hx=>Y8.lt x (by simpa using hx);unfold maxLen at hs;refine(abj (vw hL) (nLr _) s hs (aaU hf) (aaU hw) hAt kX h64 (h8 xa)).mono fun e W' ⟨he,hg⟩=>?_;subst he;have hb:=(bc.none hg (nLr _)).below;refine⟨_,rfl,z9 (pa:=p2) (pv:=[]) Y8 (fun _ _ _=>trodAll_mk1 (shut_bool underlying4 _)) (fun sp mE=>?_) (fun _ _=>rfl) (by simp) hg (ok_one (by kernel_rfl) rfl (okWide_bool_mk underlying4 _))⟩;have k0:DataW.Trod enc prog W' 0 sp true 9 (.string s) (.lit (.string s.data.toList)) []:=shut_string underlying9 (by unfold maxLen;exact hs);have k1:DataW.Trod enc prog W' 0 sp true 3 (.int .i64 f) _ []:=shut_int underlying3 hf;have k2:DataW.Trod enc prog W' 0 sp true 31 _ d2 p2:=Trod_stays abk (by kernel_rfl) (of_decide_eq_true (by kernel_rfl)) h2 (fun x hx=>hb.same (bM x hx)) (fun x hx=>mE x (by simpa using hx));have k3:DataW.Trod enc prog W' 0 sp true 3 (.int .i64 n) _ []:=shut_int underlying3 hw;have k:=trodAll_cons_mk k0 (trodAll_cons_mk k1 (trodAll_cons_mk k2 (trodAll_mk1 k3)));have e:(([]:List MemPlace)++([]++(p2++[])))=p2:=by simp
 rw[e] at k;exact k
theorem aaW:Rows.RunsSaid:=
 OpenClaim.holds_of_wide 4 Tryz.f4 rfl rfl rfl rfl rfl rfl rfl ⟨rfl,rfl,rfl,rfl,rfl⟩ rfl rfl rfl rfl rfl (by kernel_rfl) func4 (by kernel_rfl)
  (of_decide_eq_true (by kernel_rfl)) (by unfold Func.isWrapper;first|(rw[if_pos (by decide +kernel)];kernel_rfl)|(rw[if_neg (by decide +kernel)];exact⟨rfl,rfl⟩))
  (fun os started H enc _=>aaO os started H enc)
theorem runs_card_holds:Rows.RunsCardSaid:=
 Claim7.holds_tied_plain_at .later [] [.mapped] true (true,"0a3b0f7d220781ef1cc98c4034ab829f152bc18808da4a2a94eea988817bde76") true
  aaW (fun _ h=>by cases h) (by kernel_rfl) (fun _ h=>by cases h) runs_row_tie rfl ⟨rfl,rfl⟩ (by kernel_rfl) rfl
  (fun f fn hf xQ=>by
   obtain rfl:f=4:=Option.some.inj ((show prog.funcNamed Tryz.f4.name=some 4 by kernel_rfl).symm.trans hf) |>.symm
   obtain rfl:fn=Tryz.f4:=(Option.some.inj (func4.symm.trans xQ)).symm
   exact⟨by kernel_rfl,fun j t ht=>by
    rw[params4] at ht
    have hm:t∈[9,3,31,3]:=by simpa using Array.mem_of_getElem? ht
    have cL:([9,3,31,3].all fun u=>!prog.wantsStandIn u)=true:=by kernel_rfl
    exact(show prog.wantsStandIn t=false by simpa using List.all_eq_true.1 cL t hm)⟩)
  (by kernel_rfl)
#print axioms runs_card_holds
end
