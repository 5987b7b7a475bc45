/- For every text of bytes the law Looks returns true: what is loaded, what is wrong with what is not, and where, and what its functions take and give, as the document has it; the condition: the table of kinds lies as the program's text lays it (the card ties that). -/
import Derived.Test.YtjbdgbdcnjopkaaGreatDoorP52
import Derived.Test.YtjbdgbdcnjopkaaGreatDoorP25
import Derived.Test.YtjbdgbdcnjopkaaGreatDoorCards
import Derived.Test.YtjbdgbdcnjopkaaGreatDoorTie
import Derived.SevenTiedAt
namespace Go.Proofs.YtjbdgbdcnjopkaaGreatDoor
open Go.RowKit Go.Proofs.Tryz
set_option linter.unusedVariables false
set_option linter.unusedSimpArgs false
set_option maxRecDepth 100000
set_option maxHeartbeats 4000000
theorem RP {bs:List UInt8}{mm:bf}{fs:List bu}{aA:Nat} (hm:eD bs=.ok mm) (ht:bR mm mm.funs=.ok fs) (hf:aA<=100000):Pu mm fs aA:=by
 obtain⟨h1,h2⟩:=B9 hm ht;have hl:bs.length<=4000:=by
  unfold eD at hm;split at hm
  ·cases hm
  ·omega
 obtain⟨_,_,_,_,q1,q2,q3⟩:=(tR hl).1 mm hm;exact⟨h1,h2,q2,fun f hf=>⟨(q3 f hf).2.1,(q3 f hf).2.2.2.2.2⟩,q1,hf⟩
theorem fH.own {w:World}{az:Nat}{v:Value}{l:List Int} (h:w.ownsRow az 2 1 v l.length (cA l)):fH w v l:=by obtain⟨a,cap,rfl,_,_⟩:=aG h;refine⟨a,cap,rfl,fun j hj=>?_⟩;obtain⟨g,e1,e2⟩:=lz (m:=0) h j _ (ly hj);obtain⟨_,cc,od⟩:=ba h g (by rw[e1];rfl);exact⟨g,0,e1,od.lt,by rw[Nat.zero_add];exact e2⟩
theorem dt.own {w:World}{az cap:Nat}{a:Option Addr}{l:List Int} (h:w.ownsRow az 2 1 (.slice a l.length cap) l.length (cA l)):dt w a l:=fun h0=>by obtain⟨g,e1,_⟩:=lz (m:=0) h 0 _ (ly h0);obtain⟨_,cc,od⟩:=ba h g (by rw[e1];rfl);refine⟨g,0,e1,od.lt,fun j hj=>?_⟩;obtain⟨g',e1',e2⟩:=lz (m:=0) h j _ (ly hj);rw[e1] at e1';cases e1';rw[Nat.zero_add];exact e2
theorem fH.out {w0 w:World}{vv:Value}{l:List Int} (h:(vv=.slice none 0 0/\l=[])\/∃g,vv=.slice (some ⟨g,0,none⟩) l.length l.length/\w0.heap.size<=g/\Blk w g (cA l).toArray 2):fH w vv l:=by
 rcases h with⟨rfl,rfl⟩|⟨g,rfl,_,hb⟩
 ·exact⟨none,0,rfl,fun j hj=>by simp at hj⟩
 ·refine⟨_,_,rfl,fun j hj=>⟨g,0,rfl,hb.lt,?_⟩⟩;rw[Nat.zero_add,hb.cell];simpa using ly hj
theorem zT {w:World}{ops:Array Oper}{rest:List Oper}{o:Oper}{a:Act}{Q:Exit->Act->World->Prop} (us:o.guard=none) (s x:Operand) (ho:o.op=.call { callee:=.builtin .append,args:=#[s,x],argTypes:=#[31,31] }) (lo:Nat) (hs:a.eval s=.slice none 0 0) {sp:Option Addr}{cap:Nat}{args:List Int}{na:Nat} (uv:args.length=na) (hx:a.eval x=.slice sp na cap) (ha:dt w sp args) (kX:sp=none->cap=0) (h8:na*8<=140737488355328) (nO:lo<=w.heap.size)
  (h:∀ac capc w',w'.ownsRow lo 2 1 (.slice ac na capc) na (cA args)->dt w' ac args->w.grownBy w' none->wpList prog ops Q rest (a.put o.dst (.slice ac na capc)) w'):wpList prog ops Q (o::rest) a w:=by
 obtain⟨j0,Lu,Lp,WC,WD⟩:=info_parts sN;subst uv;cases mE:sp with
 | none =>
  have h0:args.length=0:=by
   rcases Nat.eq_zero_or_pos args.length with h|h
   ·exact h
   ·obtain⟨b,o,e,_⟩:=ha h;rw[mE] at e;cases e
  rw[mE,kX mE,h0] at hx;refine wpList_append_own_none us _ _ 31 ho lo 2 j0 1 underlying31 Lu (.slice none 0 0) 0 [] hs (World.ownsRow_nil _ _ _ _) hx ?_;have h1:args=[]:=List.eq_nil_of_length_eq_zero h0;have:=h none 0 w (by rw[h0,h1];exact World.ownsRow_nil _ _ _ _) (fun h=>by omega) (aH _ _);rw[h0] at this;exact this
 | some ad =>
  rw[mE] at hx;have rJ:∀j v,(cA args)[j]?=some v->w.cell? (ad.add j)=some v:=fun j v hj=>by
   have qc:j<args.length:=by have:=(gEs.1 hj).1;rwa [dw] at this
   obtain⟨ad',e1,e2⟩:=ha.src (by omega);rw[mE] at e1;cases e1;exact e2 j v hj
  refine wpList_append_own_at _ us _ _ 31 ho lo 2 j0 (.int .i64 0) 1 8 underlying31 Lu Lp WC WD rfl (by decide) (.slice none 0 0) 0 [] hs (World.ownsRow_nil _ _ _ _) ad args.length cap (cA args) hx (by rw[dw,Nat.mul_one]) rJ ?_ (by unfold maxLen;omega) (by omega) nO ?_
  ·intro u hu;unfold cA at hu;obtain⟨z,_,rfl⟩:=List.mem_map.1 hu;rfl
  ·intro v' w1 cG cD _ _;simp only[Nat.zero_add,List.nil_append] at cG;obtain⟨ac,capc,rfl,_,_⟩:=aG cG;exact h ac capc w1 cG (dt.own cG) cD
theorem KL {w:World}{x:Nat}{fs:List bu}{mm:bf} (hx:mh w x fs mm) {f aA er:Int}{sp:Option Addr}{cap:Nat}{args:List Int} (ha:dt w sp args) (kX:sp=none->cap=0) (h8:args.length*8<=140737488355328) {o:Out} (SY:o.values.length<=1000000)
  (hT:∀w1 b,BC w1 b fs->dt w1 sp args->Calls prog 24 #[ptr b,.int .i64 f,.slice sp args.length cap,.int .i64 aA] w1 fun e w'=>w1.grownBy w' none/\∃v,e=.returned (.tuple #[v,.int .i64 er])/\ow w1 w' v o)
  (hR:∀w1 az r ads ac capc,pV az w1 r mm ads->dt w1 ac args->Calls prog 39 #[ptr r,.int .i64 f,.slice ac args.length capc,.int .i64 aA] w1 fun e w'=>w1.grownBy w' none/\∃vv,e=.returned (.tuple #[.int .i64 o.ends,.int .i64 o.ay,vv,.int .i64 er])/\w'.ownsRow w1.heap.size 2 1 vv o.values.length (cA o.values)) :
  Calls prog 15 #[ptr x,.int .i64 f,.slice sp args.length cap,.int .i64 aA] w fun e w'=>w.grownBy w' none/\∃vv,e=.returned (.tuple #[vv,.bool true])/\((vv=.slice none 0 0/\o.values=[])\/∃g,vv=.slice (some ⟨g,0,none⟩) o.values.length o.values.length/\w.heap.size<=g/\Blk w' g (cA o.values).toArray 2):=by
 obtain⟨lo,nO⟩:∃lo,w.heap.size=lo:=⟨_,rfl⟩;obtain⟨na,uv⟩:∃na,args.length=na:=⟨_,rfl⟩;rw[uv] at h8 hT hR ⊢;have HX:Hid (mh w x fs mm):=hx;have HA:Hid (dt w sp args):=ha;have HT:Hid _:=hT;have HR:Hid _:=hR;have OU:Hid _:=uv;have zl:Hid _:=nO;have HC:Hid _:=kX;have H8:Hid (na*8<=140737488355328):=h8;have HOL:Hid (o.values.length<=1000000):=SY;rw[nO];clear hx ha uv kX nO SY hT hR h8;go_enter func15,ntmps15;go_upto_region 3 with(at_builtin;refine zT rfl _ _ rfl lo rfl OU.out rfl HA.out HC.out H8.out (Nat.le_of_eq zl.out.symm) ?aq5;intro ac capc w1 _ Y2 RQ)
 have HAC:Hid (dt w1 ac args):=Y2;have ID:Hid (w.grownBy w1 none):=RQ;clear Y2 RQ;obtain⟨b,r,ads,az,h1,h2,h4⟩:=mh.kept HX.out ID.out;have x0:=h1.cell 0;have xV:=h1.lt;simp at x0;have hT:=HT.out w1 b h2 (dt.kept HA.out ID.out);have R8:Hid _:=hT;have H1:Hid (Blk w1 x #[ptr b,ptr r] 42):=h1;have H4:Hid (pV az w1 r mm ads):=h4;clear hT h1 h2 h4;go_wp2_with fail;refine Calls.mono R8.out ?_;rintro e w2 ⟨aP,v,rfl,vv,rfl,JD⟩;have DR:Hid (w1.grownBy w2 none):=aP;have Y3:Hid ((vv=.slice none 0 0/\o.values=[])\/∃g,vv=.slice (some ⟨g,0,none⟩) o.values.length o.values.length/\w1.heap.size<=g/\Blk w2 g (cA o.values).toArray 2):=JD;obtain⟨va,vn,vc,rfl⟩:∃a n c,vv=.slice a n c:=by
  rcases JD with⟨rfl,_⟩|⟨g,rfl,_⟩
  ·exact⟨_,_,_,rfl⟩
  ·exact⟨_,_,_,rfl⟩
 clear aP JD R8 x0 xV;go_upto_region 4 with fail
 have hO:=Blk.new w2 #[.int .i64 o.ends,.int .i64 o.ay,.slice va vn vc] 73;have SZ:=aC w2 (.cells #[.int .i64 o.ends,.int .i64 o.ay,.slice va vn vc] 73) none;obtain⟨wC,Y4⟩:∃z,w2.alloc (.cells #[.int .i64 o.ends,.int .i64 o.ay,.slice va vn vc] 73)=z:=⟨_,rfl⟩;rw[Y4] at hO SZ ⊢;obtain⟨gO,Y5⟩:∃z,w2.heap.size=z:=⟨_,rfl⟩;rw[Y5] at hO ⊢;have xc:=aB DR.out SZ;have tk:Blk wC x #[ptr b,ptr r] 42:=Blk.grown H1.out xc (by simp);have x1:=tk.cell 1;have xV:=tk.lt;simp at x1;have hR:=HR.out wC az r ads ac capc (pV.keep H4.out fun g cs t _ _ _ hb=>Blk.grown hb xc (by simp)) (dt.kept HAC.out xc);have uw:Hid _:=hR;have HO:Hid (Blk wC gO #[.int .i64 o.ends,.int .i64 o.ay,.slice va vn vc] 73):=hO;have RM:Hid (w2.grownBy wC none):=SZ;clear hR hO SZ Y4 Y5 xc tk;go_wp2_with fail;refine Calls.mono uw.out ?_;rintro e2 w3 ⟨co,v3,rfl,jm⟩;have S0:Blk w3 gO #[.int .i64 o.ends,.int .i64 o.ay,.slice va vn vc] 73:=Blk.grown HO.out co (by simp);have xl:w2.grownBy w3 none:=aB RM.out co;have vz:fH w3 (.slice va vn vc) o.values:=by
  refine fH.out (w0:=w1) ?_;rcases Y3.out with⟨e1,e2⟩|⟨g,e1,e2,e3⟩
  ·exact .inl ⟨e1,e2⟩
  ·exact .inr ⟨g,e1,e2,Blk.grown e3 xl (by simp)⟩
 have BR:=fH.own jm;have hS:=xL vz BR HOL.out;obtain⟨a3,c3,rfl,_,_⟩:=aG jm;have HS:Hid _:=hS;have HG4:Hid (w2.grownBy w3 none):=xl;have o2:=S0.cell 2;simp at o2;have RR:=S0.lt;have V4:Hid (Blk w3 gO #[.int .i64 o.ends,.int .i64 o.ay,.slice va vn vc] 73):=S0;clear S0 xl vz BR hS jm co uw x1 xV;go_wp2_with fail;refine Calls.mono HS.out ?_;rintro e3 w4 ⟨rfl,m4,ye⟩;have RS:Blk w4 gO #[.int .i64 o.ends,.int .i64 o.ay,.slice va vn vc] 73:=by rw[ye];exact V4.out
 have Y6:Hid (w2.grownBy w4 none):=by show w2.grownBy w4 none;rw[ye];exact bd HG4.out _
 clear ye HS o2 RR;have o0:=RS.cell 0;have o1:=RS.cell 1;have o2:=RS.cell 2;simp at o0 o1 o2;have RR:=RS.lt;clear RS;go_wp2_with fail;go_quiet (first|(go_at_call 37;refine Calls.quiet_of_same ud)|(go_at_call 41;refine Calls.quiet_of_same Hz))
 go_wp2_with fail;go_ret2;refine⟨bd (aB (aB ID.out DR.out) Y6.out) _,_,rfl,?_⟩;rcases Y3.out with⟨e1,e2⟩|⟨g,e1,e2,e3⟩
 ·exact .inl ⟨e1,e2⟩
 ·exact .inr ⟨g,e1,by have h1:=ID.out.size;have h2:=zl.out;omega,Blk.grown e3 (bd Y6.out _) (by simp)⟩
theorem On {w:World}{x:Nat}{fs:List bu}{mm:bf}{bs:List UInt8} (hx:mh w x fs mm) (hm:eD bs=.ok mm) (ht:bR mm mm.funs=.ok fs) {i aA:Nat} (du:aA<=100000) {lf:bu} (hf:fs[i]?=some lf) {sp:Option Addr}{cap:Nat}{args:List Int} (ha:dt w sp args) (kX:sp=none->cap=0) (hv:bG lf.aj args) {o:Out} (hr:wQ fs i args aA=some o) (SY:o.values.length<=1000000) :
  Calls prog 15 #[ptr x,.int .i64 i,.slice sp args.length cap,.int .i64 aA] w fun e w'=>w.grownBy w' none/\∃vv,e=.returned (.tuple #[vv,.bool true])/\((vv=.slice none 0 0/\o.values=[])\/∃g,vv=.slice (some ⟨g,0,none⟩) o.values.length o.values.length/\w.heap.size<=g/\Blk w' g (cA o.values).toArray 2):=by
 have hp:=RP hm ht du;have A6:eU bs=.ok fs:=by unfold eU;rw[hm];exact ht
 obtain⟨fQ,j5⟩:=wP A6;have acU:args.length<=6:=by obtain⟨pf,ai,T,R,P,n,hF⟩:=hp.fns i lf hf;have:=(hp.sigs _ (gMo hF.tr.sig)).1;have h2:=hv.len;simp only at this;omega
 exact KL hx ha kX (by omega) SY (fun w1 b ⟨gF,h1,h2⟩ rD=>JE h1 h2 fQ hf rD du (uj hv) hr) (fun w1 az r ads ac capc h1 rD=>KJ hp h1 hf rD hv hr)
def uk:ByteArray:=⟨#[84,82,1,1,2,1,1,1,1,1,0,0,0,6,14,0,14,1,30,6]⟩
def Oo:Bool:=match eU uk.data.toList with
 | .error _=>false
 | .ok fs=>match fs[0]? with
  | none=>false
  | some lf=>(lf.aj == [1,1]) && (match wQ fs 0 [5,7] 9 with
   | none=>false
   | some o=>o.values == [12])
theorem Cm:Oo=true:=by kernel_rfl
theorem D1 {fs:List bu} (h:eU uk.data.toList=.ok fs):∃lf o,fs[0]?=some lf/\lf.aj=[1,1]/\wQ fs 0 [5,7] 9=some o/\o.values=[12]:=by
 have hb:=Cm;unfold Oo at hb;rw[h] at hb;simp only at hb;cases hf:fs[0]? with
 | none=>rw[hf] at hb;cases hb
 | some lf =>
  rw[hf] at hb;simp only[Bool.and_eq_true] at hb;cases hr:wQ fs 0 [5,7] 9 with
  | none=>rw[hr] at hb;exact absurd hb.2 (by simp)
  | some o =>
   rw[hr] at hb;exact⟨lf,o,rfl,by simpa using hb.1,rfl,by simpa using hb.2⟩
theorem KM {er:Er} (h:eU uk.data.toList=.error er):False:=by have hb:=Cm;unfold Oo at hb;rw[h] at hb;cases hb
theorem zU:(#[.int .u8 84,.int .u8 82,.int .u8 1,.int .u8 1,.int .u8 2,.int .u8 1,.int .u8 1,.int .u8 1,.int .u8 1,.int .u8 1,.int .u8 0,.int .u8 0,.int .u8 0,.int .u8 6,.int .u8 14,.int .u8 0,.int .u8 14,.int .u8 1,.int .u8 30,.int .u8 6]:Array Value)=uk.data.map fun b=>Value.int .u8 b.toNat:=by kernel_rfl
theorem H7 (w:World) (x y:Int):dt (w.alloc (.cells #[.int .i64 x,.int .i64 y] 2)) (some ⟨w.heap.size,0,none⟩) [x,y]:=fun _ =>
 ⟨w.heap.size,0,rfl,by simp,fun j hj=>by
  rw[Nat.zero_add,(Blk.new w #[.int .i64 x,.int .i64 y] 2).cell]
  match j,hj with
  | 0,_=>rfl
  | 1,_=>rfl⟩
def iP (w:World) (c:Array Value):World:=(w.alloc (.cells c 5)).freeze ⟨w.heap.size,c.size,none⟩ 1
theorem lL (w:World) (c:Array Value) (n k:Nat):(convert 26 26 (.slice (some ⟨w.heap.size,0,none⟩) n k)).run prog (w.alloc (.cells c 5))=.ok (.slice (some ⟨w.heap.size,0,none⟩) n k) (iP w c):=by
 have hsh:(w.alloc (.cells c 5)).shape? w.heap.size=some (5,c.size):=by simp[World.shape?,World.alloc,-World.alloc_eq]
 simp[convert,run_underlying underlying26,run_underlying underlying5,markStringish,iP,hsh,Result.andThen]
theorem zV (w:World) (c:Array Value) (j:Nat) (hj:j<w.heap.size):(iP w c).heap[j]?=w.heap[j]?:=by
 have h1:w.heap.size≠j:=by omega
 simp[iP,World.freeze,World.alloc,-World.alloc_eq,Array.getElem?_modify,Array.getElem?_push,h1,Ne.symm h1]
theorem zW (w:World) (c:Array Value):(iP w c).heap[w.heap.size]?=some (.cells c 5 (c.size,c.size+1)):=by simp[iP,World.freeze,World.alloc,-World.alloc_eq];rw[Array.getElem_modify_self];simp
theorem xN (w:World) (c:Array Value):(iP w c).heap.size=w.heap.size+1:=by simp[iP,World.freeze,World.alloc,-World.alloc_eq]
theorem xO (w:World) (c:Array Value) (j:Nat):(iP w c).cell? ⟨w.heap.size,j,none⟩=c[j]?:=by simp[World.cell?,zW]
theorem vu (w:World) (c:Array Value):w.grownBy (iP w c) none:=
 ⟨rfl,rfl,rfl,by rw[xN];omega,fun k hk _=>zV w c k hk⟩
theorem D2 {w:World}{B:Nat} (hK:iu B w) (hB:B<=w.heap.size):Calls prog 12 #[] w fun e w'=>w.grownBy w' none/\∃x,e=.returned (ptr x)/\∃fs mm,mh w' x fs mm/\eD uk.data.toList=.ok mm/\bR mm mm.funs=.ok fs:=by
 have yc:=lL w #[.int .u8 84,.int .u8 82,.int .u8 1,.int .u8 1,.int .u8 2,.int .u8 1,.int .u8 1,.int .u8 1,.int .u8 1,.int .u8 1,.int .u8 0,.int .u8 0,.int .u8 0,.int .u8 6,.int .u8 14,.int .u8 0,.int .u8 14,.int .u8 1,.int .u8 30,.int .u8 6] 20 20;have qm:=vu w #[.int .u8 84,.int .u8 82,.int .u8 1,.int .u8 1,.int .u8 2,.int .u8 1,.int .u8 1,.int .u8 1,.int .u8 1,.int .u8 1,.int .u8 0,.int .u8 0,.int .u8 0,.int .u8 6,.int .u8 14,.int .u8 0,.int .u8 14,.int .u8 1,.int .u8 30,.int .u8 6];have jW:=xO w #[.int .u8 84,.int .u8 82,.int .u8 1,.int .u8 1,.int .u8 2,.int .u8 1,.int .u8 1,.int .u8 1,.int .u8 1,.int .u8 1,.int .u8 0,.int .u8 0,.int .u8 0,.int .u8 6,.int .u8 14,.int .u8 0,.int .u8 14,.int .u8 1,.int .u8 30,.int .u8 6];obtain⟨wA,Ak⟩:∃z,iP w #[.int .u8 84,.int .u8 82,.int .u8 1,.int .u8 1,.int .u8 2,.int .u8 1,.int .u8 1,.int .u8 1,.int .u8 1,.int .u8 1,.int .u8 0,.int .u8 0,.int .u8 0,.int .u8 6,.int .u8 14,.int .u8 0,.int .u8 14,.int .u8 1,.int .u8 30,.int .u8 6]=z:=⟨_,rfl⟩;rw[Ak] at yc qm jW;clear Ak;have hL:=ue (s:=uk) (g:=w.heap.size) (o:=0) (cap:=20) (hK.grown qm hB (by simp)) (Nat.le_trans hB qm.size) (fun i hi=>by
  rw[Nat.zero_add,jW,zU]
  simp only[Array.getElem?_map]
  rw[Array.getElem?_eq_getElem (by simpa using hi)]
  simp) (by decide) (by decide)
 have HL:Hid _:=hL;have G6:Hid _:=qm;clear hL qm jW hK hB;go_enter func12,ntmps12;go_wp2_with fail;clear yc;refine Calls.mono HL.out ?_;rintro e w1 ⟨eZ,gL⟩;rcases gL with⟨er,h1,_⟩|⟨x,fs,mm,h1,h2,h3,rfl,h4⟩
 ·exact(KM h1).elim
 ·obtain⟨lf,o,p1,p2,p3,p4⟩:=D1 h3;have Mv:=aC w1 (.cells #[.int .i64 5,.int .i64 7] 2) none;have hR:=On (i:=0) (aA:=9) (cap:=2) (h4.kept Mv) h1 h2 (by decide) p1 (H7 w1 5 7) (by simp) (by rw[p2];exact⟨.inl ⟨rfl,by unfold eX;decide⟩,.inl ⟨rfl,by unfold eX;decide⟩,trivial⟩) p3 (by rw[p4];decide);rw[p4] at hR;have HR:Hid _:=hR;have HB4:Hid (mh w1 x fs mm/\eD uk.data.toList=.ok mm/\bR mm mm.funs=.ok fs):=⟨h4,h1,h2⟩;have ID:Hid _:=eZ;have HGB:Hid _:=Mv;clear hR h1 h2 h3 h4 p1 p2 p3 p4 eZ Mv HL;go_wp2_with fail;refine Calls.mono HR.out ?_;rintro e2 w2 ⟨aP,vv,rfl,JD⟩;rcases JD with⟨_,h0⟩|⟨g,rfl,_,hb⟩
  ·cases h0
  ·have c0:=hb.cell 0;simp[cA] at c0;have iB:=hb.lt;have DR:Hid _:=aP;clear hb aP HR;go_wp2_with fail;go_ret;exact⟨aB (aB G6.out ID.out) (aB HGB.out DR.out),x,rfl,fs,mm,mh.kept HB4.out.1 (aB HGB.out DR.out),HB4.out.2⟩
theorem D3 (w:World) (s:ByteArray):w.grownBy (Lib.bytesWorld w 5 s) none:=
 ⟨rfl,rfl,rfl,by rw[Lib.bytesWorld_size];omega,fun k hk _=>Lib.bytesWorld_at_old w 5 s k hk⟩
theorem D4 {w:World}{B:Nat} (hK:iu B w) (hB:B<=w.heap.size) (s:ByteArray) (hs:s.size<=9223372036854775807):Calls prog 3 #[.string s] w fun e w'=>e=.returned (.bool true)/\w.grownBy w' none:=by
 have RT:=D2 hK hB;have RU:Hid _:=RT;have HK:Hid (iu B w):=hK;have HB:Hid (B<=w.heap.size):=hB;have HS:Hid (s.size<=9223372036854775807):=hs;clear RT hK hB hs;go_enter func3,ntmps3;go_wp2_with fail;refine Calls.mono RU.out ?_;rintro e w1 ⟨eZ,x,rfl,_⟩;have aQ:s.data.toList.length=s.size:=by rw[Array.length_toList];rfl
 have yc:=Lib.run_convert_string_bytes (P:=prog) w1 9 26 5 s underlying9 underlying26 underlying5;have bU:=D3 w1 s;have hL:=ue (w:=Lib.bytesWorld w1 5 s) (g:=w1.heap.size) (o:=0) (cap:=grownCap w1 s.size 0 5) (s:=s) ((HK.out.grown eZ HB.out (by simp)).grown bU (Nat.le_trans HB.out eZ.size) (by simp)) (Nat.le_trans HB.out (Nat.le_trans eZ.size bU.size)) (fun i hi=>by
  have:=Lib.bytesWorld_cell w1 5 s i (by rw[<-aQ];exact hi)
  rw[Nat.zero_add,this]
  rw[List.getD_eq_getElem?_getD,gEg hi];rfl) (grownCap_ge _ _ _ _) HS.out
 obtain⟨W,hW⟩:∃W,Lib.bytesWorld w1 5 s=W:=⟨_,rfl⟩;rw[hW] at yc bU hL;obtain⟨cp,Ct⟩:∃cp,grownCap w1 s.size 0 5=cp:=⟨_,rfl⟩;rw[Ct] at yc hL;have HG:Hid (w.grownBy W none):=aB eZ bU;have HL:Hid _:=hL;clear hW aQ Ct hL bU eZ RU;go_wp2_with fail;clear yc;refine Calls.mono HL.out ?_;rintro e2 w2 ⟨aP,gL⟩;have DR:Hid (w.grownBy w2 none):=aB HG.out aP;clear aP HL;rcases gL with⟨er,h1,rfl⟩|⟨y,fs,mm,h1,h2,h3,rfl,h4⟩
 ·clear h1;go_wp2_with fail;go_ret;exact⟨rfl,DR.out⟩
 ·have hT:=H6 h4 h1 h2;have HT:Hid _:=hT;clear hT h1 h2 h3 h4;go_wp2_with fail;refine Calls.mono HT.out ?_;rintro e3 w3 ⟨co,c,bt,bg,rfl,_⟩;have RM:Hid (w.grownBy w3 none):=aB DR.out co;clear co HT;go_wp2_with fail;go_ret;exact⟨rfl,RM.out⟩
section
open Go.ChangeShapes Go.WideShapes Go.ChangeAt Go.WideMaps Go.WideElems Go.RowKit
open Go.ChangeMaps (open_string shut_string)
theorem xP (os:Os) (started:os.Started) (H:Type) (enc:TypeId×Value->H) :
  ReturnsInHanded {} Tryz.checked os 3 .any (fun w args=>(Rows.looksSpec.pre enc prog Tryz.f3 [] false w args/\laidMetH prog zX w)/\sizedMet enc prog Tryz.f3 (OpenSpec.ofChange Rows.looksSpec) false w args)
   (Rows.looksSpec.post enc prog Tryz.f3 false true false false):=by
 refine returnsInHanded_of_change_and (C:=Tryz.checked) (X:=fun w _=>laidMetH prog zX w) (fun _ _ _ hh h=>h.of_heap hh) WI started (by kernel_rfl) func3
  (ChangeSpec.witness_shaped (enc:=enc) (C:=Tryz.checked) (os:=os) (X:=fun w _=>laidMetH prog zX w) false (World.doorLaid prog 400 os) #[.string ⟨#[]⟩] 8 rfl (World.shaped_of_RefB (by kernel_rfl) (by kernel_rfl)) (by kernel_rfl) (by kernel_rfl) (by kernel_rfl) (Ic os _)) ?_
 intro W az args ds gs before Mh hW _ _ hL _;have qA:∀(j:Nat) t v,Tryz.f3.params[j]?=some t->args[j]?=some v->Value.okWide prog W .any az t v:=Mh;have Y8:=hW;obtain⟨p,q,Y9,hV,rfl,Ee,iA⟩:=hW;have hA:DataW.TrodAll enc prog W 0 (fun _=>true) true Tryz.f3.params.toList args.toList ds p:=Y9;rw[params3] at hA qA;obtain⟨v0,d0,rfl,rfl,h0⟩:=trodAll_one hA;obtain⟨rfl,rfl⟩:=trodVars_none hV;obtain⟨s,rfl,rfl,rfl,hs⟩:=open_string underlying9 (qA 0 9 v0 rfl rfl) h0;clear Y9 Mh;simp only[List.append_nil] at Y8;have D8:=hs;unfold maxLen at hs;refine(D4 (vw hL) (nLr _) s hs).mono fun e W' ⟨he,hg⟩=>?_;subst he;exact⟨_,rfl,z9 (pa:=[]) (pv:=[]) Y8 (fun _ _ _=>trodAll_mk1 (shut_bool underlying4 _)) (fun sp _=>trodAll_mk1 (shut_string underlying9 D8)) (fun _ _=>rfl) rfl hg (ok_one (by kernel_rfl) rfl (okWide_bool_mk underlying4 _))⟩
theorem Aa:Rows.LooksSaid:=
 OpenClaim.holds_of_wide 3 Tryz.f3 rfl rfl rfl rfl rfl rfl rfl ⟨rfl,rfl,rfl,rfl,rfl⟩ rfl rfl rfl rfl rfl (by kernel_rfl) func3 (by kernel_rfl)
  (of_decide_eq_true (by kernel_rfl)) (by unfold Func.isWrapper;first|(rw[if_pos (by decide +kernel)];kernel_rfl)|(rw[if_neg (by decide +kernel)];exact⟨rfl,rfl⟩))
  (fun os started H enc _=>xP os started H enc)
theorem looks_card_holds:Rows.LooksCardSaid:=
 Claim7.holds_tied_plain_at .later [] [.mapped] true (true,"0a3b0f7d220781ef1cc98c4034ab829f152bc18808da4a2a94eea988817bde76") true
  Aa (fun _ h=>by cases h) (by kernel_rfl) (fun _ h=>by cases h) looks_row_tie rfl ⟨rfl,rfl⟩ (by kernel_rfl) rfl
  (fun f fn hf xQ=>by
   obtain rfl:f=3:=Option.some.inj ((show prog.funcNamed Tryz.f3.name=some 3 by kernel_rfl).symm.trans hf) |>.symm
   obtain rfl:fn=Tryz.f3:=(Option.some.inj (func3.symm.trans xQ)).symm
   exact⟨by kernel_rfl,fun j t ht=>by
    rw[params3] at ht
    have hm:t∈[9]:=by simpa using Array.mem_of_getElem? ht
    have cL:([9].all fun u=>!prog.wantsStandIn u)=true:=by kernel_rfl
    exact(show prog.wantsStandIn t=false by simpa using List.all_eq_true.1 cL t hm)⟩)
  (by kernel_rfl)
#print axioms looks_card_holds
end
