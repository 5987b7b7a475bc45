import Derived.Test.YtjbdgbdcnjopkaaGreatDoorS12
import Derived.Lib.AppendZerosOnto
import Derived.Lib.Walk
namespace Go.Proofs.YtjbdgbdcnjopkaaGreatDoor
open Go.RowKit Tryz
set_option linter.all false
set_option maxRecDepth 100000
set_option maxHeartbeats 4000000
section
variable {ar:Nat}{s r:LSt}{m:bf}{ai:List Nat}{st:aX}
theorem db.congr(h:db s)(hf:r.ae=s.ae)(hs:r.af=s.af)(hn:r.ay.length=s.ay.length):db r:=
 ⟨fun f hm=>h.ae f (hf ▸ hm),fun t ht=>h.stack2 t (hs ▸ ht),fun f hm=>h.names f (hf ▸ hm),fun f hm=>by rw[hn];exact h.ao f (hf ▸ hm),
  fun f hm=>by rw[hs];exact h.below f (hf ▸ hm),by rw[hf];exact h.mono⟩
theorem sI{fs:List PFr}{g:PFr}(hg:fs.getLast?=some g):fs=fs.dropLast++[g]:=by obtain⟨ys,rfl⟩:=List.getLast?_eq_some_iff.1 hg;simp
theorem vH{fs:List PFr}(hp:(fs.map (·.am)).Pairwise (·<=·)){f g:PFr}(hf:f∈fs)(hg:fs.getLast?=some g):f.am<=g.am:=by
 have he:fs=fs.dropLast++[g]:=sI hg;rw[he]at hp hf;rw[List.map_append,List.pairwise_append]at hp;rcases List.mem_append.1 hf with h|h
 ·exact hp.2.2 _ (List.mem_map_of_mem h) _ (by simp)
 simp at h;subst h;exact nLr _
theorem yC{t:Nat}{x:Nat×LSt}(h:bD ar s t=.ok x):x.2.ae=s.ae/\x.2.ay=s.ay/\x.2.ah=s.ah:=by
 have q:bw ar s [t]=.ok x.2:=by simp[bw,h]
 exact eh _ q
theorem db.take(h:db s)(hi:0<s.ae.length){t:Nat}{x:Nat×LSt}(hx:bD ar s t=.ok x):db x.2/\x.2.ae=s.ae/\x.2.ay=s.ay/\x.2.af.length<=s.af.length/\x.1<=2:=by
 obtain⟨a1,a2,a3,a4⟩:=mN hx h.stack2;obtain⟨b1,b2,_⟩:=yC hx;obtain⟨g,hg⟩:∃g,s.ae.getLast?=some g:=by rw[ajk,gEg (by omega)];exact⟨_,rfl⟩
 have hh:=lS hg (h.below g (ajm hg)) hx;exact⟨⟨fun f hm=>h.ae f (b1 ▸ hm),a2,fun f hm=>h.names f (b1 ▸ hm),fun f hm=>by rw[b2];exact h.ao f (b1 ▸ hm),
  fun f hm=>ajE (vH h.mono (b1 ▸ hm) hg) hh,by rw[b1];exact h.mono⟩,b1,b2,a3,a1⟩
theorem db.aj:∀(l:List Nat) {s r:LSt},db s->0<s.ae.length->bw ar s l=.ok r->db r/\r.ae=s.ae/\r.ay=s.ay/\r.af.length<=s.af.length
 | [],s,r,h,hi,hx=>by cases hx;exact⟨h,rfl,rfl,nLr _⟩
 |t::l,s,r,h,hi,hx=>by
  simp only[bw]at hx;cases hy:bD ar s t with
  |error e=>simp[hy]at hx
  |ok x=>
   simp only[hy,aM]at hx;obtain⟨i1,i2,i3,i4,_⟩:=h.take hi hy;obtain⟨j1,j2,j3,j4⟩:=db.aj l i1 (by rw[i2];exact hi) hx;exact⟨j1,j2.trans i2,j3.trans i3,by omega⟩
theorem db.ak(h:db s){zs:List Nat}(hz:∀t∈zs,t<=2):db (bE s zs):=
 ⟨h.ae,fun t ht=>by
  rcases List.mem_append.1 ht with h1|h1
  ·exact h.stack2 t h1
  exact hz t h1,h.names,h.ao,fun f hm=>ajE (h.below f hm) (by simp[bE]),h.mono⟩
theorem db.give(h:db s){t:Nat}(ht:t<=2):db (ez s t):=h.ak (zs:=[t]) (by simpa using ht)
theorem db.push(h:db s){f:PFr}{r:LSt}(lN:r.ae=s.ae++[f])(hs:r.af=s.af)(hn:r.ay.length=s.ay.length)(h1:f.aj.length<=6/\f.ak.length<=6/\(∀t∈f.aj,t<=2)/\(∀t∈f.ak,t<=2))(h2:f.au<=40)(h3:f.au=4->∃k:Nat,f.ao=k/\k<s.ay.length) (h4:f.am=s.af.length):db r:=by
 have hm:∀g∈r.ae,g∈s.ae\/g=f:=fun g hg=>by
  rw[lN]at hg;rcases List.mem_append.1 hg with h|h
  ·exact .inl h
  exact .inr (by simpa using h)
 refine⟨fun g hg=>?_,by rw[hs];exact h.stack2,fun g hg=>?_,fun g hg=>?_,fun g hg=>?_,?_⟩
 ·rcases hm g hg with h'|rfl
  ·exact h.ae g h'
  exact h1
 ·rcases hm g hg with h'|rfl
  ·exact h.names g h'
  exact h2
 ·rw[hn];rcases hm g hg with h'|rfl
  ·exact h.ao g h'
  exact h3
 ·rw[hs];rcases hm g hg with h'|rfl
  ·exact h.below g h'
  omega
 rw[lN,List.map_append,List.pairwise_append];refine⟨h.mono,by simp,fun a ha b hb=>?_⟩;simp at hb;obtain⟨g,hg,rfl⟩:=List.mem_map.1 ha;rw[hb,h4];exact h.below g hg
theorem db.opened(h:db s)(cT:0<s.ay.length){au:Nat}{sig:Sig}(hn:au<=40)(h1:sig.1.length<=6/\sig.2.length<=6/\(∀t∈sig.1,t<=2)/\(∀t∈sig.2,t<=2)):db (dg s au sig):=h.push (f:={au:=au,aj:=sig.1,ak:=sig.2,am:=s.af.length,dead:=false,ao:=(s.ay.length:Int)-1,target:=s.ah.length}) rfl rfl rfl h1 hn (fun _=>⟨s.ay.length-1,by simp;omega,by omega⟩) rfl
theorem db.close(h:db s)(hi:0<s.ae.length){x:PFr×LSt}(hx:dT ar s=.ok x):db x.2/\x.2.ay.length=s.ay.length/\x.2.af.length<=s.af.length/\x.2.af.length=x.1.am/\(x.1.aj.length<=6/\x.1.ak.length<=6/\(∀t∈x.1.aj,t<=2)/\(∀t∈x.1.ak,t<=2))/\x.2.ae.length<s.ae.length:=by
 obtain⟨g,hg⟩:∃g,s.ae.getLast?=some g:=by rw[ajk,gEg (by omega)];exact⟨_,rfl⟩
 simp only[dT,hg]at hx;cases hy:bw ar s g.ak.reverse with
 |error e=>simp[hy]at hx
 |ok s1=>
  simp only[hy,aM]at hx;obtain⟨q1,q2,q3,q4⟩:=h.aj _ hi hy;split at hx
  ·cases hx
  rename_i ec;have CI:s1.af.length=g.am:=by omega
  have eZ:s1.ae.getLast?=some g:=by rw[q2];exact hg
  have key:∀r:LSt,r.ae=s1.ae.dropLast->r.af=s1.af->r.ay.length=s1.ay.length->db r:=fun r f1 f2 f3=>by
   have hm:∀f∈r.ae,f∈s1.ae:=fun f hf=>by rw[f1]at hf;exact(List.dropLast_sublist _).subset hf
   refine⟨fun f hf=>q1.ae f (hm f hf),by rw[f2];exact q1.stack2,fun f hf=>q1.names f (hm f hf),fun f hf=>by rw[f3];exact q1.ao f (hm f hf),fun f hf=>by rw[f2];exact q1.below f (hm f hf),?_⟩;rw[f1];exact q1.mono.sublist ((List.dropLast_sublist _).map _)
  have hl:s1.ae.dropLast.length<s.ae.length:=by rw[q2,List.length_dropLast];omega
  have ho:=h.ae g (ajm hg);cases hx;split
  ·exact⟨key _ rfl rfl (by simp[cR]),by simp[cR,q3],by simpa [cR] using q4,by simpa [cR] using CI,ho,by simpa [cR] using hl⟩
  exact⟨key _ rfl rfl rfl,by rw[show ({s1 with ae:=s1.ae.dropLast}:LSt).ay=s1.ay from rfl,q3],q4,CI,ho,hl⟩
theorem db.die(h:db s):db (iy s)/\(iy s).ay=s.ay/\(iy s).af.length<=s.af.length/\(iy s).ae.length=s.ae.length:=by
 unfold iy;split
 ·exact⟨h,rfl,nLr _,rfl⟩
 rename_i f hf;have he:s.ae=s.ae.dropLast++[f]:=sI hf;have fm:=ajm hf;have hm:∀g∈s.ae.dropLast++[{f with dead:=true}],(g∈s.ae.dropLast/\g∈s.ae)\/g={f with dead:=true}:=fun g hg=>by
  rcases List.mem_append.1 hg with h|h
  ·exact .inl ⟨h,(List.dropLast_sublist _).subset h⟩
  exact .inr (by simpa using h)
 refine⟨⟨fun g hg=>?_,fun t ht=>h.stack2 t (List.mem_of_mem_take ht),fun g hg=>?_,fun g hg=>?_,fun g hg=>?_,?_⟩,rfl,by simp;omega,?_⟩
 ·rcases hm g hg with⟨_,h'⟩|rfl
  ·exact h.ae g h'
  exact h.ae f fm
 ·rcases hm g hg with⟨_,h'⟩|rfl
  ·exact h.names g h'
  exact h.names f fm
 ·rcases hm g hg with⟨_,h'⟩|rfl
  ·exact h.ao g h'
  exact h.ao f fm
 ·have hb:=h.below f fm;simp only[ajq,Nat.min_eq_left hb];rcases hm g hg with⟨_,h'⟩|rfl
  ·exact vH h.mono h' hf
  exact nLr _
 ·have TE:(s.ae.dropLast++[{f with dead:=true}]).map PFr.am=s.ae.map PFr.am:=by
   conv=>rhs;rw[he]
   simp
  show ((s.ae.dropLast++[{f with dead:=true}]).map PFr.am).Pairwise (·<=·);rw[TE];exact h.mono
 conv=>rhs;rw[he]
 simp
end
section
variable {ar:Nat}{s r:LSt}{m:bf}{ai:List Nat}{st:aX}
theorem bV{α β:Type}{x:Except Er α}{f:α->Except Er β}{b:β}(h:bnd x f=.ok b):∃a,x=.ok a/\f a=.ok b:=by
 cases x with
 |error e=>simp at h
 |ok a=>exact⟨a,rfl,by simpa using h⟩
theorem db.plainTakes:∀(k of:Nat) {s r:LSt},db s->0<s.ae.length->YtjbdgbdcnjopkaaGreatDoor.plainTakes ar of s k=.ok r->db r/\r.ae=s.ae/\r.ay=s.ay/\r.af.length<=s.af.length
 |0,of,s,r,h,hi,hx=>by cases hx;exact⟨h,rfl,rfl,nLr _⟩
 |k+1,of,s,r,h,hi,hx=>by obtain⟨x,hy,hx⟩:=bV hx;obtain⟨i1,i2,i3,i4,_⟩:=h.take hi hy;obtain⟨j1,j2,j3,j4⟩:=db.plainTakes k of i1 (by rw[i2];exact hi) hx;exact⟨j1,j2.trans i2,j3.trans i3,by omega⟩
theorem db.jump(h:db s)(hi:0<s.ae.length)(hx:eI ar s st=.ok r):db r/\r.ay.length=s.ay.length/\r.af.length<=s.af.length+6:=by
 unfold eI at hx;split at hx
 ·cases hx
 rename_i x hw;obtain⟨w1,w2⟩:=sE h.ae hw;split at hx
 ·obtain⟨y,hy,hx⟩:=bV hx;obtain⟨z,hz,hx⟩:=bV hx;cases hx;obtain⟨i1,i2,i3,i4,_⟩:=h.take hi hy;obtain⟨j1,j2,j3,j4⟩:=i1.aj _ (by rw[i2];exact hi) hz;exact⟨j1.ak w2,by simp[bE,j3,i3],by simp[bE];omega⟩
 split at hx
 ·obtain⟨_,_,hx⟩:=bV hx;obtain⟨y,hy,hx⟩:=bV hx;obtain⟨z,hz,hx⟩:=bV hx;cases hx;obtain⟨i1,i2,i3,i4,_⟩:=h.take hi hy;obtain⟨j1,j2,j3,j4⟩:=i1.aj _ (by rw[i2];exact hi) hz;obtain⟨d1,d2,d3,_⟩:=j1.die;exact⟨d1,by rw[d2,j3,i3],by omega⟩
 split at hx
 ·obtain⟨z,hz,hx⟩:=bV hx;cases hx;obtain⟨j1,j2,j3,j4⟩:=h.aj _ hi hz;obtain⟨d1,d2,d3,_⟩:=j1.die;exact⟨d1,by rw[d2,j3],by omega⟩
 cases hx;obtain⟨d1,d2,d3,_⟩:=h.die;exact⟨d1,by rw[d2],by omega⟩
theorem db.begin(h:db s)(fQ:fM m)(hi:0<s.ae.length)(cT:0<s.ay.length)(hn:st.aa.au<=40)(hx:de ar m.sigs s st=.ok r):db r/\r.ay.length=s.ay.length/\r.af.length<=s.af.length+6:=by
 unfold de at hx;split at hx
 ·cases hx
 split at hx
 ·cases hx
 rename_i sig dp;have iD:=fQ.2.2.2 sig (gMo dp);obtain⟨s0,h0,hx⟩:=bV hx;obtain⟨s1,h1,hx⟩:=bV hx;cases hx;have k0:db s0/\s0.ae=s.ae/\s0.ay=s.ay/\s0.af.length<=s.af.length:=by
  split at h0
  ·obtain⟨y,hy,h0⟩:=bV h0;cases h0;obtain⟨i1,i2,i3,i4,_⟩:=h.take hi hy;exact⟨i1,i2,i3,i4⟩
  cases h0;exact⟨h,rfl,rfl,nLr _⟩
 obtain⟨i1,i2,i3,i4⟩:=k0;obtain⟨j1,j2,j3,j4⟩:=i1.aj _ (by rw[i2];exact hi) h1;exact⟨(j1.opened (by rw[j3,i3];exact cT) hn iD).ak iD.2.2.1,by simp[bE,dg,j3,i3],by simp[bE,dg];omega⟩
theorem db.turn(h:db s)(hi:0<s.ae.length)(cT:0<s.ay.length)(hx:gU ar s=.ok r):db r/\r.ay.length=s.ay.length/\r.af.length<=s.af.length+6:=by
 unfold gU at hx;split at hx
 ·cases hx
 split at hx
 ·cases hx
 obtain⟨x,hy,hx⟩:=bV hx;cases hx;obtain⟨c1,c2,c3,c4,c5,_⟩:=h.close hi hy;have p:=c1.push (f:={x.1 with au:=5,dead:=false}) (r:={(cR x.2 (x.2.ay.length-1) x.1.target) with ae:=(cR x.2 (x.2.ay.length-1) x.1.target).ae++[{x.1 with au:=5,dead:=false}]}) rfl rfl (by simp[cR]) c5 (by simp) (by simp) c4.symm;exact⟨p.ak c5.2.2.1,by simp[bE,cR,c2],by simp[bE,cR];omega⟩
theorem db.ends(h:db s)(hi:0<s.ae.length)(hx:lq ar s=.ok r):db r/\r.ay.length=s.ay.length/\r.af.length<=s.af.length+6:=by
 unfold lq at hx;obtain⟨x,hy,hx⟩:=bV hx;obtain⟨c1,c2,c3,c4,c5,_⟩:=h.close hi hy;split at hx
 ·cases hx
 cases hx;split
 ·refine⟨(c1.congr (r:=setNext x.2 x.1.target x.2.ay.length) rfl rfl rfl).ak c5.2.2.2,by simp[bE,setNext,c2],by simp[bE,setNext];omega⟩
 exact⟨c1.ak c5.2.2.2,by simp[bE,c2],by simp[bE];omega⟩
theorem Ji(inv:db s)(fQ:fM m)(jD:∀t∈ai,t<=2)(aP:st.aa.ak<=2)(TF:st.aa.au<=40)(cT:0<s.ay.length)(hi:0<s.ae.length)(hx:doS ar m ai s st=.ok r):db r/\r.ay.length=s.ay.length/\r.af.length<=s.af.length+6:=by
 unfold doS at hx;simp only at hx;split at hx
 ·exact inv.begin fQ hi cT TF hx
 split at hx
 ·exact inv.turn hi cT hx
 split at hx
 ·exact inv.ends hi hx
 split at hx
 ·exact inv.jump hi hx
 split at hx
 ·unfold mi at hx;split at hx
  ·cases hx
  split at hx
  ·cases hx
  rename_i sig dp;have iD:=fQ.2.2.2 sig (gMo dp);obtain⟨y,hy,hx⟩:=bV hx;cases hx;obtain⟨j1,j2,j3,j4⟩:=inv.aj _ hi hy;exact⟨j1.ak iD.2.2.2,by simp[bE,j3],by simp[bE];omega⟩
 split at hx
 ·obtain⟨y,hy,hx⟩:=bV hx;cases hx;obtain⟨i1,i2,i3,i4,_⟩:=inv.take hi hy;exact⟨i1,by rw[i3],by omega⟩
 split at hx
 ·unfold jk at hx;obtain⟨y1,h1,hx⟩:=bV hx;obtain⟨y2,h2,hx⟩:=bV hx;obtain⟨y3,h3,hx⟩:=bV hx;cases hx;obtain⟨a1,a2,a3,a4,a5⟩:=inv.take hi h1;obtain⟨b1,b2,b3,b4,b5⟩:=a1.take (by rw[a2];exact hi) h2;obtain⟨c1,c2,c3,c4,c5⟩:=b1.take (by rw[b2,a2];exact hi) h3;exact⟨c1.give (by split <;> omega),by simp[ez,c3,b3,a3],by simp[ez];omega⟩
 split at hx
 ·unfold fx at hx;split at hx
  ·cases hx
  rename_i t ht;have h2:=jD t (gMo ht);split at hx
  ·obtain⟨y,hy,hx⟩:=bV hx;cases hx;obtain⟨i1,i2,i3,i4,_⟩:=inv.take hi hy;exact⟨i1,by rw[i3],by omega⟩
  split at hx
  ·obtain⟨y,hy,hx⟩:=bV hx;cases hx;obtain⟨i1,i2,i3,i4,_⟩:=inv.take hi hy;exact⟨i1.give h2,by simp[ez,i3],by simp[ez];omega⟩
  cases hx;exact⟨inv.give h2,by simp[ez],by simp[ez]⟩
 unfold fU at hx;obtain⟨y,hy,hx⟩:=bV hx;cases hx;obtain⟨j1,j2,j3,j4⟩:=db.plainTakes _ _ inv hi hy;split
 ·exact⟨j1.give aP,by simp[ez,j3],by simp[ez];omega⟩
 exact⟨j1,by rw[j3],by omega⟩
theorem db.keep(h:db s)(st:aX):db (ci s st):=
 ⟨h.ae,h.stack2,h.names,fun f hm hn=>by
  obtain⟨k,k1,k2⟩:=h.ao f hm hn
  exact⟨k,k1,by simp[ci];omega⟩,h.below,h.mono⟩
def xj(k:K5):Prop:=k.aj<=2/\k.of<=2/\k.ak<=2/\k.ab<=7/\k.au<=40/\(k.au=2\/k.au=3\/k.au=4->k.ab=1)/\(k.au=7\/k.au=8->k.ab=4)/\(k.au=9->k.ab=5)/\(k.au=0\/k.au=10->k.ab=0)/\(k.au=11->k.ab=2) /\
 (k.au=14\/k.au=15\/k.au=16->k.ab=3)
theorem sJ{b:Nat}{k:K5}:∀{l:List (Nat×K5)},l.lookup b=some k->∃a,(a,k)∈l
 | [],h=>by simp at h
 | (a,x)::l,h=>by
  rw[List.lookup_cons]at h;split at h
  ·cases h;exact⟨a,by simp⟩
  obtain⟨c,hc⟩:=sJ h;exact⟨c,List.mem_cons_of_mem _ hc⟩
theorem EZ:∀x∈dS,xj x.2:=by unfold xj;decide
theorem CJ{b:Nat}{k:K5}(h:cr b=some k):xj k:=by obtain⟨a,ha⟩:=sJ h;exact EZ _ ha
theorem jn{c l:List UInt8}{p k:Nat}(h:cn c p k=some l):l.length=k/\p+k<=c.length:=by
 unfold cn at h;split at h
 ·cases h
 cases h;simp;omega
theorem AL{c:List UInt8}{p what:Nat}{x:List Nat×Int×Nat}(h:bq c p what=some x):x.1.length<=20/\(∀i∈x.1,i<=255)/\p<=x.2.2/\(x.2.2<=c.length\/x.2.2=p)/\(what=1\/what=2\/what=3\/what=4\/what=5->0<x.1.length)/\(what=0->x.1=[]):=by
 have hb:∀l:List UInt8,∀i∈l.map (·.toNat),i<=255:=fun l i hi=>by obtain⟨b,_,rfl⟩:=List.mem_map.1 hi;have:=b.toNat_lt;omega
 unfold bq at h;split at h
 ·rename_i hw;cases hq:cn c p 1 with
  |none=>rw[hq]at h;simp at h
  |some l=>
   rw[hq]at h;simp at h;subst h;obtain⟨h1,h2⟩:=jn hq;exact⟨by simp[h1],hb l,by simp,by simp;omega,fun _=>by simp[h1],fun e=>by omega⟩
 split at h
 ·split at h
  ·rename_i b hq;split at h
   ·cases h
   cases Pt:cn c (p+1) (b.toNat+1) with
   |none=>rw[Pt]at h;simp at h
   |some l=>
    rw[Pt]at h;simp at h;subst h;obtain⟨h1,h2⟩:=jn Pt;exact⟨by simp[h1];omega,hb l,by simp;omega,by simp;omega,fun _=>by simp[h1],fun e=>by omega⟩
  cases h
 split at h
 ·cases hq:cn c p 4 with
  |none=>rw[hq]at h;simp at h
  |some l=>
   rw[hq]at h;simp at h;subst h;obtain⟨h1,h2⟩:=jn hq;exact⟨by simp,by simp,by simp,by simp;omega,fun e=>by omega,fun e=>by omega⟩
 split at h
 ·cases hq:cn c p 8 with
  |none=>rw[hq]at h;simp at h
  |some l=>
   rw[hq]at h;simp at h;subst h;obtain⟨h1,h2⟩:=jn hq;exact⟨by simp,by simp,by simp,by simp;omega,fun e=>by omega,fun e=>by omega⟩
 cases h;exact⟨by simp,by simp,by simp,by simp,fun e=>by omega,fun e=>rfl⟩
structure MP(c:List UInt8)(p:Nat)(st:aX):Prop where
 aa:xj st.aa
 len:st.idx.length<=20
 low:∀i∈st.idx,i<=255
 next:p<st.next
 last:st.next<=c.length
 some:st.aa.ab=1\/st.aa.ab=2\/st.aa.ab=3\/st.aa.ab=4\/st.aa.ab=5->0<st.idx.length
 none:st.aa.ab=0->st.idx=[]
theorem yD{c:List UInt8}{p:Nat}(h:bJ c p=some st):MP c p st:=by
 unfold bJ at h;split at h
 ·rename_i b hq;obtain⟨_,h2⟩:=jn hq;split at h
  ·cases h
  rename_i k hk;cases hx:bq c (p+1) k.ab with
  |none=>rw[hx]at h;simp at h
  |some x=>
   rw[hx]at h;simp at h;subst h;obtain⟨x1,x2,x3,x4,x5,x6⟩:=AL hx;exact⟨CJ hk,x1,x2,by show p<x.2.2;omega,by show x.2.2<=c.length;omega,x5,x6⟩
 cases h
theorem E0{c:List UInt8}{p:Nat}(hr:MP c p st)(hf:iS ar m ai s st=.ok ())(hi:0<s.ae.length):fR m ai s st:=by
 obtain⟨k1,k2,k3,k4,k5,k6,k7,k8,k9,k10,k11⟩:=hr.aa;have cL:∀i∈st.idx,i<dI m ai s st.aa.ab:=by
  unfold iS at hf;split at hf
  ·rename_i h;intro i hm;have:=List.all_eq_true.1 h i hm;simpa using this
  cases hf
 have yE:0<st.idx.length->∃i is,st.idx=i::is/\i<dI m ai s st.aa.ab:=fun h=>by
  cases hq:st.idx with
  |nil=>rw[hq]at h;simp at h
  |cons i is=>exact⟨i,is,rfl,cL i (by rw[hq];simp)⟩
 refine⟨k1,k2,k3,fun h=>?_,fun h=>?_,fun h=>?_,fun h=>?_⟩
 ·have hb:=k6 h;obtain⟨i,is,e,bM⟩:=yE (hr.some (by omega));exact⟨i,by rw[e];rfl,by simpa [dI,hb] using bM⟩
 ·have fp:(st.aa.ab=4\/st.aa.ab=5)\/st.aa.ab=0:=by
   rcases h with h|h|h|h|h
   ·exact .inr (k9 (.inl h))
   ·exact .inl (.inl (k7 (.inl h)))
   ·exact .inl (.inl (k7 (.inr h)))
   ·exact .inl (.inr (k8 h))
   exact .inr (k9 (.inr h))
  rcases fp with hb|hb
  ·have hc:dI m ai s st.aa.ab=s.ae.length:=by rcases hb with hb|hb <;> simp[dI,hb]
   rw[hc]at cL yE;obtain⟨i,is,e,bM⟩:=yE (hr.some (by omega));refine⟨?_,cL,hr.len⟩;rw[e];simp only[dn,bT,ajd bM];rw[gEg (by omega)];exact⟨_,rfl⟩
  have he:=hr.none hb;refine⟨?_,by rw[he];simp,hr.len⟩;rw[he];cases hq:s.ae with
  |nil=>rw[hq]at hi;simp at hi
  |cons f fs=>exact⟨_,by simp only[dn,hq];rfl⟩
 ·have hb:=k10 h;obtain⟨i,is,e,bM⟩:=yE (hr.some (by omega));exact⟨i,is,e,by simpa [dI,hb] using bM⟩
 have hb:=k11 h;obtain⟨i,is,e,bM⟩:=yE (hr.some (by omega));exact⟨i,is,e,by simpa [dI,hb] using bM⟩
end
section
open Go.RowKit Go.Lib
theorem E1(n:Nat)(w:World)(hn:n<=100000):Calls prog 127 #[.slice none 0 0,.int .i64 n] w fun e w'=> ∃v,e=.returned v/\w.grownBy w' none/\(∀az,az<=w.heap.size->w'.ownsRow az 3 1 v 0 []):=by
 obtain⟨i0,hi,fo,eP,eV⟩:=info_parts ml;have h1:¬((n:Int)<0):=by omega
 have EJ:(n:Int)<=100000:=by omega
 by_cases h0:n=0
 ·subst h0;go_enter func127,ntmps127;go_wp2;go_ret;exact⟨_,rfl,aH _ _,fun az hb=>⟨rfl,.inl ⟨rfl,rfl⟩⟩⟩
 have h4:(0:Int)<(n:Int):=by omega
 have oG:(Builtin.firstCells i0.size 0 (.slice none 0 0)).run prog w.drew=.ok #[] w.drew:=run_firstCells_none w.drew i0.size 0 0 0;have Xi:∀ty,(Builtin.append_ #[44,3] ty #[.slice none 0 0,.int .i64 n]).run prog w =
   .ok (.slice (some ⟨w.heap.size,0,none⟩) n (grownCap w n 0 3)) (w.drew.alloc (.cells (#[]++Builtin.zeroCells (Value.int .i64 0).cells n++Builtin.zeroCells (Value.int .i64 0).cells (grownCap w n 0 3-n)) 3)):=fun ty=>by
  have h:=Lib.run_append_grow_zeros w 44 3 ty 3 i0 (.int .i64 0) .i64 .i64 underlying44 underlying3 hi fo none 0 0 [] oG n (by omega) (by rw[eP];decide) (by omega) (by omega) (by rw[eV];omega) (by rw[ajx];exact growslice_fits (by omega) (by rw[eV];omega));rw[ajx]at h;exact h
 have ZC:n<=grownCap w n 0 3:=grownCap_ge w _ _ _;obtain⟨G,hG⟩:∃G,G=grownCap w n 0 3:=⟨_,rfl⟩;rw[<-hG]at Xi ZC;have Pv:G<=maxLen:=by have:=grownCap_le_maxLen w n 0 3 (by unfold maxLen;omega);rw[<-hG]at this;exact this
 have ZD:G<=9223372036854775807:=by unfold maxLen at Pv;omega
 clear oG hG;go_enter func127,ntmps127;go_wp2_with (at_builtin;refine Lib.wpList_append_run _ rfl _ _ _ _ rfl _ _ rfl rfl _ _ (Xi _) ?_)
 go_ret;have Xj:∀k,(Builtin.zeroCells #[Value.int .i64 0] k).size=k:=fun k=>by simp[Builtin.zeroCells]
 refine⟨_,rfl,aB (aE (aH _ _)) (aC _ _ _),fun az hb=>⟨rfl,.inr ⟨w.heap.size,G,_,rfl,hb,Blk.new w.drew _ _,ajl _,Pv,?_,by simp⟩⟩⟩;rw[Array.size_append,Xj,Xj];omega
end
theorem AM{w:World}{B gA:Nat}{va vb:Value}{xs ys:List Nat}(ha:bO B w va xs)(hb:bO B w vb ys)(hB:B<=w.heap.size)(hx:xs.length<=500)(hy:ys.length<=500)(eF:Blk w gA #[va,vb] 44):Calls prog 98 #[.slice (some ⟨gA,0,none⟩) 2 2] w fun e w'=>∃v,e=.returned v/\w.grownBy w' none/\w'.ownsRow w.heap.size 3 1 v (xs.length+ys.length) ((xs++ys).map fun t:Nat=>.int .i64 (t:Int)):=by
 have D6:=ha;have Ev:=hb;obtain⟨g1,cap1,c1,rfl,eZ,iW,Ae⟩:=ha;obtain⟨g2,cap2,c2,rfl,aP,df,sj⟩:=hb;have z0:=eF.cell 0;have z1:=eF.cell 1;simp at z0 z1;obtain⟨i0,hi,fo,eP,eV⟩:=info_parts ml;have xi:(xs.length:Int)<=500:=by omega
 have yi:(ys.length:Int)<=500:=by omega
 go_enter func98,ntmps98;go_wp2_with fail
 go_loop [3,11] (fun n i=>(i=.int .i64 0/\n=.int .i64 0)\/(i=.int .i64 1/\n=.int .i64 xs.length)\/(i=.int .i64 2/\n=.int .i64 ((xs.length:Int)+ys.length))) (fun _ i=>2-(intOf i).toNat)
 case atStart=>exact .inl ⟨rfl,rfl⟩
 case round=>
  rcases hrel with⟨rfl,rfl⟩|⟨rfl,rfl⟩|⟨rfl,rfl⟩
  ·go_wp2_with fail
   go_round
   case rel=>exact .inr (.inl ⟨by simp,by simp⟩)
   case measure=>simp[intOf]
  ·go_wp2_with fail
   go_round
   case rel=>exact .inr (.inr ⟨by simp,by simp⟩)
   case measure=>simp[intOf]
  go_wp2_with (go_at_call 127;refine(E1 (xs.length+ys.length) w (by omega)).mono ?_;rintro e w1 ⟨v1,rfl,TG,ym⟩)
  go_loopw [6,27] (fun v i wr=>w.grownBy wr none/\((i=.int .i64 0/\wr.ownsRow w.heap.size 3 1 v 0 [])\/(i=.int .i64 1/\wr.ownsRow w.heap.size 3 1 v xs.length (xs.map fun t:Nat=>.int .i64 (t:Int)))\/(i=.int .i64 2/\wr.ownsRow w.heap.size 3 1 v (xs.length+ys.length) ((xs++ys).map fun t:Nat=>.int .i64 (t:Int))))) (fun _ i _=>2-(intOf i).toNat)
  case atStart=>exact⟨TG,.inl ⟨rfl,ym _ (nLr _)⟩⟩
  case round=>
   obtain⟨bU,hrel⟩:=hrel;rcases hrel with⟨rfl,bn⟩|⟨rfl,bn⟩|⟨rfl,bn⟩
   ·have L0:=eF.grown bU (by simp);have y0:=L0.cell 0;have y1:=L0.cell 1;simp at y0 y1;have MQ:=iW.grown bU (by simp);have MS:w.heap.size<=wr.heap.size:=bU.size;obtain⟨av,capv,rfl,_,_⟩:=aG bn;go_wp2_with (at_builtin;refine wpList_append_own_at _ rfl _ _ 44 rfl w.heap.size 3 i0 (.int .i64 0) 1 8 underlying44 hi fo eP eV rfl (by decide) (.slice av (0) capv) (0) ([]) rfl bn ⟨g1,0,none⟩ xs.length cap1 (xs.map fun t:Nat=>.int .i64 (t:Int)) rfl (by simp) ?q2 ?q3 ?q4 ?q5 ?q6 ?q7)
    case q2=>
     intro j u hj;rw[List.getElem?_map]at hj;obtain⟨x,hx,rfl⟩:=Option.map_eq_some_iff.1 hj;obtain⟨bM,rfl⟩:=gEs.1 hx;rw[cJ,ajx,MQ.cell j,Ae j bM]
    case q3=>simp[Value.oneCell']
    case q4=>simp[maxLen];omega
    case q5=>omega
    case q6=>exact MS
    case q7=>
     intro v' w' cG cD _ _;have gA:w.grownBy w' none:=by
      cases hq:(Value.slice av (0) capv).ownBlock with
      |none=>rw[hq]at cD;exact aB bU cD
      |some g=>rw[hq]at cD;exact aO bU (ba bn g hq).1 cD
     go_wp2_with fail;go_roundw
     case rel=>exact⟨gA,.inr (.inl ⟨by simp,by simpa using cG⟩)⟩
     case measure=>simp[intOf]
   ·have L0:=eF.grown bU (by simp);have y0:=L0.cell 0;have y1:=L0.cell 1;simp at y0 y1;have MQ:=df.grown bU (by simp);have MS:w.heap.size<=wr.heap.size:=bU.size;obtain⟨av,capv,rfl,_,_⟩:=aG bn;go_wp2_with (at_builtin;refine wpList_append_own_at _ rfl _ _ 44 rfl w.heap.size 3 i0 (.int .i64 0) 1 8 underlying44 hi fo eP eV rfl (by decide) (.slice av (xs.length) capv) (xs.length) (xs.map fun t:Nat=>.int .i64 (t:Int)) rfl bn ⟨g2,0,none⟩ ys.length cap2 (ys.map fun t:Nat=>.int .i64 (t:Int)) rfl (by simp) ?q2 ?q3 ?q4 ?q5 ?q6 ?q7)
    case q2=>
     intro j u hj;rw[List.getElem?_map]at hj;obtain⟨x,hx,rfl⟩:=Option.map_eq_some_iff.1 hj;obtain⟨bM,rfl⟩:=gEs.1 hx;rw[cJ,ajx,MQ.cell j,sj j bM]
    case q3=>simp[Value.oneCell']
    case q4=>simp[maxLen];omega
    case q5=>omega
    case q6=>exact MS
    case q7=>
     intro v' w' cG cD _ _;have gA:w.grownBy w' none:=by
      cases hq:(Value.slice av (xs.length) capv).ownBlock with
      |none=>rw[hq]at cD;exact aB bU cD
      |some g=>rw[hq]at cD;exact aO bU (ba bn g hq).1 cD
     go_wp2_with fail;go_roundw
     case rel=>exact⟨gA,.inr (.inr ⟨by simp,by simpa using cG⟩)⟩
     case measure=>simp[intOf]
   go_wp2_with fail;go_ret;exact⟨_,rfl,bU,bn⟩
