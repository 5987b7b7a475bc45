import Derived.Test.YtjbdgbdcnjopkaaGreatDoorS06
namespace Go.Proofs.YtjbdgbdcnjopkaaGreatDoor
open Go.RowKit Tryz
set_option linter.all false
set_option maxRecDepth 100000
set_option maxHeartbeats 4000000
section
variable {ar:Nat}{s r:LSt}{m:bf}{ai:List Nat}{st:aX}
theorem cd{α β:Type}{x:Except Er α}{f:α->Except Er β}{b:β}(h:bnd x f=.ok b):∃a,x=.ok a/\f a=.ok b:=by
 cases x with
 |error e=>simp at h
 |ok a=>exact⟨a,rfl,by simpa using h⟩
structure Cut(F:PFr)(s r:LSt):Prop where
 ae:r.ae=s.ae
 ay:r.ay=s.ay
 ah:r.ah=s.ah
 af:∃n,F.am<=n/\n<=s.af.length/\r.af=s.af.take n
theorem Cut.refl{F:PFr}(h:F.am<=s.af.length):Cut F s s:=⟨rfl,rfl,rfl,s.af.length,h,nLr _,by simp⟩
theorem Cut.trans{F:PFr}{t:LSt}(h:Cut F s r)(k:Cut F r t):Cut F s t:=by
 obtain⟨n,h1,h2,h3⟩:=h.af;obtain⟨p,k1,k2,k3⟩:=k.af;refine⟨k.ae.trans h.ae,k.ay.trans h.ay,k.ah.trans h.ah,p,k1,?_,?_⟩
 ·rw[h3,ajq]at k2;omega
 rw[k3,h3,List.take_take];congr 1;rw[h3,ajq]at k2;omega
theorem Cut.len{F:PFr}(h:Cut F s r):F.am<=r.af.length:=by obtain⟨n,h1,h2,h3⟩:=h.af;rw[h3,ajq];omega
theorem dA{F:PFr}{t:Nat}{x:Nat×LSt}(hf:s.ae.getLast?=some F)(hh:F.am<=s.af.length)(h:bD ar s t=.ok x):Cut F s x.2:=by
 unfold bD at h;rw[hf]at h;simp only at h;split at h
 ·split at h
  ·cases h;exact Cut.refl hh
  cases h
 split at h
 ·cases h
 split at h
 ·cases h
 cases h;refine⟨rfl,rfl,rfl,s.af.length-1,by omega,by omega,?_⟩;simp[List.dropLast_eq_take]
theorem ja{F:PFr}:∀(l:List Nat) {s r:LSt},s.ae.getLast?=some F->F.am<=s.af.length->bw ar s l=.ok r->Cut F s r
 | [],s,r,hf,hh,h=>by cases h;exact Cut.refl hh
 |t::l,s,r,hf,hh,h=>by obtain⟨x,hx,h⟩:=cd h;have c:=dA hf hh hx;exact c.trans (ja l (by rw[c.ae];exact hf) c.len h)
theorem vY{F:PFr}{of:Nat}:∀(k:Nat) {s r:LSt},s.ae.getLast?=some F->F.am<=s.af.length->plainTakes ar of s k=.ok r->Cut F s r
 |0,s,r,hf,hh,h=>by cases h;exact Cut.refl hh
 |k+1,s,r,hf,hh,h=>by obtain⟨x,hx,h⟩:=cd h;have c:=dA hf hh hx;exact c.trans (vY k (by rw[c.ae];exact hf) c.len h)
def dP(s:LSt)(st:aX):PSt:={
 aa:=st.aa
 index:=if st.aa.ab=2\/st.aa.ab=3 then st.idx.headD 0 else 0
 num:=st.num
 ah:=if st.aa.ab=4\/st.aa.ab=5 then st.idx.map fun i=>((bT s i).map (·.target)).getD 0 else []}
def JK(F:PFr)(s r:LSt)(out:List Nat):Prop:=∃n,F.am<=n/\n<=s.af.length/\r.af=s.af.take n++out
def yW(F:PFr)(s r:LSt)(st:aX):Prop:=r.ae=s.ae/\r.ah=s.ah/\r.ay=s.ay++[dP s st]/\∃out,JK F s r out
def B0(F:PFr)(s r:LSt)(st:aX):Prop:=r.ae=s.ae.dropLast++[{F with dead:=true}]/\r.ah=s.ah/\r.ay=s.ay++[dP s st]/\r.af=s.af.take F.am
def C4(F:PFr)(s r:LSt)(st:aX)(sig:Sig):Prop:=∃n,F.am<=n/\n<=s.af.length/\r.af=s.af.take n++sig.1/\r.ay=s.ay++[dP s st] /\
 r.ae=s.ae++[{au:=st.aa.au,aj:=sig.1,ak:=sig.2,am:=n,dead:=false,ao:=(s.ay.length:Int),target:=s.ah.length}] /\
 r.ah=s.ah++[(s.ay.length+1,(if st.aa.au=3 then sig.1 else sig.2).length,n)]
def C6(F:PFr)(s r:LSt)(st:aX):Prop:=F.au=4/\r.ae=s.ae.dropLast++[{F with au:=5,dead:=false}]/\r.af=s.af.take F.am++F.aj /\
 r.ah=s.ah++[(s.ay.length+1,F.aj.length,F.am)] /\
 r.ay=((s.ay++[dP s st]).modify F.ao.toNat fun x=>{x with ah:=[s.ah.length]}).modify s.ay.length fun x=>{x with ah:=[F.target]}
def FE(F:PFr)(s r:LSt)(st:aX):Prop:=r.ae=s.ae.dropLast/\r.af=s.af.take F.am++F.ak/\(F.au=4->F.aj=F.ak) /\
 r.ah=(if F.au≠3 then (if F.au=4 then s.ah++[(s.ay.length+1,F.aj.length,F.am)] else s.ah).modify F.target fun x=>(s.ay.length+1,x.2) else s.ah) /\
 r.ay=if F.au=4 then (s.ay++[dP s st]).modify F.ao.toNat fun x=>{x with ah:=[s.ah.length]} else s.ay++[dP s st]
theorem il(hi:0<s.ae.length):∃F,s.ae.getLast?=some F:=by rw[ajk,gEg (by omega)];exact⟨_,rfl⟩
theorem qw{F:PFr}{x:PFr×LSt}(hf:s.ae.getLast?=some F)(hh:F.am<=s.af.length)(h:dT ar s=.ok x):x.1=F/\x.2.ae=s.ae.dropLast/\x.2.af=s.af.take F.am/\x.2.ah=(if F.au=4 then s.ah++[(s.ay.length,F.aj.length,F.am)] else s.ah) /\ x.2.ay=(if F.au=4 then s.ay.modify F.ao.toNat fun y=>{y with ah:=[s.ah.length]} else s.ay)/\∃s1,bw ar s F.ak.reverse=.ok s1/\s1.af.length=F.am:=by
 unfold dT at h;rw[hf]at h;simp only at h;obtain⟨s1,h1,h⟩:=cd h;have c:=ja _ hf hh h1;split at h
 ·cases h
 rename_i ec;have CI:s1.af.length=F.am:=by omega
 have cT:s1.af=s.af.take F.am:=by obtain⟨n,q1,q2,q3⟩:=c.af;rw[q3,ajq]at CI;rw[q3];congr 1;omega
 cases h;by_cases h4:F.au=4
 ·simp only[ajd h4,cR];exact⟨trivial,by simp[c.ae],cT,by rw[c.ah,c.ay],by rw[c.ay,c.ah],s1,h1,CI⟩
 simp only[ajc h4];exact⟨trivial,by simp[c.ae],cT,c.ah,c.ay,s1,h1,CI⟩
theorem iF{F:PFr}{s0 r:LSt}(c:Cut F (ci s st) s0)(out:List Nat)(hr:r={s0 with af:=s0.af++out}):yW F s r st:=by subst hr;obtain⟨n,h1,h2,h3⟩:=c.af;exact⟨c.ae,c.ah,c.ay,out,n,h1,h2,by show s0.af++out=_;rw[h3];rfl⟩
theorem xr{F:PFr}{s0:LSt}(hf:s.ae.getLast?=some F)(c:Cut F (ci s st) s0):B0 F s (iy s0) st:=by
 have IM:s0.ae.getLast?=some F:=by rw[c.ae];exact hf
 obtain⟨n,h1,h2,h3⟩:=c.af;unfold iy;rw[IM];refine⟨by show s0.ae.dropLast++_=_;rw[c.ae];rfl,c.ah,c.ay,?_⟩;show s0.af.take F.am=_;rw[h3,List.take_take,Nat.min_eq_left h1];rfl
theorem xt{F:PFr}(hf:s.ae.getLast?=some F)(hh:F.am<=s.af.length)(h:doS ar m ai (ci s st) st=.ok r):(yW F s r st/\¬(st.aa.au=0\/st.aa.au=7\/st.aa.au=9\/st.aa.au=10)/\¬(2<=st.aa.au/\st.aa.au<=6)) \/ (B0 F s r st/\(st.aa.au=0\/st.aa.au=7\/st.aa.au=9\/st.aa.au=10)) \/ (∃sig,m.sigs[st.idx.headD 0]?=some sig/\C4 F s r st sig/\(st.aa.au=2\/st.aa.au=3\/st.aa.au=4)/\s.ae.length<=12) \/ (C6 F s r st/\st.aa.au=5) \/ (FE F s r st/\st.aa.au=6):=by
 have jN:(ci s st).ae.getLast?=some F:=hf;have qx:F.am<=(ci s st).af.length:=hh;unfold doS at h;simp only at h;split at h
 ·rename_i hn;refine .inr (.inr (.inl ?_));unfold de at h;split at h
  ·cases h
  rename_i qZ;split at h
  ·cases h
  rename_i sig dp;obtain⟨s0,h0,h⟩:=cd h;obtain⟨s1,h1,h⟩:=cd h;cases h;have c0:Cut F (ci s st) s0:=by
   split at h0
   ·obtain⟨x,hx,h0⟩:=cd h0;cases h0;exact dA jN qx hx
   cases h0;exact Cut.refl qx
  have c1:=c0.trans (ja _ (by rw[c0.ae];exact jN) c0.len h1);obtain⟨n,q1,q2,q3⟩:=c1.af;have aQ:s1.af.length=n:=by rw[q3,ajq];omega
  refine⟨sig,dp,⟨n,q1,q2,?_,?_,?_,?_⟩,hn,by have:(ci s st).ae=s.ae:=rfl;rw[this]at qZ;omega⟩
  ·show s1.af++sig.1=_;rw[q3];rfl
  ·show s1.ay=_;rw[c1.ay];rfl
  ·show s1.ae++[_]=_;rw[c1.ae,c1.ay,c1.ah,aQ];simp[ci]
  show s1.ah++[_]=_;rw[c1.ah,c1.ay,aQ];simp[ci]
 rename_i vz;split at h
 ·rename_i hn;refine .inr (.inr (.inr (.inl ⟨?_,hn⟩)));unfold gU at h;rw[jN]at h;simp only at h;split at h
  ·cases h
  rename_i h4;have uE:F.au=4:=by omega
  obtain⟨x,hx,h⟩:=cd h;cases h;obtain⟨c1,c2,c3,c4,c5,_⟩:=qw jN qx hx;rw[ajd uE]at c4 c5;refine⟨uE,?_,?_,?_,?_⟩
  ·show (cR x.2 _ _).ae++[_]=_;rw[c1];simp only[cR];rw[c2];rfl
  ·show x.2.af++x.1.aj=_;rw[c3,c1];rfl
  ·show x.2.ah=_;rw[c4];simp[ci]
  show x.2.ay.modify _ _=_;rw[c5,c1];simp[ci,dP]
 rename_i BR;split at h
 ·rename_i hn;refine .inr (.inr (.inr (.inr ⟨?_,hn⟩)));unfold lq at h;obtain⟨x,hx,h⟩:=cd h;obtain⟨c1,c2,c3,c4,c5,_⟩:=qw jN qx hx;rw[c1]at h;split at h
  ·cases h
  rename_i ec;have aQ:x.2.ay.length=s.ay.length+1:=by rw[c5];split <;> simp[ci]
  cases h;refine⟨?_,?_,?_,?_,?_⟩
  ·split <;> exact c2
  ·split
   ·show x.2.af++F.ak=_;rw[c3];rfl
   show x.2.af++F.ak=_;rw[c3];rfl
  ·intro h4;by_cases hq:F.aj=F.ak
   ·exact hq
   exact absurd ⟨h4,hq⟩ ec
  ·by_cases h3:F.au≠3
   ·simp only[ajd h3];show x.2.ah.modify _ _=_;rw[c4,aQ];simp[ci]
   simp only[ajc h3];show x.2.ah=_;rw[c4,ajc (by omega)];rfl
  have:(bE (if F.au≠3 then setNext x.2 F.target x.2.ay.length else x.2) F.ak).ay=x.2.ay:=by split <;> rfl
  rw[this,c5];rfl
 rename_i JL;split at h
 ·rename_i hn;unfold eI at h;split at h
  ·cases h
  rename_i wants hw;split at h
  ·rename_i h8;obtain⟨x,hx,h⟩:=cd h;obtain⟨s1,h1,h⟩:=cd h;cases h;have c0:=dA jN qx hx;have c1:=c0.trans (ja _ (by rw[c0.ae];exact jN) c0.len h1);exact .inl ⟨iF c1 wants rfl,by omega,by omega⟩
  split at h
  ·rename_i h8 h9;obtain⟨_,_,h⟩:=cd h;obtain⟨x,hx,h⟩:=cd h;obtain⟨s1,h1,h⟩:=cd h;cases h;have c0:=dA jN qx hx;have c1:=c0.trans (ja _ (by rw[c0.ae];exact jN) c0.len h1);exact .inr (.inl ⟨xr hf c1,by omega⟩)
  split at h
  ·obtain⟨s1,h1,h⟩:=cd h;cases h;exact .inr (.inl ⟨xr hf (ja _ jN qx h1),by omega⟩)
  cases h;exact .inr (.inl ⟨xr hf (Cut.refl qx),by omega⟩)
 rename_i I1;refine .inl ⟨?_,by omega,by omega⟩;split at h
 ·unfold mi at h;split at h
  ·cases h
  split at h
  ·cases h
  rename_i sig _;obtain⟨s1,h1,h⟩:=cd h;cases h;exact iF (ja _ jN qx h1) sig.2 rfl
 split at h
 ·obtain⟨x,hx,h⟩:=cd h;cases h;exact iF (dA jN qx hx) [] (by simp)
 split at h
 ·unfold jk at h;obtain⟨x,hx,h⟩:=cd h;obtain⟨y,hy,h⟩:=cd h;obtain⟨z,hz,h⟩:=cd h;cases h;have c0:=dA jN qx hx;have c1:=c0.trans (dA (by rw[c0.ae];exact jN) c0.len hy);have c2:=c1.trans (dA (by rw[c1.ae];exact jN) c1.len hz);exact iF c2 _ rfl
 split at h
 ·unfold fx at h;split at h
  ·cases h
  split at h
  ·obtain⟨x,hx,h⟩:=cd h;cases h;exact iF (dA jN qx hx) [] (by simp)
  split at h
  ·obtain⟨x,hx,h⟩:=cd h;cases h;exact iF (dA jN qx hx) _ rfl
  cases h;exact iF (Cut.refl qx) _ rfl
 unfold fU at h;obtain⟨s1,h1,h⟩:=cd h;cases h;have c:=vY _ jN qx h1;split
 ·exact iF c _ rfl
 exact iF c [] (by simp)
end
section
variable {ar:Nat}{s r:LSt}{m:bf}{ai:List Nat}{st:aX}
structure cH(F G:PFr):Prop where
 aj:G.aj=F.aj
 ak:G.ak=F.ak
 am:G.am=F.am
 target:G.target=F.target
 ao:G.ao=F.ao
 wants:aZ G=aZ F
 loop:G.au=3↔F.au=3
theorem cH.refl(F:PFr):cH F F:=⟨rfl,rfl,rfl,rfl,rfl,rfl,Iff.rfl⟩
theorem cH.trans{F G H:PFr}(h:cH F G)(k:cH G H):cH F H:=⟨k.aj.trans h.aj,k.ak.trans h.ak,k.am.trans h.am,k.target.trans h.target,k.ao.trans h.ao,k.wants.trans h.wants,k.loop.trans h.loop⟩
structure iG(s:LSt):Prop where
 below:∀F∈s.ae,F.am<=s.af.length
 mono:(s.ae.map (·.am)).Pairwise (·<=·)
 targ:(s.ae.map (·.target)).Pairwise (· < ·)
 targlt:∀F∈s.ae,F.target<s.ah.length
 beg:(s.ae.map (·.ao)).Pairwise (· < ·)
 beglt:∀F∈s.ae,F.ao<s.ay.length
 begif:∀F∈s.ae,F.au=4->0<=F.ao
theorem eL{fs:List PFr}{g:PFr}(hg:fs.getLast?=some g):fs=fs.dropLast++[g]:=by obtain⟨ys,rfl⟩:=List.getLast?_eq_some_iff.1 hg;simp
theorem iG.high(h:iG s){F G:PFr}(hf:s.ae.getLast?=some F)(hg:G∈s.ae):G.am<=F.am:=by
 have he:=eL hf;have hp:=h.mono;rw[he]at hp hg;rw[List.map_append,List.pairwise_append]at hp;rcases List.mem_append.1 hg with k|k
 ·exact hp.2.2 _ (List.mem_map_of_mem k) _ (by simp)
 simp at k;subst k;exact nLr _
theorem iG.targ_last(h:iG s){F G:PFr}(hf:s.ae.getLast?=some F)(hg:G∈s.ae.dropLast):G.target<F.target/\G.ao<F.ao:=by have he:=eL hf;have hp:=h.targ;have hb:=h.beg;rw[he]at hp hb;rw[List.map_append,List.pairwise_append]at hp hb;exact⟨hp.2.2 _ (List.mem_map_of_mem hg) _ (by simp),hb.2.2 _ (List.mem_map_of_mem hg) _ (by simp)⟩
def vZ(s r:LSt)(d:Nat)(G:PFr):Prop:=∃G',r.ae[d]?=some G'/\cH G G'/\r.ae.take d=s.ae.take d/\r.af.take G.am=s.af.take G.am
theorem jv{F G:PFr}{n:Nat}{out:List Nat}(h1:F.am<=n)(h2:n<=s.af.length)(h3:r.af=s.af.take n++out)(h4:G.am<=F.am):r.af.take G.am=s.af.take G.am:=by rw[h3,aju (by rw[ajq];omega),List.take_take,Nat.min_eq_left (by omega)]
theorem jb{F F':PFr}(hf:s.ae.getLast?=some F)(hr:r.ae=s.ae.dropLast++[F'])(hs:cH F F')(cT:∀G∈s.ae,r.af.take G.am=s.af.take G.am){d:Nat}{G:PFr}(hg:s.ae[d]?=some G):vZ s r d G:=by
 have he:=eL hf;have hm:=gMo hg;obtain⟨hd,rfl⟩:=gEs.1 hg;have rO:s.ae.dropLast.length=s.ae.length-1:=by simp
 have BL:∀d,d<=s.ae.length-1->(s.ae.dropLast++[F']).take d=s.ae.take d:=fun d hd=>by
  rw[aju (by omega)]
  conv=>rhs;rw[he];rw[aju (by omega)]
 by_cases bM:d<s.ae.length-1
 ·refine⟨s.ae[d],?_,cH.refl _,?_,cT _ hm⟩
  ·rw[hr,gAl (by omega),List.getElem?_dropLast,ajd (by omega),hg]
  rw[hr];exact BL d (by omega)
 have Ms:d=s.ae.length-1:=by omega
 have hF:s.ae[d]=F:=by have:=hf;rw[ajk,<-Ms,hg]at this;exact Option.some.inj this
 refine⟨F',?_,by rw[hF];exact hs,?_,cT _ hm⟩
 ·rw[hr,ajs (by omega),rO,Ms];simp
 rw[hr];exact BL d (by omega)
theorem tf(hr:r.ae=s.ae)(cT:∀G∈s.ae,r.af.take G.am=s.af.take G.am){d:Nat}{G:PFr}(hg:s.ae[d]?=some G):vZ s r d G:=⟨G,by rw[hr];exact hg,cH.refl _,by rw[hr],cT _ (gMo hg)⟩
theorem th{N:PFr}(hr:r.ae=s.ae++[N])(cT:∀G∈s.ae,r.af.take G.am=s.af.take G.am){d:Nat}{G:PFr}(hg:s.ae[d]?=some G):vZ s r d G:=by have hd:=(gEs.1 hg).1;exact⟨G,by rw[hr,gAl hd];exact hg,cH.refl _,by rw[hr,aju (by omega)],cT _ (gMo hg)⟩
theorem ti(hr:r.ae=s.ae.dropLast)(cT:∀G∈s.ae,r.af.take G.am=s.af.take G.am){d:Nat}{G:PFr}(hg:s.ae[d]?=some G)(hd:d+1≠s.ae.length):vZ s r d G:=by have hl:=(gEs.1 hg).1;refine⟨G,by rw[hr,List.getElem?_dropLast,ajd (by omega)];exact hg,cH.refl _,?_,cT _ (gMo hg)⟩;rw[hr,List.dropLast_eq_take,List.take_take,Nat.min_eq_left (by omega)]
structure nh(m:bf)(F:PFr)(s r:LSt)(st:aX):Prop where
 len:r.ay.length=s.ay.length+1
 old:∀d G,s.ae[d]?=some G->vZ s r d G\/(st.aa.au=6/\d+1=s.ae.length/\G=F/\r.ae=s.ae.take d/\r.af=s.af.take F.am++F.ak)
 new:∀d G',r.ae[d]?=some G'->(∃G,s.ae[d]?=some G/\vZ s r d G/\cH G G'/\(G'=G\/st.aa.au=5/\G'.au=5/\G'.dead=false/\d+1=s.ae.length/\G=F\/G'={G with dead:=true}/\G=F)) \/
  (d=s.ae.length/\r.ae=s.ae++[G']/\(st.aa.au=2\/st.aa.au=3\/st.aa.au=4)/\G'.au=st.aa.au/\G'.dead=false/\G'.ao=(s.ay.length:Int)/\G'.target=s.ah.length/\r.ah[G'.target]?=some (s.ay.length+1,(aZ G').length,G'.am)/\r.af=s.af.take G'.am++G'.aj/\F.am<=G'.am/\G'.am<=s.af.length/\m.sigs[st.idx.headD 0]?=some (G'.aj,G'.ak))
 targ:∀t x,s.ah[t]?=some x->r.ah[t]?=some x\/(st.aa.au=6/\F.au≠3/\t=F.target/\r.ah[t]?=some (s.ay.length+1,x.2))
 step:∀(i:Nat) (x:PSt),s.ay[i]?=some x->r.ay[i]?=some x\/(F.au=4/\(st.aa.au=5\/st.aa.au=6)/\F.ao=(i:Int)/\∃t,r.ay[i]?=some {x with ah:=[t]}/\s.ah.length<=t/\r.ah[t]?=some (s.ay.length+1,F.aj.length,F.am))
 last:∃y,r.ay[s.ay.length]?=some y/\y.aa=st.aa/\y.index=(dP s st).index/\y.num=st.num/\(st.aa.au≠5->y.ah=(dP s st).ah)/\(st.aa.au=5->y.ah=[F.target])
 lead:F.au=4->(st.aa.au=5\/st.aa.au=6)->∀i:Nat,F.ao=(i:Int)->i<s.ay.length->∃t x,r.ay[i]?=some x/\x.ah=[t]/\s.ah.length<=t/\r.ah[t]?=some (s.ay.length+1,F.aj.length,F.am)
 turned:st.aa.au=5->F.au=4/\r.ae=s.ae.dropLast++[{F with au:=5,dead:=false}]/\r.af=s.af.take F.am++F.aj
 ended:st.aa.au=6->r.ae=s.ae.dropLast/\r.af=s.af.take F.am++F.ak/\(F.au=4->F.aj=F.ak)/\(F.au=3->r.ah=s.ah)/\(F.au≠3->r.ah[F.target]?=(s.ah[F.target]?).map fun x=>(s.ay.length+1,x.2))
 died:(st.aa.au=0\/st.aa.au=7\/st.aa.au=9\/st.aa.au=10)->r.ae=s.ae.dropLast++[{F with dead:=true}]/\r.af=s.af.take F.am
 opened:(st.aa.au=2\/st.aa.au=3\/st.aa.au=4)->∃N,r.ae=s.ae++[N]/\N.au=st.aa.au/\N.dead=false/\N.ao=(s.ay.length:Int)/\F.am<=N.am/\N.am<=s.af.length/\r.af=s.af.take N.am++N.aj/\m.sigs[st.idx.headD 0]?=some (N.aj,N.ak)
 plain:¬(st.aa.au=0\/st.aa.au=7\/st.aa.au=9\/st.aa.au=10)->¬(2<=st.aa.au/\st.aa.au<=6)->r.ae=s.ae
theorem JM{N G':PFr}{d:Nat}(hr:r.ae=s.ae++[N])(h:r.ae[d]?=some G'):(s.ae[d]?=some G')\/(d=s.ae.length/\G'=N):=by
 rw[hr]at h;by_cases hd:d<s.ae.length
 ·rw[gAl hd]at h;exact .inl h
 rw[ajs (by omega)]at h;have:d-s.ae.length=0:=by
  rcases Nat.eq_zero_or_pos (d-s.ae.length) with h0|h0
  ·exact h0
  rw[ajp (by simp;omega)]at h;cases h
 rw[this]at h;simp at h;exact .inr ⟨by omega,h.symm⟩
theorem tj{F N G':PFr}{d:Nat}(hf:s.ae.getLast?=some F)(hr:r.ae=s.ae.dropLast++[N])(h:r.ae[d]?=some G'):(s.ae[d]?=some G'/\d+1<s.ae.length)\/(d+1=s.ae.length/\G'=N/\s.ae[d]?=some F):=by
 have j5:0<s.ae.length:=by rw[ajk]at hf;have:=(gEs.1 hf).1;omega
 have rO:s.ae.dropLast.length=s.ae.length-1:=by simp
 rw[hr]at h;by_cases hd:d<s.ae.length-1
 ·rw[gAl (by omega),List.getElem?_dropLast,ajd (by omega)]at h;exact .inl ⟨h,by omega⟩
 rw[ajs (by omega)]at h;have h0:d-s.ae.dropLast.length=0:=by
  rcases Nat.eq_zero_or_pos (d-s.ae.dropLast.length) with h0|h0
  ·exact h0
  rw[ajp (by simp;omega)]at h;cases h
 rw[h0]at h;simp at h;refine .inr ⟨by omega,h.symm,?_⟩;rw[ajk]at hf;have:d=s.ae.length-1:=by omega
 rw[this];exact hf
theorem jT{F:PFr}(B:iG s)(hf:s.ae.getLast?=some F)(h:doS ar m ai (ci s st) st=.ok r):nh m F s r st:=by
 have qe:F∈s.ae:=ajm hf;have hh:=B.below F qe;have he:=eL hf;have j5:0<s.ae.length:=by rw[he];simp
 have Nb:s.ae[s.ae.length-1]?=some F:=by rw[ajk]at hf;exact hf
 have keptlast:∀l:List PSt,l=s.ay++[dP s st]->∃y,l[s.ay.length]?=some y/\y=dP s st:=fun l hl=>⟨_,by rw[hl];simp,rfl⟩;rcases xt hf hh h with⟨⟨w1,w2,w3,out,n,n1,n2,n3⟩,q1,q2⟩|⟨⟨w1,w2,w3,w4⟩,q1⟩|⟨sig,dp,⟨n,n1,n2,n3,w3,w1,w2⟩,q1,q2⟩|⟨⟨h4,w1,w4,w2,w3⟩,q1⟩|⟨⟨w1,w4,h4,w2,w3⟩,q1⟩
 ·have cT:∀G∈s.ae,r.af.take G.am=s.af.take G.am:=fun G hG=>jv n1 n2 n3 (B.high hf hG);exact {
   len:=by rw[w3];simp
   old:=fun d G hg=>.inl (tf w1 cT hg)
   new:=fun d G' hg=>.inl ⟨G',by rw[w1]at hg;exact hg,tf w1 cT (by rw[w1]at hg;exact hg),cH.refl _,.inl rfl⟩
   targ:=fun t x hx=>.inl (by rw[w2];exact hx)
   step:=fun i x hx=>.inl (by rw[w3,gAl (gEs.1 hx).1];exact hx)
   last:=⟨dP s st,by rw[w3];simp,rfl,rfl,rfl,fun _=>rfl,fun h5=>by omega⟩
   lead:=fun _ h5=>by omega
   turned:=fun h5=>by omega
   ended:=fun h5=>by omega
   died:=fun h5=>absurd h5 q1
   opened:=fun h5=>by omega
   plain:=fun _ _=>w1}
 ·have cT:∀G∈s.ae,r.af.take G.am=s.af.take G.am:=fun G hG=>jv (nLr _) hh (by rw[w4,List.append_nil]) (B.high hf hG);have dh:cH F {F with dead:=true}:=⟨rfl,rfl,rfl,rfl,rfl,rfl,Iff.rfl⟩;exact {
   len:=by rw[w3];simp
   old:=fun d G hg=>.inl (jb hf w1 dh cT hg)
   new:=fun d G' hg=>by
    rcases tj hf w1 hg with⟨h1,_⟩|⟨h1,rfl,h3⟩
    ·exact .inl ⟨G',h1,jb hf w1 dh cT h1,cH.refl _,.inl rfl⟩
    exact .inl ⟨F,h3,jb hf w1 dh cT h3,dh,.inr (.inr ⟨rfl,rfl⟩)⟩
   targ:=fun t x hx=>.inl (by rw[w2];exact hx)
   step:=fun i x hx=>.inl (by rw[w3,gAl (gEs.1 hx).1];exact hx)
   last:=⟨dP s st,by rw[w3];simp,rfl,rfl,rfl,fun _=>rfl,fun h5=>by omega⟩
   lead:=fun _ h5=>by omega
   turned:=fun h5=>by omega
   ended:=fun h5=>by omega
   died:=fun _=>⟨w1,w4⟩
   opened:=fun h5=>by omega
   plain:=fun h5 _=>absurd q1 h5}
 ·have cT:∀G∈s.ae,r.af.take G.am=s.af.take G.am:=fun G hG=>jv n1 n2 n3 (B.high hf hG);exact {
   len:=by rw[w3];simp
   old:=fun d G hg=>.inl (th w1 cT hg)
   new:=fun d G' hg=>by
    rcases JM w1 hg with h1|⟨h1,rfl⟩
    ·exact .inl ⟨G',h1,th w1 cT h1,cH.refl _,.inl rfl⟩
    exact .inr ⟨h1,w1,q1,rfl,rfl,rfl,rfl,by rw[w2];simp[aZ],n3,n1,n2,dp⟩
   targ:=fun t x hx=>.inl (by rw[w2,gAl (gEs.1 hx).1];exact hx)
   step:=fun i x hx=>.inl (by rw[w3,gAl (gEs.1 hx).1];exact hx)
   last:=⟨dP s st,by rw[w3];simp,rfl,rfl,rfl,fun _=>rfl,fun h5=>by omega⟩
   lead:=fun _ h5=>by omega
   turned:=fun h5=>by omega
   ended:=fun h5=>by omega
   died:=fun h5=>by omega
   opened:=fun _=>⟨_,w1,rfl,rfl,rfl,n1,n2,n3,dp⟩
   plain:=fun _ h5=>by omega}
 ·have cT:∀G∈s.ae,r.af.take G.am=s.af.take G.am:=fun G hG=>jv (nLr _) hh w4 (B.high hf hG);have dh:cH F {F with au:=5,dead:=false}:=⟨rfl,rfl,rfl,rfl,rfl,by simp[aZ,h4],by simp[h4]⟩;have qX:=B.beglt F qe;have aaj:=B.begif F qe h4;have jW:r.ah[s.ah.length]?=some (s.ay.length+1,F.aj.length,F.am):=by rw[w2];simp
  exact {
   len:=by rw[w3];simp
   old:=fun d G hg=>.inl (jb hf w1 dh cT hg)
   new:=fun d G' hg=>by
    rcases tj hf w1 hg with⟨h1,_⟩|⟨h1,rfl,h3⟩
    ·exact .inl ⟨G',h1,jb hf w1 dh cT h1,cH.refl _,.inl rfl⟩
    exact .inl ⟨F,h3,jb hf w1 dh cT h3,dh,.inr (.inl ⟨q1,rfl,rfl,h1,rfl⟩)⟩
   targ:=fun t x hx=>.inl (by rw[w2,gAl (gEs.1 hx).1];exact hx)
   step:=fun i x hx=>by
    have hi:=(gEs.1 hx).1
    rw[w3,List.getElem?_modify,List.getElem?_modify,gAl hi,hx]
    have:¬s.ay.length=i:=by omega
    simp only[ajc this]
    by_cases hb:F.ao.toNat=i
    ·by_cases CO:F.ao=(i:Int)
     ·refine .inr ⟨h4,.inl q1,CO,s.ah.length,by simp[hb],nLr _,jW⟩
     exfalso
     have:=B.begif F qe h4
     omega
    exact .inl (by simp[hb])
   last:=by
    refine⟨{dP s st with ah:=[F.target]},?_,rfl,rfl,rfl,fun h5=>absurd q1 h5,fun _=>rfl⟩
    rw[w3,List.getElem?_modify,List.getElem?_modify]
    have:¬F.ao.toNat=s.ay.length:=by omega
    simp[this]
   lead:=fun _ _ i hb hi=>by
    refine⟨s.ah.length,{s.ay[i] with ah:=[s.ah.length]},?_,rfl,nLr _,jW⟩
    rw[w3,List.getElem?_modify,List.getElem?_modify,gAl hi,gEg hi]
    have h1:¬s.ay.length=i:=by omega
    have h2:F.ao.toNat=i:=by omega
    simp[h1,h2]
   turned:=fun _=>⟨h4,w1,w4⟩
   ended:=fun h5=>by omega
   died:=fun h5=>by omega
   opened:=fun h5=>by omega
   plain:=fun _ h5=>by omega}
 have cT:∀G∈s.ae,r.af.take G.am=s.af.take G.am:=fun G hG=>jv (nLr _) hh w4 (B.high hf hG);have Ii:=B.targlt F qe;have aQ:r.ay.length=s.ay.length+1:=by rw[w3];split <;> simp
 have jW:F.au=4->r.ah[s.ah.length]?=some (s.ay.length+1,F.aj.length,F.am):=fun h4=>by
  rw[w2,ajd (by omega),ajd h4,List.getElem?_modify];have:¬F.target=s.ah.length:=by omega
  simp[this]
 exact {
  len:=aQ
  old:=fun d G hg=>by
   by_cases hd:d+1=s.ae.length
   ·have hG:G=F:=by
     have Ms:d=s.ae.length-1:=by omega
     rw[Ms,Nb]at hg
     exact(Option.some.inj hg).symm
    refine .inr ⟨q1,hd,hG,?_,w4⟩
    rw[w1,List.dropLast_eq_take];congr 1;omega
   exact .inl (ti w1 cT hg hd)
  new:=fun d G' hg=>by
   have xg:s.ae[d]?=some G'/\d+1≠s.ae.length:=by
    rw[w1,List.getElem?_dropLast]at hg
    split at hg
    ·exact⟨hg,by omega⟩
    cases hg
   exact .inl ⟨G',xg.1,ti w1 cT xg.1 xg.2,cH.refl _,.inl rfl⟩
  targ:=fun t x hx=>by
   have hi:=(gEs.1 hx).1
   by_cases h3:F.au≠3
   ·rw[w2,ajd h3,List.getElem?_modify]
    have ou:(if F.au=4 then s.ah++[(s.ay.length+1,F.aj.length,F.am)] else s.ah)[t]?=some x:=by
     split
     ·rw[gAl hi];exact hx
     exact hx
    rw[ou]
    by_cases ht:F.target=t
    ·exact .inr ⟨q1,h3,ht.symm,by simp[ht]⟩
    exact .inl (by simp[ht])
   rw[w2,ajc h3];exact .inl hx
  step:=fun i x hx=>by
   have hi:=(gEs.1 hx).1
   rw[w3]
   split
   ·rename_i uE
    rw[List.getElem?_modify,gAl hi,hx]
    by_cases hb:F.ao.toNat=i
    ·by_cases CO:F.ao=(i:Int)
     ·exact .inr ⟨uE,.inr q1,CO,s.ah.length,by simp[hb],nLr _,jW uE⟩
     exfalso
     have:=B.begif F qe uE
     omega
    exact .inl (by simp[hb])
   exact .inl (by rw[gAl hi];exact hx)
  last:=by
   refine⟨dP s st,?_,rfl,rfl,rfl,fun _=>rfl,fun h5=>by omega⟩
   rw[w3]
   split
   ·rename_i uE
    have qX:=B.beglt F qe
    have Ev:=B.begif F qe uE
    rw[List.getElem?_modify]
    have:¬F.ao.toNat=s.ay.length:=by omega
    simp[this]
   simp
  lead:=fun uE _ i hb hi=>by
   refine⟨s.ah.length,{s.ay[i] with ah:=[s.ah.length]},?_,rfl,nLr _,jW uE⟩
   rw[w3,ajd uE,List.getElem?_modify,gAl hi,gEg hi]
   have h2:F.ao.toNat=i:=by omega
   simp[h2]
  turned:=fun h5=>by omega
  ended:=fun _=>⟨w1,w4,h4,fun h3=>by rw[w2,ajc (by omega)],fun h3=>by
   rw[w2,ajd h3,List.getElem?_modify]
   have ou:(if F.au=4 then s.ah++[(s.ay.length+1,F.aj.length,F.am)] else s.ah)[F.target]?=s.ah[F.target]?:=by
    split
    ·rw[gAl Ii]
    rfl
   rw[ou];simp⟩
  died:=fun h5=>by omega
  opened:=fun h5=>by omega
  plain:=fun _ h5=>by omega}
end
section
variable {ar:Nat}{s r:LSt}{m:bf}{ai:List Nat}{st:aX}{F:PFr}
def cI(l:List Nat):Prop:=∀x∈l,x≠0
theorem cI.left{a b:List Nat}(h:cI (a++b)):cI a:=fun x hx=>h x (by simp[hx])
theorem cI.right{a b:List Nat}(h:cI (a++b)):cI b:=fun x hx=>h x (by simp[hx])
theorem cI.append{a b:List Nat}(h:cI a)(k:cI b):cI (a++b):=fun x hx=>by
 rcases List.mem_append.1 hx with q|q
 ·exact h x q
 exact k x q
theorem ej{t:Nat}{x:Nat×LSt}(hf:s.ae.getLast?=some F)(hd:F.dead=false)(h:bD ar s t=.ok x):s.af=x.2.af++[x.1]/\F.am<=x.2.af.length/\(x.1≠0->t≠0->x.1=t):=by
 unfold bD at h;rw[hf]at h;simp only at h;split at h
 ·rw[hd]at h;cases h
 rename_i aQ;split at h
 ·cases h
 rename_i got hg;split at h
 ·cases h
 rename_i ec;cases h;obtain⟨ys,hy⟩:=List.getLast?_eq_some_iff.1 hg;refine⟨?_,by simp;omega,fun h1 h2=>?_⟩
 ·simp[hy]
 by_cases hq:got=t
 ·exact hq
 exact absurd ⟨hq,h1,h2⟩ ec
theorem fq:∀(l:List Nat) {s r:LSt},s.ae.getLast?=some F->F.dead=false->F.am<=s.af.length->cI s.af->cI l->bw ar s l=.ok r->s.af=r.af++l.reverse/\F.am<=r.af.length
 | [],s,r,hf,hd,hh,hz,hl,h=>by cases h;simpa using hh
 |t::l,s,r,hf,hd,hh,hz,hl,h=>by obtain⟨x,hx,h⟩:=cd h;obtain⟨h1,h2,h3⟩:=ej hf hd hx;have c:=dA hf hh hx;have tk:x.1=t:=h3 (hz _ (by rw[h1];simp)) (hl t (by simp));obtain⟨k1,k2⟩:=fq l (by rw[c.ae];exact hf) hd h2 (by rw[h1]at hz;exact hz.left) (fun y hy=>hl y (by simp[hy])) h;refine⟨?_,k2⟩;rw[h1,k1,tk];simp
theorem rj{of:Nat}:∀(k:Nat) {s r:LSt},s.ae.getLast?=some F->F.dead=false->F.am<=s.af.length->cI s.af->of≠0->plainTakes ar of s k=.ok r->s.af=r.af++List.replicate k of/\F.am<=r.af.length
 |0,s,r,hf,hd,hh,hz,hl,h=>by cases h;simpa using hh
 |k+1,s,r,hf,hd,hh,hz,hl,h=>by obtain⟨x,hx,h⟩:=cd h;obtain⟨h1,h2,h3⟩:=ej hf hd hx;have c:=dA hf hh hx;have tk:x.1=of:=h3 (hz _ (by rw[h1];simp)) hl;obtain⟨k1,k2⟩:=rj k (by rw[c.ae];exact hf) hd h2 (by rw[h1]at hz;exact hz.left) hl h;refine⟨?_,k2⟩;rw[h1,k1,tk,List.append_assoc,List.replicate_succ']
structure Pos(m:bf)(ai:List Nat)(s:LSt):Prop where
 sigs:∀g∈m.sigs,cI g.1/\cI g.2
 ai:cI ai
 ae:∀G∈s.ae,cI G.aj/\cI G.ak
theorem Pos.wants(h:Pos m ai s){G:PFr}(hG:G∈s.ae):cI (aZ G):=by
 unfold aZ;split
 ·exact(h.ae G hG).1
 exact(h.ae G hG).2
structure Lo(m:bf)(ai:List Nat)(F:PFr)(s r:LSt)(st:aX):Prop where
 block:st.aa.au=2\/st.aa.au=3->∃az sig,m.sigs[st.idx.headD 0]?=some sig/\s.af=az++sig.1/\F.am<=az.length/\r.af=az++sig.1
 iff:st.aa.au=4->∃az sig,m.sigs[st.idx.headD 0]?=some sig/\s.af=az++sig.1++[1]/\F.am<=az.length/\r.af=az++sig.1
 close:st.aa.au=5\/st.aa.au=6->s.af=s.af.take F.am++F.ak
 goif:st.aa.au=8->∃az wants,dn s st.idx=some wants/\s.af=az++wants++[1]/\F.am<=az.length/\r.af=az++wants
 goby:st.aa.au=9->∃az wants,dn s st.idx=some wants/\s.af=az++wants++[1]/\F.am<=az.length/\∀i∈st.idx,(bT s i).map aZ=some wants
 go:st.aa.au=7\/st.aa.au=10->∃az wants,dn s st.idx=some wants/\s.af=az++wants/\F.am<=az.length
 call:st.aa.au=11->∃az fn sig,m.funs[st.idx.headD 0]?=some fn/\m.sigs[fn.sig]?=some sig/\s.af=az++sig.1/\r.af=az++sig.2
 drop:st.aa.au=12->∃az t,s.af=az++[t]/\r.af=az
 pick:st.aa.au=13->∃az t,s.af=az++[t,t,1]/\r.af=az++[t]
 get:st.aa.au=14->∃t,ai[st.idx.headD 0]?=some t/\r.af=s.af++[t]
 set:st.aa.au=15->∃az t,ai[st.idx.headD 0]?=some t/\s.af=az++[t]/\r.af=az
 tee:st.aa.au=16->∃az t,ai[st.idx.headD 0]?=some t/\s.af=az++[t]/\r.af=az++[t]
 other:st.aa.au=1\/17<=st.aa.au->∃az,s.af=az++List.replicate st.aa.aj st.aa.of/\r.af=az++(if st.aa.ak≠0 then [st.aa.ak] else [])
 nz:F.dead=false->(st.aa.au=8\/st.aa.au=1\/11<=st.aa.au)->cI r.af
theorem tm{ar:Nat}{wants:List Nat}:∀{l:List Nat},gM ar s wants l=.ok ()->∀i∈l,(bT s i).map aZ=some wants
 | [],h,i,hi=>by simp at hi
 |a::l,h,i,hi=>by
  unfold gM at h;split at h
  ·rename_i ha;rcases List.mem_cons.1 hi with rfl|hi
   ·exact ha
   exact tm h i hi
  cases h
theorem rk{idx wants:List Nat}(h:dn s idx=some wants):∃G∈s.ae,aZ G=wants:=by
 unfold dn at h;split at h
 ·obtain⟨G,h1,h2⟩:=Option.map_eq_some_iff.1 h;exact⟨G,List.mem_of_head? h1,h2⟩
 obtain⟨G,h1,h2⟩:=Option.map_eq_some_iff.1 h;refine⟨G,?_,h2⟩;unfold bT at h1;split at h1
 ·exact gMo h1
 cases h1
theorem ek{l:List Nat}(h:cI l):cI l.reverse:=fun x hx=>h x (by simpa using hx)
theorem we(pos:Pos m ai s)(Fs:0<st.aa.aj->st.aa.of≠0)(hf:s.ae.getLast?=some F)(hh:F.am<=s.af.length)(hd:F.dead=false)(hz:cI s.af)(h:doS ar m ai (ci s st) st=.ok r):Lo m ai F s r st:=by
 have jN:(ci s st).ae.getLast?=some F:=hf;have qx:F.am<=(ci s st).af.length:=hh;have yv:cI (ci s st).af:=hz;have ur:(ci s st).af=s.af:=rfl;have qe:=ajm hf;have hb:∀{P Q:Prop},¬P->P->Q:=fun h k=>absurd k h;unfold doS at h;simp only at h;split at h
 ·rename_i hn;unfold de at h;split at h
  ·cases h
  split at h
  ·cases h
  rename_i sig dp;have gy:=pos.sigs sig (gMo dp);obtain⟨s0,h0,h⟩:=cd h;obtain⟨s1,h1,h⟩:=cd h;cases h;by_cases h4:st.aa.au=4
  ·rw[ajd h4]at h0;obtain⟨x,hx,h0⟩:=cd h0;cases h0;obtain⟨a1,a2,a3⟩:=ej jN hd hx;have c:=dA jN qx hx;have tk:x.1=1:=a3 (yv _ (by rw[a1];simp)) (by decide);obtain⟨b1,b2⟩:=fq _ (by rw[c.ae];exact jN) hd a2 (by rw[a1]at yv;exact yv.left) (ek gy.1) h1;simp only[List.reverse_reverse]at b1;refine⟨by omega,fun _=>⟨s1.af,sig,dp,?_,b2,rfl⟩,by omega,by omega,by omega,by omega,by omega,by omega,by omega,by omega,by omega,by omega,by omega,fun _=>by omega⟩;rw[ur]at a1;rw[a1,b1,tk]
  rw[ajc h4]at h0;cases h0;obtain⟨b1,b2⟩:=fq _ jN hd qx yv (ek gy.1) h1;simp only[List.reverse_reverse]at b1;refine⟨fun _=>⟨s1.af,sig,dp,by rw[ur]at b1;exact b1,b2,rfl⟩,by omega,by omega,by omega,by omega,by omega,by omega,by omega,by omega,by omega,by omega,by omega,by omega,fun _=>by omega⟩
 rename_i vz;have FF:∀x,dT ar (ci s st)=.ok x->s.af=s.af.take F.am++F.ak:=fun x hx=>by
  obtain⟨_,_,_,_,_,s1,t1,t2⟩:=qw jN qx hx;obtain⟨b1,b2⟩:=fq _ jN hd qx yv (ek (pos.ae F qe).2) t1;simp only[List.reverse_reverse]at b1;rw[ur]at b1;have:s.af.take F.am=s1.af:=by rw[b1,aju (by omega),ajB (by omega)]
  rw[this];exact b1
 split at h
 ·rename_i hn;unfold gU at h;rw[jN]at h;simp only at h;split at h
  ·cases h
  obtain⟨x,hx,h⟩:=cd h;exact⟨by omega,by omega,fun _=>FF x hx,by omega,by omega,by omega,by omega,by omega,by omega,by omega,by omega,by omega,by omega,fun _=>by omega⟩
 rename_i BR;split at h
 ·rename_i hn;unfold lq at h;obtain⟨x,hx,h⟩:=cd h;exact⟨by omega,by omega,fun _=>FF x hx,by omega,by omega,by omega,by omega,by omega,by omega,by omega,by omega,by omega,by omega,fun _=>by omega⟩
 rename_i JL;split at h
 ·rename_i hn;unfold eI at h;split at h
  ·cases h
  rename_i wants hw;have Sp:dn s st.idx=some wants:=hw;obtain⟨G,hG,P4⟩:=rk Sp;have Uo:cI wants:=by rw[<-P4];exact pos.wants hG
  split at h
  ·rename_i h8;obtain⟨x,hx,h⟩:=cd h;obtain⟨s1,h1,h⟩:=cd h;cases h;obtain⟨a1,a2,a3⟩:=ej jN hd hx;have c:=dA jN qx hx;have tk:x.1=1:=a3 (yv _ (by rw[a1];simp)) (by decide);obtain⟨b1,b2⟩:=fq _ (by rw[c.ae];exact jN) hd a2 (by rw[a1]at yv;exact yv.left) (ek Uo) h1;simp only[List.reverse_reverse]at b1;rw[ur]at a1;refine⟨by omega,by omega,by omega,fun _=>⟨s1.af,wants,Sp,by rw[a1,b1,tk],b2,rfl⟩,by omega,by omega,by omega,by omega,by omega,by omega,by omega,by omega,by omega,fun _ _=>?_⟩;show cI (s1.af++wants);rw[<-b1];rw[a1]at hz;exact hz.left
  rename_i h8;split at h
  ·rename_i h9;obtain⟨_,Ir,h⟩:=cd h;obtain⟨x,hx,h⟩:=cd h;obtain⟨s1,h1,h⟩:=cd h;obtain⟨a1,a2,a3⟩:=ej jN hd hx;have c:=dA jN qx hx;have tk:x.1=1:=a3 (yv _ (by rw[a1];simp)) (by decide);obtain⟨b1,b2⟩:=fq _ (by rw[c.ae];exact jN) hd a2 (by rw[a1]at yv;exact yv.left) (ek Uo) h1;simp only[List.reverse_reverse]at b1;rw[ur]at a1;have cL:=tm Ir;exact⟨by omega,by omega,by omega,by omega,fun _=>⟨s1.af,wants,Sp,by rw[a1,b1,tk],b2,cL⟩,by omega,by omega,by omega,by omega,by omega,by omega,by omega,by omega,fun _=>by omega⟩
  rename_i h9;split at h
  ·rename_i h7;obtain⟨s1,h1,h⟩:=cd h;obtain⟨b1,b2⟩:=fq _ jN hd qx yv (ek Uo) h1;simp only[List.reverse_reverse]at b1;exact⟨by omega,by omega,by omega,by omega,by omega,fun _=>⟨s1.af,wants,Sp,b1,b2⟩,by omega,by omega,by omega,by omega,by omega,by omega,by omega,fun _=>by omega⟩
  exact⟨by omega,by omega,by omega,by omega,by omega,by omega,by omega,by omega,by omega,by omega,by omega,by omega,by omega,fun _=>by omega⟩
 rename_i I1;split at h
 ·rename_i hn;unfold mi at h;split at h
  ·cases h
  rename_i fn xQ;split at h
  ·cases h
  rename_i sig dp;have gy:=pos.sigs sig (gMo dp);obtain⟨s1,h1,h⟩:=cd h;cases h;obtain⟨b1,b2⟩:=fq _ jN hd qx yv (ek gy.1) h1;simp only[List.reverse_reverse]at b1;rw[ur]at b1;refine⟨by omega,by omega,by omega,by omega,by omega,by omega,fun _=>⟨s1.af,fn,sig,xQ,dp,b1,rfl⟩,by omega,by omega,by omega,by omega,by omega,by omega,fun _ _=>?_⟩;show cI (s1.af++sig.2);rw[b1]at hz;exact hz.left.append gy.2
 rename_i Up;split at h
 ·rename_i hn;obtain⟨x,hx,h⟩:=cd h;cases h;obtain⟨a1,a2,a3⟩:=ej jN hd hx;rw[ur]at a1;refine⟨by omega,by omega,by omega,by omega,by omega,by omega,by omega,fun _=>⟨_,_,a1,rfl⟩,by omega,by omega,by omega,by omega,by omega,fun _ _=>?_⟩;rw[a1]at hz;exact hz.left
 rename_i AO;split at h
 ·rename_i hn;unfold jk at h;obtain⟨x,hx,h⟩:=cd h;obtain⟨y,hy,h⟩:=cd h;obtain⟨z,IT,h⟩:=cd h;cases h;obtain⟨a1,a2,a3⟩:=ej jN hd hx;have c0:=dA jN qx hx;obtain⟨b1,b2,b3⟩:=ej (by rw[c0.ae];exact jN) hd hy;have c1:=c0.trans (dA (by rw[c0.ae];exact jN) c0.len hy);obtain⟨d1,d2,d3⟩:=ej (by rw[c1.ae];exact jN) hd IT;rw[ur]at a1;rw[a1,b1,d1]at hz;have tk:x.1=1:=a3 (hz _ (by simp)) (by decide);have Lp:y.1≠0:=hz _ (by simp);have eP:z.1=y.1:=d3 (hz _ (by simp)) Lp;have cT:s.af=z.2.af++[y.1,y.1,1]:=by rw[a1,b1,d1,tk,eP];simp
  refine⟨by omega,by omega,by omega,by omega,by omega,by omega,by omega,by omega,fun _=>⟨z.2.af,y.1,cT,?_⟩,by omega,by omega,by omega,by omega,fun _ _=>?_⟩
  ·simp[ez,Lp]
  simp only[ez,ajc Lp];exact hz.left.left.left.append (by intro q hq;simp at hq;subst hq;exact Lp)
 rename_i hn7;split at h
 ·rename_i hn;unfold fx at h;split at h
  ·cases h
  rename_i t ht;have Sq:t≠0:=pos.ai t (gMo ht);split at h
  ·rename_i h15;obtain⟨x,hx,h⟩:=cd h;cases h;obtain⟨a1,a2,a3⟩:=ej jN hd hx;rw[ur]at a1;have tk:x.1=t:=a3 (hz _ (by rw[a1];simp)) Sq;refine⟨by omega,by omega,by omega,by omega,by omega,by omega,by omega,by omega,by omega,by omega,fun _=>⟨_,t,ht,by rw[a1,tk],rfl⟩,by omega,by omega,fun _ _=>?_⟩;rw[a1]at hz;exact hz.left
  rename_i h15;split at h
  ·rename_i Sr;obtain⟨x,hx,h⟩:=cd h;cases h;obtain⟨a1,a2,a3⟩:=ej jN hd hx;rw[ur]at a1;have tk:x.1=t:=a3 (hz _ (by rw[a1];simp)) Sq;refine⟨by omega,by omega,by omega,by omega,by omega,by omega,by omega,by omega,by omega,by omega,by omega,fun _=>⟨_,t,ht,by rw[a1,tk],rfl⟩,by omega,fun _ _=>?_⟩;rw[a1]at hz;exact hz.left.append (by intro q hq;simp at hq;subst hq;exact Sq)
  rename_i Sr;cases h;refine⟨by omega,by omega,by omega,by omega,by omega,by omega,by omega,by omega,by omega,fun _=>⟨t,ht,rfl⟩,by omega,by omega,by omega,fun _ _=>?_⟩;exact hz.append (by intro q hq;simp at hq;subst hq;exact Sq)
 rename_i hn8;unfold fU at h;obtain⟨s1,h1,h⟩:=cd h;cases h;have key:s.af=s1.af++List.replicate st.aa.aj st.aa.of/\F.am<=s1.af.length:=by
  by_cases h0:0<st.aa.aj
  ·have q:=rj (s:=ci s st) _ jN hd qx yv (Fs h0) h1;exact q
  have h00:st.aa.aj=0:=by omega
  rw[h00]at h1 ⊢;cases h1;exact⟨by simp[ur],qx⟩
 obtain⟨b1,b2⟩:=key;refine⟨by omega,by omega,by omega,by omega,by omega,by omega,by omega,by omega,by omega,by omega,by omega,by omega,fun _=>⟨s1.af,b1,?_⟩,fun _ _=>?_⟩
 ·split <;> simp[ez]
 rw[b1]at hz;split
 ·rename_i hg;exact hz.left.append (by intro q hq;simp at hq;subst hq;exact hg)
 exact hz.left
end
