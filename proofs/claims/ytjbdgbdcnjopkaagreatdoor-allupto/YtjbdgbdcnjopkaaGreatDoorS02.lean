import Derived.Test.YtjbdgbdcnjopkaaGreatDoorS01
import Derived.Deep.RegionWith
import Derived.RegionDies
namespace Go.Proofs.YtjbdgbdcnjopkaaGreatDoor
open Go.RowKit Tryz
set_option linter.all false
set_option maxRecDepth 100000
set_option maxHeartbeats 4000000
theorem Cq{w:World}{r:Nat}{a:Option Addr}{cap:Nat}{bs:List UInt8}{p:Nat}(h:Rd w r a cap bs p)(hp:¬p<bs.length):Calls prog 81 #[.pointer (some ⟨r,0,none⟩)] w fun e w'=>e=.returned (.tuple #[])/\w.grownBy w' (some r):=by
 have c0:=h.blk.cell 0;have c1:=h.blk.cell 1;have hi:=h.inside;simp at c0 c1;obtain rfl:p=bs.length:=by omega
 go_enter func81,ntmps81;go_wp2;go_region
 go_wp2;go_end0;exact⟨rfl,aE (aH _ _)⟩
theorem Ax{w:World}{r:Nat}{a:Option Addr}{cap:Nat}{bs:List UInt8}{p:Nat}(h:Rd w r a cap bs p)(hp:p<bs.length):Calls prog 81 #[.pointer (some ⟨r,0,none⟩)] w fun e w'=>e=ep (2,p)/\w.grownBy w' (some r):=by
 have c0:=h.blk.cell 0;have c1:=h.blk.cell 1;simp at c0 c1;go_enter func81,ntmps81;go_wp2;go_region
 go_wp2_with (go_at_call 108;refine(ib _ _ _).mono ?_;rintro e w' ⟨rfl,rfl⟩)
 exact⟨rfl,rfl,aE (aH _ _)⟩
theorem fz{w:World}{r:Nat}{a:Option Addr}{cap:Nat}{bs:List UInt8}{p n:Nat}{x y:Int}(h:Rd w r a cap bs p)(lo hi:Nat)(hn:bN bs p lo hi=.ok n)(hx:x=lo)(hy:y=hi):Calls prog 105 #[.pointer (some ⟨r,0,none⟩),.int .i64 x,.int .i64 y] w fun e w'=>e=.returned (.int .i64 n)/\w.grownBy w' (some r)/\Rd w' r a cap bs (p+1):=by subst hx;subst hy;exact qg h hn
theorem ji{w:World}{r:Nat}{a:Option Addr}{cap:Nat}{bs:List UInt8}{p:Nat}{er:Er}{x y:Int}(h:Rd w r a cap bs p)(lo hi:Nat)(hn:bN bs p lo hi=.error er)(hx:x=lo)(hy:y=hi):Calls prog 105 #[.pointer (some ⟨r,0,none⟩),.int .i64 x,.int .i64 y] w fun e w'=>e=ep er/\w.grownBy w' (some r):=by subst hx;subst hy;exact oE h hn
theorem Rd.drew{w:World}{r:Nat}{a:Option Addr}{cap:Nat}{bs:List UInt8}{p:Nat}(h:Rd w r a cap bs p):Rd w.drew r a cap bs p:=⟨h.blk,h.bytes,h.small,h.room,h.inside⟩
theorem bj{a b:World}{row:Option Nat}(h:a.drew.grownBy b row):a.grownBy b row:=⟨h.os,h.tape,h.output,h.size,h.block⟩
theorem En{w:World}{r:Nat}{a:Option Addr}{cap:Nat}{bs:List UInt8}(h:Rd w r a cap bs 0):Calls prog 78 #[.pointer (some ⟨r,0,none⟩)] w fun e w'=>w.grownBy w' (some r)/\fh (fT bs [84,82,1] 0) (fun _ e w'=>e=.returned (.tuple #[])/\Rd w' r a cap bs 3) e w':=by
 go_enter func78,ntmps78;go_wp2;go_loopw [3] (fun i wr=>∃(k:Nat),i=.int .i64 k/\k<=3/\w.grownBy wr (some r)/\Rd wr r a cap bs k/\Hid (fT bs [84,82,1] 0=fT bs ([84,82,1].drop k) k)) (fun i _=>3-(intOf i).toNat)
 case atStart=>exact⟨0,rfl,by omega,aH _ _,h,rfl⟩
 case round=>
  obtain⟨k,rfl,hk,bU,nM,HE⟩:=hrel;by_cases bM:k<3
  ·obtain⟨c,l,hc,hd⟩:∃c l,c=[84,82,1][k]/\[84,82,1].drop k=c::l/\l=[84,82,1].drop (k+1):=by
    obtain rfl|rfl|rfl:k=0\/k=1\/k=2:=by omega
    all_goals exact⟨_,_,rfl,rfl,rfl⟩
   have HD:Hid _:=hd;have HC:Hid _:=hc;clear hd hc;cases hx:bN bs k c c with
   |error er=>
    have d8:Hid (fT bs [84,82,1] 0=.error er):=by show _=_;rw[HE.out,HD.out.1];simp[fT,hx]
    obtain rfl|rfl|rfl:k=0\/k=1\/k=2:=by omega
    all_goals
     go_wp2
     go_region_dies
     all_goals
      refine(ji nM.drew c c hx (by rw[HC.out];rfl) (by rw[HC.out];rfl)).mono ?_;rintro e w' ⟨rfl,aP⟩;go_wp2;exact⟨rfl,aB bU (bj aP),aK d8.out rfl⟩
   |ok t=>
    have d8:Hid (fT bs [84,82,1] 0=fT bs ([84,82,1].drop (k+1)) (k+1)):=by show _=_;rw[HE.out,HD.out.1,<-HD.out.2];simp only[fT,hx,aM]
    obtain rfl|rfl|rfl:k=0\/k=1\/k=2:=by omega
    all_goals
     go_wp2;go_region_with (go_at_call 105;refine(fz nM.drew c c hx (by rw[HC.out];rfl) (by rw[HC.out];rfl)).mono ?_;rintro e w' ⟨rfl,aP,lM⟩)
     all_goals
      go_wp2;go_roundw
      case rel=>first|exact⟨1,rfl,by omega,aB bU (bj aP),lM,d8⟩|exact⟨2,rfl,by omega,aB bU (bj aP),lM,d8⟩|exact⟨3,rfl,by omega,aB bU (bj aP),lM,d8⟩
      case measure=>simp[intOf]
  obtain rfl:k=3:=by omega
  go_wp2;go_end0;exact⟨bU,aY HE.out ⟨rfl,nM⟩⟩
