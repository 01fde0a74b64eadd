import Derived.Test.YtemcneddbhgadaaGreatDoorUpzz
import Derived.Test.YtemcneddbhgadaaGreatDoorFmzz
import Derived.Deep.RegionHeld3
import Derived.Test.YtemcneddbhgadaaGreatDoorYrzz
namespace Go.Proofs.YtemcneddbhgadaaGreatDoor
open Go.RowKit
set_option maxRecDepth 100000 in
set_option maxHeartbeats 400000 in
theorem qwh (w:World) (a:Option Addr) (b off c:Nat) (s:List Nat) (leaf:Bool) (hv:Vw w a b off s) (hp:¬IsP s) :
 Calls Tryz.prog 150 #[.slice a s.length c,.bool leaf] w fun e w'=>e=.returned (.tuple #[.slice none 0 0,.int .i64 60])∧w'=w:=by
 have K:=qc9 w a b off c s hv
 rw [decide_eq_false hp] at K
 have HK:Hid (Calls Tryz.prog 157 #[.slice a s.length c] w fun e w'=>e=.returned (.bool false)∧w'=w):=K
 have hn:=hv.len
 clear K hv hp
 generalize s.length=n at *
 go_enter Tryz.func150,Tryz.ntmps150
 go_wp2_with fail
 refine HK.out.mono ?_
 rintro e w1 ⟨rfl,rfl⟩
 go_wp2_with fail
 go_ret2
 exact ⟨rfl,rfl⟩
theorem qtc (w:World) (a:Option Addr) (b off c:Nat) (s:List Nat) (leaf:Bool) (hv:Vw w a b off s) (hc:s.length≤c) :
 Calls Tryz.prog 150 #[.slice a s.length c,.bool leaf] w fun e w'=>∃v,e=.returned (.tuple #[v,.int .i64 ((pkE s:Nat):Int)])∧Ans w w' v (pkR leaf s):=by
 by_cases hp:IsP s
 ·have e1:pkE s=0:=if_pos hp
  have e2:pkR leaf s=pkL leaf s:=if_pos hp
  rw [e1,e2]
  by_cases ho:s.length % 2=0
  ·cases leaf
   ·exact qwd w a b off c s hv hp ho
   ·exact qwe w a b off c s hv hp ho
  ·have ho1:s.length % 2=1:=by omega
   cases leaf
   ·exact qwf w a b off c s hv hc hp ho1
   ·exact qwg w a b off c s hv hc hp ho1
 ·have e1:pkE s=60:=if_neg hp
  have e2:pkR leaf s=[]:=if_neg hp
  rw [e1,e2]
  refine (qwh w a b off c s leaf hv hp).mono ?_
  rintro e w' ⟨rfl,rfl⟩
  exact ⟨_,rfl,qo1 (Below.refl _ _)⟩
open Go.RowKit
set_option maxRecDepth 100000 in
set_option maxHeartbeats 1600000 in
theorem qtj (w:World) (a:Option Addr) (b off c:Nat) (s:List Nat) (hv:Vw w a b off s) (hc:s.length≤c) (hp:IsF s) (ho:od s=0) :
 Calls Tryz.prog 146 #[.slice a s.length c] w fun e w'=>∃v,e=.returned (.tuple #[v,.bool (lf s),.int .i64 0])∧Ans w w' v (upL s):=by
 have K:=qga w a b off c s hv
 rw [decide_eq_true hp] at K
 have K2:=qjc w a b off c s hv hp.1
 have HB:Hid (∀i,gd s i<256):=fun i=>gd_lt (vw_ok hv).2 i
 have HI:Hid (∀x∈s,x<256):=(vw_ok hv).2
 have hz:gd s 0<256:=HB.out 0
 have h64:=hp.2.1
 have hl:plen s≤64:=hp.2.2.2
 have h0:=hp.1
 have ep:plen s=2*(s.length - 1)+0:=by unfold plen;rw [ho]
 have HV:Hid (Vw w a b off s):=hv
 obtain rfl:=hv.at_ h0
 have c0:w.cell? ⟨b,off,none⟩=some (.int .u8 ((gd s 0:Nat):Int)):=hv.cell 0 h0
 have hlt:=hv.lt h0
 have HLF:Hid (lf s=decide (32≤gd s 0)):=rfl
 have m16:=a16 (gd s 0) hz
 have eo:gd s 0 / 16 % 2=0:=ho
 rw [eo] at m16
 replace m16:bits .and .u8 ((gd s 0:Nat):Int) 16=0:=m16
 have m32:=a32 (gd s 0) hz
 have HM:Hid (bits .and .u8 ((gd s 0:Nat):Int) 32=((32*(gd s 0 / 32 % 2):Nat):Int)):=m32
 skip
 obtain ⟨p,hpe⟩:∃p,p=plen s:=⟨_,rfl⟩
 have HU:Hid (od s=0∧p=plen s):=⟨ho,hpe⟩
 rw [←hpe] at hl K2 ep
 have l1:p≤2*(s.length - 1)+0:=by omega
 have l2:2*(s.length - 1)+0≤p:=by omega
 obtain ⟨n,en⟩:∃n,n=s.length:=⟨_,rfl⟩
 obtain ⟨x,hx⟩:∃x,x=gd s 0:=⟨_,rfl⟩
 have HE:Hid (n=s.length):=en
 rw [←hx] at hz h64 c0 HLF m16 HM
 rw [←en] at h0 l1 l2 K K2 hc ⊢
 have HW:Hid (View w (behind (some (⟨b,off,none⟩:Addr)) c 1) b (off+1) (n - 1) (fun i=>((gd s (1+i):Nat):Int))):=by
  refine ⟨fun h=>?_,fun i hi=>?_,fun i hi=>?_,by omega⟩
  ·unfold behind
   rw [if_neg (by omega)]
   rfl
  ·have:=HV.out.cell (1+i) (by have:=HE.out;omega)
   rw [Nat.add_assoc]
   exact this
  ·have:=HB.out (1+i)
   omega
 obtain ⟨a',ha'⟩:∃a',a'=behind (some (⟨b,off,none⟩:Addr)) c 1:=⟨_,rfl⟩
 have j1:∀u,(Instr.slice 33 (.slice (some ⟨b,off,none⟩) n c) (some (.int .i64 1)) none none).run Tryz.prog u=.ok (.slice a' (n - 1) (c - 1)) u:=fun u=>by rw [ha'];exact qbf _ n c 1 (by omega) u
 rw [←ha'] at HW
 clear hv hp ho en hx m32 eo ha' ep hpe
 have hmk:=run_make_row' (P:=Tryz.prog) 33 5 (.int .u8 0) 1 Tryz.underlying33 Tryz.info5 rfl .i64 .i64 p (by omega) (by omega)
 have d0:(w.alloc (.cells (madeCells #[.int .u8 0] p) 5)).cell? ⟨b,off,none⟩=some (.int .u8 (x:Int)):=(World.cell?_alloc_old _ _ _ (by show b≠w.heap.size;omega)).trans c0
 have HK:Hid (Calls Tryz.prog 153 #[.slice (some ⟨b,off,none⟩) n c] w fun e w'=>e=.returned (.bool true)∧w'=w):=K
 have HK2:Hid (Calls Tryz.prog 154 #[.slice (some ⟨b,off,none⟩) n c] w fun e w'=>e=.returned (.int .i64 ((p:Nat):Int))∧w'=w):=K2
 have i1:(0:Int)<(n:Int):=by omega
 have i1b:0<n:=by omega
 clear K K2
 go_enter Tryz.func146,Tryz.ntmps146
 go_wp2_with fail
 refine HK.out.mono ?_
 rintro e w1 ⟨rfl,rfl⟩
 go_wp2_with fail
 refine HK2.out.mono ?_
 rintro e w2 ⟨rfl,rfl⟩
 go_wp2_with fail
 have HN:Hid (qae w2 (w2.alloc (.cells (madeCells #[.int .u8 0] p) 5)) p (upZ s 0)):=qti HU.out.1
 clear hmk d0
 go_loopg [31] (n - 1) (fun g i wr=>∃k:Nat,k≤n - 1∧g=n - 1 - k∧i=.int .i64 k∧qae w2 wr p (upZ s k))
 case atStart=>exact ⟨0,Nat.zero_le _,rfl,rfl,HN.out⟩
 case round =>
  obtain ⟨k,hk,rfl,rfl,hR⟩:=hrel
  have HR:Hid (qae w2 wr p (upZ s k)):=hR
  clear HN
  by_cases hkn:k<n - 1
  ·obtain rfl:=HW.out.at_ (by omega)
   skip
   have d1:wr.cell? ⟨b,off+1+k,none⟩=some (.int .u8 ((gd s (1+k):Nat):Int)):=(hR.below.cell (p:=⟨b,off+1+k,none⟩) hlt).trans (HW.out.cell k hkn)
   have z1:gd s (1+k)<256:=HB.out _
   have s1:=hR.row.cell (i:=2*k) (by omega)
   have f1:=hR.row.frozen (2*k)
   have s2:=hR.row.cell (i:=2*k+1) (by omega)
   have f2:=hR.row.frozen (2*k+1)
   have HY:Hid (∀y z:Int,y=((gd s (1+k):Nat):Int) / 16→z=((gd s (1+k):Nat):Int) % 16→qae w2 ((wr.setCell ⟨w2.heap.size,2*k,none⟩ (.int .u8 y)).setCell ⟨w2.heap.size,2*k+1,none⟩ (.int .u8 z)) p (upZ s (k+1))):=fun y z hy hz=>qmx hR HU.out.1 (by omega) (by omega) (by rw [hy];omega) (by rw [hz];omega)
   obtain ⟨y,hy⟩:∃y,y=gd s (1+k):=⟨_,rfl⟩
   rw [←hy] at d1 z1 HY
   obtain ⟨t1,ht1⟩:∃t,t=upZ s k (2*k):=⟨_,rfl⟩
   obtain ⟨t2,ht2⟩:∃t,t=upZ s k (2*k+1):=⟨_,rfl⟩
   rw [←ht1] at s1
   rw [←ht2] at s2
   clear hy ht1 ht2 hR
   have y0:(0:Int)≤(y:Int):=by omega
   have y1:(y:Int)≤255:=by omega
   have k1:(k:Int)<((n - 1:Nat):Int):=by omega
   have k2:2*(k:Int)<((p:Nat):Int):=by omega
   have k3:2*(k:Int)+1<((p:Nat):Int):=by omega
   go_wp2_with fail
   go_roundg (n - 1 - (k+1))
   case measure=>omega
   case rel=>exact ⟨k+1,by omega,rfl,by go_num,HY.out _ _ rfl rfl⟩
  ·have:k=n - 1:=by omega
   subst this
   have i5:¬((n - 1:Nat):Int)<((n - 1:Nat):Int):=by omega
   have d2:wr.cell? ⟨b,off,none⟩=some (.int .u8 (x:Int)):=(hR.below.cell (p:=⟨b,off,none⟩) hlt).trans c0
   have r:qae w2 wr p (upY s):=hR.congr (fun i hi=>by unfold upZ;rw [HU.out.1,if_pos (by omega)])
   have HN:Hid (qae w2 wr p (upY s)):=r
   clear r hR
   by_cases q:32≤x
   ·have m32:bits .and .u8 (x:Int) 32=32:=by rw [HM.out,show x / 32 % 2=1 by omega];rfl
    have el:lf s=true:=by rw [HLF.out];exact decide_eq_true q
    have HEL:Hid (lf s=true):=el
    clear el q
    go_wp2_with fail
    go_quiet (fail)
    go_wp2_with fail
    go_ret3
    refine ⟨_,by rw [HEL.out];rfl,?_⟩
    unfold upL
    rw [←HU.out.2]
    exact (HN.out.drewN _).ans (fun i _=>by have:=qgl HI.out (i+(2 - od s));unfold upY;omega) (by omega)
   ·have m32:bits .and .u8 (x:Int) 32=0:=by rw [HM.out,show x / 32 % 2=0 by omega];rfl
    have el:lf s=false:=by rw [HLF.out];exact decide_eq_false q
    have HEL:Hid (lf s=false):=el
    clear el q
    go_wp2_with fail
    go_quiet (fail)
    go_wp2_with fail
    go_ret3
    refine ⟨_,by rw [HEL.out];rfl,?_⟩
    unfold upL
    rw [←HU.out.2]
    exact (HN.out.drewN _).ans (fun i _=>by have:=qgl HI.out (i+(2 - od s));unfold upY;omega) (by omega)
open Go.RowKit
set_option maxRecDepth 100000 in
set_option maxHeartbeats 1600000 in
theorem qtk (w:World) (a:Option Addr) (b off c:Nat) (s:List Nat) (hv:Vw w a b off s) (hc:s.length≤c) (hp:IsF s) (ho:od s=1) :
 Calls Tryz.prog 146 #[.slice a s.length c] w fun e w'=>∃v,e=.returned (.tuple #[v,.bool (lf s),.int .i64 0])∧Ans w w' v (upL s):=by
 have K:=qga w a b off c s hv
 rw [decide_eq_true hp] at K
 have K2:=qjc w a b off c s hv hp.1
 have HB:Hid (∀i,gd s i<256):=fun i=>gd_lt (vw_ok hv).2 i
 have HI:Hid (∀x∈s,x<256):=(vw_ok hv).2
 have hz:gd s 0<256:=HB.out 0
 have h64:=hp.2.1
 have hl:plen s≤64:=hp.2.2.2
 have h0:=hp.1
 have ep:plen s=2*(s.length - 1)+1:=by unfold plen;rw [ho]
 have HV:Hid (Vw w a b off s):=hv
 obtain rfl:=hv.at_ h0
 have c0:w.cell? ⟨b,off,none⟩=some (.int .u8 ((gd s 0:Nat):Int)):=hv.cell 0 h0
 have hlt:=hv.lt h0
 have HLF:Hid (lf s=decide (32≤gd s 0)):=rfl
 have m16:=a16 (gd s 0) hz
 have eo:gd s 0 / 16 % 2=1:=ho
 rw [eo] at m16
 replace m16:bits .and .u8 ((gd s 0:Nat):Int) 16=16:=m16
 have m32:=a32 (gd s 0) hz
 have HM:Hid (bits .and .u8 ((gd s 0:Nat):Int) 32=((32*(gd s 0 / 32 % 2):Nat):Int)):=m32
 have HX0:Hid (∀y:Int,y=((gd s 0:Nat):Int) % 16→y=((upY s 0:Nat):Int)):=fun y hy=>by rw [hy,qth ho];omega
 obtain ⟨p,hpe⟩:∃p,p=plen s:=⟨_,rfl⟩
 have HU:Hid (od s=1∧p=plen s):=⟨ho,hpe⟩
 rw [←hpe] at hl K2 ep
 have l1:p≤2*(s.length - 1)+1:=by omega
 have l2:2*(s.length - 1)+1≤p:=by omega
 obtain ⟨n,en⟩:∃n,n=s.length:=⟨_,rfl⟩
 obtain ⟨x,hx⟩:∃x,x=gd s 0:=⟨_,rfl⟩
 have HE:Hid (n=s.length):=en
 rw [←hx] at hz h64 c0 HLF m16 HM HX0
 rw [←en] at h0 l1 l2 K K2 hc ⊢
 have HW:Hid (View w (behind (some (⟨b,off,none⟩:Addr)) c 1) b (off+1) (n - 1) (fun i=>((gd s (1+i):Nat):Int))):=by
  refine ⟨fun h=>?_,fun i hi=>?_,fun i hi=>?_,by omega⟩
  ·unfold behind
   rw [if_neg (by omega)]
   rfl
  ·have:=HV.out.cell (1+i) (by have:=HE.out;omega)
   rw [Nat.add_assoc]
   exact this
  ·have:=HB.out (1+i)
   omega
 obtain ⟨a',ha'⟩:∃a',a'=behind (some (⟨b,off,none⟩:Addr)) c 1:=⟨_,rfl⟩
 have j1:∀u,(Instr.slice 33 (.slice (some ⟨b,off,none⟩) n c) (some (.int .i64 1)) none none).run Tryz.prog u=.ok (.slice a' (n - 1) (c - 1)) u:=fun u=>by rw [ha'];exact qbf _ n c 1 (by omega) u
 rw [←ha'] at HW
 clear hv hp ho en hx m32 eo ha' ep hpe
 have hmk:=run_make_row' (P:=Tryz.prog) 33 5 (.int .u8 0) 1 Tryz.underlying33 Tryz.info5 rfl .i64 .i64 p (by omega) (by omega)
 obtain ⟨a2,ha2⟩:∃a2,a2=behind (some (⟨w.heap.size,0,none⟩:Addr)) p 1:=⟨_,rfl⟩
 have j2:∀u,(Instr.slice 33 (.slice (some ⟨w.heap.size,0,none⟩) p p) (some (.int .i64 1)) none none).run Tryz.prog u=.ok (.slice a2 (p - 1) (p - 1)) u:=fun u=>by rw [ha2];exact qbf _ p p 1 (by omega) u
 have HA2:Hid (1<n→a2=some ⟨w.heap.size,1,none⟩):=fun h=>by
  rw [ha2]
  unfold behind
  rw [if_neg (by omega)]
  rfl
 clear ha2
 have s0:(w.alloc (.cells (madeCells #[.int .u8 0] p) 5)).cell? ⟨w.heap.size,0,none⟩=some (.int .u8 0):=(qae.made w p).row.cell (i:=0) (by omega)
 have f0:(w.alloc (.cells (madeCells #[.int .u8 0] p) 5)).frozen? ⟨w.heap.size,0,none⟩=false:=(qae.made w p).row.frozen 0
 have d0:(w.alloc (.cells (madeCells #[.int .u8 0] p) 5)).cell? ⟨b,off,none⟩=some (.int .u8 (x:Int)):=(World.cell?_alloc_old _ _ _ (by show b≠w.heap.size;omega)).trans c0
 have HK:Hid (Calls Tryz.prog 153 #[.slice (some ⟨b,off,none⟩) n c] w fun e w'=>e=.returned (.bool true)∧w'=w):=K
 have HK2:Hid (Calls Tryz.prog 154 #[.slice (some ⟨b,off,none⟩) n c] w fun e w'=>e=.returned (.int .i64 ((p:Nat):Int))∧w'=w):=K2
 have i1:(0:Int)<(n:Int):=by omega
 have i1b:0<n:=by omega
 clear K K2
 go_enter Tryz.func146,Tryz.ntmps146
 go_wp2_with fail
 refine HK.out.mono ?_
 rintro e w1 ⟨rfl,rfl⟩
 go_wp2_with fail
 refine HK2.out.mono ?_
 rintro e w2 ⟨rfl,rfl⟩
 go_wp2_with fail
 have HN:Hid (qae w2 (w2.alloc (.cells ((madeCells #[.int .u8 0] p).setIfInBounds 0 (.int .u8 ((x:Int) % 16))) 5)) p (upZ s 0)):=qwk HU.out.1 (HX0.out _ rfl)
 clear hmk d0 s0 f0
 go_loopg [31] (n - 1) (fun g i wr=>∃k:Nat,k≤n - 1∧g=n - 1 - k∧i=.int .i64 k∧qae w2 wr p (upZ s k))
 case atStart=>exact ⟨0,Nat.zero_le _,rfl,rfl,HN.out⟩
 case round =>
  obtain ⟨k,hk,rfl,rfl,hR⟩:=hrel
  have HR:Hid (qae w2 wr p (upZ s k)):=hR
  clear HN
  by_cases hkn:k<n - 1
  ·obtain rfl:=HW.out.at_ (by omega)
   obtain rfl:=HA2.out (by omega)
   have d1:wr.cell? ⟨b,off+1+k,none⟩=some (.int .u8 ((gd s (1+k):Nat):Int)):=(hR.below.cell (p:=⟨b,off+1+k,none⟩) hlt).trans (HW.out.cell k hkn)
   have z1:gd s (1+k)<256:=HB.out _
   have s1:=hR.row.cell (i:=1+2*k) (by omega)
   have f1:=hR.row.frozen (1+2*k)
   have s2:=hR.row.cell (i:=1+(2*k+1)) (by omega)
   have f2:=hR.row.frozen (1+(2*k+1))
   have HY:Hid (∀y z:Int,y=((gd s (1+k):Nat):Int) / 16→z=((gd s (1+k):Nat):Int) % 16→qae w2 ((wr.setCell ⟨w2.heap.size,1+2*k,none⟩ (.int .u8 y)).setCell ⟨w2.heap.size,1+(2*k+1),none⟩ (.int .u8 z)) p (upZ s (k+1))):=fun y z hy hz=>qmx hR HU.out.1 (by omega) (by omega) (by rw [hy];omega) (by rw [hz];omega)
   obtain ⟨y,hy⟩:∃y,y=gd s (1+k):=⟨_,rfl⟩
   rw [←hy] at d1 z1 HY
   obtain ⟨t1,ht1⟩:∃t,t=upZ s k (1+2*k):=⟨_,rfl⟩
   obtain ⟨t2,ht2⟩:∃t,t=upZ s k (1+(2*k+1)):=⟨_,rfl⟩
   rw [←ht1] at s1
   rw [←ht2] at s2
   clear hy ht1 ht2 hR
   have y0:(0:Int)≤(y:Int):=by omega
   have y1:(y:Int)≤255:=by omega
   have k1:(k:Int)<((n - 1:Nat):Int):=by omega
   have k2:2*(k:Int)<((p - 1:Nat):Int):=by omega
   have k3:2*(k:Int)+1<((p - 1:Nat):Int):=by omega
   go_wp2_with fail
   go_roundg (n - 1 - (k+1))
   case measure=>omega
   case rel=>exact ⟨k+1,by omega,rfl,by go_num,HY.out _ _ rfl rfl⟩
  ·have:k=n - 1:=by omega
   subst this
   have i5:¬((n - 1:Nat):Int)<((n - 1:Nat):Int):=by omega
   have d2:wr.cell? ⟨b,off,none⟩=some (.int .u8 (x:Int)):=(hR.below.cell (p:=⟨b,off,none⟩) hlt).trans c0
   have r:qae w2 wr p (upY s):=hR.congr (fun i hi=>by unfold upZ;rw [HU.out.1,if_pos (by omega)])
   have HN:Hid (qae w2 wr p (upY s)):=r
   clear r hR
   by_cases q:32≤x
   ·have m32:bits .and .u8 (x:Int) 32=32:=by rw [HM.out,show x / 32 % 2=1 by omega];rfl
    have el:lf s=true:=by rw [HLF.out];exact decide_eq_true q
    have HEL:Hid (lf s=true):=el
    clear el q
    go_wp2_with fail
    go_quiet (fail)
    go_wp2_with fail
    go_ret3
    refine ⟨_,by rw [HEL.out];rfl,?_⟩
    unfold upL
    rw [←HU.out.2]
    exact (HN.out.drewN _).ans (fun i _=>by have:=qgl HI.out (i+(2 - od s));unfold upY;omega) (by omega)
   ·have m32:bits .and .u8 (x:Int) 32=0:=by rw [HM.out,show x / 32 % 2=0 by omega];rfl
    have el:lf s=false:=by rw [HLF.out];exact decide_eq_false q
    have HEL:Hid (lf s=false):=el
    clear el q
    go_wp2_with fail
    go_quiet (fail)
    go_wp2_with fail
    go_ret3
    refine ⟨_,by rw [HEL.out];rfl,?_⟩
    unfold upL
    rw [←HU.out.2]
    exact (HN.out.drewN _).ans (fun i _=>by have:=qgl HI.out (i+(2 - od s));unfold upY;omega) (by omega)
open Go.RowKit
set_option maxRecDepth 100000 in
set_option maxHeartbeats 400000 in
theorem qqt (w:World) (a:Option Addr) (b off c:Nat) (s:List Nat) (hv:Vw w a b off s) (hp:¬IsF s) :
 Calls Tryz.prog 146 #[.slice a s.length c] w fun e w'=>e=.returned (.tuple #[.slice none 0 0,.bool false,.int .i64 60])∧w'=w:=by
 have K:=qga w a b off c s hv
 rw [decide_eq_false hp] at K
 have HK:Hid (Calls Tryz.prog 153 #[.slice a s.length c] w fun e w'=>e=.returned (.bool false)∧w'=w):=K
 have hn:=hv.len
 clear K hv hp
 generalize s.length=n at *
 go_enter Tryz.func146,Tryz.ntmps146
 go_wp2_with fail
 refine HK.out.mono ?_
 rintro e w1 ⟨rfl,rfl⟩
 go_wp2_with fail
 go_ret3
 exact ⟨rfl,rfl⟩
theorem qn6 (w:World) (a:Option Addr) (b off c:Nat) (s:List Nat) (hv:Vw w a b off s) (hc:s.length≤c) :
 Calls Tryz.prog 146 #[.slice a s.length c] w fun e w'=>∃v,e=.returned (.tuple #[v,.bool (upI s),.int .i64 ((upE s:Nat):Int)])∧Ans w w' v (upR s):=by
 by_cases hp:IsF s
 ·have e1:upE s=0:=if_pos hp
  have e2:upR s=upL s:=if_pos hp
  have e3:upI s=lf s:=if_pos hp
  rw [e1,e2,e3]
  have:=qoz s
  by_cases ho:od s=0
  ·exact qtj w a b off c s hv hc hp ho
  ·exact qtk w a b off c s hv hc hp (by omega)
 ·have e1:upE s=60:=if_neg hp
  have e2:upR s=[]:=if_neg hp
  have e3:upI s=false:=if_neg hp
  rw [e1,e2,e3]
  refine (qqt w a b off c s hv hp).mono ?_
  rintro e w' ⟨rfl,rfl⟩
  exact ⟨_,rfl,qo1 (Below.refl _ _)⟩
open Go.RowKit
theorem qwq (x:Int) (h0:0≤x) (h1:x≤255):IntKind.u8.wrap (x.tdiv 16)=x / 16:=by
 rw [Int.tdiv_eq_ediv_of_nonneg h0]
 simp [IntKind.wrap,IntKind.signed,IntKind.bits]
 omega
theorem qwr (x:Int) (h0:0≤x) (_:x≤255):IntKind.u8.wrap (x.tmod 16)=x % 16:=by
 rw [Int.tmod_eq_emod_of_nonneg h0]
 simp [IntKind.wrap,IntKind.signed,IntKind.bits]
 omega
def nibJ (Z:Nat→Int) (i:Nat):Int:=if i % 2=0 then Z (i / 2) / 16 else Z (i / 2) % 16
set_option maxRecDepth 100000 in
set_option maxHeartbeats 1600000 in
theorem qko (w:World) (a:Option Addr) (b off n c:Nat) (Z:Nat→Int) (h:View w a b off n Z) (hn:n≤1048576) :
 Calls Tryz.prog 49 #[.slice a n c] w fun e w'=>∃v,e=.returned v∧w'.ownsRow w.heap.size 5 1 v (2*n) (vals (nibJ Z) (2*n))∧Below w.heap.size w w':=by
 obtain ⟨i0,hi0,hz0,hz1,hz2⟩:=info_parts Tryz.info5
 have HV:Hid (View w a b off n Z):=h
 clear h
 go_enter Tryz.func49,Tryz.ntmps49
 go_wp2
 go_loopg [3,4] n (fun g v i wr=>∃k:Nat,k≤n∧g=n - k∧i=.int .i64 k∧wr.ownsRow w.heap.size 5 1 v (2*k) (vals (nibJ Z) (2*k))∧Below w.heap.size w wr)
 case atStart=>exact ⟨0,Nat.zero_le _,rfl,rfl,World.ownsRow_nil _ _ _ _,Below.refl _ _⟩
 case round =>
  obtain ⟨k,hk,rfl,rfl,hown,hbel⟩:=hrel
  have hsz:=hbel.size
  by_cases hkn:k<n
  ·obtain rfl:=HV.out.at_ (by omega)
   have hlt:=HV.out.lt (by omega)
   have c1:wr.cell? ⟨b,off+k,none⟩=some (.int .u8 (Z k)):=(hbel.cell (p:=⟨b,off+k,none⟩) hlt).trans (HV.out.cell k hkn)
   obtain ⟨b1,b2⟩:=HV.out.bd k hkn
   have i1:(k:Int)<(n:Int):=by omega
   have i0':(0:Int)≤(k:Int):=by omega
   have q1:=qwq (Z k) b1 b2
   have q2:=qwr (Z k) b1 b2
   have q5:(Z k).tmod 16=Z k % 16:=Int.tmod_eq_emod_of_nonneg b1
   have e1:nibJ Z (2*k)=Z k / 16:=by unfold nibJ;rw [if_pos (by omega),show 2*k / 2=k by omega]
   have e2:nibJ Z (2*k+1)=Z k % 16:=by unfold nibJ;rw [if_neg (by omega),show (2*k+1) / 2=k by omega]
   have hv:=ql8 (nibJ Z) (2*k)
   rw [e1,e2] at hv
   have HVT:Hid (vals (nibJ Z) (2*k)++[.int .u8 (Z k / 16),.int .u8 (Z k % 16)]=vals (nibJ Z) (2*k+2)):=hv
   clear hv e1 e2
   have hne:∀v,wr.ownsRow w.heap.size 5 1 v (2*k) (vals (nibJ Z) (2*k))→v.ownBlock≠some b:=fun v ho e=>by have:=(ho.lt b e).1;omega
   have ag:=hne _ hown
   clear hne
   go_wp2
   go_region_held3 (fun w'=>w'.cell? ⟨b,off+k,none⟩=some (.int .u8 (Z k)))
    (first
     | go_keep
     | (rw [hgrow.cell_far _ (by simp;omega) (Ne.symm ag),World.cell?_drew,World.cell?_alloc_old _ _ _ (by show b≠wr.heap.size;omega)];exact c1))
    ((refine step_append_lies _ (by rfl) _ _ _ (by rfl) w.heap.size 5 i0 _ 1 1 Tryz.underlying33 hi0 hz0 hz1 hz2 rfl (by omega) _ (2*k) _ (by rfl) ((hown.alloc _).drew) ⟨wr.heap.size,0,none⟩ 2 2 [.int .u8 (Z k / 16),.int .u8 (Z k % 16)] (by rfl) (by rfl) (World.news_of_block (cs:=#[.int .u8 (Z k / 16),.int .u8 (Z k % 16)]) (t:=5) (fr:=(0,0)) (heap_alloc_new wr _)) (by simp [Value.oneCell']) (by omega) (by unfold maxLen;omega) (by omega) (by simp;omega) (wr.heap.size+1) (by simp) ?_;intro gg cap w1 hown1 hgrow hat hlt1))
   have hbel1:Below w.heap.size w w1:=((hbel.alloc hsz _).drew).grown hgrow (by simp;omega) (fun j hj=>(hown.lt j hj).1)
   rw [HVT.out] at hown1
   clear hgrow hat hlt1 hown
   go_wp2
   go_roundg (n - (k+1))
   case measure=>omega
   case rel=>exact ⟨k+1,by omega,rfl,by go_num,by rw [show 2*(k+1)=2*k+2 by omega];exact hown1,hbel1⟩
  ·have:k=n:=by omega
   subst this
   go_wp2
   go_ret
   exact ⟨_,rfl,hown,hbel⟩
theorem qto {w:World} {v:Value} {s:List Nat} (h:Vb w v s) (hn:s.length≤1048576) :
 Calls Tryz.prog 49 #[v] w fun e w'=>∃u,e=.returned u∧Ans w w' u (lst (2*s.length) (nib s)):=by
 obtain ⟨a,b,off,c,rfl,hv,hc,_⟩:=h
 refine (qko w a b off s.length c _ hv hn).mono ?_
 rintro e w' ⟨u,rfl,ho,hb⟩
 refine ⟨u,rfl,?_,fun x hx=>?_,by rw [lst_len];omega,hb⟩
 ·rw [lst_len,←vals_bv,lst_len]
  rw [vals_congr (Z:=fun i=>((gd (lst (2*s.length) (nib s)) i:Nat):Int)) (fun i hi=>?_)] at ho
  ·exact ho
  ·rw [lst_gd hi]
   show (if i % 2=0 then ((gd s (i / 2):Nat):Int) / 16 else ((gd s (i / 2):Nat):Int) % 16)=_
   unfold nib
   split <;> omega
 ·unfold lst at hx
  obtain ⟨i,-,rfl⟩:=List.mem_map.1 hx
  have:=qgl (vw_ok hv).2 i
  omega
open Go.RowKit
set_option maxHeartbeats 400000 in
theorem qod (w:World) (a a':Option Addr) (b off n c b' off' n' c':Nat) (Z Y:Nat→Int) (h:View w a b off n Z) (h':View w a' b' off' n' Y) :
 Calls Tryz.prog 80 #[.slice a n c,.slice a' n' c'] w fun e w'=>e=.returned (.int .i64 (com Z Y (min n n')))∧∃q,w'=w.drewN q:=by
 have hn:=h.len
 have hn':=h'.len
 obtain ⟨M,hM⟩:∃M,M=min n n':=⟨_,rfl⟩
 rw [←hM]
 rcases Nat.lt_or_ge n' n with hlt | hlt
 ·obtain rfl:M=n':=by omega
  clear hM
  go_enter Tryz.func80,Tryz.ntmps80
  go_wp2
  go_loopg [13] M (fun g i wr=>∃k:Nat,k≤M∧g=M - k∧i=.int .i64 k∧(∀i,i<k→Z i=Y i)∧∃q,wr=w.drewN q)
  case atStart=>exact ⟨0,Nat.zero_le _,rfl,rfl,fun i hi=>absurd hi (by omega),0,rfl⟩
  case round =>
   obtain ⟨k,hk,rfl,rfl,hs,q,rfl⟩:=hrel
   have HS:Hid (∀i,i<k→Z i=Y i):=hs
   clear hs
   by_cases hkM:k<M
   ·obtain rfl:=h.at_ (by omega)
    obtain rfl:=h'.at_ (by omega)
    have c1:=h.cell k (by omega)
    have c2:=h'.cell k (by omega)
    have i1:(k:Int)<(n:Int):=by omega
    have i2:(k:Int)<(M:Int):=by omega
    clear h h'
    by_cases e:Z k=Y k
    ·have e':(Z k != Y k)=false:=by simpa using e
     have HE:Hid (Z k=Y k):=e
     clear e
     go_wp2
     go_quiet (fail)
     go_wp2
     go_roundg (M - (k+1))
     case measure=>omega
     case rel=>exact ⟨k+1,by omega,rfl,by go_num,fun i hi=>by by_cases ee:i=k;(subst ee;exact HE.out);exact HS.out i (by omega),_,rfl⟩
    ·have e':(Z k != Y k)=true:=by simpa using e
     go_wp2
     go_quiet (fail)
     go_wp2
     go_ret
     exact ⟨qis (by rw [ql7 Z Y M k hkM HS.out e]),_,World.drewN_drewN _ _ _⟩
   ·go_wp2
    go_ret
    have:k=M:=by omega
    subst this
    exact ⟨qis (by rw [qkw Z Y k HS.out]),_,rfl⟩
 ·obtain rfl:M=n:=by omega
  clear hM
  go_enter Tryz.func80,Tryz.ntmps80
  go_wp2
  go_loopg [13] M (fun g i wr=>∃k:Nat,k≤M∧g=M - k∧i=.int .i64 k∧(∀i,i<k→Z i=Y i)∧∃q,wr=w.drewN q)
  case atStart=>exact ⟨0,Nat.zero_le _,rfl,rfl,fun i hi=>absurd hi (by omega),0,rfl⟩
  case round =>
   obtain ⟨k,hk,rfl,rfl,hs,q,rfl⟩:=hrel
   have HS:Hid (∀i,i<k→Z i=Y i):=hs
   clear hs
   by_cases hkM:k<M
   ·obtain rfl:=h.at_ (by omega)
    obtain rfl:=h'.at_ (by omega)
    have c1:=h.cell k (by omega)
    have c2:=h'.cell k (by omega)
    have i1:(k:Int)<(n':Int):=by omega
    have i2:(k:Int)<(M:Int):=by omega
    clear h h'
    by_cases e:Z k=Y k
    ·have e':(Z k != Y k)=false:=by simpa using e
     have HE:Hid (Z k=Y k):=e
     clear e
     go_wp2
     go_quiet (fail)
     go_wp2
     go_roundg (M - (k+1))
     case measure=>omega
     case rel=>exact ⟨k+1,by omega,rfl,by go_num,fun i hi=>by by_cases ee:i=k;(subst ee;exact HE.out);exact HS.out i (by omega),_,rfl⟩
    ·have e':(Z k != Y k)=true:=by simpa using e
     go_wp2
     go_quiet (fail)
     go_wp2
     go_ret
     exact ⟨qis (by rw [ql7 Z Y M k hkM HS.out e]),_,World.drewN_drewN _ _ _⟩
   ·go_wp2
    go_ret
    have:k=M:=by omega
    subst this
    exact ⟨qis (by rw [qkw Z Y k HS.out]),_,rfl⟩
structure NewI (w w':World) (n:Nat) (Y:Nat→Int):Prop where
 row:w'.rowIs w.heap.size 5 n (fun i=>.int .u8 (Y i))
 below:Below w.heap.size w w'
 size:w'.heap.size=w.heap.size+1
theorem NewI.made (w:World) (n:Nat):NewI w (w.alloc (.cells (madeCells #[.int .u8 0] n) 5)) n (fun _=>0) :=
 ⟨World.rowIs_made w _ n 5,(Below.refl _ _).alloc (Nat.le_refl _) _,by simp⟩
theorem NewI.set {w w':World} {n:Nat} {Y:Nat→Int} (h:NewI w w' n Y) (i:Nat) (v:Int):NewI w (w'.setCell ⟨w.heap.size,i,none⟩ (.int .u8 v)) n (fun j=>if j=i then v else Y j) :=
 ⟨(h.row.set i _).congr (fun j _=>by split <;> rfl),h.below.setCell (Nat.le_refl _) _,by simp [h.size]⟩
theorem NewI.congr {w w':World} {n:Nat} {Y X:Nat→Int} (h:NewI w w' n Y) (e:∀i,i<n→Y i=X i):NewI w w' n X :=
 ⟨h.row.congr (fun i hi=>by rw [e i hi]),h.below,h.size⟩
theorem qtp {w wr:World} {N k:Nat} {Z:Nat→Int} (hR:NewI w wr N (fun i=>if i<2*k then nibJ Z i else 0)) (_:0≤Z k∧Z k≤255) :
 NewI w ((wr.setCell ⟨w.heap.size,2*k,none⟩ (.int .u8 (Z k / 16))).setCell ⟨w.heap.size,2*k+1,none⟩ (.int .u8 (Z k % 16))) N (fun i=>if i<2*(k+1) then nibJ Z i else 0):=by
 refine ((hR.set (2*k) (Z k / 16)).set (2*k+1) (Z k % 16)).congr (fun i _=>?_)
 by_cases e1:i=2*k+1
 ·subst e1
  rw [if_pos rfl,if_pos (by omega)]
  unfold nibJ
  rw [if_neg (by omega),show (2*k+1) / 2=k by omega]
 ·rw [if_neg e1]
  by_cases e2:i=2*k
  ·subst e2
   rw [if_pos rfl,if_pos (by omega)]
   unfold nibJ
   rw [if_pos (by omega),show (2*k) / 2=k by omega]
  ·rw [if_neg e2]
   by_cases e3:i<2*k
   ·rw [if_pos e3,if_pos (by omega)]
   ·rw [if_neg e3,if_neg (by omega)]
set_option maxHeartbeats 400000 in
theorem qlr (w:World) (a:Option Addr) (b off n c:Nat) (Z:Nat→Int) (h:View w a b off n Z) (hn:n≤140737488355328) :
 Calls Tryz.prog 54 #[.slice a n c] w fun e w'=>e=.returned (.slice (some ⟨w.heap.size,0,none⟩) (2*n) (2*n))∧NewI w w' (2*n) (nibJ Z):=by
 have hmk:=run_make_row' (P:=Tryz.prog) 33 5 (.int .u8 0) 1 Tryz.underlying33 Tryz.info5 rfl .i64 .i64 (2*n) (by omega) (by omega)
 rw [show ((2*n:Nat):Int)=2*(n:Int) by omega] at hmk
 go_enter Tryz.func54,Tryz.ntmps54
 go_wp2
 clear hmk
 go_loopg [12] n (fun g i wr=>∃k:Nat,k≤n∧g=n - k∧i=.int .i64 k∧NewI w wr (2*n) (fun i=>if i<2*k then nibJ Z i else 0))
 case atStart=>exact ⟨0,Nat.zero_le _,rfl,rfl,(NewI.made w _).congr (fun i _=>by simp)⟩
 case round =>
  obtain ⟨k,hk,rfl,rfl,hR⟩:=hrel
  by_cases hkn:k<n
  ·obtain rfl:=h.at_ (by omega)
   have hb:=h.lt (by omega)
   have c1:wr.cell? ⟨b,off+k,none⟩=some (.int .u8 (Z k)):=(hR.below.cell (p:=⟨b,off+k,none⟩) hb).trans (h.cell k hkn)
   have bd:=h.bd k hkn
   have s1:=hR.row.cell (i:=2*k) (by omega)
   have s2:=hR.row.cell (i:=2*k+1) (by omega)
   have f1:=hR.row.frozen (2*k)
   have f2:=hR.row.frozen (2*k+1)
   have R:=qtp hR bd
   go_wp2
   go_roundg (n - (k+1))
   case measure=>omega
   case rel=>exact ⟨k+1,by omega,rfl,by go_num,R⟩
  ·have:k=n:=by omega
   subst this
   go_wp2
   go_ret
   exact ⟨rfl,hR.congr (fun i hi=>by rw [if_pos hi])⟩
theorem qm2 {w:World} {v:Value} {s:List Nat} (h:Vb w v s) (hn:s.length≤1048576) :
 Calls Tryz.prog 54 #[v] w fun e w'=>∃u,e=.returned u∧Ans w w' u (lst (2*s.length) (nib s)):=by
 obtain ⟨a,b,off,c,rfl,hv,hc,_⟩:=h
 refine (qlr w a b off s.length c _ hv (by omega)).mono ?_
 rintro e w' ⟨rfl,hR⟩
 refine ⟨_,rfl,?_⟩
 refine qae.ans (w:=w) (w':=w') (n:=2*s.length) (Y:=nib s) ⟨hR.row.congr (fun i hi=>?_),hR.below,hR.size⟩ (fun i _=>by have:=qgl (vw_ok hv).2 i;omega) (by omega)
 show Value.int .u8 (if i % 2=0 then ((gd s (i / 2):Nat):Int) / 16 else ((gd s (i / 2):Nat):Int) % 16)=.int .u8 ((nib s i:Nat):Int)
 unfold nib
 congr 1
 split <;> omega
end Go.Proofs.YtemcneddbhgadaaGreatDoor
