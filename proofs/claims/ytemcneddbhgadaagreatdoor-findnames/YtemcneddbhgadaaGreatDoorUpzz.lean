import Derived.Test.YtemcneddbhgadaaGreatDoorYrzz
import Derived.Laws.BitsAllLaws
import Derived.Test.YtemcneddbhgadaaGreatDoorFmzz
namespace Go.Proofs.YtemcneddbhgadaaGreatDoor
open Go.RowKit
def mks:List Nat:=[77,78,79]
theorem qoy (w:World):View (w.alloc (.cells #[.int .u8 77,.int .u8 78,.int .u8 79] 5)) (some ⟨w.heap.size,0,none⟩) w.heap.size 0 3 (fun i=>((gd mks i:Nat):Int)):=by
 refine ⟨fun _=>rfl,fun i hi=>?_,fun i _=>?_,by omega⟩
 ·rw [cell_of_row _ _ _ _ 5 _ (heap_alloc_new w _)]
  match i,hi with
  | 0,_=>rfl
  | 1,_=>rfl
  | 2,_=>rfl
 ·have:=gd_lt (s:=mks) (by decide) i
  omega
set_option maxRecDepth 100000 in
set_option maxHeartbeats 1600000 in
theorem qnl (w:World) (a:Option Addr) (b off c:Nat) (t:List Nat) (hv:Vw w a b off t) (hnil:a=none→c=0) (hn:t.length≤140737488351232) :
  Calls Tryz.prog 22 #[.slice a t.length c] w fun e w' => ∃ g cap, e = .returned (.slice (some ⟨g, 0, none⟩) t.length cap) ∧
      Str w' (fun i=>i=g) (.slice (some ⟨g,0,none⟩) (t++mks).length cap) (t++mks)∧w.heap.size≤g∧Below w.heap.size w w':=by
  have own0:=World.ownsRow_lit (base:=w.heap.size) (e:=5) (size:=1) w #[] 0 (Nat.le_refl _) (by decide) rfl
  have v0:Vw (w.alloc (.cells #[] 5)) a b off t:=hv.below ((Below.refl _ _).alloc (Nat.le_refl _) _)
  have HV0:Hid (Vw (w.alloc (.cells #[] 5)) a b off t):=v0
  have HK:Hid (Bs t):=vw_ok hv
  clear hv v0
  go_enter Tryz.func22,Tryz.ntmps22
  go_wp2_with (refine wpList_append_bytes (by rfl) (.tmp 3) (.tmp 4) (by rfl) w.heap.size _ 0 [] (by rfl) own0 a b off t.length c _ (by rfl) HV0.out hnil (by omega) (by simp) ?_)
  intro v1 w1 own1 gr1 nn1
  have b1:Below w.heap.size w w1:=((Below.refl _ _).alloc (Nat.le_refl _) _).trans (grown_below gr1 own0 (Nat.le_refl _) (by simp))
  replace own1:w1.ownsRow w.heap.size 5 1 v1 t.length (bv t):=by rw [←vals_bv t];simpa using own1
  clear own0 gr1 nn1 HV0
  have s1:=b1.size
  go_wp2_with (refine wpList_append_bytes (by rfl) (.tmp 5) (.tmp 6) (by rfl) w.heap.size _ t.length _ (by rfl) (own1.alloc _) (some ⟨w1.heap.size,0,none⟩) w1.heap.size 0 3 3 _ (by rfl) (qoy w1) (fun h=>by cases h) (by omega) (by simp;omega) ?_)
  intro v2 w2 own2 gr2 nn2
  have b2:Below w.heap.size w w2:=(b1.alloc s1 _).trans (grown_below gr2 (own1.alloc _) (Nat.le_refl _) (by simp;omega))
  have em:vals (fun i=>((gd mks i:Nat):Int)) 3=bv mks:=vals_bv mks
  rw [em,←ql9] at own2
  clear own1 gr2 nn2 b1 s1 em
  obtain ⟨g,cap,rfl,hB,hg⟩:=own2.form (by omega)
  have hcap:=(qow own2).2.1
  have j1:=qei (some ⟨g,0,none⟩) (t.length+3) cap t.length (by omega)
  have j2:=qjs (some ⟨g,0,none⟩) (t.length+3) cap t.length (by omega)
  have HO:Hid (w2.ownsRow w.heap.size 5 1 (.slice (some ⟨g,0,none⟩) (t.length+3) cap) (t.length+3) (bv (t++mks))∧Below w.heap.size w w2∧w.heap.size≤g):=⟨own2,b2,hB⟩
  clear own2 b2 hB
  go_wp2_with fail
  go_ret
  have el:(t++mks).length=t.length+3:=by simp [mks]
  refine ⟨g,cap,rfl,⟨by rw [el];exact own_base HO.out.1,fun g' hg'=>(Option.some.inj hg').symm,⟨by rw [el];omega,fun x hx=>?_⟩⟩,HO.out.2.2,HO.out.2.1⟩
  rcases List.mem_append.1 hx with hx | hx
  · exact HK.out.2 x hx
  · have:∀y∈mks,y<256:=by decide
    exact this x hx
open Go.RowKit
set_option maxRecDepth 100000 in
set_option maxHeartbeats 800000 in
theorem qc9 (w:World) (a:Option Addr) (b off c:Nat) (s:List Nat) (hv:Vw w a b off s) :
 Calls Tryz.prog 157 #[.slice a s.length c] w fun e w'=>e=.returned (.bool (decide (IsP s)))∧w'=w:=by
 have hn:=hv.len
 by_cases hl:64<s.length
 ·have e0:decide (IsP s)=false:=decide_eq_false (fun h=>by have:=h.1;omega)
  rw [e0]
  generalize s.length=n at *
  go_enter Tryz.func157,Tryz.ntmps157
  go_wp2_with fail
  go_ret
  exact ⟨rfl,rfl⟩
 ·have HV:Hid (Vw w a b off s):=hv
  obtain ⟨n,en⟩:∃n,n=s.length:=⟨_,rfl⟩
  have HE:Hid (n=s.length):=en
  rw [←en] at hn hl ⊢
  clear hv en
  go_enter Tryz.func157,Tryz.ntmps157
  go_wp2_with fail
  go_loopg [10] n (fun g i wr=>∃k:Nat,k≤n∧g=n - k∧i=.int .i64 k∧(∀i,i<k→gd s i≤15)∧wr=w)
  case atStart=>exact ⟨0,Nat.zero_le _,rfl,rfl,fun i hi=>absurd hi (by omega),rfl⟩
  case round =>
   obtain ⟨k,hk,rfl,rfl,hs,rfl⟩:=hrel
   have HS:Hid (∀i,i<k→gd s i≤15):=hs
   clear hs
   by_cases hkn:k<n
   ·have ek:k<s.length:=by rw [←HE.out];exact hkn
    obtain rfl:=HV.out.at_ (by omega)
    have c1:=HV.out.cell k ek
    have i1:(k:Int)<(n:Int):=by omega
    by_cases q:15<gd s k
    ·have HQ:Hid (15<gd s k):=q
     have q':(15:Int)<((gd s k:Nat):Int):=by omega
     generalize gd s k=z at c1 q q'
     clear ek
     go_wp2_with fail
     go_ret
     have e0:decide (IsP s)=false:=decide_eq_false (fun h=>by have:=h.2 k (by have:=HE.out;omega);have:=HQ.out;omega)
     exact ⟨by rw [e0];rfl,rfl⟩
    ·have HQ:Hid (gd s k≤15):=by show gd s k≤15;omega
     have q':¬(15:Int)<((gd s k:Nat):Int):=by omega
     generalize gd s k=z at c1 q q'
     clear ek
     go_wp2_with fail
     go_roundg (n - (k+1))
     case measure=>omega
     case rel=>exact ⟨k+1,by omega,rfl,by go_num,fun i hi=>by by_cases ee:i=k;(subst ee;exact HQ.out);exact HS.out i (by omega),rfl⟩
   ·have:k=n:=by omega
    subst this
    go_wp2_with fail
    go_ret
    have e0:decide (IsP s)=true:=decide_eq_true ⟨by have:=HE.out;omega,fun i hi=>HS.out i (by have:=HE.out;omega)⟩
    exact ⟨by rw [e0];rfl,rfl⟩
theorem qb0 (x:Int) (h0:0≤x) (h1:x≤255):IntKind.u8.wrap x=x:=by simp [IntKind.wrap,IntKind.bits,IntKind.signed];omega
def pkZ (leaf:Bool) (s:List Nat) (k i:Nat):Nat:=if i<1+k then pkY leaf s i else 0
theorem qgw {w wr:World} {N k:Nat} {leaf:Bool} {s:List Nat} (h:qae w wr N (pkZ leaf s k)) {x:Int} (hx:x=((pkY leaf s (1+k):Nat):Int)):qae w (wr.setCell ⟨w.heap.size,1+k,none⟩ (.int .u8 x)) N (pkZ leaf s (k+1)):=by
 subst hx
 refine (h.set (1+k) _).congr (fun i _=>?_)
 unfold pkZ
 by_cases e:i=1+k
 ·subst e
  rw [if_pos rfl,if_pos (by omega)]
 ·rw [if_neg e]
  by_cases q:i<1+k
  ·rw [if_pos q,if_pos (by omega)]
  ·rw [if_neg q,if_neg (by omega)]
theorem qfq {w wr:World} {N:Nat} {leaf:Bool} {s:List Nat} {Y:Nat→Nat} (h:qae w wr N Y) (h0:Y 0=pkY leaf s 0) (h1:∀i,0<i→Y i=0):qae w wr N (pkZ leaf s 0):=h.congr (fun i _=>by
 unfold pkZ
 by_cases e:i=0
 ·subst e;rw [if_pos (by omega)];exact h0
 ·rw [if_neg (by omega)];exact h1 i (by omega))
theorem qkd (w:World) (N:Nat):qae w (w.alloc (.cells ((madeCells #[.int .u8 0] N).setIfInBounds 0 (.int .u8 32)) 5)) N (fun j=>if j=0 then 32 else 0):=by
 have e:(w.alloc (.cells (madeCells #[.int .u8 0] N) 5)).setCell ⟨w.heap.size,0,none⟩ (.int .u8 32)=w.alloc (.cells ((madeCells #[.int .u8 0] N).setIfInBounds 0 (.int .u8 32)) 5):=World.setCell_alloc_new _ _ _ _
 rw [←e]
 exact (qae.made w N).set 0 32
open Go.RowKit
set_option maxRecDepth 100000 in
set_option maxHeartbeats 1600000 in
theorem qwd (w:World) (a:Option Addr) (b off c:Nat) (s:List Nat) (hv:Vw w a b off s) (hp:IsP s) (ho:s.length % 2=0) :
 Calls Tryz.prog 150 #[.slice a s.length c,.bool false] w fun e w'=>∃v,e=.returned (.tuple #[v,.int .i64 0])∧Ans w w' v (pkL false s):=by
 have K:=qc9 w a b off c s hv
 rw [decide_eq_true hp] at K
 have HB:Hid (∀i,gd s i≤15):=fun i=>by
  by_cases q:i<s.length
  ·exact hp.2 i q
  ·rw [qg3 (by omega)];decide
 have hl:=hp.1
 have HO:Hid (s.length % 2=0):=ho
 have HV:Hid (View w a b off s.length (fun i=>((gd s (0+i):Nat):Int))):=hv.congr (fun i _=>by rw [Nat.zero_add])
 have HP:Hid (IsP s∧pkL false s=lst (1+s.length / 2) (pkY false s)∧pkY false s 0=0):=⟨hp,rfl,by rw [qfd,if_pos ho];rfl⟩
 have e1:((s.length:Int) % 2 == 1)=false:=by simp;omega
 clear hv hp
 obtain ⟨n,en⟩:∃n,n=s.length:=⟨_,rfl⟩
 have HE:Hid (n=s.length):=en
 rw [←en] at hl HV K e1 ho ⊢
 clear en
 have hmk:=run_make_row' (P:=Tryz.prog) 33 5 (.int .u8 0) 1 Tryz.underlying33 Tryz.info5 rfl .i64 .i64 (1+n / 2) (by omega) (by omega)
 rw [show ((1+n / 2:Nat):Int)=1+(n:Int) / 2 by omega] at hmk
 have HW:Hid (View w a b off n (fun i=>((gd s (0+i):Nat):Int))):=HV.out
 have HK:Hid (Calls Tryz.prog 157 #[.slice a n c] w fun e w'=>e=.returned (.bool true)∧w'=w):=K
 clear K
 go_enter Tryz.func150,Tryz.ntmps150
 go_wp2_with fail
 refine HK.out.mono ?_
 rintro e w1 ⟨rfl,rfl⟩
 go_wp2_with fail
 clear hmk
 have NR:qae w1 (w1.alloc (.cells (madeCells #[.int .u8 0] (1+n / 2)) 5)) (1+n / 2) (fun _=>0):=qae.made w1 (1+n / 2)
 have HN:Hid (qae w1 (w1.alloc (.cells (madeCells #[.int .u8 0] (1+n / 2)) 5)) (1+n / 2) (pkZ false s 0)):=qfq NR HP.out.2.2.symm (fun _ _=>rfl)
 clear NR
 go_loopg [39] (n / 2) (fun g i wr=>∃k:Nat,k≤n / 2∧g=n / 2 - k∧i=.int .i64 k∧qae w1 wr (1+n / 2) (pkZ false s k))
 case atStart=>exact ⟨0,Nat.zero_le _,rfl,rfl,HN.out⟩
 case round =>
  obtain ⟨k,hk,rfl,rfl,hR⟩:=hrel
  have HR:Hid (qae w1 wr (1+n / 2) (pkZ false s k)):=hR
  clear HN
  by_cases hkn:k<n / 2
  ·have k1:2*k<n:=by omega
   have k2:2*k+1<n:=by omega
   obtain rfl:=HW.out.at_ (by omega)
   have hlt:=HW.out.lt (by omega)
   have c1:wr.cell? ⟨b,off+(2*k),none⟩=some (.int .u8 ((gd s (0+2*k):Nat):Int)):=(hR.below.cell (p:=⟨b,off+(2*k),none⟩) hlt).trans (HW.out.cell (2*k) k1)
   have c2:wr.cell? ⟨b,off+(2*k+1),none⟩=some (.int .u8 ((gd s (0+(2*k+1)):Nat):Int)):=(hR.below.cell (p:=⟨b,off+(2*k+1),none⟩) hlt).trans (HW.out.cell (2*k+1) k2)
   have z1:gd s (0+2*k)≤15:=HB.out _
   have z2:gd s (0+(2*k+1))≤15:=HB.out _
   have s1:=hR.row.cell (i:=1+k) (by omega)
   have f1:=hR.row.frozen (1+k)
   have HY:Hid (∀x:Int,x=16*((gd s (0+2*k):Nat):Int)+((gd s (0+(2*k+1)):Nat):Int)→x=((pkY false s (1+k):Nat):Int)):=fun x hx=>by
    rw [hx,qiu,HO.out]
    rw [show 0+(2*k+1)=0+2*k+1 by omega]
    omega
   obtain ⟨zz,hzz⟩:∃zz,zz=pkZ false s k (1+k):=⟨_,rfl⟩
   rw [←hzz] at s1
   clear hzz
   obtain ⟨x,hx⟩:∃x,x=gd s (0+2*k):=⟨_,rfl⟩
   obtain ⟨y,hy⟩:∃y,y=gd s (0+(2*k+1)):=⟨_,rfl⟩
   rw [←hx] at c1 z1 HY
   rw [←hy] at c2 z2 HY
   clear hx hy
   have q1:=qb0 (16*(x:Int)) (by omega) (by omega)
   have q2:=qb0 (16*(x:Int)+(y:Int)) (by omega) (by omega)
   have o1:(0:Int)≤2*(k:Int):=by omega
   have o2:(0:Int)≤2*(k:Int)+1:=by omega
   have o3:IntKind.i64.wrap (2*(k:Int))=2*(k:Int):=by rw [IntKind.wrap_i64];omega
   have o3b:IntKind.i64.wrap (2*(k:Int)+1)=2*(k:Int)+1:=by rw [IntKind.wrap_i64];omega
   have o3c:IntKind.i64.wrap (1+(k:Int))=1+(k:Int):=by rw [IntKind.wrap_i64];omega
   have o4:(2*(k:Int)).toNat=2*k:=by omega
   have o5:(2*(k:Int)+1).toNat=2*k+1:=by omega
   have o6:(1+(k:Int)).toNat=1+k:=by omega
   have i1:2*(k:Int)<((n:Nat):Int):=by omega
   have i2:2*(k:Int)+1<((n:Nat):Int):=by omega
   have i3:1+(k:Int)<((1+n / 2:Nat):Int):=by omega
   have i4:(0:Int)≤1+(k:Int):=by omega
   have i5:(k:Int)<((n:Nat):Int) / 2:=by omega
   have i6:(k:Int)<(n:Int) / 2:=by omega
   have hbn:b≠w1.heap.size:=by omega
   clear hR hlt k1 k2
   go_wp2_with fail
   go_region_held3 (fun w'=>w'.cell? ⟨b,off+(2*k),none⟩=some (.int .u8 (x:Int))∧w'.cell? ⟨b,off+(2*k+1),none⟩=some (.int .u8 (y:Int))) (first | (refine ⟨?_,?_⟩ <;> (rw [World.cell?_drew,World.cell?_setCell_other _ _ _ _ (fun h=>hbn (congrArg Addr.block h).symm)];assumption)) | go_keep) (fail)
   have R:=qgw HR.out (HY.out _ rfl)
   go_wp2_with fail
   go_roundg (n / 2 - (k+1))
   case measure=>omega
   case rel=>exact ⟨k+1,by omega,rfl,by go_num,R.drew⟩
  ·have:k=n / 2:=by omega
   subst this
   have i5:¬((n / 2:Nat):Int)<((n:Nat):Int) / 2:=by omega
   go_wp2_with fail
   go_ret2
   have r:qae w1 wr (1+n / 2) (pkY false s):=HR.out.congr (fun i hi=>by unfold pkZ;rw [if_pos hi])
   refine ⟨_,rfl,?_⟩
   rw [HP.out.2.1,←HE.out]
   exact r.ans (fun i _=>qjx false HP.out.1.2 i) (by omega)
set_option maxRecDepth 100000 in
set_option maxHeartbeats 1600000 in
theorem qwe (w:World) (a:Option Addr) (b off c:Nat) (s:List Nat) (hv:Vw w a b off s) (hp:IsP s) (ho:s.length % 2=0) :
 Calls Tryz.prog 150 #[.slice a s.length c,.bool true] w fun e w'=>∃v,e=.returned (.tuple #[v,.int .i64 0])∧Ans w w' v (pkL true s):=by
 have K:=qc9 w a b off c s hv
 rw [decide_eq_true hp] at K
 have HB:Hid (∀i,gd s i≤15):=fun i=>by
  by_cases q:i<s.length
  ·exact hp.2 i q
  ·rw [qg3 (by omega)];decide
 have hl:=hp.1
 have HO:Hid (s.length % 2=0):=ho
 have HV:Hid (View w a b off s.length (fun i=>((gd s (0+i):Nat):Int))):=hv.congr (fun i _=>by rw [Nat.zero_add])
 have HP:Hid (IsP s∧pkL true s=lst (1+s.length / 2) (pkY true s)∧pkY true s 0=32):=⟨hp,rfl,by rw [qfd,if_pos ho];rfl⟩
 have e1:((s.length:Int) % 2 == 1)=false:=by simp;omega
 clear hv hp
 obtain ⟨n,en⟩:∃n,n=s.length:=⟨_,rfl⟩
 have HE:Hid (n=s.length):=en
 rw [←en] at hl HV K e1 ho ⊢
 clear en
 have hmk:=run_make_row' (P:=Tryz.prog) 33 5 (.int .u8 0) 1 Tryz.underlying33 Tryz.info5 rfl .i64 .i64 (1+n / 2) (by omega) (by omega)
 rw [show ((1+n / 2:Nat):Int)=1+(n:Int) / 2 by omega] at hmk
 have s0:(w.alloc (.cells (madeCells #[.int .u8 0] (1+n / 2)) 5)).cell? ⟨w.heap.size,0,none⟩=some (.int .u8 0):=(qae.made w (1+n / 2)).row.cell (i:=0) (by omega)
 have f0:(w.alloc (.cells (madeCells #[.int .u8 0] (1+n / 2)) 5)).frozen? ⟨w.heap.size,0,none⟩=false:=(qae.made w (1+n / 2)).row.frozen 0
 have HW:Hid (View w a b off n (fun i=>((gd s (0+i):Nat):Int))):=HV.out
 have HK:Hid (Calls Tryz.prog 157 #[.slice a n c] w fun e w'=>e=.returned (.bool true)∧w'=w):=K
 clear K
 go_enter Tryz.func150,Tryz.ntmps150
 go_wp2_with fail
 refine HK.out.mono ?_
 rintro e w1 ⟨rfl,rfl⟩
 go_wp2_with fail
 clear hmk
 have NR:qae w1 (w1.alloc (.cells ((madeCells #[.int .u8 0] (1+n / 2)).setIfInBounds 0 (.int .u8 32)) 5)) (1+n / 2) (fun j=>if j=0 then 32 else 0):=qkd w1 (1+n / 2)
 have HN:Hid (qae w1 (w1.alloc (.cells ((madeCells #[.int .u8 0] (1+n / 2)).setIfInBounds 0 (.int .u8 32)) 5)) (1+n / 2) (pkZ true s 0)):=qfq NR HP.out.2.2.symm (fun i hi=>by show (if i=0 then 32 else 0)=0;rw [if_neg (by omega)])
 clear NR
 go_loopg [39] (n / 2) (fun g i wr=>∃k:Nat,k≤n / 2∧g=n / 2 - k∧i=.int .i64 k∧qae w1 wr (1+n / 2) (pkZ true s k))
 case atStart=>exact ⟨0,Nat.zero_le _,rfl,rfl,HN.out⟩
 case round =>
  obtain ⟨k,hk,rfl,rfl,hR⟩:=hrel
  have HR:Hid (qae w1 wr (1+n / 2) (pkZ true s k)):=hR
  clear HN
  by_cases hkn:k<n / 2
  ·have k1:2*k<n:=by omega
   have k2:2*k+1<n:=by omega
   obtain rfl:=HW.out.at_ (by omega)
   have hlt:=HW.out.lt (by omega)
   have c1:wr.cell? ⟨b,off+(2*k),none⟩=some (.int .u8 ((gd s (0+2*k):Nat):Int)):=(hR.below.cell (p:=⟨b,off+(2*k),none⟩) hlt).trans (HW.out.cell (2*k) k1)
   have c2:wr.cell? ⟨b,off+(2*k+1),none⟩=some (.int .u8 ((gd s (0+(2*k+1)):Nat):Int)):=(hR.below.cell (p:=⟨b,off+(2*k+1),none⟩) hlt).trans (HW.out.cell (2*k+1) k2)
   have z1:gd s (0+2*k)≤15:=HB.out _
   have z2:gd s (0+(2*k+1))≤15:=HB.out _
   have s1:=hR.row.cell (i:=1+k) (by omega)
   have f1:=hR.row.frozen (1+k)
   have HY:Hid (∀x:Int,x=16*((gd s (0+2*k):Nat):Int)+((gd s (0+(2*k+1)):Nat):Int)→x=((pkY true s (1+k):Nat):Int)):=fun x hx=>by
    rw [hx,qiu,HO.out]
    rw [show 0+(2*k+1)=0+2*k+1 by omega]
    omega
   obtain ⟨zz,hzz⟩:∃zz,zz=pkZ true s k (1+k):=⟨_,rfl⟩
   rw [←hzz] at s1
   clear hzz
   obtain ⟨x,hx⟩:∃x,x=gd s (0+2*k):=⟨_,rfl⟩
   obtain ⟨y,hy⟩:∃y,y=gd s (0+(2*k+1)):=⟨_,rfl⟩
   rw [←hx] at c1 z1 HY
   rw [←hy] at c2 z2 HY
   clear hx hy
   have q1:=qb0 (16*(x:Int)) (by omega) (by omega)
   have q2:=qb0 (16*(x:Int)+(y:Int)) (by omega) (by omega)
   have o1:(0:Int)≤2*(k:Int):=by omega
   have o2:(0:Int)≤2*(k:Int)+1:=by omega
   have o3:IntKind.i64.wrap (2*(k:Int))=2*(k:Int):=by rw [IntKind.wrap_i64];omega
   have o3b:IntKind.i64.wrap (2*(k:Int)+1)=2*(k:Int)+1:=by rw [IntKind.wrap_i64];omega
   have o3c:IntKind.i64.wrap (1+(k:Int))=1+(k:Int):=by rw [IntKind.wrap_i64];omega
   have o4:(2*(k:Int)).toNat=2*k:=by omega
   have o5:(2*(k:Int)+1).toNat=2*k+1:=by omega
   have o6:(1+(k:Int)).toNat=1+k:=by omega
   have i1:2*(k:Int)<((n:Nat):Int):=by omega
   have i2:2*(k:Int)+1<((n:Nat):Int):=by omega
   have i3:1+(k:Int)<((1+n / 2:Nat):Int):=by omega
   have i4:(0:Int)≤1+(k:Int):=by omega
   have i5:(k:Int)<((n:Nat):Int) / 2:=by omega
   have i6:(k:Int)<(n:Int) / 2:=by omega
   have hbn:b≠w1.heap.size:=by omega
   clear hR hlt k1 k2
   go_wp2_with fail
   go_region_held3 (fun w'=>w'.cell? ⟨b,off+(2*k),none⟩=some (.int .u8 (x:Int))∧w'.cell? ⟨b,off+(2*k+1),none⟩=some (.int .u8 (y:Int))) (first | (refine ⟨?_,?_⟩ <;> (rw [World.cell?_drew,World.cell?_setCell_other _ _ _ _ (fun h=>hbn (congrArg Addr.block h).symm)];assumption)) | go_keep) (fail)
   have R:=qgw HR.out (HY.out _ rfl)
   go_wp2_with fail
   go_roundg (n / 2 - (k+1))
   case measure=>omega
   case rel=>exact ⟨k+1,by omega,rfl,by go_num,R.drew⟩
  ·have:k=n / 2:=by omega
   subst this
   have i5:¬((n / 2:Nat):Int)<((n:Nat):Int) / 2:=by omega
   go_wp2_with fail
   go_ret2
   have r:qae w1 wr (1+n / 2) (pkY true s):=HR.out.congr (fun i hi=>by unfold pkZ;rw [if_pos hi])
   refine ⟨_,rfl,?_⟩
   rw [HP.out.2.1,←HE.out]
   exact r.ans (fun i _=>qjx true HP.out.1.2 i) (by omega)
open Go.RowKit
set_option maxRecDepth 100000 in
set_option maxHeartbeats 1600000 in
theorem qwf (w:World) (a:Option Addr) (b off c:Nat) (s:List Nat) (hv:Vw w a b off s) (hc:s.length≤c) (hp:IsP s) (ho:s.length % 2=1) :
 Calls Tryz.prog 150 #[.slice a s.length c,.bool false] w fun e w'=>∃v,e=.returned (.tuple #[v,.int .i64 0])∧Ans w w' v (pkL false s):=by
 have K:=qc9 w a b off c s hv
 rw [decide_eq_true hp] at K
 have HB:Hid (∀i,gd s i≤15):=fun i=>by
  by_cases q:i<s.length
  ·exact hp.2 i q
  ·rw [qg3 (by omega)];decide
 have hl:=hp.1
 have HO:Hid (s.length % 2=1):=ho
 have HV:Hid (View w a b off s.length (fun i=>((gd s (0+i):Nat):Int))):=hv.congr (fun i _=>by rw [Nat.zero_add])
 have HP:Hid (IsP s∧pkL false s=lst (1+s.length / 2) (pkY false s)∧pkY false s 0=0+(16+gd s 0)):=⟨hp,rfl,by rw [qfd,if_neg (show ¬s.length % 2=0 by omega)];rfl⟩
 have e1:((s.length:Int) % 2 == 1)=true:=by simp;omega
 clear hv hp
 obtain ⟨n,en⟩:∃n,n=s.length:=⟨_,rfl⟩
 have HE:Hid (n=s.length):=en
 rw [←en] at hl HV K e1 ho hc ⊢
 clear en
 have hmk:=run_make_row' (P:=Tryz.prog) 33 5 (.int .u8 0) 1 Tryz.underlying33 Tryz.info5 rfl .i64 .i64 (1+n / 2) (by omega) (by omega)
 rw [show ((1+n / 2:Nat):Int)=1+(n:Int) / 2 by omega] at hmk
 obtain rfl:=HV.out.at_ (by omega)
 have hlt:=HV.out.lt (by omega)
 obtain ⟨a',ha'⟩:∃a',a'=behind (some (⟨b,off,none⟩:Addr)) c 1:=⟨_,rfl⟩
 have HW:Hid (View w a' b (off+1) (n - 1) (fun i=>((gd s (1+i):Nat):Int))):=by
  refine ⟨fun h=>?_,fun i hi=>?_,fun i hi=>?_,by omega⟩
  ·rw [ha']
   unfold behind
   rw [if_neg (by omega)]
   rfl
  ·have:=HV.out.cell (1+i) (by omega)
   rw [Nat.zero_add] at this
   rw [Nat.add_assoc]
   exact this
  ·have:=HB.out (1+i)
   omega
 have j1:∀u,(Instr.slice 33 (.slice (some ⟨b,off,none⟩) n c) (some (.int .i64 1)) none none).run Tryz.prog u=.ok (.slice a' (n - 1) (c - 1)) u:=fun u=>by rw [ha'];exact qbf _ n c 1 (by omega) u
 clear ha'
 have HK:Hid (Calls Tryz.prog 157 #[.slice (some ⟨b,off,none⟩) n c] w fun e w'=>e=.returned (.bool true)∧w'=w):=K
 clear K
 go_enter Tryz.func150,Tryz.ntmps150
 go_wp2_with fail
 refine HK.out.mono ?_
 rintro e w1 ⟨rfl,rfl⟩
 go_wp2_with fail
 clear hmk
 have NR:qae w1 (w1.alloc (.cells (madeCells #[.int .u8 0] (1+n / 2)) 5)) (1+n / 2) (fun _=>0):=qae.made w1 (1+n / 2)
 obtain ⟨w2,hw2⟩:∃x,x=(w1.alloc (.cells (madeCells #[.int .u8 0] (1+n / 2)) 5)):=⟨_,rfl⟩
 rw [←hw2] at NR ⊢
 skip
 clear hw2
 have s0:w2.cell? ⟨w1.heap.size,0,none⟩=some (.int .u8 0):=NR.row.cell (i:=0) (by omega)
 have f0:=NR.row.frozen 0
 have HR0:Hid (qae w1 w2 (1+n / 2) (fun _=>0)):=NR
 have c0:w2.cell? ⟨b,off,none⟩=some (.int .u8 ((gd s 0:Nat):Int)):=(NR.below.cell (p:=⟨b,off,none⟩) hlt).trans (HV.out.cell 0 (by omega))
 have z0:gd s 0≤15:=HB.out 0
 obtain ⟨x,hx⟩:∃x,x=gd s 0:=⟨_,rfl⟩
 have HX:Hid (x=gd s 0):=hx
 rw [←hx] at c0 z0
 have q1:=qb0 (16+(x:Int)) (by omega) (by omega)
 have q2:=qb0 (0+(16+(x:Int))) (by omega) (by omega)
 have i1:(0:Int)<(n:Int):=by omega
 have i1b:0<n:=by omega
 have i3:(0:Int)<1+(n:Int) / 2:=by omega
 have i3b:0<1+n / 2:=by omega
 clear NR hx hlt
 go_region_law (fail)
 all_goals (
  have NR:qae w1 ((w2.setCell ⟨w1.heap.size,0,none⟩ (.int .u8 (16+(x:Int)))).drew) (1+n / 2) (pkZ false s 0):=by
   have e:=(HR0.out.set 0 (0+(16+x))).drew
   rw [show ((0+(16+x):Nat):Int)=16+(x:Int) by omega] at e
   refine qfq e ?_ (fun i hi=>?_)
   ·rw [HP.out.2.2,←HX.out]
    rfl
   ·show (if i=0 then _ else 0)=0
    rw [if_neg (by omega)]
  obtain ⟨w3,hw3⟩:∃z,z=(w2.setCell ⟨w1.heap.size,0,none⟩ (.int .u8 (16+(x:Int)))).drew:=⟨_,rfl⟩
  rw [←hw3] at NR ⊢
  clear hw3 s0 f0 c0 HR0
  have HN:Hid (qae w1 w3 (1+n / 2) (pkZ false s 0)):=NR
  clear NR
  go_wp2_with fail
  go_loopg [39] (n / 2) (fun g i wr=>∃k:Nat,k≤n / 2∧g=n / 2 - k∧i=.int .i64 k∧qae w1 wr (1+n / 2) (pkZ false s k))
  case atStart=>exact ⟨0,Nat.zero_le _,rfl,rfl,HN.out⟩
  case round =>
   obtain ⟨k,hk,rfl,rfl,hR⟩:=hrel
   have HR:Hid (qae w1 wr (1+n / 2) (pkZ false s k)):=hR
   clear HN
   by_cases hkn:k<n / 2
   ·have k1:2*k<(n - 1):=by omega
    have k2:2*k+1<(n - 1):=by omega
    obtain rfl:=HW.out.at_ (by omega)
    have hlt:=HW.out.lt (by omega)
    have c1:wr.cell? ⟨b,off+1+(2*k),none⟩=some (.int .u8 ((gd s (1+2*k):Nat):Int)):=(hR.below.cell (p:=⟨b,off+1+(2*k),none⟩) hlt).trans (HW.out.cell (2*k) k1)
    have c2:wr.cell? ⟨b,off+1+(2*k+1),none⟩=some (.int .u8 ((gd s (1+(2*k+1)):Nat):Int)):=(hR.below.cell (p:=⟨b,off+1+(2*k+1),none⟩) hlt).trans (HW.out.cell (2*k+1) k2)
    have z1:gd s (1+2*k)≤15:=HB.out _
    have z2:gd s (1+(2*k+1))≤15:=HB.out _
    have s1:=hR.row.cell (i:=1+k) (by omega)
    have f1:=hR.row.frozen (1+k)
    have HY:Hid (∀x:Int,x=16*((gd s (1+2*k):Nat):Int)+((gd s (1+(2*k+1)):Nat):Int)→x=((pkY false s (1+k):Nat):Int)):=fun x hx=>by
     rw [hx,qiu,HO.out]
     rw [show 1+(2*k+1)=1+2*k+1 by omega]
     omega
    obtain ⟨zz,hzz⟩:∃zz,zz=pkZ false s k (1+k):=⟨_,rfl⟩
    rw [←hzz] at s1
    clear hzz
    obtain ⟨x,hx⟩:∃x,x=gd s (1+2*k):=⟨_,rfl⟩
    obtain ⟨y,hy⟩:∃y,y=gd s (1+(2*k+1)):=⟨_,rfl⟩
    rw [←hx] at c1 z1 HY
    rw [←hy] at c2 z2 HY
    clear hx hy
    have q1:=qb0 (16*(x:Int)) (by omega) (by omega)
    have q2:=qb0 (16*(x:Int)+(y:Int)) (by omega) (by omega)
    have o1:(0:Int)≤2*(k:Int):=by omega
    have o2:(0:Int)≤2*(k:Int)+1:=by omega
    have o3:IntKind.i64.wrap (2*(k:Int))=2*(k:Int):=by rw [IntKind.wrap_i64];omega
    have o3b:IntKind.i64.wrap (2*(k:Int)+1)=2*(k:Int)+1:=by rw [IntKind.wrap_i64];omega
    have o3c:IntKind.i64.wrap (1+(k:Int))=1+(k:Int):=by rw [IntKind.wrap_i64];omega
    have o4:(2*(k:Int)).toNat=2*k:=by omega
    have o5:(2*(k:Int)+1).toNat=2*k+1:=by omega
    have o6:(1+(k:Int)).toNat=1+k:=by omega
    have i1:2*(k:Int)<(((n - 1):Nat):Int):=by omega
    have i2:2*(k:Int)+1<(((n - 1):Nat):Int):=by omega
    have i3:1+(k:Int)<((1+n / 2:Nat):Int):=by omega
    have i4:(0:Int)≤1+(k:Int):=by omega
    have i5:(k:Int)<(((n - 1):Nat):Int) / 2:=by omega
    have i6:(k:Int)<(n:Int) / 2:=by omega
    have hbn:b≠w1.heap.size:=by omega
    clear hR hlt k1 k2
    go_wp2_with fail
    go_region_held3 (fun w'=>w'.cell? ⟨b,off+1+(2*k),none⟩=some (.int .u8 (x:Int))∧w'.cell? ⟨b,off+1+(2*k+1),none⟩=some (.int .u8 (y:Int))) (first | (refine ⟨?_,?_⟩ <;> (rw [World.cell?_drew,World.cell?_setCell_other _ _ _ _ (fun h=>hbn (congrArg Addr.block h).symm)];assumption)) | go_keep) (fail)
    have R:=qgw HR.out (HY.out _ rfl)
    go_wp2_with fail
    go_roundg (n / 2 - (k+1))
    case measure=>omega
    case rel=>exact ⟨k+1,by omega,rfl,by go_num,R.drew⟩
   ·have:k=n / 2:=by omega
    subst this
    have i5:¬((n / 2:Nat):Int)<(((n - 1):Nat):Int) / 2:=by omega
    go_wp2_with fail
    go_ret2
    have r:qae w1 wr (1+n / 2) (pkY false s):=HR.out.congr (fun i hi=>by unfold pkZ;rw [if_pos hi])
    refine ⟨_,rfl,?_⟩
    rw [HP.out.2.1,←HE.out]
    exact r.ans (fun i _=>qjx false HP.out.1.2 i) (by omega))
set_option maxRecDepth 100000 in
set_option maxHeartbeats 1600000 in
theorem qwg (w:World) (a:Option Addr) (b off c:Nat) (s:List Nat) (hv:Vw w a b off s) (hc:s.length≤c) (hp:IsP s) (ho:s.length % 2=1) :
 Calls Tryz.prog 150 #[.slice a s.length c,.bool true] w fun e w'=>∃v,e=.returned (.tuple #[v,.int .i64 0])∧Ans w w' v (pkL true s):=by
 have K:=qc9 w a b off c s hv
 rw [decide_eq_true hp] at K
 have HB:Hid (∀i,gd s i≤15):=fun i=>by
  by_cases q:i<s.length
  ·exact hp.2 i q
  ·rw [qg3 (by omega)];decide
 have hl:=hp.1
 have HO:Hid (s.length % 2=1):=ho
 have HV:Hid (View w a b off s.length (fun i=>((gd s (0+i):Nat):Int))):=hv.congr (fun i _=>by rw [Nat.zero_add])
 have HP:Hid (IsP s∧pkL true s=lst (1+s.length / 2) (pkY true s)∧pkY true s 0=32+(16+gd s 0)):=⟨hp,rfl,by rw [qfd,if_neg (show ¬s.length % 2=0 by omega)];rfl⟩
 have e1:((s.length:Int) % 2 == 1)=true:=by simp;omega
 clear hv hp
 obtain ⟨n,en⟩:∃n,n=s.length:=⟨_,rfl⟩
 have HE:Hid (n=s.length):=en
 rw [←en] at hl HV K e1 ho hc ⊢
 clear en
 have hmk:=run_make_row' (P:=Tryz.prog) 33 5 (.int .u8 0) 1 Tryz.underlying33 Tryz.info5 rfl .i64 .i64 (1+n / 2) (by omega) (by omega)
 rw [show ((1+n / 2:Nat):Int)=1+(n:Int) / 2 by omega] at hmk
 have s0:(w.alloc (.cells (madeCells #[.int .u8 0] (1+n / 2)) 5)).cell? ⟨w.heap.size,0,none⟩=some (.int .u8 0):=(qae.made w (1+n / 2)).row.cell (i:=0) (by omega)
 have f0:(w.alloc (.cells (madeCells #[.int .u8 0] (1+n / 2)) 5)).frozen? ⟨w.heap.size,0,none⟩=false:=(qae.made w (1+n / 2)).row.frozen 0
 obtain rfl:=HV.out.at_ (by omega)
 have hlt:=HV.out.lt (by omega)
 obtain ⟨a',ha'⟩:∃a',a'=behind (some (⟨b,off,none⟩:Addr)) c 1:=⟨_,rfl⟩
 have HW:Hid (View w a' b (off+1) (n - 1) (fun i=>((gd s (1+i):Nat):Int))):=by
  refine ⟨fun h=>?_,fun i hi=>?_,fun i hi=>?_,by omega⟩
  ·rw [ha']
   unfold behind
   rw [if_neg (by omega)]
   rfl
  ·have:=HV.out.cell (1+i) (by omega)
   rw [Nat.zero_add] at this
   rw [Nat.add_assoc]
   exact this
  ·have:=HB.out (1+i)
   omega
 have j1:∀u,(Instr.slice 33 (.slice (some ⟨b,off,none⟩) n c) (some (.int .i64 1)) none none).run Tryz.prog u=.ok (.slice a' (n - 1) (c - 1)) u:=fun u=>by rw [ha'];exact qbf _ n c 1 (by omega) u
 clear ha'
 have HK:Hid (Calls Tryz.prog 157 #[.slice (some ⟨b,off,none⟩) n c] w fun e w'=>e=.returned (.bool true)∧w'=w):=K
 clear K
 go_enter Tryz.func150,Tryz.ntmps150
 go_wp2_with fail
 refine HK.out.mono ?_
 rintro e w1 ⟨rfl,rfl⟩
 go_wp2_with fail
 clear hmk
 have NR:qae w1 (w1.alloc (.cells ((madeCells #[.int .u8 0] (1+n / 2)).setIfInBounds 0 (.int .u8 32)) 5)) (1+n / 2) (fun j=>if j=0 then 32 else 0):=qkd w1 (1+n / 2)
 obtain ⟨w2,hw2⟩:∃x,x=(w1.alloc (.cells ((madeCells #[.int .u8 0] (1+n / 2)).setIfInBounds 0 (.int .u8 32)) 5)):=⟨_,rfl⟩
 rw [←hw2] at NR ⊢
 clear s0 f0
 clear hw2
 have s0:w2.cell? ⟨w1.heap.size,0,none⟩=some (.int .u8 32):=NR.row.cell (i:=0) (by omega)
 have f0:=NR.row.frozen 0
 have HR0:Hid (qae w1 w2 (1+n / 2) (fun j=>if j=0 then 32 else 0)):=NR
 have c0:w2.cell? ⟨b,off,none⟩=some (.int .u8 ((gd s 0:Nat):Int)):=(NR.below.cell (p:=⟨b,off,none⟩) hlt).trans (HV.out.cell 0 (by omega))
 have z0:gd s 0≤15:=HB.out 0
 obtain ⟨x,hx⟩:∃x,x=gd s 0:=⟨_,rfl⟩
 have HX:Hid (x=gd s 0):=hx
 rw [←hx] at c0 z0
 have q1:=qb0 (16+(x:Int)) (by omega) (by omega)
 have q2:=qb0 (32+(16+(x:Int))) (by omega) (by omega)
 have i1:(0:Int)<(n:Int):=by omega
 have i1b:0<n:=by omega
 have i3:(0:Int)<1+(n:Int) / 2:=by omega
 have i3b:0<1+n / 2:=by omega
 clear NR hx hlt
 go_region_law (fail)
 all_goals (
  have NR:qae w1 ((w2.setCell ⟨w1.heap.size,0,none⟩ (.int .u8 (32+(16+(x:Int))))).drew) (1+n / 2) (pkZ true s 0):=by
   have e:=(HR0.out.set 0 (32+(16+x))).drew
   rw [show ((32+(16+x):Nat):Int)=32+(16+(x:Int)) by omega] at e
   refine qfq e ?_ (fun i hi=>?_)
   ·rw [HP.out.2.2,←HX.out]
    rfl
   ·show (if i=0 then _ else if i=0 then 32 else 0)=0
    rw [if_neg (by omega),if_neg (by omega)]
  obtain ⟨w3,hw3⟩:∃z,z=(w2.setCell ⟨w1.heap.size,0,none⟩ (.int .u8 (32+(16+(x:Int))))).drew:=⟨_,rfl⟩
  rw [←hw3] at NR ⊢
  clear hw3 s0 f0 c0 HR0
  have HN:Hid (qae w1 w3 (1+n / 2) (pkZ true s 0)):=NR
  clear NR
  go_wp2_with fail
  go_loopg [39] (n / 2) (fun g i wr=>∃k:Nat,k≤n / 2∧g=n / 2 - k∧i=.int .i64 k∧qae w1 wr (1+n / 2) (pkZ true s k))
  case atStart=>exact ⟨0,Nat.zero_le _,rfl,rfl,HN.out⟩
  case round =>
   obtain ⟨k,hk,rfl,rfl,hR⟩:=hrel
   have HR:Hid (qae w1 wr (1+n / 2) (pkZ true s k)):=hR
   clear HN
   by_cases hkn:k<n / 2
   ·have k1:2*k<(n - 1):=by omega
    have k2:2*k+1<(n - 1):=by omega
    obtain rfl:=HW.out.at_ (by omega)
    have hlt:=HW.out.lt (by omega)
    have c1:wr.cell? ⟨b,off+1+(2*k),none⟩=some (.int .u8 ((gd s (1+2*k):Nat):Int)):=(hR.below.cell (p:=⟨b,off+1+(2*k),none⟩) hlt).trans (HW.out.cell (2*k) k1)
    have c2:wr.cell? ⟨b,off+1+(2*k+1),none⟩=some (.int .u8 ((gd s (1+(2*k+1)):Nat):Int)):=(hR.below.cell (p:=⟨b,off+1+(2*k+1),none⟩) hlt).trans (HW.out.cell (2*k+1) k2)
    have z1:gd s (1+2*k)≤15:=HB.out _
    have z2:gd s (1+(2*k+1))≤15:=HB.out _
    have s1:=hR.row.cell (i:=1+k) (by omega)
    have f1:=hR.row.frozen (1+k)
    have HY:Hid (∀x:Int,x=16*((gd s (1+2*k):Nat):Int)+((gd s (1+(2*k+1)):Nat):Int)→x=((pkY true s (1+k):Nat):Int)):=fun x hx=>by
     rw [hx,qiu,HO.out]
     rw [show 1+(2*k+1)=1+2*k+1 by omega]
     omega
    obtain ⟨zz,hzz⟩:∃zz,zz=pkZ true s k (1+k):=⟨_,rfl⟩
    rw [←hzz] at s1
    clear hzz
    obtain ⟨x,hx⟩:∃x,x=gd s (1+2*k):=⟨_,rfl⟩
    obtain ⟨y,hy⟩:∃y,y=gd s (1+(2*k+1)):=⟨_,rfl⟩
    rw [←hx] at c1 z1 HY
    rw [←hy] at c2 z2 HY
    clear hx hy
    have q1:=qb0 (16*(x:Int)) (by omega) (by omega)
    have q2:=qb0 (16*(x:Int)+(y:Int)) (by omega) (by omega)
    have o1:(0:Int)≤2*(k:Int):=by omega
    have o2:(0:Int)≤2*(k:Int)+1:=by omega
    have o3:IntKind.i64.wrap (2*(k:Int))=2*(k:Int):=by rw [IntKind.wrap_i64];omega
    have o3b:IntKind.i64.wrap (2*(k:Int)+1)=2*(k:Int)+1:=by rw [IntKind.wrap_i64];omega
    have o3c:IntKind.i64.wrap (1+(k:Int))=1+(k:Int):=by rw [IntKind.wrap_i64];omega
    have o4:(2*(k:Int)).toNat=2*k:=by omega
    have o5:(2*(k:Int)+1).toNat=2*k+1:=by omega
    have o6:(1+(k:Int)).toNat=1+k:=by omega
    have i1:2*(k:Int)<(((n - 1):Nat):Int):=by omega
    have i2:2*(k:Int)+1<(((n - 1):Nat):Int):=by omega
    have i3:1+(k:Int)<((1+n / 2:Nat):Int):=by omega
    have i4:(0:Int)≤1+(k:Int):=by omega
    have i5:(k:Int)<(((n - 1):Nat):Int) / 2:=by omega
    have i6:(k:Int)<(n:Int) / 2:=by omega
    have hbn:b≠w1.heap.size:=by omega
    clear hR hlt k1 k2
    go_wp2_with fail
    go_region_held3 (fun w'=>w'.cell? ⟨b,off+1+(2*k),none⟩=some (.int .u8 (x:Int))∧w'.cell? ⟨b,off+1+(2*k+1),none⟩=some (.int .u8 (y:Int))) (first | (refine ⟨?_,?_⟩ <;> (rw [World.cell?_drew,World.cell?_setCell_other _ _ _ _ (fun h=>hbn (congrArg Addr.block h).symm)];assumption)) | go_keep) (fail)
    have R:=qgw HR.out (HY.out _ rfl)
    go_wp2_with fail
    go_roundg (n / 2 - (k+1))
    case measure=>omega
    case rel=>exact ⟨k+1,by omega,rfl,by go_num,R.drew⟩
   ·have:k=n / 2:=by omega
    subst this
    have i5:¬((n / 2:Nat):Int)<(((n - 1):Nat):Int) / 2:=by omega
    go_wp2_with fail
    go_ret2
    have r:qae w1 wr (1+n / 2) (pkY true s):=HR.out.congr (fun i hi=>by unfold pkZ;rw [if_pos hi])
    refine ⟨_,rfl,?_⟩
    rw [HP.out.2.1,←HE.out]
    exact r.ans (fun i _=>qjx true HP.out.1.2 i) (by omega))
open Go.RowKit
theorem qth {s:List Nat} (h:od s=1):upY s 0=gd s 0 % 16:=by
 unfold upY
 rw [h]
 rfl
theorem qyn (s:List Nat) (k:Nat):upY s (od s+2*k)=gd s (1+k) / 16:=by
 have:=qoz s
 unfold upY nib
 rw [if_pos (by omega),show (od s+2*k+(2 - od s)) / 2=1+k by omega]
theorem qyo (s:List Nat) (k:Nat):upY s (od s+2*k+1)=gd s (1+k) % 16:=by
 have:=qoz s
 unfold upY nib
 rw [if_neg (by omega),show (od s+2*k+1+(2 - od s)) / 2=1+k by omega]
def upZ (s:List Nat) (k i:Nat):Nat:=if i<od s+2*k then upY s i else 0
theorem qmx {w wr:World} {N k o p q:Nat} {s:List Nat} (h:qae w wr N (upZ s k)) (ho:od s=o) (hp:p=o+2*k) (hq:q=o+2*k+1) {x y:Int} (hx:x=((gd s (1+k) / 16:Nat):Int)) (hy:y=((gd s (1+k) % 16:Nat):Int)) :
 qae w ((wr.setCell ⟨w.heap.size,p,none⟩ (.int .u8 x)).setCell ⟨w.heap.size,q,none⟩ (.int .u8 y)) N (upZ s (k+1)):=by
 subst hp
 subst hq
 subst ho
 rw [hx,hy,←qyn,←qyo]
 refine ((h.set _ _).set _ _).congr (fun i _=>?_)
 unfold upZ
 by_cases e1:i=od s+2*k+1
 ·subst e1
  rw [if_pos rfl,if_pos (by omega)]
 ·rw [if_neg e1]
  by_cases e2:i=od s+2*k
  ·subst e2
   rw [if_pos rfl,if_pos (by omega)]
  ·rw [if_neg e2]
   by_cases e3:i<od s+2*k
   ·rw [if_pos e3,if_pos (by omega)]
   ·rw [if_neg e3,if_neg (by omega)]
theorem qti {w:World} {N:Nat} {s:List Nat} (h:od s=0):qae w (w.alloc (.cells (madeCells #[.int .u8 0] N) 5)) N (upZ s 0):=(qae.made w N).congr (fun i _=>by unfold upZ;rw [h,if_neg (by omega)])
theorem qwk {w:World} {N:Nat} {s:List Nat} (h:od s=1) {y:Int} (hy:y=((upY s 0:Nat):Int)):qae w (w.alloc (.cells ((madeCells #[.int .u8 0] N).setIfInBounds 0 (.int .u8 y)) 5)) N (upZ s 0):=by
 have e:(w.alloc (.cells (madeCells #[.int .u8 0] N) 5)).setCell ⟨w.heap.size,0,none⟩ (.int .u8 y)=w.alloc (.cells ((madeCells #[.int .u8 0] N).setIfInBounds 0 (.int .u8 y)) 5):=World.setCell_alloc_new _ _ _ _
 rw [←e,hy]
 refine ((qae.made w N).set 0 (upY s 0)).congr (fun i _=>?_)
 unfold upZ
 rw [h]
 by_cases q:i=0
 ·subst q
  rw [if_pos rfl,if_pos (by omega)]
 ·rw [if_neg q,if_neg (by omega)]
end Go.Proofs.YtemcneddbhgadaaGreatDoor
