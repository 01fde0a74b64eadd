import Derived.Test.YtemcneddbhgadaaGreatDoorQCopyzz
import Derived.Deep.RegionHeld3
namespace Go.Proofs.YtemcneddbhgadaaGreatDoor.Dg
open Go.RowKit
theorem qem (w:World) (s s':W8) (hs:Ok8 s) (a:Option Addr) (b off c:Nat) (B:Nat→Nat) (h:View w a b off 64 (fun i=>(B i:Int))) (hB:∀i,B i<256) (hK:qc3 w) (hw:2<w.heap.size) (e:qc1 s B=s') :
 Calls Tryz.prog 93 #[.agg #[.int .u32 s.a,.int .u32 s.b,.int .u32 s.c,.int .u32 s.d,.int .u32 s.e,.int .u32 s.f,.int .u32 s.g,.int .u32 s.h],.slice a 64 c] w fun e w'=>e=.returned (.agg #[.int .u32 s'.a,.int .u32 s'.b,.int .u32 s'.c,.int .u32 s'.d,.int .u32 s'.e,.int .u32 s'.f,.int .u32 s'.g,.int .u32 s'.h])∧Below w.heap.size w w':=by
 subst e
 exact qnr w s hs a b off c B h hB hK hw
structure Rg (E:Env) (W w':World) (p:Nat) (s:W8) (R:Nat→Nat) (N:Nat) (a:Option Addr) (b off:Nat) (B:Nat→Nat):Prop where
 row:qbk E w' p s R N
 save:Save p W w'
 view:View w' a b off 64 (fun i=>(B i:Int))
 roots:qc3 w'
 big:2<w'.heap.size
theorem Rg.next {E:Env} {W w' w2:World} {p:Nat} {s:W8} {R:Nat→Nat} {N:Nat} {a:Option Addr} {b off:Nat} {B:Nat→Nat} (h:Rg E W w' p s R N a b off B) (hb:Below w'.heap.size w' w2):Rg E W w2 p s R N a b off B :=
 ⟨h.row.of_block (hb.block _ h.row.lt),h.save.trans (Save.of_below hb),h.view.below hb,h.roots.below hb h.big,Nat.lt_of_lt_of_le h.big hb.size⟩
def qur (w':World) (p:Nat) (s:W8):Prop :=
 w'.cell? ⟨p,0,none⟩=some (.int .u32 s.a)∧w'.cell? ⟨p,1,none⟩=some (.int .u32 s.b)∧w'.cell? ⟨p,2,none⟩=some (.int .u32 s.c)∧w'.cell? ⟨p,3,none⟩=some (.int .u32 s.d)∧w'.cell? ⟨p,4,none⟩=some (.int .u32 s.e)∧w'.cell? ⟨p,5,none⟩=some (.int .u32 s.f)∧w'.cell? ⟨p,6,none⟩=some (.int .u32 s.g)∧w'.cell? ⟨p,7,none⟩=some (.int .u32 s.h)
def qx7 (w':World) (p:Nat):Prop:=w'.frozen? ⟨p,0,none⟩=false∧w'.frozen? ⟨p,1,none⟩=false∧w'.frozen? ⟨p,2,none⟩=false∧w'.frozen? ⟨p,3,none⟩=false∧w'.frozen? ⟨p,4,none⟩=false∧w'.frozen? ⟨p,5,none⟩=false∧w'.frozen? ⟨p,6,none⟩=false∧w'.frozen? ⟨p,7,none⟩=false
theorem qbk.cells {E:Env} {w:World} {p:Nat} {s:W8} {R:Nat→Nat} {n:Nat} (h:qbk E w p s R n):qur w p s :=
 ⟨h.cell (i:=0) (by have:=E.big;omega),h.cell (i:=1) (by have:=E.big;omega),h.cell (i:=2) (by have:=E.big;omega),h.cell (i:=3) (by have:=E.big;omega),h.cell (i:=4) (by have:=E.big;omega),h.cell (i:=5) (by have:=E.big;omega),h.cell (i:=6) (by have:=E.big;omega),h.cell (i:=7) (by have:=E.big;omega)⟩
theorem qbk.thaw {E:Env} {w:World} {p:Nat} {s:W8} {R:Nat→Nat} {n:Nat} (h:qbk E w p s R n):qx7 w p :=
 ⟨h.frozen 0,h.frozen 1,h.frozen 2,h.frozen 3,h.frozen 4,h.frozen 5,h.frozen 6,h.frozen 7⟩
theorem Rg.drew {E:Env} {W w':World} {p:Nat} {s:W8} {R:Nat→Nat} {N:Nat} {a:Option Addr} {b off:Nat} {B:Nat→Nat} (h:Rg E W w' p s R N a b off B):Rg E W w'.drew p s R N a b off B :=
 h.next ((Below.refl _ _).drew)
structure Lp (E:Env) (w wr:World) (p n m b off k:Nat) (X Y:Nat→Nat) (v:Value):Prop where
 kle:k≤m
 al:(n+k) % 64=0
 row:∃R,qbk E wr p (qav (cat n X Y) ((n+k) / 64)) R (n+m)∧∀i,R i<256
 save:Save p w wr
 sl:∃a' c',v=.slice a' (m - k) c'∧m - k≤c'∧View wr a' b (off+k) (m - k) (fun i=>(Y (k+i):Int))
theorem qh6 {n:Nat} {X Y:Nat→Nat} (hX:∀i,X i<256) (hY:∀i,Y i<256) (i:Nat):cat n X Y i<256:=by
 unfold cat
 split
 ·exact hX _
 ·exact hY _
theorem qg9 {n k:Nat} {X Y:Nat→Nat} (hal:(n+k) % 64=0):qc1 (qav (cat n X Y) ((n+k) / 64)) (fun i=>Y (k+i))=qav (cat n X Y) ((n+(k+64)) / 64):=by
 rw [show (n+(k+64)) / 64=(n+k) / 64+1 by omega]
 simp only [qav]
 refine (qey (fun i _=>?_) _).symm
 unfold cat
 rw [if_neg (by omega)]
 congr 1
 omega
theorem Lp.next {E:Env} {w wr wn:World} {p n m b off k:Nat} {X Y:Nat→Nat} {v:Value} {R:Nat→Nat} (h:Lp E w wr p n m b off k X Y v) (hbig:64≤m - k) (hR:∀i,R i<256) (hr:qbk E wn p (qav (cat n X Y) ((n+(k+64)) / 64)) R (n+m)) (hs:Save p w wn)
 (a2:Option Addr) (c2:Nat) (hc:m - k - 64≤c2) (hv:View wn a2 b (off+(k+64)) (m - (k+64)) (fun i=>(Y (k+64+i):Int))):Lp E w wn p n m b off (k+64) X Y (.slice a2 (m - k - 64) c2) :=
 ⟨by omega,by have:=h.al;omega,⟨R,hr,hR⟩,hs,a2,c2,by rw [show m - k - 64=m - (k+64) by omega],by omega,hv⟩
theorem qha {w wn:World} {p b off m k:Nat} {a:Option Addr} {Y:Nat→Nat} (h:View w a b (off+k) (m - k) (fun i=>(Y (k+i):Int))) (hs:Save p w wn) (hbp:0<m→b≠p) (t:Nat) (ht:t≤m - k) :
 View wn (some ⟨b,off+k+t,none⟩) b (off+(k+t)) (m - (k+t)) (fun i=>(Y (k+t+i):Int)):=by
 have l:=h.len
 refine ⟨fun _=>by rw [Nat.add_assoc],fun i hi=>?_,fun i hi=>?_,by omega⟩
 ·have c:=h.cell (t+i) (by omega)
  rw [show off+k+(t+i)=off+(k+t)+i by omega,show k+(t+i)=k+t+i by omega] at c
  exact (hs.cell (q:=⟨b,off+(k+t)+i,none⟩) (h.lt (by omega)) (hbp (by omega))).trans c
 ·have c:=h.bd (t+i) (by omega)
  rw [←Nat.add_assoc] at c
  exact c
theorem qf7 (w:World) (a:Option Addr) (b off n:Nat) (Z:Nat→Int) (h:n=0):View w a b off n Z :=
 ⟨fun h'=>absurd h' (by omega),fun i hi=>absurd hi (by omega),fun i hi=>absurd hi (by omega),by omega⟩
theorem qh7 (w:World) (p r:Nat) (hr:r<64):(Instr.sliceAt 156 (.pointer (some ⟨p,8,none⟩)) (some (.int .i64 (r:Int))) none none).run Tryz.prog w=.ok (.slice (some ⟨p,8+r,none⟩) (64 - r) (64 - r)) w:=by
 have al:Tryz.prog.arrayLen 156=64:=by kernel_rfl
 have el:Tryz.prog.elem 156=5:=by kernel_rfl
 have hu:Tryz.prog.underlying 156=some (.array (Tryz.prog.arrayLen 156) (Tryz.prog.elem 156)):=by rw [al,el];exact Tryz.underlying156
 rw [run_sliceAt_array_l w 156 ⟨p,8,none⟩ hu .i64 (r:Int) (by omega) (by rw [al];omega),el,al]
 have sz:(sizeOf 5).run Tryz.prog w=.ok 1 w:=by
  have:=info5size
  cases hq:Tryz.prog.info? 5 with
  | none=>simp [hq] at this
  | some i=>simp [hq] at this;simp [sizeOf,typeInfo,hq,this]
 rw [sz]
 have ne:¬(64=r):=by omega
 simp [slicedAt,Result.andThen,ne,Addr.add]
theorem qpt {E:Env} {wn:World} {p n m k:Nat} {X Y R':Nat→Nat} (hT:∀i,cat n X Y i<256) (al:(n+k) % 64=0) (hk:k≤m) (hsm:m - k<64) (hR':∀i,R' i<256) (hY:∀i,Y i<256)
 (hrn:wn.rowIs p E.t E.N fun i=>if 8≤i∧i<8+(m - k) then .int .u8 ((Y (k+(i - 8)):Nat):Int) else stc E.tl (qav (cat n X Y) ((n+k) / 64)) R' (n+m) i):StG E wn p (n+m) (cat n X Y):=by
 refine ⟨⟨fun j=>if j<m - k then Y (k+j) else R' j,?_,?_,?_⟩,hT⟩
 ·refine hrn.congr (fun i hi=>?_)
  rw [show (n+m) / 64=(n+k) / 64 by omega]
  unfold stc
  by_cases h1:i<8
  ·rw [if_neg (by omega),if_pos h1,if_pos h1]
  ·rw [if_neg h1,if_neg h1]
   by_cases h2:i<72
   ·rw [if_pos h2,if_pos h2]
    by_cases h3:i - 8<m - k
    ·rw [if_pos ⟨by omega,by omega⟩]
     simp only [if_pos h3]
    ·rw [if_neg (by omega)]
     simp only [if_neg h3]
   ·rw [if_neg (by omega),if_neg h2,if_neg h2]
 ·intro i
  show (if i<m - k then Y (k+i) else R' i)<256
  split
  ·exact hY _
  ·exact hR' _
 ·intro i hi
  show (if i<m - k then Y (k+i) else R' i)=_
  rw [if_pos (by omega)]
  unfold cat
  rw [if_neg (by omega)]
  congr 1
  omega
theorem qh8 {E : Env} {wn : World} {p n m r cnt : Nat} {s : W8} {Y R : Nat → Nat} (hr : r < 64) (hc : r + cnt ≤ 64) (hR : ∀ i, R i < 256) (hY : ∀ i, Y i < 256)
    (hrn:wn.rowIs p E.t E.N fun i=>if 8+r≤i∧i<8+r+cnt then .int .u8 ((Y (i - (8+r)):Nat):Int) else stc E.tl s R (n+m) i) :
    qbk E wn p s (fun j=>if r≤j∧j<r+cnt then Y (j - r) else R j) (n+m)∧∀i,(fun j=>if r≤j∧j<r+cnt then Y (j - r) else R j) i<256:=by
  refine ⟨hrn.congr (fun i hi=>?_),fun i=>?_⟩
  · unfold stc
    by_cases h1:i<8
    · rw [if_neg (by omega),if_pos h1,if_pos h1]
    · rw [if_neg h1,if_neg h1]
      by_cases h2:i<72
      · rw [if_pos h2,if_pos h2]
        by_cases h3:r≤i - 8∧i - 8<r+cnt
        · rw [if_pos ⟨by omega,by omega⟩]
          simp only [if_pos h3]
          congr 3
          omega
        · rw [if_neg (by omega)]
          simp only [if_neg h3]
      · rw [if_neg (by omega),if_neg h2,if_neg h2]
  · show (if r≤i∧i<r+cnt then Y (i - r) else R i)<256
    split
    · exact hY _
    · exact hR _
theorem qsq {E:Env} {wn:World} {p n m r:Nat} {X Y R:Nat→Nat} (hr:r=n % 64) (hsm:r+m<64) (hrow:qbk E wn p (qav X (n / 64)) (fun j=>if r≤j∧j<r+m then Y (j - r) else R j) (n+m)) (hR2:∀i,(fun j=>if r≤j∧j<r+m then Y (j - r) else R j) i<256)
 (hX:∀i,X i<256) (hY:∀i,Y i<256) (hq:∀i,i<n % 64→R i=X (64*(n / 64)+i)):StG E wn p (n+m) (cat n X Y):=by
 have e:(n+m) / 64=n / 64:=by omega
 have e2:(n+m) % 64=r+m:=by omega
 refine ⟨⟨_,?_,hR2,?_⟩,qh6 hX hY⟩
 ·rw [e,qez (Y:=X) (n / 64) (fun i hi=>by unfold cat;rw [if_pos (by omega)])]
  exact hrow
 ·intro i hi
  show (if r≤i∧i<r+m then Y (i - r) else R i)=_
  rw [e]
  unfold cat
  by_cases h1:r≤i
  ·rw [if_pos ⟨h1,by omega⟩,if_neg (by omega)]
   congr 1
   omega
  ·rw [if_neg (by omega),if_pos (by omega),hq i (by omega)]
theorem qpu {E:Env} {wn:World} {p n:Nat} {s:W8} {R:Nat→Nat} (h:qbk E wn p s R n) (hR:∀i,R i<256):View wn (some ⟨p,8,none⟩) p 8 64 (fun i=>((R i:Nat):Int)):=by
 refine ⟨fun _=>rfl,fun i hi=>?_,fun i hi=>?_,by omega⟩
 ·have c:=World.rowIs.cell h (i:=8+i) (by have:=E.big;omega)
  rw [c]
  unfold stc
  rw [if_neg (by omega),if_pos (by omega),show 8+i - 8=i by omega]
 ·have:=hR i
  omega
theorem qpv {n r q:Nat} {X Y R:Nat→Nat} (hr:r=n % 64) (q1:q+r≤64) (q2:64≤q+r) (hq:∀i,i<n % 64→R i=X (64*(n / 64)+i)) :
 qc1 (qav X (n / 64)) (fun j=>if r≤j∧j<r+q then Y (j - r) else R j)=qav (cat n X Y) ((n+q) / 64):=by
 rw [show (n+q) / 64=n / 64+1 by omega]
 simp only [qav]
 rw [←qez (X:=X) (Y:=cat n X Y) (n / 64) (fun i hi=>by unfold cat;rw [if_pos (by omega)])]
 refine qey (fun i hi=>?_) _
 show (if r≤i∧i<r+q then Y (i - r) else R i)=cat n X Y (64*(n / 64)+i)
 unfold cat
 by_cases h1:r≤i
 ·rw [if_pos ⟨h1,by omega⟩,if_neg (by omega)]
  congr 1
  omega
 ·rw [if_neg (by omega),if_pos (by omega),hq i (by omega)]
theorem qpw {w:World} {a a2:Option Addr} {b off m:Nat} {Y:Nat→Nat} (h:View w a b off m (fun i=>(Y i:Int))) (q:Nat) (ha:0<m - q→a2=some ⟨b,off+q,none⟩):View w a2 b (off+q) (m - q) (fun i=>(Y (q+i):Int)) :=
 ⟨ha,fun i hi=>by rw [Nat.add_assoc];exact h.cell (q+i) (by omega),fun i hi=>h.bd (q+i) (by omega),by have:=h.len;omega⟩
set_option maxRecDepth 100000 in
set_option maxHeartbeats 4000000 in
theorem qj3 {E : Env} (w : World) (p n : Nat) (X : Nat → Nat) (h : StG E w p n X) (a : Option Addr) (b off m c : Nat) (Y : Nat → Nat) (hv : View w a b off m (fun i => (Y i : Int))) (hY : ∀ i, Y i < 256) (hbp : 0 < m → b ≠ p) (hmc : m ≤ c)
    (hK:qc3 w) (hw:2<w.heap.size) (hp3:p≠2) (hlen:n+m≤1152921504606846976) :
    Calls Tryz.prog 65 #[.pointer (some ⟨p,0,none⟩),.slice a m c] w fun e w'=>e=.returned (.tuple #[])∧Save p w w'∧StG E w' p (n+m) (cat n X Y):=by
  have hE:=E.big
  obtain ⟨R,hr,hR,hq⟩:=h.ex
  have l0:=qbk.len hr
  have l1:=hr.frozen 72
  by_cases h0:n % 64=0
  · have r0:((n:Int) % 64)=0:=by omega
    have LP:Lp E w (w.setCell ⟨p,72,none⟩ (.int .i64 ((n+m:Nat):Int))) p n m b off 0 X Y (.slice a m c):=by
      refine ⟨by omega,by omega,⟨R,?_,hR⟩,(Save.refl _ _).setCell _ _,a,c,rfl,hmc,?_⟩
      · rw [qez (Y:=X) ((n+0) / 64) (fun i hi=>by unfold cat;rw [if_pos (by omega)])]
        exact qbk.setLen hr _
      · exact (hv.save ((Save.refl p w).setCell 72 _) hbp).congr (fun i _=>by simp)
    have HL:Hid (Lp E w (w.setCell ⟨p,72,none⟩ (.int .i64 ((n+m:Nat):Int))) p n m b off 0 X Y (.slice a m c)):=LP
    have HV:Hid (View w a b off m (fun i=>(Y i:Int))):=hv
    have HS:Hid (StG E w p n X):=h
    have HK:Hid (qc3 w):=hK
    clear LP hv h hK hq hR hr
    go_enter Tryz.func65,Tryz.ntmps65
    go_wp2_with fail
    clear r0
    go_loopg [1] m (fun g v wr=>∃k,g=m - k∧Lp E w wr p n m b off k X Y v)
    case atStart=>exact ⟨0,by omega,HL.out⟩
    case round =>
      obtain ⟨k,rfl,hR⟩:=hrel
      clear HL
      obtain ⟨a',c',rfl,hc',hv'⟩:=hR.sl
      obtain ⟨R',hrow,hR'⟩:=hR.row
      have hk:=hR.kle
      by_cases hbig:64≤m - k
      · have ok:=qdk (cat n X Y) ((n+k) / 64)
        have Hf:Hid (qc1 (qav (cat n X Y) ((n+k) / 64)) (fun i=>Y (k+i))=qav (cat n X Y) ((n+(k+64)) / 64)):=qg9 hR.al
        obtain rfl:=hv'.at_ (by omega)
        have hrg:Rg E w wr p (qav (cat n X Y) ((n+k) / 64)) R' (n+m) (some ⟨b,off+k,none⟩) b (off+k) (fun i=>Y (k+i)) :=
          ⟨hrow,hR.save,⟨fun _=>rfl,fun i hi=>hv'.cell i (by omega),fun i hi=>hv'.bd i (by omega),by omega⟩,HK.out.save hR.save hw hp3,Nat.lt_of_lt_of_le hw hR.save.size⟩
        obtain ⟨s,hs⟩:∃s,s=qav (cat n X Y) ((n+k) / 64):=⟨_,rfl⟩
        obtain ⟨s',hs'⟩:∃s,s=qav (cat n X Y) ((n+(k+64)) / 64):=⟨_,rfl⟩
        rw [←hs] at ok hrow hrg Hf
        rw [←hs'] at Hf
        have Hs':Hid (s'=qav (cat n X Y) ((n+(k+64)) / 64)):=hs'
        have HR:Hid (Lp E w wr p n m b off k X Y (.slice (some ⟨b,off+k,none⟩) (m - k) c')):=hR
        have hy:∀i,(fun i=>Y (k+i)) i<256:=fun i=>hY _
        have HG:Hid (Rg E w wr p s R' (n+m) (some ⟨b,off+k,none⟩) b (off+k) (fun i=>Y (k+i))):=hrg
        have ⟨c0,c1,c2,c3,c4,c5,c6,c7⟩:=hrow.cells
        have ⟨f0,f1,f2,f3,f4,f5,f6,f7⟩:=hrow.thaw
        have q1:(64:Int)≤(c':Int):=by omega
        have q2:(0:Int)≤64:=by omega
        have HW:Hid (View wr (some ⟨b,off+k,none⟩) b (off+k) (m - k) (fun i=>(Y (k+i):Int))):=hv'
        clear hs hs' hR hrg hv' hrow
        go_wp2_with fail
        go_region_with (go_at_call 93;refine (qem _ s s' ok _ b (off+k) c' (fun i=>Y (k+i)) HG.out.drew.view hy HG.out.drew.roots HG.out.drew.big Hf.out).mono ?_;rintro _ w2 ⟨rfl,hb2⟩;have ⟨c0,c1,c2,c3,c4,c5,c6,c7⟩:=(HG.out.drew.next hb2).row.cells;have ⟨f0,f1,f2,f3,f4,f5,f6,f7⟩:=(HG.out.drew.next hb2).row.thaw)
        have g2:=HG.out.drew.next hb2
        have r2:qbk E (eight w2 p s') p s' R' (n+m):=g2.row.eight s'
        have s2:Save p w (eight w2 p s'):=g2.save.eight s'
        have s3:Save p wr (eight w2 p s'):=((Save.refl p wr).drew.trans (Save.of_below hb2)).eight s'
        obtain ⟨wn,hwn⟩:∃x,x=eight w2 p s':=⟨_,rfl⟩
        rw [←hwn] at r2 s2 s3
        delta eight at hwn
        rw [←hwn]
        have HN:Hid (qbk E wn p s' R' (n+m)∧Save p w wn∧Save p wr wn):=⟨r2,s2,s3⟩
        clear r2 s2 s3 hwn g2 c0 c1 c2 c3 c4 c5 c6 c7 f0 f1 f2 f3 f4 f5 f6 f7 hb2
        go_wp2_with fail
        · go_roundg (m - (k+64))
          case measure=>omega
          case rel =>
            rw [Hs'.out] at HN
            exact ⟨k+64,rfl,HR.out.next hbig hR' HN.out.1 HN.out.2.1 _ _ (by omega) (qf7 _ _ _ _ _ _ (by omega))⟩
        · go_roundg (m - (k+64))
          case measure=>omega
          case rel =>
            rw [Hs'.out] at HN
            exact ⟨k+64,rfl,HR.out.next hbig hR' HN.out.1 HN.out.2.1 _ _ (by omega) (qha HW.out HN.out.2.2 hbp 64 hbig)⟩
      · have HR:Hid (Lp E w wr p n m b off k X Y (.slice a' (m - k) c')):=hR
        have HV2:Hid (View wr a' b (off+k) (m - k) (fun i=>(Y (k+i):Int))):=hv'
        clear hR hv'
        go_wp2_with ((refine qb2 (by rfl) (.tmp 68) (.tmp 69) (by rfl) p 8 64 64 E.t E.N _ (by rfl) hrow (by omega) a' b (off+k) (m - k) c' _ (by rfl) HV2.out (m - k) (Nat.min_eq_left (by omega)).symm ?_);intro wn hsn hrn)
        go_end0
        exact ⟨rfl,HR.out.save.trans hsn,qpt (qh6 HS.out.bd hY) HR.out.al hk (by omega) hR' hY hrn⟩
  · obtain ⟨r,hr0⟩:∃r,r=n % 64:=⟨_,rfl⟩
    have r0:((n:Int) % 64)=((r:Nat):Int):=by omega
    have r1:0<r:=by omega
    have r2:r<64:=by omega
    have hrow1:qbk E (w.setCell ⟨p,72,none⟩ (.int .i64 ((n:Int)+(m:Int)))) p (qav X (n / 64)) R (n+m):=qbk.setLen hr (n+m)
    have hv1:View (w.setCell ⟨p,72,none⟩ (.int .i64 ((n:Int)+(m:Int)))) a b off m (fun i=>(Y i:Int)):=hv.save ((Save.refl p w).setCell 72 _) hbp
    have HS1:Hid (Save p w (w.setCell ⟨p,72,none⟩ (.int .i64 ((n:Int)+(m:Int))))):=(Save.refl p w).setCell 72 _
    have HS:Hid (StG E w p n X):=h
    have HK:Hid (qc3 w):=hK
    have HQ:Hid (r=n % 64∧(∀i,i<n % 64→R i=X (64*(n / 64)+i))):=⟨hr0,hq⟩
    have HV1:Hid (View (w.setCell ⟨p,72,none⟩ (.int .i64 ((n:Int)+(m:Int)))) a b off m (fun i=>(Y i:Int))):=hv1
    have HW1:Hid (qbk E (w.setCell ⟨p,72,none⟩ (.int .i64 ((n:Int)+(m:Int)))) p (qav X (n / 64)) R (n+m)):=hrow1
    clear hv h hK hq hr hr0 h0 hv1 hrow1
    by_cases hsm:r+m<64
    · go_enter Tryz.func65,Tryz.ntmps65
      go_wp2_with fail
      rw [r0,qh7 _ p r r2]
      go_wp2_with ((refine qb2 (by rfl) (.tmp 28) (.tmp 29) (by rfl) p (8+r) (64 - r) (64 - r) E.t E.N _ (by rfl) HW1.out (by omega) a b off m c _ (by rfl) HV1.out m (Nat.min_eq_left (by omega)).symm ?_);intro wn hsn hrn)
      refine bodyPost_ret (results_none rfl _ _ _) rfl ?_
      have X1:=qh8 r2 (by omega) hR hY hrn
      exact ⟨rfl,HS1.out.trans hsn,qsq HQ.out.1 hsm X1.1 X1.2 HS.out.bd hY HQ.out.2⟩
    · obtain ⟨q,hq⟩:∃q,q=64 - r:=⟨_,rfl⟩
      have q1:q+r≤64:=by omega
      have q2:64≤q+r:=by omega
      have q3:q≤m:=by omega
      have q4:(q:Int)≤(c:Int):=by omega
      have q5:(0:Int)≤(q:Int):=by omega
      have q6:(q:Int)≤(m:Int):=by omega
      clear hq
      obtain rfl:=HV1.out.at_ (by omega)
      go_enter Tryz.func65,Tryz.ntmps65
      go_wp2_with fail
      rw [r0,qh7 _ p r r2]
      clear r0
      go_wp2_with ((refine qb2 (by rfl) (.tmp 28) (.tmp 29) (by rfl) p (8+r) (64 - r) (64 - r) E.t E.N _ (by rfl) HW1.out (by omega) (some ⟨b,off,none⟩) b off m c _ (by rfl) HV1.out q (show q=min m (64 - r) by omega) ?_);intro wn hsn hrn)
      have X1:=qh8 r2 (by omega) hR hY hrn
      have vn:View wn (some ⟨p,8,none⟩) p 8 64 (fun i=>(((fun j=>if r≤j∧j<r+q then Y (j - r) else R j) i:Nat):Int)):=qpu X1.1 X1.2
      have HG:Hid (Rg E w wn p (qav X (n / 64)) (fun j=>if r≤j∧j<r+q then Y (j - r) else R j) (n+m) (some ⟨p,8,none⟩) p 8 (fun j=>if r≤j∧j<r+q then Y (j - r) else R j)) :=
        ⟨X1.1,HS1.out.trans hsn,vn,HK.out.save (HS1.out.trans hsn) hw hp3,Nat.lt_of_lt_of_le hw (HS1.out.trans hsn).size⟩
      have Hf:Hid (qc1 (qav X (n / 64)) (fun j=>if r≤j∧j<r+q then Y (j - r) else R j)=qav (cat n X Y) ((n+q) / 64)):=qpv HQ.out.1 q1 q2 HQ.out.2
      have ok:=qdk X (n / 64)
      have hy:=X1.2
      obtain ⟨R2,hR2⟩:∃f,f=(fun j=>if r≤j∧j<r+q then Y (j - r) else R j):=⟨_,rfl⟩
      rw [←hR2] at HG Hf hy
      obtain ⟨s,hs⟩:∃s,s=qav X (n / 64):=⟨_,rfl⟩
      obtain ⟨s',hs'⟩:∃s,s=qav (cat n X Y) ((n+q) / 64):=⟨_,rfl⟩
      rw [←hs] at HG Hf ok
      rw [←hs'] at Hf
      have Hs':Hid (s'=qav (cat n X Y) ((n+q) / 64)):=hs'
      have HV2:Hid (View wn (some ⟨b,off,none⟩) b off m (fun i=>(Y i:Int))):=HV1.out.save hsn hbp
      have ⟨c0,c1,c2,c3,c4,c5,c6,c7⟩:=HG.out.row.cells
      have ⟨f0,f1,f2,f3,f4,f5,f6,f7⟩:=HG.out.row.thaw
      clear hR2 hs hs' vn X1 hrn hsn
      go_region_with (go_at_call 93;refine (qem _ s s' ok _ p 8 64 R2 HG.out.drew.view hy HG.out.drew.roots HG.out.drew.big Hf.out).mono ?_;rintro _ w2 ⟨rfl,hb2⟩;have ⟨c0,c1,c2,c3,c4,c5,c6,c7⟩:=(HG.out.drew.next hb2).row.cells;have ⟨f0,f1,f2,f3,f4,f5,f6,f7⟩:=(HG.out.drew.next hb2).row.thaw)
      have g2:=HG.out.drew.next hb2
      have r2':qbk E (eight w2 p s') p s' R2 (n+m):=g2.row.eight s'
      have s2:Save p w (eight w2 p s'):=g2.save.eight s'
      have s3:Save p wn (eight w2 p s'):=((Save.refl p wn).drew.trans (Save.of_below hb2)).eight s'
      obtain ⟨wz,hwz⟩:∃x,x=eight w2 p s':=⟨_,rfl⟩
      rw [←hwz] at r2' s2 s3
      delta eight at hwz
      rw [←hwz]
      rw [Hs'.out] at r2'
      have HV3:Hid (View wz (some ⟨b,off,none⟩) b off m (fun i=>(Y i:Int))):=HV2.out.save s3 hbp
      have HN:Hid (qbk E wz p (qav (cat n X Y) ((n+q) / 64)) R2 (n+m)∧Save p w wz):=⟨r2',s2⟩
      have al:(n+q) % 64=0:=by have:=HQ.out.1;omega
      have HL:Hid (∀a2 c2,m - q≤c2→(0<m - q→a2=some ⟨b,off+q,none⟩)→Lp E w wz p n m b off q X Y (.slice a2 (m - q) c2)):=fun a2 c2 h1 h2=>⟨q3,al,⟨R2,HN.out.1,hy⟩,HN.out.2,a2,c2,rfl,h1,qpw HV3.out q h2⟩
      clear r2' s2 s3 hwz g2 c0 c1 c2 c3 c4 c5 c6 c7 f0 f1 f2 f3 f4 f5 f6 f7 hb2 HG HV2 HV3 HN hy ok Hf Hs' al
      go_wp2_with fail
      · have HL2:Hid (Lp E w wz p n m b off q X Y (.slice (some ⟨b,off,none⟩) (m - q) 0)):=HL.out _ 0 (by omega) (fun h=>by omega)
        clear HL h
        go_loopg [1] (m - q) (fun g v wr=>∃k,g=m - k∧Lp E w wr p n m b off k X Y v)
        case atStart=>exact ⟨q,rfl,HL2.out⟩
        case round =>
          obtain ⟨k,rfl,hR⟩:=hrel
          clear HL2
          obtain ⟨a',c',rfl,hc',hv'⟩:=hR.sl
          obtain ⟨R',hrow,hR'⟩:=hR.row
          have hk:=hR.kle
          by_cases hbig:64≤m - k
          · have ok:=qdk (cat n X Y) ((n+k) / 64)
            have Hf:Hid (qc1 (qav (cat n X Y) ((n+k) / 64)) (fun i=>Y (k+i))=qav (cat n X Y) ((n+(k+64)) / 64)):=qg9 hR.al
            obtain rfl:=hv'.at_ (by omega)
            have hrg:Rg E w wr p (qav (cat n X Y) ((n+k) / 64)) R' (n+m) (some ⟨b,off+k,none⟩) b (off+k) (fun i=>Y (k+i)) :=
              ⟨hrow,hR.save,⟨fun _=>rfl,fun i hi=>hv'.cell i (by omega),fun i hi=>hv'.bd i (by omega),by omega⟩,HK.out.save hR.save hw hp3,Nat.lt_of_lt_of_le hw hR.save.size⟩
            obtain ⟨s,hs⟩:∃s,s=qav (cat n X Y) ((n+k) / 64):=⟨_,rfl⟩
            obtain ⟨s',hs'⟩:∃s,s=qav (cat n X Y) ((n+(k+64)) / 64):=⟨_,rfl⟩
            rw [←hs] at ok hrow hrg Hf
            rw [←hs'] at Hf
            have Hs':Hid (s'=qav (cat n X Y) ((n+(k+64)) / 64)):=hs'
            have HR:Hid (Lp E w wr p n m b off k X Y (.slice (some ⟨b,off+k,none⟩) (m - k) c')):=hR
            have hy:∀i,(fun i=>Y (k+i)) i<256:=fun i=>hY _
            have HG:Hid (Rg E w wr p s R' (n+m) (some ⟨b,off+k,none⟩) b (off+k) (fun i=>Y (k+i))):=hrg
            have ⟨c0,c1,c2,c3,c4,c5,c6,c7⟩:=hrow.cells
            have ⟨f0,f1,f2,f3,f4,f5,f6,f7⟩:=hrow.thaw
            have q1:(64:Int)≤(c':Int):=by omega
            have q2:(0:Int)≤64:=by omega
            have HW:Hid (View wr (some ⟨b,off+k,none⟩) b (off+k) (m - k) (fun i=>(Y (k+i):Int))):=hv'
            clear hs hs' hR hrg hv' hrow
            go_wp2_with fail
            go_region_with (go_at_call 93;refine (qem _ s s' ok _ b (off+k) c' (fun i=>Y (k+i)) HG.out.drew.view hy HG.out.drew.roots HG.out.drew.big Hf.out).mono ?_;rintro _ w2 ⟨rfl,hb2⟩;have ⟨c0,c1,c2,c3,c4,c5,c6,c7⟩:=(HG.out.drew.next hb2).row.cells;have ⟨f0,f1,f2,f3,f4,f5,f6,f7⟩:=(HG.out.drew.next hb2).row.thaw)
            have g2:=HG.out.drew.next hb2
            have r2:qbk E (eight w2 p s') p s' R' (n+m):=g2.row.eight s'
            have s2:Save p w (eight w2 p s'):=g2.save.eight s'
            have s3:Save p wr (eight w2 p s'):=((Save.refl p wr).drew.trans (Save.of_below hb2)).eight s'
            obtain ⟨wn,hwn⟩:∃x,x=eight w2 p s':=⟨_,rfl⟩
            rw [←hwn] at r2 s2 s3
            delta eight at hwn
            rw [←hwn]
            have HN:Hid (qbk E wn p s' R' (n+m)∧Save p w wn∧Save p wr wn):=⟨r2,s2,s3⟩
            clear r2 s2 s3 hwn g2 c0 c1 c2 c3 c4 c5 c6 c7 f0 f1 f2 f3 f4 f5 f6 f7 hb2
            go_wp2_with fail
            · go_roundg (m - (k+64))
              case measure=>omega
              case rel =>
                rw [Hs'.out] at HN
                exact ⟨k+64,rfl,HR.out.next hbig hR' HN.out.1 HN.out.2.1 _ _ (by omega) (qf7 _ _ _ _ _ _ (by omega))⟩
            · go_roundg (m - (k+64))
              case measure=>omega
              case rel =>
                rw [Hs'.out] at HN
                exact ⟨k+64,rfl,HR.out.next hbig hR' HN.out.1 HN.out.2.1 _ _ (by omega) (qha HW.out HN.out.2.2 hbp 64 hbig)⟩
          · have HR:Hid (Lp E w wr p n m b off k X Y (.slice a' (m - k) c')):=hR
            have HV2:Hid (View wr a' b (off+k) (m - k) (fun i=>(Y (k+i):Int))):=hv'
            clear hR hv'
            go_wp2_with ((refine qb2 (by rfl) (.tmp 68) (.tmp 69) (by rfl) p 8 64 64 E.t E.N _ (by rfl) hrow (by omega) a' b (off+k) (m - k) c' _ (by rfl) HV2.out (m - k) (Nat.min_eq_left (by omega)).symm ?_);intro wn hsn hrn)
            go_end0
            exact ⟨rfl,HR.out.save.trans hsn,qpt (qh6 HS.out.bd hY) HR.out.al hk (by omega) hR' hY hrn⟩
      · have HL2:Hid (Lp E w wz p n m b off q X Y (.slice (some ⟨b,off+q,none⟩) (m - q) (c - q))):=HL.out _ (c - q) (by omega) (fun h=>rfl)
        clear HL h
        go_loopg [1] (m - q) (fun g v wr=>∃k,g=m - k∧Lp E w wr p n m b off k X Y v)
        case atStart=>exact ⟨q,rfl,HL2.out⟩
        case round =>
          obtain ⟨k,rfl,hR⟩:=hrel
          clear HL2
          obtain ⟨a',c',rfl,hc',hv'⟩:=hR.sl
          obtain ⟨R',hrow,hR'⟩:=hR.row
          have hk:=hR.kle
          by_cases hbig:64≤m - k
          · have ok:=qdk (cat n X Y) ((n+k) / 64)
            have Hf:Hid (qc1 (qav (cat n X Y) ((n+k) / 64)) (fun i=>Y (k+i))=qav (cat n X Y) ((n+(k+64)) / 64)):=qg9 hR.al
            obtain rfl:=hv'.at_ (by omega)
            have hrg:Rg E w wr p (qav (cat n X Y) ((n+k) / 64)) R' (n+m) (some ⟨b,off+k,none⟩) b (off+k) (fun i=>Y (k+i)) :=
              ⟨hrow,hR.save,⟨fun _=>rfl,fun i hi=>hv'.cell i (by omega),fun i hi=>hv'.bd i (by omega),by omega⟩,HK.out.save hR.save hw hp3,Nat.lt_of_lt_of_le hw hR.save.size⟩
            obtain ⟨s,hs⟩:∃s,s=qav (cat n X Y) ((n+k) / 64):=⟨_,rfl⟩
            obtain ⟨s',hs'⟩:∃s,s=qav (cat n X Y) ((n+(k+64)) / 64):=⟨_,rfl⟩
            rw [←hs] at ok hrow hrg Hf
            rw [←hs'] at Hf
            have Hs':Hid (s'=qav (cat n X Y) ((n+(k+64)) / 64)):=hs'
            have HR:Hid (Lp E w wr p n m b off k X Y (.slice (some ⟨b,off+k,none⟩) (m - k) c')):=hR
            have hy:∀i,(fun i=>Y (k+i)) i<256:=fun i=>hY _
            have HG:Hid (Rg E w wr p s R' (n+m) (some ⟨b,off+k,none⟩) b (off+k) (fun i=>Y (k+i))):=hrg
            have ⟨c0,c1,c2,c3,c4,c5,c6,c7⟩:=hrow.cells
            have ⟨f0,f1,f2,f3,f4,f5,f6,f7⟩:=hrow.thaw
            have q1:(64:Int)≤(c':Int):=by omega
            have q2:(0:Int)≤64:=by omega
            have HW:Hid (View wr (some ⟨b,off+k,none⟩) b (off+k) (m - k) (fun i=>(Y (k+i):Int))):=hv'
            clear hs hs' hR hrg hv' hrow
            go_wp2_with fail
            go_region_with (go_at_call 93;refine (qem _ s s' ok _ b (off+k) c' (fun i=>Y (k+i)) HG.out.drew.view hy HG.out.drew.roots HG.out.drew.big Hf.out).mono ?_;rintro _ w2 ⟨rfl,hb2⟩;have ⟨c0,c1,c2,c3,c4,c5,c6,c7⟩:=(HG.out.drew.next hb2).row.cells;have ⟨f0,f1,f2,f3,f4,f5,f6,f7⟩:=(HG.out.drew.next hb2).row.thaw)
            have g2:=HG.out.drew.next hb2
            have r2:qbk E (eight w2 p s') p s' R' (n+m):=g2.row.eight s'
            have s2:Save p w (eight w2 p s'):=g2.save.eight s'
            have s3:Save p wr (eight w2 p s'):=((Save.refl p wr).drew.trans (Save.of_below hb2)).eight s'
            obtain ⟨wn,hwn⟩:∃x,x=eight w2 p s':=⟨_,rfl⟩
            rw [←hwn] at r2 s2 s3
            delta eight at hwn
            rw [←hwn]
            have HN:Hid (qbk E wn p s' R' (n+m)∧Save p w wn∧Save p wr wn):=⟨r2,s2,s3⟩
            clear r2 s2 s3 hwn g2 c0 c1 c2 c3 c4 c5 c6 c7 f0 f1 f2 f3 f4 f5 f6 f7 hb2
            go_wp2_with fail
            · go_roundg (m - (k+64))
              case measure=>omega
              case rel =>
                rw [Hs'.out] at HN
                exact ⟨k+64,rfl,HR.out.next hbig hR' HN.out.1 HN.out.2.1 _ _ (by omega) (qf7 _ _ _ _ _ _ (by omega))⟩
            · go_roundg (m - (k+64))
              case measure=>omega
              case rel =>
                rw [Hs'.out] at HN
                exact ⟨k+64,rfl,HR.out.next hbig hR' HN.out.1 HN.out.2.1 _ _ (by omega) (qha HW.out HN.out.2.2 hbp 64 hbig)⟩
          · have HR:Hid (Lp E w wr p n m b off k X Y (.slice a' (m - k) c')):=hR
            have HV2:Hid (View wr a' b (off+k) (m - k) (fun i=>(Y (k+i):Int))):=hv'
            clear hR hv'
            go_wp2_with ((refine qb2 (by rfl) (.tmp 68) (.tmp 69) (by rfl) p 8 64 64 E.t E.N _ (by rfl) hrow (by omega) a' b (off+k) (m - k) c' _ (by rfl) HV2.out (m - k) (Nat.min_eq_left (by omega)).symm ?_);intro wn hsn hrn)
            go_end0
            exact ⟨rfl,HR.out.save.trans hsn,qpt (qh6 HS.out.bd hY) HR.out.al hk (by omega) hR' hY hrn⟩
end Go.Proofs.YtemcneddbhgadaaGreatDoor.Dg
