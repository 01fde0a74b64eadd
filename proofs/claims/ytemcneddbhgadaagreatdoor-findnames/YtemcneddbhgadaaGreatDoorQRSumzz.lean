import Derived.Test.YtemcneddbhgadaaGreatDoorQRMixzz
import Derived.Deep.RegionHeld3
import Derived.Deep.AppendLies
import Derived.Laws.AppendOwnNone
import Derived.Deep.DeepHandedRow
import Derived.ProofKit
namespace Go.Proofs.YtemcneddbhgadaaGreatDoor.Dg
open Go.RowKit
def vals (Y:Nat→Int) (j:Nat):List Value:=(List.range j).map (fun i=>Value.int .u8 (Y i))
theorem qle (Y:Nat→Int) (j:Nat):(vals Y j).length=j:=by simp [vals]
theorem vals_succ (Y:Nat→Int) (j:Nat):vals Y j++[.int .u8 (Y j)]=vals Y (j+1):=by
 unfold vals
 rw [List.range_succ]
 simp
theorem qsy {w':World} {B:Nat} {v:Value} {n:Nat} {Y:Nat→Int} (h:w'.ownsRow B 5 1 v n (vals Y n)) (hb:∀i,i<n→0≤Y i∧Y i≤255) (hn:n≤281474976710656) :
 ∃a g c,v=.slice a n c∧View w' a g 0 n Y∧n≤c∧(a≠none→B≤g∧a=some ⟨g,0,none⟩):=by
 rcases h.2 with ⟨rfl,h0⟩ | ⟨g,cap,cur,rfl,hlt,hcs⟩
 ·subst h0
  exact ⟨none,0,0,rfl,⟨fun h=>absurd h (by omega),fun i h=>absurd h (by omega),fun i h=>absurd h (by omega),by omega⟩,by omega,fun h=>absurd rfl h⟩
 ·refine ⟨some ⟨g,0,none⟩,g,cap,rfl,⟨fun _=>rfl,fun i hi=>?_,hb,hn⟩,hcs.2.1,fun _=>⟨hlt,rfl⟩⟩
  rw [Nat.zero_add,h.cellAt i (by omega)]
  simp [vals,hi]
open Go.RowKit
theorem vals_cell {Y:Nat→Int} {n j:Nat} {u:Value} (hu:(vals Y n)[j]?=some u):j<n∧u=.int .u8 (Y j):=by
 have hj:j<n:=by
  rcases Nat.lt_or_ge j n with x | x
  ·exact x
  ·rw [List.getElem?_eq_none (by simpa [vals] using x)] at hu;cases hu
 refine ⟨hj,?_⟩
 unfold vals at hu
 rw [List.getElem?_map,List.getElem?_range hj] at hu
 exact (Option.some.inj hu).symm
theorem vals_one {Y:Nat→Int} {n:Nat}:∀u∈vals Y n,u.oneCell'=true:=by
 intro u hu
 obtain ⟨i,_,rfl⟩:=List.mem_map.1 hu
 rfl
theorem vals_congr {Y Z:Nat→Int} {n:Nat} (h:∀i,i<n→Y i=Z i):vals Y n=vals Z n:=by
 unfold vals
 refine List.map_congr_left (fun i hi=>?_)
 rw [h i (by simpa using hi)]
theorem grown_below {B:Nat} {w w':World} {v:Value} {e size n:Nat} {xs:List Value} {B0:Nat} (hg:w.grownBy w' v.ownBlock) (ho:w.ownsRow B0 e size v n xs) (h0:B≤B0) (hB:B≤w.heap.size):Below B w w' :=
 ⟨hg.os,hg.tape,hg.output,hg.size,fun k hk=>hg.block k (by omega) (fun e=>by have:=(ho.lt k e.symm).1;omega)⟩
theorem wpList_append_bytes {w : World} {ops : Array Oper} {rest : List Oper} {o : Oper} {a : Act} {Q : Exit → Act → World → Prop} (hgd : o.guard = none) (s x : Operand)
    (ho:o.op=.call { callee:=.builtin .append,args:=#[s,x],argTypes:=#[33,33] }) (base:Nat) (v:Value) (k:Nat) (xs:List Value) (hs:a.eval s=v) (hown:w.ownsRow base 5 1 v k xs)
    (sa:Option Addr) (b off n c:Nat) (Y:Nat→Int) (hx:a.eval x=.slice sa n c) (hv:View w sa b off n Y) (hnil:sa=none→c=0) (hk:k+n≤140737488355328) (hbase:base≤w.heap.size)
    (h:∀v' w',w'.ownsRow base 5 1 v' (k+n) (xs++vals Y n)→w.grownBy w' v.ownBlock→(v'=.slice none 0 0→v=.slice none 0 0)→wpList Tryz.prog ops Q rest (a.put o.dst v') w'):wpList Tryz.prog ops Q (o::rest) a w:=by
  obtain ⟨i0,hi0,hz0,hz1,hz2⟩:=info_parts Tryz.info5
  cases sa with
  | none =>
    have hn:n=0:=by
      rcases Nat.eq_zero_or_pos n with e | e
      · exact e
      · cases hv.at_ e
    subst hn
    obtain rfl:=hnil rfl
    refine wpList_append_own_none hgd s x 33 ho base 5 i0 1 Tryz.underlying33 hi0 v k xs hs hown hx ?_
    refine h v w ?_ ⟨rfl,rfl,rfl,Nat.le_refl _,fun _ _ _=>rfl⟩ id
    simpa [vals] using hown
  | some p =>
    refine wpList_append_own _ hgd s x 33 ho base 5 i0 (.int .u8 0) 1 1 Tryz.underlying33 hi0 hz0 hz1 hz2 rfl (by decide) v k xs hs hown p n c (vals Y n) hx (by simp [vals]) ?_ vals_one (by unfold maxLen;omega) (by omega) hbase (fun v' w' h1 h2 h3=>h v' w' h1 h2 (fun e=>(h3.1 e).1))
    intro j u hu
    obtain ⟨hj,rfl⟩:=vals_cell hu
    have hp:p=⟨b,off,none⟩:=Option.some.inj (hv.at_ (by omega))
    subst hp
    rw [Go.WideShapes.add_plain]
    exact hv.cell j hj
theorem qd5 (w:World) (x:Int) (h0:0≤x) (h1:x≤255):View (w.alloc (.cells #[.int .u8 x] 5)) (some ⟨w.heap.size,0,none⟩) w.heap.size 0 1 (fun _=>x):=by
 refine ⟨fun _=>rfl,fun i hi=>?_,fun _ _=>⟨h0,h1⟩,by omega⟩
 have:i=0:=by omega
 subst this
 rw [cell_of_row _ _ _ _ 5 _ (heap_alloc_new w _)]
 rfl
open Go.RowKit
def pm (n:Nat) (X:Nat→Nat) (i:Nat):Int:=((cat n X (padb n) i:Nat):Int)
theorem qyh {n:Nat} {X:Nat→Nat} {i:Nat} (h:i<n):pm n X i=((X i:Nat):Int):=by unfold pm cat;rw [if_pos h]
theorem qwa (n:Nat) (X:Nat→Nat) (j:Nat):pm n X (n+j)=((padb n j:Nat):Int):=by unfold pm cat;rw [if_neg (by omega),show n+j - n=j by omega]
theorem qs4 (n:Nat) (X:Nat→Nat):pm n X n=128:=by
 have:=qwa n X 0
 rw [Nat.add_zero] at this
 rw [this]
 rfl
theorem qi4 (n:Nat):1≤zend n:=by unfold zend;split <;> omega
theorem qqg (n:Nat):zend n≤64:=by unfold zend;split <;> omega
theorem qmt (n j:Nat) (h1:1≤j) (h2:j≤zend n):(n+j) % 64=56↔j=zend n:=by
 unfold zend at h2 ⊢
 split at h2
 ·rw [if_pos (by assumption)];omega
 ·rw [if_neg (by assumption)];omega
theorem qwb (n:Nat) (X:Nat→Nat) (j:Nat) (h1:1≤j) (h2:j<zend n):pm n X (n+j)=0:=by
 rw [qwa]
 unfold padb
 rw [if_neg (by omega),if_neg (by omega)]
 rfl
theorem qyi (n:Nat) (X:Nat→Nat) (j:Nat) (hj:j<8):pm n X (n+zend n+j)=(((8*n) / 2 ^ (56 - 8*j) % 256:Nat):Int):=by
 have:=qi4 n
 rw [Nat.add_assoc,qwa]
 unfold padb
 rw [if_neg (by omega),if_pos ⟨by omega,by omega⟩,show zend n+j - zend n=j by omega]
theorem qz5 {n:Nat} {X:Nat→Nat} (hX:∀i,X i<256) (i:Nat):0≤pm n X i∧pm n X i≤255:=by
 have:=qh6 (n:=n) hX (qi2 n) i
 unfold pm
 omega
theorem qgq {w:World} {B e size n:Nat} {v:Value} {xs:List Value} (h:w.ownsRow B e size v n xs) (h0:0<n):∃g cap,v=.slice (some ⟨g,0,none⟩) n cap∧n≤cap∧B≤g∧g<w.heap.size:=by
 rcases h.2 with ⟨_,h1⟩ | ⟨g,cap,cur,hv,hB,hg,hc,_⟩
 ·omega
 ·have:=h.lt g (by rw [hv];rfl)
  exact ⟨g,cap,hv,hc,hB,this.2⟩
set_option maxRecDepth 100000 in
set_option maxHeartbeats 1600000 in
theorem qn0 (w:World) (a:Option Addr) (b off n c:Nat) (X:Nat→Nat) (hv:View w a b off n (fun i=>(X i:Int))) (hX:∀i,X i<256) (hnil:a=none→c=0) (hn:n≤140737488355200) :
 Calls Tryz.prog 83 #[.slice a n c] w fun e w'=>∃g cap,e=.returned (.slice (some ⟨g,0,none⟩) (n+zend n+8) cap)∧View w' (some ⟨g,0,none⟩) g 0 (n+zend n+8) (pm n X)∧n+zend n+8≤cap∧w.heap.size≤g∧Below w.heap.size w w':=by
 have own0:=World.ownsRow_lit (base:=w.heap.size) (e:=5) (size:=1) w #[] 0 (Nat.le_refl _) (by decide) rfl
 have v0:View (w.alloc (.cells #[] 5)) a b off n (fun i=>(X i:Int)):=hv.below ((Below.refl _ _).alloc (Nat.le_refl _) _)
 have HV0:Hid (View (w.alloc (.cells #[] 5)) a b off n (fun i=>(X i:Int))):=v0
 clear hv v0
 have z1:=qi4 n
 have z2:=qqg n
 obtain ⟨z,hz⟩:∃z,z=zend n:=⟨_,rfl⟩
 have HZ:Hid (z=zend n):=hz
 rw [←hz] at z1 z2
 go_enter Tryz.func83,Tryz.ntmps83
 go_wp2_with (refine wpList_append_bytes (by rfl) (.tmp 6) (.tmp 7) (by rfl) w.heap.size _ 0 [] (by rfl) own0 a b off n c _ (by rfl) HV0.out hnil (by omega) (by simp) ?_)
 intro v1 w1 own1 gr1 nn1
 have b1:Below w.heap.size w w1:=((Below.refl _ _).alloc (Nat.le_refl _) _).trans (grown_below gr1 own0 (Nat.le_refl _) (by simp))
 replace own1:w1.ownsRow w.heap.size 5 1 v1 n (vals (pm n X) n):=by
  rw [vals_congr (fun i hi=>qyh hi)]
  simpa using own1
 clear own0 gr1 nn1 HV0
 have s1:=b1.size
 go_wp2_with (refine wpList_append_bytes (by rfl) (.tmp 9) (.tmp 10) (by rfl) w.heap.size _ n _ (by rfl) (own1.alloc _) (some ⟨w1.heap.size,0,none⟩) w1.heap.size 0 1 1 _ (by rfl) (qd5 w1 128 (by decide) (by decide)) (fun h=>by cases h) (by omega) (by simp;omega) ?_)
 intro v2 w2 own2 gr2 nn2
 have b2:Below w.heap.size w w2:=(b1.alloc s1 _).trans (grown_below gr2 (own1.alloc _) (Nat.le_refl _) (by simp;omega))
 replace own2:w2.ownsRow w.heap.size 5 1 v2 (n+1) (vals (pm n X) (n+1)):=by
  rw [←vals_succ,qs4]
  exact own2
 clear own1 gr2 nn2 b1 s1
 go_wp2_with fail
 go_loopg [3] (z - 1) (fun g v wr=>∃k:Nat,k+1≤z∧g=z - 1 - k∧wr.ownsRow w.heap.size 5 1 v (n+1+k) (vals (pm n X) (n+1+k))∧Below w.heap.size w wr)
 case atStart=>exact ⟨0,z1,rfl,own2,b2⟩
 case round =>
  obtain ⟨k,hk,rfl,own3,b3⟩:=hrel
  clear own2 b2
  have s3:=b3.size
  obtain ⟨g,cap,rfl,hcap,hgB,hgl⟩:=qgq own3 (by omega)
  have zm:=qmt n (1+k) (by omega) (by rw [←hz];omega)
  rw [←hz,←Nat.add_assoc] at zm
  by_cases hlt:k+1<z
  ·have tst:¬(n+1+k) % 64=56:=fun e=>by have:=zm.1 e;omega
   have t1:((((n+1+k:Nat):Int) % 64) != 56)=true:=by
    rw [bne_iff_ne]
    intro e
    exact tst (by omega)
   have pz:=qwb n X (1+k) (by omega) (by rw [←hz];omega)
   rw [←Nat.add_assoc] at pz
   clear zm tst
   go_wp2_with (refine wpList_append_bytes (by rfl) (.tmp 16) (.tmp 17) (by rfl) w.heap.size _ (n+1+k) _ (by rfl) (own3.alloc _) (some ⟨wr.heap.size,0,none⟩) wr.heap.size 0 1 1 _ (by rfl) (qd5 wr 0 (by decide) (by decide)) (fun h=>by cases h) (by omega) (by simp;omega) ?_)
   intro v4 w4 own4 gr4 nn4
   have b4:Below w.heap.size w w4:=(b3.alloc s3 _).trans (grown_below gr4 (own3.alloc _) (Nat.le_refl _) (by simp;omega))
   replace own4:w4.ownsRow w.heap.size 5 1 v4 (n+1+(k+1)) (vals (pm n X) (n+1+(k+1))):=by
    rw [show n+1+(k+1)=n+1+k+1 by omega,←vals_succ,pz]
    exact own4
   clear own3 gr4 nn4 b3 t1
   go_wp2_with fail
   go_roundg (z - 1 - (k+1))
   case measure=>omega
   case rel=>exact ⟨k+1,by omega,rfl,own4,b4⟩
  ·have tst:(n+1+k) % 64=56:=zm.2 (by omega)
   have t1:((((n+1+k:Nat):Int) % 64) != 56)=false:=by
    rw [bne_eq_false_iff_eq]
    omega
   have hkz:k+1=z:=by omega
   obtain ⟨l,hl⟩:∃l,l=8*n:=⟨_,rfl⟩
   obtain ⟨m1,hm1⟩:∃m,m=n+1+k:=⟨_,rfl⟩
   have HL:Hid ((n:Int)*8=(l:Int)∧l=8*n∧m1=n+z):=⟨by omega,hl,by omega⟩
   rw [←hm1] at own3 t1 ⊢
   clear zm tst hkz hl hm1
   go_wp2_with fail
   rw [HL.out.1]
   have own5:wr.ownsRow w.heap.size 5 1 (.slice (some ⟨g,0,none⟩) m1 cap) (n+z+0) (vals (pm n X) (n+z+0)):=by
    have e:n+z+0=m1:=by have:=HL.out.2.2;omega
    rw [e]
    exact own3
   have hl2:l≤1125899906841600:=by have:=HL.out.2.1;omega
   clear own3 t1 hcap hgB hgl hz
   go_loopg [3,5] 8 (fun g v i wr=>∃j:Nat,j≤8∧g=8 - j∧i=.int .i64 (56 - 8*(j:Int))∧wr.ownsRow w.heap.size 5 1 v (n+z+j) (vals (pm n X) (n+z+j))∧Below w.heap.size w wr)
   case atStart=>exact ⟨0,by omega,rfl,rfl,own5,b3⟩
   case round =>
    obtain ⟨j,hj,rfl,rfl,own6,b6⟩:=hrel
    clear own5 b3 s3
    have s6:=b6.size
    obtain ⟨g',cap',rfl,hcap',hgB',hgl'⟩:=qgq own6 (by omega)
    by_cases hj8:j<8
    ·have pl:=qyi n X j hj8
     rw [←HZ.out,←HL.out.2.1] at pl
     have V:((l:Int) / 2 ^ (56 - 8*j) % 256)=((l / 2 ^ (56 - 8*j) % 256:Nat):Int):=by simp
     have q0:l / 2 ^ (56 - 8*j) % 256<256:=Nat.mod_lt _ (by decide)
     obtain ⟨x,hx⟩:∃x,x=l / 2 ^ (56 - 8*j) % 256:=⟨_,rfl⟩
     rw [←hx] at V pl q0
     have HXX:Hid (x=l / 2 ^ (56 - 8*j) % 256):=hx
     have HPL:Hid (pm n X (n+z+j)=(x:Int)):=pl
     have h1:(0:Int)≤56 - 8*(j:Int):=by omega
     clear hx pl
     go_wp2_with (refine wpList_append_bytes (by rfl) (.tmp 27) (.tmp 32) (by rfl) w.heap.size _ (n+z+j) _ (by rfl) (own6.alloc _) (some ⟨wr.heap.size,0,none⟩) wr.heap.size 0 1 1 (fun _=>(x:Int)) (by rfl) (qd5 wr (x:Int) (by omega) (by omega)) (fun h=>by cases h) (by omega) (by simp;omega) ?_)
     intro v7 w7 own7 gr7 nn7
     have b7:Below w.heap.size w w7:=(b6.alloc s6 _).trans (grown_below gr7 (own6.alloc _) (Nat.le_refl _) (by simp;omega))
     replace own7:w7.ownsRow w.heap.size 5 1 v7 (n+z+(j+1)) (vals (pm n X) (n+z+(j+1))):=by
      rw [←Nat.add_assoc,←vals_succ,HPL.out]
      exact own7
     clear own6 gr7 nn7 b6 V
     go_wp2_with fail
     go_roundg (8 - (j+1))
     case measure=>omega
     case rel=>exact ⟨j+1,by omega,rfl,by congr 1;omega,own7,b7⟩
    ·have:j=8:=by omega
     subst this
     have h1:¬(0:Int)≤56 - 8*((8:Nat):Int):=by omega
     obtain ⟨a',g2,c2,e2,hview,hc2,_⟩:=qsy own6 (fun i _=>qz5 hX i) (by omega)
     have ea:a'=some ⟨g',0,none⟩∧c2=cap':=by
      simp only [Value.slice.injEq] at e2
      exact ⟨e2.1.symm,e2.2.2.symm⟩
     obtain ⟨rfl,rfl⟩:=ea
     have eg:g2=g':=by have:=hview.at_ (by omega);injection this with this;injection this with this;exact this.symm
     subst eg
     have HV9:Hid (View wr (some ⟨g2,0,none⟩) g2 0 (n+z+8) (pm n X)∧Below w.heap.size w wr):=⟨hview,b6⟩
     clear hview b6 own6 e2
     go_wp2_with fail
     go_ret
     rw [←HZ.out]
     exact ⟨g2,c2,rfl,HV9.out.1,hc2,hgB',HV9.out.2⟩
open Go.RowKit
theorem qqj (w:World) (s s':W8) (hs:Ok8 s) (a:Option Addr) (b off c:Nat) (B:Nat→Nat) (h:View w a b off 64 (fun i=>(B i:Int))) (hB:∀i,B i<256) (hK:qdv w) (hw:1<w.heap.size) (e:qc1 s B=s') :
 Calls Tryz.prog 84 #[.agg #[.int .u32 s.a,.int .u32 s.b,.int .u32 s.c,.int .u32 s.d,.int .u32 s.e,.int .u32 s.f,.int .u32 s.g,.int .u32 s.h],.slice a 64 c] w fun e w'=>e=.returned (.agg #[.int .u32 s'.a,.int .u32 s'.b,.int .u32 s'.c,.int .u32 s'.d,.int .u32 s'.e,.int .u32 s'.f,.int .u32 s'.g,.int .u32 s'.h])∧Below w.heap.size w w':=by
 subst e
 exact qqi w s hs a b off c B h hB hK hw
structure Rs (w wr:World) (g T:Nat) (Y:Nat→Nat) (s:W8):Prop where
 below:Below w.heap.size w wr
 size:w.heap.size+2≤wr.heap.size
 out:wr.rowIs w.heap.size 31 32 (fun _=>.int .u8 0)
 row:wr.rowIs (w.heap.size+1) 147 8 (fun i=>.int .u32 (w8 s i))
 view:View wr (some ⟨g,0,none⟩) g 0 T (fun i=>(Y i:Int))
 far:w.heap.size+2≤g
 rounds:qdv wr
theorem Rs.next {w wr w2:World} {g T:Nat} {Y:Nat→Nat} {s:W8} (h:Rs w wr g T Y s) (hb:Below wr.heap.size wr w2) (hw:1<w.heap.size):Rs w w2 g T Y s:=by
 have z:=h.size
 exact ⟨h.below.trans (hb.mono (by omega)),Nat.le_trans h.size hb.size,h.out.of_block (hb.block _ (by omega)),h.row.of_block (hb.block _ (by omega)),h.view.below hb,h.far,h.rounds.below hb (by omega)⟩
theorem Rs.put8 {w wr:World} {g T:Nat} {Y:Nat→Nat} {s:W8} (h:Rs w wr g T Y s) (hw:1<w.heap.size) (s':W8):Rs w (eight wr (w.heap.size+1) s') g T Y s':=by
 have sv:Save (w.heap.size+1) wr (eight wr (w.heap.size+1) s'):=(Save.refl _ _).eight s'
 have z:=h.size
 have f:=h.far
 refine ⟨h.below.trans (sv.below (by omega) h.below.size),Nat.le_trans h.size sv.size,sv.row h.out (by omega),?_,h.view.save sv (fun _=>by omega),h.far,fun i hi=>(sv.cell (q:=⟨1,i,none⟩) (by show 1<wr.heap.size;omega) (by show 1≠w.heap.size+1;omega)).trans (h.rounds i hi)⟩
 refine ((((((((h.row.set 0 _).set 1 _).set 2 _).set 3 _).set 4 _).set 5 _).set 6 _).set 7 _).congr (fun i hi=>?_)
 match i,hi with
 | 0,_=>rfl
 | 1,_=>rfl
 | 2,_=>rfl
 | 3,_=>rfl
 | 4,_=>rfl
 | 5,_=>rfl
 | 6,_=>rfl
 | 7,_=>rfl
theorem Rs.cells {w wr:World} {g T:Nat} {Y:Nat→Nat} {s:W8} (h:Rs w wr g T Y s):qur wr (w.heap.size+1) s :=
 ⟨h.row.cell (i:=0) (by omega),h.row.cell (i:=1) (by omega),h.row.cell (i:=2) (by omega),h.row.cell (i:=3) (by omega),h.row.cell (i:=4) (by omega),h.row.cell (i:=5) (by omega),h.row.cell (i:=6) (by omega),h.row.cell (i:=7) (by omega)⟩
theorem Rs.thaw {w wr:World} {g T:Nat} {Y:Nat→Nat} {s:W8} (h:Rs w wr g T Y s):qx7 wr (w.heap.size+1) :=
 ⟨h.row.frozen 0,h.row.frozen 1,h.row.frozen 2,h.row.frozen 3,h.row.frozen 4,h.row.frozen 5,h.row.frozen 6,h.row.frozen 7⟩
def hstp (s:W8) (k i:Nat):Nat:=if i<k then hb s i else 0
theorem qqk (s:W8) (k i:Nat):(if i=k then hb s k else hstp s k i)=hstp s (k+1) i:=by
 unfold hstp
 by_cases e:i=k
 ·subst e
  rw [if_pos rfl,if_pos (by omega)]
 ·rw [if_neg e]
  by_cases l:i<k
  ·rw [if_pos l,if_pos (by omega)]
  ·rw [if_neg l,if_neg (by omega)]
theorem qs7 {w w1:World} {g T:Nat} {Y:Nat→Nat} (hb:Below (((w.alloc (.cells Z32 31)).alloc (.cells Z8 147)).setRow (w.heap.size+1) (arr8 H0)).heap.size (((w.alloc (.cells Z32 31)).alloc (.cells Z8 147)).setRow (w.heap.size+1) (arr8 H0)) w1)
 (hv:View w1 (some ⟨g,0,none⟩) g 0 T (fun i=>(Y i:Int))) (hg:w.heap.size+2≤g) (hK:qdv w) (hw:1<w.heap.size):Rs w w1 g T Y H0:=by
 have hs:=hb.size
 simp only [size_setRow,World.size_alloc] at hs hb
 have n1:((w.alloc (.cells Z32 31)).alloc (.cells Z8 147)).heap[w.heap.size+1]?=some (.cells Z8 147 (0,0)):=by
  have e:=heap_alloc_new (w.alloc (.cells Z32 31)) (.cells Z8 147)
  rwa [World.size_alloc] at e
 have b0:Below w.heap.size w (((w.alloc (.cells Z32 31)).alloc (.cells Z8 147)).setRow (w.heap.size+1) (arr8 H0)):=below_setRow (((Below.refl _ _).alloc (Nat.le_refl _) _).alloc (by simp) _) (by omega) _
 have b1:Below w.heap.size w w1:=b0.trans (hb.mono (by omega))
 refine ⟨b1,by omega,?_,(qbc n1 rfl (fun i hi=>qb1 H0 i hi)).of_block (hb.block _ (by omega)),hv,hg,hK.below b1 hw⟩
 have r:(w.alloc (.cells Z32 31)).rowIs w.heap.size 31 32 (fun _=>.int .u8 0):=by rw [qe2];exact qbb w _ 32 31
 exact ((r.alloc _).of_block (setRow_other _ _ _ _ (by omega))).of_block (hb.block _ (by omega))
set_option maxRecDepth 100000 in
set_option maxHeartbeats 4000000 in
theorem qs8 (w:World) (a:Option Addr) (b off n c:Nat) (X:Nat→Nat) (hv:View w a b off n (fun i=>(X i:Int))) (hX:∀i,X i<256) (hnil:a=none→c=0) (hn:n≤140737488355200) (hK:qdv w) (hw:1<w.heap.size) :
 Calls Tryz.prog 59 #[.slice a n c] w fun e w'=>e=.returned (.agg (qe1 (digest n X)))∧Below w.heap.size w w':=by
 have b0:Below w.heap.size w (((w.alloc (.cells Z32 31)).alloc (.cells Z8 147)).setRow (w.heap.size+1) (arr8 H0)):=below_setRow (((Below.refl _ _).alloc (Nat.le_refl _) _).alloc (by simp) _) (by omega) _
 have HB0:Hid (Below w.heap.size w (((w.alloc (.cells Z32 31)).alloc (.cells Z8 147)).setRow (w.heap.size+1) (arr8 H0))):=b0
 have n1:((w.alloc (.cells Z32 31)).alloc (.cells Z8 147)).heap[w.heap.size+1]?=some (.cells Z8 147 (0,0)):=by
  have e:=heap_alloc_new (w.alloc (.cells Z32 31)) (.cells Z8 147)
  rwa [World.size_alloc] at e
 clear b0
 go_enter Tryz.func59,Tryz.ntmps59
 go_wp2_with (refine wpList_store_row (by rfl) 147 (.tmp 3) (.tmp 8) (by rfl) (w.heap.size+1) (arr8 H0) (by rfl) (by rfl) 147 Z8 n1 (qc8 _) rfl (qi5 _) ?_)
 refine (qn0 _ a b off n c X (hv.below HB0.out) hX hnil hn).mono ?_
 rintro _ w1 ⟨g,cap,rfl,vw1,hcap,hg0,hb1⟩
 have e32:(((w.alloc (.cells Z32 31)).alloc (.cells Z8 147)).setRow (w.heap.size+1) (arr8 H0)).heap.size=w.heap.size+2:=by simp
 have hg:w.heap.size+2≤g:=Nat.le_trans (Nat.le_of_eq e32.symm) hg0
 have R0:Rs w w1 g (n+zend n+8) (cat n X (padb n)) H0:=qs7 hb1 vw1 hg hK hw
 have hT:(n+zend n+8) % 64=0:=by
  have z1:=qi4 n
  have:=(qmt n (zend n) z1 (Nat.le_refl _)).2 rfl
  omega
 have zl:=qqg n
 have Hd:Hid (qav (cat n X (padb n)) ((n+zend n+8) / 64)=digest n X):=by unfold digest;rw [Nat.add_assoc];rfl
 have hY:∀i,cat n X (padb n) i<256:=qh6 hX (qi2 n)
 obtain ⟨T,hTe⟩:∃T,T=n+zend n+8:=⟨_,rfl⟩
 obtain ⟨Y,hYe⟩:∃Y,Y=cat n X (padb n):=⟨_,rfl⟩
 have T1:T≤140737488355328:=by omega
 have T0:0<T:=by omega
 rw [←hTe] at R0 hT Hd hcap ⊢
 rw [←hYe] at R0 Hd hY
 have HR0:Hid (Rs w w1 g T Y H0):=R0
 clear hTe hYe R0 vw1 hb1 e32 hg hg0 HB0 n1 zl hv
 go_wp2_with fail
 go_loopg [5] T (fun gg i wr=>∃k:Nat,k≤T∧k % 64=0∧gg=T - k∧i=.int .i64 k∧Rs w wr g T Y (qav Y (k / 64)))
 case atStart=>exact ⟨0,by omega,by omega,rfl,rfl,HR0.out⟩
 case round =>
  obtain ⟨k,hk,hk64,rfl,rfl,hR⟩:=hrel
  clear HR0
  by_cases hkT:k<T
  ·have hk2:k+64≤T:=by omega
   have ok:=qdk Y (k / 64)
   have vb:View wr (some ⟨g,k,none⟩) g k 64 (fun i=>((Y (k+i):Nat):Int)):=⟨fun _=>rfl,fun i hi=>by have c:=hR.view.cell (k+i) (by omega);rw [Nat.zero_add] at c;exact c,fun i hi=>hR.view.bd (k+i) (by omega),by omega⟩
   have Hf:Hid (qc1 (qav Y (k / 64)) (fun i=>Y (k+i))=qav Y ((k+64) / 64)):=by
    show _=_
    rw [show (k+64) / 64=k / 64+1 by omega]
    simp only [qav]
    rw [show 64*(k / 64)=k by omega]
   obtain ⟨s,hs⟩:∃s,s=qav Y (k / 64):=⟨_,rfl⟩
   obtain ⟨s',hs'⟩:∃s,s=qav Y ((k+64) / 64):=⟨_,rfl⟩
   rw [←hs] at ok hR Hf
   rw [←hs'] at Hf
   have Hs':Hid (s'=qav Y ((k+64) / 64)):=hs'
   have hy:∀i,(fun i=>Y (k+i)) i<256:=fun i=>hY _
   have HR:Hid (Rs w wr g T Y s∧View wr (some ⟨g,k,none⟩) g k 64 (fun i=>((Y (k+i):Nat):Int))):=⟨hR,vb⟩
   have ⟨c0,c1,c2,c3,c4,c5,c6,c7⟩:=hR.cells
   have ⟨f0,f1,f2,f3,f4,f5,f6,f7⟩:=hR.thaw
   have q1:(k:Int)+64≤(cap:Int):=by omega
   have q2:(0:Int)≤(k:Int):=by omega
   have q3:(k:Int)≤(k:Int)+64:=by omega
   have q4:¬cap=k:=by omega
   have q5:IntKind.i64.wrap ((k:Int)+64)=(k:Int)+64:=by rw [IntKind.wrap_i64];omega
   have q6:((k:Int)+64).toNat=k+64:=by omega
   have q7:k+64 - k=64:=by omega
   have bd:Below wr.heap.size wr wr.drew:=(Below.refl _ _).drew
   have z2:=hR.size
   clear hs hs' hR vb
   go_wp2_with fail
   go_region_with (go_at_call 84;refine (qqj _ s s' ok _ g k _ (fun i=>Y (k+i)) (HR.out.2.below bd) hy (HR.out.1.next bd hw).rounds (by show 1<wr.heap.size;omega) Hf.out).mono ?_;rintro _ w2 ⟨rfl,hb2⟩;have ⟨c0,c1,c2,c3,c4,c5,c6,c7⟩:=((HR.out.1.next bd hw).next hb2 hw).cells;have ⟨f0,f1,f2,f3,f4,f5,f6,f7⟩:=((HR.out.1.next bd hw).next hb2 hw).thaw)
   have r2:Rs w (eight w2 (w.heap.size+1) s') g T Y s':=((HR.out.1.next bd hw).next hb2 hw).put8 hw s'
   obtain ⟨wn,hwn⟩:∃x,x=eight w2 (w.heap.size+1) s':=⟨_,rfl⟩
   rw [←hwn] at r2
   delta eight at hwn
   rw [←hwn]
   rw [Hs'.out] at r2
   have HN:Hid (Rs w wn g T Y (qav Y ((k+64) / 64))):=r2
   clear r2 hwn c0 c1 c2 c3 c4 c5 c6 c7 f0 f1 f2 f3 f4 f5 f6 f7 hb2 HR bd
   go_wp2_with fail
   go_roundg (T - (k+64))
   case measure=>omega
   case rel=>exact ⟨k+64,by omega,by omega,rfl,by go_num,HN.out⟩
  ·have hkT2:k=T:=by omega
   have HR:Hid (Rs w wr g T Y (digest n X)):=by
    have e:qav Y (k / 64)=digest n X:=by rw [hkT2];exact Hd.out
    show Rs w wr g T Y (digest n X)
    rw [←e]
    exact hR
   have okd:Ok8 (digest n X):=by unfold digest;exact qdk _ _
   have k1:T≤k:=by omega
   have z2:=hR.size
   clear hR hkT2
   obtain ⟨sd,hsd⟩:∃s,s=digest n X:=⟨_,rfl⟩
   rw [←hsd] at HR okd
   have Hsd:Hid (sd=digest n X):=hsd
   clear hsd Hd
   have HF3:Hid (SF3 w (wr.alloc (.cells Z32 31)) wr.heap.size (fun _=>0)∧(wr.alloc (.cells Z32 31)).rowIs (w.heap.size+1) 147 8 (fun i=>.int .u32 (w8 sd i))):=by
    refine ⟨⟨HR.out.below.alloc HR.out.below.size _,z2,HR.out.out.alloc _,?_⟩,HR.out.row.alloc _⟩
    rw [qe2]
    exact qbb wr _ 32 31
   clear HR
   go_wp2_with fail
   obtain ⟨g6,hg6⟩:∃g,g=wr.heap.size:=⟨_,rfl⟩
   rw [←hg6] at HF3 ⊢
   clear hg6
   go_loopg [7] 32 (fun gg i wx=>∃j:Nat,j≤32∧gg=32 - j∧i=.int .i64 j∧SF3 w wx g6 (hstp sd j)∧wx.rowIs (w.heap.size+1) 147 8 (fun i=>.int .u32 (w8 sd i)))
   case atStart=>exact ⟨0,by omega,rfl,rfl,HF3.out.1.congr (fun i _=>by simp [hstp]),HF3.out.2⟩
   case round =>
    clear HF3
    obtain ⟨j,hj,rfl,rfl,hR,hr8⟩:=hrel
    by_cases hj32:j<32
    ·have cw:=hr8.cell (i:=j / 4) (by omega)
     have lx:=qss okd (j / 4)
     obtain ⟨x,hx⟩:∃x,x=w8 sd (j / 4):=⟨_,rfl⟩
     rw [←hx] at cw lx
     have gj:=hR.row.cell (i:=j) (by omega)
     have fj:=hR.row.frozen j
     have HR:Hid (SF3 w wr g6 (hstp sd j)∧wr.rowIs (w.heap.size+1) 147 8 (fun i=>.int .u32 (w8 sd i))∧x=w8 sd (j / 4)):=⟨hR,hr8,hx⟩
     have m1:(0:Int)≤(j:Int) / 4:=by omega
     have m2:(j:Int) / 4<8:=by omega
     have m3:((j:Int) / 4).toNat=j / 4:=by omega
     have m4:(0:Int)≤24 - 8*((j:Int) % 4):=by omega
     have m5:(24 - 8*((j:Int) % 4)).toNat=24 - 8*(j % 4):=by omega
     clear hR hr8 hx
     go_wp2_with fail
     have V:(x:Int) / 2 ^ (24 - 8*(j % 4)) % 256=((hb sd j:Nat):Int):=by
      unfold hb
      rw [←HR.out.2.2]
      simp
     rw [V]
     clear cw gj fj V m1 m2 m3 m4 m5
     go_roundg (32 - (j+1))
     case measure=>omega
     case rel=>exact ⟨j+1,by omega,rfl,by go_num,(HR.out.1.set j _).congr (fun i _=>qqk sd j i),HR.out.2.1.setOther (by have:=HR.out.1.far;show w.heap.size+1≠g6;omega) _⟩
    ·have:j=32:=by omega
     subst this
     obtain ⟨cs,hg,hsz,hcs⟩:=hR.row
     obtain ⟨os,og,osz,_⟩:=hR.out
     have hi:(Tryz.prog.info? 31).map (·.size)=some cs.size:=by rw [hsz];exact info26
     have h1:cs.all (·.oneCell')=true:=qbn (fun i hi=>⟨_,_,hcs i (by omega)⟩)
     have HR:Hid (SF3 w wr g6 (hstp sd 32)):=hR
     clear hR hr8
     go_wp2_with (first
      | refine wpList_load_row (by rfl) 31 (.tmp 6) (by rfl) g6 (by rfl) 31 cs (0,0) _ hg Tryz.underlying31 rfl hi ?_
      | refine wpList_store_row (by rfl) 31 (.tmp 2) (.tmp 40) (by rfl) w.heap.size cs (by rfl) (by rfl) 31 os og hi (by omega) h1 ?_)
     refine bodyPost_ret (v:=.agg cs) ?_ rfl ?_
     ·exact results_cell_row rfl _ _ w.heap.size 31 cs (0,0) _ rfl (setRow_heap _ _ _ _ _ _ og) Tryz.underlying31 rfl hi
     ·exact ⟨by rw [←Hsd.out,qml hsz (fun i hi=>by rw [hcs i hi];unfold hstp;rw [if_pos hi])],below_setRow HR.out.below (Nat.le_refl _) _⟩
end Go.Proofs.YtemcneddbhgadaaGreatDoor.Dg
