import Derived.Test.YtemcneddbhgadaaGreatDoorQHshzz
import Derived.Test.YtemcneddbhgadaaGreatDoorQRSumzz
import Derived.Test.YtemcneddbhgadaaGreatDoorQBlkPzz
import Derived.Test.YtemcneddbhgadaaGreatDoorQRCutzz
import Derived.Test.YtemcneddbhgadaaGreatDoorFupzz
import Derived.Test.YtemcneddbhgadaaGreatDoorCkzz
import Derived.Test.YtemcneddbhgadaaGreatDoorQGenzz
import Derived.Test.YtemcneddbhgadaaGreatDoorZvzz
namespace Go.Proofs.YtemcneddbhgadaaGreatDoor.Dg
open Go.RowKit Go.Sort Go.Maps Go.MuLone
open Go.RowKit Go.Sort Go.Maps
theorem qkc (w:World) (n:Int) (h1:8≤n) (h2:n≤256):Calls Tryz.prog 45 #[.int .i64 n] w fun e w'=>e=.returned (.bool true)∧w'=w:=by
 go_enter Tryz.func45,Tryz.ntmps45
 go_wp2
 go_ret
 exact ⟨rfl,rfl⟩
theorem qz4:(Tryz.prog.info? 93).map (fun i=>(i.zero,i.size))=some (some (.agg #[.map none,.int .i64 0]),2):=by kernel_rfl
theorem qye:(Tryz.prog.info? 93).map (·.size)=some 2:=by kernel_rfl
set_option maxRecDepth 100000 in
theorem qhh (w:World):Calls Tryz.prog 46 #[] w fun e w'=>e=.returned (.agg #[.map (some (w.heap.size+1)),.int .i64 0])∧Below w.heap.size w w'∧(∀κ,qe4 w' (w.heap.size+1) (fun i=>i=w.heap.size+1) κ [])∧w.heap.size+1<w'.heap.size:=by
 have z64:=(zero_of_info qz4).1
 have hmm:=@run_makeMap Tryz.prog
 have hi:(Tryz.prog.info? 93).map (·.size)=some (#[.map (some (w.heap.size+1)),.int .i64 0]:Array Value).size:=qye
 have hr:((w.alloc (.cells #[.map (some (w.heap.size+1)),.int .i64 0] 93)).alloc (.map #[] 0)).heap[w.heap.size]?=some (.cells #[.map (some (w.heap.size+1)),.int .i64 0] 93 (0,0)):=(heap_alloc_old _ _ (by simp)).trans (heap_alloc_new _ _)
 go_enter Tryz.func46,Tryz.ntmps46
 go_wp2_with fail
 refine bodyPost_ret (v:=.agg #[.map (some (w.heap.size+1)),.int .i64 0]) ?_ rfl ?_
 ·exact results_cell_row rfl _ _ w.heap.size 93 #[.map (some (w.heap.size+1)),.int .i64 0] (0,0) _ rfl hr Tryz.underlying93 rfl hi
 ·refine ⟨rfl,((Below.refl _ _).alloc (Nat.le_refl _) _).alloc (by simp) _,fun κ=>?_,by simp⟩
  have:=qp5 (w.alloc (.cells #[.map (some (w.heap.size+1)),.int .i64 0] 93)) κ
  rw [World.size_alloc] at this
  exact this
def bk0 (bits cbits bh bc bf:Nat):Array Value:=#[.int .i64 bits,.int .i64 cbits]++Array.replicate 32 (.int .u8 0)++#[.int .i32 0,.int .u32 0,.map (some bh),.int .i64 0,.map (some bc),.int .i64 0,.map (some bf),.int .i64 0]
theorem qs1 (bits cbits bh bc bf:Nat):(bk0 bits cbits bh bc bf).size=42:=by simp [bk0]
set_option maxRecDepth 100000 in
theorem qyf (bits cbits bh bc bf:Nat):Tryz.prog.built 95 [(0,.int .i64 bits),(1,.int .i64 cbits),(4,.agg #[.map (some bh),.int .i64 0]),(5,.agg #[.map (some bc),.int .i64 0]),(6,.agg #[.map (some bf),.int .i64 0])]=some (bk0 bits cbits bh bc bf):=by kernel_rfl
theorem qv8 (bits cbits bh bc bf:Nat) (s:List Nat) (hs:s.length=32) (i:Nat) (hi:i<42):((bk0 bits cbits bh bc bf).toList.take 2++(bv s++(bk0 bits cbits bh bc bf).toList.drop (2+(bv s).length))).toArray[i]?=some (bkc bits cbits (gd s) bh 0 bc 0 bf 0 0 i):=by
 have e0:(bk0 bits cbits bh bc bf).toList=([.int .i64 bits,.int .i64 cbits]++List.replicate 32 (.int .u8 0))++[.int .i32 0,.int .u32 0,.map (some bh),.int .i64 0,.map (some bc),.int .i64 0,.map (some bf),.int .i64 0]:=by simp [bk0]
 have e1:(bk0 bits cbits bh bc bf).toList.take 2=[.int .i64 bits,.int .i64 cbits]:=by
  rw [e0,List.append_assoc]
  exact List.take_left' rfl
 have e2:(bk0 bits cbits bh bc bf).toList.drop (2+(bv s).length)=[.int .i32 0,.int .u32 0,.map (some bh),.int .i64 0,.map (some bc),.int .i64 0,.map (some bf),.int .i64 0]:=by
  rw [bv_len,hs,e0]
  exact List.drop_left' (by simp)
 rw [e1,e2,List.getElem?_toArray]
 by_cases h0:i<2
 ·match i,h0 with
  | 0,_=>rfl
  | 1,_=>rfl
 ·rw [List.getElem?_append_right (by simp;omega)]
  by_cases h1:i<34
  ·rw [List.getElem?_append_left (by rw [bv_len,hs];simp;omega)]
   have:i - [Value.int .i64 bits,Value.int .i64 cbits].length=i - 2:=rfl
   rw [this,bv_at (by omega)]
   unfold bkc
   rw [if_neg (by omega),if_neg (by omega),if_pos h1]
  ·rw [List.getElem?_append_right (by rw [bv_len,hs];simp;omega),bv_len,hs]
   have:i - [Value.int .i64 bits,Value.int .i64 cbits].length - 32=i - 34:=by simp;omega
   rw [this]
   obtain ⟨j,rfl⟩:∃j,i=34+j:=⟨i - 34,by omega⟩
   rw [Nat.add_sub_cancel_left]
   have hj:j<8:=by omega
   clear hi this
   match j,hj with
   | 0,_=>rfl
   | 1,_=>rfl
   | 2,_=>rfl
   | 3,_=>rfl
   | 4,_=>rfl
   | 5,_=>rfl
   | 6,_=>rfl
   | 7,_=>rfl
open Go.RowKit Go.Sort Go.Maps
set_option maxRecDepth 100000 in
set_option maxHeartbeats 1600000 in
theorem new_ok (w:World) (n m:Nat) (a:Option Addr) (b off c:Nat) (s:List Nat) (hv:Vw w a b off s) (h1:8≤n∧n≤256) (h2:8≤m∧m≤256) (hl:s.length=32) (B:Nat) (hB:B≤w.heap.size) :
 Calls Tryz.prog 30 #[.int .i64 n,.int .i64 m,.slice a 32 c] w fun e w'=>∃sb F,e=.returned (.tuple #[.pointer (some ⟨sb,0,none⟩),.int .i64 0])∧Below w.heap.size w w'∧Book w' B sb ⟨n,m,gd s,[],[],[]⟩ F∧∀i,F i→w.heap.size≤i:=by
 have c1:=qkc w n (by omega) (by omega)
 have c2:=qkc w m (by omega) (by omega)
 have HV:Hid (View w a b off 32 (fun i=>((gd s i:Nat):Int))∧s.length=32∧(8≤n∧n≤256)∧(8≤m∧m≤256)∧B≤w.heap.size∧∀x∈s,x<256):=⟨by have:=hv;unfold Vw at this;rw [hl] at this;exact this,hl,h1,h2,hB,(vw_ok hv).2⟩
 obtain rfl:=hv.at_ (by omega)
 clear hv h1 h2 hB
 go_enter Tryz.func30,Tryz.ntmps30
 go_wp2_with fail
 refine c1.mono ?_
 rintro _ w' ⟨rfl,hw'⟩
 have hw'':=hw'.symm
 subst hw''
 go_wp2_with fail
 refine c2.mono ?_
 rintro _ w' ⟨rfl,hw'⟩
 have hw'':=hw'.symm
 subst hw''
 go_wp2_with fail
 refine (qhh w).mono ?_
 rintro _ w3 ⟨rfl,hb3,n3,z3⟩
 have H3:Hid (Below w.heap.size w w3∧(∀κ,qe4 w3 (w.heap.size+1) (fun i=>i=w.heap.size+1) κ [])∧w.heap.size+1<w3.heap.size):=⟨hb3,n3,z3⟩
 clear hb3 n3 z3
 go_wp2_with fail
 refine (qhh w3).mono ?_
 rintro _ w4 ⟨rfl,hb4,n4,z4⟩
 have H4:Hid (Below w3.heap.size w3 w4∧(∀κ,qe4 w4 (w3.heap.size+1) (fun i=>i=w3.heap.size+1) κ [])∧w3.heap.size+1<w4.heap.size):=⟨hb4,n4,z4⟩
 clear hb4 n4 z4
 go_wp2_with fail
 refine (qhh w4).mono ?_
 rintro _ w5 ⟨rfl,hb5,n5,z5⟩
 have H5:Hid (Below w4.heap.size w4 w5∧(∀κ,qe4 w5 (w4.heap.size+1) (fun i=>i=w4.heap.size+1) κ [])∧w4.heap.size+1<w5.heap.size):=⟨hb5,n5,z5⟩
 clear hb5 n5 z5
 obtain ⟨bh,hbh⟩:∃x,x=w.heap.size+1:=⟨_,rfl⟩
 obtain ⟨bc,hbc⟩:∃x,x=w3.heap.size+1:=⟨_,rfl⟩
 obtain ⟨bf,hbf⟩:∃x,x=w4.heap.size+1:=⟨_,rfl⟩
 rw [←hbh,←hbc,←hbf]
 have HB:Hid (bh=w.heap.size+1∧bc=w3.heap.size+1∧bf=w4.heap.size+1):=⟨hbh,hbc,hbf⟩
 clear hbh hbc hbf
 have bs:=qs1 n m bh bc bf
 have hg:(w5.alloc (.cells (bk0 n m bh bc bf) 95)).heap[w5.heap.size]?=some (.cells (bk0 n m bh bc bf) 95 (0,0)):=heap_alloc_new _ _
 have b5:Below w.heap.size w w5:=ch H3.out.1 (ch H4.out.1 H5.out.1)
 have b6:Below w.heap.size w (w5.alloc (.cells (bk0 n m bh bc bf) 95)):=b5.alloc b5.size _
 have hsrc:∀j v,(bv s)[j]?=some v→(w5.alloc (.cells (bk0 n m bh bc bf) 95)).cell? ((⟨b,off,none⟩:Addr).add j)=some v:=by
  intro j v hj
  have hjl:j<s.length:=by have:=List.getElem?_eq_some_iff.1 hj;obtain ⟨q,_⟩:=this;rw [bv_len] at q;exact q
  rw [Go.WideShapes.add_plain]
  rw [bv_at hjl] at hj
  have:=(HV.out.1.below b6).cell j (by rw [HV.out.2.1] at hjl;exact hjl)
  rw [this]
  exact hj
 have HW:Hid (Below w.heap.size w (w5.alloc (.cells (bk0 n m bh bc bf) 95))∧(w5.alloc (.cells (bk0 n m bh bc bf) 95)).heap[w5.heap.size]?=some (.cells (bk0 n m bh bc bf) 95 (0,0))∧Below w5.heap.size w5 (w5.alloc (.cells (bk0 n m bh bc bf) 95))):=⟨b6,hg,(Below.refl _ _).alloc (Nat.le_refl _) _⟩
 have h1s:∀v∈bv s,v.oneCell'=true:=fun v hv=>by
  obtain ⟨x,_,rfl⟩:=List.mem_map.1 hv
  rfl
 have hcl:(bv s).length=Nat.min 32 32:=by rw [bv_len,hl];rfl
 have hft:2+(bv s).length≤(bk0 n m bh bc bf).size:=by rw [bv_len,hl,bs];decide
 have hsz:(Tryz.prog.info? 5).map (·.size)=some 1:=by kernel_rfl
 have hset:=qv8 n m bh bc bf s hl
 obtain ⟨cs,hcs⟩:∃cs,cs=((bk0 n m bh bc bf).toList.take 2++(bv s++(bk0 n m bh bc bf).toList.drop (2+(bv s).length))).toArray:=⟨_,rfl⟩
 have hcz:cs.size=42:=by
  rw [hcs,List.size_toArray]
  simp only [List.length_append,List.length_take,List.length_drop,Array.length_toList,bs,bv_len,hl]
  rfl
 rw [←hcs] at hset
 have HCS:Hid (cs=((bk0 n m bh bc bf).toList.take 2++(bv s++(bk0 n m bh bc bf).toList.drop (2+(bv s).length))).toArray):=hcs
 have HST:Hid (∀i,i<42→cs[i]?=some (bkc n m (gd s) bh 0 bc 0 bf 0 0 i)):=hset
 clear b5 b6 hcs hset
 go_wp2_with (first
  | refine qd4 (by rfl) 95 #[(0,.tmp 17),(1,.tmp 18),(4,.tmp 19),(5,.tmp 20),(6,.tmp 21)] (by rfl) (bk0 n m bh bc bf) (by simp only [List.map_toArray,List.map_cons,List.map_nil];exact qyf _ _ _ _ _) ?_
  | (refine wpList_copy_own (by rfl) (.tmp 30) (.tmp 31) 33 33 (by rfl) 5 Tryz.underlying33 hsz w5.heap.size 2 32 32 ⟨b,off,none⟩ 32 c (by rfl) (by rfl) (bk0 n m bh bc bf) 95 hg (bv s) hcl hsrc hft h1s ?_;rw [←HCS.out]))
 go_ret2
 have e1:=HB.out.1
 have e2:=HB.out.2.1
 have e3:=HB.out.2.2
 have z3:=H3.out.2.2
 have z4:=H4.out.2.2
 have z5:=H5.out.2.2
 obtain ⟨w6,hw6⟩:∃y,y=w5.alloc (.cells (bk0 n m bh bc bf) 95):=⟨_,rfl⟩
 have HW':=HW.out
 rw [←hw6] at HW' ⊢
 have t7:Turn (fun i=>i=w5.heap.size) w6 (w6.setRow w5.heap.size cs):=Turn.setRow w6 _ _ rfl
 have hl6:w5.heap.size<w6.heap.size:=(Array.getElem?_eq_some_iff.1 HW'.2.1).1
 refine ⟨w5.heap.size,fun i=>i=w5.heap.size∨i=bh∨i=bc∨i=bf,rfl,below_setRow HW'.1 (by have:=HW'.1.size;have:=H3.out.1.size;have:=H4.out.1.size;have:=H5.out.1.size;omega) _,⟨bh,bc,bf,fun i=>i=bh,fun i=>i=bc,fun i=>i=bf,?_,fun i=>Iff.rfl⟩,fun i q=>?_⟩
 ·refine { row:=⟨cs,setRow_heap _ _ _ _ _ _ HW'.2.1,hcz,HST.out⟩,nh:=?_,nc:=?_,nf:=?_,hc:=fun i q z=>?_,hf:=fun i q z=>?_,cf:=fun i q z=>?_,oh:=fun q=>?_,oc:=fun q=>?_,of_:=fun q=>?_,lim:=fun i q=>?_,base:=⟨?_,fun i q=>?_⟩,b1:=HV.out.2.2.1,b2:=HV.out.2.2.2.1,S8:=fun i=>gd_lt HV.out.2.2.2.2.2 i }
  ·have:=H3.out.2.1 (kh n)
   rw [←e1] at this
   exact ((this.turn (Turn.of_below (ch H4.out.1 (ch H5.out.1 HW'.2.2)) (F:=fun _=>False)) (fun _ _ _ f=>f)).turn t7 (fun i q _ z=>by omega))
  ·have:=H4.out.2.1 (kc m (gd s))
   rw [←e2] at this
   exact ((this.turn (Turn.of_below (ch H5.out.1 HW'.2.2) (F:=fun _=>False)) (fun _ _ _ f=>f)).turn t7 (fun i q _ z=>by omega))
  ·have:=H5.out.2.1 (kc m (gd s))
   rw [←e3] at this
   exact ((this.turn (Turn.of_below HW'.2.2 (F:=fun _=>False)) (fun _ _ _ f=>f)).turn t7 (fun i q _ z=>by omega))
  ·omega
  ·omega
  ·omega
  ·omega
  ·omega
  ·omega
  ·have:(w6.setRow w5.heap.size cs).heap.size=w6.heap.size:=by simp
   omega
  ·have:=HV.out.2.2.2.2.1
   omega
  ·have:=HV.out.2.2.2.2.1
   omega
 ·omega
open Go.RowKit
def secf (n:Nat) (Y:Nat→Nat) (i:Nat):Nat:=if i<n then Y i else 0
theorem qv9 {n:Nat} {Y:Nat→Nat} (h:∀i,Y i<256) (i:Nat):secf n Y i<256:=by
 unfold secf
 split
 ·exact h i
 ·decide
structure Sc (w wr:World) (n:Nat) (Y:Nat→Nat) (k:Nat) (v:Value):Prop where
 below:Below w.heap.size w wr
 own:wr.ownsRow w.heap.size 5 1 v k (vals (fun i=>((secf n Y i:Nat):Int)) k)
set_option maxRecDepth 100000 in
set_option maxHeartbeats 1600000 in
theorem secret_any (w:World) (a:Option Addr) (b off n c:Nat) (Y:Nat→Nat) (hv:View w a b off n (fun i=>(Y i:Int))) (hY:∀i,Y i<256) :
 Calls Tryz.prog 31 #[.slice a n c] w fun e w'=>∃a' g' c',e=.returned (.slice a' 32 c')∧32≤c'∧w.heap.size≤g'∧g'<w'.heap.size∧Vw w' a' g' 0 (lst 32 (secf n Y))∧w'.ownsRow w.heap.size 5 1 (.slice a' 32 c') 32 (vals (fun i=>((secf n Y i:Nat):Int)) 32)∧Below w.heap.size w w':=by
 have HV:Hid (View w a b off n (fun i=>(Y i:Int))):=hv
 have hnl:=hv.len
 have H0:Hid (Sc w w n Y 0 (.slice none 0 0)):=⟨Below.refl _ _,World.ownsRow_nil _ _ _ _⟩
 clear hv
 go_enter Tryz.func31,Tryz.ntmps31
 go_wp2_with fail
 go_loopg [3,4] 32 (fun g v i wr=>∃k:Nat,k≤32∧g=32 - k∧i=.int .i64 k∧Sc w wr n Y k v)
 case atStart=>exact ⟨0,by omega,rfl,rfl,H0.out⟩
 case round =>
  obtain ⟨k,hk,rfl,rfl,hR⟩:=hrel
  clear H0
  have own1:=hR.own
  have b1:=hR.below
  have s1:=b1.size
  by_cases hkn:k<32
  ·clear hR
   have HN0:∀(x:Nat) (v2:Value) (w2:World),secf n Y k=x→w2.ownsRow w.heap.size 5 1 v2 (k+1) (vals (fun i=>((secf n Y i:Nat):Int)) k++vals (fun _=>(x:Int)) 1)→Below w.heap.size w w2→Sc w w2 n Y (k+1) v2:=fun x v2 w2 hx o2 b2=>⟨b2,by rw [←vals_succ,hx];exact o2⟩
   have HN1:Hid (∀(x:Nat) (v2:Value) (w2:World),secf n Y k=x→w2.ownsRow w.heap.size 5 1 v2 (k+1) (vals (fun i=>((secf n Y i:Nat):Int)) k++vals (fun _=>(x:Int)) 1)→Below w.heap.size w w2→Sc w w2 n Y (k+1) v2):=HN0
   clear HN0
   by_cases hin:k<n
   ·obtain rfl:=HV.out.at_ (by omega)
    have cc:wr.cell? ⟨b,off+k,none⟩=some (.int .u8 (Y k)):=(b1.cell (p:=⟨b,off+k,none⟩) (HV.out.lt (by omega))).trans (HV.out.cell k hin)
    have hx:secf n Y k=Y k:=by unfold secf;rw [if_pos hin]
    have Hx:Hid (secf n Y k=Y k):=hx
    have hy:=hY k
    obtain ⟨y,hyy⟩:∃y,y=Y k:=⟨_,rfl⟩
    rw [←hyy] at cc hy Hx
    have i1:(k:Int)<(n:Int):=by omega
    clear hx hyy
    go_wp2_with (refine wpList_append_bytes (by rfl) (.tmp 18) (.tmp 20) (by rfl) w.heap.size _ k _ (by rfl) (own1.alloc _) (some ⟨wr.heap.size,0,none⟩) wr.heap.size 0 1 1 _ (by rfl) (qd5 wr y (by omega) (by omega)) (fun h=>by cases h) (by omega) (by simp;omega) ?_)
    intro v2 w2 own2 gr2 nn2
    have HN:Hid (Sc w w2 n Y (k+1) v2):=HN1.out y v2 w2 Hx.out own2 ((b1.alloc s1 _).trans (grown_below gr2 (own1.alloc _) (Nat.le_refl _) (by simp;omega)))
    clear own1 own2 gr2 nn2 b1 s1 HN1
    go_wp2_with fail
    go_roundg (32 - (k+1))
    case measure=>omega
    case rel=>exact ⟨k+1,by omega,rfl,by go_num,HN.out⟩
   ·have hx:secf n Y k=0:=by unfold secf;rw [if_neg hin]
    have Hx:Hid (secf n Y k=0):=hx
    have i1:¬((k:Int)<(n:Int)):=by omega
    clear hx
    go_wp2_with (refine wpList_append_bytes (by rfl) (.tmp 18) (.tmp 20) (by rfl) w.heap.size _ k _ (by rfl) (own1.alloc _) (some ⟨wr.heap.size,0,none⟩) wr.heap.size 0 1 1 _ (by rfl) (qd5 wr 0 (by decide) (by decide)) (fun h=>by cases h) (by omega) (by simp;omega) ?_)
    intro v2 w2 own2 gr2 nn2
    have HN:Hid (Sc w w2 n Y (k+1) v2):=HN1.out 0 v2 w2 Hx.out own2 ((b1.alloc s1 _).trans (grown_below gr2 (own1.alloc _) (Nat.le_refl _) (by simp;omega)))
    clear own1 own2 gr2 nn2 b1 s1 HN1
    go_wp2_with fail
    go_roundg (32 - (k+1))
    case measure=>omega
    case rel=>exact ⟨k+1,by omega,rfl,by go_num,HN.out⟩
  ·have:k=32:=by omega
   subst this
   have hb:∀i,i<32→0≤((secf n Y i:Nat):Int)∧((secf n Y i:Nat):Int)≤255:=fun i _=>by have:=qv9 (n:=n) hY i;omega
   rcases own1.2 with ⟨rfl,h0⟩ | ⟨g,cap,cur,rfl,hbg,hgg,hnc,_⟩
   ·omega
   ·have hgl:g<wr.heap.size:=(Array.getElem?_eq_some_iff.1 hgg).1
    have hvw:Vw wr (some ⟨g,0,none⟩) g 0 (lst 32 (secf n Y)):=by
     refine qzy ⟨fun _=>rfl,fun i hi=>?_,hb,by decide⟩
     have:=own1.cells (g:=g) rfl i (.int .u8 ((secf n Y i:Nat):Int)) (by unfold vals;rw [List.getElem?_map,List.getElem?_range hi];rfl)
     rw [qqa] at this
     rw [Nat.zero_add]
     exact this
    have HF:Hid (32≤cap∧w.heap.size≤g∧g<wr.heap.size∧Vw wr (some ⟨g,0,none⟩) g 0 (lst 32 (secf n Y))∧wr.ownsRow w.heap.size 5 1 (.slice (some ⟨g,0,none⟩) 32 cap) 32 (vals (fun i=>((secf n Y i:Nat):Int)) 32)∧Below w.heap.size w wr):=⟨hnc,hbg,hgl,hvw,own1,b1⟩
    clear hR own1 b1 s1 hb hgg hvw
    go_wp2_with fail
    go_ret
    exact ⟨_,g,cap,rfl,HF.out⟩
open Go.RowKit
structure Gr (w:World):Prop where
 g:Ground w
 rounds:qdv w
 rbig:1<w.heap.size
theorem Gr.below {w w':World} (h:Gr w) (hb:Below w.heap.size w w'):Gr w':=⟨h.g.below hb,h.rounds.below hb h.rbig,Nat.lt_of_lt_of_le h.rbig hb.size⟩
open Go.RowKit
open Go.RowKit Go.Sort Go.Maps
theorem qql (t:List Nat):qe1 (digest t.length (gd t))=hA (sum t):=qmq _
set_option maxRecDepth 100000 in
set_option maxHeartbeats 1600000 in
theorem rhashN_any (w:World) (bits:Nat) (hb:bits≤256) (a:Option Addr) (b o c:Nat) (t:List Nat) (hv:Vw w a b o t) (hnil:a=none→c=0) (hn:t.length≤140737488355000) (hG:Gr w) :
 Calls Tryz.prog 37 #[.int .i64 bits,.slice a t.length c] w fun e w'=>e=.returned (.agg (hA (kh bits t)))∧Below w.heap.size w w':=by
 have z64:=(zero_of_info qsz).1
 have b1:Below w.heap.size w (w.alloc (.cells Z32 31)):=(Below.refl _ _).alloc (Nat.le_refl _) _
 obtain ⟨w1,hw1⟩:∃w1,w1=w.alloc (.cells Z32 31):=⟨_,rfl⟩
 have hrs:w1.heap[w.heap.size]?=some (.cells Z32 31 (0,0)):=by rw [hw1];exact heap_alloc_new _ _
 have lrs:w.heap.size<w1.heap.size:=by rw [hw1];simp
 rw [←hw1] at b1
 have hG1:=hG.below b1
 have cs:=qs8 w1 a b o t.length c (gd t) (hv.below b1) (gd_lt (vw_ok hv).2) hnil (by omega) hG1.rounds hG1.rbig
 rw [qql] at cs
 have HB:Hid (Below w.heap.size w w1∧w1.heap[w.heap.size]?=some (.cells Z32 31 (0,0))∧w.heap.size<w1.heap.size):=⟨b1,hrs,lrs⟩
 have hk:=qlg t
 have HE:Hid (kh bits t=lst 32 (cutf bits (gd (sum t)))):=rfl
 generalize sum t=k at cs hk HE
 have bs:=qcf hk
 have hi3:=qa2 hk
 clear hv hnil hn hG hG1 b1 hrs lrs
 go_enter Tryz.func37,Tryz.ntmps37
 go_wp2_with fail
 rw [←hw1]
 clear hw1
 refine cs.mono ?_
 rintro _ w2 ⟨rfl,hb2⟩
 have bx:((w2.alloc (.cells Z32 31)).setRow w2.heap.size (hA k)).heap[w2.heap.size]?=some (.cells (hA k) 31 (0,0)):=setRow_heap _ _ _ _ _ _ (heap_alloc_new _ _)
 have bb:Below w2.heap.size w2 ((w2.alloc (.cells Z32 31)).setRow w2.heap.size (hA k)):=below_setRow ((Below.refl _ _).alloc (Nat.le_refl _) _) (Nat.le_refl _) _
 obtain ⟨w3,hw3⟩:∃w3,w3=(w2.alloc (.cells Z32 31)).setRow w2.heap.size (hA k):=⟨_,rfl⟩
 obtain ⟨g,hg⟩:∃g,g=w2.heap.size:=⟨_,rfl⟩
 rw [←hw3,←hg] at bx
 rw [←hw3] at bb
 have b13:Below w1.heap.size w1 w3:=hb2.trans (bb.mono hb2.size)
 have H3:Hid (Below w1.heap.size w1 w3):=b13
 have hcl:∀j,j<(hA k).size→w3.cell? ⟨g,j,none⟩=(hA k)[j]?:=fun j _=>cell_of_row _ _ _ _ 31 _ bx
 clear bx bb hb2 b13 cs
 go_upto_region 2 with (refine wpList_store_row (by rfl) 31 (.tmp 5) (.tmp 7) (by rfl) w2.heap.size (hA k) (by rfl) (by rfl) 31 Z32 (heap_alloc_new _ _) (qa2 hk) (qex hk) (qew hk) ?_)
 rw [←hw3,←hg]
 clear hw3 hg
 go_wp2_with (refine qe3 (by rfl) 31 (.tmp 5) (by rfl) g (by rfl) (hA k) _ hcl Tryz.underlying31 (by rfl) hi3 ?_)
 refine (qs3 w3 k hk bits hb).mono ?_
 rintro _ w4 ⟨rfl,hb4⟩
 rw [←HE.out]
 have b14:Below w1.heap.size w1 w4:=H3.out.trans (hb4.mono H3.out.size)
 have og:w4.heap[w.heap.size]?=some (.cells Z32 31 (0,0)):=(b14.block _ HB.out.2.2).trans HB.out.2.1
 have H4:Hid (Below w.heap.size w w4):=HB.out.1.trans (b14.mono HB.out.1.size)
 have hkk:=kh_isH bits t
 clear hb4 b14 hcl hi3 bs
 obtain ⟨kk,ekk⟩:∃kk,kk=kh bits t:=⟨_,rfl⟩
 have HKE:Hid (kk=kh bits t):=ekk
 rw [←ekk] at hkk ⊢
 clear ekk
 go_wp2_with (refine wpList_store_row (by rfl) 31 (.tmp 4) (.tmp 10) (by rfl) w.heap.size (hA kk) (by rfl) (by rfl) 31 Z32 og (qa2 hkk) (qex hkk) (qew hkk) ?_)
 refine bodyPost_ret (v:=.agg (hA kk)) ?_ rfl ?_
 ·exact results_cell_row rfl _ _ w.heap.size 31 (hA kk) (0,0) _ rfl (setRow_heap _ _ _ _ _ _ og) Tryz.underlying31 rfl (qa2 hkk)
 ·exact ⟨by rw [HKE.out],below_setRow H4.out (Nat.le_refl _) _⟩
end Go.Proofs.YtemcneddbhgadaaGreatDoor.Dg
namespace Go.Proofs.YtemcneddbhgadaaGreatDoor
open Go.RowKit Go.Maps
def IsH (k:List Nat):Prop:=k.length=32∧∀x∈k,x<256
def Vo (F:Nat→Prop) (w:World) (v:Value) (x:List Nat):Prop:=∃a b off c,v=.slice a x.length c∧Vw w a b off x∧x.length≤c∧(a=none→c=0)∧x.length≤140737488351232∧(0<x.length→¬F b∧b<w.heap.size)
theorem Vo.vb {F:Nat→Prop} {w:World} {v:Value} {x:List Nat} (h:Vo F w v x):Vb w v x:=by
 obtain ⟨a,b,off,c,h1,h2,h3,h4,h5,_⟩:=h
 exact ⟨a,b,off,c,h1,h2,h3,h4,h5⟩
theorem Vo.turn {F G:Nat→Prop} {w w':World} {v:Value} {x:List Nat} (h:Vo F w v x) (t:Turn G w w') (hG:∀i,G i→i<w.heap.size→F i):Vo F w' v x:=by
 obtain ⟨a,b,off,c,h1,h2,h3,h4,h5,h6⟩:=h
 exact ⟨a,b,off,c,h1,h2.turn t (fun h0 q=>(h6 h0).1 (hG _ q (h6 h0).2)),h3,h4,h5,fun h0=>⟨(h6 h0).1,Nat.lt_of_lt_of_le (h6 h0).2 t.size⟩⟩
theorem Vo.keep {F:Nat→Prop} {w w':World} {v:Value} {x:List Nat} (h:Vo F w v x) (k:Below w.heap.size w w'):Vo F w' v x:=h.turn (G:=fun _=>False) (Turn.of_below k) (fun _ q=>q.elim)
theorem dgT {F:Nat→Prop} {w w':World} (h:Dg.Turn F w w'):Turn F w w':=⟨h.os,h.tape,h.output,h.size,h.block⟩
theorem tDg {F:Nat→Prop} {w w':World} (h:Turn F w w'):Dg.Turn F w w':=⟨h.os,h.tape,h.output,h.size,h.block⟩
theorem vDg {w:World} {a:Option Addr} {b off n:Nat} {Z:Nat→Int} (h:View w a b off n Z):Dg.View w a b off n Z:=⟨h.at_,h.cell,h.bd,h.len⟩
def Bk (w:World) (bk bits N:Nat) (F:Nat→Prop):Prop:=∃B st,Dg.Book w B bk st F∧2<B∧st.bits=bits∧st.LH.length≤N
theorem Bk.turn {w w':World} {bk bits N:Nat} {F G:Nat→Prop} (h:Bk w bk bits N F) (t:Turn G w w') (hd:∀i,F i→¬G i):Bk w' bk bits N F:=by
 obtain ⟨B,st,h1,h2,h3⟩:=h
 exact ⟨B,st,h1.turn (tDg t) hd,h2,h3⟩
theorem Bk.keep {w w':World} {bk bits N:Nat} {F:Nat→Prop} (h:Bk w bk bits N F) (k:Below w.heap.size w w'):Bk w' bk bits N F:=h.turn (G:=fun _=>False) (Turn.of_below k) (fun _ _ q=>q)
theorem Bk.lim {w:World} {bk bits N:Nat} {F:Nat→Prop} (h:Bk w bk bits N F):∀i,F i→2<i∧i<w.heap.size:=by
 obtain ⟨B,st,h1,h2,_⟩:=h
 intro i q
 have:=h1.lim i q
 exact ⟨by omega,this.2⟩
theorem qdl {G:Nat→Prop} {w w':World} (h:Dg.Ground w) (t:Turn G w w') (hG:∀i,G i→2<i):Dg.Ground w':=by
 have b:Below (2+1) w w':=t.below (fun i q=>hG i q) h.big
 exact ⟨h.first.below b (by decide),h.roots.below b (Nat.lt_succ_self _),Nat.lt_of_lt_of_le h.big t.size⟩
theorem qby (bits:Nat) (s:List Nat):IsH (Dg.kh bits s):=Dg.kh_isH bits s
theorem qqm (s:List Nat):∀L:List (List Nat),(Dg.ins s L).length≤L.length+1
 | []=>by simp [Dg.ins]
 | x::r=>by
  rw [Dg.ins_cons]
  split
  ·simp
  ·split
   ·simp
   ·have:=qqm s r
    simp only [List.length_cons]
    omega
theorem qqn {w:World} {bk bits N:Nat} {F:Nat→Prop} (h:Bk w bk bits N F) (hG:Dg.Ground w) (hN:N≤1000) {sa:Option Addr} {m sc:Nat} {x:List Nat} (hv:Vo F w (.slice sa m sc) x) :
 Calls Tryz.prog 20 #[.pointer (some ⟨bk,0,none⟩),.slice sa m sc] w fun e w'=>e=.returned (.agg (bv (Dg.kh bits x)).toArray)∧Turn F w w'∧∃F',Bk w' bk bits (N+1) F'∧(∀i,F' i→F i∨w.heap.size≤i):=by
 obtain ⟨B,st,h1,h2,h3,h4⟩:=h
 obtain ⟨a,b,off,c,e,hvw,hc,_,hl,hf⟩:=hv
 rw [e]
 refine (Dg.hash_any4 w B bk st F h1 hG h2 (by omega) a b off c x (vDg hvw) hc (by omega) (fun h0=>(hf h0).1)).mono ?_
 rintro e w' ⟨rfl,q⟩
 rw [h3]
 obtain ⟨F',q1,q2,q3⟩:=q.book
 refine ⟨rfl,dgT q.turn,F',⟨B,_,q3,h2,h3,?_⟩,q2⟩
 have:=qqm x st.LH
 show (Dg.ins x st.LH).length≤N+1
 omega
def nbits (x:Int):Nat:=8+(Int.tmod x 249).natAbs
theorem qmu (x:Int):8≤nbits x∧nbits x≤256:=by
 unfold nbits
 have h1:=Int.natAbs_tmod x 249
 have h2:=Nat.mod_lt x.natAbs (show 0<249 by decide)
 have h3:(249:Int).natAbs=249:=rfl
 rw [h3] at h1
 omega
theorem qs9 (w:World) (x:Int):Calls Tryz.prog 24 #[.int .i64 x] w fun e w'=>e=.returned (.int .i64 (nbits x:Nat))∧w'=w:=by
 have hb:=qmu x
 have HE:Hid (nbits x=8+(Int.tmod x 249).natAbs):=(rfl:nbits x=8+(Int.tmod x 249).natAbs)
 have e0:=HE.out
 have r1:-249<Int.tmod x 249∧Int.tmod x 249<249:=by omega
 obtain ⟨n,hn⟩:∃n,n=nbits x:=⟨_,rfl⟩
 rw [←hn] at HE ⊢
 clear hb e0 hn
 by_cases hn:Int.tmod x 249<0
 ·have HV:Hid ((n:Int)=8+-Int.tmod x 249):=by show (n:Int)=8+-Int.tmod x 249;have:=HE.out;omega
  go_enter Tryz.func24,Tryz.ntmps24
  go_wp2_with fail
  go_ret
  refine ⟨?_,rfl⟩
  rw [HV.out];rfl
 ·have HV:Hid ((n:Int)=8+Int.tmod x 249):=by show (n:Int)=8+Int.tmod x 249;have:=HE.out;omega
  go_enter Tryz.func24,Tryz.ntmps24
  go_wp2_with fail
  go_ret
  refine ⟨?_,rfl⟩
  rw [HV.out];rfl
theorem qwc (w:World):Calls Tryz.prog 31 #[nilS] w fun e w'=>∃a b c s,e=.returned (.slice a 32 c)∧Dg.Vw w' a b 0 s∧s.length=32∧Below w.heap.size w w':=by
 refine (Dg.secret_any w none 0 0 0 0 (fun _=>0) ⟨fun k=>by omega,fun i hi=>by omega,fun i hi=>by omega,by omega⟩ (fun _=>by decide)).mono ?_
 rintro e w' ⟨a',g',c',rfl,h1,h2,h3,h4,h5,h6⟩
 exact ⟨a',g',c',_,rfl,h4,Dg.lst_len _ _,h6⟩
set_option maxRecDepth 100000 in
set_option maxHeartbeats 200000 in
theorem qta (w:World) (hG:Dg.Ground w) (x:Int)  :
 Calls Tryz.prog 8 #[.int .i64 x] w fun e w'=>∃bk F,e=.returned (.pointer (some ⟨bk,0,none⟩))∧Bk w' bk (nbits (wrap64 (x - 8))) 0 F∧(∀i,F i→w.heap.size≤i)∧Below w.heap.size w w':=by
 have HG:Hid (Dg.Ground w):=hG
 have KB:=fun w=>qs9 w (wrap64 (x - 8))
 have HN:Hid (8≤nbits (wrap64 (x - 8))∧nbits (wrap64 (x - 8))≤256):=qmu _
 obtain ⟨N,eN⟩:∃N,N=nbits (wrap64 (x - 8)):=⟨_,rfl⟩
 rw [←eN] at HN ⊢
 simp only [←eN] at KB
 clear hG eN
 go_enter Tryz.func8,Tryz.ntmps8
 go_wp2_with (go_at_call 24;change Hid (Calls _ _ _ _ _))
 unfold Hid
 refine (KB _).mono ?_
 rintro _ w1 ⟨rfl,hw⟩
 rw [hw]
 clear hw w1 KB
 go_wp2_with (go_at_call 31;change Hid (Calls _ _ _ _ _))
 unfold Hid
 refine (qwc _).mono ?_
 rintro _ w2 ⟨sa,sk,sc,ss,rfl,hv2,hl2,hb2⟩
 have H2:Hid (Dg.Vw w2 sa sk 0 ss∧ss.length=32∧Below w.heap.size w w2):=⟨hv2,hl2,hb2⟩
 clear hv2 hl2 hb2
 go_wp2_with (go_at_call 30;change Hid (Calls _ _ _ _ _))
 unfold Hid
 refine (Dg.new_ok w2 N 256 sa sk 0 sc ss H2.out.1 HN.out (by omega) H2.out.2.1 w2.heap.size (Nat.le_refl _)).mono ?_
 rintro _ w3 ⟨bk,FB,rfl,hb3,hk3,hf3⟩
 have H3:Hid (Below w2.heap.size w2 w3∧Dg.Book w3 w2.heap.size bk ⟨N,256,Dg.gd ss,[],[],[]⟩ FB∧∀i,FB i→w2.heap.size≤i):=⟨hb3,hk3,hf3⟩
 clear hb3 hk3 hf3
 go_wp2_with fail
 go_ret
 have z:=H2.out.2.2.size
 have g:=(HG.out.below H2.out.2.2).big
 exact ⟨bk,FB,rfl,⟨w2.heap.size,_,H3.out.2.1,g,rfl,Nat.le_refl _⟩,fun i q=>by have:=H3.out.2.2 i q;omega,ch H2.out.2.2 H3.out.1⟩
def s128:List Nat:=[128]
def qaz:List Nat:=[196,130,32,18,97]
theorem qtt:Dg.ego (Dg.cat 1 (fun i=>s128.getD i 0) (Dg.padb 1)) 1 0 Dg.H0=⟨0x76be8b52,0x8d0075f7,0xaae98d6f,0xa57a6d3c,0x83ae480a,0x8469e668,0xd7b0af96,0x8995ac71⟩:=by kernel_rfl
theorem qq4:Dg.ego (Dg.cat 5 (fun i=>qaz.getD i 0) (Dg.padb 5)) 1 0 Dg.H0=⟨0x5fc015af,0xcf71d0f9,0xde623ec2,0xb71c7f36,0xb1eb2653,0x4214f3ef,0xf309c534,0xd9ad67fa⟩:=by kernel_rfl
theorem qy0:Dg.gd (Dg.kh 256 s128) 0=118:=by
 have e:Dg.digest 1 (Dg.gd s128)=⟨0x76be8b52,0x8d0075f7,0xaae98d6f,0xa57a6d3c,0x83ae480a,0x8469e668,0xd7b0af96,0x8995ac71⟩:=(Dg.folds_ego _ _).trans qtt
 have h:Dg.gd (Dg.sum s128) 0=118:=by
  unfold Dg.sum
  rw [Dg.lst_gd (by decide)]
  show Dg.hb (Dg.digest 1 (Dg.gd s128)) 0=118
  rw [e]
  rfl
 unfold Dg.kh
 rw [Dg.lst_gd (by decide)]
 unfold Dg.cutf
 rw [h]
 decide
theorem qwu:Dg.gd (Dg.kh 256 qaz) 0=95:=by
 have e:Dg.digest 5 (Dg.gd qaz)=⟨0x5fc015af,0xcf71d0f9,0xde623ec2,0xb71c7f36,0xb1eb2653,0x4214f3ef,0xf309c534,0xd9ad67fa⟩:=(Dg.folds_ego _ _).trans qq4
 have h:Dg.gd (Dg.sum qaz) 0=95:=by
  unfold Dg.sum
  rw [Dg.lst_gd (by decide)]
  show Dg.hb (Dg.digest 5 (Dg.gd qaz)) 0=95
  rw [e]
  rfl
 unfold Dg.kh
 rw [Dg.lst_gd (by decide)]
 unfold Dg.cutf
 rw [h]
 decide
theorem qy1:Dg.kh 256 qaz≠Dg.kh 256 s128:=by
 intro e
 have h:=qwu
 rw [e,qy0] at h
 cases h
open Go.RowKit Go.Maps
theorem qaae:(Tryz.prog.info? 31).map (fun i=>(i.zero,i.size))=some (some (.agg (bv z32).toArray),32):=by kernel_rfl
theorem zvH (w:World):(zeroValue 31).run Tryz.prog w=.ok (.agg (bv z32).toArray) w:=(zero_of_info qaae).1 w
theorem qec:IsH z32:=⟨qac,qco⟩
theorem qdc (s:List Nat):(bv s).toArray.all (·.oneCell')=true:=all_oneCell_toArray (qgn s)
theorem resH {fn:Func} {p:Tmp} (h:fn.results=#[.cell p 31]) (tmps:Array Value) (w:World) (g:Nat) (s:List Nat) (hs:IsH s) (hg:w.rangeAt g 0 (bv s)) (hp:tmps.getD p undef=.pointer (some ⟨g,0,none⟩)) :
 (results fn tmps).run Tryz.prog w=.ok (.agg (bv s).toArray) w:=by
 have hl:=run_loadVar_mid w g 0 31 _ _ hg Tryz.underlying31 rfl (qdi hs.1)
 have hp':tmps[p]?.getD undef=.pointer (some ⟨g,0,none⟩):=by simpa using hp
 simp [results,h,hp',asAddr,hl]
theorem qdd {ops:Array Oper} {rest:List Oper} {op:Oper} {a:Act} {w:World} {Q:Exit→Act→World→Prop} (x y:Operand) (ho:op.op=.store 31 x y) (b:Nat) (s z:List Nat) (hs:IsH s) (hz:IsH z) (hb:w.heap[b]?=some (.cells (bv z).toArray 31 (0,0)))
 (hx:a.eval x=.pointer (some ⟨b,0,none⟩)) (hy:a.eval y=.agg (bv s).toArray) (h:wpList Tryz.prog ops Q rest (a.put op.dst undef) (w.setRow b (bv s).toArray)) (hw:Region.wanted op (yielded ops a.tmps)=true:=by kernel_rfl):wpList Tryz.prog ops Q (op::rest) a w :=
 qbs hw (wp_store_row 31 x y ho b (bv s).toArray hx hy 31 (bv z).toArray hb (by rw [List.size_toArray];exact qdi hs.1) (by rw [List.size_toArray,List.size_toArray,bv_len,bv_len,hs.1,hz.1]) (qdc s) h)
theorem quy (F:Nat→Prop) (w:World) (hF:¬F w.heap.size):Vo F (w.alloc (.cells #[.int .u8 128] 5)) (.slice (some ⟨w.heap.size,0,none⟩) 1 1) s128:=by
 refine ⟨_,w.heap.size,0,1,rfl,⟨fun _=>rfl,fun i hi=>?_,fun i hi=>?_,by decide⟩,by decide,(fun q=>by cases q),by decide,fun _=>⟨hF,by simp⟩⟩
 ·obtain rfl:i=0:=by have:i<1:=hi;omega
  rw [cell_of_row _ _ _ _ _ _ (heap_alloc_new w _)]
  rfl
 ·obtain rfl:i=0:=by have:i<1:=hi;omega
  exact ⟨by decide,by decide⟩
set_option maxRecDepth 100000 in
set_option maxHeartbeats 1600000 in
theorem qgd {w:World} {bk bits N:Nat} {F:Nat→Prop} (h:Bk w bk bits N F) (hG:Dg.Ground w) (hN:N≤1000) :
 Calls Tryz.prog 53 #[.pointer (some ⟨bk,0,none⟩)] w fun e w'=>e=.returned (.agg (bv (Dg.kh bits s128)).toArray)∧Turn F w w'∧∃F',Bk w' bk bits (N+1) F'∧∀i,F' i→F i∨w.heap.size≤i:=by
 have hz:=zvH
 have hlim:=h.lim
 have HL:Hid (∀i,F i→i<w.heap.size):=fun i q=>(hlim i q).2
 have HG0:Hid (Below w.heap.size w ((w.alloc (.cells (bv z32).toArray 31)).alloc (.cells #[.int .u8 128] 5))∧((w.alloc (.cells (bv z32).toArray 31)).alloc (.cells #[.int .u8 128] 5)).heap[w.heap.size]?=some (.cells (bv z32).toArray 31 (0,0))∧((w.alloc (.cells (bv z32).toArray 31)).alloc (.cells #[.int .u8 128] 5)).heap.size=w.heap.size+2):=⟨ch (qaa _ _) (qaa _ _),by rw [heap_alloc_old _ _ (by simp)];exact heap_alloc_new _ _,by simp⟩
 have vf:=quy F (w.alloc (.cells (bv z32).toArray 31)) (fun q=>by have:=HL.out _ q;simp at this;omega)
 rw [World.size_alloc] at vf
 have K:=qqn (h.keep HG0.out.1) (hG.below HG0.out.1) hN vf
 have hk:IsH (Dg.kh bits s128):=qby bits s128
 obtain ⟨k,ek⟩:∃k,k=Dg.kh bits s128:=⟨_,rfl⟩
 rw [←ek] at K hk ⊢
 obtain ⟨zz,ez⟩:∃z,z=z32:=⟨_,rfl⟩
 have hzz:IsH zz:=by rw [ez];exact qec
 rw [←ez] at K HG0 hz
 clear ez ek h hG hlim vf
 go_enter Tryz.func53,Tryz.ntmps53
 go_wp2_with (first
  | (go_at_call 20;go_loud (refine K.mono ?_;rintro e w2 ⟨rfl,t2,F',q3,q2⟩;have g4:=(fun g=>(t2.block w.heap.size (by rw [HG0.out.2.2];omega) g).trans HG0.out.2.1) (fun q=>by have:=HL.out _ q;omega);have HZ:Hid (Bk w2 bk bits (N+1) F'∧(∀i,F' i→F i∨w.heap.size+2≤i)∧Turn F w w2):=⟨q3,(by rw [HG0.out.2.2] at q2;exact q2),(Turn.of_below HG0.out.1).trans t2 (fun i q=>Or.inl q)⟩;clear K t2 q3 q2))
  | refine qdd _ _ (by rfl) w.heap.size k zz hk hzz g4 (by rfl) (by rfl) ?_)
 have hr3:=setRow_heap w2 w.heap.size _ (bv k).toArray _ _ g4
 refine bodyPost_ret (resH rfl _ _ w.heap.size k hk (qah hr3) rfl) rfl ?_
 obtain ⟨q3,q2,t⟩:=HZ.out
 refine ⟨rfl,t.trans (Turn.setRow (F:=fun i=>i=w.heap.size) _ _ _ rfl) (fun i q=>Or.inr (by omega)),F',?_,fun i q=>(q2 i q).imp id (fun z=>by omega)⟩
 exact q3.turn (Turn.setRow (F:=fun i=>i=w.heap.size) _ _ _ rfl) (fun i q z=>by
  rcases q2 i q with y | y
  ·have:=HL.out i y;omega
  ·omega)
theorem qjk {w:World} {v:Value} {t:List Nat} (hv:Vb w v t) (bits:Nat) (hb:bits≤256) (hG:Dg.Gr w) :
 Calls Tryz.prog 37 #[.int .i64 bits,v] w fun e w'=>e=.returned (.agg (bv (Dg.kh bits t)).toArray)∧Below w.heap.size w w':=by
 obtain ⟨a,b,off,c,rfl,hv,hc,hn,hl⟩:=hv
 exact Dg.rhashN_any w bits hb a b off c t (vDg hv) hn (by omega) hG
set_option maxRecDepth 100000 in
set_option maxHeartbeats 1600000 in
theorem qoe {w:World} (hG:Dg.Gr w) (bits:Nat) (hb:bits≤256) :
 Calls Tryz.prog 48 #[.int .i64 (bits:Nat)] w fun e w'=>e=.returned (.agg (bv (Dg.kh bits s128)).toArray)∧Below w.heap.size w w':=by
 have hz:=zvH
 have HG0:Hid (Below w.heap.size w ((w.alloc (.cells (bv z32).toArray 31)).alloc (.cells #[.int .u8 128] 5))∧((w.alloc (.cells (bv z32).toArray 31)).alloc (.cells #[.int .u8 128] 5)).heap[w.heap.size]?=some (.cells (bv z32).toArray 31 (0,0))∧((w.alloc (.cells (bv z32).toArray 31)).alloc (.cells #[.int .u8 128] 5)).heap.size=w.heap.size+2):=⟨ch (qaa _ _) (qaa _ _),by rw [heap_alloc_old _ _ (by simp)];exact heap_alloc_new _ _,by simp⟩
 have vf:=(quy (fun _=>False) (w.alloc (.cells (bv z32).toArray 31)) (fun q=>q)).vb
 rw [World.size_alloc] at vf
 have K:=qjk vf bits hb (hG.below HG0.out.1)
 have hk:IsH (Dg.kh bits s128):=qby bits s128
 obtain ⟨k,ek⟩:∃k,k=Dg.kh bits s128:=⟨_,rfl⟩
 rw [←ek] at K hk ⊢
 obtain ⟨zz,ez⟩:∃z,z=z32:=⟨_,rfl⟩
 have hzz:IsH zz:=by rw [ez];exact qec
 rw [←ez] at K HG0 hz
 clear ez ek hG vf hb
 go_enter Tryz.func48,Tryz.ntmps48
 go_wp2_with (first
  | (go_at_call 37;go_loud (refine K.mono ?_;rintro e w2 ⟨rfl,b2⟩;have g4:=(b2.block _ (Array.getElem?_eq_some_iff.1 HG0.out.2.1).1).trans HG0.out.2.1;have HZ:Hid (Below w.heap.size w w2):=ch HG0.out.1 b2;clear K b2))
  | refine qdd _ _ (by rfl) w.heap.size k zz hk hzz g4 (by rfl) (by rfl) ?_)
 have hr3:=setRow_heap w2 w.heap.size _ (bv k).toArray _ _ g4
 refine bodyPost_ret (resH rfl _ _ w.heap.size k hk (qah hr3) rfl) rfl ?_
 exact ⟨rfl,Dg.below_setRow HZ.out (Nat.le_refl _) _⟩
open Go.RowKit Go.Maps
structure Td where
 key:List Nat
 data:List Nat
 err:Int
def tdc (t:Td) (v:Value):List Value:=bv t.key++[v,.int .i64 t.err]
def ask (L:List Td) (h:List Nat):Td:=(L.find? (fun t=>decide (t.key=h))).getD ⟨h,[],5⟩
structure Tls (P:Nat→Prop) (w:World) (v:Value) (L:List Td) (dv:Nat→Value):Prop where
 sl:∃a b off c,v=.slice a L.length c∧(0<L.length→a=some ⟨b,off,none⟩∧P b∧b<w.heap.size)∧∀i t,L[i]?=some t→w.rangeAt b (off+i*34) (tdc t (dv i))
 key:∀t∈L,IsH t.key
 dat:∀i t,L[i]?=some t→Vf P w (dv i) t.data
 len:L.length≤2199023255488
theorem qed {P G:Nat→Prop} {w w':World} {v:Value} {s:List Nat} (h:Vf P w v s) (t:Turn G w w') (hd:∀i,P i→i<w.heap.size→¬G i):Vf P w' v s:=h.same (fun i hi hl=>t.block i hl (hd i hi hl))
theorem Tls.turn {P G:Nat→Prop} {w w':World} {v:Value} {L:List Td} {dv:Nat→Value} (h:Tls P w v L dv) (t:Turn G w w') (hd:∀i,P i→i<w.heap.size→¬G i):Tls P w' v L dv:=by
 obtain ⟨a,b,off,c,h1,h2,h3⟩:=h.sl
 refine ⟨⟨a,b,off,c,h1,fun q=>⟨(h2 q).1,(h2 q).2.1,Nat.lt_of_lt_of_le (h2 q).2.2 t.size⟩,fun i x hx=>?_⟩,h.key,fun i x hx=>qed (h.dat i x hx) t hd,h.len⟩
 have h0:0<L.length:=by have:=(List.getElem?_eq_some_iff.1 hx).1;omega
 exact qbj (h3 i x hx) (t.block b (h2 h0).2.2 (hd b (h2 h0).2.1 (h2 h0).2.2))
theorem Tls.keep {P:Nat→Prop} {w w':World} {v:Value} {L:List Td} {dv:Nat→Value} (h:Tls P w v L dv) (k:Below w.heap.size w w'):Tls P w' v L dv:=h.turn (G:=fun _=>False) (Turn.of_below k) (fun _ _ _ q=>q)
theorem qy4 {w:World} {b o:Nat} {t:Td} {v:Value} (ht:t.key.length=32) (h:w.rangeAt b o (tdc t v)):w.rangeAt b o (bv t.key)∧w.cell? ⟨b,o+32,none⟩=some v∧w.cell? ⟨b,o+33,none⟩=some (.int .i64 t.err):=by
 refine ⟨qek h,?_,?_⟩
 ·have:=qcn h 0 v rfl
  rw [bv_len,ht] at this
  exact this
 ·have:=qcn h 1 _ rfl
  rw [bv_len,ht] at this
  exact this
theorem qq9 {L:List Td} {h:List Nat} {k:Nat} {t:Td} (hk:L[k]?=some t) (ht:t.key=h) (hb:∀j x,j<k→L[j]?=some x→x.key≠h):ask L h=t:=by
 unfold ask
 have:L.find? (fun t=>decide (t.key=h))=some t:=by
  rw [List.find?_eq_some_iff_getElem]
  obtain ⟨h1,h2⟩:=List.getElem?_eq_some_iff.1 hk
  refine ⟨by simpa using ht,k,h1,h2,fun j hj=>?_⟩
  have:=hb j L[j] hj (List.getElem?_eq_getElem (by omega))
  simpa using this
 rw [this]
 rfl
theorem qy5 {L:List Td} {h:List Nat} (hb:∀(j:Nat) (x:Td),L[j]?=some x→x.key≠h):ask L h=⟨h,[],5⟩:=by
 unfold ask
 have:L.find? (fun t=>decide (t.key=h))=none:=by
  rw [List.find?_eq_none]
  intro x hx
  obtain ⟨j,hj⟩:=List.getElem?_of_mem hx
  have:=hb j x hj
  simpa using this
 rw [this]
 rfl
theorem qdq (w:World) (q:Nat):(w.drewN q).drew=w.drewN (q+1):=by
 have:=World.drewN_drewN w q 1
 exact this
set_option maxRecDepth 100000 in
set_option maxHeartbeats 3200000 in
theorem qra {P:Nat→Prop} {w:World} {v:Value} {L:List Td} {dv:Nat→Value} (hL:Tls P w v L dv) {h:List Nat} (hh:IsH h) :
 Calls Tryz.prog 99 #[v,.agg (bv h).toArray] w fun e w'=>∃u,e=.returned (.tuple #[u,.int .i64 (ask L h).err])∧Vf P w' u (ask L h).data∧Below w.heap.size w w':=by
 have on:=qdc h
 obtain ⟨a,b,off,c,rfl,h2,h3⟩:=hL.sl
 have hlen:=hL.len
 obtain ⟨W,eW⟩:∃W,W=w.alloc (.cells (bv h).toArray 31):=⟨_,rfl⟩
 have b0:Below w.heap.size w W:=by rw [eW];exact qaa _ _
 have gh:W.rangeAt w.heap.size 0 (bv h):=by rw [eW];exact qa1 _ _ _
 have HW:Hid (IsH h∧(∀q,(W.drewN q).rangeAt w.heap.size 0 (bv h))∧Below w.heap.size w W∧Tls P w (.slice a L.length c) L dv):=⟨hh,fun q=>gh,b0,hL⟩
 have HT:Hid (∀(q k:Nat) (t:Td),L[k]?=some t→(W.drewN q).rangeAt b (off+k*34) (bv t.key)∧(W.drewN q).cell? ⟨b,off+k*34+32,none⟩=some (dv k)∧(W.drewN q).cell? ⟨b,off+k*34+33,none⟩=some (.int .i64 t.err)):=fun q k t ht=>qy4 (hL.key t (List.mem_of_getElem? ht)).1 (qay (h3 k t ht) (below_drewN b0 q))
 obtain ⟨n,en⟩:∃n,n=L.length:=⟨_,rfl⟩
 have HA:Hid (0<n→a=some ⟨b,off,none⟩):=fun q=>(h2 (by omega)).1
 rw [←en] at HW hlen ⊢
 have HN:Hid (n=L.length):=en
 clear hL hh h2 h3 b0 gh en
 go_enter Tryz.func99,Tryz.ntmps99
 go_wp2_with fail
 rw [←eW]
 clear eW
 go_loopg [6] n (fun g i wr=>∃k:Nat,k≤n∧g=n - k∧i=.int .i64 k∧(∀j x,j<k→L[j]?=some x→x.key≠h)∧∃q,wr=W.drewN q)
 case atStart=>exact ⟨0,Nat.zero_le _,rfl,rfl,fun j x hj=>absurd hj (by omega),0,rfl⟩
 case round =>
  obtain ⟨k,hk,rfl,rfl,hno,q,rfl⟩:=hrel
  have HNO:Hid (∀j x,j<k→L[j]?=some x→x.key≠h):=hno
  clear hno
  by_cases hkn:k<n
  ·obtain rfl:=HA.out (by omega)
   have i1:(k:Int)<(n:Int):=by omega
   obtain ⟨t,ht⟩:∃t,L[k]?=some t:=⟨_,List.getElem?_eq_getElem (by rw [←HN.out];exact hkn)⟩
   have HK:Hid (L[k]?=some t∧IsH t.key):=⟨ht,HW.out.2.2.2.key t (List.mem_of_getElem? ht)⟩
   clear ht
   by_cases he:t.key=h
   ·have HE:Hid (t.key=h):=he
    have HD:Hid (decide (t.key=h)=true):=decide_eq_true he
    clear he
    go_wp2_with fail
    refine wp_region_held_drew (S:=fun u=>∃p,u=W.drewN p) (by kernel_rfl) (by exact ⟨q+1,qdq _ _⟩) ?_
    intro hS
    change wpAnyH _ _ _ _ _ 7 _ _ _
    refine Z.tk 0 (.slice (some ⟨b,off,none⟩) n c) (y:=Z.y_move _ rfl _ rfl) (s:=hS) (h:=?_)
    refine Z.tk 1 (.int .i64 (k:Nat)) (y:=Z.y_move _ rfl _ rfl) (s:=hS) (h:=?_)
    refine Z.tk 2 (.pointer (some ⟨b,off+k*34,none⟩)) (y:=Z.y_i_tolds _ _ rfl _ _ _ _ _ rfl rfl hkn) (s:=hS) (h:=?_)
    refine Z.tk 3 (.pointer (some ⟨b,off+k*34,none⟩)) (y:=Z.y_f_Told0 _ rfl _ _ rfl) (s:=hS) (h:=?_)
    refine Z.tk 4 (.agg (bv t.key).toArray) (y:=Z.y_s_Hash _ rfl _ _ rfl t.key HK.out.2.1 (fun u hs=>by obtain ⟨p,rfl⟩:=hs;exact (HT.out p k t HK.out.1).1)) (s:=hS) (h:=?_)
    refine Z.ly ?_
    refine Z.tk 5 (.agg (bv h).toArray) (y:=Z.y_s_Hash _ rfl _ _ rfl h HW.out.1.1 (fun u hs=>by obtain ⟨p,rfl⟩:=hs;exact HW.out.2.1 p)) (s:=hS) (h:=?_)
    refine Z.tk 6 (.bool true) (y:=Z.y_eqlH _ _ rfl _ _ rfl rfl HK.out.2.1 HK.out.2.2 HW.out.1.1 HW.out.1.2 true HD.out) (s:=hS) (h:=?_)
    refine Z.ly ?_
    refine wpAnyH_done (by kernel_rfl) ?_ _
    clear hS
    go_wp2_with fail
    refine wp_region_held_drew (S:=fun u=>∃p,u=W.drewN p) (by kernel_rfl) (by exact ⟨q+2,by rw [qdq,qdq]⟩) ?_
    intro hS
    change wpAnyH _ _ _ _ _ 12 _ _ _
    refine Z.tk 0 (.slice (some ⟨b,off,none⟩) n c) (y:=Z.y_move _ rfl _ rfl) (s:=hS) (h:=?_)
    refine Z.tk 1 (.int .i64 (k:Nat)) (y:=Z.y_move _ rfl _ rfl) (s:=hS) (h:=?_)
    refine Z.tk 2 (.pointer (some ⟨b,off+k*34,none⟩)) (y:=Z.y_i_tolds _ _ rfl _ _ _ _ _ rfl rfl hkn) (s:=hS) (h:=?_)
    refine Z.tk 3 (.pointer (some ⟨b,off+k*34+32,none⟩)) (y:=Z.y_f_Told1 _ rfl _ _ rfl) (s:=hS) (h:=?_)
    refine Z.tk 4 (dv k) (y:=Z.y_l_byt _ rfl _ _ rfl _ (fun u hs=>by obtain ⟨p,rfl⟩:=hs;exact (HT.out p k t HK.out.1).2.1)) (s:=hS) (h:=?_)
    refine Z.ly ?_
    refine Z.tk 5 (.slice (some ⟨b,off,none⟩) n c) (y:=Z.y_move _ rfl _ rfl) (s:=hS) (h:=?_)
    refine Z.tk 6 (.int .i64 (k:Nat)) (y:=Z.y_move _ rfl _ rfl) (s:=hS) (h:=?_)
    refine Z.tk 7 (.pointer (some ⟨b,off+k*34,none⟩)) (y:=Z.y_i_tolds _ _ rfl _ _ _ _ _ rfl rfl hkn) (s:=hS) (h:=?_)
    refine Z.tk 8 (.pointer (some ⟨b,off+k*34+33,none⟩)) (y:=Z.y_f_Told2 _ rfl _ _ rfl) (s:=hS) (h:=?_)
    refine Z.tk 9 (.int .i64 t.err) (y:=Z.y_l_int _ rfl _ _ rfl _ (fun u hs=>by obtain ⟨p,rfl⟩:=hs;exact (HT.out p k t HK.out.1).2.2)) (s:=hS) (h:=?_)
    refine Z.ly ?_
    refine Z.tk 10 (dv k) (y:=Z.y_assign _ rfl _ rfl) (s:=hS) (h:=?_)
    refine Z.tk 11 (.int .i64 t.err) (y:=Z.y_assign _ rfl _ rfl) (s:=hS) (h:=?_)
    refine Z.ly ?_
    refine wpAnyH_done (by kernel_rfl) ?_ _
    clear hS
    go_wp2_with fail
    go_ret2
    rw [qq9 HK.out.1 HE.out HNO.out]
    refine ⟨dv k,rfl,?_,?_⟩
    ·exact qed (G:=fun _=>False) (HW.out.2.2.2.dat k t HK.out.1) (Turn.of_below (by rw [qdq,qdq];exact below_drewN HW.out.2.2.1 _)) (fun _ _ _ z=>z)
    ·rw [qdq,qdq];exact below_drewN HW.out.2.2.1 _
   ·have HE:Hid (t.key≠h):=he
    have HD:Hid (decide (t.key=h)=false):=decide_eq_false he
    clear he
    go_wp2_with fail
    refine wp_region_held_drew (S:=fun u=>∃p,u=W.drewN p) (by kernel_rfl) (by exact ⟨q+1,qdq _ _⟩) ?_
    intro hS
    change wpAnyH _ _ _ _ _ 7 _ _ _
    refine Z.tk 0 (.slice (some ⟨b,off,none⟩) n c) (y:=Z.y_move _ rfl _ rfl) (s:=hS) (h:=?_)
    refine Z.tk 1 (.int .i64 (k:Nat)) (y:=Z.y_move _ rfl _ rfl) (s:=hS) (h:=?_)
    refine Z.tk 2 (.pointer (some ⟨b,off+k*34,none⟩)) (y:=Z.y_i_tolds _ _ rfl _ _ _ _ _ rfl rfl hkn) (s:=hS) (h:=?_)
    refine Z.tk 3 (.pointer (some ⟨b,off+k*34,none⟩)) (y:=Z.y_f_Told0 _ rfl _ _ rfl) (s:=hS) (h:=?_)
    refine Z.tk 4 (.agg (bv t.key).toArray) (y:=Z.y_s_Hash _ rfl _ _ rfl t.key HK.out.2.1 (fun u hs=>by obtain ⟨p,rfl⟩:=hs;exact (HT.out p k t HK.out.1).1)) (s:=hS) (h:=?_)
    refine Z.ly ?_
    refine Z.tk 5 (.agg (bv h).toArray) (y:=Z.y_s_Hash _ rfl _ _ rfl h HW.out.1.1 (fun u hs=>by obtain ⟨p,rfl⟩:=hs;exact HW.out.2.1 p)) (s:=hS) (h:=?_)
    refine Z.tk 6 (.bool false) (y:=Z.y_eqlH _ _ rfl _ _ rfl rfl HK.out.2.1 HK.out.2.2 HW.out.1.1 HW.out.1.2 false HD.out) (s:=hS) (h:=?_)
    refine Z.ly ?_
    refine wpAnyH_done (by kernel_rfl) ?_ _
    clear hS
    go_wp2_with fail
    go_roundg (n - (k+1))
    case measure=>omega
    case rel =>
     refine ⟨k+1,by omega,rfl,by go_num,fun j x hj hx=>?_,q+1,qdq _ _⟩
     by_cases e:j=k
     ·subst e
      rw [HK.out.1] at hx
      have:=Option.some.inj hx
      subst this
      exact HE.out
     ·exact HNO.out j x (by omega) hx
  ·have:k=n:=by omega
   subst this
   go_wp2_with fail
   go_ret2
   rw [qy5 (fun j x hx=>HNO.out j x (by rw [HN.out];exact (List.getElem?_eq_some_iff.1 hx).1) hx)]
   exact ⟨_,rfl,qcs _ _,below_drewN HW.out.2.2.1 _⟩
end Go.Proofs.YtemcneddbhgadaaGreatDoor
