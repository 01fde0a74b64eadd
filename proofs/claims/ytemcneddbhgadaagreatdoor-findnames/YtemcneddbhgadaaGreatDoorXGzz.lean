import Derived.Test.YtemcneddbhgadaaGreatDoorZvzz
import Derived.Test.YtemcneddbhgadaaGreatDoorX4zz
import Derived.Test.YtemcneddbhgadaaGreatDoorX9zz
import Derived.Test.YtemcneddbhgadaaGreatDoorXEzz
namespace Go.Proofs.YtemcneddbhgadaaGreatDoor
open Go.RowKit Go.Maps
set_option maxRecDepth 100000 in
set_option maxHeartbeats 800000 in
theorem quz (w:World) {h:List Nat} (bv' kv fn:Value) :
 Calls Tryz.prog 33 #[.nilIface,bv',.agg (bv h).toArray,kv,fn] w fun e w'=>e=.returned (.tuple #[.slice none 0 0,.bool false,.int .i64 1])∧Below w.heap.size w w':=by
 have on:=qdc h
 go_enter Tryz.func33,Tryz.ntmps33
 go_wp2_with fail
 go_ret3
 exact ⟨rfl,qaa _ _⟩
set_option maxRecDepth 100000 in
set_option maxHeartbeats 800000 in
theorem qy2 (w:World) {h:List Nat} (t:TypeId) (rv kv fn:Value) :
 Calls Tryz.prog 33 #[.iface t rv,.pointer none,.agg (bv h).toArray,kv,fn] w fun e w'=>e=.returned (.tuple #[.slice none 0 0,.bool false,.int .i64 1])∧Below w.heap.size w w':=by
 have on:=qdc h
 go_enter Tryz.func33,Tryz.ntmps33
 go_wp2_with fail
 go_ret3
 exact ⟨rfl,qaa _ _⟩
set_option maxRecDepth 100000 in
set_option maxHeartbeats 800000 in
theorem qq5 (w:World) {h:List Nat} (t:TypeId) (bk:Nat) (rv fn:Value) (ka:Option Addr) (kn kc:Nat) (hk:32<kn) (hk2:kn≤140737488351232) :
 Calls Tryz.prog 33 #[.iface t rv,.pointer (some ⟨bk,0,none⟩),.agg (bv h).toArray,.slice ka kn kc,fn] w fun e w'=>e=.returned (.tuple #[.slice none 0 0,.bool false,.int .i64 2])∧Below w.heap.size w w':=by
 have on:=qdc h
 have i1:(32:Int)<(kn:Int):=by omega
 go_enter Tryz.func33,Tryz.ntmps33
 go_wp2_with fail
 go_ret3
 exact ⟨rfl,qaa _ _⟩
set_option maxRecDepth 100000 in
set_option maxHeartbeats 3200000 in
theorem qm4 {w:World} {bk bits N:Nat} {F:Nat→Prop} (hb:Bk w bk bits N F) (hG:Dg.Ground w) (hN:N≤1000) {h:List Nat} (hh:h=Dg.kh bits s128) (t:TypeId) (rv fn:Value) (ka:Option Addr) (kn kc:Nat) (hk:kn≤32) :
 Calls Tryz.prog 33 #[.iface t rv,.pointer (some ⟨bk,0,none⟩),.agg (bv h).toArray,.slice ka kn kc,fn] w fun e w'=>e=.returned (.tuple #[.slice none 0 0,.bool false,.int .i64 0])∧Turn F w w'∧∃F',Bk w' bk bits (N+1) F'∧∀i,F' i→F i∨w.heap.size≤i:=by
 have on:=qdc h
 have i1:¬(32:Int)<(kn:Int):=by omega
 obtain ⟨W,eW⟩:∃W,W=w.alloc (.cells (bv h).toArray 31):=⟨_,rfl⟩
 have b0:Below w.heap.size w W:=by rw [eW];exact qaa _ _
 have gh:W.heap[w.heap.size]?=some (.cells (bv h).toArray 31 (0,0)):=by rw [eW];exact heap_alloc_new _ _
 have HA:Hid (W.drew.heap[w.heap.size]?=some (.cells (bv h).toArray 31 (0,0))):=gh
 have HD:Hid (Below w.heap.size w W.drew):=b0.drew
 have HL:Hid (∀i,F i→i<w.heap.size):=fun i q=>(hb.lim i q).2
 have HE:Hid (Calls Tryz.prog 53 #[.pointer (some ⟨bk,0,none⟩)] W.drew fun e w'=>e=.returned (.agg (bv (Dg.kh bits s128)).toArray)∧Turn F W.drew w'∧∃F',Bk w' bk bits (N+1) F'∧∀i,F' i→F i∨W.drew.heap.size≤i):=qgd (hb.keep b0.drew) (hG.below b0.drew) hN
 have HKM:Hid (IsH (Dg.kh bits s128)):=qby _ _
 obtain ⟨km,ekm⟩:∃k,k=Dg.kh bits s128:=⟨_,rfl⟩
 rw [←ekm] at HE HKM
 have HI:Hid (IsH h):=by rw [hh];exact qby _ _
 obtain rfl:km=h:=by rw [ekm,hh]
 clear hb hG hN hh ekm b0 gh
 go_enter Tryz.func33,Tryz.ntmps33
 go_wp2_with fail
 rw [←eW]
 clear eW
 refine wp_region_held_drew (S:=fun u=>u.heap[w.heap.size]?=some (.cells (bv km).toArray 31 (0,0))) (by kernel_rfl) (by exact HA.out) ?_
 intro hS
 change wpAnyH _ _ _ _ _ 4 _ _ _
 refine Z.tk 0 (.agg (bv km).toArray) (y:=Z.y_s_Hash _ rfl _ _ rfl km HI.out.1 (fun u hs=>qeb hs)) (s:=hS) (h:=?_)
 refine Z.tk 1 (.pointer (some ⟨bk,0,none⟩)) (y:=Z.y_move _ rfl _ rfl) (s:=hS) (h:=?_)
 refine Z.ly ?_
 refine Z.r1 2 fun K hK=>?_
 go_simp
 refine HE.out.mono ?_
 rintro _ u1 ⟨rfl,ht1,F1,hF1,hF2⟩
 have hS1:u1.heap[w.heap.size]?=some (.cells (bv km).toArray 31 (0,0)):=ht1.at_new hS (fun q=>by have:=HL.out _ q;omega)
 have H1:Hid (Turn F w u1∧Bk u1 bk bits (N+1) F1∧(∀i,F1 i→F i∨w.heap.size≤i)):=⟨(Turn.of_below HD.out).trans ht1 (fun _ q=>Or.inl q),hF1,fun i q=>(hF2 i q).imp id (fun z=>Nat.le_trans HD.out.size z)⟩
 clear ht1 hF1 hF2
 refine hK.out _ _ hS1 (fun hS=>?_)
 clear hK K
 refine Z.ly ?_
 refine Z.tk 3 (.bool true) (y:=Z.y_eqlH _ _ rfl _ _ rfl rfl HI.out.1 HI.out.2 HI.out.1 HI.out.2 true (by simp)) (s:=hS) (h:=?_)
 refine Z.ly ?_
 refine wpAnyH_done (by kernel_rfl) ?_ _
 clear hS HA HE
 go_wp2_with fail
 go_ret3
 exact ⟨rfl,H1.out.1,F1,H1.out.2.1,H1.out.2.2⟩
open Go.RowKit Go.Maps
set_option maxRecDepth 100000 in
set_option maxHeartbeats 800000 in
theorem qm6 (w : World) {h : List Nat} (hh : IsH h) (sv b kv : Value) {P : World → Value → Value → Value → World → Prop}
    (hc:∀W,Below w.heap.size w W→Calls Tryz.prog 33 #[sv,b,.agg (bv h).toArray,kv,gfn] W fun e w'=>∃v f x,e=.returned (.tuple #[v,f,x])∧P W v f x w') :
    Calls Tryz.prog 10 #[sv,b,.agg (bv h).toArray,kv] w fun e w'=>∃v f x,e=.returned (.tuple #[v,f,x])∧∃W,Below w.heap.size w W∧P W v f x w':=by
  have on:=qdc h
  have HH:Hid (IsH h):=hh
  have HC:Hid (∀W,Below w.heap.size w W→Calls Tryz.prog 33 #[sv,b,.agg (bv h).toArray,kv,gfn] W fun e w'=>∃v f x,e=.returned (.tuple #[v,f,x])∧P W v f x w'):=hc
  have g0:=qa1 w (bv h) 31
  clear hc hh
  go_enter Tryz.func10,Tryz.ntmps10
  go_wp2_with (first
    | refine qaj _ (by rfl) w.heap.size 0 h HH.out.1 g0 (by rfl) ?_
    | (go_at_call 33;go_loud (refine (HC.out _ (qaa w (.cells (bv h).toArray 31))).mono ?_;rintro _ w1 ⟨v,f,x,rfl,hP⟩;have H1:Hid (P (w.alloc (.cells (bv h).toArray 31)) v f x w1):=hP;clear hP g0)))
  go_ret3
  exact ⟨v,f,x,rfl,_,qaa _ _,H1.out⟩
set_option maxRecDepth 100000 in
set_option maxHeartbeats 800000 in
theorem qkp (w : World) {h : List Nat} (hh : IsH h) (sv b kv : Value) (x : Int) (hx : x ≠ 0)
    (hc:∀W fn,Below w.heap.size w W→Calls Tryz.prog 33 #[sv,b,.agg (bv h).toArray,kv,fn] W fun e w'=>e=.returned (.tuple #[.slice none 0 0,.bool false,.int .i64 x])∧Below W.heap.size W w') :
    Calls Tryz.prog 11 #[sv,b,.agg (bv h).toArray,kv] w fun e w'=>e=.returned (.tuple #[.slice none 0 0,.int .i64 x])∧Below w.heap.size w w':=by
  have on:=qdc h
  have HH:Hid (IsH h):=hh
  have HC:Hid (∀W fn,Below w.heap.size w W→Calls Tryz.prog 33 #[sv,b,.agg (bv h).toArray,kv,fn] W fun e w'=>e=.returned (.tuple #[.slice none 0 0,.bool false,.int .i64 x])∧Below W.heap.size W w'):=hc
  have g0:((w.alloc (.cells (bv h).toArray 31)).alloc (.cells #[.slice none 0 0] 27)).rangeAt w.heap.size 0 (bv h):=qah ((heap_alloc_old _ _ (by simp)).trans (heap_alloc_new w (.cells (bv h).toArray 31)))
  clear hc hh
  go_enter Tryz.func11,Tryz.ntmps11
  go_wp2_with (first
    | refine qaj _ (by rfl) w.heap.size 0 h HH.out.1 g0 (by rfl) ?_
    | (go_at_call 33;go_loud (refine (HC.out _ _ (ch (qaa w (.cells (bv h).toArray 31)) (qaa _ _))).mono ?_;rintro _ w1 ⟨rfl,hb⟩;have H1:Hid (Below w.heap.size w w1):=ch (ch (qaa w (.cells (bv h).toArray 31)) (qaa _ _)) hb;clear hb g0)))
  go_ret2
  exact ⟨rfl,H1.out⟩
set_option maxRecDepth 100000 in
set_option maxHeartbeats 800000 in
theorem qof (w : World) {h : List Nat} (hh : IsH h) (sv b kv : Value) {F : Nat → Prop} (hF : ∀ i, F i → i < w.heap.size) {P : World → World → Prop}
    (hc:∀W fn,Below w.heap.size w W→Calls Tryz.prog 33 #[sv,b,.agg (bv h).toArray,kv,fn] W fun e w'=>e=.returned (.tuple #[.slice none 0 0,.bool false,.int .i64 0])∧Turn F W w'∧P W w') :
    Calls Tryz.prog 11 #[sv,b,.agg (bv h).toArray,kv] w fun e w'=>e=.returned (.tuple #[.slice none 0 0,.int .i64 0])∧∃W,Below w.heap.size w W∧Turn F W w'∧P W w':=by
  have on:=qdc h
  have HH:Hid (IsH h):=hh
  have HC:Hid (∀W fn,Below w.heap.size w W→Calls Tryz.prog 33 #[sv,b,.agg (bv h).toArray,kv,fn] W fun e w'=>e=.returned (.tuple #[.slice none 0 0,.bool false,.int .i64 0])∧Turn F W w'∧P W w'):=hc
  have g0:((w.alloc (.cells (bv h).toArray 31)).alloc (.cells #[.slice none 0 0] 27)).rangeAt w.heap.size 0 (bv h):=qah ((heap_alloc_old _ _ (by simp)).trans (heap_alloc_new w (.cells (bv h).toArray 31)))
  have HG:Hid (((w.alloc (.cells (bv h).toArray 31)).alloc (.cells #[.slice none 0 0] 27)).cell? ⟨w.heap.size+1,0,none⟩=some (.slice none 0 0)∧w.heap.size+1<((w.alloc (.cells (bv h).toArray 31)).alloc (.cells #[.slice none 0 0] 27)).heap.size):=⟨by simp,by simp⟩
  have HF:Hid (∀i,F i→i<w.heap.size):=hF
  clear hc hh hF
  go_enter Tryz.func11,Tryz.ntmps11
  go_wp2_with (first
    | refine qaj _ (by rfl) w.heap.size 0 h HH.out.1 g0 (by rfl) ?_
    | (go_at_call 33;go_loud (refine (HC.out _ _ (ch (qaa w (.cells (bv h).toArray 31)) (qaa _ _))).mono ?_;rintro _ w1 ⟨rfl,ht,hP⟩;have H1:Hid (Turn F ((w.alloc (.cells (bv h).toArray 31)).alloc (.cells #[.slice none 0 0] 27)) w1∧P ((w.alloc (.cells (bv h).toArray 31)).alloc (.cells #[.slice none 0 0] 27)) w1):=⟨ht,hP⟩;have c1:=(ht.cell (q:=⟨w.heap.size+1,0,none⟩) HG.out.2 (fun q=>by have h9:w.heap.size+1<w.heap.size:=HF.out _ q;omega)).trans HG.out.1;clear ht hP g0)))
  go_ret2
  exact ⟨rfl,_,ch (qaa w (.cells (bv h).toArray 31)) (qaa _ _),H1.out.1,H1.out.2⟩
open Go.RowKit Go.Maps
theorem qds {ops:Array Oper} {rest:List Oper} {op:Oper} {a:Act} {w:World} {Q:Exit→Act→World→Prop} (x y:Operand) (ho:op.op=.store 31 x y) (s z:List Nat) (hs:IsH s) (hz:IsH z)
 (hx:a.eval x=.pointer (some ⟨w.heap.size,0,none⟩)) (hy:a.eval y=.agg (bv s).toArray) (h:wpList Tryz.prog ops Q rest (a.put op.dst undef) (w.alloc (.cells (bv s).toArray 31))) (hw:Region.wanted op (yielded ops a.tmps)=true:=by kernel_rfl):wpList Tryz.prog ops Q (op::rest) a (w.alloc (.cells (bv z).toArray 31)):=by
 refine qbs hw (wp_store_row 31 x y ho w.heap.size (bv s).toArray hx hy 31 (bv z).toArray (heap_alloc_new _ _) (by rw [List.size_toArray];exact qdi hs.1) (by rw [List.size_toArray,List.size_toArray,bv_len,bv_len,hs.1,hz.1]) (qdc s) ?_)
 rw [World.setRow_alloc_new]
 exact h
set_option maxRecDepth 100000 in
set_option maxHeartbeats 1600000 in
theorem qr0 {w:World} {k:List Nat} (hk:IsH k) (bits:Nat) (ev:Value) (hc:∀W,Below w.heap.size w W→Calls Tryz.prog 32 #[.int .i64 (bits:Nat),ev] W fun e w'=>∃p d,e=.returned (.tuple #[.agg (bv k).toArray,p,d])∧Below W.heap.size W w') :
 Calls Tryz.prog 9 #[.int .i64 (bits:Nat),ev] w fun e w'=>e=.returned (.agg (bv k).toArray)∧Below w.heap.size w w':=by
 have hz:=zvH
 obtain ⟨zz,ez⟩:∃z,z=z32:=⟨_,rfl⟩
 have hzz:IsH zz:=by rw [ez];exact qec
 rw [←ez] at hz
 have K:=hc _ (qaa w (.cells (bv zz).toArray 31))
 have HG:Hid ((w.alloc (.cells (bv zz).toArray 31)).heap[w.heap.size]?=some (.cells (bv zz).toArray 31 (0,0))):=heap_alloc_new _ _
 clear hc ez
 go_enter Tryz.func9,Tryz.ntmps9
 go_wp2_with (first
  | (go_at_call 32;go_loud (refine K.mono ?_;rintro _ u1 ⟨p,d,rfl,b1⟩;have B1:=ch b1 (qaa u1 (.cells (bv k).toArray 31));have g1:(u1.alloc (.cells (bv k).toArray 31)).heap[w.heap.size]?=some (.cells (bv zz).toArray 31 (0,0)):=(B1.block _ (Array.getElem?_eq_some_iff.1 HG.out).1).trans HG.out;have r1:=qa1 u1 (bv k) 31;have H1:Hid (Below w.heap.size w (u1.alloc (.cells (bv k).toArray 31))):=ch (qaa w (.cells (bv zz).toArray 31)) B1;clear b1 B1 K))
  | refine qds _ _ (by rfl) k zz hk hzz (by rfl) (by rfl) ?_
  | refine qaj _ (by rfl) u1.heap.size 0 k hk.1 r1 (by rfl) ?_
  | refine qdd _ _ (by rfl) w.heap.size k zz hk hzz g1 (by rfl) (by rfl) ?_)
 have hr3:=setRow_heap _ w.heap.size _ (bv k).toArray _ _ g1
 refine bodyPost_ret (resH rfl _ _ w.heap.size k hk (qah hr3) rfl) rfl ?_
 exact ⟨rfl,Dg.below_setRow H1.out (Nat.le_refl _) _⟩
set_option maxRecDepth 100000 in
set_option maxHeartbeats 1600000 in
theorem qub {w:World} {k:List Nat} (hk:IsH k) (bits:Nat) (ev:Value) {R:Value→World→Prop} (hc:Calls Tryz.prog 32 #[.int .i64 (bits:Nat),ev] w fun e w'=>∃tb ba bn bc d,e=.returned (.tuple #[.agg (bv k).toArray,.pointer (some ⟨tb,0,none⟩),d])∧Tr w' tb bits (.slice ba bn bc) 1 0 0∧R (.slice ba bn bc) w') :
 Calls Tryz.prog 15 #[.int .i64 (bits:Nat),ev] w fun e w'=>∃ba bn bc,e=.returned (.slice ba bn bc)∧∃u,R (.slice ba bn bc) u∧Below u.heap.size u w':=by
 have hz:=zvH
 obtain ⟨zz,ez⟩:∃z,z=z32:=⟨_,rfl⟩
 have hzz:IsH zz:=by rw [ez];exact qec
 rw [←ez] at hz
 clear ez
 go_enter Tryz.func15,Tryz.ntmps15
 go_wp2_with (first
  | (go_at_call 32;go_loud (refine hc.mono ?_;rintro _ u1 ⟨tb,ba,bn,bc,d,rfl,tr,hR⟩;have c1:=(tr.keep (qaa u1 (.cells (bv k).toArray 31))).at_.2.1;have H1:Hid (R (.slice ba bn bc) u1):=hR;clear tr hR hc))
  | refine qds _ _ (by rfl) k zz hk hzz (by rfl) (by rfl) ?_)
 go_ret
 exact ⟨_,_,_,rfl,u1,H1.out,qaa _ _⟩
theorem qr1 {t:Td} (h:t.key.length=32) (v:Value):(tdc t v).length=34:=by simp [tdc,bv_len,h]
theorem qxc {t:Td} {v:Value} (h:v.oneCell'=true):∀u∈tdc t v,u.oneCell'=true:=fun u hu=>by
 rcases List.mem_append.1 hu with q | q
 ·exact qgn _ u q
 ·rcases List.mem_cons.1 q with q | q
  ·rw [q];exact h
  ·rw [List.mem_singleton.1 q];rfl
theorem qxd {k s:List Nat} (hk:k.length=32) (a:Option Addr) (n c:Nat):Tryz.prog.built 56 [(0,.agg (bv k).toArray),(1,.slice a n c)]=some (tdc ⟨k,s,0⟩ (.slice a n c)).toArray:=by
 have f0:∀parts,Tryz.prog.built 56 parts=Instr.fill (fun i=>(#[(0,32),(32,1),(33,1)]:Array (Nat × Nat))[i]?) (bv z32++[Value.slice none 0 0,Value.int .i64 0]).toArray parts:=fun parts=>by kernel_rfl
 rw [f0,Z.fill_step (off:=0) (size:=32) rfl (by simp [Value.cells,bv_len,hk]) (by simp [bv_len,qac])]
 rw [show (Value.agg (bv k).toArray).cells=(bv k).toArray from rfl]
 have e:=Z.fold_list 0 [] (bv z32) (bv k) [Value.slice none 0 0,Value.int .i64 0] rfl (by rw [bv_len,bv_len,hk,qac])
 rw [List.nil_append,List.nil_append] at e
 rw [show (fun (cs:Array Value) (x:Value × Nat)=>match x with | (c,j)=>cs.setIfInBounds (0+j) c)=(fun (cs:Array Value) (p:Value × Nat)=>cs.setIfInBounds (0+p.2) p.1) from rfl,e]
 rw [Z.fill_step (off:=32) (size:=1) rfl rfl (by simp [bv_len,hk])]
 have e2:=Z.fold_list 32 (bv k) [Value.slice none 0 0] [.slice a n c] [Value.int .i64 0] (by rw [bv_len,hk]) rfl
 exact congrArg some e2
set_option maxRecDepth 100000 in
set_option maxHeartbeats 3200000 in
theorem qr2 {w:World} {bb bc:Nat} {k s:List Nat} {sa:Option Addr} {sn sc:Nat} (hk:IsH k) (hr:w.rangeAt bb 0 (bbc k (.slice sa sn sc))) :
 Calls Tryz.prog 14 #[.slice (some ⟨bb,0,none⟩) 1 bc] w fun e w'=>∃v,e=.returned v∧w'.ownsRow w.heap.size 56 34 v 1 (tdc ⟨k,s,0⟩ (.slice sa sn sc))∧Below w.heap.size w w':=by
 have r0:w.rangeAt bb 0 (bv k):=qek hr
 have r1:w.cell? ⟨bb,0+0*33+32,none⟩=some (.slice sa sn sc):=by
  have:=qcn hr 0 _ rfl
  rw [bv_len,hk.1] at this
  exact this
 have HS:Hid (w.rangeAt bb 0 (bv k)∧w.cell? ⟨bb,0+0*33+32,none⟩=some (.slice sa sn sc)∧IsH k):=⟨r0,r1,hk⟩
 have bt:=qxd (s:=s) hk.1 sa sn sc
 have hk1:=hk.1
 clear r0 r1 hr hk
 go_enter Tryz.func14,Tryz.ntmps14
 go_wp2_with fail
 go_loopg [3,4] 1 (fun g l i wr=>(g=1∧l=.slice none 0 0∧i=.int .i64 0∧wr=w)∨(g=0∧i=.int .i64 1∧wr.ownsRow w.heap.size 56 34 l 1 (tdc ⟨k,s,0⟩ (.slice sa sn sc))∧Below w.heap.size w wr))
 case atStart=>exact Or.inl ⟨rfl,rfl,rfl,rfl⟩
 case round =>
  rcases hrel with ⟨rfl,rfl,rfl,hw⟩ | ⟨rfl,rfl,ow,bl⟩
  ·have hw2:=hw.symm
   subst hw2
   go_wp2_with fail
   refine wp_region_held_drew (S:=fun u=>u.rangeAt bb 0 (bv k)∧u.cell? ⟨bb,0+0*33+32,none⟩=some (.slice sa sn sc)) (by kernel_rfl) (by exact ⟨HS.out.1,HS.out.2.1⟩) ?_
   intro hS
   change wpAnyH _ _ _ _ _ 15 _ _ _
   refine Z.tk 0 (.slice none 0 0) (y:=Z.y_move _ rfl _ rfl) (s:=hS) (h:=?_)
   refine Z.tk 1 (.slice (some ⟨bb,0,none⟩) 1 bc) (y:=Z.y_move _ rfl _ rfl) (s:=hS) (h:=?_)
   refine Z.tk 2 (.int .i64 0) (y:=Z.y_move _ rfl _ rfl) (s:=hS) (h:=?_)
   refine Z.tk 3 (.pointer (some ⟨bb,0+0*33,none⟩)) (y:=Z.y_i_blobs _ _ rfl bb 0 1 bc 0 rfl rfl (by decide)) (s:=hS) (h:=?_)
   refine Z.tk 4 (.pointer (some ⟨bb,0+0*33,none⟩)) (y:=Z.y_f_Blb0 _ rfl _ _ rfl) (s:=hS) (h:=?_)
   refine Z.ly ?_
   refine Z.tk 5 (.agg (bv k).toArray) (y:=Z.y_s_Hash _ rfl _ _ rfl k hk1 (fun u hs=>hs.1)) (s:=hS) (h:=?_)
   refine Z.tk 6 (.slice (some ⟨bb,0,none⟩) 1 bc) (y:=Z.y_move _ rfl _ rfl) (s:=hS) (h:=?_)
   refine Z.tk 7 (.int .i64 0) (y:=Z.y_move _ rfl _ rfl) (s:=hS) (h:=?_)
   refine Z.tk 8 (.pointer (some ⟨bb,0+0*33,none⟩)) (y:=Z.y_i_blobs _ _ rfl bb 0 1 bc 0 rfl rfl (by decide)) (s:=hS) (h:=?_)
   refine Z.tk 9 (.pointer (some ⟨bb,0+0*33+32,none⟩)) (y:=Z.y_f_Blb1 _ rfl _ _ rfl) (s:=hS) (h:=?_)
   refine Z.ly ?_
   refine Z.tk 10 (.slice sa sn sc) (y:=Z.y_l_byt _ rfl _ _ rfl _ (fun u hs=>hs.2)) (s:=hS) (h:=?_)
   refine Z.tk 11 (.agg (tdc ⟨k,s,0⟩ (.slice sa sn sc)).toArray) (y:=Z.y_bd _ _ rfl _ bt) (s:=hS) (h:=?_)
   refine Z.ly ?_
   refine Z.r1 12 fun K hK=>?_
   refine Z.r_one_tolds _ (by rfl) (.agg (tdc ⟨k,s,0⟩ (.slice sa sn sc)).toArray) (tdc ⟨k,s,0⟩ (.slice sa sn sc)) (by rfl) rfl (qr1 hk1 _) ?_
   have hS2:(w.drew.alloc (.cells (tdc ⟨k,s,0⟩ (.slice sa sn sc)).toArray 56)).rangeAt bb 0 (bv k)∧(w.drew.alloc (.cells (tdc ⟨k,s,0⟩ (.slice sa sn sc)).toArray 56)).cell? ⟨bb,0+0*33+32,none⟩=some (.slice sa sn sc):=⟨qay hS.1 (qaa _ _),((qaa w.drew _).cell (World.block_lt_of_cell? _ _ hS.2)).trans hS.2⟩
   refine hK.out _ _ hS2 (fun hS=>?_)
   clear hS2
   clear hK K
   refine Z.ly ?_
   refine Z.r1 13 fun K hK=>?_
   refine Z.r_app_tolds w.heap.size (by kernel_rfl) _ _ (by rfl) (.slice none 0 0) 0 [] (by rfl) ⟨rfl,Or.inl ⟨rfl,rfl⟩⟩ w.drew.heap.size (tdc ⟨k,s,0⟩ (.slice sa sn sc)) (by rfl) (qr1 hk1 _) (qa1 w.drew _ _) (qxc rfl) (by decide) (by rw [World.size_alloc];exact Nat.le_succ _) ?_
   intro v5 w5 own5 gr5 _
   rw [List.nil_append,Nat.zero_add] at own5
   obtain ⟨xa,xc,ex⟩:=own_slice own5
   subst ex
   have b5:Below (w.drew.alloc (.cells (tdc ⟨k,s,0⟩ (.slice sa sn sc)).toArray 56)).heap.size (w.drew.alloc (.cells (tdc ⟨k,s,0⟩ (.slice sa sn sc)).toArray 56)) w5:=qdb gr5
   have hS3:w5.rangeAt bb 0 (bv k)∧w5.cell? ⟨bb,0+0*33+32,none⟩=some (.slice sa sn sc):=⟨qay hS.1 b5,(b5.cell (World.block_lt_of_cell? _ _ hS.2)).trans hS.2⟩
   have H5:Hid (w5.ownsRow w.heap.size 56 34 (.slice xa 1 xc) 1 (tdc ⟨k,s,0⟩ (.slice sa sn sc))∧Below w.heap.size w w5):=⟨own5,((Below.refl w.heap.size w).drew.alloc (Nat.le_refl _) _).trans (b5.mono (by rw [World.size_alloc];exact Nat.le_succ _))⟩
   clear own5 gr5 b5
   refine hK.out _ _ hS3 (fun hS=>?_)
   clear hS3
   clear hK K
   refine Z.ly ?_
   refine Z.tk 14 (.slice xa 1 xc) (y:=Z.y_assign _ rfl _ rfl) (s:=hS) (h:=?_)
   refine Z.ly ?_
   refine wpAnyH_done (by kernel_rfl) ?_ _
   clear hS
   go_wp2_with fail
   go_roundg 0
   case measure=>decide
   case rel=>exact Or.inr ⟨rfl,by go_num,H5.out.1,H5.out.2⟩
  ·go_wp2_with fail
   go_ret
   exact ⟨_,rfl,ow,bl⟩
end Go.Proofs.YtemcneddbhgadaaGreatDoor
