import Derived.Test.YtemcneddbhgadaaGreatDoorQSumMzz
import Derived.Test.YtemcneddbhgadaaGreatDoorQRWordszz
namespace Go.Proofs.YtemcneddbhgadaaGreatDoor.Dg
open Go.RowKit
def qk6 (w:World):Prop:=∀i,i<8→w.cell? ⟨0,i,none⟩=some (.int .u32 (w8 H0 i))
theorem qk6.below {w w':World} (h:qk6 w) {B:Nat} (hb:Below B w w') (hB:0<B):qk6 w':=fun i hi=>(hb.cell (p:=⟨0,i,none⟩) hB).trans (h i hi)
def N73:Array Value:=#[.int .u32 1779033703,.int .u32 3144134277,.int .u32 1013904242,.int .u32 2773480762,.int .u32 1359893119,.int .u32 2600822924,.int .u32 528734635,.int .u32 1541459225,.int .u8 0,.int .u8 0,.int .u8 0,.int .u8 0,.int .u8 0,.int .u8 0,.int .u8 0,.int .u8 0,.int .u8 0,.int .u8 0,.int .u8 0,.int .u8 0,.int .u8 0,.int .u8 0,.int .u8 0,.int .u8 0,.int .u8 0,.int .u8 0,.int .u8 0,.int .u8 0,.int .u8 0,.int .u8 0,.int .u8 0,.int .u8 0,.int .u8 0,.int .u8 0,.int .u8 0,.int .u8 0,.int .u8 0,.int .u8 0,.int .u8 0,.int .u8 0,.int .u8 0,.int .u8 0,.int .u8 0,.int .u8 0,.int .u8 0,.int .u8 0,.int .u8 0,.int .u8 0,.int .u8 0,.int .u8 0,.int .u8 0,.int .u8 0,.int .u8 0,.int .u8 0,.int .u8 0,.int .u8 0,.int .u8 0,.int .u8 0,.int .u8 0,.int .u8 0,.int .u8 0,.int .u8 0,.int .u8 0,.int .u8 0,.int .u8 0,.int .u8 0,.int .u8 0,.int .u8 0,.int .u8 0,.int .u8 0,.int .u8 0,.int .u8 0,.int .i64 0]
set_option maxRecDepth 100000 in
theorem qsv:∀i,i<73→N73[i]?=some (stc E0.tl H0 (fun _=>0) 0 i):=by
 intro i hi
 unfold stc
 by_cases h1:i<8
 ·rw [if_pos h1]
  match i,h1 with
  | 0,_=>rfl
  | 1,_=>rfl
  | 2,_=>rfl
  | 3,_=>rfl
  | 4,_=>rfl
  | 5,_=>rfl
  | 6,_=>rfl
  | 7,_=>rfl
 ·rw [if_neg h1]
  have e:N73=#[.int .u32 1779033703,.int .u32 3144134277,.int .u32 1013904242,.int .u32 2773480762,.int .u32 1359893119,.int .u32 2600822924,.int .u32 528734635,.int .u32 1541459225]++(Array.replicate 64 (.int .u8 0)++#[.int .i64 0]):=by rfl
  rw [e,Array.getElem?_append_right (by simp;omega)]
  by_cases h2:i<72
  ·rw [if_pos h2,Array.getElem?_append_left (by simp;omega)]
   have e2:i - (#[Value.int .u32 1779033703,.int .u32 3144134277,.int .u32 1013904242,.int .u32 2773480762,.int .u32 1359893119,.int .u32 2600822924,.int .u32 528734635,.int .u32 1541459225]:Array Value).size<64:=by simp;omega
   rw [Array.getElem?_replicate,if_pos e2]
   rfl
  ·rw [if_neg h2,Array.getElem?_append_right (by simp;omega)]
   have:i=72:=by omega
   subst this
   rfl
theorem qv2:Tryz.prog.built 158 [(0,.agg (arr8 H0))]=some N73:=by kernel_rfl
theorem qd4 {P : Program} {ops : Array Oper} {rest : List Oper} {o : Oper} {a : Act} {w : World} {Q : Exit → Act → World → Prop} (hg : o.guard = none) (t : TypeId) (parts : Array (Nat × Operand)) (ho : o.op = .build t parts) (cells : Array Value)
    (hb:P.built t (parts.map fun (i,x)=>(i,a.eval x)).toList=some cells)
    (h:wpList P ops Q rest (a.put o.dst (.agg cells)) w):wpList P ops Q (o::rest) a w :=
  wpList_build hg t parts ho (by rw [hb];rfl) (by rw [hb];exact h)
set_option maxRecDepth 100000 in
theorem qv3 (w:World) (hF:qk6 w):Calls Tryz.prog 64 #[] w fun e w'=>e=.returned (.pointer (some ⟨w.heap.size,0,none⟩))∧St w' w.heap.size 0 (fun _=>0)∧Below w.heap.size w w':=by
 have hc:∀j,j<(arr8 H0).size→w.cell? ⟨0,j,none⟩=(arr8 H0)[j]?:=fun j hj=>(hF j hj).trans (qb1 H0 j hj).symm
 clear hF
 go_enter Tryz.func64,Tryz.ntmps64
 go_wp2_with (first
  | refine qbu rfl 147 (.global 0) rfl 0 rfl (arr8 H0) _ hc Tryz.underlying147 rfl qh5 ?_
  | refine qd4 (by rfl) 158 #[(0,.tmp 1)] (by rfl) N73 (by simp only [List.map_toArray,List.map_cons,List.map_nil];exact qv2) ?_)
 go_ret
 have r:=World.rowIs_alloc w N73 158 (stc E0.tl H0 (fun _=>0) 0) (fun i hi=>qsv i hi)
 exact ⟨rfl,⟨⟨fun _=>0,r,fun _=>(by decide:0<256),fun i hi=>absurd hi (by omega)⟩,fun _=>(by decide:0<256)⟩,(Below.refl _ _).alloc (Nat.le_refl _) _⟩
structure qnu (w:World) (pa:Option Addr) (pb po k:Nat) (A:Nat→Option Addr) (b off m c:Nat→Nat) (Y:Nat→Nat→Nat):Prop where
 at_:0<k→pa=some ⟨pb,po,none⟩
 cell:∀i,i<k→w.cell? ⟨pb,po+i,none⟩=some (.slice (A i) (m i) (c i))
 view:∀i,i<k→View w (A i) (b i) (off i) (m i) (fun j=>(Y i j:Int))
 cap:∀i,i<k→m i≤c i
 bd:∀i j,Y i j<256
theorem qnu.below {w w':World} {pa:Option Addr} {pb po k:Nat} {A:Nat→Option Addr} {b off m c:Nat→Nat} {Y:Nat→Nat→Nat} (h:qnu w pa pb po k A b off m c Y) (hb:Below w.heap.size w w'):qnu w' pa pb po k A b off m c Y :=
 ⟨h.at_,fun i hi=>(hb.cell (World.block_lt_of_cell? _ _ (h.cell i hi))).trans (h.cell i hi),fun i hi=>(h.view i hi).below hb,h.cap,h.bd⟩
def tot (m:Nat→Nat):Nat→Nat
 | 0=>0
 | k+1=>tot m k+m k
def jn (m:Nat→Nat) (Y:Nat→Nat→Nat):Nat→Nat→Nat
 | 0=>fun _=>0
 | k+1=>cat (tot m k) (jn m Y k) (Y k)
theorem qsw (m:Nat→Nat) {i k:Nat} (h:i≤k):tot m i≤tot m k:=by
 induction k with
 | zero=>rw [Nat.le_zero.1 h];exact Nat.le_refl _
 | succ k ih =>
  by_cases e:i=k+1
  ·rw [e];exact Nat.le_refl _
  ·have:=ih (by omega)
   simp only [tot]
   omega
structure SmF (w wr:World) (n:Nat) (X:Nat→Nat):Prop where
 below:Below w.heap.size w wr
 size:w.heap.size+2≤wr.heap.size
 out:wr.rowIs w.heap.size 31 32 (fun _=>.int .u8 0)
 st:St wr (w.heap.size+1) n X
set_option maxRecDepth 100000 in
set_option maxHeartbeats 4000000 in
theorem qsx (w:World) (pa:Option Addr) (pb po k cap:Nat) (A:Nat→Option Addr) (b off m c:Nat→Nat) (Y:Nat→Nat→Nat) (h:qnu w pa pb po k A b off m c Y) (hK:qc3 w) (hF:qk6 w) (hw:2<w.heap.size) (hkm:k≤281474976710656) (hlen:tot m k≤576460752303423488) :
 Calls Tryz.prog 42 #[.slice pa k cap] w fun e w'=>e=.returned (.agg (qe1 (digest (tot m k) (jn m Y k))))∧Below w.heap.size w w':=by
 have b1:Below w.heap.size w (w.alloc (.cells Z32 31)):=(Below.refl _ _).alloc (Nat.le_refl _) _
 have o1:(w.alloc (.cells Z32 31)).rowIs w.heap.size 31 32 (fun _=>.int .u8 0):=by rw [qe2];exact qbb w _ 32 31
 have HP:Hid (qnu w pa pb po k A b off m c Y):=h
 have HB1:Hid (Below w.heap.size w (w.alloc (.cells Z32 31))∧(w.alloc (.cells Z32 31)).rowIs w.heap.size 31 32 (fun _=>.int .u8 0)):=⟨b1,o1⟩
 have HK:Hid (qc3 w):=hK
 have HFi:Hid (qk6 w):=hF
 clear h b1 o1 hK hF
 go_enter Tryz.func42,Tryz.ntmps42
 go_wp2_with fail
 refine (qv3 _ (HFi.out.below HB1.out.1 (by omega))).mono ?_
 rintro _ w1 ⟨rfl,st1,hb1⟩
 simp only [World.size_alloc] at st1
 have HS1:Hid (SmF w w1 (tot m 0) (jn m Y 0)):=⟨HB1.out.1.trans (hb1.mono (by simp)),by have:=hb1.size;have:=st1.lt;omega,HB1.out.2.of_block (hb1.block _ (by simp)),st1⟩
 clear st1 hb1 HB1
 go_wp2_with fail
 go_loopg [9] k (fun g i wr=>∃j:Nat,j≤k∧g=k - j∧i=.int .i64 j∧SmF w wr (tot m j) (jn m Y j))
 case atStart=>exact ⟨0,by omega,rfl,rfl,HS1.out⟩
 case round =>
  obtain ⟨j,hj,rfl,rfl,hR⟩:=hrel
  clear HS1
  by_cases hjk:j<k
  ·obtain rfl:=HP.out.at_ (by omega)
   have cj:wr.cell? ⟨pb,po+j,none⟩=some (.slice (A j) (m j) (c j)):=(HP.out.below hR.below).cell j hjk
   have vj:View wr (A j) (b j) (off j) (m j) (fun t=>(Y j t:Int)):=(HP.out.below hR.below).view j hjk
   have capj:=HP.out.cap j hjk
   have bj:0<m j→b j≠w.heap.size+1:=fun h0=>by have:=(HP.out.view j hjk).lt h0;omega
   have lj:tot m j+m j≤1152921504606846976:=by have:=qsw m (show j+1≤k by omega);simp only [tot] at this;omega
   have HR:Hid (SmF w wr (tot m j) (jn m Y j)):=hR
   have HV:Hid (View wr (A j) (b j) (off j) (m j) (fun t=>(Y j t:Int))):=vj
   clear hR vj
   go_wp2_with fail
   refine (qj3 wr (w.heap.size+1) _ _ HR.out.st _ (b j) (off j) (m j) (c j) (Y j) HV.out (HP.out.bd j) bj capj (HK.out.below HR.out.below hw) (by have:=HR.out.size;omega) (by omega) lj).mono ?_
   rintro _ w2 ⟨rfl,hs2,st2⟩
   have HN:Hid (SmF w w2 (tot m (j+1)) (jn m Y (j+1))):=⟨HR.out.below.trans (hs2.below (by omega) HR.out.below.size),Nat.le_trans HR.out.size hs2.size,hs2.row HR.out.out (by omega),st2⟩
   clear hs2 st2 cj
   go_wp2_with fail
   go_roundg (k - (j+1))
   case measure=>omega
   case rel=>exact ⟨j+1,by omega,rfl,by go_num,HN.out⟩
  ·have:j=k:=by omega
   subst this
   have HR:Hid (SmF w wr (tot m j) (jn m Y j)):=hR
   clear hR
   go_wp2_with fail
   refine (qvz wr (w.heap.size+1) _ _ HR.out.st (HK.out.below HR.out.below hw) (by have:=HR.out.size;omega) hlen).mono ?_
   rintro _ w2 ⟨rfl,hb2⟩
   obtain ⟨os,og,osz,_⟩:=HR.out.out.of_block (hb2.block w.heap.size (by have:=HR.out.size;omega))
   have hi:(Tryz.prog.info? 31).map (·.size)=some (qe1 (digest (tot m j) (jn m Y j))).size:=by rw [qc5];exact info26
   have h1:(qe1 (digest (tot m j) (jn m Y j))).all (·.oneCell')=true:=qbn (fun i hi=>⟨_,_,qf8 _ i (by rw [qc5] at hi;exact hi)⟩)
   have ho:os.size=(qe1 (digest (tot m j) (jn m Y j))).size:=by rw [qc5];exact osz
   have HB:Hid (Below w.heap.size w w2):=HR.out.below.trans (hb2.mono HR.out.below.size)
   obtain ⟨hv,hhv⟩:∃x,x=qe1 (digest (tot m j) (jn m Y j)):=⟨_,rfl⟩
   rw [←hhv] at hi h1 ho ⊢
   have Hhv:Hid (hv=qe1 (digest (tot m j) (jn m Y j))):=hhv
   clear hhv hb2
   go_wp2_with (refine wpList_store_row (by rfl) 31 (.tmp 2) (.tmp 18) (by rfl) w.heap.size hv (by rfl) (by rfl) 31 os og hi ho h1 ?_)
   refine bodyPost_ret (v:=.agg hv) ?_ rfl ?_
   ·exact results_cell_row rfl _ _ w.heap.size 31 hv (0,0) _ rfl (setRow_heap _ _ _ _ _ _ og) Tryz.underlying31 rfl hi
   ·exact ⟨by rw [Hhv.out],below_setRow HB.out (Nat.le_refl _) _⟩
open Go.RowKit
def qdv (w:World):Prop:=∀i,i<64→w.cell? ⟨1,i,none⟩=some (.int .u32 (K i))
theorem qdv.below {w w':World} (h:qdv w) {B:Nat} (hb:Below B w w') (hB:1<B):qdv w':=fun i hi=>(hb.cell (p:=⟨1,i,none⟩) hB).trans (h i hi)
structure Mi (w wr:World) (s:W8) (g g6:Nat) (f:Nat→Nat) (v:Nat→Nat):Prop where
 below:Below w.heap.size w wr
 low:w.heap.size+2≤g
 low6:g<g6
 in_:wr.rowIs w.heap.size 147 8 (fun i=>.int .u32 (w8 s i))
 out:∃f',wr.rowIs (w.heap.size+1) 147 8 f'
 row:wr.rowIs g 177 64 (fun i=>.int .u32 (f i))
 var:wr.rowIs g6 147 8 (fun i=>.int .u32 (v i))
 rounds:qdv wr
theorem Mi.drewN {w wr:World} {s:W8} {g g6:Nat} {f v:Nat→Nat} (h:Mi w wr s g g6 f v) (q:Nat):Mi w (wr.drewN q) s g g6 f v :=
 ⟨below_drewN h.below q,h.low,h.low6,h.in_.of_block rfl,let ⟨f',hf⟩:=h.out;⟨f',hf.of_block rfl⟩,h.row.of_block rfl,h.var.of_block rfl,h.rounds⟩
theorem Mi.drew {w wr:World} {s:W8} {g g6:Nat} {f v:Nat→Nat} (h:Mi w wr s g g6 f v):Mi w wr.drew s g g6 f v :=
 ⟨h.below.drew,h.low,h.low6,h.in_.drew,let ⟨f',hf⟩:=h.out;⟨f',hf.drew⟩,h.row.drew,h.var.drew,h.rounds⟩
theorem Mi.other {w wr w':World} {s:W8} {g g6:Nat} {f v v':Nat→Nat} (h:Mi w wr s g g6 f v) (hw:1<w.heap.size) (ho:∀k,k≠g6→w'.heap[k]?=wr.heap[k]?) (hb:Below g6 wr w') (hv:w'.rowIs g6 147 8 (fun i=>.int .u32 (v' i))):Mi w w' s g g6 f v':=by
 have l:=h.low
 have l6:=h.low6
 have b:Below w.heap.size w w':=h.below.trans (hb.mono (by omega))
 exact ⟨b,h.low,h.low6,h.in_.of_block (ho _ (by omega)),let ⟨f',hf⟩:=h.out;⟨f',hf.of_block (ho _ (by omega))⟩,h.row.of_block (ho _ (by omega)),hv,h.rounds.below hb (by omega)⟩
theorem Mi.setVar {w wr:World} {s:W8} {g g6:Nat} {f v:Nat→Nat} (h:Mi w wr s g g6 f v) (hw:1<w.heap.size) (i x:Nat):Mi w (wr.setCell ⟨g6,i,none⟩ (.int .u32 x)) s g g6 f (fun j=>if j=i then x else v j) :=
 h.other hw (fun k hk=>Below.heap_setCell _ _ _ _ hk) ((Below.refl g6 wr).setCell (p:=⟨g6,i,none⟩) (Nat.le_refl _) _) ((h.var.set i _).congr (fun j _=>by split <;> rfl))
theorem Mi.setAll {w wr:World} {s:W8} {g g6:Nat} {f v v':Nat→Nat} (h:Mi w wr s g g6 f v) (hw:1<w.heap.size) (cs:Array Value) (hs:cs.size=8) (hc:∀i,i<8→cs[i]?=some (.int .u32 (v' i))):Mi w (wr.setRow g6 cs) s g g6 f v':=by
 obtain ⟨os,og,_,_⟩:=h.var
 exact h.other hw (fun k hk=>setRow_other _ _ _ _ hk) (below_setRow (Below.refl _ _) (Nat.le_refl _) _) (qbc og hs hc)
theorem Mi.congr {w wr:World} {s:W8} {g g6:Nat} {f v v':Nat→Nat} (h:Mi w wr s g g6 f v) (e:∀i,i<8→v i=v' i):Mi w wr s g g6 f v' :=
 ⟨h.below,h.low,h.low6,h.in_,h.out,h.row,h.var.congr (fun i hi=>by rw [e i hi]),h.rounds⟩
def Z8:Array Value:=#[.int .u32 0,.int .u32 0,.int .u32 0,.int .u32 0,.int .u32 0,.int .u32 0,.int .u32 0,.int .u32 0]
theorem qc8 (s:W8):(Tryz.prog.info? 147).map (·.size)=some (arr8 s).size:=qh5
theorem qi5 (s:W8):(arr8 s).all (·.oneCell')=true:=qbn (fun i hi=>⟨_,_,qb1 s i hi⟩)
theorem qs5 {w w2 : World} {s : W8} {cs : Array Value} {f : Nat → Nat} (hsz : cs.size = 64) (hcs : ∀ i, i < 64 → cs[i]? = some (.int .u32 (f i)))
    (hb:Below ((w.alloc (.cells (arr8 s) 147)).alloc (.cells Z8 147)).heap.size ((w.alloc (.cells (arr8 s) 147)).alloc (.cells Z8 147)) w2)
    (hK:qdv w) (hw:1<w.heap.size):Mi w ((((w2.alloc (.cells Z64 177)).setRow w2.heap.size cs).alloc (.cells Z8 147)).setRow (w2.heap.size+1) (arr8 s)) s w2.heap.size (w2.heap.size+1) f (w8 s) ∧
      (w2.alloc (.cells Z64 177) |>.setRow w2.heap.size cs).heap[w.heap.size]?=some (.cells (arr8 s) 147 (0,0))∧(((w2.alloc (.cells Z64 177)).setRow w2.heap.size cs).alloc (.cells Z8 147)).heap[w2.heap.size+1]?=some (.cells Z8 147 (0,0)):=by
  have hs:=hb.size
  simp only [World.size_alloc] at hs hb
  have b0:Below w.heap.size w w2:=(((Below.refl _ _).alloc (Nat.le_refl _) _).alloc (by simp) _).trans (hb.mono (by omega))
  have n1:(((w2.alloc (.cells Z64 177)).setRow w2.heap.size cs).alloc (.cells Z8 147)).heap[w2.heap.size+1]?=some (.cells Z8 147 (0,0)):=by
    have e:=heap_alloc_new ((w2.alloc (.cells Z64 177)).setRow w2.heap.size cs) (.cells Z8 147)
    have z:((w2.alloc (.cells Z64 177)).setRow w2.heap.size cs).heap.size=w2.heap.size+1:=by simp
    rwa [z] at e
  have oth1:∀i,i<w2.heap.size→((w2.alloc (.cells Z64 177)).setRow w2.heap.size cs).heap[i]?=w2.heap[i]?:=fun i hi=>by
    rw [setRow_other _ _ _ _ (by omega),heap_alloc_old _ _ hi]
  have oth:∀i,i<w2.heap.size→((((w2.alloc (.cells Z64 177)).setRow w2.heap.size cs).alloc (.cells Z8 147)).setRow (w2.heap.size+1) (arr8 s)).heap[i]?=w2.heap[i]?:=fun i hi=>by
    rw [setRow_other _ _ _ _ (by omega),heap_alloc_old _ _ (by simp;omega),oth1 i hi]
  have b1:Below w.heap.size w ((((w2.alloc (.cells Z64 177)).setRow w2.heap.size cs).alloc (.cells Z8 147)).setRow (w2.heap.size+1) (arr8 s)) :=
    below_setRow ((below_setRow (b0.alloc (by omega) _) (by omega) _).alloc (by simp;omega) _) (by omega) _
  have in0:w2.heap[w.heap.size]?=some (.cells (arr8 s) 147 (0,0)):=by
    rw [hb.block _ (by omega),heap_alloc_old _ _ (by simp),heap_alloc_new]
  refine ⟨⟨b1,by omega,by omega,?_,?_,?_,qbc n1 rfl (fun i hi=>qb1 s i hi),hK.below b1 hw⟩,(oth1 _ (by omega)).trans in0,n1⟩
  · exact ⟨arr8 s,(oth _ (by omega)).trans in0,rfl,fun i hi=>qb1 s i hi⟩
  · have r:((w.alloc (.cells (arr8 s) 147)).alloc (.cells Z8 147)).rowIs (w.heap.size+1) 147 8 (fun _=>.int .u32 0):=by
      have e:=qbb (w.alloc (.cells (arr8 s) 147)) (.int .u32 0) 8 147
      rw [World.size_alloc] at e
      exact e
    exact ⟨_,(r.of_block (hb.block _ (by omega))).of_block (oth _ (by omega))⟩
  · have e:((w2.alloc (.cells Z64 177)).setRow w2.heap.size cs).rowIs w2.heap.size 177 64 (fun i=>.int .u32 (f i)):=qbc (heap_alloc_new _ _) hsz hcs
    refine (e.alloc (.cells Z8 147)).of_block (setRow_other _ _ _ _ (by omega))
def msum (t s:W8) (k i:Nat):Nat:=if i<k then (w8 t i+w8 s i) % M else w8 t i
theorem qqh (t s:W8) (k i:Nat):(if i=k then (w8 t k+w8 s k) % M else msum t s k i)=msum t s (k+1) i:=by
 unfold msum
 by_cases e:i=k
 ·subst e
  rw [if_pos rfl,if_pos (by omega)]
 ·rw [if_neg e]
  by_cases l:i<k
  ·rw [if_pos l,if_pos (by omega)]
  ·rw [if_neg l,if_neg (by omega)]
theorem qs6 (t s:W8) (i:Nat) (hi:i<8):msum t s 8 i=w8 (plus s t) i:=by
 unfold msum
 rw [if_pos hi,Nat.add_comm]
 match i,hi with
 | 0,_=>rfl
 | 1,_=>rfl
 | 2,_=>rfl
 | 3,_=>rfl
 | 4,_=>rfl
 | 5,_=>rfl
 | 6,_=>rfl
 | 7,_=>rfl
def T8 (x y:Int) (t:W8):Array Value:=#[.int .u32 x,.int .u32 t.a,.int .u32 t.b,.int .u32 t.c,.int .u32 y,.int .u32 t.e,.int .u32 t.f,.int .u32 t.g]
theorem qyj (x y:Int) (t:W8):(T8 x y t).all (·.oneCell')=true:=qbn (fun i hi=>by
 have h8:i<8:=hi
 match i,h8 with
 | 0,_=>exact ⟨_,_,rfl⟩
 | 1,_=>exact ⟨_,_,rfl⟩
 | 2,_=>exact ⟨_,_,rfl⟩
 | 3,_=>exact ⟨_,_,rfl⟩
 | 4,_=>exact ⟨_,_,rfl⟩
 | 5,_=>exact ⟨_,_,rfl⟩
 | 6,_=>exact ⟨_,_,rfl⟩
 | 7,_=>exact ⟨_,_,rfl⟩)
set_option maxRecDepth 100000 in
set_option maxHeartbeats 8000000 in
theorem qqi (w:World) (s:W8) (hs:Ok8 s) (a:Option Addr) (b off c:Nat) (B:Nat→Nat) (h:View w a b off 64 (fun i=>(B i:Int))) (hB:∀i,B i<256) (hK:qdv w) (hw:1<w.heap.size) :
 Calls Tryz.prog 84 #[.agg (arr8 s),.slice a 64 c] w fun e w'=>e=.returned (.agg (arr8 (qc1 s B)))∧Below w.heap.size w w':=by
 go_enter Tryz.func84,Tryz.ntmps84
 go_wp2_with fail
 refine (qn1 _ a b off c B (h.below (((Below.refl _ _).alloc (Nat.le_refl _) _).alloc (by simp) _)) hB).mono ?_
 rintro _ w2 ⟨⟨cs,rfl,hsz,hcs⟩,hb2⟩
 have hi:(Tryz.prog.info? 177).map (·.size)=some cs.size:=by rw [hsz];exact qmh
 have h1:cs.all (·.oneCell')=true:=qbn (fun i hi=>⟨_,_,hcs i (by omega)⟩)
 have F:=qs5 hsz hcs hb2 hK hw
 have n0:=F.2.1
 have n1:=F.2.2
 have HF:Hid (Mi w ((((w2.alloc (.cells Z64 177)).setRow w2.heap.size cs).alloc (.cells Z8 147)).setRow (w2.heap.size+1) (arr8 s)) s w2.heap.size (w2.heap.size+1) (sched B) (w8 s)):=F.1
 clear F
 go_wp2_with (first
  | refine wpList_store_row (by rfl) 177 (.tmp 5) (.tmp 14) (by rfl) w2.heap.size cs (by rfl) (by rfl) 177 Z64 (heap_alloc_new _ _) hi hsz.symm h1 ?_
  | refine wpList_load_row (by rfl) 147 (.tmp 2) (by rfl) w.heap.size (by rfl) 147 (arr8 s) (0,0) _ n0 Tryz.underlying147 rfl (qc8 s) ?_
  | refine wpList_store_row (by rfl) 147 (.tmp 6) (.tmp 15) (by rfl) (w2.heap.size+1) (arr8 s) (by rfl) (by rfl) 147 Z8 n1 (qc8 s) rfl (qi5 s) ?_)
 clear n0 n1 h1 hi
 go_loopg [7] 64 (fun g i wr=>∃k:Nat,k≤64∧g=64 - k∧i=.int .i64 k∧Mi w wr s w2.heap.size (w2.heap.size+1) (sched B) (w8 (turns K (sched B) s k)))
 case atStart=>exact ⟨0,by omega,rfl,rfl,HF.out⟩
 case round =>
  obtain ⟨k,hk,rfl,rfl,hR⟩:=hrel
  clear HF
  by_cases hkn:k<64
  ·have T:=qfm hs K (sched B) k
   have cK:=hR.rounds k hkn
   have cW:=hR.row.cell hkn
   have lK:=K_lt k hkn
   have lW:=qcj hB k
   obtain ⟨t,ht⟩:∃t,t=turns K (sched B) s k:=⟨_,rfl⟩
   have Ht:Hid (turns K (sched B) s (k+1)=qfl t (K k) (sched B k)):=by rw [ht];rfl
   rw [←ht] at T hR
   clear ht
   obtain ⟨x1,e1⟩:∃x,x=K k:=⟨_,rfl⟩
   obtain ⟨x2,e2⟩:∃x,x=sched B k:=⟨_,rfl⟩
   rw [←e1] at cK lK Ht
   rw [←e2] at cW lW Ht
   have HX:Hid (x1=K k∧x2=sched B k):=⟨e1,e2⟩
   clear e1 e2
   obtain ⟨ta,tb,tc,td,te,tf,tg,th⟩:=t
   obtain ⟨la,lb,lc,ld,le,lf,lg,lh⟩:=T
   have c0:=hR.var.cell (i:=0) (by omega)
   have c1:=hR.var.cell (i:=1) (by omega)
   have c2:=hR.var.cell (i:=2) (by omega)
   have c3:=hR.var.cell (i:=3) (by omega)
   have c4:=hR.var.cell (i:=4) (by omega)
   have c5:=hR.var.cell (i:=5) (by omega)
   have c6:=hR.var.cell (i:=6) (by omega)
   have c7:=hR.var.cell (i:=7) (by omega)
   simp only [w8] at c0 c1 c2 c3 c4 c5 c6 c7 la lb lc ld le lf lg lh
   have HR:Hid (Mi w wr s w2.heap.size (w2.heap.size+1) (sched B) (w8 ⟨ta,tb,tc,td,te,tf,tg,th⟩)):=hR
   clear hR
   go_wp2_with fail
   refine wp_region_quiet_lit (by kernel_rfl) (by kernel_rfl) ?_
   repeat (go_big_quiet_step (fail))
   go_big_quiet_step (first | (go_at_call 109;refine Calls.quiet_of (qbg _ te 6 le (by omega) (by omega))))
   repeat (go_big_quiet_step (fail))
   go_big_quiet_step (first | (go_at_call 109;refine Calls.quiet_of (qbg _ te 11 le (by omega) (by omega))))
   repeat (go_big_quiet_step (fail))
   go_big_quiet_step (first | (go_at_call 109;refine Calls.quiet_of (qbg _ te 25 le (by omega) (by omega))))
   repeat (go_big_quiet_step (fail))
   refine wpQuiet_nil ?_
   intro wz hwz
   obtain ⟨nq,rfl⟩:=hwz
   have HQ:Hid (Mi w (wr.drewN nq) s w2.heap.size (w2.heap.size+1) (sched B) (w8 ⟨ta,tb,tc,td,te,tf,tg,th⟩)):=HR.out.drewN nq
   clear HR cK cW c0 c1 c2 c3 c4 c5 c6 c7
   have V:((((th:Int)+bits .xor .u32 (bits .xor .u32 ((rot te 6:Nat):Int) ((rot te 11:Nat):Int)) ((rot te 25:Nat):Int)+bits .xor .u32 (bits .and .u32 (te:Int) (tf:Int)) (bits .and .u32 (bits .xor .u32 (if IntKind.u32.signed=true then -1 else IntKind.u32.max) (te:Int)) (tg:Int))+(x1:Int)) % 4294967296+(x2:Int)) % 4294967296)=((t1 ⟨ta,tb,tc,td,te,tf,tg,th⟩ x1 x2:Nat):Int):=by
    rw [qh1 le,qh3 le lf lg]
    simp only [t1,M]
    omega
   rw [V]
   have l1:t1 ⟨ta,tb,tc,td,te,tf,tg,th⟩ x1 x2<4294967296:=Nat.mod_lt _ (by decide)
   obtain ⟨y1,hy1⟩:∃y,y=t1 ⟨ta,tb,tc,td,te,tf,tg,th⟩ x1 x2:=⟨_,rfl⟩
   have Hy:Hid (t1 ⟨ta,tb,tc,td,te,tf,tg,th⟩ x1 x2=y1):=hy1.symm
   rw [←hy1] at l1 ⊢
   clear hy1 V
   obtain ⟨wq,hwq⟩:∃x,x=wr.drewN nq:=⟨_,rfl⟩
   rw [←hwq] at HQ ⊢
   clear hwq
   have c0:=HQ.out.var.cell (i:=0) (by omega)
   have c1:=HQ.out.var.cell (i:=1) (by omega)
   have c2:=HQ.out.var.cell (i:=2) (by omega)
   have c3:=HQ.out.var.cell (i:=3) (by omega)
   have c4:=HQ.out.var.cell (i:=4) (by omega)
   have c5:=HQ.out.var.cell (i:=5) (by omega)
   have c6:=HQ.out.var.cell (i:=6) (by omega)
   have c7:=HQ.out.var.cell (i:=7) (by omega)
   simp only [w8] at c0 c1 c2 c3 c4 c5 c6 c7
   go_wp2_with fail
   refine wp_region_quiet_lit (by kernel_rfl) (by kernel_rfl) ?_
   repeat (go_big_quiet_step (fail))
   go_big_quiet_step (first | (go_at_call 109;refine Calls.quiet_of (qbg _ ta 2 la (by omega) (by omega))))
   repeat (go_big_quiet_step (fail))
   go_big_quiet_step (first | (go_at_call 109;refine Calls.quiet_of (qbg _ ta 13 la (by omega) (by omega))))
   repeat (go_big_quiet_step (fail))
   go_big_quiet_step (first | (go_at_call 109;refine Calls.quiet_of (qbg _ ta 22 la (by omega) (by omega))))
   repeat (go_big_quiet_step (fail))
   refine wpQuiet_nil ?_
   intro wz hwz
   obtain ⟨nq,rfl⟩:=hwz
   have HP:Hid (Mi w (wq.drewN nq) s w2.heap.size (w2.heap.size+1) (sched B) (w8 ⟨ta,tb,tc,td,te,tf,tg,th⟩)):=HQ.out.drewN nq
   clear HQ c0 c1 c2 c3 c4 c5 c6 c7
   have V2:((bits .xor .u32 (bits .xor .u32 ((rot ta 2:Nat):Int) ((rot ta 13:Nat):Int)) ((rot ta 22:Nat):Int)+bits .xor .u32 (bits .xor .u32 (bits .and .u32 (ta:Int) (tb:Int)) (bits .and .u32 (ta:Int) (tc:Int))) (bits .and .u32 (tb:Int) (tc:Int))) % 4294967296)=((t2 ⟨ta,tb,tc,td,te,tf,tg,th⟩:Nat):Int):=by
    rw [qh2 la,qh4 la lb lc]
    simp only [t2,M]
    omega
   rw [V2]
   have l2:t2 ⟨ta,tb,tc,td,te,tf,tg,th⟩<4294967296:=Nat.mod_lt _ (by decide)
   obtain ⟨y2,hy2⟩:∃y,y=t2 ⟨ta,tb,tc,td,te,tf,tg,th⟩:=⟨_,rfl⟩
   have Hy2:Hid (t2 ⟨ta,tb,tc,td,te,tf,tg,th⟩=y2):=hy2.symm
   rw [←hy2] at l2 ⊢
   clear hy2 V2
   obtain ⟨wp,hwp⟩:∃x,x=wq.drewN nq:=⟨_,rfl⟩
   rw [←hwp] at HP ⊢
   clear hwp
   have c0:=HP.out.var.cell (i:=0) (by omega)
   have c1:=HP.out.var.cell (i:=1) (by omega)
   have c2:=HP.out.var.cell (i:=2) (by omega)
   have c3:=HP.out.var.cell (i:=3) (by omega)
   have c4:=HP.out.var.cell (i:=4) (by omega)
   have c5:=HP.out.var.cell (i:=5) (by omega)
   have c6:=HP.out.var.cell (i:=6) (by omega)
   have c7:=HP.out.var.cell (i:=7) (by omega)
   simp only [w8] at c0 c1 c2 c3 c4 c5 c6 c7
   obtain ⟨os,og,osz,_⟩:=HP.out.var
   have HN:Hid (Mi w (wp.setRow (w2.heap.size+1) (T8 (((y1:Int)+(y2:Int)) % 4294967296) (((td:Int)+(y1:Int)) % 4294967296) ⟨ta,tb,tc,td,te,tf,tg,th⟩)) s w2.heap.size (w2.heap.size+1) (sched B) (w8 (turns K (sched B) s (k+1)))):=by
    refine HP.out.setAll hw _ rfl (fun i hi=>?_)
    rw [Ht.out]
    unfold qfl
    rw [Hy.out,Hy2.out]
    have v1:((y1:Int)+(y2:Int)) % 4294967296=(((y1+y2) % M:Nat):Int):=by simp only [M];omega
    have v2:((td:Int)+(y1:Int)) % 4294967296=(((td+y1) % M:Nat):Int):=by simp only [M];omega
    rw [v1,v2]
    match i,hi with
    | 0,_=>rfl
    | 1,_=>rfl
    | 2,_=>rfl
    | 3,_=>rfl
    | 4,_=>rfl
    | 5,_=>rfl
    | 6,_=>rfl
    | 7,_=>rfl
   have one:(T8 (((y1:Int)+(y2:Int)) % 4294967296) (((td:Int)+(y1:Int)) % 4294967296) ⟨ta,tb,tc,td,te,tf,tg,th⟩).all (·.oneCell')=true:=qyj _ _ _
   clear HP
   go_wp2_with (refine wpList_store_row (by rfl) 147 (.tmp 6) (.tmp 97) (by rfl) (w2.heap.size+1) (T8 (((y1:Int)+(y2:Int)) % 4294967296) (((td:Int)+(y1:Int)) % 4294967296) ⟨ta,tb,tc,td,te,tf,tg,th⟩) (by rfl) (by rfl) 147 os og qh5 osz one ?_)
   clear c0 c1 c2 c3 c4 c5 c6 c7 og osz one
   go_roundg (64 - (k+1))
   case measure=>omega
   case rel=>exact ⟨k+1,by omega,rfl,by go_num,HN.out⟩
  ·have:k=64:=by omega
   subst this
   obtain ⟨t,ht⟩:∃t,t=turns K (sched B) s 64:=⟨_,rfl⟩
   have T:=qfm hs K (sched B) 64
   have Hf:Hid (qc1 s B=plus s t):=by rw [ht];rfl
   rw [←ht] at T hR
   clear ht
   have HR:Hid (Mi w wr s w2.heap.size (w2.heap.size+1) (sched B) (w8 t)):=hR
   clear hR
   go_wp2_with fail
   go_loopg [12] 8 (fun g i wr=>∃k:Nat,k≤8∧g=8 - k∧i=.int .i64 k∧Mi w wr s w2.heap.size (w2.heap.size+1) (sched B) (msum t s k))
   case atStart=>exact ⟨0,by omega,rfl,rfl,HR.out.congr (fun i _=>by simp [msum])⟩
   case round =>
    obtain ⟨k,hk,rfl,rfl,hR⟩:=hrel
    clear HR
    by_cases hkn:k<8
    ·have cv:=hR.var.cell hkn
     have cs':=hR.in_.cell hkn
     have fz:=hR.var.frozen k
     have e0:msum t s k k=w8 t k:=by unfold msum;rw [if_neg (by omega)]
     rw [e0] at cv
     have lt:=qss T k
     have ls:=qss hs k
     obtain ⟨x,hx⟩:∃x,x=w8 t k:=⟨_,rfl⟩
     obtain ⟨y,hy⟩:∃y,y=w8 s k:=⟨_,rfl⟩
     rw [←hx] at cv lt
     rw [←hy] at cs' ls
     have HV:Hid (x=w8 t k∧y=w8 s k):=⟨hx,hy⟩
     have HR:Hid (Mi w wr s w2.heap.size (w2.heap.size+1) (sched B) (msum t s k)):=hR
     clear hR hx hy e0
     go_wp2_with fail
     go_region
     go_wp2
     have V:((x:Int)+(y:Int)) % 4294967296=(((w8 t k+w8 s k) % M:Nat):Int):=by
      rw [←HV.out.1,←HV.out.2]
      simp only [M]
      omega
     rw [V]
     clear cv cs' fz V
     go_roundg (8 - (k+1))
     case measure=>omega
     case rel=>exact ⟨k+1,by omega,rfl,by go_num,((HR.out.setVar hw k _).drew).congr (fun i _=>qqh t s k i)⟩
    ·have:k=8:=by omega
     subst this
     have HR:Hid (Mi w wr s w2.heap.size (w2.heap.size+1) (sched B) (w8 (plus s t))):=hR.congr (fun i hi=>qs6 t s i hi)
     clear hR
     obtain ⟨f',hf'⟩:=HR.out.out
     obtain ⟨os,og,osz,_⟩:=hf'
     have hc:∀j,j<(arr8 (plus s t)).size→wr.cell? ⟨w2.heap.size+1,j,none⟩=(arr8 (plus s t))[j]?:=fun j hj=>(HR.out.var.cell hj).trans (qb1 (plus s t) j hj).symm
     go_wp2_with (first
      | refine qbu (by rfl) 147 (.tmp 6) (by rfl) (w2.heap.size+1) (by rfl) (arr8 (plus s t)) _ hc Tryz.underlying147 rfl (qc8 _) ?_
      | refine wpList_store_row (by rfl) 147 (.tmp 4) (.tmp 111) (by rfl) (w.heap.size+1) (arr8 (plus s t)) (by rfl) (by rfl) 147 os og (qc8 _) osz (qi5 _) ?_)
     refine bodyPost_ret (v:=.agg (arr8 (plus s t))) ?_ rfl ?_
     ·exact results_cell_row rfl _ _ (w.heap.size+1) 147 (arr8 (plus s t)) (0,0) _ rfl (setRow_heap _ _ _ _ _ _ og) Tryz.underlying147 rfl (qc8 _)
     ·exact ⟨by rw [Hf.out],below_setRow HR.out.below (by omega) _⟩
end Go.Proofs.YtemcneddbhgadaaGreatDoor.Dg
