import Derived.Test.YtnbdpcpgckfeeaaGreatDoorQRWordszz
import Derived.Deep.WholeRow
import Derived.Test.YtnbdpcpgckfeeaaGreatDoorQRRotzz
namespace Go.Proofs.YtnbdpcpgckfeeaaGreatDoor.Dg
open Go.RowKit
section
variable{P:Program}
theorem run_loadVar_cells(w:World)(g:Nat)(ty:TypeId)(cs:Array Value)(d:TypeDesc)(hc:∀j,j<cs.size→w.cell? ⟨g,j,none⟩=cs[j]?)
  (hu:P.underlying ty=some d) (hd:(match d with| .struct _| .array _ _=>true|_=>false)=true) (hi:(P.info? ty).map (·.size)=some cs.size):
  (loadVar ty ⟨g,0,none⟩).run P w= .ok (.agg cs) w:=by
 have hl:(loadCells ⟨g,0,none⟩ cs.toList.length).run P w= .ok cs.toList.toArray w:=
  run_loadCells_list (P:=P) w ⟨g,0,none⟩ cs.toList (fun j v hv=>by
   have hadd:(⟨g,0,none⟩:Addr).add j=⟨g,j,none⟩:=by unfold Addr.add;split<;>simp_all
   have hj:j<cs.size:=by
    have:=(List.getElem?_eq_some_iff.1 hv).1
    simpa using this
   rw [hadd,hc j hj]
   simpa using hv)
 cases hq:P.info? ty with
 |none=>simp[hq]at hi
 |some i=>
  have hs:i.size=cs.size:=by simpa[hq]using hi
  have hagg:(isAgg ty).run P w= .ok true w:=by
   unfold isAgg
   rw [Sem.run_bind,run_underlying hu w]
   cases d<;>simp_all
  simp only[Array.length_toList,Array.toArray_toList]at hl
  simp[loadVar,Sem.run_bind,hagg,sizeOf,typeInfo,hq,hs,hl]
theorem wpList_load_cells{ops:Array Oper}{rest:List Oper}{o:Oper}{a:Act}{w:World}{Q:Exit→Act→World→Prop}(hgd:o.guard=none)(ty:TypeId)(x:Operand)(ho:o.op= .load ty x)
  (g:Nat) (hx:a.eval x= .pointer (some ⟨g,0,none⟩)) (cs:Array Value) (d:TypeDesc) (hc:∀j,j<cs.size→w.cell? ⟨g,j,none⟩=cs[j]?)
  (hu:P.underlying ty=some d) (hd:(match d with| .struct _| .array _ _=>true|_=>false)=true) (hi:(P.info? ty).map (·.size)=some cs.size)
  (h:wpList P ops Q rest (a.put o.dst (.agg cs)) w):wpList P ops Q (o::rest) a w:=by
 refine wpList_plain hgd fun K hK=>?_
 unfold Oper.wp execOp
 simp only[ho,hx,Instr.loadAt,Instr.sureAddr,Sem.run_bind,Sem.run_pure,Result.andThen_ok,run_loadVar_cells w g ty cs d hc hu hd hi]
 exact hK _ _ h
end
open Go.RowKit
def Rounds(w:World):Prop:= ∀i,i<64→w.cell? ⟨0,i,none⟩=some (.int .u32 (K i))
theorem Rounds.below{w w':World}(h:Rounds w){B:Nat}(hb:Below B w w')(hB: 0 <B):Rounds w':=fun i hi=>(hb.cell (p:=⟨0,i,none⟩) hB).trans (h i hi)
structure Mi(w wr:World)(s:W8)(g g6:Nat)(f:Nat→Nat)(v:Nat→Nat):Prop where
 below:Below w.heap.size w wr
 low:w.heap.size+2≤g
 low6:g<g6
 in_:wr.rowIs w.heap.size 103 8 (fun i=>.int .u32 (w8 s i))
 out:∃f',wr.rowIs (w.heap.size+1) 103 8 f'
 row:wr.rowIs g 135 64 (fun i=>.int .u32 (f i))
 var:wr.rowIs g6 103 8 (fun i=>.int .u32 (v i))
 rounds:Rounds wr
theorem Mi.drewN{w wr:World}{s:W8}{g g6:Nat}{f v:Nat→Nat}(h:Mi w wr s g g6 f v)(q:Nat):Mi w (wr.drewN q) s g g6 f v:=
 ⟨below_drewN h.below q,h.low,h.low6,h.in_.of_block rfl,let ⟨f',hf⟩:=h.out;⟨f',hf.of_block rfl⟩,h.row.of_block rfl,h.var.of_block rfl,h.rounds⟩
theorem Mi.drew{w wr:World}{s:W8}{g g6:Nat}{f v:Nat→Nat}(h:Mi w wr s g g6 f v):Mi w wr.drew s g g6 f v:=
 ⟨h.below.drew,h.low,h.low6,h.in_.drew,let ⟨f',hf⟩:=h.out;⟨f',hf.drew⟩,h.row.drew,h.var.drew,h.rounds⟩
theorem Mi.other{w wr w':World}{s:W8}{g g6:Nat}{f v v':Nat→Nat}(h:Mi w wr s g g6 f v)(hw: 0 <w.heap.size)(ho:∀k,k≠g6→w'.heap[k]? =wr.heap[k]?)(hb:Below g6 wr w')(hv:w'.rowIs g6 103 8 (fun i=>.int .u32 (v' i))):Mi w w' s g g6 f v':=by
 have l:=h.low
 have l6:=h.low6
 have b:Below w.heap.size w w':=h.below.trans (hb.mono (by omega))
 exact⟨b,h.low,h.low6,h.in_.of_block (ho _ (by omega)),let ⟨f',hf⟩:=h.out;⟨f',hf.of_block (ho _ (by omega))⟩,h.row.of_block (ho _ (by omega)),hv,h.rounds.below hb (by omega)⟩
theorem Mi.setVar{w wr:World}{s:W8}{g g6:Nat}{f v:Nat→Nat}(h:Mi w wr s g g6 f v)(hw: 0 <w.heap.size)(i x:Nat):Mi w (wr.setCell ⟨g6,i,none⟩ (.int .u32 x)) s g g6 f (fun j=>if j=i then x else v j):=
 h.other hw (fun k hk=>Below.heap_setCell _ _ _ _ hk) ((Below.refl g6 wr).setCell (p:=⟨g6,i,none⟩) (Nat.le_refl _) _) ((h.var.set i _).congr (fun j _=>by split<;>rfl))
theorem Mi.setAll{w wr:World}{s:W8}{g g6:Nat}{f v v':Nat→Nat}(h:Mi w wr s g g6 f v)(hw: 0 <w.heap.size)(cs:Array Value)(hs:cs.size=8)(hc:∀i,i<8→cs[i]? =some (.int .u32 (v' i))):Mi w (wr.setRow g6 cs) s g g6 f v':=by
 obtain⟨os,og,_,_⟩:=h.var
 exact h.other hw (fun k hk=>setRow_other _ _ _ _ hk) (below_setRow (Below.refl _ _) (Nat.le_refl _) _) (rowIs_setRow og hs hc)
theorem Mi.congr{w wr:World}{s:W8}{g g6:Nat}{f v v':Nat→Nat}(h:Mi w wr s g g6 f v)(e:∀i,i<8→v i=v' i):Mi w wr s g g6 f v':=
 ⟨h.below,h.low,h.low6,h.in_,h.out,h.row,h.var.congr (fun i hi=>by rw [e i hi]),h.rounds⟩
def Z8:Array Value:= #[.int .u32 0,.int .u32 0,.int .u32 0,.int .u32 0,.int .u32 0,.int .u32 0,.int .u32 0,.int .u32 0]
theorem arr8_info(s:W8):(Tryz.prog.info? 103).map (·.size)=some (arr8 s).size:=info51
theorem arr8_one(s:W8):(arr8 s).all (·.oneCell')=true:=all_one (fun i hi=>⟨_,_,arr8_cell s i hi⟩)
theorem mi_start{w w2:World}{s:W8}{cs:Array Value}{f:Nat→Nat}(hsz:cs.size=64)(hcs:∀i,i<64→cs[i]? =some (.int .u32 (f i)))
  (hb:Below ((w.alloc (.cells (arr8 s) 103)).alloc (.cells Z8 103)).heap.size ((w.alloc (.cells (arr8 s) 103)).alloc (.cells Z8 103)) w2)
  (hK:Rounds w) (hw: 0 <w.heap.size):Mi w ((((w2.alloc (.cells Z64 135)).setRow w2.heap.size cs).alloc (.cells Z8 103)).setRow (w2.heap.size+1) (arr8 s)) s w2.heap.size (w2.heap.size+1) f (w8 s)∧
   (w2.alloc (.cells Z64 135) |>.setRow w2.heap.size cs).heap[w.heap.size]? =some (.cells (arr8 s) 103 (0,0))∧(((w2.alloc (.cells Z64 135)).setRow w2.heap.size cs).alloc (.cells Z8 103)).heap[w2.heap.size+1]? =some (.cells Z8 103 (0,0)):=by
 have hs:=hb.size
 simp only[World.size_alloc]at hs hb
 have b0:Below w.heap.size w w2:=(((Below.refl _ _).alloc (Nat.le_refl _) _).alloc (by simp) _).trans (hb.mono (by omega))
 have n1:(((w2.alloc (.cells Z64 135)).setRow w2.heap.size cs).alloc (.cells Z8 103)).heap[w2.heap.size+1]? =some (.cells Z8 103 (0,0)):=by
  have e:=heap_alloc_new ((w2.alloc (.cells Z64 135)).setRow w2.heap.size cs) (.cells Z8 103)
  have z:((w2.alloc (.cells Z64 135)).setRow w2.heap.size cs).heap.size=w2.heap.size+1:=by simp
  rwa[z]at e
 have oth1:∀i,i<w2.heap.size→((w2.alloc (.cells Z64 135)).setRow w2.heap.size cs).heap[i]? =w2.heap[i]?:=fun i hi=>by
  rw [setRow_other _ _ _ _ (by omega),heap_alloc_old _ _ hi]
 have oth:∀i,i<w2.heap.size→((((w2.alloc (.cells Z64 135)).setRow w2.heap.size cs).alloc (.cells Z8 103)).setRow (w2.heap.size+1) (arr8 s)).heap[i]? =w2.heap[i]?:=fun i hi=>by
  rw [setRow_other _ _ _ _ (by omega),heap_alloc_old _ _ (by simp;omega),oth1 i hi]
 have b1:Below w.heap.size w ((((w2.alloc (.cells Z64 135)).setRow w2.heap.size cs).alloc (.cells Z8 103)).setRow (w2.heap.size+1) (arr8 s)):=
  below_setRow ((below_setRow (b0.alloc (by omega) _) (by omega) _).alloc (by simp;omega) _) (by omega) _
 have in0:w2.heap[w.heap.size]? =some (.cells (arr8 s) 103 (0,0)):=by
  rw [hb.block _ (by omega),heap_alloc_old _ _ (by simp),heap_alloc_new]
 refine⟨⟨b1,by omega,by omega,?_,?_,?_,rowIs_setRow n1 rfl (fun i hi=>arr8_cell s i hi),hK.below b1 hw⟩,(oth1 _ (by omega)).trans in0,n1⟩
 ·exact⟨arr8 s,(oth _ (by omega)).trans in0,rfl,fun i hi=>arr8_cell s i hi⟩
 ·have r:((w.alloc (.cells (arr8 s) 103)).alloc (.cells Z8 103)).rowIs (w.heap.size+1) 103 8 (fun _=>.int .u32 0):=by
   have e:=zeros_row (w.alloc (.cells (arr8 s) 103)) (.int .u32 0) 8 103
   rw [World.size_alloc]at e
   exact e
  exact⟨_,(r.of_block (hb.block _ (by omega))).of_block (oth _ (by omega))⟩
 ·have e:((w2.alloc (.cells Z64 135)).setRow w2.heap.size cs).rowIs w2.heap.size 135 64 (fun i=>.int .u32 (f i)):=rowIs_setRow (heap_alloc_new _ _) hsz hcs
  refine(e.alloc (.cells Z8 103)).of_block (setRow_other _ _ _ _ (by omega))
def msum(t s:W8)(k i:Nat):Nat:=if i<k then(w8 t i+w8 s i)%M else w8 t i
theorem msum_next(t s:W8)(k i:Nat):(if i=k then(w8 t k+w8 s k)%M else msum t s k i)=msum t s (k+1) i:=by
 unfold msum
 by_cases e:i=k
 ·subst e
  rw [if_pos rfl,if_pos (by omega)]
 ·rw [if_neg e]
  by_cases l:i<k
  ·rw [if_pos l,if_pos (by omega)]
  ·rw [if_neg l,if_neg (by omega)]
theorem msum_end(t s:W8)(i:Nat)(hi:i<8):msum t s 8 i=w8 (plus s t) i:=by
 unfold msum
 rw [if_pos hi,Nat.add_comm]
 match i,hi with
 |0,_=>rfl
 |1,_=>rfl
 |2,_=>rfl
 |3,_=>rfl
 |4,_=>rfl
 |5,_=>rfl
 |6,_=>rfl
 |7,_=>rfl
def T8(x y:Int)(t:W8):Array Value:= #[.int .u32 x,.int .u32 t.a,.int .u32 t.b,.int .u32 t.c,.int .u32 y,.int .u32 t.e,.int .u32 t.f,.int .u32 t.g]
theorem T8_one(x y:Int)(t:W8):(T8 x y t).all (·.oneCell')=true:=all_one (fun i hi=>by
 have h8:i<8:=hi
 match i,h8 with
 |0,_=>exact⟨_,_,rfl⟩
 |1,_=>exact⟨_,_,rfl⟩
 |2,_=>exact⟨_,_,rfl⟩
 |3,_=>exact⟨_,_,rfl⟩
 |4,_=>exact⟨_,_,rfl⟩
 |5,_=>exact⟨_,_,rfl⟩
 |6,_=>exact⟨_,_,rfl⟩
 |7,_=>exact⟨_,_,rfl⟩)
set_option maxRecDepth 100000 in
set_option maxHeartbeats 8000000 in
theorem mixed_any(w:World)(s:W8)(hs:Ok8 s)(a:Option Addr)(b off c:Nat)(B:Nat→Nat)(h:View w a b off 64 (fun i=>(B i:Int)))(hB:∀i,B i<256)(hK:Rounds w)(hw: 0 <w.heap.size):
  Calls Tryz.prog 50 #[.agg (arr8 s),.slice a 64 c] w fun e w'=>e= .returned (.agg (arr8 (fold1 s B)))∧Below w.heap.size w w':=by
 go_enter Tryz.func50, Tryz.ntmps50
 go_wp2_with fail
 refine(rwords_any _ a b off c B (h.below (((Below.refl _ _).alloc (Nat.le_refl _) _).alloc (by simp) _)) hB).mono ?_
 rintro _ w2 ⟨⟨cs,rfl,hsz,hcs⟩,hb2⟩
 have hi:(Tryz.prog.info? 135).map (·.size)=some cs.size:=by rw [hsz];exact info62
 have h1:cs.all (·.oneCell')=true:=all_one (fun i hi=>⟨_,_,hcs i (by omega)⟩)
 have F:=mi_start hsz hcs hb2 hK hw
 have n0:=F.2.1
 have n1:=F.2.2
 have HF:Hid (Mi w ((((w2.alloc (.cells Z64 135)).setRow w2.heap.size cs).alloc (.cells Z8 103)).setRow (w2.heap.size+1) (arr8 s)) s w2.heap.size (w2.heap.size+1) (sched B) (w8 s)):=F.1
 clear F
 go_wp2_with (first
  |refine wpList_store_row (by rfl) 135 (.tmp 5) (.tmp 14) (by rfl) w2.heap.size cs (by rfl) (by rfl) 135 Z64 (heap_alloc_new _ _) hi hsz.symm h1 ?_
  |refine wpList_load_row (by rfl) 103 (.tmp 2) (by rfl) w.heap.size (by rfl) 103 (arr8 s) (0,0) _ n0 Tryz.underlying103 rfl (arr8_info s) ?_
  |refine wpList_store_row (by rfl) 103 (.tmp 6) (.tmp 15) (by rfl) (w2.heap.size+1) (arr8 s) (by rfl) (by rfl) 103 Z8 n1 (arr8_info s) rfl (arr8_one s) ?_)
 clear n0 n1 h1 hi
 go_loopg [7] 64 (fun g i wr=> ∃k:Nat,k≤64∧g=64-k∧i= .int .i64 k∧Mi w wr s w2.heap.size (w2.heap.size+1) (sched B) (w8 (turns K (sched B) s k)))
 case atStart=>exact⟨0,by omega,rfl,rfl,HF.out⟩
 case round=>
  obtain⟨k,hk,rfl,rfl,hR⟩:=hrel
  clear HF
  by_cases hkn:k<64
  ·have T:=turns_ok hs K (sched B) k
   have cK:=hR.rounds k hkn
   have cW:=hR.row.cell hkn
   have lK:=K_lt k hkn
   have lW:=sched_lt hB k
   obtain⟨t,ht⟩:∃t,t=turns K (sched B) s k:=⟨_,rfl⟩
   have Ht:Hid (turns K (sched B) s (k+1)=turn1 t (K k) (sched B k)):=by rw [ht];rfl
   rw [←ht]at T hR
   clear ht
   obtain⟨x1,e1⟩:∃x,x=K k:=⟨_,rfl⟩
   obtain⟨x2,e2⟩:∃x,x=sched B k:=⟨_,rfl⟩
   rw [←e1]at cK lK Ht
   rw [←e2]at cW lW Ht
   have HX:Hid (x1=K k∧x2=sched B k):=⟨e1,e2⟩
   clear e1 e2
   obtain⟨ta,tb,tc,td,te,tf,tg,th⟩:=t
   obtain⟨la,lb,lc,ld,le,lf,lg,lh⟩:=T
   have c0:=hR.var.cell (i:=0) (by omega)
   have c1:=hR.var.cell (i:=1) (by omega)
   have c2:=hR.var.cell (i:=2) (by omega)
   have c3:=hR.var.cell (i:=3) (by omega)
   have c4:=hR.var.cell (i:=4) (by omega)
   have c5:=hR.var.cell (i:=5) (by omega)
   have c6:=hR.var.cell (i:=6) (by omega)
   have c7:=hR.var.cell (i:=7) (by omega)
   simp only[w8]at c0 c1 c2 c3 c4 c5 c6 c7 la lb lc ld le lf lg lh
   have HR:Hid (Mi w wr s w2.heap.size (w2.heap.size+1) (sched B) (w8 ⟨ta,tb,tc,td,te,tf,tg,th⟩)):=hR
   clear hR
   go_wp2_with fail
   refine wp_region_quiet_lit (by kernel_rfl) (by kernel_rfl) ?_
   repeat (go_big_quiet_step (fail))
   go_big_quiet_step (first|(go_at_call 79;refine Calls.quiet_of (turned_any _ te 6 le (by omega) (by omega))))
   repeat (go_big_quiet_step (fail))
   go_big_quiet_step (first|(go_at_call 79;refine Calls.quiet_of (turned_any _ te 11 le (by omega) (by omega))))
   repeat (go_big_quiet_step (fail))
   go_big_quiet_step (first|(go_at_call 79;refine Calls.quiet_of (turned_any _ te 25 le (by omega) (by omega))))
   repeat (go_big_quiet_step (fail))
   refine wpQuiet_nil ?_
   intro wz hwz
   obtain⟨nq,rfl⟩:=hwz
   have HQ:Hid (Mi w (wr.drewN nq) s w2.heap.size (w2.heap.size+1) (sched B) (w8 ⟨ta,tb,tc,td,te,tf,tg,th⟩)):=HR.out.drewN nq
   clear HR cK cW c0 c1 c2 c3 c4 c5 c6 c7
   have V:((((th:Int)+bits .xor .u32 (bits .xor .u32 ((rot te 6:Nat):Int) ((rot te 11:Nat):Int)) ((rot te 25:Nat):Int)+bits .xor .u32 (bits .and .u32 (te:Int) (tf:Int)) (bits .and .u32 (bits .xor .u32 (if IntKind.u32.signed=true then -1 else IntKind.u32.max) (te:Int)) (tg:Int))+(x1:Int))%4294967296+(x2:Int))%4294967296)=((t1 ⟨ta,tb,tc,td,te,tf,tg,th⟩ x1 x2:Nat):Int):=by
    rw [big1_spelt le,pick_spelt le lf lg]
    simp only[t1,M]
    omega
   rw [V]
   have l1:t1 ⟨ta,tb,tc,td,te,tf,tg,th⟩ x1 x2<4294967296:=Nat.mod_lt _ (by decide)
   obtain⟨y1,hy1⟩:∃y,y=t1 ⟨ta,tb,tc,td,te,tf,tg,th⟩ x1 x2:=⟨_,rfl⟩
   have Hy:Hid (t1 ⟨ta,tb,tc,td,te,tf,tg,th⟩ x1 x2=y1):=hy1.symm
   rw [←hy1]at l1 ⊢
   clear hy1 V
   obtain⟨wq,hwq⟩:∃x,x=wr.drewN nq:=⟨_,rfl⟩
   rw [←hwq]at HQ ⊢
   clear hwq
   have c0:=HQ.out.var.cell (i:=0) (by omega)
   have c1:=HQ.out.var.cell (i:=1) (by omega)
   have c2:=HQ.out.var.cell (i:=2) (by omega)
   have c3:=HQ.out.var.cell (i:=3) (by omega)
   have c4:=HQ.out.var.cell (i:=4) (by omega)
   have c5:=HQ.out.var.cell (i:=5) (by omega)
   have c6:=HQ.out.var.cell (i:=6) (by omega)
   have c7:=HQ.out.var.cell (i:=7) (by omega)
   simp only[w8]at c0 c1 c2 c3 c4 c5 c6 c7
   go_wp2_with fail
   refine wp_region_quiet_lit (by kernel_rfl) (by kernel_rfl) ?_
   repeat (go_big_quiet_step (fail))
   go_big_quiet_step (first|(go_at_call 79;refine Calls.quiet_of (turned_any _ ta 2 la (by omega) (by omega))))
   repeat (go_big_quiet_step (fail))
   go_big_quiet_step (first|(go_at_call 79;refine Calls.quiet_of (turned_any _ ta 13 la (by omega) (by omega))))
   repeat (go_big_quiet_step (fail))
   go_big_quiet_step (first|(go_at_call 79;refine Calls.quiet_of (turned_any _ ta 22 la (by omega) (by omega))))
   repeat (go_big_quiet_step (fail))
   refine wpQuiet_nil ?_
   intro wz hwz
   obtain⟨nq,rfl⟩:=hwz
   have HP:Hid (Mi w (wq.drewN nq) s w2.heap.size (w2.heap.size+1) (sched B) (w8 ⟨ta,tb,tc,td,te,tf,tg,th⟩)):=HQ.out.drewN nq
   clear HQ c0 c1 c2 c3 c4 c5 c6 c7
   have V2:((bits .xor .u32 (bits .xor .u32 ((rot ta 2:Nat):Int) ((rot ta 13:Nat):Int)) ((rot ta 22:Nat):Int)+bits .xor .u32 (bits .xor .u32 (bits .and .u32 (ta:Int) (tb:Int)) (bits .and .u32 (ta:Int) (tc:Int))) (bits .and .u32 (tb:Int) (tc:Int)))%4294967296)=((t2 ⟨ta,tb,tc,td,te,tf,tg,th⟩:Nat):Int):=by
    rw [big0_spelt la,most_spelt la lb lc]
    simp only[t2,M]
    omega
   rw [V2]
   have l2:t2 ⟨ta,tb,tc,td,te,tf,tg,th⟩<4294967296:=Nat.mod_lt _ (by decide)
   obtain⟨y2,hy2⟩:∃y,y=t2 ⟨ta,tb,tc,td,te,tf,tg,th⟩:=⟨_,rfl⟩
   have Hy2:Hid (t2 ⟨ta,tb,tc,td,te,tf,tg,th⟩=y2):=hy2.symm
   rw [←hy2]at l2 ⊢
   clear hy2 V2
   obtain⟨wp,hwp⟩:∃x,x=wq.drewN nq:=⟨_,rfl⟩
   rw [←hwp]at HP ⊢
   clear hwp
   have c0:=HP.out.var.cell (i:=0) (by omega)
   have c1:=HP.out.var.cell (i:=1) (by omega)
   have c2:=HP.out.var.cell (i:=2) (by omega)
   have c3:=HP.out.var.cell (i:=3) (by omega)
   have c4:=HP.out.var.cell (i:=4) (by omega)
   have c5:=HP.out.var.cell (i:=5) (by omega)
   have c6:=HP.out.var.cell (i:=6) (by omega)
   have c7:=HP.out.var.cell (i:=7) (by omega)
   simp only[w8]at c0 c1 c2 c3 c4 c5 c6 c7
   obtain⟨os,og,osz,_⟩:=HP.out.var
   have HN:Hid (Mi w (wp.setRow (w2.heap.size+1) (T8 (((y1:Int)+(y2:Int))%4294967296) (((td:Int)+(y1:Int))%4294967296) ⟨ta,tb,tc,td,te,tf,tg,th⟩)) s w2.heap.size (w2.heap.size+1) (sched B) (w8 (turns K (sched B) s (k+1)))):=by
    refine HP.out.setAll hw _ rfl (fun i hi=>?_)
    rw [Ht.out]
    unfold turn1
    rw [Hy.out,Hy2.out]
    have v1:((y1:Int)+(y2:Int))%4294967296=(((y1+y2)%M:Nat):Int):=by simp only[M];omega
    have v2:((td:Int)+(y1:Int))%4294967296=(((td+y1)%M:Nat):Int):=by simp only[M];omega
    rw [v1,v2]
    match i,hi with
    |0,_=>rfl
    |1,_=>rfl
    |2,_=>rfl
    |3,_=>rfl
    |4,_=>rfl
    |5,_=>rfl
    |6,_=>rfl
    |7,_=>rfl
   have one:(T8 (((y1:Int)+(y2:Int))%4294967296) (((td:Int)+(y1:Int))%4294967296) ⟨ta,tb,tc,td,te,tf,tg,th⟩).all (·.oneCell')=true:=T8_one _ _ _
   clear HP
   go_wp2_with (refine wpList_store_row (by rfl) 103 (.tmp 6) (.tmp 97) (by rfl) (w2.heap.size+1) (T8 (((y1:Int)+(y2:Int))%4294967296) (((td:Int)+(y1:Int))%4294967296) ⟨ta,tb,tc,td,te,tf,tg,th⟩) (by rfl) (by rfl) 103 os og info51 osz one ?_)
   clear c0 c1 c2 c3 c4 c5 c6 c7 og osz one
   go_roundg (64-(k+1))
   case measure=>omega
   case rel=>exact⟨k+1,by omega,rfl,by go_num,HN.out⟩
  ·have:k=64:=by omega
   subst this
   obtain⟨t,ht⟩:∃t,t=turns K (sched B) s 64:=⟨_,rfl⟩
   have T:=turns_ok hs K (sched B) 64
   have Hf:Hid (fold1 s B=plus s t):=by rw [ht];rfl
   rw [←ht]at T hR
   clear ht
   have HR:Hid (Mi w wr s w2.heap.size (w2.heap.size+1) (sched B) (w8 t)):=hR
   clear hR
   go_wp2_with fail
   go_loopg [12] 8 (fun g i wr=> ∃k:Nat,k≤8∧g=8-k∧i= .int .i64 k∧Mi w wr s w2.heap.size (w2.heap.size+1) (sched B) (msum t s k))
   case atStart=>exact⟨0,by omega,rfl,rfl,HR.out.congr (fun i _=>by simp[msum])⟩
   case round=>
    obtain⟨k,hk,rfl,rfl,hR⟩:=hrel
    clear HR
    by_cases hkn:k<8
    ·have cv:=hR.var.cell hkn
     have cs':=hR.in_.cell hkn
     have fz:=hR.var.frozen k
     have e0:msum t s k k=w8 t k:=by unfold msum;rw [if_neg (by omega)]
     rw [e0]at cv
     have lt:=w8_lt T k
     have ls:=w8_lt hs k
     obtain⟨x,hx⟩:∃x,x=w8 t k:=⟨_,rfl⟩
     obtain⟨y,hy⟩:∃y,y=w8 s k:=⟨_,rfl⟩
     rw [←hx]at cv lt
     rw [←hy]at cs' ls
     have HV:Hid (x=w8 t k∧y=w8 s k):=⟨hx,hy⟩
     have HR:Hid (Mi w wr s w2.heap.size (w2.heap.size+1) (sched B) (msum t s k)):=hR
     clear hR hx hy e0
     go_wp2_with fail
     go_region
     go_wp2
     have V:((x:Int)+(y:Int))%4294967296=(((w8 t k+w8 s k)%M:Nat):Int):=by
      rw [←HV.out.1,←HV.out.2]
      simp only[M]
      omega
     rw [V]
     clear cv cs' fz V
     go_roundg (8-(k+1))
     case measure=>omega
     case rel=>exact⟨k+1,by omega,rfl,by go_num,((HR.out.setVar hw k _).drew).congr (fun i _=>msum_next t s k i)⟩
    ·have:k=8:=by omega
     subst this
     have HR:Hid (Mi w wr s w2.heap.size (w2.heap.size+1) (sched B) (w8 (plus s t))):=hR.congr (fun i hi=>msum_end t s i hi)
     clear hR
     obtain⟨f',hf'⟩:=HR.out.out
     obtain⟨os,og,osz,_⟩:=hf'
     have hc:∀j,j<(arr8 (plus s t)).size→wr.cell? ⟨w2.heap.size+1,j,none⟩=(arr8 (plus s t))[j]?:=fun j hj=>(HR.out.var.cell hj).trans (arr8_cell (plus s t) j hj).symm
     go_wp2_with (first
      |refine wpList_load_cells (by rfl) 103 (.tmp 6) (by rfl) (w2.heap.size+1) (by rfl) (arr8 (plus s t)) _ hc Tryz.underlying103 rfl (arr8_info _) ?_
      |refine wpList_store_row (by rfl) 103 (.tmp 4) (.tmp 111) (by rfl) (w.heap.size+1) (arr8 (plus s t)) (by rfl) (by rfl) 103 os og (arr8_info _) osz (arr8_one _) ?_)
     refine bodyPost_ret (v:=.agg (arr8 (plus s t))) ?_ rfl ?_
     ·exact results_cell_row rfl _ _ (w.heap.size+1) 103 (arr8 (plus s t)) (0,0) _ rfl (setRow_heap _ _ _ _ _ _ og) Tryz.underlying103 rfl (arr8_info _)
     ·exact⟨by rw [Hf.out],below_setRow HR.out.below (by omega) _⟩
def now{α:Type}(n:Nat)(k:Nat→α):α:=match n with|0=>k 0|m+1=>k (m+1)
theorem now_eq{α:Type}(n:Nat)(k:Nat→α):now n k=k n:=by cases n<;>rfl
def eround(k a b c d e f g h w:Nat){α:Type}(r:Nat→Nat→α):α:=
 now (((((h+big1 e)%M+pick e f g)%M+k)%M+w)%M) fun x=>now ((x+(big0 a+most a b c)%M)%M) fun a'=>now ((d+x)%M) fun e'=>r a' e'
def erounds:List Nat→List Nat→Nat→Nat→Nat→Nat→Nat→Nat→Nat→Nat→W8
 |k::ks,w0::w1::w2::w3::w4::w5::w6::w7::w8::w9::w10::w11::w12::w13::w14::w15::r,a,b,c,d,e,f,g,h=>
  now (wnew w14 w9 w1 w0) fun w16=>
   eround k a b c d e f g h w0 fun a' e'=>erounds ks (w1::w2::w3::w4::w5::w6::w7::w8::w9::w10::w11::w12::w13::w14::w15::w16::r) a' a b c e' e f g
 |_,_,a,b,c,d,e,f,g,h=>⟨a,b,c,d,e,f,g,h⟩
theorem erounds_step(k:Nat)(ks:List Nat)(w0 w1 w2 w3 w4 w5 w6 w7 w8 w9 w10 w11 w12 w13 w14 w15:Nat)(s:W8):
  erounds (k::ks) [w0,w1,w2,w3,w4,w5,w6,w7,w8,w9,w10,w11,w12,w13,w14,w15] s.a s.b s.c s.d s.e s.f s.g s.h=
   erounds ks [w1,w2,w3,w4,w5,w6,w7,w8,w9,w10,w11,w12,w13,w14,w15,wnew w14 w9 w1 w0] (turn1 s k w0).a (turn1 s k w0).b (turn1 s k w0).c (turn1 s k w0).d (turn1 s k w0).e (turn1 s k w0).f (turn1 s k w0).g (turn1 s k w0).h:=by
 rw [erounds,now_eq]
 unfold eround
 rw [now_eq,now_eq,now_eq]
 rfl
def win(B:Nat→Nat)(t:Nat):List Nat:=[sched B t,sched B (t+1),sched B (t+2),sched B (t+3),sched B (t+4),sched B (t+5),sched B (t+6),sched B (t+7),sched B (t+8),sched B (t+9),sched B (t+10),sched B (t+11),sched B (t+12),sched B (t+13),sched B (t+14),sched B (t+15)]
theorem erounds_turns(B:Nat→Nat)(s:W8):∀(ks:List Nat) (t:Nat),(∀i,i<ks.length→ks[i]? =some (K (t+i)))→
  erounds ks (win B t) (turns K (sched B) s t).a (turns K (sched B) s t).b (turns K (sched B) s t).c (turns K (sched B) s t).d (turns K (sched B) s t).e (turns K (sched B) s t).f (turns K (sched B) s t).g (turns K (sched B) s t).h=turns K (sched B) s (t+ks.length)
 |[],t,_=>by
  rw [erounds]
  ·rfl
  ·intro k ks' w0 w1 w2 w3 w4 w5 w6 w7 w8 w9 w10 w11 w12 w13 w14 w15 r h
   cases h
 |k::ks,t,h=>by
  have hk:k=K t:=by
   have:=h 0 (by simp)
   simpa using this
  unfold win
  rw [erounds_step]
  have e:wnew (sched B (t+14)) (sched B (t+9)) (sched B (t+1)) (sched B t)=sched B (t+16):=by
   rw [sched_high B (t:=t+16) (by omega)]
   rfl
  rw [e,hk]
  have ih:=erounds_turns B s ks (t+1) (fun i hi=>by
   have:=h (i+1) (by simp;omega)
   rw [List.getElem?_cons_succ]at this
   rw [this,show t+(i+1)=t+1+i by omega])
  have e2:t+1+ks.length=t+(k::ks).length:=by simp;omega
  rw [e2]at ih
  rw [hk]at ih
  exact ih
def ewords:List Nat→List Nat
 |x0::x1::x2::x3::r=>now (((x0<<<24|||x1<<<16)|||x2<<<8)|||x3) fun w=>w::ewords r
 |_=>[]
def eb(s:W8)(l:List Nat):W8:=
 match s with
 |⟨a,b,c,d,e,f,g,h⟩=>
  match erounds KL (ewords l) a b c d e f g h with
  |⟨a',b',c',d',e',f',g',h'⟩=>
   now ((a+a')%M) fun a=>now ((b+b')%M) fun b=>now ((c+c')%M) fun c=>now ((d+d')%M) fun d=>now ((e+e')%M) fun e=>now ((f+f')%M) fun f=>now ((g+g')%M) fun g=>now ((h+h')%M) fun h=>⟨a,b,c,d,e,f,g,h⟩
theorem range64:List.range 64=[0,1,2,3,4,5,6,7,8,9,10,11,12,13,14,15,16,17,18,19,20,21,22,23,24,25,26,27,28,29,30,31,32,33,34,35,36,37,38,39,40,41,42,43,44,45,46,47,48,49,50,51,52,53,54,55,56,57,58,59,60,61,62,63]:=by decide
theorem ewords_win(B:Nat→Nat):ewords ((List.range 64).map B)=win B 0:=by
 rw [range64]
 simp only[List.map_cons,List.map_nil,ewords,now_eq]
 unfold win
 rw [sched_low B (show 0<16 by decide),sched_low B (show 0+1<16 by decide),sched_low B (show 0+2<16 by decide),sched_low B (show 0+3<16 by decide),sched_low B (show 0+4<16 by decide),sched_low B (show 0+5<16 by decide),sched_low B (show 0+6<16 by decide),sched_low B (show 0+7<16 by decide),sched_low B (show 0+8<16 by decide),sched_low B (show 0+9<16 by decide),sched_low B (show 0+10<16 by decide),sched_low B (show 0+11<16 by decide),sched_low B (show 0+12<16 by decide),sched_low B (show 0+13<16 by decide),sched_low B (show 0+14<16 by decide),sched_low B (show 0+15<16 by decide)]
 rfl
theorem KL_get:∀i,i<KL.length→KL[i]? =some (K (0+i)):=by
 intro i hi
 rw [Nat.zero_add,List.getElem?_eq_getElem hi]
 unfold K
 rw [List.getD_eq_getElem?_getD,List.getElem?_eq_getElem hi]
 rfl
theorem eb_eq(s:W8)(B:Nat→Nat):eb s ((List.range 64).map B)=fold1 s B:=by
 have h:=erounds_turns B s KL 0 KL_get
 rw [←ewords_win B]at h
 have h2:erounds KL (ewords ((List.range 64).map B)) s.a s.b s.c s.d s.e s.f s.g s.h=turns K (sched B) s 64:=h
 unfold eb fold1
 rw [←h2]
 cases s
 simp only[now_eq,plus]
end Go.Proofs.YtnbdpcpgckfeeaaGreatDoor.Dg
