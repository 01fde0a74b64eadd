import Derived.Test.YtnbdpcpgckfeeaaGreatDoorQRRotzz
namespace Go.Proofs.YtnbdpcpgckfeeaaGreatDoor.Dg
open Go.RowKit
def arr8(s:W8):Array Value:= #[.int .u32 s.a,.int .u32 s.b,.int .u32 s.c,.int .u32 s.d,.int .u32 s.e,.int .u32 s.f,.int .u32 s.g,.int .u32 s.h]
def w8(s:W8)(i:Nat):Nat:=match i with|0=>s.a|1=>s.b|2=>s.c|3=>s.d|4=>s.e|5=>s.f|6=>s.g|_=>s.h
def Roots(w:World):Prop:= ∀i,i<64→w.cell? ⟨2,i,none⟩=some (.int .u32 (K i))
theorem Roots.below{w w':World}(h:Roots w){B:Nat}(hb:Below B w w')(hB: 2 <B):Roots w':=fun i hi=>(hb.cell (p:=⟨2,i,none⟩) hB).trans (h i hi)
theorem arr8_cell(s:W8):∀i,i<8→(arr8 s)[i]? =some (.int .u32 (w8 s i)):=by
 intro i hi
 match i,hi with
 |0,_=>rfl
 |1,_=>rfl
 |2,_=>rfl
 |3,_=>rfl
 |4,_=>rfl
 |5,_=>rfl
 |6,_=>rfl
 |7,_=>rfl
structure Fo(w wr:World)(s:W8)(g:Nat)(f:Nat→Nat):Prop where
 below:Below w.heap.size w wr
 low:w.heap.size+2≤g
 in_:wr.rowIs w.heap.size 103 8 (fun i=>.int .u32 (w8 s i))
 out:∃f',wr.rowIs (w.heap.size+1) 103 8 f'
 row:wr.rowIs g 135 64 (fun i=>.int .u32 (f i))
 roots:Roots wr
theorem Fo.drewN{w wr:World}{s:W8}{g:Nat}{f:Nat→Nat}(h:Fo w wr s g f)(q:Nat):Fo w (wr.drewN q) s g f:=
 ⟨below_drewN h.below q,h.low,h.in_.of_block rfl,let ⟨f',hf⟩:=h.out;⟨f',hf.of_block rfl⟩,h.row.of_block rfl,h.roots⟩
theorem rowIs_setRow{w:World}{g t n:Nat}{old cs:Array Value}{f:Nat→Value}(hg:w.heap[g]? =some (.cells old t (0,0)))(hn:cs.size=n)(hc:∀i,i<n→cs[i]? =some (f i)):(w.setRow g cs).rowIs g t n f:=
 ⟨cs,setRow_heap w g old cs t (0,0) hg,hn,hc⟩
theorem fo_start(w w2:World)(s:W8)(cs:Array Value)(f:Nat→Nat)(hsz:cs.size=64)(hcs:∀i,i<64→cs[i]? =some (.int .u32 (f i)))
  (hb:Below ((w.alloc (.cells (arr8 s) 103)).alloc (.cells #[.int .u32 0,.int .u32 0,.int .u32 0,.int .u32 0,.int .u32 0,.int .u32 0,.int .u32 0,.int .u32 0] 103)).heap.size ((w.alloc (.cells (arr8 s) 103)).alloc (.cells #[.int .u32 0,.int .u32 0,.int .u32 0,.int .u32 0,.int .u32 0,.int .u32 0,.int .u32 0,.int .u32 0] 103)) w2)
  (hK:Roots w) (hw: 2 <w.heap.size):Fo w ((w2.alloc (.cells Z64 135)).setRow w2.heap.size cs) s w2.heap.size f:=by
 have hs:=hb.size
 simp only[World.size_alloc]at hs hb
 have b0:Below w.heap.size w w2:=(((Below.refl _ _).alloc (Nat.le_refl _) _).alloc (by simp) _).trans (hb.mono (by omega))
 have b1:Below w.heap.size w ((w2.alloc (.cells Z64 135)).setRow w2.heap.size cs):=below_setRow (b0.alloc (by omega) _) (by omega) _
 have oth:∀i,i<w2.heap.size→((w2.alloc (.cells Z64 135)).setRow w2.heap.size cs).heap[i]? =w2.heap[i]?:=fun i hi=>by
  rw [setRow_other _ _ _ _ (by omega),heap_alloc_old _ _ hi]
 refine⟨b1,by omega,?_,?_,rowIs_setRow (heap_alloc_new _ _) hsz hcs,hK.below b1 hw⟩
 ·have r:=World.rowIs_alloc w (arr8 s) 103 (fun i=>.int .u32 (w8 s i)) (fun i hi=>arr8_cell s i hi)
  exact((r.alloc (.cells #[.int .u32 0,.int .u32 0,.int .u32 0,.int .u32 0,.int .u32 0,.int .u32 0,.int .u32 0,.int .u32 0] 103)).of_block (hb.block _ (by omega))).of_block (oth _ (by omega))
 ·have r:=zeros_row (w.alloc (.cells (arr8 s) 103)) (.int .u32 0) 8 103
  rw [World.size_alloc]at r
  exact⟨_,(r.of_block (hb.block _ (by omega))).of_block (oth _ (by omega))⟩
theorem and_lt{x y:Nat}(h:x<4294967296):x&&&y<4294967296:=Nat.lt_of_le_of_lt Nat.and_le_left h
theorem not_spelt{e:Nat}(h:e<4294967296):bits .xor .u32 (if IntKind.u32.signed=true then -1 else IntKind.u32.max) (e:Int)=((4294967295^^^e:Nat):Int):=by
 have m:(if IntKind.u32.signed=true then -1 else IntKind.u32.max)=((4294967295:Nat):Int):=by decide
 rw [m,u32_xor_nat _ _ (by decide) h]
theorem big1_spelt{e:Nat}(h:e<4294967296):bits .xor .u32 (bits .xor .u32 ((rot e 6:Nat):Int) ((rot e 11:Nat):Int)) ((rot e 25:Nat):Int)=((big1 e:Nat):Int):=by
 rw [u32_xor_nat _ _ (rot_lt 6 h) (rot_lt 11 h),u32_xor_nat _ _ (xor_lt (rot_lt 6 h) (rot_lt 11 h)) (rot_lt 25 h)]
 rfl
theorem big0_spelt{e:Nat}(h:e<4294967296):bits .xor .u32 (bits .xor .u32 ((rot e 2:Nat):Int) ((rot e 13:Nat):Int)) ((rot e 22:Nat):Int)=((big0 e:Nat):Int):=by
 rw [u32_xor_nat _ _ (rot_lt 2 h) (rot_lt 13 h),u32_xor_nat _ _ (xor_lt (rot_lt 2 h) (rot_lt 13 h)) (rot_lt 22 h)]
 rfl
theorem pick_spelt{e f g:Nat}(h:e<4294967296)(hf:f<4294967296)(hg:g<4294967296):
  bits .xor .u32 (bits .and .u32 (e:Int) (f:Int)) (bits .and .u32 (bits .xor .u32 (if IntKind.u32.signed=true then -1 else IntKind.u32.max) (e:Int)) (g:Int))=((pick e f g:Nat):Int):=by
 have l:4294967295^^^e<4294967296:=xor_lt (by decide) h
 rw [not_spelt h,u32_and_nat _ _ h hf,u32_and_nat _ _ l hg,u32_xor_nat _ _ (and_lt h) (and_lt l)]
 rfl
theorem most_spelt{a b c:Nat}(ha:a<4294967296)(hb:b<4294967296)(hc:c<4294967296):
  bits .xor .u32 (bits .xor .u32 (bits .and .u32 (a:Int) (b:Int)) (bits .and .u32 (a:Int) (c:Int))) (bits .and .u32 (b:Int) (c:Int))=((most a b c:Nat):Int):=by
 rw [u32_and_nat _ _ ha hb,u32_and_nat _ _ ha hc,u32_and_nat _ _ hb hc,u32_xor_nat _ _ (and_lt ha) (and_lt ha),u32_xor_nat _ _ (xor_lt (and_lt ha) (and_lt ha)) (and_lt hb)]
 rfl
theorem info51:(Tryz.prog.info? 103).map (·.size)=some 8:=by kernel_rfl
def sum8(s t:W8):Array Value:= #[.int .u32 (((s.a:Int)+(t.a:Int))%4294967296),.int .u32 (((s.b:Int)+(t.b:Int))%4294967296),.int .u32 (((s.c:Int)+(t.c:Int))%4294967296),.int .u32 (((s.d:Int)+(t.d:Int))%4294967296),.int .u32 (((s.e:Int)+(t.e:Int))%4294967296),.int .u32 (((s.f:Int)+(t.f:Int))%4294967296),.int .u32 (((s.g:Int)+(t.g:Int))%4294967296),.int .u32 (((s.h:Int)+(t.h:Int))%4294967296)]
theorem sum8_eq(s t:W8):sum8 s t=arr8 (plus s t):=by
 simp[sum8,arr8,plus,M]
theorem one8(s t:W8):(sum8 s t).all (·.oneCell')=true:=by
 rw [sum8_eq]
 exact all_one (fun i hi=>⟨_,_,arr8_cell (plus s t) i hi⟩)
set_option maxRecDepth 100000 in
set_option maxHeartbeats 8000000 in
theorem folded_any(w:World)(s:W8)(hs:Ok8 s)(a:Option Addr)(b off c:Nat)(B:Nat→Nat)(h:View w a b off 64 (fun i=>(B i:Int)))(hB:∀i,B i<256)(hK:Roots w)(hw: 2 <w.heap.size):
  Calls Tryz.prog 90 #[.agg (arr8 s),.slice a 64 c] w fun e w'=>e= .returned (.agg (arr8 (fold1 s B)))∧Below w.heap.size w w':=by
 go_enter Tryz.func90, Tryz.ntmps90
 go_wp2_with fail
 refine(sched_any _ a b off c B (h.below (((Below.refl _ _).alloc (Nat.le_refl _) _).alloc (by simp) _)) hB).mono ?_
 rintro _ w2 ⟨⟨cs,rfl,hsz,hcs⟩,hb2⟩
 have hi:(Tryz.prog.info? 135).map (·.size)=some cs.size:=by rw [hsz];exact info62
 have h1:cs.all (·.oneCell')=true:=all_one (fun i hi=>⟨_,_,hcs i (by omega)⟩)
 go_wp2_with (refine wpList_store_row rfl 135 (.tmp 5) (.tmp 18) rfl w2.heap.size cs rfl rfl 135 Z64 (heap_alloc_new _ _) hi hsz.symm h1 ?_)
 have F:=fo_start w w2 s cs (sched B) hsz hcs hb2 hK hw
 obtain⟨wm,hwm⟩:∃x,x=(w2.alloc (.cells Z64 135)).setRow w2.heap.size cs:=⟨_,rfl⟩
 rw [←hwm]at F
 delta Z64 at hwm
 rw [←hwm]
 obtain⟨g5,hg5⟩:∃x,x=w2.heap.size:=⟨_,rfl⟩
 rw [←hg5]at F ⊢
 clear hwm hg5 hb2 hcs h1 hi hsz
 have i0:=F.in_.cell (i:=0) (by omega)
 have i1:=F.in_.cell (i:=1) (by omega)
 have i2:=F.in_.cell (i:=2) (by omega)
 have i3:=F.in_.cell (i:=3) (by omega)
 have i4:=F.in_.cell (i:=4) (by omega)
 have i5:=F.in_.cell (i:=5) (by omega)
 have i6:=F.in_.cell (i:=6) (by omega)
 have i7:=F.in_.cell (i:=7) (by omega)
 simp only[w8]at i0 i1 i2 i3 i4 i5 i6 i7
 have HF:Hid (Fo w wm s g5 (sched B)):=F
 clear F
 go_quiet (fail)
 have HF2:Hid (Fo w (wm.drewN nq) s g5 (sched B)):=HF.out.drewN nq
 clear HF i0 i1 i2 i3 i4 i5 i6 i7
 go_wp2
 go_loopg [35,6,7,8,9,10,11,12,13] 64 (fun g i va vb vc vd ve vf vg vh wr=> ∃k:Nat,k≤64∧g=64-k∧i= .int .i64 k∧va= .int .u32 (turns K (sched B) s k).a∧vb= .int .u32 (turns K (sched B) s k).b∧vc= .int .u32 (turns K (sched B) s k).c∧vd= .int .u32 (turns K (sched B) s k).d∧ve= .int .u32 (turns K (sched B) s k).e∧vf= .int .u32 (turns K (sched B) s k).f∧vg= .int .u32 (turns K (sched B) s k).g∧vh= .int .u32 (turns K (sched B) s k).h∧Fo w wr s g5 (sched B))
 case atStart=>exact⟨0,by omega,rfl,rfl,rfl,rfl,rfl,rfl,rfl,rfl,rfl,rfl,HF2.out⟩
 case round=>
  obtain⟨k,hk,rfl,rfl,rfl,rfl,rfl,rfl,rfl,rfl,rfl,rfl,hR⟩:=hrel
  clear HF2
  by_cases hkn:k<64
  ·have T:=turns_ok hs K (sched B) k
   obtain⟨t,ht⟩:∃t,t=turns K (sched B) s k:=⟨_,rfl⟩
   have cK:=hR.roots k hkn
   have cW:=hR.row.cell hkn
   have lK:=K_lt k hkn
   have lW:=sched_lt hB k
   have Ht:Hid (turns K (sched B) s (k+1)=turn1 t (K k) (sched B k)):=by rw [ht];rfl
   rw [←ht]at T ⊢
   clear ht
   obtain⟨x1,e1⟩:∃x,x=K k:=⟨_,rfl⟩
   obtain⟨x2,e2⟩:∃x,x=sched B k:=⟨_,rfl⟩
   rw [←e1]at cK lK Ht
   rw [←e2]at cW lW Ht
   clear e1 e2
   obtain⟨ta,tb,tc,td,te,tf,tg,th⟩:=t
   obtain⟨la,lb,lc,ld,le,lf,lg,lh⟩:=T
   have HR:Hid (Fo w wr s g5 (sched B)):=hR
   clear hR
   simp only at la lb lc ld le lf lg lh ⊢
   go_wp2
   refine wp_region_quiet_lit (by kernel_rfl) (by kernel_rfl) ?_
   repeat (go_big_quiet_step (fail))
   go_big_quiet_step (first|(go_at_call 114;refine Calls.quiet_of_same (rotR_any _ te 6 le (by omega) (by omega))))
   repeat (go_big_quiet_step (fail))
   go_big_quiet_step (first|(go_at_call 114;refine Calls.quiet_of_same (rotR_any _ te 11 le (by omega) (by omega))))
   repeat (go_big_quiet_step (fail))
   go_big_quiet_step (first|(go_at_call 114;refine Calls.quiet_of_same (rotR_any _ te 25 le (by omega) (by omega))))
   repeat (go_big_quiet_step (fail))
   refine wpQuiet_nil ?_
   intro wz hwz
   obtain⟨nq,rfl⟩:=hwz
   have HQ:Hid (Fo w (wr.drewN nq) s g5 (sched B)):=HR.out.drewN nq
   clear HR cK cW
   have V:((((th:Int)+bits .xor .u32 (bits .xor .u32 ((rot te 6:Nat):Int) ((rot te 11:Nat):Int)) ((rot te 25:Nat):Int)+bits .xor .u32 (bits .and .u32 (te:Int) (tf:Int)) (bits .and .u32 (bits .xor .u32 (if IntKind.u32.signed=true then -1 else IntKind.u32.max) (te:Int)) (tg:Int))+(x1:Int))%4294967296+(x2:Int))%4294967296)=((t1 ⟨ta,tb,tc,td,te,tf,tg,th⟩ x1 x2:Nat):Int):=by
    rw [big1_spelt le,pick_spelt le lf lg]
    simp only[t1,M]
    omega
   rw [V]
   have l1:t1 ⟨ta,tb,tc,td,te,tf,tg,th⟩ x1 x2<4294967296:=Nat.mod_lt _ (by decide)
   obtain⟨y1,hy1⟩:∃y,y=t1 ⟨ta,tb,tc,td,te,tf,tg,th⟩ x1 x2:=⟨_,rfl⟩
   have Hy:Hid (t1 ⟨ta,tb,tc,td,te,tf,tg,th⟩ x1 x2=y1):=hy1.symm
   rw [←hy1]at l1 ⊢
   clear hy1 V
   obtain⟨wq,hwq⟩:∃x,x=wr.drewN nq:=⟨_,rfl⟩
   rw [←hwq]at HQ ⊢
   clear hwq
   go_wp2_with fail
   refine(rotR_any _ ta 2 la (by omega) (by omega)).mono ?_
   rintro _ _ ⟨rfl,rfl⟩
   go_wp2_with fail
   refine(rotR_any _ ta 13 la (by omega) (by omega)).mono ?_
   rintro _ _ ⟨rfl,rfl⟩
   go_wp2_with fail
   refine(rotR_any _ ta 22 la (by omega) (by omega)).mono ?_
   rintro _ _ ⟨rfl,rfl⟩
   go_wp2_with fail
   go_roundg (64-(k+1))
   case measure=>omega
   case rel=>
    refine⟨k+1,by omega,rfl,by go_num,?_,?_,?_,?_,?_,?_,?_,?_,HQ.out⟩
    all_goals rw [Ht.out]
    all_goals simp only[turn1]
    ·congr 1
     rw [big0_spelt la,most_spelt la lb lc,Hy.out]
     simp only[t2,M]
     omega
    ·congr 1
     rw [Hy.out]
     simp only[M]
     omega
  ·have:k=64:=by omega
   subst this
   have i0:=hR.in_.cell (i:=0) (by omega)
   have i1:=hR.in_.cell (i:=1) (by omega)
   have i2:=hR.in_.cell (i:=2) (by omega)
   have i3:=hR.in_.cell (i:=3) (by omega)
   have i4:=hR.in_.cell (i:=4) (by omega)
   have i5:=hR.in_.cell (i:=5) (by omega)
   have i6:=hR.in_.cell (i:=6) (by omega)
   have i7:=hR.in_.cell (i:=7) (by omega)
   simp only[w8]at i0 i1 i2 i3 i4 i5 i6 i7
   obtain⟨f',hf'⟩:=hR.out
   obtain⟨os,og,osz,_⟩:=hf'
   have T:=turns_ok hs K (sched B) 64
   obtain⟨t,ht⟩:∃t,t=turns K (sched B) s 64:=⟨_,rfl⟩
   have Hf:Hid (fold1 s B=plus s t):=by rw [ht];rfl
   rw [←ht]at T ⊢
   clear ht
   have HR:Hid (Fo w wr s g5 (sched B)):=hR
   clear hR
   go_wp2_with (refine wpList_store_row rfl 103 (.tmp 4) (.tmp 130) rfl (w.heap.size+1) (sum8 s t) rfl rfl 103 os og info51 osz (one8 s t) ?_)
   refine bodyPost_ret (v:=.agg (sum8 s t)) ?_ rfl ?_
   ·exact results_cell_row rfl _ _ (w.heap.size+1) 103 (sum8 s t) (0,0) _ rfl (setRow_heap _ _ _ _ _ _ og) Tryz.underlying103 rfl info51
   exact⟨by rw [sum8_eq,Hf.out],below_setRow HR.out.below (by omega) _⟩
theorem w8_lt{s:W8}(h:Ok8 s)(i:Nat):w8 s i<4294967296:=by
 unfold w8
 split
 ·exact h.a
 ·exact h.b
 ·exact h.c
 ·exact h.d
 ·exact h.e
 ·exact h.f
 ·exact h.g
 ·exact h.h
open Go.RowKit
theorem two64_drew{w w1 w2:World}{f:Nat→Nat}(h:Hid (Two64 w w1 f))(hq:∃q,w2=w1.drewN q):Hid (Two64 w w2 f):=by
 obtain⟨q,rfl⟩:=hq
 exact h.out.drewN q
set_option maxRecDepth 100000 in
set_option maxHeartbeats 8000000 in
theorem rwords_any(w:World)(a:Option Addr)(b off c:Nat)(B:Nat→Nat)(h:View w a b off 64 (fun i=>(B i:Int)))(hB:∀i,B i<256):
  Calls Tryz.prog 78 #[.slice a 64 c] w fun e w'=>(∃cs:Array Value,e= .returned (.agg cs)∧cs.size=64∧∀i,i<64→cs[i]? =some (.int .u32 (sched B i)))∧Below w.heap.size w w':=by
 obtain rfl:=h.at_ (by omega)
 have hb:=h.lt (by omega)
 go_enter Tryz.func78, Tryz.ntmps78
 go_wp2
 go_loopg [4] 16 (fun g i wr=> ∃k:Nat,k≤16∧g=16-k∧i= .int .i64 k∧Two64 w wr (fun i=>if i<k then sched B i else 0))
 case atStart=>exact⟨0,by omega,rfl,rfl,(two64_start w).congr (fun i _=>by simp)⟩
 case round=>
  obtain⟨k,hk,rfl,rfl,hR⟩:=hrel
  by_cases hkn:k<16
  ·have c0:wr.cell? ⟨b,off+4*k,none⟩=some (.int .u8 (B (4*k))):=(hR.below.cell (p:=⟨b,off+4*k,none⟩) hb).trans (h.cell (4*k) (by omega))
   have c1:wr.cell? ⟨b,off+(4*k+1),none⟩=some (.int .u8 (B (4*k+1))):=(hR.below.cell (p:=⟨b,off+(4*k+1),none⟩) hb).trans (h.cell (4*k+1) (by omega))
   have c2:wr.cell? ⟨b,off+(4*k+2),none⟩=some (.int .u8 (B (4*k+2))):=(hR.below.cell (p:=⟨b,off+(4*k+2),none⟩) hb).trans (h.cell (4*k+2) (by omega))
   have c3:wr.cell? ⟨b,off+(4*k+3),none⟩=some (.int .u8 (B (4*k+3))):=(hR.below.cell (p:=⟨b,off+(4*k+3),none⟩) hb).trans (h.cell (4*k+3) (by omega))
   have fz:=hR.row.frozen k
   have cc:=hR.row.cell (i:=k) (by omega)
   simp only[Nat.lt_irrefl,if_false]at cc
   have HR:Hid (Two64 w wr (fun i=>if i<k then sched B i else 0)):=hR
   clear hR
   go_wp2
   go_region
   go_wp2
   rw [be_spelt hB k]
   clear cc fz c0 c1 c2 c3
   go_roundg (16-(k+1))
   case measure=>omega
   case rel=>
    refine⟨k+1,by omega,rfl,by go_num,((HR.out.set k (be B k)).drew).congr (fun i _=>?_)⟩
    by_cases e:i=k
    ·subst e
     rw [if_pos rfl,if_pos (by omega),sched_low B hkn]
    ·rw [if_neg e]
     by_cases e2:i<k
     ·rw [if_pos e2,if_pos (by omega)]
     ·rw [if_neg e2,if_neg (by omega)]
  ·have:k=16:=by omega
   subst this
   go_wp2
   have HR:Hid (Two64 w wr (fun i=>if i<16 then sched B i else 0)):=hR
   clear hR
   go_loopg [5] 48 (fun g i wr=> ∃k:Nat,16≤k∧k≤64∧g=64-k∧i= .int .i64 k∧Two64 w wr (fun i=>if i<k then sched B i else 0))
   case atStart=>exact⟨16,by omega,by omega,rfl,rfl,HR⟩
   case round=>
    clear HR
    obtain⟨k,hk0,hk,rfl,rfl,hR⟩:=hrel
    by_cases hkn:k<64
    ·have c2:=hR.row.cell (i:=k-2) (by omega)
     have c7:=hR.row.cell (i:=k-7) (by omega)
     have c15:=hR.row.cell (i:=k-15) (by omega)
     have c16:=hR.row.cell (i:=k-16) (by omega)
     rw [if_pos (by omega)]at c2 c7 c15 c16
     have l2:=sched_lt hB (k-2)
     have l7:=sched_lt hB (k-7)
     have l15:=sched_lt hB (k-15)
     have l16:=sched_lt hB (k-16)
     have E:=sched_high B hk0
     obtain⟨x2,h2⟩:∃x,x=sched B (k-2):=⟨_,rfl⟩
     obtain⟨x7,h7⟩:∃x,x=sched B (k-7):=⟨_,rfl⟩
     obtain⟨x15,h15⟩:∃x,x=sched B (k-15):=⟨_,rfl⟩
     obtain⟨x16,h16⟩:∃x,x=sched B (k-16):=⟨_,rfl⟩
     rw [←h2]at c2 l2
     rw [←h7]at c7 l7
     rw [←h15]at c15 l15
     rw [←h16]at c16 l16
     rw [←h2,←h7,←h15,←h16]at E
     have H7:Hid (x7=sched B (k-7)∧x16=sched B (k-16)):=⟨h7,h16⟩
     clear h2 h7 h15 h16
     have HE:Hid (sched B k=wnew x2 x7 x15 x16):=E
     clear E
     have fz:=hR.row.frozen k
     have cc:=hR.row.cell (i:=k) (by omega)
     simp only[Nat.lt_irrefl,if_false]at cc
     have HR:Hid (Two64 w wr (fun i=>if i<k then sched B i else 0)):=hR
     clear hR
     go_wp2_with fail
     refine(turned_any _ x15 7 l15 (by omega) (by omega)).mono ?_
     rintro _ wq ⟨rfl,hq⟩
     replace HR:=two64_drew HR hq
     clear hq
     go_wp2_with fail
     refine(turned_any _ x15 18 l15 (by omega) (by omega)).mono ?_
     rintro _ wq2 ⟨rfl,hq⟩
     replace HR:=two64_drew HR hq
     clear hq
     go_wp2_with fail
     refine(turned_any _ x2 17 l2 (by omega) (by omega)).mono ?_
     rintro _ wq3 ⟨rfl,hq⟩
     replace HR:=two64_drew HR hq
     clear hq
     go_wp2_with fail
     refine(turned_any _ x2 19 l2 (by omega) (by omega)).mono ?_
     rintro _ wp ⟨rfl,hq⟩
     replace HR:=two64_drew HR hq
     clear hq
     go_wp2_with fail
     have c7':wp.cell? ⟨w.heap.size+1,k-7,none⟩=some (.int .u32 x7):=by
      have e:=HR.out.row.cell (i:=k-7) (by omega)
      rw [if_pos (by omega),←H7.out.1]at e
      exact e
     have c16':wp.cell? ⟨w.heap.size+1,k-16,none⟩=some (.int .u32 x16):=by
      have e:=HR.out.row.cell (i:=k-16) (by omega)
      rw [if_pos (by omega),←H7.out.2]at e
      exact e
     clear c2 c7 c15 c16 fz cc
     have fz:=HR.out.row.frozen k
     have cc:=HR.out.row.cell (i:=k) (by omega)
     simp only[Nat.lt_irrefl,if_false]at cc
     rw [s0_spelt l15,s1_spelt l2]
     have m0:=s0_lt l15
     have m1:=s1_lt l2
     obtain⟨y0,hy0⟩:∃y,y=s0 x15:=⟨_,rfl⟩
     obtain⟨y1,hy1⟩:∃y,y=s1 x2:=⟨_,rfl⟩
     rw [←hy0]at m0 ⊢
     rw [←hy1]at m1 ⊢
     have Hy:Hid (y0=s0 x15∧y1=s1 x2):=⟨hy0,hy1⟩
     clear hy0 hy1
     go_wp2
     go_region
     go_wp2
     have V:((y1:Int)+(x7:Int)+(y0:Int)+(x16:Int))%4294967296=((sched B k:Nat):Int):=by
      rw [HE.out,Hy.out.1,Hy.out.2]
      simp only[wnew,M]
      omega
     rw [V]
     clear cc fz c7' c16'
     go_roundg (64-(k+1))
     case measure=>omega
     case rel=>
      refine⟨k+1,by omega,by omega,rfl,by go_num,((HR.out.set k (sched B k)).drew).congr (fun i _=>?_)⟩
      by_cases e:i=k
      ·subst e
       rw [if_pos rfl,if_pos (by omega)]
      ·rw [if_neg e]
       by_cases e2:i<k
       ·rw [if_pos e2,if_pos (by omega)]
       ·rw [if_neg e2,if_neg (by omega)]
    ·have:k=64:=by omega
     subst this
     obtain⟨cs,hg,hsz,hcs⟩:=hR.row
     obtain⟨os,og,osz,_⟩:=hR.out
     have hi:(Tryz.prog.info? 135).map (·.size)=some cs.size:=by rw [hsz];exact info62
     have h1:cs.all (·.oneCell')=true:=all_one (fun i hi=>⟨_,_,hcs i (by omega)⟩)
     have HR:Hid (Two64 w wr (fun i=>if i<64 then sched B i else 0)):=hR
     clear hR
     go_wp2_with (first
      |refine wpList_load_row rfl 135 (.tmp 3) rfl (w.heap.size+1) rfl 135 cs (0,0) _ hg Tryz.underlying135 rfl hi ?_
      |refine wpList_store_row rfl 135 (.tmp 2) (.tmp 92) rfl w.heap.size cs rfl rfl 135 os og hi (by omega) h1 ?_)
     refine bodyPost_ret (v:=.agg cs) ?_ rfl ?_
     ·exact results_cell_row rfl _ _ w.heap.size 135 cs (0,0) _ rfl (setRow_heap _ _ _ _ _ _ og) Tryz.underlying135 rfl hi
     refine⟨⟨cs,rfl,hsz,fun i hi=>by rw [hcs i hi,if_pos hi]⟩,below_setRow HR.out.below (Nat.le_refl _) _⟩
end Go.Proofs.YtnbdpcpgckfeeaaGreatDoor.Dg
