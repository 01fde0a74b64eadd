import Derived.Test.YtemcneddbhgadaaGreatDoorZvzz
import Derived.Test.YtemcneddbhgadaaGreatDoorXCzz
import Derived.Test.YtemcneddbhgadaaGreatDoorFlqzz
import Derived.Test.YtemcneddbhgadaaGreatDoorFizz
import Derived.Test.YtemcneddbhgadaaGreatDoorX9zz
import Derived.Test.YtemcneddbhgadaaGreatDoorFrzz
import Derived.Test.YtemcneddbhgadaaGreatDoorXFzz
import Derived.Test.YtemcneddbhgadaaGreatDoorONbzz
namespace Go.Proofs.YtemcneddbhgadaaGreatDoor
open Go.RowKit Go.Maps
theorem qlv (a:Option Addr) (c:Nat):behind a c 0=a:=by
 unfold behind
 split
 ·rfl
 ·cases a with
  | none=>rfl
  | some x=>simp [Addr.add]
theorem qrn (a:Option Addr) (n c:Nat) (w:World):(Instr.sliceAt 33 (.slice a n c) (some (.int .i64 0)) none none).run Tryz.prog w=.ok (.slice a n c) w:=by
 have:=qgi a n c 0 (Nat.zero_le _) w
 rw [qlv] at this
 exact this
theorem qee (w:World) (B:Nat) (hB:B≤w.heap.size):(w.alloc (.cells #[] 5)).ownsRow B 5 1 (.slice (some ⟨w.heap.size,0,none⟩) 0 0) 0 [] :=
 World.ownsRow_made w #[] 0 hB (by decide) rfl
structure Tr (w:World) (tb bits:Nat) (bl:Value) (l e b:Int):Prop where
 blk:w.heap[tb]?=some (.cells #[.int .i64 (bits:Nat),bl,.int .i64 l,.int .i64 e,.int .i64 b] 81 (0,0))
theorem Tr.at_ {w:World} {tb bits:Nat} {bl:Value} {l e b:Int} (h:Tr w tb bits bl l e b):w.cell? ⟨tb,0,none⟩=some (.int .i64 (bits:Nat))∧w.cell? ⟨tb,1,none⟩=some bl∧w.cell? ⟨tb,2,none⟩=some (.int .i64 l):=by
 have c:∀i,w.cell? ⟨tb,i,none⟩=(#[.int .i64 (bits:Nat),bl,.int .i64 l,.int .i64 e,.int .i64 b]:Array Value)[i]?:=fun i=>cell_of_row _ _ _ _ _ _ h.blk
 exact ⟨c 0,c 1,c 2⟩
theorem Tr.turn {G:Nat→Prop} {w w':World} {tb bits:Nat} {bl:Value} {l e b:Int} (h:Tr w tb bits bl l e b) (t:Turn G w w') (hs:¬G tb):Tr w' tb bits bl l e b:=⟨t.at_new h.blk hs⟩
theorem Tr.keep {w w':World} {tb bits:Nat} {bl:Value} {l e b:Int} (h:Tr w tb bits bl l e b) (k:Below w.heap.size w w'):Tr w' tb bits bl l e b:=h.turn (G:=fun _=>False) (Turn.of_below k) (fun q=>q)
theorem Tr.lt {w:World} {tb bits:Nat} {bl:Value} {l e b:Int} (h:Tr w tb bits bl l e b):tb<w.heap.size:=(Array.getElem?_eq_some_iff.1 h.blk).1
def lfN (p v:List Nat):Nd:=⟨1,p,v,false,rz,kz⟩
theorem qw2 {p v:List Nat} (hp:∀x∈p,x<256) (hv:∀x∈v,x<256):(lfN p v).W:=⟨qcz,rz_w,fun _ hr=>(qct hr) ▸ rz_w,hp,hv⟩
set_option maxRecDepth 100000 in
set_option maxHeartbeats 3200000 in
theorem qro {w:World} {tb bits:Nat} {bl:Value} (h:Tr w tb bits bl 0 0 0) {rb ro rc:Nat} {pa va:Option Addr} {pc vc:Nat} {p v:List Nat} (c0:w.cell? ⟨rb,ro,none⟩=some (.slice pa p.length pc)) (c1:w.cell? ⟨rb,ro+1,none⟩=some (.slice va v.length vc)) (hp:Vb w (.slice pa p.length pc) p) (hv:Vb w (.slice va v.length vc) v) (hrt:rb≠tb) (hpt:∀b off,Vw w pa b off p→0<p.length→b≠tb) (hvt:∀b off,Vw w va b off v→0<v.length→b≠tb) (hpl:p.length≤1048576) :
 Calls Tryz.prog 50 #[.pointer (some ⟨tb,0,none⟩),.slice (some ⟨rb,ro,none⟩) 1 rc,.int .i64 0] w fun e w'=>∃z,e=.returned (.tuple #[.agg (nc (lfN p v) z).toArray,.int .i64 1])∧Nin w' (lfN p v) z∧Tr w' tb bits bl 1 0 0∧Turn (fun i=>i=tb) w w':=by
 have hz:=zv29
 have hW:=qw2 (qlp hp) (qlp hv)
 obtain ⟨W,eW⟩:∃W,W=w.alloc (.cells (nc nz uz).toArray 110):=⟨_,rfl⟩
 have b0:Below w.heap.size w W:=by rw [eW];exact qaa _ _
 have gz:W.heap[w.heap.size]?=some (.cells (nc nz uz).toArray 110 (0,0)):=by rw [eW];exact heap_alloc_new _ _
 have hT:=h.keep b0
 have t0:=hT.at_.2.2
 have f0:=qdp hT.blk 2
 have lr:=World.block_lt_of_cell? _ _ c0
 obtain ⟨_,pb,po,_,ep,hpv,hpc,hpn,hpl2⟩:=hp
 injection ep with ep1 ep2 ep3
 subst ep1
 subst ep3
 obtain ⟨_,vb,vo,_,ev,hvv,hvc,hvn,hvl2⟩:=hv
 injection ev with ev1 ev2 ev3
 subst ev1
 subst ev3
 have t1:Turn (fun i=>i=tb) W (W.setCell ⟨tb,2,none⟩ (.int .i64 1)):=Turn.setCell _ _ _ rfl
 have HV:Hid (Vw (W.setCell ⟨tb,2,none⟩ (.int .i64 1)) pa pb po p∧Vw (W.setCell ⟨tb,2,none⟩ (.int .i64 1)) va vb vo v):=⟨(hpv.below b0).turn t1 (fun q=>hpt _ _ hpv q),(hvv.below b0).turn t1 (fun q=>hvt _ _ hvv q)⟩
 have HVL:Hid (0<v.length→vb<w.heap.size):=fun q=>hvv.lt q
 have HC:Hid ((W.setCell ⟨tb,2,none⟩ (.int .i64 1)).cell? ⟨rb,ro,none⟩=some (.slice pa p.length pc)∧(W.setCell ⟨tb,2,none⟩ (.int .i64 1)).cell? ⟨rb,ro+1,none⟩=some (.slice va v.length vc)∧(W.setCell ⟨tb,2,none⟩ (.int .i64 1)).heap[w.heap.size]?=some (.cells (nc nz uz).toArray 110 (0,0))∧rb<w.heap.size):=⟨(t1.cell (Nat.lt_of_lt_of_le lr b0.size) hrt).trans ((b0.cell lr).trans c0),(t1.cell (q:=⟨rb,ro+1,none⟩) (Nat.lt_of_lt_of_le lr b0.size) hrt).trans ((b0.cell (p:=⟨rb,ro+1,none⟩) lr).trans c1),t1.at_new gz (by have:=h.lt;omega),lr⟩
 have HT:Hid (Tr (W.setCell ⟨tb,2,none⟩ (.int .i64 1)) tb bits bl 1 0 0∧Turn (fun i=>i=tb) w (W.setCell ⟨tb,2,none⟩ (.int .i64 1))∧tb<w.heap.size∧(W.setCell ⟨tb,2,none⟩ (.int .i64 1)).heap.size=w.heap.size+1):=⟨⟨qe7 hT.blk 2 _⟩,(Turn.of_below b0).trans t1 (fun _ q=>Or.inl q),h.lt,by rw [eW];simp⟩
 have HL:Hid (p.length≤1048576∧p.length≤pc∧(pa=none→pc=0)∧v.length≤vc∧(va=none→vc=0)∧v.length≤140737488351232):=⟨hpl,hpc,hpn,hvc,hvn,hvl2⟩
 obtain ⟨pl,epl⟩:∃l,l=p.length:=⟨_,rfl⟩
 obtain ⟨vl,evl⟩:∃l,l=v.length:=⟨_,rfl⟩
 rw [←epl,←evl] at HC
 have HPL:Hid (pl=p.length∧vl=v.length):=⟨epl,evl⟩
 clear h hT c0 c1 hpv hvv hpc hpn hvc hvn hpl hpl2 hvl2 hpt hvt hrt lr ep2 ev2 epl evl t1 gz b0
 go_enter Tryz.func50,Tryz.ntmps50
 rw [eW] at t0 f0
 go_wp2_with (fail)
 rw [←eW]
 clear t0 f0 eW
 generalize (W.setCell ⟨tb,2,none⟩ (.int .i64 1))=u1 at HV HC HT ⊢
 refine wp_region_held_drew (S:=fun u=>u.cell? ⟨rb,ro,none⟩=some (.slice pa pl pc)∧u.cell? ⟨rb,ro+1,none⟩=some (.slice va vl vc)) (by kernel_rfl) (by exact ⟨HC.out.1,HC.out.2.1⟩) ?_
 intro hS
 change wpAnyH _ _ _ _ _ 15 _ _ _
 refine Z.tk 1 (.slice (some ⟨rb,ro,none⟩) 1 rc) (y:=Z.y_move _ rfl _ rfl) (s:=hS) (h:=?_)
 refine Z.tk 2 (.pointer (some ⟨rb,ro+0*2,none⟩)) (y:=Z.y_i_rows _ _ rfl rb ro 1 rc 0 rfl rfl (by decide)) (s:=hS) (h:=?_)
 refine Z.tk 3 (.pointer (some ⟨rb,ro+0*2,none⟩)) (y:=Z.y_f_Row0 _ rfl _ _ rfl) (s:=hS) (h:=?_)
 refine Z.tk 4 (.slice pa pl pc) (y:=Z.y_l_byt _ rfl _ _ rfl _ (fun u hs=>hs.1)) (s:=hS) (h:=?_)
 refine Z.tk 5 (.int .i64 0) (y:=Z.y_move _ rfl _ rfl) (s:=hS) (h:=?_)
 refine Z.ly ?_
 refine Z.tk 6 (.slice pa pl pc) (y:=Z.y_slc _ _ _ _ _ rfl _ (fun u hs=>qrn pa pl pc u)) (s:=hS) (h:=?_)
 refine Z.tk 8 (.slice (some ⟨rb,ro,none⟩) 1 rc) (y:=Z.y_move _ rfl _ rfl) (s:=hS) (h:=?_)
 refine Z.tk 9 (.pointer (some ⟨rb,ro+0*2,none⟩)) (y:=Z.y_i_rows _ _ rfl rb ro 1 rc 0 rfl rfl (by decide)) (s:=hS) (h:=?_)
 refine Z.tk 10 (.pointer (some ⟨rb,ro+0*2+1,none⟩)) (y:=Z.y_f_Row1 _ rfl _ _ rfl) (s:=hS) (h:=?_)
 refine Z.tk 11 (.slice va vl vc) (y:=Z.y_l_byt _ rfl _ _ rfl _ (fun u hs=>hs.2)) (s:=hS) (h:=?_)
 refine Z.ly ?_
 refine Z.r1 0 fun K hK=>?_
 refine Z.r_build0 (by rfl) (by kernel_rfl) ?_
 have hS2:(u1.drew.alloc (.cells #[] 5)).cell? ⟨rb,ro,none⟩=some (.slice pa pl pc)∧(u1.drew.alloc (.cells #[] 5)).cell? ⟨rb,ro+1,none⟩=some (.slice va vl vc):=⟨((qaa u1.drew _).cell (World.block_lt_of_cell? _ _ hS.1)).trans hS.1,((qaa u1.drew _).cell (World.block_lt_of_cell? _ _ hS.2)).trans hS.2⟩
 refine hK.out _ _ hS2 (fun hS=>?_)
 clear hK K
 refine Z.ly ?_
 refine Z.r1 7 fun K hK=>?_
 have b2:Below u1.heap.size u1 (u1.drew.alloc (.cells #[] 5)):=((Below.refl u1.heap.size u1).drew).alloc (Nat.le_refl _) _
 refine qa0 (by rfl) (.tmp 30) (.tmp 36) (by rfl) u1.heap.size (.slice (some ⟨u1.drew.heap.size,0,none⟩) 0 0) 0 [] (by rfl) (qee u1.drew _ (Nat.le_refl _)) pa pb po pl pc _ (by rfl) (by rw [HPL.out.1];exact HV.out.1.below b2) HL.out.2.2.1 (by have:=HL.out.1;have:=HPL.out.1;omega) b2.size ?_
 intro v3 w3 own3 gr3 _
 have b3:Below u1.heap.size u1 w3:=b2.trans (grown_below gr3 (qee u1.drew _ (Nat.le_refl _)) (Nat.le_refl u1.heap.size) b2.size)
 rw [List.nil_append,Nat.zero_add] at own3
 obtain ⟨qa,qc,eq⟩:=own_slice own3
 subst eq
 have hS3:w3.cell? ⟨rb,ro,none⟩=some (.slice pa pl pc)∧w3.cell? ⟨rb,ro+1,none⟩=some (.slice va vl vc):=⟨(b3.cell (World.block_lt_of_cell? _ _ HC.out.1)).trans HC.out.1,(b3.cell (World.block_lt_of_cell? _ _ HC.out.2.1)).trans HC.out.2.1⟩
 have H3:Hid (w3.ownsRow u1.heap.size 5 1 (.slice qa pl qc) pl (bv p)∧Below u1.heap.size u1 w3):=⟨by rw [←vals_bv,←HPL.out.1];exact own3,b3⟩
 clear own3 gr3 b2 b3
 refine hK.out _ _ hS3 (fun hS=>?_)
 clear hK K
 refine Z.ly ?_
 refine Z.tk 12 (.agg (nc (lfN p v) ⟨.slice qa pl qc,.slice va vl vc,.slice none 0 0,fun _=>.slice none 0 0⟩).toArray) (y:=Z.y_bd _ _ rfl _ (qd9 p v qa pl qc va vl vc)) (s:=hS) (h:=?_)
 refine Z.ly ?_
 refine Z.r1 13 fun K hK=>?_
 have g3:w3.heap[w.heap.size]?=some (.cells (nc nz uz).toArray 110 (0,0)):=(H3.out.2.block _ (Array.getElem?_eq_some_iff.1 HC.out.2.2.1).1).trans HC.out.2.2.1
 have one:(nc (lfN p v) ⟨.slice qa pl qc,.slice va vl vc,.slice none 0 0,fun _=>.slice none 0 0⟩).toArray.all (·.oneCell')=true:=qig rfl rfl rfl (fun _ _=>rfl)
 refine qje _ _ (by rfl) w.heap.size (lfN p v) nz _ uz hW nz_w one g3 (by rfl) (by rfl) ?_
 have t4:Turn (fun i=>i=w.heap.size) w3 (w3.setRow w.heap.size (nc (lfN p v) ⟨.slice qa pl qc,.slice va vl vc,.slice none 0 0,fun _=>.slice none 0 0⟩).toArray):=Turn.setRow _ _ _ rfl
 have hr4:=setRow_heap w3 w.heap.size _ (nc (lfN p v) ⟨.slice qa pl qc,.slice va vl vc,.slice none 0 0,fun _=>.slice none 0 0⟩).toArray _ _ g3
 have hS4:(w3.setRow w.heap.size (nc (lfN p v) ⟨.slice qa pl qc,.slice va vl vc,.slice none 0 0,fun _=>.slice none 0 0⟩).toArray).cell? ⟨rb,ro,none⟩=some (.slice pa pl pc)∧(w3.setRow w.heap.size (nc (lfN p v) ⟨.slice qa pl qc,.slice va vl vc,.slice none 0 0,fun _=>.slice none 0 0⟩).toArray).cell? ⟨rb,ro+1,none⟩=some (.slice va vl vc):=⟨(t4.cell (World.block_lt_of_cell? _ _ hS.1) (fun q=>by have h9:rb=w.heap.size:=q;have:=HC.out.2.2.2;omega)).trans hS.1,(t4.cell (World.block_lt_of_cell? _ _ hS.2) (fun q=>by have h9:rb=w.heap.size:=q;have:=HC.out.2.2.2;omega)).trans hS.2⟩
 have H4:Hid (Turn (fun i=>i=w.heap.size) w3 (w3.setRow w.heap.size (nc (lfN p v) ⟨.slice qa pl qc,.slice va vl vc,.slice none 0 0,fun _=>.slice none 0 0⟩).toArray)∧(w3.setRow w.heap.size (nc (lfN p v) ⟨.slice qa pl qc,.slice va vl vc,.slice none 0 0,fun _=>.slice none 0 0⟩).toArray).heap[w.heap.size]?=some (.cells (nc (lfN p v) ⟨.slice qa pl qc,.slice va vl vc,.slice none 0 0,fun _=>.slice none 0 0⟩).toArray 110 (0,0))):=⟨t4,hr4⟩
 clear t4 hr4 one g3
 refine hK.out _ _ hS4 (fun hS=>?_)
 clear hS4
 clear hK K
 try simp only [Act.put]
 refine Z.tk 14 (.int .i64 1) (y:=Z.y_assign _ rfl _ rfl) (s:=hS) (h:=?_)
 refine Z.ly ?_
 refine wpAnyH_done (by kernel_rfl) ?_ _
 clear hS HC
 generalize (w3.setRow w.heap.size (nc (lfN p v) ⟨.slice qa pl qc,.slice va vl vc,.slice none 0 0,fun _=>.slice none 0 0⟩).toArray)=u4 at H4 ⊢
 go_wp2_with fail
 refine bodyPost_ret (qch rfl _ _ w.heap.size _ _ _ hW (qah H4.out.2) rfl rfl) rfl ?_
 have s1:=HT.out.2.2.2
 have t13:Turn (fun i=>i=w.heap.size) u1 u4:=(Turn.of_below H3.out.2).trans H4.out.1 (fun _ q=>Or.inl q)
 have vp4:Vb u4 (.slice qa p.length qc) p:=by
  have o:=own_turn H3.out.1 H4.out.1 (fun g hg q=>by have:=(H3.out.1.lt g hg).1;omega)
  rw [HPL.out.1] at o
  exact qa9 o rfl (vw_ok HV.out.1).2 (by have:=HL.out.1;omega)
 have vv4:Vb u4 (.slice va v.length vc) v:=⟨va,vb,vo,vc,rfl,HV.out.2.turn t13 (fun q e=>by have:=HVL.out q;omega),HL.out.2.2.2.1,HL.out.2.2.2.2.1,HL.out.2.2.2.2.2⟩
 refine ⟨_,rfl,?_,HT.out.1.turn t13 (fun q=>by have:=HT.out.2.2.1;omega),HT.out.2.1.trans t13 (fun i q=>Or.inr (by omega))⟩
 rw [HPL.out.1,HPL.out.2]
 exact qnb vp4 vv4
theorem qzi:(Tryz.prog.info? 79).map (fun i=>(i.zero,i.size))=some (some (.agg (bv z32++[Value.slice none 0 0]).toArray),33):=by kernel_rfl
theorem zv79 (w:World):(zeroValue 79).run Tryz.prog w=.ok (.agg (bv z32++[Value.slice none 0 0]).toArray) w:=(zero_of_info qzi).1 w
def bbc (k:List Nat) (v:Value):List Value:=bv k++[v]
theorem qhr {k:List Nat} (h:k.length=32) (v:Value):(bbc k v).length=33:=by simp [bbc,bv_len,h]
theorem qrp {k:List Nat} {v:Value} (h:v.oneCell'=true):∀u∈bbc k v,u.oneCell'=true:=fun u hu=>by
 rcases List.mem_append.1 hu with q | q
 ·exact qgn k u q
 ·rw [List.mem_singleton.1 q]
  exact h
theorem qw3 {k:List Nat} (hk:k.length=32) (a:Option Addr) (n c:Nat):Tryz.prog.built 79 [(0,.agg (bv k).toArray),(1,.slice a n c)]=some (bbc k (.slice a n c)).toArray:=by
 have f0:∀parts,Tryz.prog.built 79 parts=Instr.fill (fun i=>(#[(0,32),(32,1)]:Array (Nat × Nat))[i]?) (bv z32++[Value.slice none 0 0]).toArray parts:=fun parts=>by kernel_rfl
 rw [f0,Z.fill_step (off:=0) (size:=32) rfl (by simp [Value.cells,bv_len,hk]) (by simp [bv_len,qac])]
 rw [show (Value.agg (bv k).toArray).cells=(bv k).toArray from rfl]
 have e:=Z.fold_list 0 [] (bv z32) (bv k) [Value.slice none 0 0] rfl (by rw [bv_len,bv_len,hk,qac])
 rw [List.nil_append,List.nil_append] at e
 rw [show (fun (cs:Array Value) (x:Value × Nat)=>match x with | (c,j)=>cs.setIfInBounds (0+j) c)=(fun (cs:Array Value) (p:Value × Nat)=>cs.setIfInBounds (0+p.2) p.1) from rfl,e]
 rw [Z.fill_step (off:=32) (size:=1) rfl rfl (by simp [bv_len,hk])]
 have e2:=Z.fold_list 32 (bv k) [Value.slice none 0 0] [.slice a n c] [] (by rw [bv_len,hk]) rfl
 rw [List.append_nil,List.append_nil] at e2
 exact congrArg some e2
theorem qlw {ops : Array Oper} {rest : List Oper} {op : Oper} {a : Act} {w : World} {Q : Exit → Act → World → Prop} (x y : Operand) (ho : op.op = .store 79 x y) (k : List Nat) (v : Value) (hk : k.length = 32) (h1 : v.oneCell' = true)
    (hx:a.eval x=.pointer (some ⟨w.heap.size,0,none⟩)) (hy:a.eval y=.agg (bbc k v).toArray) (h:wpList Tryz.prog ops Q rest (a.put op.dst undef) (w.alloc (.cells (bbc k v).toArray 79))) (hw:Region.wanted op (yielded ops a.tmps)=true:=by kernel_rfl) :
    wpList Tryz.prog ops Q (op::rest) a (w.alloc (.cells (bv z32++[Value.slice none 0 0]).toArray 79)):=by
  refine qbs hw (wp_store_row 79 x y ho w.heap.size (bbc k v).toArray hx hy 79 _ (heap_alloc_new _ _) (by rw [List.size_toArray,qhr hk];kernel_rfl) (by rw [List.size_toArray,List.size_toArray,qhr hk];rfl) (all_oneCell_toArray (qrp h1)) ?_)
  rw [World.setRow_alloc_new]
  exact h
theorem qlx {ops:Array Oper} {rest:List Oper} {op:Oper} {a:Act} {w:World} {Q:Exit→Act→World→Prop} (x:Operand) (ho:op.op=.load 79 x) (b o:Nat) (k:List Nat) (v:Value) (hk:k.length=32) (hb:w.rangeAt b o (bbc k v)) (hx:a.eval x=.pointer (some ⟨b,o,none⟩))
 (h:wpList Tryz.prog ops Q rest (a.put op.dst (.agg (bbc k v).toArray)) w) (hw:Region.wanted op (yielded ops a.tmps)=true:=by kernel_rfl):wpList Tryz.prog ops Q (op::rest) a w :=
 qbt hw 79 x ho b o hx _ _ hb Tryz.underlying79 rfl (by rw [qhr hk];kernel_rfl) h
theorem qly {ops:Array Oper} {rest:List Oper} {op:Oper} {a:Act} {w:World} {Q:Exit→Act→World→Prop} (x:Operand) (ho:op.op=.buildSlice 43 1 #[(0,x)]) (k:List Nat) (v:Value) (hk:k.length=32) (hx:a.eval x=.agg (bbc k v).toArray)
 (h:wpList Tryz.prog ops Q rest (a.put op.dst (.slice (some ⟨w.heap.size,0,none⟩) 1 1)) (w.alloc (.cells (bbc k v).toArray 79))) (hw:Region.wanted op (yielded ops a.tmps)=true:=by kernel_rfl):wpList Tryz.prog ops Q (op::rest) a w:=by
 refine qbs hw ?_
 have:=Z.r_one_blobs (ops:=ops) (a:=a) (w:=w) (o:=op) (K:=wpList Tryz.prog ops Q rest) (Q:=Q) (E:=True) hw x ho (.agg (bbc k v).toArray) (bbc k v) hx rfl (qhr hk v) h
 rw [if_pos hw] at this
 exact this
theorem qrq (w:World) (B:Nat):w.ownsRow B 79 33 (.slice none 0 0) 0 []:=⟨rfl,Or.inl ⟨rfl,rfl⟩⟩
set_option maxRecDepth 100000 in
set_option maxHeartbeats 3200000 in
theorem qt2 {w:World} {tb bits:Nat} (h:Tr w tb bits (.slice none 0 0) 1 0 0) (hb:bits≤256) {sa:Option Addr} {sn sc:Nat} {s:List Nat} (hs:Vb w (.slice sa sn sc) s) (hG:Dg.Gr w) :
 Calls Tryz.prog 52 #[.pointer (some ⟨tb,0,none⟩),.slice sa sn sc] w fun e w'=>∃bl,e=.returned (.tuple #[])∧Tr w' tb bits bl 1 0 0∧w'.ownsRow w.heap.size 79 33 bl 1 (bbc (Dg.kh bits s) (.slice sa sn sc))∧Turn (fun i=>i=tb) w w':=by
 have hz:=zv79
 obtain ⟨t0,-,-⟩:=h.at_
 have K:=qjk hs bits hb hG
 have hk:IsH (Dg.kh bits s):=qby bits s
 obtain ⟨k,ek⟩:∃k,k=Dg.kh bits s:=⟨_,rfl⟩
 rw [←ek] at K hk ⊢
 have bt:=qw3 hk.1 sa sn sc
 have HT:Hid (Tr w tb bits (.slice none 0 0) 1 0 0):=h
 have hk1:=hk.1
 clear h hs hG ek hb
 go_enter Tryz.func52,Tryz.ntmps52
 go_wp2_with (first
  | (go_at_call 37;go_loud (refine K.mono ?_;rintro _ w1 ⟨rfl,b1⟩;have HB1:Hid (Below w.heap.size w w1):=b1;clear b1 K))
  | refine wpList_bdL _ [(0,.tmp 15),(1,.tmp 16)] (by rfl) _ bt ?_
  | refine qlw _ _ (by rfl) k (.slice sa sn sc) hk1 rfl (by rfl) (by rfl) ?_)
 obtain ⟨W,eW⟩:∃W,W=w1.alloc (.cells (bbc k (.slice sa sn sc)).toArray 79):=⟨_,rfl⟩
 rw [←eW]
 have HW:Hid (Below w.heap.size w W∧W.rangeAt w1.heap.size 0 (bbc k (.slice sa sn sc))∧Tr W tb bits (.slice none 0 0) 1 0 0):=by rw [eW];exact ⟨ch HB1.out (qaa _ _),qa1 _ _ _,(HT.out.keep HB1.out).keep (qaa _ _)⟩
 clear eW
 go_loopg [5,6,7] 0 (fun g out put i wr=>g=0∧out=.slice none 0 0∧put=.bool false∧i=.int .i64 0∧wr=W)
 case atStart=>exact ⟨rfl,rfl,rfl,rfl,rfl⟩
 case round =>
  obtain ⟨rfl,rfl,rfl,rfl,rfl⟩:=hrel
  obtain ⟨-,d1,-⟩:=HW.out.2.2.at_
  go_wp2_with (first
   | refine qlx _ (by rfl) w1.heap.size 0 k (.slice sa sn sc) hk1 HW.out.2.1 (by rfl) ?_
   | refine qly _ (by rfl) k (.slice sa sn sc) hk1 (by rfl) ?_
   | (at_builtin;go_loud (refine Z.p_app_blobs w.heap.size (by rfl) (.tmp 64) (.tmp 66) (by rfl) (.slice none 0 0) 0 [] (by rfl) (qrq _ _) wr.heap.size (bbc k (.slice sa sn sc)) (by rfl) (qhr hk1 _) (qa1 wr _ _) (qrp rfl) (by decide) (Nat.le_trans HW.out.1.size (by simp)) ?_;intro g1 c1 w2 own2 gr2 at2;have b2:Below wr.heap.size wr w2:=ch (qaa wr _) (qdb gr2);have H2:Hid (w2.ownsRow w.heap.size 79 33 (.slice (some ⟨g1,0,none⟩) 1 c1) 1 (bbc k (.slice sa sn sc))∧Below wr.heap.size wr w2∧Tr w2 tb bits (.slice none 0 0) 1 0 0):=⟨own2,b2,HW.out.2.2.keep b2⟩;have e1:=H2.out.2.2.at_.2.1;have f1:=qdp H2.out.2.2.blk 1;clear own2 gr2 at2 b2)))
  first | go_end0 | go_ret
  have t5:Turn (fun i=>i=tb) w2 (w2.setCell ⟨tb,1,none⟩ (.slice (some ⟨g1,0,none⟩) 1 c1)):=Turn.setCell _ _ _ rfl
  refine ⟨_,rfl,⟨qe7 H2.out.2.2.blk 1 _⟩,own_turn H2.out.1 t5 (fun g hg q=>own_ne_cells H2.out.1 H2.out.2.2.blk (by decide) (q ▸ hg)),((Turn.of_below (ch HW.out.1 H2.out.2.1)).trans t5 (fun _ q=>Or.inl q))⟩
open Go.RowKit Go.Maps
theorem qrv (k:Int):Tryz.prog.built 81 [(0,.int .i64 k)]=some #[.int .i64 k,.slice none 0 0,.int .i64 0,.int .i64 0,.int .i64 0]:=by kernel_rfl
theorem qng (a b:Option Addr) (n c m d:Nat):Tryz.prog.built 105 [(0,.slice a n c),(1,.slice b m d)]=some #[.slice a n c,.slice b m d]:=by kernel_rfl
set_option maxRecDepth 100000 in
set_option maxHeartbeats 1600000 in
theorem qrw {w:World} (hG:Dg.Gr w) (bits:Nat) (hb:bits≤256) :
 Calls Tryz.prog 32 #[.int .i64 (bits:Nat),.slice none 0 0] w fun e w'=>∃tb,e=.returned (.tuple #[.agg (bv (Dg.kh bits s128)).toArray,.pointer (some ⟨tb,0,none⟩),.int .i64 0])∧Below w.heap.size w w':=by
 have hz:=zvH
 have bt:=qrv ((bits:Nat):Int)
 obtain ⟨W,eW⟩:∃W,W=(w.alloc (.cells (bv z32).toArray 31)).alloc (.cells #[.int .i64 (bits:Nat),.slice none 0 0,.int .i64 0,.int .i64 0,.int .i64 0] 81):=⟨_,rfl⟩
 have b0:Below w.heap.size w W:=by rw [eW];exact ch (qaa _ _) (qaa _ _)
 have gh:W.heap[w.heap.size]?=some (.cells (bv z32).toArray 31 (0,0)):=by rw [eW,heap_alloc_old _ _ (by simp)];exact heap_alloc_new _ _
 have K:=qoe (hG.below b0) bits hb
 have hk:IsH (Dg.kh bits s128):=qby bits s128
 obtain ⟨k,ek⟩:∃k,k=Dg.kh bits s128:=⟨_,rfl⟩
 rw [←ek] at K hk ⊢
 obtain ⟨zz,ez⟩:∃z,z=z32:=⟨_,rfl⟩
 have hzz:IsH zz:=by rw [ez];exact qec
 have HG:Hid (W.heap[w.heap.size]?=some (.cells (bv zz).toArray 31 (0,0))∧Below w.heap.size w W):=⟨by rw [ez];exact gh,b0⟩
 have HW:Hid (W=(w.alloc (.cells (bv zz).toArray 31)).alloc (.cells #[.int .i64 (bits:Nat),.slice none 0 0,.int .i64 0,.int .i64 0,.int .i64 0] 81)):=by show _=_;rw [ez];exact eW
 rw [←ez] at hz
 clear ez ek hG hb gh b0 eW
 go_enter Tryz.func32,Tryz.ntmps32
 go_wp2_with (first
  | (go_at_call 47;go_loud (rw [←HW.out];refine (qtv _).mono ?_;rintro _ u1 ⟨rfl,hu⟩;rw [hu];clear hu u1))
  | (go_at_call 48;go_loud (refine K.mono ?_;rintro _ w2 ⟨rfl,b2⟩;have g4:=(b2.block _ (Array.getElem?_eq_some_iff.1 HG.out.1).1).trans HG.out.1;have HZ:Hid (Below w.heap.size w w2):=ch HG.out.2 b2;clear K b2))
  | refine qdd _ _ (by rfl) w.heap.size k zz hk hzz g4 (by rfl) (by rfl) ?_)
 have hr3:=setRow_heap w2 w.heap.size _ (bv k).toArray _ _ g4
 refine bodyPost_ret (res3 rfl _ _ w.heap.size _ _ _ rfl rfl rfl (run_loadVar_mid _ w.heap.size 0 31 _ _ (qah hr3) Tryz.underlying31 rfl (qdi hk.1))) rfl ?_
 exact ⟨_,rfl,Dg.below_setRow HZ.out (Nat.le_refl _) _⟩
theorem qrx {w:World} {B e:Nat} {a:Option Addr} {c:Nat} {x y:Value} (h:w.ownsRow B e 2 (.slice a 1 c) 1 [x,y]):∃g,a=some ⟨g,0,none⟩∧B≤g∧g<w.heap.size∧(w.cell? ⟨g,0,none⟩=some x∧w.cell? ⟨g,1,none⟩=some y):=by
 rcases h.2 with ⟨e1,h0⟩ | ⟨g,cap,cur,e1,hb,hg,_⟩
 ·cases h0
 ·injection e1 with e2 _ _
  subst e2
  have c0:=h.cells (g:=g) rfl 0 x rfl
  have c1:=h.cells (g:=g) rfl 1 y rfl
  rw [qa7] at c0 c1
  exact ⟨g,rfl,hb,(Array.getElem?_eq_some_iff.1 hg).1,c0,c1⟩
theorem qry {w:World} {B b off n:Nat} {a:Option Addr} {c:Nat} {s:List Nat} {xs:List Value} (h:w.ownsRow B 5 1 (.slice a n c) n xs) (hv:Vw w a b off s) (hn:0<s.length):B≤b:=by
 have ha:=hv.at_ hn
 subst ha
 rcases h.2 with ⟨e1,_⟩ | ⟨g,cap,cur,e1,hb,_⟩
 ·injection e1 with e2
  cases e2
 ·injection e1 with e2 _ _
  injection e2 with e3
  injection e3 with e4
  omega
theorem qu7 {w:World} {v:Value} {s:List Nat} (h:Vb w v s):s.length≤140737488351232:=by
 obtain ⟨_,_,_,_,_,_,_,_,q⟩:=h
 exact q
set_option maxRecDepth 100000 in
set_option maxHeartbeats 6400000 in
theorem qrz {w:World} (hG:Dg.Gr w) (bits:Nat) (hb:bits≤256) {eb eo ec:Nat} {ka va:Option Addr} {kn kc vn vc:Nat} {key v:List Nat} (c0:w.cell? ⟨eb,eo,none⟩=some (.slice ka kn kc)) (c1:w.cell? ⟨eb,eo+1,none⟩=some (.slice va vn vc)) (hk:Vb w (.slice ka kn kc) key) (hv:Vb w (.slice va vn vc) v) (hkl:kn≤32) (hvl:vn≤256) (hm:mayN KD (lfN (lst (2*key.length) (nib key)) v)=true) :
 Calls Tryz.prog 32 #[.int .i64 (bits:Nat),.slice (some ⟨eb,eo,none⟩) 1 ec] w fun e w'=>∃tb bl sv,e=.returned (.tuple #[.agg (bv (Dg.kh bits (eN (lfN (lst (2*key.length) (nib key)) v)))).toArray,.pointer (some ⟨tb,0,none⟩),.int .i64 1])∧Tr w' tb bits bl 1 0 0∧w'.ownsRow w.heap.size 79 33 bl 1 (bbc (Dg.kh bits (eN (lfN (lst (2*key.length) (nib key)) v))) sv)∧Vb w' sv (eN (lfN (lst (2*key.length) (nib key)) v))∧w'.ownsRow w.heap.size 5 1 sv (eN (lfN (lst (2*key.length) (nib key)) v)).length (bv (eN (lfN (lst (2*key.length) (nib key)) v)))∧Below w.heap.size w w':=by
 have hz:=zvH
 have hz9:=zv29
 have bt:=qrv ((bits:Nat):Int)
 obtain ⟨W,eW⟩:∃W,W=(w.alloc (.cells (bv z32).toArray 31)).alloc (.cells #[.int .i64 (bits:Nat),.slice none 0 0,.int .i64 0,.int .i64 0,.int .i64 0] 81):=⟨_,rfl⟩
 have b0:Below w.heap.size w W:=by rw [eW];exact ch (qaa _ _) (qaa _ _)
 have gh:W.heap[w.heap.size]?=some (.cells (bv z32).toArray 31 (0,0)):=by rw [eW,heap_alloc_old _ _ (by simp)];exact heap_alloc_new _ _
 have gt:Tr W (w.heap.size+1) bits (.slice none 0 0) 0 0 0:=⟨by rw [eW];have:=heap_alloc_new (w.alloc (.cells (bv z32).toArray 31)) (.cells #[.int .i64 (bits:Nat),.slice none 0 0,.int .i64 0,.int .i64 0,.int .i64 0] 81);simpa using this⟩
 have ss:W.heap.size=w.heap.size+2:=by rw [eW];simp
 obtain ⟨zz,ez⟩:∃z,z=z32:=⟨_,rfl⟩
 have hzz:IsH zz:=by rw [ez];exact qec
 have ekn:key.length=kn:=by obtain ⟨_,_,_,_,e,_⟩:=hk;injection e with _ e2 _;exact e2.symm
 have evn:v.length=vn:=by obtain ⟨_,_,_,_,e,_⟩:=hv;injection e with _ e2 _;exact e2.symm
 obtain ⟨ns,ens⟩:∃n,n=lst (2*key.length) (nib key):=⟨_,rfl⟩
 have KN:Hid (∀u,Below w.heap.size w u→Calls Tryz.prog 49 #[.slice ka kn kc] u fun e w'=>∃x,e=.returned x∧Ans u w' x ns):=fun u k=>by rw [ens];exact qto (hk.keep k) (by omega)
 have hnl:ns.length=2*kn:=by rw [ens,lst_len,ekn]
 have HG:Hid (W.heap[w.heap.size]?=some (.cells (bv zz).toArray 31 (0,0))∧Below w.heap.size w W∧Tr W (w.heap.size+1) bits (.slice none 0 0) 0 0 0∧W.heap.size=w.heap.size+2∧Dg.Gr w∧bits≤256):=⟨by rw [ez];exact gh,b0,gt,ss,hG,hb⟩
 have HW:Hid (W=(w.alloc (.cells (bv zz).toArray 31)).alloc (.cells #[.int .i64 (bits:Nat),.slice none 0 0,.int .i64 0,.int .i64 0,.int .i64 0] 81)):=by show _=_;rw [ez];exact eW
 obtain ⟨_,vbk,vo,_,ev,hvw,_,hvn,_⟩:=id hv
 injection ev with ev1 ev2 ev3
 clear ev2
 subst ev1
 subst ev3
 have HVW:Hid (Vw w va vbk vo v∧(va=none→vc=0)):=⟨hvw,hvn⟩
 have HV:Hid (Vb w (.slice va vn vc) v∧v.length=vn∧ns.length=2*kn):=⟨hv,evn,hnl⟩
 have KS:Hid (Calls Tryz.prog 47 #[.slice (some ⟨eb,eo,none⟩) 1 ec] W fun e w'=>∃x,e=.returned x∧w'.ownsRow W.heap.size 47 2 x 1 [.slice ka kn kc,.slice va vn vc]∧Below W.heap.size W w'):=qtw ((b0.cell (World.block_lt_of_cell? _ _ c0)).trans c0) ((b0.cell (World.block_lt_of_cell? _ _ c1)).trans c1)
 rw [←ez] at hz
 rw [←ens] at hm ⊢
 have hnb:∀x∈ns,x<256:=by rw [ens];intro x hx;unfold lst at hx;obtain ⟨i,-,rfl⟩:=List.mem_map.1 hx;have:=qgl (qlp hk) i;omega
 have hvb:∀x∈v,x<256:=qlp hv
 have HNB:Hid ((∀x∈ns,x<256)∧(∀x∈v,x<256)∧mayN KD (lfN ns v)=true):=⟨hnb,hvb,hm⟩
 clear hnb hvb hm
 obtain ⟨k,ek⟩:∃k,k=Dg.kh bits (eN (lfN ns v)):=⟨_,rfl⟩
 have hkH:IsH k:=by rw [ek];exact qby _ _
 have HKK:Hid (k=Dg.kh bits (eN (lfN ns v))):=ek
 rw [←ek]
 clear ek
 clear hvw hvn ez hG hb gh b0 eW gt ss hk hv c0 c1 ekn evn ens hnl
 go_enter Tryz.func32,Tryz.ntmps32
 go_wp2_with (go_at_call 47;change Hid (Calls _ _ _ _ _))
 unfold Hid
 rw [←HW.out]
 refine KS.out.mono ?_
 rintro _ u1 ⟨lv,rfl,ow1,b1⟩
 obtain ⟨la,lc,el⟩:=own_slice ow1
 subst el
 obtain ⟨lb,hla,l1,l2,hrng⟩:∃lb,la=some ⟨lb,0,none⟩∧W.heap.size≤lb∧lb<u1.heap.size∧(u1.cell? ⟨lb,0,none⟩=some (.slice ka kn kc)∧u1.cell? ⟨lb,1,none⟩=some (.slice va vn vc)):=qrx ow1
 subst hla
 have H1:Hid (u1.cell? ⟨lb,0,none⟩=some (.slice ka kn kc)∧u1.cell? ⟨lb,1,none⟩=some (.slice va vn vc)∧Below W.heap.size W u1∧Below w.heap.size w u1):=⟨hrng.1,hrng.2,b1,ch HG.out.2.1 b1⟩
 clear ow1 b1 l1 l2 hrng KS HW
 go_wp2_with fail
 go_loopg [9,10] 1 (fun g rv i wr=>(g=1∧rv=.slice none 0 0∧i=.int .i64 0∧wr=u1)∨(g=0∧i=.int .i64 1∧∃na nc6 qa qc,wr.ownsRow u1.heap.size 105 2 rv 1 [.slice na ns.length nc6,.slice qa vn qc]∧wr.ownsRow u1.heap.size 5 1 (.slice na ns.length nc6) ns.length (bv ns)∧wr.ownsRow u1.heap.size 5 1 (.slice qa vn qc) vn (bv v)∧Below u1.heap.size u1 wr))
 case atStart=>exact Or.inl ⟨rfl,rfl,rfl,rfl⟩
 case round =>
  rcases hrel with ⟨rfl,rfl,rfl,hw⟩ | ⟨rfl,rfl,na,nc6,qa,qc,o1,o2,o3,bl⟩
  ·have hw2:=hw.symm
   subst hw2
   go_wp2_with fail
   refine wp_region_held_drew (S:=fun u=>u.cell? ⟨lb,0,none⟩=some (.slice ka kn kc)∧u.cell? ⟨lb,1,none⟩=some (.slice va vn vc)) (by kernel_rfl) (by exact ⟨H1.out.1,H1.out.2.1⟩) ?_
   intro hS
   change wpAnyH _ _ _ _ _ 18 _ _ _
   refine Z.tk 0 (.slice none 0 0) (y:=Z.y_move _ rfl _ rfl) (s:=hS) (h:=?_)
   refine Z.tk 1 (.slice (some ⟨lb,0,none⟩) 1 lc) (y:=Z.y_move _ rfl _ rfl) (s:=hS) (h:=?_)
   refine Z.tk 2 (.int .i64 0) (y:=Z.y_move _ rfl _ rfl) (s:=hS) (h:=?_)
   refine Z.tk 3 (.pointer (some ⟨lb,0+0*2,none⟩)) (y:=Z.y_i_entries _ _ rfl lb 0 1 lc 0 rfl rfl (by decide)) (s:=hS) (h:=?_)
   refine Z.tk 4 (.pointer (some ⟨lb,0+0*2,none⟩)) (y:=Z.y_f_Ent0 _ rfl _ _ rfl) (s:=hS) (h:=?_)
   refine Z.ly ?_
   refine Z.tk 5 (.slice ka kn kc) (y:=Z.y_l_byt _ rfl _ _ rfl _ (fun u hs=>hs.1)) (s:=hS) (h:=?_)
   refine Z.tk 8 (.slice (some ⟨lb,0,none⟩) 1 lc) (y:=Z.y_move _ rfl _ rfl) (s:=hS) (h:=?_)
   refine Z.tk 9 (.int .i64 0) (y:=Z.y_move _ rfl _ rfl) (s:=hS) (h:=?_)
   refine Z.tk 10 (.pointer (some ⟨lb,0+0*2,none⟩)) (y:=Z.y_i_entries _ _ rfl lb 0 1 lc 0 rfl rfl (by decide)) (s:=hS) (h:=?_)
   refine Z.tk 11 (.pointer (some ⟨lb,0+0*2+1,none⟩)) (y:=Z.y_f_Ent1 _ rfl _ _ rfl) (s:=hS) (h:=?_)
   refine Z.ly ?_
   refine Z.tk 12 (.slice va vn vc) (y:=Z.y_l_byt _ rfl _ _ rfl _ (fun u hs=>hs.2)) (s:=hS) (h:=?_)
   refine Z.ly ?_
   refine Z.r2 6 7 (fun K hK=>?_) fun K hK=>?_
   ·go_simp
    refine (KN.out u1.drew (H1.out.2.2.2.drew)).mono ?_
    rintro _ u6 ⟨x,rfl,ha⟩
    obtain ⟨na,nc6,ex⟩:=ha.form
    subst ex
    have hS6:u6.cell? ⟨lb,0,none⟩=some (.slice ka kn kc)∧u6.cell? ⟨lb,1,none⟩=some (.slice va vn vc):=⟨(ha.below.cell (World.block_lt_of_cell? _ _ hS.1)).trans hS.1,(ha.below.cell (World.block_lt_of_cell? _ _ hS.2)).trans hS.2⟩
    have H6:Hid (u6.ownsRow u1.heap.size 5 1 (.slice na ns.length nc6) ns.length (bv ns)∧Below u1.heap.size u1 u6):=⟨ha.own,(Below.refl u1.heap.size u1).drew.trans ha.below⟩
    clear ha
    refine hK.out _ _ hS6 (fun hS=>?_)
    clear hS6
    clear hK K
    refine Z.ly ?_
    refine Z.r1 7 fun K hK=>?_
    refine Z.r_build0 (by rfl) (by kernel_rfl) ?_
    have hS7:(u6.alloc (.cells #[] 5)).cell? ⟨lb,0,none⟩=some (.slice ka kn kc)∧(u6.alloc (.cells #[] 5)).cell? ⟨lb,1,none⟩=some (.slice va vn vc):=⟨((qaa u6 _).cell (World.block_lt_of_cell? _ _ hS.1)).trans hS.1,((qaa u6 _).cell (World.block_lt_of_cell? _ _ hS.2)).trans hS.2⟩
    have H7:Hid ((u6.alloc (.cells #[] 5)).ownsRow u1.heap.size 5 1 (.slice (some ⟨u6.heap.size,0,none⟩) 0 0) 0 []∧(u6.alloc (.cells #[] 5)).ownsRow u1.heap.size 5 1 (.slice na ns.length nc6) ns.length (bv ns)∧Below u1.heap.size u1 (u6.alloc (.cells #[] 5))∧∀g,(Value.slice na ns.length nc6).ownBlock=some g→g≠u6.heap.size):=⟨qee u6 _ H6.out.2.size,qal H6.out.1 (fun g hg=>(qaa u6 _).block g (H6.out.1.lt g hg).2),H6.out.2.alloc H6.out.2.size _,fun g hg=>by have:=(H6.out.1.lt g hg).2;omega⟩
    refine hK.out _ _ hS7 (fun hS=>?_)
    clear hS7
    clear hK K
    refine Z.ly ?_
    refine Z.r1 13 fun K hK=>?_
    have bC:Below w.heap.size w (u6.alloc (.cells #[] 5)):=ch H1.out.2.2.2 H7.out.2.2.1
    refine qa0 (by rfl) (.tmp 39) (.tmp 44) (by rfl) u1.heap.size (.slice (some ⟨u6.heap.size,0,none⟩) 0 0) 0 [] (by rfl) H7.out.1 va vbk vo vn vc _ (by rfl) (by rw [←HV.out.2.1];exact HVW.out.1.below bC) HVW.out.2 (by omega) H7.out.2.2.1.size ?_
    intro v3 w3 own3 gr3 _
    rw [List.nil_append,Nat.zero_add] at own3
    obtain ⟨qa,qc,eq⟩:=own_slice own3
    subst eq
    have b3:Below u1.heap.size u1 w3:=H7.out.2.2.1.trans (grown_below gr3 H7.out.1 (Nat.le_refl u1.heap.size) H7.out.2.2.1.size)
    have t3:Turn (fun i=>i=u6.heap.size) (u6.alloc (.cells #[] 5)) w3:=Turn.of_grown gr3 (fun k e=>(Option.some.inj e).symm)
    have hS3:w3.cell? ⟨lb,0,none⟩=some (.slice ka kn kc)∧w3.cell? ⟨lb,1,none⟩=some (.slice va vn vc):=⟨(b3.cell (World.block_lt_of_cell? _ _ H1.out.1)).trans H1.out.1,(b3.cell (World.block_lt_of_cell? _ _ H1.out.2.1)).trans H1.out.2.1⟩
    have H3:Hid (w3.ownsRow u1.heap.size 5 1 (.slice na ns.length nc6) ns.length (bv ns)∧w3.ownsRow u1.heap.size 5 1 (.slice qa vn qc) vn (bv v)∧Below u1.heap.size u1 w3):=⟨own_turn H7.out.2.1 t3 H7.out.2.2.2,by rw [←vals_bv,HV.out.2.1];exact own3,b3⟩
    clear own3 gr3 b3 t3 bC
    refine hK.out _ _ hS3 (fun hS=>?_)
    clear hK K
    refine Z.ly ?_
    refine Z.tk 14 (.agg #[.slice na ns.length nc6,.slice qa vn qc]) (y:=Z.y_bd _ _ rfl _ (qng na qa ns.length nc6 vn qc)) (s:=hS) (h:=?_)
    refine Z.ly ?_
    refine Z.r1 15 fun K hK=>?_
    refine Z.r_one_rows _ (by rfl) (.agg #[.slice na ns.length nc6,.slice qa vn qc]) [.slice na ns.length nc6,.slice qa vn qc] (by rfl) rfl rfl ?_
    have hS5:(w3.alloc (.cells [.slice na ns.length nc6,.slice qa vn qc].toArray 105)).cell? ⟨lb,0,none⟩=some (.slice ka kn kc)∧(w3.alloc (.cells [.slice na ns.length nc6,.slice qa vn qc].toArray 105)).cell? ⟨lb,1,none⟩=some (.slice va vn vc):=⟨((qaa w3 _).cell (World.block_lt_of_cell? _ _ hS.1)).trans hS.1,((qaa w3 _).cell (World.block_lt_of_cell? _ _ hS.2)).trans hS.2⟩
    refine hK.out _ _ hS5 (fun hS=>?_)
    clear hS5
    clear hK K
    refine Z.ly ?_
    refine Z.r1 16 fun K hK=>?_
    have b4:Below u1.heap.size u1 (w3.alloc (.cells [.slice na ns.length nc6,.slice qa vn qc].toArray 105)):=H3.out.2.2.alloc H3.out.2.2.size _
    refine Z.r_app_rows u1.heap.size (by kernel_rfl) _ _ (by rfl) (.slice none 0 0) 0 [] (by rfl) ⟨rfl,Or.inl ⟨rfl,rfl⟩⟩ w3.heap.size [.slice na ns.length nc6,.slice qa vn qc] (by rfl) rfl (qa1 w3 _ _) (by simp [Value.oneCell']) (by decide) b4.size ?_
    intro v5 w5 own5 gr5 _
    rw [List.nil_append,Nat.zero_add] at own5
    obtain ⟨xa,xc,ex⟩:=own_slice own5
    subst ex
    have b5:Below (w3.alloc (.cells [.slice na ns.length nc6,.slice qa vn qc].toArray 105)).heap.size (w3.alloc (.cells [.slice na ns.length nc6,.slice qa vn qc].toArray 105)) w5:=qdb gr5
    have b35:=ch (qaa w3 (.cells [.slice na ns.length nc6,.slice qa vn qc].toArray 105)) b5
    have hS6:w5.cell? ⟨lb,0,none⟩=some (.slice ka kn kc)∧w5.cell? ⟨lb,1,none⟩=some (.slice va vn vc):=⟨(b5.cell (World.block_lt_of_cell? _ _ hS.1)).trans hS.1,(b5.cell (World.block_lt_of_cell? _ _ hS.2)).trans hS.2⟩
    have H5:Hid (w5.ownsRow u1.heap.size 105 2 (.slice xa 1 xc) 1 [.slice na ns.length nc6,.slice qa vn qc]∧w5.ownsRow u1.heap.size 5 1 (.slice na ns.length nc6) ns.length (bv ns)∧w5.ownsRow u1.heap.size 5 1 (.slice qa vn qc) vn (bv v)∧Below u1.heap.size u1 w5):=⟨own5,qal H3.out.1 (fun g hg=>b35.block g (H3.out.1.lt g hg).2),qal H3.out.2.1 (fun g hg=>b35.block g (H3.out.2.1.lt g hg).2),ch H3.out.2.2 b35⟩
    clear own5 gr5 b5 b35 b4
    refine hK.out _ _ hS6 (fun hS=>?_)
    clear hS6
    clear hK K
    refine Z.ly ?_
    refine Z.tk 17 (.slice xa 1 xc) (y:=Z.y_assign _ rfl _ rfl) (s:=hS) (h:=?_)
    refine Z.ly ?_
    refine wpAnyH_done (by kernel_rfl) ?_ _
    clear hS
    go_wp2_with fail
    go_roundg 0
    case measure=>decide
    case rel=>exact Or.inr ⟨rfl,by go_num,na,nc6,qa,qc,H5.out.1,H5.out.2.1,H5.out.2.2.1,H5.out.2.2.2⟩
   ·refine Z.r_build0 (by rfl) (by kernel_rfl) ?_
    have hS7:(u1.drew.alloc (.cells #[] 5)).cell? ⟨lb,0,none⟩=some (.slice ka kn kc)∧(u1.drew.alloc (.cells #[] 5)).cell? ⟨lb,1,none⟩=some (.slice va vn vc):=⟨((qaa u1.drew _).cell (World.block_lt_of_cell? _ _ hS.1)).trans hS.1,((qaa u1.drew _).cell (World.block_lt_of_cell? _ _ hS.2)).trans hS.2⟩
    refine hK.out _ _ hS7 (fun hS=>?_)
    clear hS7
    clear hK K
    refine Z.ly ?_
    refine Z.r1 6 fun K hK=>?_
    go_simp
    refine (KN.out (u1.drew.alloc (.cells #[] 5)) (ch (H1.out.2.2.2.drew) (qaa _ _))).mono ?_
    rintro _ u6 ⟨x,rfl,ha⟩
    obtain ⟨na,nc6,ex⟩:=ha.form
    subst ex
    have hS6:u6.cell? ⟨lb,0,none⟩=some (.slice ka kn kc)∧u6.cell? ⟨lb,1,none⟩=some (.slice va vn vc):=⟨(ha.below.cell (World.block_lt_of_cell? _ _ hS.1)).trans hS.1,(ha.below.cell (World.block_lt_of_cell? _ _ hS.2)).trans hS.2⟩
    have H7:Hid (u6.ownsRow u1.heap.size 5 1 (.slice (some ⟨u1.drew.heap.size,0,none⟩) 0 0) 0 []∧u6.ownsRow u1.heap.size 5 1 (.slice na ns.length nc6) ns.length (bv ns)∧Below u1.heap.size u1 u6∧∀g,(Value.slice na ns.length nc6).ownBlock=some g→g≠u1.drew.heap.size):=⟨qal (qee u1.drew u1.heap.size (Nat.le_refl _)) (fun g hg=>ha.below.block g ((qee u1.drew u1.heap.size (Nat.le_refl _)).lt g hg).2),qai ha.own (fun g hg=>by have:=(ha.own.lt g hg).1;rw [World.size_alloc] at this;have e:u1.drew.heap.size=u1.heap.size:=rfl;omega),(((Below.refl u1.heap.size u1).drew).alloc (Nat.le_refl _) _).trans (ha.below.mono (by rw [World.size_alloc];exact Nat.le_succ _)),fun g hg=>by have:=(ha.own.lt g hg).1;rw [World.size_alloc] at this;omega⟩
    clear ha
    refine hK.out _ _ hS6 (fun hS=>?_)
    clear hS6
    clear hK K
    refine Z.ly ?_
    refine Z.r1 13 fun K hK=>?_
    have bC:Below w.heap.size w u6:=ch H1.out.2.2.2 H7.out.2.2.1
    refine qa0 (by rfl) (.tmp 39) (.tmp 44) (by rfl) u1.heap.size (.slice (some ⟨u1.drew.heap.size,0,none⟩) 0 0) 0 [] (by rfl) H7.out.1 va vbk vo vn vc _ (by rfl) (by rw [←HV.out.2.1];exact HVW.out.1.below bC) HVW.out.2 (by omega) H7.out.2.2.1.size ?_
    intro v3 w3 own3 gr3 _
    rw [List.nil_append,Nat.zero_add] at own3
    obtain ⟨qa,qc,eq⟩:=own_slice own3
    subst eq
    have b3:Below u1.heap.size u1 w3:=H7.out.2.2.1.trans (grown_below gr3 H7.out.1 (Nat.le_refl u1.heap.size) H7.out.2.2.1.size)
    have t3:Turn (fun i=>i=u1.drew.heap.size) u6 w3:=Turn.of_grown gr3 (fun k e=>(Option.some.inj e).symm)
    have hS3:w3.cell? ⟨lb,0,none⟩=some (.slice ka kn kc)∧w3.cell? ⟨lb,1,none⟩=some (.slice va vn vc):=⟨(b3.cell (World.block_lt_of_cell? _ _ H1.out.1)).trans H1.out.1,(b3.cell (World.block_lt_of_cell? _ _ H1.out.2.1)).trans H1.out.2.1⟩
    have H3:Hid (w3.ownsRow u1.heap.size 5 1 (.slice na ns.length nc6) ns.length (bv ns)∧w3.ownsRow u1.heap.size 5 1 (.slice qa vn qc) vn (bv v)∧Below u1.heap.size u1 w3):=⟨own_turn H7.out.2.1 t3 H7.out.2.2.2,by rw [←vals_bv,HV.out.2.1];exact own3,b3⟩
    clear own3 gr3 b3 t3 bC
    refine hK.out _ _ hS3 (fun hS=>?_)
    clear hK K
    refine Z.ly ?_
    refine Z.tk 14 (.agg #[.slice na ns.length nc6,.slice qa vn qc]) (y:=Z.y_bd _ _ rfl _ (qng na qa ns.length nc6 vn qc)) (s:=hS) (h:=?_)
    refine Z.ly ?_
    refine Z.r1 15 fun K hK=>?_
    refine Z.r_one_rows _ (by rfl) (.agg #[.slice na ns.length nc6,.slice qa vn qc]) [.slice na ns.length nc6,.slice qa vn qc] (by rfl) rfl rfl ?_
    have hS5:(w3.alloc (.cells [.slice na ns.length nc6,.slice qa vn qc].toArray 105)).cell? ⟨lb,0,none⟩=some (.slice ka kn kc)∧(w3.alloc (.cells [.slice na ns.length nc6,.slice qa vn qc].toArray 105)).cell? ⟨lb,1,none⟩=some (.slice va vn vc):=⟨((qaa w3 _).cell (World.block_lt_of_cell? _ _ hS.1)).trans hS.1,((qaa w3 _).cell (World.block_lt_of_cell? _ _ hS.2)).trans hS.2⟩
    refine hK.out _ _ hS5 (fun hS=>?_)
    clear hS5
    clear hK K
    refine Z.ly ?_
    refine Z.r1 16 fun K hK=>?_
    have b4:Below u1.heap.size u1 (w3.alloc (.cells [.slice na ns.length nc6,.slice qa vn qc].toArray 105)):=H3.out.2.2.alloc H3.out.2.2.size _
    refine Z.r_app_rows u1.heap.size (by kernel_rfl) _ _ (by rfl) (.slice none 0 0) 0 [] (by rfl) ⟨rfl,Or.inl ⟨rfl,rfl⟩⟩ w3.heap.size [.slice na ns.length nc6,.slice qa vn qc] (by rfl) rfl (qa1 w3 _ _) (by simp [Value.oneCell']) (by decide) b4.size ?_
    intro v5 w5 own5 gr5 _
    rw [List.nil_append,Nat.zero_add] at own5
    obtain ⟨xa,xc,ex⟩:=own_slice own5
    subst ex
    have b5:Below (w3.alloc (.cells [.slice na ns.length nc6,.slice qa vn qc].toArray 105)).heap.size (w3.alloc (.cells [.slice na ns.length nc6,.slice qa vn qc].toArray 105)) w5:=qdb gr5
    have b35:=ch (qaa w3 (.cells [.slice na ns.length nc6,.slice qa vn qc].toArray 105)) b5
    have hS6:w5.cell? ⟨lb,0,none⟩=some (.slice ka kn kc)∧w5.cell? ⟨lb,1,none⟩=some (.slice va vn vc):=⟨(b5.cell (World.block_lt_of_cell? _ _ hS.1)).trans hS.1,(b5.cell (World.block_lt_of_cell? _ _ hS.2)).trans hS.2⟩
    have H5:Hid (w5.ownsRow u1.heap.size 105 2 (.slice xa 1 xc) 1 [.slice na ns.length nc6,.slice qa vn qc]∧w5.ownsRow u1.heap.size 5 1 (.slice na ns.length nc6) ns.length (bv ns)∧w5.ownsRow u1.heap.size 5 1 (.slice qa vn qc) vn (bv v)∧Below u1.heap.size u1 w5):=⟨own5,qal H3.out.1 (fun g hg=>b35.block g (H3.out.1.lt g hg).2),qal H3.out.2.1 (fun g hg=>b35.block g (H3.out.2.1.lt g hg).2),ch H3.out.2.2 b35⟩
    clear own5 gr5 b5 b35 b4
    refine hK.out _ _ hS6 (fun hS=>?_)
    clear hS6
    clear hK K
    refine Z.ly ?_
    refine Z.tk 17 (.slice xa 1 xc) (y:=Z.y_assign _ rfl _ rfl) (s:=hS) (h:=?_)
    refine Z.ly ?_
    refine wpAnyH_done (by kernel_rfl) ?_ _
    clear hS
    go_wp2_with fail
    go_roundg 0
    case measure=>decide
    case rel=>exact Or.inr ⟨rfl,by go_num,na,nc6,qa,qc,H5.out.1,H5.out.2.1,H5.out.2.2.1,H5.out.2.2.2⟩
  ·obtain ⟨ra,rc,er⟩:=own_slice o1
   subst er
   obtain ⟨rb,hra,l1,l2,d0,d1⟩:=qrx o1
   subst hra
   obtain rfl:vn=v.length:=HV.out.2.1.symm
   have s1:=H1.out.2.2.1.size
   have s0:=HG.out.2.2.2.1
   have bW:=ch H1.out.2.2.1 bl
   have vn2:Vb wr (.slice na ns.length nc6) ns:=qa9 o2 rfl HNB.out.1 (by have:=HV.out.2.2;omega)
   have vv2:Vb wr (.slice qa v.length qc) v:=qa9 o3 rfl HNB.out.2.1 (by omega)
   have KT:=qro (HG.out.2.2.1.keep bW) (rc:=rc) d0 d1 vn2 vv2 (by omega) (fun b off hv q=>by have:=qry o2 hv q;omega) (fun b off hv q=>by have:=qry o3 hv q;omega) (by have:=HV.out.2.2;omega)
   have HB:Hid (Below w.heap.size w wr):=ch HG.out.2.1 bW
   have HWR:Hid (wr.heap[w.heap.size]?=some (.cells (bv zz).toArray 31 (0,0))):=(bW.block _ (Array.getElem?_eq_some_iff.1 HG.out.1).1).trans HG.out.1
   have hnW:(lfN ns v).W:=qw2 HNB.out.1 HNB.out.2.1
   clear o1 o2 o3 d0 d1 vn2 vv2 l1 l2 s1 s0 bW bl
   go_wp2_with (first
    | (go_at_call 50;go_loud (refine KT.mono ?_;rintro _ u2 ⟨z,rfl,hn2,ht2,t2⟩;have one:=hn2.one;have nb2:=qba hnW u2 z;have B2:Below w.heap.size w u2:=HB.out.trans (t2.below (fun i q=>by omega) HB.out.size);have H2:Hid (Tr (u2.alloc (.cells (nc (lfN ns v) z).toArray 110)) (w.heap.size+1) bits (.slice none 0 0) 1 0 0∧Below w.heap.size w (u2.alloc (.cells (nc (lfN ns v) z).toArray 110))∧(u2.alloc (.cells (nc (lfN ns v) z).toArray 110)).heap[w.heap.size]?=some (.cells (bv zz).toArray 31 (0,0))):=⟨ht2.keep (qaa _ _),ch B2 (qaa _ _),(heap_alloc_old _ _ (Nat.lt_of_lt_of_le (Array.getElem?_eq_some_iff.1 HWR.out).1 t2.size)).trans (t2.at_new HWR.out (by omega))⟩;have KE:=qkv (hn2.keep (qaa u2 (.cells (nc (lfN ns v) z).toArray 110))) HNB.out.2.2 rfl;clear hn2 ht2 t2 B2 KT HWR HB))
    | refine qam (by kernel_rfl) _ _ (by rfl) (lfN ns v) nz z uz hnW nz_w one (by rfl) (by rfl) ?_
    | refine qad _ (by rfl) _ _ _ hnW nb2 (by rfl) ?_
    | (go_at_call 51;go_loud (refine KE.mono ?_;rintro _ u3 ⟨sv,rfl,ow3,vb3,b3⟩;obtain ⟨ya,yc,ey⟩:=own_slice ow3;obtain ⟨YL,eYL⟩:∃l,l=(eN (lfN ns v)).length:=⟨_,rfl⟩;rw [←eYL] at ey;subst ey;have B3:=ch H2.out.2.1 b3;have hb3:∀g,(Value.slice ya YL yc).ownBlock=some g→w.heap.size+2≤g:=(fun g hg=>by have:=(ow3.lt g hg).1;have:=Tr.lt H2.out.1;omega);have KK:=qt2 (H2.out.1.keep b3) HG.out.2.2.2.2.2 vb3 (HG.out.2.2.2.2.1.below B3);have H3:Hid (u3.ownsRow 0 5 1 (.slice ya YL yc) (eN (lfN ns v)).length (bv (eN (lfN ns v)))∧Vb u3 (.slice ya YL yc) (eN (lfN ns v))∧Below w.heap.size w u3∧(∀g,(Value.slice ya YL yc).ownBlock=some g→w.heap.size+2≤g)∧u3.heap[w.heap.size]?=some (.cells (bv zz).toArray 31 (0,0))∧Tr u3 (w.heap.size+1) bits (.slice none 0 0) 1 0 0):=⟨own_base ow3,vb3,B3,hb3,(b3.block _ (Array.getElem?_eq_some_iff.1 H2.out.2.2).1).trans H2.out.2.2,H2.out.1.keep b3⟩;have HYL:Hid (YL=(eN (lfN ns v)).length):=eYL;clear KE ow3 vb3 b3 B3 hb3 eYL))
    | (go_at_call 52;go_loud (refine KK.mono ?_;rintro _ u4 ⟨bl,rfl,tr4,ow4,t4⟩;rw [←HKK.out] at ow4;have B4:Below w.heap.size w u4:=H3.out.2.2.1.trans (t4.below (fun i q=>by omega) H3.out.2.2.1.size);have o4:=own_turn H3.out.1 t4 (fun g hg q=>by have:=H3.out.2.2.2.1 g hg;omega);have vb4:Vb u4 (.slice ya YL yc) (eN (lfN ns v)):=qcb o4 (qlp H3.out.2.1) (qu7 H3.out.2.1);have KH:=qjk vb4 bits HG.out.2.2.2.2.2 (HG.out.2.2.2.2.1.below B4);rw [←HKK.out] at KH;have H4:Hid (Tr u4 (w.heap.size+1) bits bl 1 0 0∧u4.ownsRow u3.heap.size 79 33 bl 1 (bbc k (.slice ya YL yc))∧u4.ownsRow 0 5 1 (.slice ya YL yc) (eN (lfN ns v)).length (bv (eN (lfN ns v)))∧Below w.heap.size w u4∧u4.heap[w.heap.size]?=some (.cells (bv zz).toArray 31 (0,0))):=⟨tr4,ow4,o4,B4,t4.at_new H3.out.2.2.2.2.1 (by omega)⟩;clear KK tr4 ow4 t4 B4 o4 vb4))
    | (go_at_call 37;go_loud (refine KH.mono ?_;rintro _ u5 ⟨rfl,b5⟩;have g5:=(b5.block _ (Array.getElem?_eq_some_iff.1 H4.out.2.2.2.2).1).trans H4.out.2.2.2.2;have H5:Hid (Below u4.heap.size u4 u5):=b5;clear b5 KH))
    | refine qdd _ _ (by rfl) w.heap.size k zz hkH hzz g5 (by rfl) (by rfl) ?_)
   have hr3:=setRow_heap u5 w.heap.size _ (bv k).toArray _ _ g5
   refine bodyPost_ret (res3 rfl _ _ w.heap.size _ _ _ rfl rfl rfl (run_loadVar_mid _ w.heap.size 0 31 _ _ (qah hr3) Tryz.underlying31 rfl (qdi hkH.1))) rfl ?_
   have t6:Turn (fun i=>i=w.heap.size) u5 (u5.setRow w.heap.size (bv k).toArray):=Turn.setRow _ _ _ rfl
   have t46:Turn (fun i=>i=w.heap.size) u4 (u5.setRow w.heap.size (bv k).toArray):=(Turn.of_below H5.out).trans t6 (fun _ q=>Or.inl q)
   have s3:=H3.out.2.2.1.size
   have o6:=own_turn H4.out.2.2.1 t46 (fun g hg q=>by have:=H3.out.2.2.2.1 g hg;omega)
   have l3:=Tr.lt H3.out.2.2.2.2.2
   have bl6:=own_turn H4.out.2.1 t46 (fun g hg q=>by have:=(H4.out.2.1.lt g hg).1;omega)
   exact ⟨_,_,_,rfl,H4.out.1.turn t46 (by omega),qai bl6 (fun g hg=>by have:=(bl6.lt g hg).1;omega),qcb o6 (qlp H3.out.2.1) (qu7 H3.out.2.1),qai o6 (fun g hg=>by have:=H3.out.2.2.2.1 g hg;omega),H4.out.2.2.2.1.trans (t46.below (fun i q=>by omega) H4.out.2.2.2.1.size)⟩
end Go.Proofs.YtemcneddbhgadaaGreatDoor
