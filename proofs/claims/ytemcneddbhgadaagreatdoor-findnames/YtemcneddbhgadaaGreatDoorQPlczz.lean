import Derived.Test.YtemcneddbhgadaaGreatDoorQInszz
import Derived.Test.YtemcneddbhgadaaGreatDoorQLibCzz
import Derived.Test.YtemcneddbhgadaaGreatDoorQRCutzz
import Derived.Test.YtemcneddbhgadaaGreatDoorQSlzz
import Derived.Lib.QuietBelow
namespace Go.Proofs.YtemcneddbhgadaaGreatDoor.Dg
open Go.RowKit Go.Sort Go.Maps
theorem qmr:Tryz.prog.underlying 91=some (.map 31 27):=by kernel_rfl
theorem qyc (w:World):(zeroValue 27).run Tryz.prog w=.ok nilS w:=by kernel_rfl
theorem look {w:World} {bm:Nat} {F:Nat→Prop} {κ:List Nat→List Nat} {L:List (List Nat)} {D:DataW Value} {V:List Nat→Value} {n:Nat} (h:qdu w bm F κ L D V n) {k:List Nat} (hk:IsH k) :
 (Instr.lookup 91 (.map (some bm)) (.agg (hA k)) false).run Tryz.prog w=.ok (V k) w:=by
 obtain ⟨v,ps,hr,hv⟩:=h.map.lookup keyed qmr (qyc w) (zd:=.held nilS) (zp:=[]) rfl (qc6 hk)
 rw [h.val k hk] at hv
 have:v=V k:=by
  simp only [qp0,Option.some.injEq,Prod.mk.injEq,DataW.held.injEq] at hv
  exact hv.1
 rw [hr,this]
theorem qdu.below {w w':World} {bm:Nat} {F:Nat→Prop} {κ:List Nat→List Nat} {L:List (List Nat)} {D:DataW Value} {V:List Nat→Value} {n:Nat} (h:qdu w bm F κ L D V n) (hb:Below w.heap.size w w'):qdu w' bm F κ L D V n :=
 h.turn (Turn.of_below hb (F:=fun _=>False)) (fun _ _ _ q=>q)
theorem own_base {w:World} {B e size n:Nat} {v:Value} {xs:List Value} (h:w.ownsRow B e size v n xs):w.ownsRow 0 e size v n xs:=by
 refine ⟨h.1,?_⟩
 rcases h.2 with q | ⟨g,cap,cur,h1,_,h2⟩
 ·exact Or.inl q
 ·exact Or.inr ⟨g,cap,cur,h1,Nat.zero_le _,h2⟩
theorem own_below {w w':World} {B e size n:Nat} {v:Value} {xs:List Value} (h:w.ownsRow B e size v n xs) (hb:Below w.heap.size w w'):w'.ownsRow B e size v n xs:=own_turn h (Turn.of_below hb (F:=fun _=>False)) (fun _ _ q=>q)
structure AddF (W w8:World) (bm:Nat) (F:Nat→Prop) (κ:List Nat→List Nat) (L:List (List Nat)):Prop where
 notes:qe4 w8 bm (fun i=>F i∨(W.heap.size≤i∧i<w8.heap.size)) κ L
 turn:Turn F W w8
theorem qnz {W w5 w7 : World} {bm : Nat} {F : Nat → Prop} {κ : List Nat → List Nat} {L : List (List Nat)} {D : DataW Value} {V : List Nat → Value} {n : Nat} {t : List Nat} {u v' : Value} {xs : List Value} (N : qdu W bm F κ L D V n) (hk : IsH (κ t)) (htL : t ∉ L) (hbs : Bs t) (hroom : L.length ≤ 1099511627776)
    (ho5:w5.ownsRow W.heap.size 5 1 u t.length (bv t)) (hb5:Below W.heap.size W w5) (own:W.ownsRow 0 33 1 (V (κ t)) (grp κ L (κ t)).length xs) (st:Strs W F xs (grp κ L (κ t)))
    (hI:qbe (w5.alloc (.cells #[u] 33)) w7 (V (κ t)) v' (grp κ L (κ t)).length (pos t (grp κ L (κ t))) xs u) :
    ∃w8,(Instr.mapUpdate 91 (.map (some bm)) (.agg (hA (κ t))) v').run Tryz.prog w7=.ok () w8∧AddF W w8 bm F κ (ins t L)∧w7.grownBy w8 (some bm):=by
  have b6:Below W.heap.size W (w5.alloc (.cells #[u] 33)):=hb5.alloc hb5.size _
  have t7:Turn (fun i=>(V (κ t)).ownBlock=some i) W w7:=(Turn.of_below b6).trans (Turn.of_grown hI.2.1 (F:=fun i=>(V (κ t)).ownBlock=some i) (fun k e=>e)) (fun i q=>Or.inl q)
  have m7:=qi1 N.map t7 (qen own N.map)
  have hn:n<maxLen:=by have:=N.room;unfold maxLen;omega
  obtain ⟨w8,hrun,m8,g8⟩:=m7.update keyed qmr hn (qc6 hk) (rfl:qp0 v'=some (.held v',[]))
  refine ⟨w8,hrun,⟨⟨_,_,_,N.store (F':=fun i=>F i∨(W.heap.size≤i∧i<w8.heap.size)) htL hk (fun i q=>Or.inl q) (fun i h1 h2=>Or.inr ⟨h1,h2⟩) t7 hI.1 ?_ ?_ m8 g8⟩,?_⟩,g8⟩
  · rw [quq (qpm N.ris _) (fun q=>htL (qg6.1 q).1)]
    have rowne:∀{q:Value} {s:List Nat} {B:Nat} (_:W.ownsRow B 5 1 q s.length (bv s)) (g:Nat),q.ownBlock=some g→¬((V (κ t)).ownBlock=some g):=fun hq g hg e=>by
      obtain ⟨cur,hc⟩:=own_block own e
      exact own_ne_cells hq hc (by decide) hg
    have s7:∀x∈xs,∀s,Str W F x s→Str w7 (fun i=>F i∨(W.heap.size≤i∧i<w8.heap.size)) x s:=fun x _ s hs =>
      ⟨own_turn hs.own t7 (rowne hs.own),fun g hg=>Or.inl (hs.foot g hg),hs.ok⟩
    have st7:Strs w7 (fun i=>F i∨(W.heap.size≤i∧i<w8.heap.size)) xs (grp κ L (κ t)):=st.imp s7
    refine (st7.take _).app (.cons ?_ (st7.drop _))
    have ho6:(w5.alloc (.cells #[u] 33)).ownsRow W.heap.size 5 1 u t.length (bv t):=ho5.alloc _
    have own6:(w5.alloc (.cells #[u] 33)).ownsRow 0 33 1 (V (κ t)) (grp κ L (κ t)).length xs:=own_below own b6
    have ho7:w7.ownsRow W.heap.size 5 1 u t.length (bv t):=own_turn ho6 (Turn.of_grown hI.2.1 (F:=fun i=>(V (κ t)).ownBlock=some i) (fun k e=>e)) (fun g hg e=>by
      obtain ⟨cur,hc⟩:=own_block own6 e
      exact own_ne_cells ho6 hc (by decide) hg)
    refine ⟨own_base ho7,fun g hg=>Or.inr ⟨(ho7.lt g hg).1,Nat.lt_of_lt_of_le (ho7.lt g hg).2 g8.size⟩,hbs⟩
  · rcases hI.2.2 with e | e
    · exact Or.inl e
    · exact Or.inr ⟨_,e,by rw [World.size_alloc];have:=hb5.size;omega⟩
  · exact (t7.mono (fun i q=>Or.inl (N.rfoot _ i hk q))).trans (Turn.of_grown g8 (F:=F) (fun k e=>by rw [←Option.some.inj e];exact N.foot)) (fun i q=>Or.inl q)
open Go.RowKit Go.Sort Go.Maps
structure NAt (w:World) (p o bm:Nat) (F:Nat→Prop) (κ:List Nat→List Nat) (L:List (List Nat)):Prop where
 map:w.cell? ⟨p,o,none⟩=some (.map (some bm))
 cnt:w.cell? ⟨p,o+1,none⟩=some (.int .i64 (L.length:Nat))
 fz:w.frozen? ⟨p,o+1,none⟩=false
 notes:qe4 w bm F κ L
 out:¬F p
 lim:∀i,F i→i<w.heap.size
theorem NAt.below {w w':World} {p o bm:Nat} {F:Nat→Prop} {κ:List Nat→List Nat} {L:List (List Nat)} (h:NAt w p o bm F κ L) (hb:Below w.heap.size w w'):NAt w' p o bm F κ L:=by
 have hp:p<w.heap.size:=World.block_lt_of_cell? w ⟨p,o,none⟩ h.map
 refine ⟨(hb.cell (p:=⟨p,o,none⟩) hp).trans h.map,(hb.cell (p:=⟨p,o+1,none⟩) hp).trans h.cnt,(World.frozen?_of_block (w:=w) (hb.block p hp)).trans h.fz,h.notes.turn (Turn.of_below hb (F:=fun _=>False)) (fun _ _ _ q=>q),h.out,fun i q=>Nat.lt_of_lt_of_le (h.lim i q) hb.size⟩
theorem qid {k:List Nat} (h:IsH k):(Tryz.prog.info? 31).map (·.size)=some (bv k).length:=by rw [bv_len,h.1];exact info26
theorem qbo {w:World} {g:Nat} {k:List Nat} (h:w.heap[g]?=some (.cells (hA k) 31 (0,0))):w.rangeAt g 0 (bv k):=by
 intro j v hv
 rw [Nat.zero_add,cell_of_row w g j _ 31 _ h]
 unfold hA
 rw [List.getElem?_toArray]
 exact hv
theorem qkb {P:Program} {ops:Array Oper} {C:World→Prop} {Q:Act→Prop} {a:Act} {o:Oper} {rest:List Oper} (hw:Region.wanted o (yielded ops a.tmps)=true) (t:TypeId) (m x:Operand) (ho:o.op=.lookup t m x false)
 (vm vx v:Value) (hm:a.eval m=vm) (hx:a.eval x=vx) (hr:∀w,C w→(Instr.lookup t vm vx false).run P w=.ok v w) (h:wpQuiet P ops C Q rest (a.put o.dst v)):wpQuiet P ops C Q (o::rest) a:=by
 refine wpQuiet_step fun K hK=>?_
 rw [if_pos hw]
 refine ⟨v,fun w hC=>?_,hK _ h⟩
 unfold Oper.quietAt execOp
 simp only [ho,hm,hx,Sem.run_bind,hr w hC,Sem.run_pure,Result.andThen_ok]
 exact ⟨rfl,rfl⟩
set_option maxRecDepth 100000 in
set_option maxHeartbeats 1600000 in
theorem qqc (w : World) (p o bm : Nat) (F : Nat → Prop) (κ : List Nat → List Nat) (L : List (List Nat)) (h : NAt w p o bm F κ L) (k : List Nat) (hk : IsH k) (hL : L.length ≤ 1099511627776)
    (a:Option Addr) (b off c:Nat) (t:List Nat) (ht:Vw w a b off t) :
    Calls Tryz.prog 67 #[.pointer (some ⟨p,o,none⟩),.agg (hA k),.slice a t.length c] w fun e w'=>e=.returned (.tuple #[.int .i64 (pos t (grp κ L k):Nat),.bool (decide (t∈grp κ L k))])∧Below w.heap.size w w':=by
  have bs:=qcf hk
  have b1:Below w.heap.size w (w.alloc (.cells (hA k) 31)):=(Below.refl _ _).alloc (Nat.le_refl _) _
  have h1:=h.below b1
  have hbx:(w.alloc (.cells (hA k) 31)).heap[w.heap.size]?=some (.cells (hA k) 31 (0,0)):=heap_alloc_new _ _
  have ht1:=ht.below b1
  obtain ⟨w1,hw1⟩:∃w1,w1=w.alloc (.cells (hA k) 31):=⟨_,rfl⟩
  rw [←hw1] at b1 h1 hbx ht1
  obtain ⟨D,V,n,N⟩:=h1.notes
  have hgl:(grp κ L k).length≤1099511627776:=Nat.le_trans (List.length_filter_le _ _) hL
  obtain ⟨xs,own,st⟩:=N.row k hk
  have kb:=fun (d:Nat) (os:Array Obj)=>Calls.regrown_of (w:=w1) (d:=d) (os:=os) ((qk9 (grow (redrawn w1 d) os) (V k) xs (grp κ L k) F (own_below own (below_regrown w1 d os)) (st.imp (fun u _ s hs=>hs.turn (Turn.of_below (below_regrown w1 d os) (F:=fun _=>False)) (fun _ _ _ f=>f))) (qpm N.ris k) hgl a b off c t (ht1.below (below_regrown w1 d os))).mono fun e w' ⟨he,hw'⟩=>⟨he,by rw [hw'];exact Below.refl _ _⟩)
  have hlk:∀w',(∃r:Regrown,w'=grow (redrawn w1 r.d) r.os)→(Instr.lookup 91 (.map (some bm)) (.agg (hA k)) false).run Tryz.prog w'=.ok (V k) w':=by
    rintro _ ⟨r,rfl⟩
    exact look (N.below (below_regrown w1 r.d r.os)) hk
  have hc:∀w',(∃r:Regrown,w'=grow (redrawn w1 r.d) r.os)→∀j,j<(hA k).size→w'.cell? ⟨w.heap.size,j,none⟩=(hA k)[j]?:=by
    rintro _ ⟨r,rfl⟩ j hj
    rw [cell_of_row _ _ _ _ 31 _ (((below_regrown w1 r.d r.os).block _ (by have:=(Array.getElem?_eq_some_iff.1 hbx).1;exact this)).trans hbx)]
  have s1:=fun (d:Nat) (os:Array Obj)=>cell_regrown h1.map d os
  obtain ⟨r1,hr1⟩:∃r,r=pos t (grp κ L k):=⟨_,rfl⟩
  obtain ⟨r2,hr2⟩:∃r,r=decide (t∈grp κ L k):=⟨_,rfl⟩
  rw [←hr1,←hr2] at kb ⊢
  generalize t.length=m at kb ⊢
  have HB:Hid (Below w.heap.size w w1):=b1
  have HI:Hid ((Tryz.prog.info? 31).map (·.size)=some (hA k).size):=qa2 hk
  clear hr1 hr2 own st N h1 ht ht1 b1 h hbx hgl hL
  go_enter Tryz.func67,Tryz.ntmps67
  go_wp2_with fail
  rw [←hw1]
  clear hw1
  refine wp_region_quiet_below (by kernel_rfl) (by kernel_rfl) ?_
  iterate 4 (go_big_quiet_step (fail))
  refine qnv (by rfl) 31 (.tmp 4) (by rfl) w.heap.size (by rfl) (hA k) _ hc Tryz.underlying31 rfl HI.out ?_
  refine qkb (by rfl) 91 _ _ (by rfl) (.map (some bm)) (.agg (hA k)) (V k) (by rfl) (by rfl) hlk ?_
  repeat (first
    | go_big_quiet_step (first | (go_at_call 95;exact kb _ _))
    | quiet_step (first | (go_at_call 95;exact kb _ _)))
  refine wpQuiet_nil ?_
  intro w9 hw'
  obtain ⟨⟨dq,osq⟩,hw''⟩:=hw'
  have b9:=below_regrown w1 dq osq
  have HC:Hid (Below w.heap.size w w9):=by rw [hw''];exact HB.out.trans (b9.mono HB.out.size)
  clear hw'' b9 kb hlk hc s1
  go_wp2_with fail
  go_ret2
  exact ⟨rfl,HC.out⟩
end Go.Proofs.YtemcneddbhgadaaGreatDoor.Dg
