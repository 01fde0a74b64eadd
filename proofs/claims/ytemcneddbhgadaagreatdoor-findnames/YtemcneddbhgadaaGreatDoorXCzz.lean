import Derived.Test.YtemcneddbhgadaaGreatDoorZvzz
import Derived.Test.YtemcneddbhgadaaGreatDoorX9zz
import Derived.Test.YtemcneddbhgadaaGreatDoorFupzz
import Derived.Test.YtemcneddbhgadaaGreatDoorFizz
import Derived.Test.YtemcneddbhgadaaGreatDoorFrzz
namespace Go.Proofs.YtemcneddbhgadaaGreatDoor
open Go.RowKit Go.Maps
theorem qe7 {w:World} {g:Nat} {cs:Array Value} {t:TypeId} {fz:Nat × Nat} (h:w.heap[g]?=some (.cells cs t fz)) (i:Nat) (v:Value):(w.setCell ⟨g,i,none⟩ v).heap[g]?=some (.cells (cs.setIfInBounds i v) t fz):=by
 simp [World.setCell,Array.getElem?_modify,h]
theorem qeb {w:World} {b:Nat} {cs:List Value} {t:TypeId} {fr:Nat × Nat} (h:w.heap[b]?=some (.cells cs.toArray t fr)):w.rangeAt b 0 cs:=qah h
theorem Turn.at_new {G:Nat→Prop} {u u':World} (t:Turn G u u') {b:Nat} {ob:Obj} (h:u.heap[b]?=some ob) (hG:¬G b):u'.heap[b]?=some ob:=(t.block b (Array.getElem?_eq_some_iff.1 h).1 hG).trans h
theorem qdp {w:World} {g:Nat} {cs:Array Value} {t:TypeId} (h:w.heap[g]?=some (.cells cs t (0,0))) (i:Nat):w.frozen? ⟨g,i,none⟩=false:=by
 simp [World.frozen?,h]
structure Wy (w:World) (wy:Nat) (src:Value) (bk:Nat) (fn:Value) (tk:Nat) (rv:Value):Prop where
 blk:w.heap[wy]?=some (.cells #[src,.pointer (some ⟨bk,0,none⟩),fn,.int .i64 (tk:Nat),rv] 117 (0,0))
theorem Wy.at_ {w:World} {wy:Nat} {src:Value} {bk:Nat} {fn:Value} {tk:Nat} {rv:Value} (h:Wy w wy src bk fn tk rv):w.cell? ⟨wy,0,none⟩=some src∧w.cell? ⟨wy,1,none⟩=some (.pointer (some ⟨bk,0,none⟩))∧w.cell? ⟨wy,2,none⟩=some fn∧w.cell? ⟨wy,3,none⟩=some (.int .i64 (tk:Nat))∧w.cell? ⟨wy,4,none⟩=some rv:=by
 have c:∀i,w.cell? ⟨wy,i,none⟩=(#[src,.pointer (some ⟨bk,0,none⟩),fn,.int .i64 (tk:Nat),rv]:Array Value)[i]?:=fun i=>cell_of_row _ _ _ _ _ _ h.blk
 exact ⟨c 0,c 1,c 2,c 3,c 4⟩
theorem Wy.turn {G:Nat→Prop} {w w':World} {wy:Nat} {src:Value} {bk:Nat} {fn:Value} {tk:Nat} {rv:Value} (h:Wy w wy src bk fn tk rv) (t:Turn G w w') (hs:¬G wy):Wy w' wy src bk fn tk rv:=⟨t.at_new h.blk hs⟩
theorem Wy.keep {w w':World} {wy:Nat} {src:Value} {bk:Nat} {fn:Value} {tk:Nat} {rv:Value} (h:Wy w wy src bk fn tk rv) (k:Below w.heap.size w w'):Wy w' wy src bk fn tk rv:=h.turn (G:=fun _=>False) (Turn.of_below k) (fun q=>q)
theorem Wy.lt {w:World} {wy:Nat} {src:Value} {bk:Nat} {fn:Value} {tk:Nat} {rv:Value} (h:Wy w wy src bk fn tk rv):wy<w.heap.size:=(Array.getElem?_eq_some_iff.1 h.blk).1
set_option maxRecDepth 100000 in
set_option maxHeartbeats 800000 in
theorem qtn {w:World} {wy:Nat} {src:Value} {bk:Nat} {fn:Value} {tk:Nat} {ra:Option Addr} {rn rc:Nat} (h:Wy w wy src bk fn tk (.slice ra rn rc)) (K:Nat) (hK:K≤rn) (ht:tk+K≤1048576) :
 Calls Tryz.prog 81 #[.pointer (some ⟨wy,0,none⟩),.int .i64 (K:Nat)] w fun e w'=>e=.returned (.tuple #[])∧Wy w' wy src bk fn (tk+K) (.slice (behind ra rc K) (rn - K) (rc - K))∧Turn (fun i=>i=wy) w w':=by
 obtain ⟨c0,c1,c2,c3,c4⟩:=h.at_
 have f3:=qdp h.blk 3
 have f4:=qdp h.blk 4
 have HB:Hid (Wy w wy src bk fn tk (.slice ra rn rc)):=h
 have sl:=qbf ra rn rc K hK
 have sl2:=qgi ra rn rc K hK
 obtain ⟨z,ez⟩:∃z,z=behind ra rc K:=⟨_,rfl⟩
 rw [←ez] at sl sl2 ⊢
 obtain ⟨E,eE⟩:∃E,E=tk+K:=⟨_,rfl⟩
 have e1:((tk:Nat):Int)+((K:Nat):Int)=((E:Nat):Int):=by omega
 rw [←eE] at ht ⊢
 have HE:Hid (E=tk+K):=eE
 clear h ez eE hK c0 c1 c2
 go_enter Tryz.func81,Tryz.ntmps81
 go_wp2_with fail
 first | go_end0 | go_ret
 refine ⟨rfl,⟨?_⟩,(Turn.setCell (F:=fun i=>i=wy) _ _ _ rfl).trans (Turn.setCell (F:=fun i=>i=wy) _ _ _ rfl) (fun i q=>Or.inl q)⟩
 exact qe7 (qe7 HB.out.blk 3 (.int .i64 (E:Nat))) 4 _
theorem dN_w {s:List Nat} (hs:∀x∈s,x<256):(dN s).W:=by
 unfold dN
 cases h:decN KD s with
 | none=>exact nz_w
 | some n=>exact ((qfh hs).1 h).1
def fE (s:List Nat):Nat:=if (decN KD s).isSome then 0 else 5
theorem qlp {w:World} {v:Value} {s:List Nat} (h:Vb w v s):∀x∈s,x<256:=by
 obtain ⟨a,b,off,c,rfl,hv,-⟩:=h
 exact (vw_ok hv).2
set_option maxRecDepth 100000 in
set_option maxHeartbeats 1600000 in
theorem qlq {w:World} {v:Value} {s:List Nat} (h:Vb w v s) :
 Calls Tryz.prog 79 #[v] w fun e w'=>∃u,e=.returned (.tuple #[.agg (nc (dN s) u).toArray,.int .i64 ((fE s:Nat):Int)])∧Nout w.heap.size w' (dN s) u∧Below w.heap.size w w':=by
 have hz:=zv29
 have HG:Hid ((w.alloc (.cells (nc nz uz).toArray 110)).heap[w.heap.size]?=some (.cells (nc nz uz).toArray 110 (0,0))∧Below w.heap.size w (w.alloc (.cells (nc nz uz).toArray 110))∧(w.alloc (.cells (nc nz uz).toArray 110)).heap.size=w.heap.size+1):=⟨heap_alloc_new _ _,qaa _ _,World.size_alloc _ _⟩
 have K:=qln s _ v (h.keep (qaa w (.cells (nc nz uz).toArray 110)))
 have HE:Hid (fE s=if (decN KD s).isSome then 0 else 5):=rfl
 have HD:Hid (dE s=if (decN KD s).isSome then 0 else 70):=rfl
 have HN:Hid ((decN KD s).isSome=false→dN s=nz):=fun q=>by
  unfold dN
  cases hq:decN KD s with
  | none=>rfl
  | some x=>rw [hq] at q;cases q
 obtain ⟨m,em⟩:∃m,m=dN s:=⟨_,rfl⟩
 obtain ⟨d,ed⟩:∃d,d=dE s:=⟨_,rfl⟩
 obtain ⟨f,ef⟩:∃f,f=fE s:=⟨_,rfl⟩
 unfold quv at K
 rw [←em,←ed] at K
 rw [←em] at HN
 rw [←em,←ef]
 rw [←ef] at HE
 rw [←ed] at HD
 have hW:m.W:=by rw [em];exact dN_w (qlp h)
 obtain ⟨q,eq⟩:∃q,q=(decN KD s).isSome:=⟨_,rfl⟩
 rw [←eq] at HE HD HN
 clear em ed ef eq
 obtain ⟨a,b,off,c,rfl,-,-,-⟩:=h
 cases q with
 | true =>
  obtain rfl:d=0:=HD.out
  obtain rfl:f=0:=HE.out
  clear HD HE HN
  go_enter Tryz.func79,Tryz.ntmps79
  go_wp2_with (first
   | (go_at_call 107;refine K.mono ?_;rintro _ w1 ⟨u,rfl,no,b1⟩;have one:=no.inn.one;have nb:=qba hW w1 u;have g1:=(heap_alloc_old w1 (.cells (nc m u).toArray 110) (Nat.lt_of_lt_of_le (Array.getElem?_eq_some_iff.1 HG.out.1).1 b1.size)).trans ((b1.block _ (Array.getElem?_eq_some_iff.1 HG.out.1).1).trans HG.out.1);have HX:Hid (Nout (w.heap.size+1) w1 m u∧Below w.heap.size w (w1.alloc (.cells (nc m u).toArray 110))):=⟨by rw [←HG.out.2.2];exact no,ch (ch HG.out.2.1 b1) (qaa _ _)⟩;clear no b1 K)
   | refine qam (by kernel_rfl) _ _ (by rfl) m nz u uz hW nz_w one (by rfl) (by rfl) ?_
   | refine qad _ (by rfl) _ _ _ hW nb (by rfl) ?_
   | refine qaf _ _ (by rfl) w.heap.size m nz u uz hW nz_w one g1 (by rfl) (by rfl) ?_)
  have hr3:=setRow_heap _ w.heap.size _ (nc m u).toArray _ _ g1
  refine bodyPost_ret (qch rfl _ _ w.heap.size _ _ _ hW (qah hr3) rfl rfl) rfl ?_
  refine ⟨u,rfl,HX.out.1.step (by omega) (fun g g1 g2=>?_),Dg.below_setRow HX.out.2 (Nat.le_refl _) _⟩
  rw [setRow_other _ _ _ _ (by omega),heap_alloc_old _ _ g2]
 | false =>
  obtain rfl:d=70:=HD.out
  obtain rfl:f=5:=HE.out
  obtain rfl:=HN.out rfl
  clear HD HE HN hW
  go_enter Tryz.func79,Tryz.ntmps79
  go_wp2_with (first
   | (go_at_call 107;refine K.mono ?_;rintro _ w1 ⟨u,rfl,no,b1⟩;have one:=no.inn.one;have g1:=(heap_alloc_old w1 (.cells (nc nz u).toArray 110) (Nat.lt_of_lt_of_le (Array.getElem?_eq_some_iff.1 HG.out.1).1 b1.size)).trans ((b1.block _ (Array.getElem?_eq_some_iff.1 HG.out.1).1).trans HG.out.1);have HX:Hid (Below w.heap.size w (w1.alloc (.cells (nc nz u).toArray 110))):=ch (ch HG.out.2.1 b1) (qaa _ _);clear no b1 K)
   | refine qam (by kernel_rfl) _ _ (by rfl) nz nz u uz nz_w nz_w one (by rfl) (by rfl) ?_
   | refine qb4 (by rfl) ?_
   | refine qaf _ _ (by rfl) w.heap.size nz nz uz uz nz_w nz_w (qa8 w).one g1 (by rfl) (by rfl) ?_)
  have hr3:=setRow_heap _ w.heap.size _ (nc nz uz).toArray _ _ g1
  refine bodyPost_ret (qch rfl _ _ w.heap.size _ _ _ nz_w (qah hr3) rfl rfl) rfl ?_
  exact ⟨uz,rfl,qfr _ _,Dg.below_setRow HX.out (Nat.le_refl _) _⟩
def mst (tk:Nat) (n:Nd):Bool:=decide (tk+n.path.length≤64) && !((decide (n.k=1) || n.full) && decide ((tk+n.path.length) % 2=1))
set_option maxRecDepth 100000 in
set_option maxHeartbeats 3200000 in
theorem qgt {w:World} {wy:Nat} {src:Value} {bk:Nat} {fn:Value} {tk:Nat} {rv:Value} (h:Wy w wy src bk fn tk rv) {n:Nd} {z:Nv} (hn:Nin w n z) (htk:tk≤1048576) (hl:n.path.length≤1048576) :
 Calls Tryz.prog 56 #[.pointer (some ⟨wy,0,none⟩),.agg (nc n z).toArray] w fun e w'=>e=.returned (.bool (mst tk n))∧Below w.heap.size w w':=by
 have HM:Hid (mst tk n=(decide (tk+n.path.length≤64) && !((decide (n.k=1) || n.full) && decide ((tk+n.path.length) % 2=1)))):=rfl
 obtain ⟨pa,pb,po,pc,ep,hpv,hpc,-⟩:=hn.p
 obtain ⟨W,eW⟩:∃W,W=w.alloc (.cells (nc n z).toArray 110):=⟨_,rfl⟩
 have b0:Below w.heap.size w W:=by rw [eW];exact qaa _ _
 have nb:Nb W w.heap.size n z:=by rw [eW];exact qba hn.W w z
 have HS:Hid (W.drew.cell? ⟨wy,3,none⟩=some (.int .i64 (tk:Nat))∧W.drew.cell? ⟨w.heap.size,1,none⟩=some (.slice pa n.path.length pc)):=⟨(h.keep b0).at_.2.2.2.1,by rw [←ep];exact nb.p⟩
 have n0:=nb.k
 have n3:=nb.f
 have HB:Hid (Below w.heap.size w W.drew):=b0.drew
 have on:=hn.one
 obtain ⟨L,eL⟩:∃L,L=n.path.length:=⟨_,rfl⟩
 rw [←eL] at HM HS hl
 obtain ⟨E,eE⟩:∃E,E=tk+L:=⟨_,rfl⟩
 have HE:Hid (IntKind.i64.wrap ((tk:Int)+(L:Int))=((E:Nat):Int)):=by
  show _=_
  simp [IntKind.wrap,IntKind.signed,IntKind.bits]
  omega
 rw [←eE] at HM
 have hE:E≤2097152:=by omega
 obtain ⟨m,em⟩:∃m,m=mst tk n:=⟨_,rfl⟩
 rw [←em] at HM ⊢
 obtain ⟨k,ek⟩:∃k,k=n.k:=⟨_,rfl⟩
 rw [←ek] at HM n0
 obtain ⟨f,ef⟩:∃f,f=n.full:=⟨_,rfl⟩
 rw [←ef] at HM n3
 clear h hn htk hl hpv hpc b0 nb em ek ef eE eL ep
 go_enter Tryz.func56,Tryz.ntmps56
 go_wp2_with fail
 rw [←eW]
 clear eW
 refine wp_region_held_drew (S:=fun u=>u.cell? ⟨wy,3,none⟩=some (.int .i64 (tk:Nat))∧u.cell? ⟨w.heap.size,1,none⟩=some (.slice pa L pc)) (by kernel_rfl) (by exact HS.out) ?_
 intro hS
 change wpAnyH _ _ _ _ _ 9 _ _ _
 refine Z.tk 0 (.pointer (some ⟨wy,0,none⟩)) (y:=Z.y_move _ rfl _ rfl) (s:=hS) (h:=?_)
 refine Z.tk 1 (.pointer (some ⟨wy,0,none⟩)) (y:=Z.y_nil _ rfl _ rfl) (s:=hS) (h:=?_)
 refine Z.tk 2 (.pointer (some ⟨wy,0+3,none⟩)) (y:=Z.y_f_Wy3 _ rfl _ _ rfl) (s:=hS) (h:=?_)
 refine Z.tk 3 (.int .i64 (tk:Nat)) (y:=Z.y_l_int _ rfl _ _ rfl _ (fun u hs=>by rw [Nat.zero_add];exact hs.1)) (s:=hS) (h:=?_)
 refine Z.tk 4 (.pointer (some ⟨w.heap.size,0+1,none⟩)) (y:=Z.y_f_Node1 _ rfl _ _ rfl) (s:=hS) (h:=?_)
 refine Z.ly ?_
 refine Z.tk 5 (.slice pa L pc) (y:=Z.y_l_byt _ rfl _ _ rfl _ (fun u hs=>by rw [Nat.zero_add];exact hs.2)) (s:=hS) (h:=?_)
 refine Z.tk 6 (.int .i64 ((L:Nat):Int)) (y:=Z.y_len_byt _ rfl _ _ _ rfl) (s:=hS) (h:=?_)
 refine Z.tk 7 (.int .i64 ((E:Nat):Int)) (y:=Z.y_addIr _ _ rfl _ _ _ rfl rfl HE.out) (s:=hS) (h:=?_)
 refine Z.tk 8 (.int .i64 ((E:Nat):Int)) (y:=Z.y_assign _ rfl _ rfl) (s:=hS) (h:=?_)
 refine Z.ly ?_
 refine wpAnyH_done (by kernel_rfl) ?_ _
 clear hS HS
 by_cases p:E % 2=1
 ·have pm:((E:Nat):Int).tmod 2=1:=by rw [Int.tmod_eq_emod_of_nonneg (by omega)];omega
  have HP:Hid (decide (E % 2=1)=true):=decide_eq_true p
  clear p
  by_cases q:E≤64
  ·have q1:((E:Nat):Int)≤64:=by omega
   have HQ:Hid (decide (E≤64)=true):=decide_eq_true q
   by_cases h1:k=1
   ·subst h1
    go_wp2_with fail
    go_ret
    exact ⟨by rw [HM.out,HP.out,HQ.out];rfl,HB.out⟩
   ·have HK:Hid (decide (k=1)=false):=decide_eq_false h1
    cases f with
    | true =>
     go_wp2_with fail
     go_ret
     exact ⟨by rw [HM.out,HP.out,HQ.out,HK.out];rfl,HB.out⟩
    | false =>
     go_wp2_with fail
     go_ret
     exact ⟨by rw [HM.out,HP.out,HQ.out,HK.out];rfl,HB.out⟩
  ·have q1:¬((E:Nat):Int)≤64:=by omega
   have HQ:Hid (decide (E≤64)=false):=decide_eq_false q
   by_cases h1:k=1
   ·subst h1
    go_wp2_with fail
    go_ret
    exact ⟨by rw [HM.out,HQ.out];rfl,HB.out⟩
   ·go_wp2_with fail
    go_ret
    exact ⟨by rw [HM.out,HQ.out];rfl,HB.out⟩
 ·have pm:((E:Nat):Int).tmod 2=0:=by rw [Int.tmod_eq_emod_of_nonneg (by omega)];omega
  have HP:Hid (decide (E % 2=1)=false):=decide_eq_false p
  clear p
  by_cases q:E≤64
  ·have q1:((E:Nat):Int)≤64:=by omega
   have HQ:Hid (decide (E≤64)=true):=decide_eq_true q
   by_cases h1:k=1
   ·subst h1
    go_wp2_with fail
    go_ret
    exact ⟨by rw [HM.out,HP.out,HQ.out];rfl,HB.out⟩
   ·have HK:Hid (decide (k=1)=false):=decide_eq_false h1
    cases f with
    | true =>
     go_wp2_with fail
     go_ret
     exact ⟨by rw [HM.out,HP.out,HQ.out,HK.out];rfl,HB.out⟩
    | false =>
     go_wp2_with fail
     go_ret
     exact ⟨by rw [HM.out,HP.out,HQ.out,HK.out];rfl,HB.out⟩
  ·have q1:¬((E:Nat):Int)≤64:=by omega
   have HQ:Hid (decide (E≤64)=false):=decide_eq_false q
   by_cases h1:k=1
   ·subst h1
    go_wp2_with fail
    go_ret
    exact ⟨by rw [HM.out,HQ.out];rfl,HB.out⟩
   ·go_wp2_with fail
    go_ret
    exact ⟨by rw [HM.out,HQ.out];rfl,HB.out⟩
open Go.RowKit Go.Maps
def hcs:List (List Nat)→List Value
 | []=>[]
 | k::l=>bv k++hcs l
theorem qrd (l:List (List Nat)) (k:List Nat):hcs (l++[k])=hcs l++bv k:=by
 induction l with
 | nil=>simp [hcs]
 | cons x l ih=>simp [hcs,ih]
def gS (sb:Nat) (av gv wv:Value) (i:Nat):Prop:=i=sb∨av.ownBlock=some i∨gv.ownBlock=some i∨wv.ownBlock=some i
structure So (P:Nat→Prop) (w:World) (sb:Nat) (tv av gv wv:Value) (L:List Td) (dv:Nat→Value) (A:List (List Nat)) (gs ws:List Value):Prop where
 blk:w.heap[sb]?=some (.cells #[tv,av,gv,wv] 29 (0,0))
 tl:Tls P w tv L dv
 a:w.ownsRow 0 31 32 av A.length (hcs A)
 g:w.ownsRow 0 33 1 gv gs.length gs
 v:w.ownsRow 0 33 1 wv ws.length ws
 sep:∀i,gv.ownBlock=some i→wv.ownBlock≠some i
 off:∀i,P i→¬gS sb av gv wv i
theorem So.at_ {P:Nat→Prop} {w:World} {sb:Nat} {tv av gv wv:Value} {L:List Td} {dv:Nat→Value} {A:List (List Nat)} {gs ws:List Value} (h:So P w sb tv av gv wv L dv A gs ws):w.cell? ⟨sb,0,none⟩=some tv∧w.cell? ⟨sb,1,none⟩=some av∧w.cell? ⟨sb,2,none⟩=some gv∧w.cell? ⟨sb,3,none⟩=some wv:=by
 have c:∀i,w.cell? ⟨sb,i,none⟩=(#[tv,av,gv,wv]:Array Value)[i]?:=fun i=>cell_of_row _ _ _ _ _ _ h.blk
 exact ⟨c 0,c 1,c 2,c 3⟩
theorem So.lt {P:Nat→Prop} {w:World} {sb:Nat} {tv av gv wv:Value} {L:List Td} {dv:Nat→Value} {A:List (List Nat)} {gs ws:List Value} (h:So P w sb tv av gv wv L dv A gs ws):∀i,gS sb av gv wv i→i<w.heap.size:=by
 intro i q
 rcases q with rfl | q | q | q
 ·exact (Array.getElem?_eq_some_iff.1 h.blk).1
 ·exact (h.a.lt i q).2
 ·exact (h.g.lt i q).2
 ·exact (h.v.lt i q).2
theorem So.turn {P G:Nat→Prop} {w w':World} {sb:Nat} {tv av gv wv:Value} {L:List Td} {dv:Nat→Value} {A:List (List Nat)} {gs ws:List Value} (h:So P w sb tv av gv wv L dv A gs ws) (t:Turn G w w') (hP:∀i,P i→i<w.heap.size→¬G i) (hG:∀i,gS sb av gv wv i→¬G i):So P w' sb tv av gv wv L dv A gs ws :=
 { h with
  blk:=t.at_new h.blk (hG _ (Or.inl rfl))
  tl:=h.tl.turn t hP
  a:=own_turn h.a t (fun i q=>hG i (Or.inr (Or.inl q)))
  g:=own_turn h.g t (fun i q=>hG i (Or.inr (Or.inr (Or.inl q))))
  v:=own_turn h.v t (fun i q=>hG i (Or.inr (Or.inr (Or.inr q)))) }
theorem So.keep {P:Nat→Prop} {w w':World} {sb:Nat} {tv av gv wv:Value} {L:List Td} {dv:Nat→Value} {A:List (List Nat)} {gs ws:List Value} (h:So P w sb tv av gv wv L dv A gs ws) (k:Below w.heap.size w w'):So P w' sb tv av gv wv L dv A gs ws:=h.turn (G:=fun _=>False) (Turn.of_below k) (fun _ _ _ q=>q) (fun _ _ q=>q)
theorem qm7 {w:World} {e e' s s' n n':Nat} {u v:Value} {xs ys:List Value} (h:w.ownsRow 0 e s u n xs) (h':w.ownsRow 0 e' s' v n' ys) (ne:e≠e'):∀i,u.ownBlock=some i→v.ownBlock≠some i:=fun i q q'=>by
 obtain ⟨c,hc⟩:=own_block h q
 obtain ⟨c',hc'⟩:=own_block h' q'
 rw [hc] at hc'
 injection hc' with hc'
 injection hc' with _ h2
 exact ne h2
theorem So.grow_a {P:Nat→Prop} {w wA w5:World} {sb:Nat} {tv av gv wv v':Value} {L:List Td} {dv:Nat→Value} {A A':List (List Nat)} {gs ws:List Value} (h:So P w sb tv av gv wv L dv A gs ws) (k:Below w.heap.size w wA) (gr:wA.grownBy w5 av.ownBlock) (ow:w5.ownsRow 0 31 32 v' A'.length (hcs A'))
 (at_:v'.ownBlock=av.ownBlock∨v'.ownBlock=some wA.heap.size) (hP:∀i,P i→i<w.heap.size):So P (w5.setCell ⟨sb,1,none⟩ v') sb tv v' gv wv L dv A' gs ws∧Turn (gS sb av gv wv) w (w5.setCell ⟨sb,1,none⟩ v')∧(∀i,gS sb v' gv wv i→gS sb av gv wv i∨w.heap.size≤i):=by
 have hA:=h.keep k
 have t5:Turn (fun i=>av.ownBlock=some i) wA w5:=Turn.of_grown gr (fun _ e=>e)
 have hsb:(Array.getElem?_eq_some_iff.1 h.blk).1=(Array.getElem?_eq_some_iff.1 h.blk).1:=rfl
 have l0:=k.size
 have nsb:av.ownBlock≠some sb:=own_ne_cells hA.a hA.blk (by decide)
 have ng:=qm7 hA.a hA.g (by decide)
 have nv:=qm7 hA.a hA.v (by decide)
 have b5:=t5.at_new hA.blk nsb
 have t6:Turn (fun i=>i=sb) w5 (w5.setCell ⟨sb,1,none⟩ v'):=Turn.setCell _ _ _ rfl
 have own_sb:∀{e s n:Nat} {u:Value} {xs:List Value},w5.ownsRow 0 e s u n xs→e≠29→∀i,u.ownBlock=some i→¬i=sb:=fun o ne i q e=>own_ne_cells o b5 (Ne.symm ne) (e ▸ q)
 have g5:=own_turn hA.g t5 (fun i q q2=>ng i q2 q)
 have v5:=own_turn hA.v t5 (fun i q q2=>nv i q2 q)
 have sub:∀i,gS sb v' gv wv i→gS sb av gv wv i∨w.heap.size≤i:=fun i q=>by
  rcases q with q | q | q | q
  ·exact Or.inl (Or.inl q)
  ·rcases at_ with e | e
   ·exact Or.inl (Or.inr (Or.inl (e ▸ q)))
   ·rw [e] at q
    have:=Option.some.inj q
    exact Or.inr (by omega)
  ·exact Or.inl (Or.inr (Or.inr (Or.inl q)))
  ·exact Or.inl (Or.inr (Or.inr (Or.inr q)))
 refine ⟨⟨?_,?_,own_turn ow t6 (own_sb ow (by decide)),own_turn g5 t6 (own_sb g5 (by decide)),own_turn v5 t6 (own_sb v5 (by decide)),h.sep,fun i q q2=>?_⟩,?_,sub⟩
 ·exact qe7 b5 1 v'
 ·exact ((hA.tl.turn t5 (fun i q _ q2=>h.off i q (Or.inr (Or.inl q2))))).turn t6 (fun i q _ q2=>h.off i q (Or.inl q2))
 ·rcases sub i q2 with q3 | q3
  ·exact h.off i q q3
  ·have:=hP i q;omega
 ·exact ((Turn.of_below k).trans (t5.mono (G:=gS sb av gv wv) (fun i q=>Or.inl (Or.inr (Or.inl q)))) (fun _ q=>Or.inl q)).trans t6 (fun i q=>Or.inl (Or.inl q))
theorem So.grow_g {P:Nat→Prop} {w wA w5:World} {sb:Nat} {tv av gv wv v':Value} {L:List Td} {dv:Nat→Value} {A:List (List Nat)} {gs gs' ws:List Value} (h:So P w sb tv av gv wv L dv A gs ws) (k:Below w.heap.size w wA) (gr:wA.grownBy w5 gv.ownBlock) (ow:w5.ownsRow 0 33 1 v' gs'.length gs')
 (at_:v'.ownBlock=gv.ownBlock∨v'.ownBlock=some wA.heap.size) (hP:∀i,P i→i<w.heap.size):So P (w5.setCell ⟨sb,2,none⟩ v') sb tv av v' wv L dv A gs' ws∧Turn (gS sb av gv wv) w (w5.setCell ⟨sb,2,none⟩ v')∧(∀i,gS sb av v' wv i→gS sb av gv wv i∨w.heap.size≤i):=by
 have hA:=h.keep k
 have t5:Turn (fun i=>gv.ownBlock=some i) wA w5:=Turn.of_grown gr (fun _ e=>e)
 have l0:=k.size
 have nsb:gv.ownBlock≠some sb:=own_ne_cells hA.g hA.blk (by decide)
 have na:=qm7 hA.g hA.a (by decide)
 have b5:=t5.at_new hA.blk nsb
 have t6:Turn (fun i=>i=sb) w5 (w5.setCell ⟨sb,2,none⟩ v'):=Turn.setCell _ _ _ rfl
 have own_sb:∀{e s n:Nat} {u:Value} {xs:List Value},w5.ownsRow 0 e s u n xs→e≠29→∀i,u.ownBlock=some i→¬i=sb:=fun o ne i q e=>own_ne_cells o b5 (Ne.symm ne) (e ▸ q)
 have a5:=own_turn hA.a t5 (fun i q q2=>na i q2 q)
 have v5:=own_turn hA.v t5 (fun i q q2=>h.sep i q2 q)
 have sub:∀i,gS sb av v' wv i→gS sb av gv wv i∨w.heap.size≤i:=fun i q=>by
  rcases q with q | q | q | q
  ·exact Or.inl (Or.inl q)
  ·exact Or.inl (Or.inr (Or.inl q))
  ·rcases at_ with e | e
   ·exact Or.inl (Or.inr (Or.inr (Or.inl (e ▸ q))))
   ·rw [e] at q
    have:=Option.some.inj q
    exact Or.inr (by omega)
  ·exact Or.inl (Or.inr (Or.inr (Or.inr q)))
 refine ⟨⟨?_,?_,own_turn a5 t6 (own_sb a5 (by decide)),own_turn ow t6 (own_sb ow (by decide)),own_turn v5 t6 (own_sb v5 (by decide)),fun i q q2=>?_,fun i q q2=>?_⟩,?_,sub⟩
 ·exact qe7 b5 2 v'
 ·exact ((hA.tl.turn t5 (fun i q _ q2=>h.off i q (Or.inr (Or.inr (Or.inl q2)))))).turn t6 (fun i q _ q2=>h.off i q (Or.inl q2))
 ·rcases at_ with e | e
  ·exact h.sep i (e ▸ q) q2
  ·rw [e] at q
   have:=Option.some.inj q
   have:=(h.v.lt i q2).2
   omega
 ·rcases sub i q2 with q3 | q3
  ·exact h.off i q q3
  ·have:=hP i q;omega
 ·exact ((Turn.of_below k).trans (t5.mono (G:=gS sb av gv wv) (fun i q=>Or.inl (Or.inr (Or.inr (Or.inl q))))) (fun _ q=>Or.inl q)).trans t6 (fun i q=>Or.inl (Or.inl q))
theorem So.grow_v {P:Nat→Prop} {w wA w5:World} {sb:Nat} {tv av gv wv v':Value} {L:List Td} {dv:Nat→Value} {A:List (List Nat)} {gs ws ws':List Value} (h:So P w sb tv av gv wv L dv A gs ws) (k:Below w.heap.size w wA) (gr:wA.grownBy w5 wv.ownBlock) (ow:w5.ownsRow 0 33 1 v' ws'.length ws')
 (at_:v'.ownBlock=wv.ownBlock∨v'.ownBlock=some wA.heap.size) (hP:∀i,P i→i<w.heap.size):So P (w5.setCell ⟨sb,3,none⟩ v') sb tv av gv v' L dv A gs ws'∧Turn (gS sb av gv wv) w (w5.setCell ⟨sb,3,none⟩ v')∧(∀i,gS sb av gv v' i→gS sb av gv wv i∨w.heap.size≤i):=by
 have hA:=h.keep k
 have t5:Turn (fun i=>wv.ownBlock=some i) wA w5:=Turn.of_grown gr (fun _ e=>e)
 have l0:=k.size
 have nsb:wv.ownBlock≠some sb:=own_ne_cells hA.v hA.blk (by decide)
 have na:=qm7 hA.v hA.a (by decide)
 have b5:=t5.at_new hA.blk nsb
 have t6:Turn (fun i=>i=sb) w5 (w5.setCell ⟨sb,3,none⟩ v'):=Turn.setCell _ _ _ rfl
 have own_sb:∀{e s n:Nat} {u:Value} {xs:List Value},w5.ownsRow 0 e s u n xs→e≠29→∀i,u.ownBlock=some i→¬i=sb:=fun o ne i q e=>own_ne_cells o b5 (Ne.symm ne) (e ▸ q)
 have a5:=own_turn hA.a t5 (fun i q q2=>na i q2 q)
 have g5:=own_turn hA.g t5 (fun i q q2=>h.sep i q q2)
 have sub:∀i,gS sb av gv v' i→gS sb av gv wv i∨w.heap.size≤i:=fun i q=>by
  rcases q with q | q | q | q
  ·exact Or.inl (Or.inl q)
  ·exact Or.inl (Or.inr (Or.inl q))
  ·exact Or.inl (Or.inr (Or.inr (Or.inl q)))
  ·rcases at_ with e | e
   ·exact Or.inl (Or.inr (Or.inr (Or.inr (e ▸ q))))
   ·rw [e] at q
    have:=Option.some.inj q
    exact Or.inr (by omega)
 refine ⟨⟨?_,?_,own_turn a5 t6 (own_sb a5 (by decide)),own_turn g5 t6 (own_sb g5 (by decide)),own_turn ow t6 (own_sb ow (by decide)),fun i q q2=>?_,fun i q q2=>?_⟩,?_,sub⟩
 ·exact qe7 b5 3 v'
 ·exact ((hA.tl.turn t5 (fun i q _ q2=>h.off i q (Or.inr (Or.inr (Or.inr q2)))))).turn t6 (fun i q _ q2=>h.off i q (Or.inl q2))
 ·rcases at_ with e | e
  ·exact h.sep i q (e ▸ q2)
  ·rw [e] at q2
   have:=Option.some.inj q2
   have:=(h.g.lt i q).2
   omega
 ·rcases sub i q2 with q3 | q3
  ·exact h.off i q q3
  ·have:=hP i q;omega
 ·exact ((Turn.of_below k).trans (t5.mono (G:=gS sb av gv wv) (fun i q=>Or.inl (Or.inr (Or.inr (Or.inr q))))) (fun _ q=>Or.inl q)).trans t6 (fun i q=>Or.inl (Or.inl q))
open Go.RowKit Go.Maps
set_option maxRecDepth 100000 in
set_option maxHeartbeats 1600000 in
theorem qtv (w:World):Calls Tryz.prog 47 #[.slice none 0 0] w fun e w'=>e=.returned (.slice none 0 0)∧w'=w:=by
 go_enter Tryz.func47,Tryz.ntmps47
 go_wp2_with fail
 go_loopg [3,4] 0 (fun g l i wr=>g=0∧l=.slice none 0 0∧i=.int .i64 0∧wr=w)
 case atStart=>exact ⟨rfl,rfl,rfl,rfl⟩
 case round =>
  obtain ⟨rfl,rfl,rfl,rfl⟩:=hrel
  go_wp2_with fail
  go_ret
  exact ⟨rfl,rfl⟩
theorem qkq (w:World) (B:Nat):w.ownsRow B 47 2 (.slice none 0 0) 0 []:=⟨rfl,Or.inl ⟨rfl,rfl⟩⟩
theorem qwx (w:World):(Instr.slice 40 (.slice none 0 0) none (some (.int .i64 0)) none).run Tryz.prog w=.ok (.slice none 0 0) w:=by kernel_rfl
theorem qre (w:World):(Instr.slice 40 (.slice none 0 0) (some (.int .i64 0)) none none).run Tryz.prog w=.ok (.slice none 0 0) w:=by kernel_rfl
theorem qy6:(Tryz.prog.info? 47).map (fun i=>(i.zero,i.size))=some (some (.agg #[.slice none 0 0,.slice none 0 0]),2):=by kernel_rfl
theorem zv47 (w:World):(zeroValue 47).run Tryz.prog w=.ok (.agg #[.slice none 0 0,.slice none 0 0]) w:=(zero_of_info qy6).1 w
set_option maxRecDepth 100000 in
set_option maxHeartbeats 3200000 in
theorem qtw {w:World} {b off c:Nat} {ka va:Option Addr} {kn kc vn vc:Nat} (c0:w.cell? ⟨b,off,none⟩=some (.slice ka kn kc)) (c1:w.cell? ⟨b,off+1,none⟩=some (.slice va vn vc)) :
 Calls Tryz.prog 47 #[.slice (some ⟨b,off,none⟩) 1 c] w fun e w'=>∃v,e=.returned v∧w'.ownsRow w.heap.size 47 2 v 1 [.slice ka kn kc,.slice va vn vc]∧Below w.heap.size w w':=by
 have hz:=zv47
 have s1:=qwx
 have s2:=qre
 have hlt:=World.block_lt_of_cell? _ _ c0
 obtain ⟨i0,hi0,-,-,-⟩:=info_parts Z.i_entries
 have HI:Hid (Tryz.prog.info? 47=some i0):=hi0
 clear hi0
 go_enter Tryz.func47,Tryz.ntmps47
 go_wp2_with fail
 go_loopg [3,4] 1 (fun g l i wr=>(g=1∧l=.slice none 0 0∧i=.int .i64 0∧wr=w)∨(g=0∧i=.int .i64 1∧wr.ownsRow w.heap.size 47 2 l 1 [.slice ka kn kc,.slice va vn vc]∧Below w.heap.size w wr))
 case atStart=>exact Or.inl ⟨rfl,rfl,rfl,rfl⟩
 case round =>
  rcases hrel with ⟨rfl,rfl,rfl,rfl⟩ | ⟨rfl,rfl,ow,bl⟩
  ·go_wp2_with fail
   obtain ⟨wo,e⟩:∃wo,wo=wr:=⟨_,rfl⟩
   subst e
   go_loopg [6,7] 0 (fun g lo hi u=>g=0∧lo=.int .i64 0∧hi=.int .i64 0∧u=(wo.alloc (.cells #[.slice ka kn kc,.slice va vn vc] 47)))
   case atStart=>exact ⟨rfl,rfl,rfl,rfl⟩
   case round =>
    obtain ⟨rfl,rfl,rfl,hw⟩:=hrel
    have HW:Hid (wr=(wo.alloc (.cells #[.slice ka kn kc,.slice va vn vc] 47))):=hw
    have d0:wr.cell? ⟨wo.heap.size,0,none⟩=some (.slice ka kn kc):=by rw [hw,cell_of_row _ _ _ _ _ _ (heap_alloc_new wo _)];rfl
    have d1:wr.cell? ⟨wo.heap.size,1,none⟩=some (.slice va vn vc):=by rw [hw,cell_of_row _ _ _ _ _ _ (heap_alloc_new wo _)];rfl
    clear hw c0 c1
    go_wp2_with (first
     | (at_builtin;refine wpList_append_own_none (by rfl) _ _ 40 (by rfl) wo.heap.size 47 i0 2 Tryz.underlying40 HI.out (.slice none 0 0) 0 [] (by rfl) (qkq _ _) (by rfl) ?_)
     | (at_builtin;refine Z.p_app_entries wo.heap.size (by rfl) (.tmp 46) (.tmp 48) (by rfl) (.slice none 0 0) 0 [] (by rfl) (qkq _ _) wr.heap.size [.slice ka kn kc,.slice va vn vc] (by rfl) rfl (qa1 wr [.slice ka kn kc,.slice va vn vc] _) (by simp [Value.oneCell']) (by decide) (by rw [HW.out];simp;omega) ?_;intro g1 c1 w1 own1 gr1 at1;have H1:Hid (w1.ownsRow wo.heap.size 47 2 (.slice (some ⟨g1,0,none⟩) 1 c1) 1 [.slice ka kn kc,.slice va vn vc]∧Below wo.heap.size wo w1):=⟨own1,ch (by rw [HW.out];exact qaa _ _) (ch (qaa wr _) (qdb gr1))⟩;clear own1 gr1 at1)
     | (at_builtin;refine wpList_append_own_none (by rfl) _ _ 40 (by rfl) wo.heap.size 47 i0 2 Tryz.underlying40 HI.out (.slice (some ⟨g1,0,none⟩) 1 c1) 1 [.slice ka kn kc,.slice va vn vc] (by rfl) H1.out.1 (by rfl) ?_))
    refine wp_region_held_drew (S:=fun u=>True) (by kernel_rfl) (trivial) ?_
    intro hS
    change wpAnyH _ _ _ _ _ 14 _ _ _
    refine Z.tk 0 (.int .i64 0) (y:=Z.y_move _ rfl _ rfl) (s:=hS) (h:=?_)
    refine Z.tk 1 (.slice none 0 0) (y:=Z.y_move _ rfl _ rfl) (s:=hS) (h:=?_)
    refine Z.tk 2 (.int .i64 ((0:Nat):Int)) (y:=Z.y_len_entries _ rfl _ _ _ rfl) (s:=hS) (h:=?_)
    refine Z.tk 3 (.bool false) (y:=Z.y_lssIr _ _ rfl _ _ rfl rfl false (by decide)) (s:=hS) (h:=?_)
    refine Z.tk 4 (.bool false) (y:=Z.y_move _ rfl _ rfl) (s:=hS) (h:=?_)
    refine Z.ly ?_
    refine Z.tk 5 undef (y:=Z.y_no) (s:=hS) (h:=?_)
    refine Z.tk 6 undef (y:=Z.y_no) (s:=hS) (h:=?_)
    refine Z.tk 7 undef (y:=Z.y_no) (s:=hS) (h:=?_)
    refine Z.tk 8 undef (y:=Z.y_no) (s:=hS) (h:=?_)
    refine Z.tk 9 undef (y:=Z.y_no) (s:=hS) (h:=?_)
    refine Z.ly ?_
    refine Z.tk 10 undef (y:=Z.y_no) (s:=hS) (h:=?_)
    refine Z.tk 11 undef (y:=Z.y_no) (s:=hS) (h:=?_)
    refine Z.tk 12 undef (y:=Z.y_no) (s:=hS) (h:=?_)
    refine Z.tk 13 (.bool false) (y:=Z.y_pick_f _ _ _ rfl _ rfl rfl) (s:=hS) (h:=?_)
    refine Z.ly ?_
    refine wpAnyH_done (by kernel_rfl) ?_ _
    clear hS
    have H2:Hid (w1.drew.ownsRow wo.heap.size 47 2 (.slice (some ⟨g1,0,none⟩) 1 c1) 1 [.slice ka kn kc,.slice va vn vc]∧Below wo.heap.size wo w1.drew):=⟨H1.out.1.drew,H1.out.2.drew⟩
    generalize w1.drew=w2 at H2 ⊢
    go_wp2_with (at_builtin;refine wpList_append_own_none (by rfl) _ _ 40 (by rfl) wo.heap.size 47 i0 2 Tryz.underlying40 HI.out (.slice (some ⟨g1,0,none⟩) 1 c1) 1 [.slice ka kn kc,.slice va vn vc] (by rfl) H2.out.1 (by rfl) ?_)
    go_roundg 0
    case measure=>decide
    case rel=>exact Or.inr ⟨rfl,by go_num,H2.out.1,H2.out.2⟩
  ·go_wp2_with fail
   go_ret
   exact ⟨_,rfl,ow,bl⟩
end Go.Proofs.YtemcneddbhgadaaGreatDoor
