import Derived.Test.YtemcneddbhgadaaGreatDoorPnzz
import Derived.Test.YtemcneddbhgadaaGreatDoorZvzz
namespace Go.Proofs.YtemcneddbhgadaaGreatDoor
open Go.RowKit
theorem qwl {x:It}:((itR x).getD rz).h.length=32:=by
 unfold itR
 split
 ·exact qac
 ·split
  ·exact qac
  ·split
   ·assumption
   ·exact qac
theorem qyt {x:It} (h:∀y∈x.b,y<256):∀y∈((itR x).getD rz).h,y<256:=by
 unfold itR
 split
 ·exact qco
 ·split
  ·exact qco
  ·split
   ·exact h
   ·exact qco
theorem qyu (x:It):(enc x).length≤1048576:=by
 unfold enc
 split
 ·rename_i he
  unfold encE at he
  split at he
  ·omega
  ·split at he
   ·omega
   ·split at he
    ·omega
    ·omega
 ·simp
theorem qyv {x:It}:((itR x).getD rz).b.length≤1048576:=by
 unfold itR
 split
 ·exact qyu x
 ·split
  ·simp [rz]
  ·split
   ·simp
   ·simp [rz]
theorem qqy {xs:List It} {i:Nat} {x:It} (h:xs[i]?=some x) (hx:itR x=none):itRs xs=none:=by
 induction xs generalizing i with
 | nil=>simp at h
 | cons a t ih =>
  rw [itRs]
  cases i with
  | zero =>
   simp at h
   subst h
   rw [hx]
  | succ i =>
   cases itR a with
   | none=>rfl
   | some r=>dsimp only;rw [ih (i:=i) (by simpa using h)]
theorem qwm {xs:List It}:∀{l:List Rf},l.length=xs.length→(∀(i:Nat) (x:It) (r:Rf),xs[i]?=some x→l[i]?=some r→itR x=some r)→itRs xs=some l:=by
 induction xs with
 | nil=>intro l h _;rw [List.eq_nil_of_length_eq_zero h];rfl
 | cons a t ih =>
  intro l h k
  match l,h with
  | r::l,h =>
   rw [itRs,k 0 a r (by simp) (by simp),ih (l:=l) (by simpa using h) (fun i x r hx hr=>k (i+1) x r (by simpa using hx) (by simpa using hr))]
theorem qqz {r:Rf} {v:Value} (hr:r.h.length=32):∀{l:List Rf} {i:Nat} {k:Nat→Value},(∀q∈l,q.h.length=32)→i<l.length→∀j,(kcs (l.set i r) (fun m=>if m=i then v else k m))[j]?=if i*34≤j∧j<i*34+34 then (rcs r v)[j - i*34]? else (kcs l k)[j]?:=by
 intro l
 induction l with
 | nil=>intro i k _ hi;simp at hi
 | cons q l ih =>
  intro i k hl hi j
  have hq:=qa5 (hl q (by simp))
  cases i with
  | zero =>
   rw [List.set_cons_zero,kcs,kcs]
   have e:kcs l (fun m=>if m+1=0 then v else k (m+1))=kcs l (fun m=>k (m+1)):=qph (fun m _=>by rw [if_neg (by omega)])
   rw [e,if_pos rfl]
   by_cases h1:j<34
   ·rw [if_pos (by omega),List.getElem?_append_left (by rw [qa5 hr];exact h1),Nat.zero_mul,Nat.sub_zero]
   ·rw [if_neg (by omega),List.getElem?_append_right (by rw [qa5 hr];omega),List.getElem?_append_right (by rw [hq];omega),qa5 hr,hq]
  | succ i =>
   rw [List.set_cons_succ,kcs,kcs,if_neg (by omega)]
   have e:(fun m=>if m+1=i+1 then v else k (m+1))=(fun m=>if m=i then v else (fun m=>k (m+1)) m):=by
    funext m
    by_cases c:m=i
    ·rw [if_pos (by omega),if_pos c]
    ·rw [if_neg (by omega),if_neg c]
   rw [e]
   by_cases h1:j<34
   ·rw [List.getElem?_append_left (by rw [hq];exact h1),if_neg (by omega),List.getElem?_append_left (by rw [hq];exact h1)]
   ·rw [List.getElem?_append_right (by rw [hq];omega),hq,ih (fun q hq=>hl q (by simp [hq])) (by simpa using hi) (j - 34),List.getElem?_append_right (by rw [hq];omega),hq]
    by_cases h2:i*34≤j - 34∧j - 34<i*34+34
    ·rw [if_pos h2,if_pos (by omega),show j - 34 - i*34=j - (i+1)*34 by omega]
    ·rw [if_neg h2,if_neg (by omega)]
theorem qq0 {w:World} {g:Nat} {n:Nd} {u:Nv} (hW:n.W) (h:w.rangeAt g 0 (nc n u)) {i:Nat} (hi:i<16) {r:Rf} {v:Value} (hr:r.h.length=32) (ht:w.there g 0 582) :
 (w.setCells g (38+i*34) (rcs r v)).rangeAt g 0 (nc ⟨n.k,n.path,n.val,n.full,n.next,n.kids.set i r⟩ ⟨u.p,u.v,u.x,fun m=>if m=i then v else u.k m⟩):=by
 have ht':w.there g (38+i*34) (rcs r v).length:=fun j hj=>by
  rw [qa5 hr] at hj
  have:=ht (38+i*34+j) (by omega)
  rw [Nat.zero_add] at this
  exact this
 have hl:∀q∈n.kids,q.h.length=32:=fun q hq=>(hW.kid q hq).1
 have hx:=qa5 hW.next.1 u.x
 intro j c hj
 rw [Nat.zero_add]
 by_cases q:38+i*34≤j∧j<38+i*34+34
 ·have e:(nc ⟨n.k,n.path,n.val,n.full,n.next,n.kids.set i r⟩ ⟨u.p,u.v,u.x,fun m=>if m=i then v else u.k m⟩)[j]?=(rcs r v)[j - (38+i*34)]?:=by
   obtain ⟨j',rfl⟩:∃j',j=j'+4:=⟨j - 4,by omega⟩
   unfold nc
   simp only [List.getElem?_cons_succ]
   rw [List.getElem?_append_right (by rw [hx];omega),hx,qqz hr hl (by rw [hW.kids];exact hi),if_pos (by omega)]
   congr 1
   omega
  rw [e] at hj
  have:=World.rangeAt_setCells_same w g (38+i*34) (rcs r v) ht' _ c hj
  rw [show 38+i*34+(j - (38+i*34))=j by omega] at this
  exact this
 ·have e:(nc ⟨n.k,n.path,n.val,n.full,n.next,n.kids.set i r⟩ ⟨u.p,u.v,u.x,fun m=>if m=i then v else u.k m⟩)[j]?=(nc n u)[j]?:=by
   unfold nc
   by_cases h4:j<4
   ·match j,h4 with
    | 0,_=>rfl
    | 1,_=>rfl
    | 2,_=>rfl
    | 3,_=>rfl
   ·obtain ⟨j',rfl⟩:∃j',j=j'+4:=⟨j - 4,by omega⟩
    simp only [List.getElem?_cons_succ]
    by_cases h38:j'<34
    ·rw [List.getElem?_append_left (by rw [hx];exact h38),List.getElem?_append_left (by rw [hx];exact h38)]
    ·rw [List.getElem?_append_right (by rw [hx];omega),List.getElem?_append_right (by rw [hx];omega),hx,qqz hr hl (by rw [hW.kids];exact hi),if_neg (by omega)]
  rw [e] at hj
  have h2:=h j c hj
  rw [Nat.zero_add] at h2
  rw [World.cell?_setCells_out g (rcs r v) (38+i*34) w ⟨g,j,none⟩ (fun _ _=>by
   rw [qa5 hr]
   show j<38+i*34∨38+i*34+34≤j
   omega)]
  exact h2
theorem qbv {F:Nat→Prop} {g:Nat} (hg:F g):∀(vs:List Value) (o:Nat) (w:World),Turn F w (w.setCells g o vs)
 | [],_,w=>Turn.refl F w
 | v::r,o,w=>by
  rw [World.setCells]
  exact (Turn.setCell w ⟨g,o,none⟩ v hg).trans (qbv hg r (o+1) _) (fun _ q=>Or.inl q)
theorem size_setCells (g:Nat):∀(vs:List Value) (o:Nat) (w:World),(w.setCells g o vs).heap.size=w.heap.size
 | [],_,_=>rfl
 | v::r,o,w=>by rw [World.setCells,size_setCells g r (o+1) _];simp
theorem qkl {w:World} {b:Nat} {cs:List Value} {t:TypeId} (h:w.heap[b]?=some (.cells cs.toArray t (0,0))) (n:Nat) (hn:n≤cs.length):w.there b 0 n:=fun j hj=>by
 rw [Nat.zero_add]
 refine ⟨?_,frozen_of_row w b j _ t h⟩
 rw [cell_of_row _ _ _ _ _ _ h]
 simp
 omega
theorem qbw {w w':World} {b n:Nat} (h:w.there b 0 n) (k:w'.heap[b]?=w.heap[b]?):w'.there b 0 n:=fun j hj=>by
 obtain ⟨h1,h2⟩:=h j hj
 refine ⟨by rw [World.cell?_of_block (w:=w) k];exact h1,?_⟩
 simp only [World.frozen?,k] at h2 ⊢
 exact h2
structure Bl (W wr:World) (g B:Nat) (V:List Nat) (f:Bool) (vb:Value) (xs:List It) (i:Nat) (l:List Rf) (k:Nat→Value):Prop where
 len:l.length=i
 rng:wr.rangeAt g 0 (nc ⟨3,[],V,f,rz,l++List.replicate (16 - i) rz⟩ ⟨.slice none 0 0,vb,.slice none 0 0,k⟩)
 thr:wr.there g 0 582
 it:∀(j:Nat) (x:It) (r:Rf),xs[j]?=some x→l[j]?=some r→itR x=some r
 w:∀r∈l,r.W
 own:∀(j:Nat) (r:Rf),l[j]?=some r→wr.ownsRow B 5 1 (k j) r.b.length (bv r.b)
 lb:∀r∈l,r.b.length≤1048576
 nil:∀j,i≤j→k j=.slice none 0 0
 apart:∀a b,a<i→b<i→a≠b→∀q,(k a).ownBlock=some q→(k b).ownBlock≠some q
 turn:Turn (fun q=>q=g) W wr
 hB:g<B∧B≤wr.heap.size
theorem Bl.W {W wr:World} {g B:Nat} {V:List Nat} {f:Bool} {vb:Value} {xs:List It} {i:Nat} {l:List Rf} {k:Nat→Value} (h:Bl W wr g B V f vb xs i l k) (hi:i≤16) (hV:∀x∈V,x<256):(⟨3,[],V,f,rz,l++List.replicate (16 - i) rz⟩:Nd).W :=
 ⟨by show (l++List.replicate (16 - i) rz).length=16;rw [List.length_append,List.length_replicate,h.len];omega,rz_w,fun r hr=>by
  rcases List.mem_append.1 hr with q | q
  ·exact h.w r q
  ·rw [List.eq_of_mem_replicate q];exact rz_w,fun x hx=>(by cases hx),hV⟩
theorem Bl.lt {W wr:World} {g B:Nat} {V:List Nat} {f:Bool} {vb:Value} {xs:List It} {i:Nat} {l:List Rf} {k:Nat→Value} (h:Bl W wr g B V f vb xs i l k):g<wr.heap.size:=by have:=h.hB;omega
theorem Bl.next {W wr w2 : World} {g B : Nat} {V : List Nat} {f : Bool} {vb v : Value} {xs : List It} {i : Nat} {l : List Rf} {k : Nat → Value} {x : It} {r : Rf} (h : Bl W wr g B V f vb xs i l k) (hi : i < 16) (hV : ∀ x ∈ V, x < 256)
    (hx:xs[i]?=some x) (hr:itR x=some r) (hW:r.W) (hlb:r.b.length≤1048576) (b2:Below wr.heap.size wr w2) (own2:w2.ownsRow wr.heap.size 5 1 v r.b.length (bv r.b)) :
    Bl W (w2.setCells g (38+i*34) (rcs r v)) g B V f vb xs (i+1) (l++[r]) (fun m=>if m=i then v else k m):=by
  have tt:=qbv (F:=fun q=>q=g) rfl (rcs r v) (38+i*34) w2
  have hs:=size_setCells g (rcs r v) (38+i*34) w2
  have s2:=b2.size
  have hg:=h.lt
  have hB:=h.hB
  have hget:∀{j:Nat} {q:Rf},(l++[r])[j]?=some q→(j<i∧l[j]?=some q)∨(j=i∧q=r):=fun {j q} hj=>by
    by_cases e:j<i
    · left
      rw [List.getElem?_append_left (by rw [h.len];exact e)] at hj
      exact ⟨e,hj⟩
    · right
      have hj':=(List.getElem?_eq_some_iff.1 hj).1
      rw [List.length_append,h.len] at hj'
      have e2:j=i:=by simp at hj';omega
      subst e2
      rw [List.getElem?_append_right (by rw [h.len];omega),h.len,Nat.sub_self] at hj
      simp at hj
      exact ⟨rfl,hj.symm⟩
  refine ⟨by rw [List.length_append,h.len];rfl,?_,World.there_setCells (qbw h.thr (b2.block g hg)) _ _ _,fun j y q hy hq=>?_,fun q hq=>?_,fun j q hq=>?_,fun q hq=>?_,fun j hj=>?_,fun a b ha hb hab q hq=>?_,?_,⟨hB.1,by rw [hs];omega⟩⟩
  · have:=qq0 (h.W (by omega) hV) (qbj h.rng (b2.block g hg)) hi (r:=r) (v:=v) hW.1 (qbw h.thr (b2.block g hg))
    have e:(l++List.replicate (16 - i) rz).set i r=(l++[r])++List.replicate (16 - (i+1)) rz:=by
      rw [List.set_append_right _ _ (by rw [h.len];omega),h.len,Nat.sub_self,show 16 - i=(16 - (i+1))+1 by omega,List.replicate_succ,List.set_cons_zero,List.append_assoc]
      rfl
    rw [←e]
    exact this
  · rcases hget hq with ⟨_,hq'⟩ | ⟨rfl,rfl⟩
    · exact h.it j y q hy hq'
    · rw [hx] at hy
      cases hy
      exact hr
  · rcases List.mem_append.1 hq with q' | q'
    · exact h.w q q'
    · rw [List.mem_singleton.1 q'];exact hW
  · rcases hget hq with ⟨hj,hq'⟩ | ⟨rfl,rfl⟩
    · have ho:=h.own j q hq'
      simp only [if_neg (show ¬j=i by omega)]
      exact qal ho (fun z hz=>by
        have:=ho.lt z hz
        rw [tt.block z (by omega) (by omega),b2.block z this.2])
    · simp only [if_true]
      refine qai (qal own2 (fun z hz=>?_)) (fun z hz=>by have:=(own2.lt z hz).1;omega)
      have:=own2.lt z hz
      exact tt.block z this.2 (by omega)
  · rcases List.mem_append.1 hq with q' | q'
    · exact h.lb q q'
    · rw [List.mem_singleton.1 q'];exact hlb
  · simp only [if_neg (show ¬j=i by omega)]
    exact h.nil j (by omega)
  · by_cases ea:a=i
    · subst ea
      simp only [if_true] at hq
      simp only [if_neg (show ¬b=a by omega)]
      intro hz
      have l1:=(own2.lt q hq).1
      have hbl:b<l.length:=by rw [h.len];omega
      have:=((h.own b _ (List.getElem?_eq_getElem hbl)).lt q hz).2
      omega
    · simp only [if_neg ea] at hq
      by_cases eb:b=i
      · subst eb
        simp only [if_true]
        intro hz
        have l1:=(own2.lt q hz).1
        have hal:a<l.length:=by rw [h.len];omega
        have:=((h.own a _ (List.getElem?_eq_getElem hal)).lt q hq).2
        omega
      · simp only [if_neg eb]
        exact h.apart a b (by omega) (by omega) hab q hq
  · exact (h.turn.trans (Turn.of_below (F:=fun q=>q=g) b2) (fun _ q=>Or.inl q)).trans tt (fun _ q=>Or.inl q)
open Go.RowKit
theorem qn8 (V:List Nat) (f:Bool) (a1:Option Addr) (n1 c1:Nat) :
 Tryz.prog.built 110 [(0,.int .i64 3),(2,.slice a1 n1 c1),(3,.bool f)]=some (nc ⟨3,[],V,f,rz,kz⟩ ⟨.slice none 0 0,.slice a1 n1 c1,.slice none 0 0,fun _=>.slice none 0 0⟩).toArray:=by kernel_rfl
theorem qkm {ops : Array Oper} {rest : List Oper} {op : Oper} {a : Act} {w : World} {Q : Exit → Act → World → Prop} (x y : Operand) (ho : op.op = .store 110 x y) (n m : Nd) (u t : Nv) (hn : n.W) (hm : m.W) (h1 : (nc n u).toArray.all (·.oneCell') = true) (g : Nat) (hg : w.heap.size = g)
    (hx:a.eval x=.pointer (some ⟨g,0,none⟩)) (hy:a.eval y=.agg (nc n u).toArray) (h:wpList Tryz.prog ops Q rest (a.put op.dst undef) (w.alloc (.cells (nc n u).toArray 110))) (hw:Region.wanted op (yielded ops a.tmps)=true:=by kernel_rfl) :
    wpList Tryz.prog ops Q (op::rest) a (w.alloc (.cells (nc m t).toArray 110)):=by
  subst hg
  exact qam hw x y ho n m u t hn hm h1 hx hy h
theorem qea {ops:Array Oper} {rest:List Oper} {op:Oper} {a:Act} {w:World} {Q:Exit→Act→World→Prop} (x y:Operand) (ho:op.op=.store 107 x y) (b o:Nat) (r:Rf) (v:Value) (hr:r.h.length=32) (h1:v.oneCell'=true) (ht:w.there b o 34)
 (hx:a.eval x=.pointer (some ⟨b,o,none⟩)) (hy:a.eval y=.agg (rcs r v).toArray) (h:wpList Tryz.prog ops Q rest (a.put op.dst undef) (w.setCells b o (rcs r v))) (hw:Region.wanted op (yielded ops a.tmps)=true:=by kernel_rfl):wpList Tryz.prog ops Q (op::rest) a w :=
 qbs hw (wp_store_mid 107 x y ho b o (rcs r v).toArray hx hy (by rw [List.size_toArray,qa5 hr];exact ht) (by rw [List.size_toArray];exact qdh hr v) (all_oneCell_toArray (qf5 h1)) h)
theorem qfv {w:World} {g n o m:Nat} (h:w.there g 0 n) (hm:o+m≤n):w.there g o m:=fun j hj=>by
 have:=h (o+j) (by omega)
 rw [Nat.zero_add] at this
 exact this
theorem qn9 {w:World} {x:It} {vb vi:Value} {r:Rf} (h:Lies Vb w x vb vi) (hr:itR x=some r):Calls Tryz.prog 147 #[iv x.l vb vi] w fun e w'=>∃v,e=.returned (.tuple #[.agg (rcs r v).toArray,.bool true])∧w'.ownsRow w.heap.size 5 1 v r.b.length (bv r.b)∧Below w.heap.size w w'∧r.W∧r.b.length≤1048576:=by
 have hx:∀y∈x.b,y<256:=by
  rw [It.eta x] at h
  obtain ⟨_,_,_,_,_,_,_,_,hR,-⟩:=h.opened
  obtain ⟨_,_,_,_,_,hv,_⟩:=hR
  exact (vw_ok hv).2
 have h32:=qwl (x:=x)
 have hhb:=qyt hx
 have hbl:=qyv (x:=x)
 refine (qhk h).mono ?_
 rintro e w' ⟨v,rfl,own,b,hy⟩
 rw [hr] at own hy h32 hhb hbl
 exact ⟨v,by rw [hr];rfl,own,b,⟨h32,hhb,hy⟩,hbl⟩
theorem qoa {w:World} {x:It} {vb vi:Value} (h:Lies Vb w x vb vi) (hr:itR x=none):Calls Tryz.prog 147 #[iv x.l vb vi] w fun e w'=>∃v,e=.returned (.tuple #[.agg (rcs rz v).toArray,.bool false])∧v.oneCell'=true∧Below w.heap.size w w':=by
 refine (qhk h).mono ?_
 rintro e w' ⟨v,rfl,own,b,-⟩
 exact ⟨v,by rw [hr];rfl,qjg own,b⟩
def qz9 (xs:List It) (y:It) (vb:Value) (w:World) (e:Ending) (w':World):Prop :=
 ∃n u,e=.returned (.tuple #[.agg (nc n u).toArray,.bool (itB (xs.take 16) y).isSome])∧Below w.heap.size w w'∧n.W∧(nc n u).toArray.all (·.oneCell')=true∧∀m,itB (xs.take 16) y=some m→n=m∧qjf w.heap.size w' n u∧Nval n u y vb
set_option maxRecDepth 100000 in
set_option maxHeartbeats 3200000 in
theorem qhw {w:World} {xs:List It} {a:Option Addr} {blk off c:Nat} (h:Its Vb w xs a blk off) (hl:xs.length=17) {y:It} (hy:xs[16]?=some y) {vb:Value} (hvb:w.cell? ⟨blk,off+16*3+1,none⟩=some vb):Calls Tryz.prog 136 #[.slice a 17 c] w (qz9 xs y vb w):=by
 have hz:=zv29
 obtain rfl:=h.ha (by omega)
 obtain ⟨a1,n1,k1,a2,n2,k2,d0,d1,d2,hL⟩:=h.get 16 y hy
 have evb:vb=.slice a1 n1 k1:=by
  rw [d1] at hvb
  exact (Option.some.inj hvb).symm
 subst evb
 obtain ⟨vl,evl⟩:∃l,l=y.l:=⟨_,rfl⟩
 rw [←evl] at d0
 have HVL:Hid (vl=y.l):=evl
 have hvv:Vb w (.slice a1 n1 k1) y.b:=by
  rw [It.eta y] at hL
  obtain ⟨_,_,_,_,_,_,e1,e2,hR,-⟩:=hL.opened
  exact hR
 obtain ⟨V,eV⟩:∃V,V=y.b:=⟨_,rfl⟩
 rw [←eV] at hvv
 have HV:Hid (V=y.b):=eV
 have hVb:∀x∈V,x<256:=by
  obtain ⟨_,_,_,_,_,hv,_⟩:=hvv
  exact (vw_ok hv).2
 obtain ⟨_,_,_,_,e,_,_,_,hVl⟩:=hvv
 injection e with e1 e2 e3
 subst e2
 obtain ⟨f,ef⟩:∃f,f=decide (0<V.length):=⟨_,rfl⟩
 have HF:Hid (f=decide (0<V.length)):=ef
 have efi:decide ((0:Int)<(V.length:Int))=f:=by
  rw [ef]
  by_cases q:0<V.length
  ·rw [decide_eq_true q,decide_eq_true (by omega)]
  ·rw [decide_eq_false q,decide_eq_false (by omega)]
 have efn:decide (0<V.length)=f:=ef.symm
 have nW0:(⟨3,[],V,f,rz,kz⟩:Nd).W:=⟨qcz,rz_w,kz_w,fun x hx=>(by cases hx),hVb⟩
 have one0:(nc ⟨3,[],V,f,rz,kz⟩ ⟨.slice none 0 0,.slice a1 V.length k1,.slice none 0 0,fun _=>.slice none 0 0⟩).toArray.all (·.oneCell')=true:=qig rfl rfl rfl (fun _ _=>rfl)
 have bd:=qn8 V f a1 V.length k1
 have B0:Below w.heap.size w (w.alloc (.cells (nc nz uz).toArray 110)):=qaa _ _
 have f0:(w.alloc (.cells (nc nz uz).toArray 110)).cell? ⟨blk,off+16*3,none⟩=some (.bool vl):=(B0.cell (World.block_lt_of_cell? _ _ d0)).trans d0
 have f1:(w.alloc (.cells (nc nz uz).toArray 110)).cell? ⟨blk,off+16*3+1,none⟩=some (.slice a1 V.length k1):=(B0.cell (World.block_lt_of_cell? _ _ d1)).trans d1
 have f2:(w.alloc (.cells (nc nz uz).toArray 110)).cell? ⟨blk,off+16*3+2,none⟩=some (.slice a2 n2 k2):=(B0.cell (World.block_lt_of_cell? _ _ d2)).trans d2
 have BC:Below w.heap.size w (((w.alloc (.cells (nc nz uz).toArray 110)).alloc (.cells #[.bool vl,.slice a1 V.length k1,.slice a2 n2 k2] 191)).alloc (.cells (nc ⟨3,[],V,f,rz,kz⟩ ⟨.slice none 0 0,.slice a1 V.length k1,.slice none 0 0,fun _=>.slice none 0 0⟩).toArray 110)):=(B0.alloc B0.size _).alloc (by simp;omega) _
 have HW:Hid (Its Vb w xs (some ⟨blk,off,none⟩) blk off∧xs.length=17∧xs[16]?=some y∧Below w.heap.size w (((w.alloc (.cells (nc nz uz).toArray 110)).alloc (.cells #[.bool vl,.slice a1 V.length k1,.slice a2 n2 k2] 191)).alloc (.cells (nc ⟨3,[],V,f,rz,kz⟩ ⟨.slice none 0 0,.slice a1 V.length k1,.slice none 0 0,fun _=>.slice none 0 0⟩).toArray 110))∧(((w.alloc (.cells (nc nz uz).toArray 110)).alloc (.cells #[.bool vl,.slice a1 V.length k1,.slice a2 n2 k2] 191)).alloc (.cells (nc ⟨3,[],V,f,rz,kz⟩ ⟨.slice none 0 0,.slice a1 V.length k1,.slice none 0 0,fun _=>.slice none 0 0⟩).toArray 110)).heap.size=w.heap.size+3):=⟨h,hl,hy,BC,by simp⟩
 have HG0:Hid ((((w.alloc (.cells (nc nz uz).toArray 110)).alloc (.cells #[.bool vl,.slice a1 V.length k1,.slice a2 n2 k2] 191)).alloc (.cells (nc ⟨3,[],V,f,rz,kz⟩ ⟨.slice none 0 0,.slice a1 V.length k1,.slice none 0 0,fun _=>.slice none 0 0⟩).toArray 110)).heap[w.heap.size]?=some (.cells (nc nz uz).toArray 110 (0,0))):=by
  show _=_
  rw [heap_alloc_old _ _ (by simp;omega),heap_alloc_old _ _ (by simp)]
  exact heap_alloc_new _ _
 have HBX:Hid ((((w.alloc (.cells (nc nz uz).toArray 110)).alloc (.cells #[.bool vl,.slice a1 V.length k1,.slice a2 n2 k2] 191)).alloc (.cells (nc ⟨3,[],V,f,rz,kz⟩ ⟨.slice none 0 0,.slice a1 V.length k1,.slice none 0 0,fun _=>.slice none 0 0⟩).toArray 110)).cell? ⟨w.heap.size+1,0,none⟩=some (.bool vl)):=by
  have:=(qfc (qaa ((w.alloc (.cells (nc nz uz).toArray 110)).alloc (.cells #[.bool vl,.slice a1 V.length k1,.slice a2 n2 k2] 191)) (.cells (nc ⟨3,[],V,f,rz,kz⟩ ⟨.slice none 0 0,.slice a1 V.length k1,.slice none 0 0,fun _=>.slice none 0 0⟩).toArray 110))).1
  rw [show (w.alloc (.cells (nc nz uz).toArray 110)).heap.size=w.heap.size+1 by simp] at this
  exact this
 have HG2:Hid ((((w.alloc (.cells (nc nz uz).toArray 110)).alloc (.cells #[.bool vl,.slice a1 V.length k1,.slice a2 n2 k2] 191)).alloc (.cells (nc ⟨3,[],V,f,rz,kz⟩ ⟨.slice none 0 0,.slice a1 V.length k1,.slice none 0 0,fun _=>.slice none 0 0⟩).toArray 110)).heap[w.heap.size+2]?=some (.cells (nc ⟨3,[],V,f,rz,kz⟩ ⟨.slice none 0 0,.slice a1 V.length k1,.slice none 0 0,fun _=>.slice none 0 0⟩).toArray 110 (0,0))):=by
  have:=heap_alloc_new ((w.alloc (.cells (nc nz uz).toArray 110)).alloc (.cells #[.bool vl,.slice a1 V.length k1,.slice a2 n2 k2] 191)) (.cells (nc ⟨3,[],V,f,rz,kz⟩ ⟨.slice none 0 0,.slice a1 V.length k1,.slice none 0 0,fun _=>.slice none 0 0⟩).toArray 110)
  rw [show ((w.alloc (.cells (nc nz uz).toArray 110)).alloc (.cells #[.bool vl,.slice a1 V.length k1,.slice a2 n2 k2] 191)).heap.size=w.heap.size+2 by simp] at this
  exact this
 clear h hy hL d0 d1 d2 e1 evl eV hvb B0 ef e3 BC
 go_enter Tryz.func136,Tryz.ntmps136
 go_wp2_with (first
  | refine wpList_bdL _ _ (by rfl) _ bd ?_
  | refine qkm _ _ (by rfl) ⟨3,[],V,f,rz,kz⟩ nz ⟨.slice none 0 0,.slice a1 V.length k1,.slice none 0 0,fun _=>.slice none 0 0⟩ uz nW0 nz_w one0 (w.heap.size+1+1) (by simp) (by rfl) (by rfl) ?_)
 obtain ⟨W2,eW2⟩:∃W,W=(((w.alloc (.cells (nc nz uz).toArray 110)).alloc (.cells #[.bool vl,.slice a1 V.length k1,.slice a2 n2 k2] 191)).alloc (.cells (nc ⟨3,[],V,f,rz,kz⟩ ⟨.slice none 0 0,.slice a1 V.length k1,.slice none 0 0,fun _=>.slice none 0 0⟩).toArray 110)):=⟨_,rfl⟩
 rw [←eW2] at HW HG0 HBX HG2 ⊢
 clear eW2
 have HST:Hid (Bl W2 W2 (w.heap.size+1+1) (w.heap.size+3) V f (.slice a1 V.length k1) (xs.take 16) 0 [] (fun _=>.slice none 0 0)) :=
  ⟨rfl,qah HG2.out,qkl HG2.out 582 (by rw [qdt nW0];omega),fun j x r _ hr=>by simp at hr,fun r hr=>(by cases hr),fun j r hr=>by simp at hr,fun r hr=>(by cases hr),fun j _=>rfl,fun a b ha=>by omega,Turn.refl _ _,⟨by omega,by rw [HW.out.2.2.2.2];omega⟩⟩
 clear HG2
 go_loopg [18] 16 (fun gg k wr=>∃(i:Nat) (l:List Rf) (kk:Nat→Value),i≤16∧gg=16 - i∧k=.int .i64 i∧Bl W2 wr (w.heap.size+1+1) (w.heap.size+3) V f (.slice a1 V.length k1) (xs.take 16) i l kk)
 case atStart=>exact ⟨0,[],_,by omega,rfl,rfl,HST.out⟩
 case round =>
  obtain ⟨i,l,kk,hi,rfl,rfl,hbl⟩:=hrel
  have Bw:Below w.heap.size w wr:=HW.out.2.2.2.1.trans (hbl.turn.below (B:=w.heap.size) (fun q e=>by omega) HW.out.2.2.2.1.size)
  by_cases hin:i<16
  ·have i1:(i:Int)<16:=by omega
   have i2:(i:Int)<17:=by omega
   obtain ⟨-,x,b1,m1,l1,b2,m2,l2,hx,hxm,e0,e1,e2,hLx⟩:=HW.out.1.nth Bw (i:=i) (by have:=HW.out.2.1;omega)
   have hx16:(xs.take 16)[i]?=some x:=by rw [List.getElem?_take_of_lt hin];exact hx
   cases hR:itR x with
   | some r =>
    have K:=qn9 hLx hR
    obtain ⟨xl,exl⟩:∃l,l=x.l:=⟨_,rfl⟩
    rw [←exl] at K e0
    have HX:Hid ((xs.take 16)[i]?=some x∧itR x=some r∧Bl W2 wr (w.heap.size+1+1) (w.heap.size+3) V f (.slice a1 V.length k1) (xs.take 16) i l kk∧Below w.heap.size w wr):=⟨hx16,hR,hbl,Bw⟩
    clear hx hxm hLx hR exl hbl hx16 Bw
    go_wp2_with (first
     | (go_at_call 147;refine K.mono ?_;rintro e w3 ⟨v,rfl,own,b3,rW,rl⟩;have HY:Hid (w3.ownsRow wr.heap.size 5 1 v r.b.length (bv r.b)∧Below wr.heap.size wr w3∧r.W∧r.b.length≤1048576):=⟨own,b3,rW,rl⟩;have hr32:=rW.1;have o1:=qjg own;have ht:=qfv (o:=38+i*34) (m:=34) (qbw HX.out.2.2.1.thr (b3.block _ HX.out.2.2.1.lt)) (by omega);clear own b3 rW rl K)
     | refine qea _ _ (by rfl) (w.heap.size+1+1) (38+i*34) r v hr32 o1 ht (by rfl) (by rfl) ?_)
    go_roundg (16 - (i+1))
    case measure=>omega
    case rel =>
     exact ⟨i+1,l++[r],_,hin,rfl,by go_num,HX.out.2.2.1.next hin hVb HX.out.1 HX.out.2.1 HY.out.2.2.1 HY.out.2.2.2 HY.out.2.1 HY.out.1⟩
   | none =>
    have K:=qoa hLx hR
    obtain ⟨z,ez⟩:∃z,z=rz:=⟨_,rfl⟩
    rw [←ez] at K
    have hz32:z.h.length=32:=by rw [ez];exact qac
    clear ez
    obtain ⟨xl,exl⟩:∃l,l=x.l:=⟨_,rfl⟩
    rw [←exl] at K e0
    have HX:Hid (itB (xs.take 16) y=none∧Bl W2 wr (w.heap.size+1+1) (w.heap.size+3) V f (.slice a1 V.length k1) (xs.take 16) i l kk∧Below w.heap.size w wr):=⟨by unfold itB;rw [qqy hx16 hR],hbl,Bw⟩
    clear hx hxm hLx hR exl hbl hx16 Bw
    go_wp2_with (first
     | (go_at_call 147;refine K.mono ?_;rintro e w3 ⟨v,rfl,o1,b3⟩;have HY:Hid (Below wr.heap.size wr w3):=b3;have ht:=qfv (o:=38+i*34) (m:=34) (qbw HX.out.2.1.thr (b3.block _ HX.out.2.1.lt)) (by omega);have tt:=qbv (F:=fun q=>q=(w.heap.size+1+1)) rfl (rcs z v) (38+i*34) w3;have HG9:Hid ((w3.setCells (w.heap.size+1+1) (38+i*34) (rcs z v)).heap[w.heap.size]?=some (.cells (nc nz uz).toArray 110 (0,0))):=(tt.block _ (by have:=b3.size;have:=HX.out.2.1.hB;omega) (by omega)).trans ((b3.block _ (by have:=HX.out.2.1.hB;omega)).trans ((HX.out.2.1.turn.block _ (by have:=HW.out.2.2.2.2;omega) (by omega)).trans HG0.out));have B9:Hid (Below w.heap.size w (w3.setCells (w.heap.size+1+1) (38+i*34) (rcs z v))):=((ch HX.out.2.2 b3).trans (tt.below (fun q e=>by omega) (by have:=HX.out.2.2.size;have:=b3.size;omega)));clear b3 K tt)
     | refine qea _ _ (by rfl) (w.heap.size+1+1) (38+i*34) z v hz32 o1 ht (by rfl) (by rfl) ?_
     | refine qb4 (by rfl) ?_
     | (refine qaf _ _ (by rfl) w.heap.size nz nz uz uz nz_w nz_w (qa8 w).one ?_ (by rfl) (by rfl) ?_;exact HG9.out))
    have g9:=HG9.out
    have hr3:=setRow_heap (w3.setCells (w.heap.size+1+1) (38+i*34) (rcs z v)) w.heap.size _ (nc nz uz).toArray _ _ g9
    refine bodyPost_ret (qch rfl _ _ w.heap.size _ _ _ nz_w (qah hr3) rfl rfl) rfl ?_
    refine ⟨nz,uz,by rw [HX.out.1];rfl,below_setRow B9.out (by omega) _,nz_w,(qa8 w).one,fun m hm=>?_⟩
    rw [HX.out.1] at hm
    cases hm
  ·have i1:¬(i:Int)<16:=by omega
   obtain rfl:i=16:=by omega
   have hI:itRs (xs.take 16)=some l:=qwm (by rw [hbl.len,List.length_take,HW.out.2.1];rfl) hbl.it
   have g9:wr.heap[w.heap.size]?=some (.cells (nc nz uz).toArray 110 (0,0)):=(hbl.turn.block _ (by have:=HW.out.2.2.2.2;omega) (by omega)).trans HG0.out
   have bx9:wr.cell? ⟨w.heap.size+1,0,none⟩=some (.bool vl):=(hbl.turn.cell (q:=⟨w.heap.size+1,0,none⟩) (by have:=HW.out.2.2.2.2;show w.heap.size+1<_;omega) (by show ¬w.heap.size+1=w.heap.size+1+1;omega)).trans HBX.out
   have rg:=hbl.rng
   have nW:(⟨3,[],V,f,rz,l++List.replicate (16 - 16) rz⟩:Nd).W:=hbl.W (by omega) hVb
   rw [Nat.sub_self,List.replicate_zero,List.append_nil] at rg nW
   have hk1:∀j,j<l.length→(kk j).oneCell'=true:=fun j hj=>qjg (hbl.own j _ (List.getElem?_eq_getElem hj))
   have one:(nc ⟨3,[],V,f,rz,l⟩ ⟨.slice none 0 0,.slice a1 V.length k1,.slice none 0 0,kk⟩).toArray.all (·.oneCell')=true:=qig rfl rfl rfl hk1
   have HC:Hid (∀w',Turn (fun q=>q=w.heap.size) wr w'→w'.cell? ⟨w.heap.size+1,0,none⟩=some (.bool vl)∧w'.rangeAt (w.heap.size+1+1) 0 (nc ⟨3,[],V,f,rz,l⟩ ⟨.slice none 0 0,.slice a1 V.length k1,.slice none 0 0,kk⟩)):=fun w' k=>⟨(k.cell (q:=⟨w.heap.size+1,0,none⟩) (World.block_lt_of_cell? _ _ bx9) (by show ¬w.heap.size+1=w.heap.size;omega)).trans bx9,qbj rg (k.block _ hbl.lt (by omega))⟩
   have HX:Hid (itRs (xs.take 16)=some l∧Bl W2 wr (w.heap.size+1+1) (w.heap.size+3) V f (.slice a1 V.length k1) (xs.take 16) 16 l kk∧Below w.heap.size w wr):=⟨hI,hbl,Bw⟩
   have HG:Hid (wr.heap[w.heap.size]?=some (.cells (nc nz uz).toArray 110 (0,0))):=g9
   clear hI g9 bx9 rg hk1 hbl Bw
   go_upto_region 11 with (fail)
   refine wp_region_held_drew (S:=fun w'=>Turn (fun q=>q=w.heap.size) wr w') (by kernel_rfl) (Turn.drew wr) ?_
   intro hS
   change wpAnyH _ _ _ _ _ 6 _ _ _
   refine Z.tk 0 (.agg (nc ⟨3,[],V,f,rz,l⟩ ⟨.slice none 0 0,.slice a1 V.length k1,.slice none 0 0,kk⟩).toArray) (y:=qyr _ rfl _ rfl _ _ nW (fun w' hs=>(HC.out w' hs).2)) (s:=hS) (h:=?_)
   refine Z.tk 1 (.pointer (some ⟨w.heap.size+1,0,none⟩)) (y:=qqv _ 0 rfl _ 0 rfl (by omega)) (s:=hS) (h:=?_)
   refine Z.tk 2 (.bool vl) (y:=qcx _ rfl _ _ rfl _ (fun w' hs=>(HC.out w' hs).1)) (s:=hS) (h:=?_)
   refine Z.tk 3 (.bool (!vl)) (y:=qys _ rfl _ rfl) (s:=hS) (h:=?_)
   refine Z.ly ?_
   refine Z.r1 4 fun K hK=>?_
   refine qje _ _ rfl w.heap.size ⟨3,[],V,f,rz,l⟩ nz ⟨.slice none 0 0,.slice a1 V.length k1,.slice none 0 0,kk⟩ uz nW nz_w one HG.out rfl rfl ?_
   refine hK.out _ _ (hS.trans (Turn.setRow (F:=fun q=>q=w.heap.size) _ _ _ rfl) (fun _ q=>Or.inl q)) (fun hS=>?_)
   clear hK K
   try simp only [Act.put]
   refine Z.tk 5 (.bool (!vl)) (y:=y_assign _ rfl _ rfl) (s:=hS) (h:=?_)
   refine Z.ly ?_
   refine wpAnyH_done (by kernel_rfl) ?_ _
   clear hS
   go_wp2_with fail
   have hr3:=setRow_heap wr.drew w.heap.size _ (nc ⟨3,[],V,f,rz,l⟩ ⟨.slice none 0 0,.slice a1 V.length k1,.slice none 0 0,kk⟩).toArray _ _ HG.out
   refine bodyPost_ret (qch rfl _ _ w.heap.size _ _ _ nW (qah hr3) rfl rfl) rfl ?_
   have HI:itB (xs.take 16) y=if y.l then none else some ⟨3,[],V,f,rz,l⟩:=by unfold itB;rw [HX.out.1,HF.out,HV.out]
   have hbl:=HX.out.2.1
   have hvl:(itB (xs.take 16) y).isSome=!vl:=by rw [HI,←HVL.out];cases vl <;> rfl
   refine ⟨⟨3,[],V,f,rz,l⟩,⟨.slice none 0 0,.slice a1 V.length k1,.slice none 0 0,kk⟩,by rw [hvl];rfl,below_setRow HX.out.2.2.drew (by omega) _,nW,one,fun m hm=>?_⟩
   rw [HI] at hm
   split at hm
   ·cases hm
   ·rename_i hyl
    cases hm
    refine ⟨rfl,⟨qgb _ _,qgb _ _,fun {j r} hr=>?_,by show (0:Nat)≤_;omega,by show (0:Nat)≤_;omega,hbl.lb,fun a b ha hb hab a1' b1' g hg=>?_⟩,Or.inl ⟨rfl,HV.out,by simpa using hyl⟩⟩
    ·have ho:=hbl.own j r hr
     refine qdo (qai (qal ho (fun q _=>rfl)) (fun q hq=>by have:=(ho.lt q hq).1;omega)) (fun q hq=>?_) _
     have:=(ho.lt q hq).1
     omega
    ·match a,b with
     | 0,_=>cases hg
     | 2,_=>cases hg
     | _+3,0=>exact fun h=>by cases h
     | _+3,2=>exact fun h=>by cases h
     | a+3,b+3=>exact hbl.apart a b (by omega) (by omega) (by omega) g hg
end Go.Proofs.YtemcneddbhgadaaGreatDoor
