import Derived.Test.YtemcneddbhgadaaGreatDoorRizz
import Derived.OwnWalk
import Derived.ArgAppend
import Derived.Test.YtemcneddbhgadaaGreatDoorGuzz
import Derived.Test.YtemcneddbhgadaaGreatDoorLfczz
namespace Go.Proofs.YtemcneddbhgadaaGreatDoor
open Go.RowKit
theorem qxo:(Tryz.prog.info? 191).map (fun i=>(i.zero,i.size,i.bytes))=some (some (.agg #[.bool false,.slice none 0 0,.slice none 0 0]),3,56):=by kernel_rfl
abbrev Bx (w:World) (g:Nat) (t:TypeId) (x y z:Value):Prop:=w.heap[g]?=some (.cells #[x,y,z] t (0,0))
theorem Bx.cells {w:World} {g:Nat} {t:TypeId} {x y z:Value} (h:Bx w g t x y z):w.cell? ⟨g,0,none⟩=some x∧w.cell? ⟨g,1,none⟩=some y∧w.cell? ⟨g,2,none⟩=some z∧∀j,w.frozen? ⟨g,j,none⟩=false:=by
 have q:∀j,w.cell? ⟨g,j,none⟩=#[x,y,z][j]?:=fun j=>cell_of_row _ _ _ _ _ _ h
 have r:w.rowIs g t 3 (fun i=>(#[x,y,z]:Array Value).getD i x):=⟨_,h,rfl,fun i hi=>by
  show _=some ((#[x,y,z]:Array Value).getD i x)
  rw [Array.getD_eq_getD_getElem?,Array.getElem?_eq_getElem (by simpa using hi)]
  rfl⟩
 exact ⟨q 0,q 1,q 2,fun j=>r.frozen j⟩
theorem Bx.lt {w:World} {g:Nat} {t:TypeId} {x y z:Value} (h:Bx w g t x y z):g<w.heap.size:=(Array.getElem?_eq_some_iff.1 h).1
theorem Bx.keep {w w':World} {g:Nat} {t:TypeId} {x y z:Value} (h:Bx w g t x y z) (k:w'.heap[g]?=w.heap[g]?):Bx w' g t x y z:=k.trans h
theorem Bx.set2 {w:World} {g:Nat} {t:TypeId} {x y z z':Value} (h:Bx w g t x y z):Bx (w.setCell ⟨g,2,none⟩ z') g t x y z':=by
 have hl:=h.lt
 simp only [Bx,World.setCell,Array.getElem?_modify,if_true] at h ⊢
 rw [h]
 rfl
theorem Bx.set3 {w:World} {g:Nat} {t:TypeId} {x y z x' y' z':Value} (h:Bx w g t x y z):Bx (set3 w g x' y' z') g t x' y' z':=by
 have hl:=h.lt
 simp only [Bx,Go.Proofs.YtemcneddbhgadaaGreatDoor.set3,World.setCell,Array.getElem?_modify,if_true] at h ⊢
 rw [h]
 rfl
structure Rl (w wr:World) (v:Value) (xs:List It) (ys:List (Bool × Value × Value)) (s t:Nat→Nat):Prop where
 own:wr.ownsRow (w.heap.size+2) 191 3 v xs.length (fl ys)
 len:ys.length=xs.length
 h1:∀i,i<xs.length→w.heap.size+2≤s i
 h2:∀i,i+1<xs.length→t i≤s (i+1)
 h3:∀i,i<xs.length→t i≤wr.heap.size
 h4:∀i,i<xs.length→s i≤t i
 hb:∀(i:Nat) (x:It) (y:Bool × Value × Value),xs[i]?=some x→ys[i]?=some y→y.1=x.l
 hr:∀(i:Nat) (x:It) (y:Bool × Value × Value),xs[i]?=some x→ys[i]?=some y→Own wr (s i) (t i) x y.2.1 y.2.2
 ap:∀q,v.ownBlock=some q→∀i,i<xs.length→q<s i∨t i≤q
 below:Below w.heap.size w wr
 res:Bx wr w.heap.size 191 (.bool false) (.slice none 0 0) (.slice none 0 0)
 box:Bx wr (w.heap.size+1) 191 (.bool true) (.slice none 0 0) v
theorem Rl.size {w wr:World} {v:Value} {xs:List It} {ys:List (Bool × Value × Value)} {s t:Nat→Nat} (h:Rl w wr v xs ys s t):w.heap.size+2≤wr.heap.size:=by have:=h.box.lt;omega
theorem Rl.start {w w2:World} (hb:Below w.heap.size w w2) (h1:Bx w2 w.heap.size 191 (.bool false) (.slice none 0 0) (.slice none 0 0)) (h2:Bx w2 (w.heap.size+1) 191 (.bool true) (.slice none 0 0) (.slice none 0 0)) :
 Rl w w2 (.slice none 0 0) [] [] (fun _=>0) (fun _=>0) :=
 ⟨⟨rfl,Or.inl ⟨rfl,rfl⟩⟩,rfl,fun i hi=>by simp at hi,fun i hi=>by simp at hi,fun i hi=>by simp at hi,fun i hi=>by simp at hi,fun i x y hx=>by simp at hx,fun i x y hx=>by simp at hx,fun q hq=>(by cases hq),hb,h1,h2⟩
theorem Rl.next {w wr w2 w5 : World} {v v' vb vi : Value} {xs : List It} {ys : List (Bool × Value × Value)} {s t : Nat → Nat} {y : It} {o o' : Obj} (h : Rl w wr v xs ys s t)
    (b2:Below (wr.alloc o).heap.size (wr.alloc o) w2) (ho:Own w2 (wr.alloc o).heap.size w2.heap.size y vb vi)
    (own':w5.ownsRow (w.heap.size+2) 191 3 v' (xs.length+1) (fl ys++[.bool y.l,vb,vi])) (gr:((set3 w2 wr.heap.size (.bool y.l) vb vi).alloc o').grownBy w5 v.ownBlock)
    (hg:∀g,v'.ownBlock=some g→v.ownBlock=some g∨w2.heap.size≤g) :
    Rl w (w5.setCell ⟨w.heap.size+1,2,none⟩ v') v' (xs++[y]) (ys++[(y.l,vb,vi)]) (fun i=>if i=xs.length then wr.heap.size+1 else s i) (fun i=>if i=xs.length then w2.heap.size else t i):=by
  have z0:=h.size
  have s1:(wr.alloc o).heap.size=wr.heap.size+1:=by simp
  rw [s1] at b2 ho
  have z2:=b2.size
  rw [s1] at z2
  have z5:w2.heap.size+1≤w5.heap.size:=by have:=gr.size;simpa using this
  have vlt:∀q,v.ownBlock=some q→w.heap.size+2≤q∧q<wr.heap.size:=fun q hq=>h.own.lt q hq
  have key:∀k,k<w2.heap.size→k≠wr.heap.size→v.ownBlock≠some k→k≠w.heap.size+1→(w5.setCell ⟨w.heap.size+1,2,none⟩ v').heap[k]?=w2.heap[k]?:=fun k k1 k2 k3 k4=>by
    rw [Below.heap_setCell _ _ _ _ (fun e=>k4 e),gr.block k (by simp;omega) (fun e=>k3 e.symm)]
    have e1:((set3 w2 wr.heap.size (.bool y.l) vb vi).alloc o').heap[k]?=(set3 w2 wr.heap.size (.bool y.l) vb vi).heap[k]?:=heap_alloc_old _ _ (by simp;omega)
    rw [e1]
    exact (qbl w2 wr.heap.size (.bool y.l) vb vi).block k k1 k2
  have old:∀k,k<wr.heap.size→w2.heap[k]?=wr.heap[k]?:=fun k hk=>by
    rw [b2.block k (by omega)]
    exact heap_alloc_old _ _ hk
  have n1:(xs++[y]).length=xs.length+1:=by simp
  refine ⟨?_,by simp [h.len],fun i hi=>?_,fun i hi=>?_,fun i hi=>?_,fun i hi=>?_,fun i x q hx hq=>?_,fun i x q hx hq=>?_,fun q hq i hi=>?_,?_,?_,?_⟩
  · rw [n1,qxn]
    refine qal own' (fun g hg'=>?_)
    exact Below.heap_setCell _ _ _ _ (fun e=>by have:=(own'.lt g hg').1;simp at e;omega)
  · rw [n1] at hi
    by_cases e:i=xs.length
    · simp only [if_pos e];omega
    · simp only [if_neg e];exact h.h1 i (by omega)
  · rw [n1] at hi
    by_cases e:i+1=xs.length
    · simp only [if_pos e,if_neg (show ¬i=xs.length by omega)]
      have:=h.h3 i (by omega)
      omega
    · simp only [if_neg e,if_neg (show ¬i=xs.length by omega)]
      exact h.h2 i (by omega)
  · rw [n1] at hi
    have e5:(w5.setCell ⟨w.heap.size+1,2,none⟩ v').heap.size=w5.heap.size:=by simp
    rw [e5]
    by_cases e:i=xs.length
    · simp only [if_pos e];omega
    · simp only [if_neg e]
      have:=h.h3 i (by omega)
      omega
  · rw [n1] at hi
    by_cases e:i=xs.length
    · simp only [if_pos e];omega
    · simp only [if_neg e];exact h.h4 i (by omega)
  · by_cases e:i<xs.length
    · rw [List.getElem?_append_left e] at hx
      rw [List.getElem?_append_left (by have:=h.len;omega)] at hq
      exact h.hb i x q hx hq
    · have hi:=(List.getElem?_eq_some_iff.1 hx).1
      rw [n1] at hi
      have e2:i=xs.length:=by omega
      subst e2
      rw [List.getElem?_append_right (by omega)] at hx
      rw [List.getElem?_append_right (by have:=h.len;omega)] at hq
      simp at hx
      simp [h.len] at hq
      subst hx
      subst hq
      rfl
  · by_cases e:i<xs.length
    · rw [List.getElem?_append_left e] at hx
      rw [List.getElem?_append_left (by have:=h.len;omega)] at hq
      simp only [if_neg (show ¬i=xs.length by omega)]
      have a1:=h.h1 i e
      have a3:=h.h3 i e
      refine (h.hr i x q hx hq).same (fun k k1 k2=>?_)
      rw [key k (by omega) (by omega) (fun e2=>by have:=h.ap k e2 i e;omega) (by omega),old k (by omega)]
    · have hi:=(List.getElem?_eq_some_iff.1 hx).1
      rw [n1] at hi
      have e2:i=xs.length:=by omega
      subst e2
      rw [List.getElem?_append_right (by omega)] at hx
      rw [List.getElem?_append_right (by have:=h.len;omega)] at hq
      simp at hx
      simp [h.len] at hq
      subst hx
      subst hq
      simp only [if_true]
      exact ho.same (fun k k1 k2=>key k k2 (by omega) (fun e2=>by have:=(vlt k e2).2;omega) (by omega))
  · rw [n1] at hi
    rcases hg q hq with hq' | hq'
    · have:=vlt q hq'
      by_cases e:i=xs.length
      · simp only [if_pos e];omega
      · simp only [if_neg e];exact h.ap q hq' i (by omega)
    · by_cases e:i=xs.length
      · simp only [if_pos e];omega
      · simp only [if_neg e]
        have:=h.h3 i (by omega)
        omega
  · refine ⟨?_,?_,?_,?_,fun k hk=>?_⟩
    · exact gr.os.trans (b2.os.trans h.below.os)
    · exact gr.tape.trans (b2.tape.trans h.below.tape)
    · exact gr.output.trans (b2.output.trans h.below.output)
    · have:(w5.setCell ⟨w.heap.size+1,2,none⟩ v').heap.size=w5.heap.size:=by simp
      omega
    · rw [key k (by omega) (by omega) (fun e2=>by have:=(vlt k e2).1;omega) (by omega),old k (by omega)]
      exact h.below.block k hk
  · refine h.res.keep ?_
    rw [key _ (by omega) (by omega) (fun e2=>by have:=(vlt _ e2).1;omega) (by omega),old _ (by omega)]
  · have:Bx w5 (w.heap.size+1) 191 (.bool true) (.slice none 0 0) v:=by
      refine h.box.keep ?_
      rw [gr.block _ (by simp;omega) (fun e2=>by have:=(vlt _ e2.symm).1;omega)]
      have e1:((set3 w2 wr.heap.size (.bool y.l) vb vi).alloc o').heap[w.heap.size+1]?=(set3 w2 wr.heap.size (.bool y.l) vb vi).heap[w.heap.size+1]?:=heap_alloc_old _ _ (by simp;omega)
      rw [e1,(qbl w2 wr.heap.size (.bool y.l) vb vi).block _ (by omega) (by omega),old _ (by omega)]
    exact this.set2
open Go.RowKit
open Go.RowKit
theorem qow {w:World} {B g n cap:Nat} {xs:List Value} (h:w.ownsRow B 5 1 (.slice (some ⟨g,0,none⟩) n cap) n xs):(∃f:Nat→Value,w.rowIs g 5 cap f∧∀i,i<n→xs[i]?=some (f i))∧n≤cap∧cap≤maxLen∧B≤g:=by
 rcases h.2 with ⟨h0,_⟩ | ⟨g',cap',cur,hv,hB,hg,hn,hm,hsz,htk⟩
 ·cases h0
 ·injection hv with h1 h2 h3
  injection h1 with h1
  injection h1 with h1
  subst h1
  subst h3
  refine ⟨⟨fun i=>cur.getD i (.int .u8 0),⟨cur,hg,by omega,fun i hi=>?_⟩,fun i hi=>?_⟩,hn,hm,hB⟩
  ·show cur[i]?=some (cur.getD i (.int .u8 0))
   rw [Array.getD_eq_getD_getElem?,Array.getElem?_eq_getElem (by omega)]
   rfl
  ·have c:=h.cellAt i (by omega)
   rw [cell_of_row w g i cur 5 (0,0) hg] at c
   show xs[i]?=some (cur.getD i (.int .u8 0))
   rw [←c,Array.getD_eq_getD_getElem?,Array.getElem?_eq_getElem (by omega)]
   rfl
theorem qox {w:World} {B g n cap:Nat} {f:Nat→Value} (r:w.rowIs g 5 cap f) (hB:B≤g) (hn:n≤cap) (hm:cap≤maxLen) (xs:List Value) (hl:xs.length=n) (hx:∀i,i<n→xs[i]?=some (f i)):w.ownsRow B 5 1 (.slice (some ⟨g,0,none⟩) n cap) n xs:=by
 obtain ⟨c,hg,hsz,hc⟩:=r
 refine ⟨by omega,Or.inr ⟨g,cap,c,rfl,hB,hg,hn,hm,by omega,?_⟩⟩
 apply List.ext_getElem?
 intro i
 rw [Nat.mul_one,List.getElem?_take]
 by_cases hi:i<n
 ·rw [if_pos hi,hx i hi]
  simpa using hc i (by omega)
 ·rw [if_neg hi,List.getElem?_eq_none (by omega)]
theorem qvi {w:World} {F:Nat→Prop} {g cap:Nat} {s m:List Nat} (h:Str w F (.slice (some ⟨g,0,none⟩) (s++m).length cap) (s++m)):Str w F (.slice (some ⟨g,0,none⟩) s.length cap) s:=by
 obtain ⟨⟨f,r,hf⟩,h1,h2,h3⟩:=qow h.own
 have hl:(s++m).length=s.length+m.length:=List.length_append
 have k:=h.ok
 refine ⟨qox r h3 (by omega) h2 (bv s) (bv_len s) (fun i hi=>?_),fun g hg=>h.foot g hg,⟨by have:=k.1;omega,fun x hx=>k.2 x (by simp [hx])⟩⟩
 have:=hf i (by omega)
 rw [bv,List.map_append,List.getElem?_append_left (by simpa using hi)] at this
 exact this
abbrev nilS:Value:=.slice none 0 0
theorem infoB:(Tryz.prog.info? 33).map (fun i=>(i.zero,i.size,i.bytes))=some (some nilS,1,24):=by kernel_rfl
set_option maxRecDepth 100000 in
open Go.RowKit
structure Ans (w w':World) (v:Value) (s:List Nat):Prop where
 own:w'.ownsRow w.heap.size 5 1 v s.length (bv s)
 byt:∀x∈s,x<256
 len:s.length≤140737488351232
 below:Below w.heap.size w w'
theorem Ans.view {w w':World} {v:Value} {s:List Nat} (h:Ans w w' v s):∃a g c,v=.slice a s.length c∧Vw w' a g 0 s∧s.length≤c∧(a=none→c=0):=by
 rcases h.own.2 with ⟨rfl,h0⟩ | ⟨g,cap,cur,rfl,hb,hg,h1,h2,h3,h4⟩
 ·exact ⟨none,0,0,by rw [h0],⟨fun k=>by omega,fun i hi=>by omega,fun i hi=>by omega,by omega⟩,by omega,fun _=>rfl⟩
 ·refine ⟨_,g,cap,rfl,⟨fun _=>rfl,fun i hi=>?_,fun i hi=>?_,by have:=h.len;omega⟩,h1,fun z=>by cases z⟩
  ·have:=h.own.cells (g:=g) rfl i _ (bv_at hi)
   rw [show (⟨g,0,none⟩:Addr).add i=⟨g,0+i,none⟩ by unfold Addr.add;split <;> simp_all] at this
   exact this
  ·have:=gd_lt h.byt i
   omega
theorem Ans.vb {w w':World} {v:Value} {s:List Nat} (h:Ans w w' v s):Vb w' v s:=by
 obtain ⟨a,g,c,e,hv,h1,h2⟩:=h.view
 exact ⟨a,g,0,c,e,hv,h1,h2,h.len⟩
theorem Ans.form {w w':World} {v:Value} {s:List Nat} (h:Ans w w' v s):∃a c,v=.slice a s.length c:=own_slice h.own
theorem qo1 {w w':World} (h:Below w.heap.size w w'):Ans w w' (.slice none 0 0) []:=⟨⟨rfl,Or.inl ⟨rfl,rfl⟩⟩,fun x hx=>(by cases hx),by simp,h⟩
structure qae (w w':World) (n:Nat) (Y:Nat→Nat):Prop where
 row:w'.rowIs w.heap.size 5 n (fun i=>.int .u8 ((Y i:Nat):Int))
 below:Below w.heap.size w w'
 size:w'.heap.size=w.heap.size+1
theorem qae.made (w:World) (n:Nat):qae w (w.alloc (.cells (madeCells #[.int .u8 0] n) 5)) n (fun _=>0) :=
 ⟨World.rowIs_made w _ n 5,(Below.refl _ _).alloc (Nat.le_refl _) _,by simp⟩
theorem qae.set {w w':World} {n:Nat} {Y:Nat→Nat} (h:qae w w' n Y) (i:Nat) (v:Nat):qae w (w'.setCell ⟨w.heap.size,i,none⟩ (.int .u8 (v:Nat))) n (fun j=>if j=i then v else Y j) :=
 ⟨(h.row.set i _).congr (fun j _=>by split <;> rfl),h.below.setCell (Nat.le_refl _) _,by simp [h.size]⟩
theorem below_drewN {B:Nat} {w w':World} (h:Below B w w') (q:Nat):Below B w (w'.drewN q):=⟨h.os,h.tape,h.output,h.size,fun k hk=>h.block k hk⟩
theorem qae.drewN {w w':World} {n:Nat} {Y:Nat→Nat} (h:qae w w' n Y) (q:Nat):qae w (w'.drewN q) n Y:=⟨h.row.of_block rfl,below_drewN h.below q,h.size⟩
theorem qae.drew {w w':World} {n:Nat} {Y:Nat→Nat} (h:qae w w' n Y):qae w w'.drew n Y:=⟨h.row.of_block rfl,below_drewN h.below 1,h.size⟩
theorem qae.congr {w w':World} {n:Nat} {Y X:Nat→Nat} (h:qae w w' n Y) (e:∀i,i<n→Y i=X i):qae w w' n X :=
 ⟨h.row.congr (fun i hi=>by rw [e i hi]),h.below,h.size⟩
theorem qae.ans {w w':World} {n:Nat} {Y:Nat→Nat} (h:qae w w' n Y) (hb:∀i,i<n→Y i<256) (hn:n≤140737488351232):Ans w w' (.slice (some ⟨w.heap.size,0,none⟩) n n) (lst n Y):=by
 refine ⟨?_,fun x hx=>?_,by rw [lst_len];exact hn,h.below⟩
 ·rw [lst_len]
  refine qox h.row (Nat.le_refl _) (Nat.le_refl _) (by unfold maxLen;omega) _ (by rw [bv_len,lst_len]) (fun i hi=>?_)
  rw [bv_at (by rw [lst_len];exact hi),lst_gd hi]
 ·unfold lst at hx
  obtain ⟨i,hi,rfl⟩:=List.mem_map.1 hx
  exact hb i (by simpa using hi)
def com (Z Y:Nat→Int):Nat→Nat
 | 0=>0
 | k+1=>if com Z Y k=k∧Z k=Y k then k+1 else com Z Y k
theorem ql5 (Z Y:Nat→Int) (k:Nat):com Z Y k≤k:=by
 induction k with
 | zero=>simp [com]
 | succ k ih=>simp only [com];split <;> omega
theorem ql6 (Z Y:Nat→Int) (k i:Nat) (h:i<com Z Y k):Z i=Y i:=by
 induction k with
 | zero=>simp [com] at h
 | succ k ih =>
  simp only [com] at h
  split at h
  ·rename_i hk
   by_cases e:i=k
   ·subst e;exact hk.2
   ·exact ih (by omega)
  ·exact ih h
theorem qos (Z Y:Nat→Int) (k:Nat) (h:com Z Y k<k):Z (com Z Y k)≠Y (com Z Y k):=by
 induction k with
 | zero=>simp at h
 | succ k ih =>
  simp only [com] at h ⊢
  split at h
  ·omega
  ·rename_i hk
   rw [if_neg hk]
   have:=ql5 Z Y k
   by_cases e:com Z Y k=k
   ·rw [e]
    intro he
    exact hk ⟨e,he⟩
   ·exact ih (by omega)
theorem qug (Z Y:Nat→Int) (m k:Nat) (hk:k≤m) (hs:∀i,i<k→Z i=Y i) (hp:k<m→Z k≠Y k):com Z Y m=k:=by
 have h1:=ql5 Z Y m
 by_cases hlt:com Z Y m<k
 ·exact absurd (hs _ hlt) (qos Z Y m (by omega))
 ·by_cases hgt:k<com Z Y m
  ·exact absurd (ql6 Z Y m k hgt) (hp (by omega))
  ·omega
theorem ql7 (Z Y:Nat→Int) (m k:Nat) (hk:k<m) (hs:∀i,i<k→Z i=Y i) (hp:Z k≠Y k):com Z Y m=k:=qug Z Y m k (by omega) hs (fun _=>hp)
theorem qkw (Z Y:Nat→Int) (m:Nat) (hs:∀i,i<m→Z i=Y i):com Z Y m=m:=qug Z Y m m (by omega) hs (fun h=>absurd h (by omega))
open Go.RowKit
theorem qis {k:IntKind} {a b:Int} (h:a=b):Ending.returned (.int k a)=.returned (.int k b):=by rw [h]
open Go.RowKit
set_option maxRecDepth 100000 in
set_option maxHeartbeats 3200000 in
theorem qfu (w:World) (a:Option Addr) (b off e c p:Nat) (s:List Nat) (_hv:Vp w a b off e c s) (hp:p<e) (hg:¬gd s p<192) :
 Calls Tryz.prog 143 #[.slice a e c,.int .i64 p,.int .i64 ((80 - 0:Nat):Int)] w (qas s 0 p e w):=by
 have HR:Hid (rd s 0 p e=.bad p 53):=by
  show _=_
  rw [qf2,if_neg (by omega),if_neg (by omega),if_neg hg,if_pos rfl]
 have KG:=fun w=>qcq w p 53
 have e80:((80 - 0:Nat):Int)=80:=by decide
 rw [e80]
 clear _hv hg
 go_enter Tryz.func143,Tryz.ntmps143
 go_wp2_with (go_at_call 134;refine (KG _).mono ?_;rintro e w' ⟨rfl,rfl⟩)
 exact ⟨rfl,by unfold qas;rw [HR.out];exact ⟨qaa _ _,rfl⟩⟩
set_option maxRecDepth 100000 in
set_option maxHeartbeats 3200000 in
theorem qjb (d : Nat) (hd : d + 1 ≤ 80) (KI : ∀ (w : World) (a : Option Addr) (b off e c p : Nat) (s : List Nat), Vp w a b off e c s → p ≤ e →
      Calls Tryz.prog 133 #[.slice a e c,.int .i64 p,.int .i64 ((80 - d:Nat):Int)] w (qas s d p e w))
    (w:World) (a:Option Addr) (b off e c p:Nat) (s:List Nat) (hv:Vp w a b off e c s) (hp:p<e) (hg:¬gd s p<192) :
    Calls Tryz.prog 143 #[.slice a e c,.int .i64 p,.int .i64 ((80 - (d+1):Nat):Int)] w (qas s (d+1) p e w):=by
  have he:e≤1048576:=by have:=hv.len;have:=hv.small;omega
  obtain ⟨dd,edd⟩:∃dd,dd=80 - (d+1):=⟨_,rfl⟩
  have hdd:dd<80:=by omega
  have ed2:80 - d=dd+1:=by omega
  rw [←edd]
  rw [ed2] at KI
  have i0:¬(80:Int)≤(dd:Int):=by omega
  have hb256:=gd_lt hv.ok p
  obtain ⟨w1,ew1⟩:∃w1,w1=w.alloc (.cells #[.bool false,.slice none 0 0,.slice none 0 0] 191):=⟨_,rfl⟩
  have b1:Below w.heap.size w w1:=by rw [ew1];exact qaa _ _
  have hv1:=hv.keep b1
  have K:=qgj w1 _ _ _ _ _ p 192 (gd s p - 192) s hv1 hp (by omega) (by omega)
  have HB1:Hid (Below w.heap.size w w1∧w1=w.alloc (.cells #[.bool false,.slice none 0 0,.slice none 0 0] 191)):=⟨b1,ew1⟩
  cases hh:qca s p e (gd s p - 192) with
  | bad q =>
    have HR:Hid (rd s (d+1) p e=.bad p q):=by
      show _=_
      rw [qf2,if_neg (by omega),if_neg (by omega),if_neg hg,if_neg (by omega),hh]
    rw [hh] at K
    clear KI hv hv1 edd ed2 hd b1 ew1 hh
    go_enter Tryz.func143,Tryz.ntmps143
    go_wp2_with fail
    rw [←HB1.out.2]
    refine K.mono ?_
    rintro r w2 ⟨rfl,rfl⟩
    go_wp2_with fail
    exact ⟨rfl,by unfold qas;rw [HR.out];exact ⟨HB1.out.1,rfl⟩⟩
  | ok A Z =>
    obtain ⟨k1,k2,k3,k4,-⟩:=qdz (base:=192) hv.ok hv.len hp (by omega) (by omega) hh
    have HR:Hid (rd s (d+1) p e=rdL (rd s d) (Z - A) A Z []):=by
      show _=_
      rw [qf2,if_neg (by omega),if_neg (by omega),if_neg hg,if_neg (by omega),hh]
      rfl
    rw [hh] at K
    have hcap:=hv.cap
    have j1:=qei a e c Z (by omega)
    have hvZ:=hv.upto k3
    have HV:Hid (Vp w a b off Z c s):=hvZ
    have HRO:Hid (∀at_ y z,at_≤Z→rd s d at_ Z=.ok y z→at_<z∧z≤Z):=fun at_ y z h1 h2=>by
      have:=qxl hv.ok d at_ Z y z (by have:=hv.len;omega) h1 h2
      exact ⟨this.1,this.2.1⟩
    obtain ⟨i25,hi0,hz0,hz1,hz2⟩:=info_parts qxo
    have HI:Hid (Tryz.prog.info? 191=some i25∧i25.zero=some (.agg #[.bool false,.slice none 0 0,.slice none 0 0])∧i25.size=3∧i25.bytes=56):=⟨hi0,hz0,hz1,hz2⟩
    have HKI:Hid (∀(w:World) (a:Option Addr) (b off e c p:Nat) (s:List Nat),Vp w a b off e c s→p≤e→Calls Tryz.prog 133 #[.slice a e c,.int .i64 p,.int .i64 ((dd:Int)+1)] w (qas s d p e w)):=by
      intro w a b off e c p s h1 h2
      have:=KI w a b off e c p s h1 h2
      rwa [show ((dd+1:Nat):Int)=(dd:Int)+1 by omega] at this
    have hsmall:Z≤1048576:=by omega
    clear KI hv hv1 hvZ edd ed2 hd b1 ew1 hh hi0 hz0 hz1 hz2
    go_enter Tryz.func143,Tryz.ntmps143
    go_wp2_with fail
    rw [←HB1.out.2]
    refine K.mono ?_
    rintro r w2 ⟨rfl,rfl⟩
    have b2:Below w2.heap.size w2 (w2.alloc (.cells #[.bool true,.slice none 0 0,.slice none 0 0] 191)):=qaa _ _
    have s2:w2.heap.size=w.heap.size+1:=by rw [HB1.out.2];simp
    have r0:Rl w (w2.alloc (.cells #[.bool true,.slice none 0 0,.slice none 0 0] 191)) (.slice none 0 0) [] [] (fun _=>0) (fun _=>0):=by
      refine Rl.start (ch HB1.out.1 b2) ?_ ?_
      · show _=_
        rw [heap_alloc_old _ _ (by omega),HB1.out.2]
        exact heap_alloc_new _ _
      · have:=heap_alloc_new w2 (.cells #[.bool true,.slice none 0 0,.slice none 0 0] 191)
        rw [s2] at this
        exact this
    have HS2:Hid (w2.heap.size=w.heap.size+1):=s2
    have HR0:Hid (Rl w (w2.alloc (.cells #[.bool true,.slice none 0 0,.slice none 0 0] 191)) (.slice none 0 0) [] [] (fun _=>0) (fun _=>0)):=r0
    clear b2 r0 s2
    go_wp2_with fail
    rw [HS2.out]
    go_loopg [8] (Z - A) (fun gg u wr=>∃(at_ n:Nat) (v:Value) (xs:List It) (ys:List (Bool × Value × Value)) (sf tf:Nat→Nat),A+xs.length≤at_∧at_≤Z∧gg=Z - at_∧Z - at_≤n∧u=.int .i64 at_∧rdL (rd s d) (Z - A) A Z []=rdL (rd s d) n at_ Z xs∧Rl w wr v xs ys sf tf)
    case atStart=>exact ⟨A,Z - A,_,[],[],_,_,by simp,k2,rfl,Nat.le_refl _,rfl,rfl,HR0.out⟩
    case round =>
      clear HR0
      obtain ⟨at_,n,v,xs,ys,sf,tf,hxa,haz,rfl,hn,rfl,hrl,hR⟩:=hrel
      have HRL:Hid (rdL (rd s d) (Z - A) A Z []=rdL (rd s d) n at_ Z xs):=hrl
      have HRR:Hid (Rl w wr v xs ys sf tf):=hR
      obtain ⟨av,cv,ev⟩:=own_slice hR.own
      subst ev
      obtain ⟨x0,x1,x2,xf⟩:=hR.box.cells
      have f2:=xf 2
      clear hrl hR xf
      by_cases hin:at_<Z
      · have i1:(at_:Int)<(Z:Int):=by omega
        obtain ⟨n',rfl⟩:∃n',n=n'+1:=⟨n - 1,by omega⟩
        have hbA:=qaa wr (.cells #[.bool false,.slice none 0 0,.slice none 0 0] 191)
        have KK:=HKI.out (wr.alloc (.cells #[.bool false,.slice none 0 0,.slice none 0 0] 191)) a b off Z c at_ s (HV.out.keep (ch HRR.out.below hbA)) haz
        have er : ∀ r w', qas s d at_ Z (wr.alloc (.cells #[.bool false, .slice none 0 0, .slice none 0 0] 191)) r w' → Below (wr.alloc (.cells #[.bool false, .slice none 0 0, .slice none 0 0] 191)).heap.size (wr.alloc (.cells #[.bool false, .slice none 0 0, .slice none 0 0] 191)) w' ∧ match rd s d at_ Z with
            | .ok x z=>∃vb vi,r=.returned (.tuple #[iv x.l vb vi,.int .i64 z])∧Own w' (wr.alloc (.cells #[.bool false,.slice none 0 0,.slice none 0 0] 191)).heap.size w'.heap.size x vb vi
            | .bad q c=>r=.panicked [flt q c]:=fun r w' h=>h
        have HRS:=HRL.out
        rw [rdL,if_pos hin] at HRS
        clear hbA
        cases hrd:rd s d at_ Z with
        | bad q cd =>
          rw [hrd] at er HRS
          have HX:Hid (rd s (d+1) p e=.bad q cd):=HR.out.trans HRS
          clear hrd HRS
          go_wp2_with fail
          refine KK.mono ?_
          intro r w3 hr
          obtain ⟨hb3,rfl⟩:=er r w3 hr
          have HZ:Hid (Below w.heap.size w w3):=ch (ch HRR.out.below (qaa wr _)) hb3
          clear hr hb3
          go_wp2_with fail
          exact ⟨rfl,by unfold qas;rw [HX.out];exact ⟨HZ.out,rfl⟩⟩
        | ok y z =>
          rw [hrd] at er HRS
          dsimp only at HRS
          have HX:Hid (rdL (rd s d) (Z - A) A Z []=rdL (rd s d) n' z Z (xs++[y])):=HRS
          have hz:=HRO.out at_ y z haz hrd
          clear hrd HRS
          go_wp2_with fail
          refine KK.mono ?_
          intro r w3 hr
          obtain ⟨hb3,vb,vi,rfl,ho⟩:=er r w3 hr
          obtain ⟨a1,n1,q1,a2,n2,q2,rfl,rfl⟩:=ho.lies.form
          have hz1:wr.heap.size<(wr.alloc (.cells #[.bool false,.slice none 0 0,.slice none 0 0] 191)).heap.size:=by simp
          have y0:Bx w3 wr.heap.size 191 (.bool false) (.slice none 0 0) (.slice none 0 0):=(hb3.block _ hz1).trans (heap_alloc_new _ _)
          have xb:Bx w3 (w.heap.size+1) 191 (.bool true) (.slice none 0 0) (.slice av xs.length cv):=(hb3.block _ (by have:=HRR.out.size;omega)).trans ((heap_alloc_old _ _ (by have:=HRR.out.size;omega)).trans HRR.out.box)
          obtain ⟨g0,g1,g2,gf⟩:=y0.cells
          have gf0:=gf 0
          have gf1:=gf 1
          have gf2:=gf 2
          have xs3:Bx (set3 w3 wr.heap.size (.bool y.l) (.slice a1 n1 q1) (.slice a2 n2 q2)) (w.heap.size+1) 191 (.bool true) (.slice none 0 0) (.slice av xs.length cv):=xb.keep ((qbl _ _ _ _ _).block _ xb.lt (by have:=HRR.out.size;omega))
          have y3:=y0.set3 (x':=.bool y.l) (y':=.slice a1 n1 q1) (z':=.slice a2 n2 q2)
          obtain ⟨xc0,xc1,xc2,-⟩:=xs3.cells
          obtain ⟨yc0,yc1,yc2,-⟩:=y3.cells
          have HZ:Hid (Below (wr.alloc (.cells #[.bool false,.slice none 0 0,.slice none 0 0] 191)).heap.size (wr.alloc (.cells #[.bool false,.slice none 0 0,.slice none 0 0] 191)) w3∧Own w3 (wr.alloc (.cells #[.bool false,.slice none 0 0,.slice none 0 0] 191)).heap.size w3.heap.size y (.slice a1 n1 q1) (.slice a2 n2 q2)):=⟨hb3,ho⟩
          have own4:((set3 w3 wr.heap.size (.bool y.l) (.slice a1 n1 q1) (.slice a2 n2 q2)).alloc (.cells #[.bool y.l,.slice a1 n1 q1,.slice a2 n2 q2] 191)).ownsRow (w.heap.size+2) 191 3 (.slice av xs.length cv) xs.length (fl ys):=by
            refine qal HRR.out.own (fun g hg=>?_)
            have hlt:=(HRR.out.own.lt g hg).2
            rw [heap_alloc_old _ _ (by have:=hb3.size;simp at this;simp;omega),(qbl w3 wr.heap.size (.bool y.l) (.slice a1 n1 q1) (.slice a2 n2 q2)).block g (by have:=hb3.size;simp at this;omega) (by omega),hb3.block g (by simp;omega)]
            exact heap_alloc_old _ _ hlt
          have nw:=World.news_of_block (w:=(set3 w3 wr.heap.size (.bool y.l) (.slice a1 n1 q1) (.slice a2 n2 q2)).alloc (.cells #[.bool y.l,.slice a1 n1 q1,.slice a2 n2 q2] 191)) (B:=w3.heap.size) (cs:=#[.bool y.l,.slice a1 n1 q1,.slice a2 n2 q2]) (t:=191) (fr:=(0,0)) (by have:=heap_alloc_new (set3 w3 wr.heap.size (.bool y.l) (.slice a1 n1 q1) (.slice a2 n2 q2)) (.cells #[.bool y.l,.slice a1 n1 q1,.slice a2 n2 q2] 191);rw [qjw] at this;exact this)
          have HO4:Hid (((set3 w3 wr.heap.size (.bool y.l) (.slice a1 n1 q1) (.slice a2 n2 q2)).alloc (.cells #[.bool y.l,.slice a1 n1 q1,.slice a2 n2 q2] 191)).ownsRow (w.heap.size+2) 191 3 (.slice av xs.length cv) xs.length (fl ys)):=own4
          have HNW:Hid (∀(j:Nat) (u:Value),#[Value.bool y.l,.slice a1 n1 q1,.slice a2 n2 q2].toList[j]?=some u→((set3 w3 wr.heap.size (.bool y.l) (.slice a1 n1 q1) (.slice a2 n2 q2)).alloc (.cells #[.bool y.l,.slice a1 n1 q1,.slice a2 n2 q2] 191)).cell? ((⟨w3.heap.size,0,none⟩:Addr).add j)=some u):=nw
          have hsz:w.heap.size+2≤w3.heap.size:=by have:=HRR.out.size;have:=hb3.size;simp at this;omega
          have hxl:xs.length+1≤1048576:=by omega
          obtain ⟨nx,enx⟩:∃nx,nx=xs.length:=⟨_,rfl⟩
          have HNX:Hid (nx=xs.length):=enx
          have HB9:Hid (∀w9,((set3 w3 wr.heap.size (.bool y.l) (.slice a1 n1 q1) (.slice a2 n2 q2)).alloc (.cells #[.bool y.l,.slice a1 n1 q1,.slice a2 n2 q2] 191)).grownBy w9 (Value.slice av xs.length cv).ownBlock→Bx w9 (w.heap.size+1) 191 (.bool true) (.slice none 0 0) (.slice av xs.length cv)):=fun w9 gr=>by
            refine xs3.keep ?_
            rw [gr.block _ (by simp;omega) (fun e2=>by have:=(HRR.out.own.lt _ e2.symm).1;omega)]
            exact heap_alloc_old _ _ (by simp;omega)
          clear hr hb3 ho y0 xb gf hz1 x0 x1 x2 f2 own4 nw
          go_wp2_with (refine wpList_append_lies _ (by rfl) (.tmp 37) (.tmp 39) 189 (by rfl) (w.heap.size+2) 191 i25 _ 3 56 Tryz.underlying189 HI.out.1 HI.out.2.1 HI.out.2.2.1 HI.out.2.2.2 (by rfl) (by decide) (.slice av xs.length cv) xs.length (fl ys) (by rfl) HO4.out ⟨w3.heap.size,0,none⟩ 1 1 [.bool y.l,.slice a1 n1 q1,.slice a2 n2 q2] (by rfl) (by rfl) HNW.out (by simp [Value.oneCell']) (by decide) (by unfold maxLen;omega) (by omega) (by simp;omega) _ (by rfl) ?_;intro g9 cap9 w9 own9 gr9 at9 lt9;obtain ⟨c90,c91,c92,c9f⟩:=(HB9.out w9 gr9).cells;have f92:=c9f 2;have HL9:Hid (w9.ownsRow (w.heap.size+2) 191 3 (.slice (some ⟨g9,0,none⟩) (xs.length+1) cap9) (xs.length+1) (fl ys++[.bool y.l,.slice a1 n1 q1,.slice a2 n2 q2])∧((set3 w3 wr.heap.size (.bool y.l) (.slice a1 n1 q1) (.slice a2 n2 q2)).alloc (.cells #[.bool y.l,.slice a1 n1 q1,.slice a2 n2 q2] 191)).grownBy w9 (Value.slice av xs.length cv).ownBlock∧((Value.slice av xs.length cv).ownBlock=some g9∨g9=((set3 w3 wr.heap.size (.bool y.l) (.slice a1 n1 q1) (.slice a2 n2 q2)).alloc (.cells #[.bool y.l,.slice a1 n1 q1,.slice a2 n2 q2] 191)).heap.size)):=⟨own9,gr9,at9⟩;clear own9 gr9 at9 lt9 c9f)
          have hN:=HRR.out.next HZ.out.1 HZ.out.2 HL9.out.1 HL9.out.2.1 (fun g hg=>by
            have e:g9=g:=Option.some.inj hg
            subst e
            rcases HL9.out.2.2 with q | q
            · exact Or.inl q
            · right;rw [q];simp)
          have HN:Hid (∃sf' tf',Rl w (w9.setCell ⟨w.heap.size+1,2,none⟩ (.slice (some ⟨g9,0,none⟩) (xs.length+1) cap9)) (.slice (some ⟨g9,0,none⟩) (xs.length+1) cap9) (xs++[y]) (ys++[(y.l,.slice a1 n1 q1,.slice a2 n2 q2)]) sf' tf'):=⟨_,_,hN⟩
          clear hN
          go_wp2_with fail
          go_roundg (Z - z)
          case measure=>omega
          case rel =>
            obtain ⟨sf',tf',hN⟩:=HN.out
            exact ⟨z,n',_,xs++[y],_,sf',tf',by simp;omega,hz.2,rfl,by omega,rfl,HX.out,hN⟩
      · have i1:¬(at_:Int)<(Z:Int):=by omega
        have ez:at_=Z:=by omega
        have hx:rdL (rd s d) n at_ Z xs=.ok (.mk true [] xs) Z:=by
          cases n with
          | zero=>rw [rdL]
          | succ n=>rw [rdL,if_neg hin]
        have HX:Hid (rd s (d+1) p e=.ok (.mk true [] xs) Z):=HR.out.trans (HRL.out.trans hx)
        obtain ⟨r0,r1,r2,rf⟩:=HRR.out.res.cells
        have rf0:=rf 0
        have rf1:=rf 1
        have rf2:=rf 2
        clear hx rf
        go_wp2_with fail
        refine bodyPost_ret (res2 rfl _ _ w.heap.size _ _ rfl rfl (qd0 (qbr r0 r1 r2).1 (qbr r0 r1 r2).2.1 (qbr r0 r1 r2).2.2)) rfl ?_
        have t3:=qbl wr w.heap.size (.bool true) (.slice none 0 0) (.slice av xs.length cv)
        have hsz:=HRR.out.size
        unfold qas
        rw [HX.out]
        refine ⟨HRR.out.below.trans (t3.below (fun i q=>by omega) (by omega)),_,_,rfl,?_⟩
        have hR:=HRR.out
        have ho:Own wr (w.heap.size+2) wr.heap.size (.mk true [] xs) (.slice none 0 0) (.slice av xs.length cv):=.lst ys sf tf hR.own (fun q hq=>(hR.own.lt q hq).2) hR.len (by omega) hR.h1 hR.h2 hR.h3 hR.h4 hR.hb hR.hr
        exact (ho.turn t3 (fun i q1 q2=>by omega) (Nat.le_refl _)).wide (by omega) (by simp)
theorem qtg (d : Nat) (hd : d ≤ 80) : (∀ (w : World) (a : Option Addr) (b off e c p : Nat) (s : List Nat), Vp w a b off e c s → p < e → ¬ gd s p < 192 →
      Calls Tryz.prog 143 #[.slice a e c,.int .i64 p,.int .i64 ((80 - d:Nat):Int)] w (qas s d p e w)) ∧
    (∀(w:World) (a:Option Addr) (b off e c p:Nat) (s:List Nat),Vp w a b off e c s→p≤e →
      Calls Tryz.prog 133 #[.slice a e c,.int .i64 p,.int .i64 ((80 - d:Nat):Int)] w (qas s d p e w)):=by
  induction d with
  | zero=>exact ⟨qfu,qgk 0 (by omega) qfu⟩
  | succ d ih =>
    have h:=qjb d hd (ih (by omega)).2
    exact ⟨h,qgk (d+1) hd h⟩
open Go.RowKit
section
variable {ops:Array Oper} {S:World→Prop} {o:Oper} {a:Act}
theorem y_move (x:Operand) (ho:o.op=.move x) (v:Value) (hx:a.eval x=v) (hw:Region.wanted o (yielded ops a.tmps)=true:=by kernel_rfl):YieldsIf Tryz.prog ops S o v a :=
 .inl ⟨hw,fun w _=>by unfold execOp;simp only [ho,hx];rfl⟩
theorem y_assign (x:Operand) (ho:o.op=.assign x) (v:Value) (hx:a.eval x=v) (hw:Region.wanted o (yielded ops a.tmps)=true:=by kernel_rfl):YieldsIf Tryz.prog ops S o v a :=
 .inl ⟨hw,fun w _=>by unfold execOp;simp only [ho,hx];rfl⟩
theorem y_no (hw:Region.wanted o (yielded ops a.tmps)=false:=by kernel_rfl):YieldsIf Tryz.prog ops S o undef a:=.inr ⟨hw,rfl⟩
theorem qap (x y z:Operand) (ho:o.op=.pick x y z) (v:Value) (hx:a.eval x=.bool true) (hy:a.eval y=v) (hw:Region.wanted o (yielded ops a.tmps)=true:=by kernel_rfl):YieldsIf Tryz.prog ops S o v a :=
 .inl ⟨hw,fun w _=>by
  unfold execOp
  simp only [ho,hx,hy]
  go_simp⟩
theorem y_pick_f (x y z:Operand) (ho:o.op=.pick x y z) (v:Value) (hx:a.eval x=.bool false) (hz:a.eval z=v) (hw:Region.wanted o (yielded ops a.tmps)=true:=by kernel_rfl):YieldsIf Tryz.prog ops S o v a :=
 .inl ⟨hw,fun w _=>by
  unfold execOp
  simp only [ho,hx,hz]
  go_simp⟩
theorem qax (x:Operand) (ho:o.op=.load 33 x) (g p:Nat) (hx:a.eval x=.pointer (some ⟨g,p,none⟩)) (v:Value) (hS:∀w,S w→w.cell? ⟨g,p,none⟩=some v) (hw:Region.wanted o (yielded ops a.tmps)=true:=by kernel_rfl):YieldsIf Tryz.prog ops S o v a :=
 .inl ⟨hw,fun w hs=>by
  have c:=hS w hs
  unfold execOp
  simp only [ho,hx]
  go_simp⟩
theorem qbh {Q : Exit → Act → World → Prop} {w : World} {K : Act → World → Prop} {E : Prop} (f : Nat) (x : Operand) (ts : Array TypeId) (ho : o.op = .call { callee := .value (.func f), args := #[x], argTypes := ts }) (hw : Region.wanted o (yielded ops a.tmps) = true) (u : Value) (hx : a.eval x = u)
    (eg:∀args w,(callFunc f args).run Tryz.prog w=.ok (.enter f args) w) (hc:Calls Tryz.prog f #[u] w fun e w'=>∃z,e=.returned z∧K (a.put o.dst z) w') :
    if Region.wanted o (yielded ops a.tmps)=true then Oper.wp Tryz.prog o a w K Q else E:=by
  rw [if_pos hw]
  have e:(execOp a.eval o).run Tryz.prog w=.ok (.enter f #[u]) w:=by
    unfold execOp
    have:=eg #[u] w
    simp only [ho,resolve,List.map_toArray,List.map_cons,List.map_nil,hx]
    go_simp
  unfold Oper.wp
  rw [e,Oper.upon_enter]
  refine hc.mono ?_
  rintro _ w' ⟨z,rfl,h⟩
  exact h
theorem qjd {Q : Exit → Act → World → Prop} {w : World} {K : Act → World → Prop} {E : Prop} (f : Nat) (x y : Operand) (ts : Array TypeId) (ho : o.op = .call { callee := .value (.func f), args := #[x, y], argTypes := ts }) (hw : Region.wanted o (yielded ops a.tmps) = true) (u v : Value) (hx : a.eval x = u) (hy : a.eval y = v)
    (eg:∀args w,(callFunc f args).run Tryz.prog w=.ok (.enter f args) w) (hc:Calls Tryz.prog f #[u,v] w fun e w'=>∃z,e=.returned z∧K (a.put o.dst z) w') :
    if Region.wanted o (yielded ops a.tmps)=true then Oper.wp Tryz.prog o a w K Q else E:=by
  rw [if_pos hw]
  have e:(execOp a.eval o).run Tryz.prog w=.ok (.enter f #[u,v]) w:=by
    unfold execOp
    have:=eg #[u,v] w
    simp only [ho,resolve,List.map_toArray,List.map_cons,List.map_nil,hx,hy]
    go_simp
  unfold Oper.wp
  rw [e,Oper.upon_enter]
  refine hc.mono ?_
  rintro _ w' ⟨z,rfl,h⟩
  exact h
end
end Go.Proofs.YtemcneddbhgadaaGreatDoor
