import Derived.Test.YtemcneddbhgadaaGreatDoorQSlzz
import Derived.Test.YtemcneddbhgadaaGreatDoorYrzz
import Derived.Deep.MidRow
import Derived.Deep.WholeRow
import Derived.Deep.Upon
import Derived.DeepKeys
import Derived.Test.YtemcneddbhgadaaGreatDoorONbzz
namespace Go.Proofs.YtemcneddbhgadaaGreatDoor
open Go.RowKit
theorem qek {w:World} {b o:Nat} {xs ys:List Value} (h:w.rangeAt b o (xs++ys)):w.rangeAt b o xs:=fun j v hv=>h j v (by rw [List.getElem?_append_left (List.getElem?_eq_some_iff.1 hv).1];exact hv)
theorem qcn {w:World} {b o:Nat} {xs ys:List Value} (h:w.rangeAt b o (xs++ys)):w.rangeAt b (o+xs.length) ys:=fun j v hv=>by
 have:=h (xs.length+j) v (by rw [List.getElem?_append_right (by omega),Nat.add_sub_cancel_left];exact hv)
 rw [←Nat.add_assoc] at this
 exact this
theorem qpg {w:World} {b o:Nat} {xs ys:List Value} (h1:w.rangeAt b o xs) (h2:w.rangeAt b (o+xs.length) ys):w.rangeAt b o (xs++ys):=fun j v hv=>by
 by_cases hj:j<xs.length
 ·rw [List.getElem?_append_left hj] at hv
  exact h1 j v hv
 ·rw [List.getElem?_append_right (by omega)] at hv
  have:=h2 (j - xs.length) v hv
  rw [show o+xs.length+(j - xs.length)=o+j by omega] at this
  exact this
theorem qfi {w:World} {b o:Nat} {x:Value} {xs:List Value} (h:w.rangeAt b o (x::xs)):w.cell? ⟨b,o,none⟩=some x∧w.rangeAt b (o+1) xs :=
 ⟨h 0 x rfl,fun j v hv=>by
  have:=h (j+1) v (by simpa using hv)
  rw [show o+(j+1)=o+1+j by omega] at this
  exact this⟩
theorem qa1 (w:World) (cs:List Value) (t:TypeId):(w.alloc (.cells cs.toArray t)).rangeAt w.heap.size 0 cs:=fun j v hv=>by
 rw [cell_of_row _ _ _ _ _ _ (heap_alloc_new w _),Nat.zero_add]
 simpa using hv
theorem qxw {w:World} {b o:Nat} {cs:List Value} (h:w.rangeAt b o cs) (h0:0<cs.length):b<w.heap.size:=World.block_lt_of_cell? _ _ (h 0 _ (List.getElem?_eq_getElem h0))
theorem qbj {w w':World} {b o:Nat} {cs:List Value} (h:w.rangeAt b o cs) (k:w'.heap[b]?=w.heap[b]?):w'.rangeAt b o cs:=fun j v hv=>(World.cell?_of_block (w:=w) k).trans (h j v hv)
theorem qay {w w':World} {b o:Nat} {cs:List Value} (h:w.rangeAt b o cs) (k:Below w.heap.size w w'):w'.rangeAt b o cs:=fun j v hv=>by
 have h1:=h j v hv
 rw [k.cell (World.block_lt_of_cell? _ _ h1)]
 exact h1
theorem qah {w:World} {b:Nat} {cs:List Value} {t:TypeId} {fr:Nat × Nat} (h:w.heap[b]?=some (.cells cs.toArray t fr)):w.rangeAt b 0 cs:=fun j v hv=>by
 rw [cell_of_row _ _ _ _ _ _ h,Nat.zero_add]
 simpa using hv
section
variable {ops:Array Oper} {rest:List Oper} {op:Oper} {a:Act} {w:World} {Q:Exit→Act→World→Prop}
theorem qbs {P:Program} (hw:Region.wanted op (yielded ops a.tmps)=true) (h:op.wp P a w (wpList P ops Q rest) Q):wpList P ops Q (op::rest) a w:=by
 unfold wpList
 rw [if_pos hw]
 exact Or.inl h
theorem qbt {P : Program} (hw : Region.wanted op (yielded ops a.tmps) = true) (ty : TypeId) (x : Operand) (ho : op.op = .load ty x)
    (b o:Nat) (hx:a.eval x=.pointer (some ⟨b,o,none⟩)) (cs:List Value) (d:TypeDesc) (hc:w.rangeAt b o cs)
    (hu:P.underlying ty=some d) (hd:d.isRow=true) (hi:(P.info? ty).map (·.size)=some cs.length)
    (h:wpList P ops Q rest (a.put op.dst (.agg cs.toArray)) w):wpList P ops Q (op::rest) a w :=
  qbs hw (wp_load_mid ty x ho b o hx cs d hc hu hd hi h)
end
theorem qxx:(Tryz.prog.info? 31).map (·.size)=some 32:=by kernel_rfl
theorem info26:(Tryz.prog.info? 107).map (·.size)=some 34:=by kernel_rfl
theorem qxy:(Tryz.prog.info? 110).map (·.size)=some 582:=by kernel_rfl
theorem mapM_some {α β:Type} (f:α→Option β) (g:α→β):∀l:List α,(∀x∈l,f x=some (g x))→l.mapM f=some (l.map g)
 | [],_=>rfl
 | x::l,h=>by
  rw [List.mapM_cons,h x (by simp),mapM_some f g l (fun y hy=>h y (by simp [hy]))]
  rfl
theorem quo (s:List Nat) (hs:s.length=32) (hf:∀x∈s,x<256) :
 Tryz.prog.keyLits 2 31 (bv s)=some (((List.range 32).map (fun i=>[Lit.int .u8 (gd s i:Nat)])).flatten):=by
 have c26:Tryz.prog.cellsOf 31=32:=by kernel_rfl
 have c5:Tryz.prog.cellsOf 5=1:=by kernel_rfl
 unfold Program.keyLits
 rw [Tryz.underlying31]
 simp only [bv_len,hs,c26,if_true]
 rw [mapM_some _ (fun i=>[Lit.int .u8 (gd s i:Nat)]) (List.range 32) ?_]
 ·rfl
 ·intro i hi
  have hi':i<32:=by simpa using hi
  have e:((bv s).drop (i*Tryz.prog.cellsOf 5)).take (Tryz.prog.cellsOf 5)=[.int .u8 (gd s i:Nat)]:=by
   rw [c5,Nat.mul_one]
   have h2:=bv_at (s:=s) (i:=i) (by omega)
   rw [List.getElem?_eq_getElem (by rw [bv_len];omega)] at h2
   rw [List.drop_eq_getElem_cons (by rw [bv_len];omega)]
   simp only [List.take_succ_cons,List.take_zero]
   rw [Option.some.inj h2]
  rw [e]
  unfold Program.keyLits
  rw [Tryz.underlying5]
  have wf:(Lit.int .u8 (gd s i:Nat)).wf=true:=by
   have:=gd_lt hf i
   simp [Lit.wf,IntKind.min,IntKind.max,IntKind.bits,IntKind.signed]
   omega
  simp only [wf,and_self,if_true]
theorem qxz {α:Type} (f:Nat→α) (l:List Nat):(l.map (fun i=>[f i])).flatten=l.map f:=by
 induction l with
 | nil=>rfl
 | cons a t ih=>simp [ih]
theorem qvp (s t:List Nat) (hs:s.length=32) (ht:t.length=32):((List.range 32).map (fun i=>[Lit.int .u8 (gd s i:Nat)])).flatten=((List.range 32).map (fun i=>[Lit.int .u8 (gd t i:Nat)])).flatten↔s=t:=by
 rw [qxz (fun i=>Lit.int .u8 (gd s i:Nat)),qxz (fun i=>Lit.int .u8 (gd t i:Nat))]
 constructor
 ·intro h
  refine ext_gd (by omega) (fun i hi=>?_)
  have h2:((List.range 32).map (fun i=>Lit.int .u8 (gd s i:Nat)))[i]?=((List.range 32).map (fun i=>Lit.int .u8 (gd t i:Nat)))[i]?:=by rw [h]
  rw [List.getElem?_map,List.getElem?_map,List.getElem?_range (by omega)] at h2
  have h3:=Option.some.inj h2
  injection h3 with _ h4
  exact Int.ofNat.inj h4
 ·rintro rfl
  rfl
theorem qf4 (w:World) (s t:List Nat) (hs:s.length=32) (hf:∀x∈s,x<256) (ht:t.length=32) (hg:∀x∈t,x<256) :
  (Op.equalIn 10000 31 (.agg (bv s).toArray) (.agg (bv t).toArray)).run Tryz.prog w=.ok (decide (s=t)) w:=by
  have K:Tryz.prog.keyTypeAt 2 31=true:=by kernel_rfl
  have c26:Tryz.prog.cellsOf 31=32:=by kernel_rfl
  have fm:∀r:List Nat,r.length=32→(Value.agg (bv r).toArray).formed Tryz.prog 31=true:=fun r hr=>by
    unfold Value.formed
    rw [Tryz.underlying31,c26]
    show ((bv r).toArray.size == 32)=true
    simp [bv_len,hr]
  have kl:=quo s hs hf
  have kl':=quo t ht hg
  obtain ⟨r,hr,hiff⟩:=run_equalIn_deep 9998 2 31 K w 2 2 (.agg (bv s).toArray) (.agg (bv t).toArray) _ _ (fm s hs) (fm t ht) (by simpa [Value.cells] using kl) (by simpa [Value.cells] using kl')
  have e:r=decide (s=t):=by
   rw [Bool.eq_iff_iff,hiff,decide_eq_true_eq]
   exact qvp s t hs ht
  rw [hr,e]
def rcs (r:Rf) (v:Value):List Value:=.int .i64 r.k::(bv r.h++[v])
theorem qa5 {r:Rf} (h:r.h.length=32) (v:Value):(rcs r v).length=34:=by simp [rcs,bv_len,h]
theorem qbm {w:World} {b o:Nat} {r:Rf} {v:Value} (hh:r.h.length=32) (h:w.rangeAt b o (rcs r v)):w.cell? ⟨b,o,none⟩=some (.int .i64 r.k)∧w.rangeAt b (o+1) (bv r.h)∧w.cell? ⟨b,o+33,none⟩=some v:=by
 obtain ⟨h1,h2⟩:=qfi h
 refine ⟨h1,qek h2,?_⟩
 have h3:=qcn h2
 rw [bv_len,hh] at h3
 have:=h3 0 v rfl
 rw [show o+1+32+0=o+33 by omega] at this
 exact this
structure Nv where
 p:Value
 v:Value
 x:Value
 k:Nat→Value
def kcs:List Rf→(Nat→Value)→List Value
 | [],_=>[]
 | r::l,k=>rcs r (k 0)++kcs l (fun i=>k (i+1))
theorem qvq {l:List Rf} (h:∀r∈l,r.h.length=32):∀k:Nat→Value,(kcs l k).length=l.length*34:=by
 induction l with
 | nil=>intro k;rfl
 | cons r l ih =>
  intro k
  rw [kcs,List.length_append,qa5 (h r (by simp)),ih (fun q hq=>h q (by simp [hq])),List.length_cons]
  omega
theorem qvr {w:World} {b:Nat} {l:List Rf} (h:∀r∈l,r.h.length=32):∀{o:Nat} {k:Nat→Value},w.rangeAt b o (kcs l k)→∀{i:Nat} {r:Rf},l[i]?=some r→w.rangeAt b (o+i*34) (rcs r (k i)):=by
 induction l with
 | nil=>intro o k _ i r hr;simp at hr
 | cons q l ih =>
  intro o k hR i r hr
  rw [kcs] at hR
  cases i with
  | zero =>
   simp at hr
   subst hr
   simpa using qek hR
  | succ i =>
   have:=qcn hR
   rw [qa5 (h q (by simp))] at this
   have:=ih (fun q hq=>h q (by simp [hq])) this (i:=i) (r:=r) (by simpa using hr)
   rw [show o+34+i*34=o+(i+1)*34 by omega] at this
   exact this
theorem qph {l:List Rf}:∀{k k':Nat→Value},(∀i,i<l.length→k i=k' i)→kcs l k=kcs l k':=by
 induction l with
 | nil=>intro k k' _;rfl
 | cons q l ih =>
  intro k k' h
  rw [kcs,kcs,h 0 (by simp),ih (fun i hi=>h (i+1) (by simpa using hi))]
def nc (n:Nd) (u:Nv):List Value:=.int .i64 n.k::u.p::u.v::.bool n.full::(rcs n.next u.x++kcs n.kids u.k)
theorem qdt {n:Nd} (h:n.W) (u:Nv):(nc n u).length=582:=by
 simp only [nc,List.length_cons,List.length_append]
 rw [qa5 h.next.1,qvq (fun r hr=>(h.kid r hr).1),h.kids]
theorem qd1 {n:Nd} (h:n.W) (u:Nv):(Tryz.prog.info? 110).map (·.size)=some (nc n u).length:=by rw [qdt h];exact qxy
theorem qdh {r:Rf} (h:r.h.length=32) (v:Value):(Tryz.prog.info? 107).map (·.size)=some (rcs r v).length:=by rw [qa5 h];exact info26
theorem qdi {s:List Nat} (h:s.length=32):(Tryz.prog.info? 31).map (·.size)=some (bv s).length:=by rw [bv_len,h];exact qxx
structure Nb (w:World) (b:Nat) (n:Nd) (u:Nv):Prop where
 k:w.cell? ⟨b,0,none⟩=some (.int .i64 n.k)
 p:w.cell? ⟨b,1,none⟩=some u.p
 v:w.cell? ⟨b,2,none⟩=some u.v
 f:w.cell? ⟨b,3,none⟩=some (.bool n.full)
 x:w.rangeAt b 4 (rcs n.next u.x)
 kid:∀{i:Nat} {r:Rf},n.kids[i]?=some r→w.rangeAt b (38+i*34) (rcs r (u.k i))
 all:w.rangeAt b 0 (nc n u)
theorem qnp {w:World} {b:Nat} {n:Nd} {u:Nv} (hw:n.W) (h:w.rangeAt b 0 (nc n u)):Nb w b n u:=by
 have h0:=h
 unfold nc at h
 obtain ⟨h1,h⟩:=qfi h
 obtain ⟨h2,h⟩:=qfi h
 obtain ⟨h3,h⟩:=qfi h
 obtain ⟨h4,h⟩:=qfi h
 have h5:=qcn h
 rw [qa5 hw.next.1] at h5
 exact ⟨h1,h2,h3,h4,qek h,fun hr=>qvr (fun r hr=>(hw.kid r hr).1) h5 hr,h0⟩
theorem Nb.keep {w w':World} {b:Nat} {n:Nd} {u:Nv} (h:Nb w b n u) (k:Below w.heap.size w w'):Nb w' b n u:=by
 have hl:b<w.heap.size:=World.block_lt_of_cell? _ _ h.k
 exact ⟨(k.cell hl).trans h.k,(k.cell hl).trans h.p,(k.cell hl).trans h.v,(k.cell hl).trans h.f,qay h.x k,fun hr=>qay (h.kid hr) k,qay h.all k⟩
theorem qba {n:Nd} (hw:n.W) (w:World) (u:Nv):Nb (w.alloc (.cells (nc n u).toArray 110)) w.heap.size n u:=qnp hw (qa1 w _ _)
structure Nin (w:World) (n:Nd) (u:Nv):Prop where
 W:n.W
 p:Vb w u.p n.path
 v:Vb w u.v n.val
 x:Vb w u.x n.next.b
 k:∀{i:Nat} {r:Rf},n.kids[i]?=some r→Vb w (u.k i) r.b
theorem Nin.keep {w w':World} {n:Nd} {u:Nv} (h:Nin w n u) (k:Below w.heap.size w w'):Nin w' n u :=
 ⟨h.W,Rel.keep h.p k,Rel.keep h.v k,Rel.keep h.x k,fun hr=>Rel.keep (h.k hr) k⟩
theorem qc0 (w:World):Vb w (.slice none 0 0) []:=⟨none,0,0,0,rfl,⟨fun h=>by simp at h,fun i hi=>by simp at hi,fun i hi=>by simp at hi,by simp⟩,by simp,fun _=>rfl,by simp⟩
theorem qeu {w:World} {v:Value} {s:List Nat} (h:Vb w v s):v.oneCell'=true:=by
 obtain ⟨a,b,off,c,rfl,-⟩:=h
 rfl
theorem qgn (s:List Nat):∀v∈bv s,v.oneCell'=true:=fun v hv=>by
 obtain ⟨x,-,rfl⟩:=List.mem_map.1 hv
 rfl
theorem qf5 {r:Rf} {v:Value} (h:v.oneCell'=true):∀x∈rcs r v,x.oneCell'=true:=fun x hx=>by
 rcases List.mem_cons.1 hx with rfl | hx
 ·rfl
 ·rcases List.mem_append.1 hx with hx | hx
  ·exact qgn _ _ hx
  ·rw [List.mem_singleton.1 hx];exact h
theorem qpi {l:List Rf}:∀{k:Nat→Value},(∀i,i<l.length→(k i).oneCell'=true)→∀x∈kcs l k,x.oneCell'=true:=by
 induction l with
 | nil=>intro k _ x hx;cases hx
 | cons q l ih =>
  intro k h x hx
  rw [kcs] at hx
  rcases List.mem_append.1 hx with hx | hx
  ·exact qf5 (h 0 (by simp)) x hx
  ·exact ih (fun i hi=>h (i+1) (by simpa using hi)) x hx
theorem Nin.one {w:World} {n:Nd} {u:Nv} (h:Nin w n u):(nc n u).toArray.all (·.oneCell')=true:=by
 refine all_oneCell_toArray (fun x hx=>?_)
 unfold nc at hx
 rcases List.mem_cons.1 hx with rfl | hx
 ·rfl
 ·rcases List.mem_cons.1 hx with rfl | hx
  ·exact qeu h.p
  ·rcases List.mem_cons.1 hx with rfl | hx
   ·exact qeu h.v
   ·rcases List.mem_cons.1 hx with rfl | hx
    ·rfl
    ·rcases List.mem_append.1 hx with hx | hx
     ·exact qf5 (qeu h.x) x hx
     ·exact qpi (fun i hi=>qeu (h.k (List.getElem?_eq_getElem hi))) x hx
def uz:Nv:=⟨.slice none 0 0,.slice none 0 0,.slice none 0 0,fun _=>.slice none 0 0⟩
theorem nz_w:nz.W:=⟨qcz,rz_w,fun r hr=>(qct hr) ▸ rz_w,fun x hx=>(by cases hx),fun x hx=>(by cases hx)⟩
theorem qa8 (w:World):Nin w nz uz:=⟨nz_w,qc0 w,qc0 w,qc0 w,fun hr=>by
 rw [qct (List.mem_of_getElem? hr)]
 exact qc0 w⟩
theorem qx0:(Tryz.prog.info? 110).map (fun i=>(i.zero,i.size))=some (some (.agg (nc nz uz).toArray),582):=by kernel_rfl
theorem zv29 (w:World):(zeroValue 110).run Tryz.prog w=.ok (.agg (nc nz uz).toArray) w:=(zero_of_info qx0).1 w
theorem qx1:(Tryz.prog.info? 107).map (fun i=>(i.zero,i.size))=some (some (.agg (rcs rz (.slice none 0 0)).toArray),34):=by kernel_rfl
theorem zv26 (w:World):(zeroValue 107).run Tryz.prog w=.ok (.agg (rcs rz (.slice none 0 0)).toArray) w:=(zero_of_info qx1).1 w
theorem qx2:(Tryz.prog.info? 31).map (fun i=>(i.zero,i.size))=some (some (.agg (bv z32).toArray),32):=by kernel_rfl
theorem zv24 (w:World):(zeroValue 31).run Tryz.prog w=.ok (.agg (bv z32).toArray) w:=(zero_of_info qx2).1 w
theorem fold_set (off : Nat) (xs : List Value) : ∀ (k : Nat) (cs : Array Value), off + k + xs.length ≤ cs.size →
    ((xs.zipIdx k).foldl (fun (cs:Array Value) (p:Value × Nat)=>cs.setIfInBounds (off+p.2) p.1) cs).size=cs.size ∧
    ∀i,((xs.zipIdx k).foldl (fun (cs:Array Value) (p:Value × Nat)=>cs.setIfInBounds (off+p.2) p.1) cs)[i]?=if off+k≤i∧i<off+k+xs.length then xs[i - (off+k)]? else cs[i]?:=by
  induction xs with
  | nil=>intro k cs _;exact ⟨rfl,fun i=>by rw [if_neg (by simp)];rfl⟩
  | cons x t ih =>
    intro k cs h
    simp only [List.length_cons] at h ⊢
    rw [List.zipIdx_cons,List.foldl_cons]
    obtain ⟨h1,h2⟩:=ih (k+1) (cs.setIfInBounds (off+k) x) (by rw [Array.size_setIfInBounds];omega)
    refine ⟨by rw [h1,Array.size_setIfInBounds],fun i=>?_⟩
    rw [h2 i]
    by_cases q:off+(k+1)≤i∧i<off+(k+1)+t.length
    · rw [if_pos q,if_pos (by omega),show i - (off+k)=(i - (off+(k+1)))+1 by omega,List.getElem?_cons_succ]
    · rw [if_neg q,Array.getElem?_setIfInBounds]
      by_cases q2:off+k=i
      · rw [if_pos q2,if_pos (by omega),if_pos (by omega),q2,Nat.sub_self]
        rfl
      · rw [if_neg q2,if_neg (by omega)]
section
variable {ops:Array Oper} {rest:List Oper} {op:Oper} {a:Act} {w:World} {Q:Exit→Act→World→Prop}
theorem qam (hw : Region.wanted op (yielded ops a.tmps) = true) (x y : Operand) (ho : op.op = .store 110 x y) (n m : Nd) (u t : Nv) (hn : n.W) (hm : m.W) (h1 : (nc n u).toArray.all (·.oneCell') = true)
    (hx:a.eval x=.pointer (some ⟨w.heap.size,0,none⟩)) (hy:a.eval y=.agg (nc n u).toArray) (h:wpList Tryz.prog ops Q rest (a.put op.dst undef) (w.alloc (.cells (nc n u).toArray 110))) :
    wpList Tryz.prog ops Q (op::rest) a (w.alloc (.cells (nc m t).toArray 110)):=by
  refine qbs hw (wp_store_row 110 x y ho w.heap.size (nc n u).toArray hx hy 110 (nc m t).toArray (heap_alloc_new _ _) (by rw [List.size_toArray];exact qd1 hn u) (by rw [List.size_toArray,List.size_toArray,qdt hn,qdt hm]) h1 ?_)
  rw [World.setRow_alloc_new]
  exact h
theorem qaf (x y : Operand) (ho : op.op = .store 110 x y) (b : Nat) (n m : Nd) (u t : Nv) (hn : n.W) (hm : m.W) (h1 : (nc n u).toArray.all (·.oneCell') = true) (hb : w.heap[b]? = some (.cells (nc m t).toArray 110 (0, 0)))
    (hx:a.eval x=.pointer (some ⟨b,0,none⟩)) (hy:a.eval y=.agg (nc n u).toArray) (h:wpList Tryz.prog ops Q rest (a.put op.dst undef) (w.setRow b (nc n u).toArray)) (hw:Region.wanted op (yielded ops a.tmps)=true:=by kernel_rfl) :
    wpList Tryz.prog ops Q (op::rest) a w :=
  qbs hw (wp_store_row 110 x y ho b (nc n u).toArray hx hy 110 (nc m t).toArray hb (by rw [List.size_toArray];exact qd1 hn u) (by rw [List.size_toArray,List.size_toArray,qdt hn,qdt hm]) h1 h)
theorem qcd (x y : Operand) (ho : op.op = .store 107 x y) (r q : Rf) (v t : Value) (hr : r.h.length = 32) (hq : q.h.length = 32) (h1 : v.oneCell' = true)
    (hx:a.eval x=.pointer (some ⟨w.heap.size,0,none⟩)) (hy:a.eval y=.agg (rcs r v).toArray) (h:wpList Tryz.prog ops Q rest (a.put op.dst undef) (w.alloc (.cells (rcs r v).toArray 107))) (hw:Region.wanted op (yielded ops a.tmps)=true:=by kernel_rfl) :
    wpList Tryz.prog ops Q (op::rest) a (w.alloc (.cells (rcs q t).toArray 107)):=by
  refine qbs hw (wp_store_row 107 x y ho w.heap.size (rcs r v).toArray hx hy 107 (rcs q t).toArray (heap_alloc_new _ _) (by rw [List.size_toArray];exact qdh hr v) (by rw [List.size_toArray,List.size_toArray,qa5 hr,qa5 hq]) (all_oneCell_toArray (qf5 h1)) ?_)
  rw [World.setRow_alloc_new]
  exact h
theorem qa3 (x y : Operand) (ho : op.op = .store 107 x y) (b : Nat) (r q : Rf) (v t : Value) (hr : r.h.length = 32) (hq : q.h.length = 32) (h1 : v.oneCell' = true) (hb : w.heap[b]? = some (.cells (rcs q t).toArray 107 (0, 0)))
    (hx:a.eval x=.pointer (some ⟨b,0,none⟩)) (hy:a.eval y=.agg (rcs r v).toArray) (h:wpList Tryz.prog ops Q rest (a.put op.dst undef) (w.setRow b (rcs r v).toArray)) (hw:Region.wanted op (yielded ops a.tmps)=true:=by kernel_rfl) :
    wpList Tryz.prog ops Q (op::rest) a w :=
  qbs hw (wp_store_row 107 x y ho b (rcs r v).toArray hx hy 107 (rcs q t).toArray hb (by rw [List.size_toArray];exact qdh hr v) (by rw [List.size_toArray,List.size_toArray,qa5 hr,qa5 hq]) (all_oneCell_toArray (qf5 h1)) h)
theorem qad (x:Operand) (ho:op.op=.load 110 x) (b:Nat) (n:Nd) (u:Nv) (hn:n.W) (hb:Nb w b n u) (hx:a.eval x=.pointer (some ⟨b,0,none⟩))
 (h:wpList Tryz.prog ops Q rest (a.put op.dst (.agg (nc n u).toArray)) w) (hw:Region.wanted op (yielded ops a.tmps)=true:=by kernel_rfl):wpList Tryz.prog ops Q (op::rest) a w :=
 qbt hw 110 x ho b 0 hx _ _ hb.all Tryz.underlying110 rfl (qd1 hn u) h
theorem qab (x:Operand) (ho:op.op=.load 107 x) (b o:Nat) (r:Rf) (v:Value) (hr:r.h.length=32) (hb:w.rangeAt b o (rcs r v)) (hx:a.eval x=.pointer (some ⟨b,o,none⟩))
 (h:wpList Tryz.prog ops Q rest (a.put op.dst (.agg (rcs r v).toArray)) w) (hw:Region.wanted op (yielded ops a.tmps)=true:=by kernel_rfl):wpList Tryz.prog ops Q (op::rest) a w :=
 qbt hw 107 x ho b o hx _ _ hb Tryz.underlying107 rfl (qdh hr v) h
theorem qaj (x:Operand) (ho:op.op=.load 31 x) (b o:Nat) (s:List Nat) (hs:s.length=32) (hb:w.rangeAt b o (bv s)) (hx:a.eval x=.pointer (some ⟨b,o,none⟩))
 (h:wpList Tryz.prog ops Q rest (a.put op.dst (.agg (bv s).toArray)) w) (hw:Region.wanted op (yielded ops a.tmps)=true:=by kernel_rfl):wpList Tryz.prog ops Q (op::rest) a w :=
 qbt hw 31 x ho b o hx _ _ hb Tryz.underlying31 rfl (qdi hs) h
theorem qfj (hw:Region.wanted op (yielded ops a.tmps)=true) (t:TypeId) (parts:Array (Nat × Operand)) (ho:op.op=.build t parts) (cells:Array Value)
 (hb:Tryz.prog.built t (parts.map fun (i,x)=>(i,a.eval x)).toList=some cells) (h:wpList Tryz.prog ops Q rest (a.put op.dst (.agg cells)) w):wpList Tryz.prog ops Q (op::rest) a w:=by
 refine qbs hw ?_
 unfold Oper.wp execOp
 simp only [ho,Sem.run_bind,run_build w t _ cells hb,Result.andThen_ok]
 exact h
theorem qvs:Tryz.prog.built 31 []=some (bv z32).toArray:=by kernel_rfl
theorem qvt:Tryz.prog.built 110 []=some (nc nz uz).toArray:=by kernel_rfl
theorem qvu:Tryz.prog.built 107 []=some (rcs rz (.slice none 0 0)).toArray:=by kernel_rfl
theorem qan (ho:op.op=.build 31 #[]) (h:wpList Tryz.prog ops Q rest (a.put op.dst (.agg (bv z32).toArray)) w) (hw:Region.wanted op (yielded ops a.tmps)=true:=by kernel_rfl):wpList Tryz.prog ops Q (op::rest) a w :=
 qfj hw _ _ ho _ (by simp only [List.map_toArray,List.map_nil];exact qvs) h
theorem qb4 (ho:op.op=.build 110 #[]) (h:wpList Tryz.prog ops Q rest (a.put op.dst (.agg (nc nz uz).toArray)) w) (hw:Region.wanted op (yielded ops a.tmps)=true:=by kernel_rfl):wpList Tryz.prog ops Q (op::rest) a w :=
 qfj hw _ _ ho _ (by simp only [List.map_toArray,List.map_nil];exact qvt) h
theorem qcr (ho:op.op=.build 107 #[]) (h:wpList Tryz.prog ops Q rest (a.put op.dst (.agg (rcs rz (.slice none 0 0)).toArray)) w) (hw:Region.wanted op (yielded ops a.tmps)=true:=by kernel_rfl):wpList Tryz.prog ops Q (op::rest) a w :=
 qfj hw _ _ ho _ (by simp only [List.map_toArray,List.map_nil];exact qvu) h
end
theorem qbd (w:World) (r:Rf) (v:Value) (t:TypeId):(w.alloc (.cells (rcs r v).toArray t)).rangeAt w.heap.size 0 (rcs r v):=qa1 w _ _
open Go.RowKit
def Nv.at (u:Nv):Nat→Value
 | 0=>u.p
 | 1=>u.v
 | 2=>u.x
 | i+3=>u.k i
structure Nout (lo:Nat) (w:World) (n:Nd) (u:Nv):Prop where
 W:n.W
 p:w.ownsRow lo 5 1 u.p n.path.length (bv n.path)
 v:w.ownsRow lo 5 1 u.v n.val.length (bv n.val)
 x:w.ownsRow lo 5 1 u.x n.next.b.length (bv n.next.b)
 k:∀{i:Nat} {r:Rf},n.kids[i]?=some r→w.ownsRow lo 5 1 (u.k i) r.b.length (bv r.b)
 lp:n.path.length≤1048576
 lv:n.val.length≤1048576
 lx:n.next.b.length≤1048576
 lk:∀r∈n.kids,r.b.length≤1048576
 apart:∀i j,i<19→j<19→i≠j→∀g,(u.at i).ownBlock=some g→(u.at j).ownBlock≠some g
theorem Nout.inn {lo:Nat} {w:World} {n:Nd} {u:Nv} (h:Nout lo w n u):Nin w n u :=
 ⟨h.W,qa9 h.p rfl h.W.path (by have:=h.lp;omega),qa9 h.v rfl h.W.val (by have:=h.lv;omega),qa9 h.x rfl h.W.next.2.2 (by have:=h.lx;omega),fun hr=>qa9 (h.k hr) rfl (h.W.kid _ (List.mem_of_getElem? hr)).2.2 (by have:=h.lk _ (List.mem_of_getElem? hr);omega)⟩
theorem qz6 (i:Nat):(uz.at i).ownBlock=none:=by
 match i with
 | 0=>rfl
 | 1=>rfl
 | 2=>rfl
 | _+3=>rfl
theorem qfr (lo:Nat) (w:World):Nout lo w nz uz :=
 ⟨nz_w,⟨rfl,Or.inl ⟨rfl,rfl⟩⟩,⟨rfl,Or.inl ⟨rfl,rfl⟩⟩,⟨rfl,Or.inl ⟨rfl,rfl⟩⟩,fun hr=>by rw [qct (List.mem_of_getElem? hr)];exact ⟨rfl,Or.inl ⟨rfl,rfl⟩⟩,by decide,by decide,by decide,fun r hr=>by rw [qct hr];decide,fun i j _ _ _ g hg=>by rw [qz6] at hg;cases hg⟩
def dN (s:List Nat):Nd:=(decN KD s).getD nz
def dE (s:List Nat):Nat:=if (decN KD s).isSome then 0 else 70
def quv (s:List Nat) (w:World) (e:Ending) (w':World):Prop :=
 ∃u,e=.returned (.tuple #[.agg (nc (dN s) u).toArray,.int .i64 ((dE s:Nat):Int)])∧Nout w.heap.size w' (dN s) u∧Below w.heap.size w w'
def qke (s:List Nat):Prop:=∀(w:World) (v:Value),Vb w v s→Calls Tryz.prog 107 #[v] w (quv s w)
set_option maxRecDepth 100000 in
set_option maxHeartbeats 800000 in
theorem qhi {w:World} {v:Value} {s:List Nat} (h:Vb w v s):Calls Tryz.prog 149 #[v] w fun e w'=>e=.returned (.bool (isV s))∧w'=w:=by
 obtain ⟨a,b,off,c,rfl,hv,hc,-,hl⟩:=h
 have HV:Hid (isV s=(decide (0<s.length) && decide (s.length≤256))):=rfl
 clear hv
 obtain ⟨n,en⟩:∃n,n=s.length:=⟨_,rfl⟩
 rw [←en] at hl ⊢
 have HN:Hid (n=s.length):=en
 clear en hc
 by_cases h0:0<n
 ·have i0:(0:Int)<n:=by omega
  by_cases h1:n≤256
  ·have i1:(n:Int)≤256:=by omega
   go_enter Tryz.func149,Tryz.ntmps149
   go_wp2_with fail
   go_ret
   rw [HV.out,←HN.out,decide_eq_true h0,decide_eq_true h1]
   exact ⟨rfl,rfl⟩
  ·have i1:¬(n:Int)≤256:=by omega
   go_enter Tryz.func149,Tryz.ntmps149
   go_wp2_with fail
   go_ret
   rw [HV.out,←HN.out,decide_eq_true h0,decide_eq_false h1]
   exact ⟨rfl,rfl⟩
 ·have i0:¬(0:Int)<n:=by omega
  go_enter Tryz.func149,Tryz.ntmps149
  go_wp2_with fail
  go_ret
  rw [HV.out,←HN.out,decide_eq_false h0]
  exact ⟨rfl,rfl⟩
theorem qwi {w:World} {v:Value} {s:List Nat} (leaf:Bool) (h:Vb w v s) :
 Calls Tryz.prog 150 #[v,.bool leaf] w fun e w'=>∃u,e=.returned (.tuple #[u,.int .i64 ((pkE s:Nat):Int)])∧Ans w w' u (pkR leaf s):=by
 obtain ⟨a,b,off,c,rfl,hv,hc,_⟩:=h
 exact qtc w a b off c s leaf hv hc
set_option maxRecDepth 100000 in
set_option maxHeartbeats 800000 in
theorem qlh {w:World} {v:Value} {s:List Nat} (h:Vb w v s):Calls Tryz.prog 139 #[v] w fun e w'=>e=.returned (.bool (decide (IsP s)))∧Below w.heap.size w w':=by
 have K:=qwi false h
 clear h
 by_cases hp:IsP s
 ·rw [decide_eq_true hp]
  rw [show pkE s=0 by unfold pkE;rw [if_pos hp]] at K
  clear hp
  go_enter Tryz.func139,Tryz.ntmps139
  go_wp2_with (go_at_call 150;refine K.mono ?_;rintro e w' ⟨u,rfl,ha⟩;have HB:Hid (Below w.heap.size w w'):=ha.below;clear ha)
  go_ret
  exact ⟨rfl,HB.out⟩
 ·rw [decide_eq_false hp]
  rw [show pkE s=60 by unfold pkE;rw [if_neg hp]] at K
  clear hp
  go_enter Tryz.func139,Tryz.ntmps139
  go_wp2_with (go_at_call 150;refine K.mono ?_;rintro e w' ⟨u,rfl,ha⟩;have HB:Hid (Below w.heap.size w w'):=ha.below;clear ha)
  go_ret
  exact ⟨rfl,HB.out⟩
theorem dN_k {s:List Nat} (hs:∀x∈s,x<256):KD s=if 32≤s.length then 0 else (dN s).k:=by
 rw [qsf hs]
 split
 ·rfl
 ·unfold dN
  cases decN KD s <;> rfl
set_option maxRecDepth 100000 in
set_option maxHeartbeats 800000 in
theorem qfs {w:World} {v:Value} {s:List Nat} (h:Vb w v s) (hD:s.length<32→qke s):Calls Tryz.prog 156 #[v] w fun e w'=>e=.returned (.int .i64 (KD s))∧Below w.heap.size w w':=by
 have hz:=zv29
 have hs:∀x∈s,x<256:=by obtain ⟨a,b,off,c,rfl,hv,-⟩:=h;exact (vw_ok hv).2
 have e0:=dN_k hs
 have K:=fun h1=>hD h1 w v h
 obtain ⟨a,b,off,c,rfl,hv,hc,-,hl⟩:=h
 clear hv hD
 by_cases h0:32≤s.length
 ·rw [if_pos h0] at e0
  have i0:(32:Int)≤s.length:=by omega
  rw [e0]
  clear e0 K
  go_enter Tryz.func156,Tryz.ntmps156
  go_wp2_with fail
  go_ret
  exact ⟨rfl,Below.refl _ _⟩
 ·rw [if_neg h0] at e0
  have i0:¬(32:Int)≤s.length:=by omega
  have K:=K (by omega)
  rw [e0]
  clear e0
  go_enter Tryz.func156,Tryz.ntmps156
  go_wp2_with (first
   | (go_at_call 107;refine K.mono ?_;rintro e w1 ⟨u,rfl,ho,hb⟩;have HO:Hid (Nout w.heap.size w1 (dN s) u∧Below w.heap.size w w1):=⟨ho,hb⟩;have hw:=ho.W;have h1:=ho.inn.one;clear ho hb)
   | (refine qam (by kernel_rfl) _ _ (by rfl) _ _ _ _ hw nz_w h1 (by rfl) (by rfl) ?_;have hk:=(qba hw w1 u).k))
  go_ret
  exact ⟨rfl,HO.out.2.alloc HO.out.2.size _⟩
structure Rin (w:World) (r:Rf) (v:Value):Prop where
 W:r.W
 b:Vb w v r.b
 D:r.k=2→r.b.length<32→qke r.b
theorem Rin.keep {w w':World} {r:Rf} {v:Value} (h:Rin w r v) (k:Below w.heap.size w w'):Rin w' r v:=⟨h.W,Rel.keep h.b k,h.D⟩
set_option maxRecDepth 100000 in
set_option maxHeartbeats 1600000 in
theorem qhj {w:World} {r:Rf} {v:Value} (h:Rin w r v):Calls Tryz.prog 151 #[.agg (rcs r v).toArray] w fun e w'=>e=.returned (.bool (isRf KD r))∧Below w.heap.size w w':=by
 obtain ⟨hW,hb,hD⟩:=h
 have B1:Below w.heap.size w (w.alloc (.cells (rcs r v).toArray 107)):=qaa _ _
 have hvn:Vb (w.alloc (.cells (rcs r v).toArray 107)) v r.b:=Rel.keep hb B1
 have K:=fun h2=>qfs hvn (hD h2)
 obtain ⟨c0,c1,c2⟩:=qbm hW.1 (qbd w r v 107)
 rw [Nat.zero_add] at c1 c2
 have heq:=fun w0=>qf4 w0 r.h z32 hW.1 hW.2.1 qac qco
 obtain ⟨a,b,off,c,rfl,hv,hc,-,hl⟩:=hb
 clear hv hvn
 have HI:Hid (isRf KD r=if r.k=0 then decide (r.h=z32) && decide (r.b.length=0) else if r.k=1 then decide (r.b.length=0) else if r.k=2 then decide (r.h=z32) && decide (KD r.b≠0) else false):=rfl
 obtain ⟨n,en⟩:∃n,n=r.b.length:=⟨_,rfl⟩
 rw [←en] at hl hc c2 K B1 ⊢ c0 c1
 have HN:Hid (n=r.b.length):=en
 have HB:Hid (Below w.heap.size w (w.alloc (.cells (rcs r (.slice a n c)).toArray 107))):=B1
 have hh:=hW.1
 clear en B1 hW
 by_cases k0:r.k=0
 ·rw [k0] at c0
  have HK:Hid (r.k=0):=k0
  clear k0 K
  by_cases hz:r.h=z32
  ·rw [decide_eq_true hz] at heq
   have HZ:Hid (r.h=z32):=hz
   clear hz
   by_cases h0:n=0
   ·subst h0
    go_enter Tryz.func151,Tryz.ntmps151
    go_wp2_with (first | refine qaj _ (by rfl) _ _ _ hh c1 (by rfl) ?_ | refine qan (by rfl) ?_)
    go_ret
    rw [HI.out,if_pos HK.out,decide_eq_true HZ.out,←HN.out]
    exact ⟨rfl,HB.out⟩
   ·have i0:¬(n:Int)=0:=by omega
    have i0b:((n:Int) == 0)=false:=by simpa using i0
    go_enter Tryz.func151,Tryz.ntmps151
    go_wp2_with (first | refine qaj _ (by rfl) _ _ _ hh c1 (by rfl) ?_ | refine qan (by rfl) ?_)
    go_ret
    rw [HI.out,if_pos HK.out,decide_eq_true HZ.out,←HN.out,decide_eq_false h0]
    exact ⟨rfl,HB.out⟩
  ·rw [decide_eq_false hz] at heq
   go_enter Tryz.func151,Tryz.ntmps151
   go_wp2_with (first | refine qaj _ (by rfl) _ _ _ hh c1 (by rfl) ?_ | refine qan (by rfl) ?_)
   go_ret
   rw [HI.out,if_pos HK.out,decide_eq_false hz]
   exact ⟨rfl,HB.out⟩
 ·have j0:(r.k == 0)=false:=by simpa using k0
  by_cases k1:r.k=1
  ·rw [k1] at c0
   have HK:Hid (r.k=1∧¬r.k=0):=⟨k1,k0⟩
   clear k0 k1 j0 K
   by_cases h0:n=0
   ·subst h0
    go_enter Tryz.func151,Tryz.ntmps151
    go_wp2_with fail
    go_ret
    rw [HI.out,if_neg HK.out.2,if_pos HK.out.1,←HN.out]
    exact ⟨rfl,HB.out⟩
   ·have i0:¬(n:Int)=0:=by omega
    have i0b:((n:Int) == 0)=false:=by simpa using i0
    go_enter Tryz.func151,Tryz.ntmps151
    go_wp2_with fail
    go_ret
    rw [HI.out,if_neg HK.out.2,if_pos HK.out.1,←HN.out,decide_eq_false h0]
    exact ⟨rfl,HB.out⟩
  ·have j1:(r.k == 1)=false:=by simpa using k1
   by_cases k2:r.k=2
   ·have K:=K k2
    rw [k2] at c0
    have HK:Hid (r.k=2∧¬r.k=1∧¬r.k=0):=⟨k2,k1,k0⟩
    clear k0 k1 k2 j0 j1
    by_cases hz:r.h=z32
    ·rw [decide_eq_true hz] at heq
     have HZ:Hid (r.h=z32):=hz
     clear hz
     obtain ⟨kd,ekd⟩:∃k,k=KD r.b:=⟨_,rfl⟩
     rw [←ekd] at K
     have HE:Hid (kd=KD r.b):=ekd
     clear ekd
     by_cases hk:kd=0
     ·subst hk
      go_enter Tryz.func151,Tryz.ntmps151
      go_wp2_with (first | refine qaj _ (by rfl) _ _ _ hh c1 (by rfl) ?_ | refine qan (by rfl) ?_ | (go_at_call 156;refine K.mono ?_;rintro e w1 ⟨rfl,hb1⟩;have HB1:Hid (Below w.heap.size w w1):=ch HB.out hb1;clear hb1))
      go_ret
      rw [HI.out,if_neg HK.out.2.2,if_neg HK.out.2.1,if_pos HK.out.1,decide_eq_true HZ.out,←HE.out]
      exact ⟨rfl,HB1.out⟩
     ·have i0b:(kd == 0)=false:=by simpa using hk
      have i0c:(kd != 0)=true:=by simpa using hk
      go_enter Tryz.func151,Tryz.ntmps151
      go_wp2_with (first | refine qaj _ (by rfl) _ _ _ hh c1 (by rfl) ?_ | refine qan (by rfl) ?_ | (go_at_call 156;refine K.mono ?_;rintro e w1 ⟨rfl,hb1⟩;have HB1:Hid (Below w.heap.size w w1):=ch HB.out hb1;clear hb1))
      go_ret
      rw [HI.out,if_neg HK.out.2.2,if_neg HK.out.2.1,if_pos HK.out.1,decide_eq_true HZ.out,←HE.out,decide_eq_true hk]
      exact ⟨rfl,HB1.out⟩
    ·rw [decide_eq_false hz] at heq
     clear K
     go_enter Tryz.func151,Tryz.ntmps151
     go_wp2_with (first | refine qaj _ (by rfl) _ _ _ hh c1 (by rfl) ?_ | refine qan (by rfl) ?_)
     go_ret
     rw [HI.out,if_neg HK.out.2.2,if_neg HK.out.2.1,if_pos HK.out.1,decide_eq_false hz]
     exact ⟨rfl,HB.out⟩
   ·have j2:(r.k == 2)=false:=by simpa using k2
    clear K
    go_enter Tryz.func151,Tryz.ntmps151
    go_wp2_with fail
    go_ret
    rw [HI.out,if_neg k0,if_neg k1,if_neg k2]
    exact ⟨rfl,HB.out⟩
set_option maxRecDepth 100000 in
set_option maxHeartbeats 1600000 in
theorem qf9 {w:World} {r:Rf} {v:Value} (hW:r.W) (hb:Vb w v r.b):Calls Tryz.prog 141 #[.agg (rcs r v).toArray] w fun e w'=>e=.returned (.bool (isNo r))∧Below w.heap.size w w':=by
 have B1:Below w.heap.size w (w.alloc (.cells (rcs r v).toArray 107)):=qaa _ _
 have rg:=qbd w r v 107
 obtain ⟨c0,-,-⟩:=qbm hW.1 rg
 have hh:=hW.1
 by_cases k0:r.k=0
 ·have K:=qhj ⟨hW,Rel.keep hb B1,fun h2=>by omega⟩
  have e:isNo r=isRf KD r:=by unfold isNo isRf;rw [if_pos k0,decide_eq_true k0];rfl
  rw [e]
  have HB:Hid (Below w.heap.size w (w.alloc (.cells (rcs r v).toArray 107))):=B1
  rw [k0] at c0
  obtain ⟨q,eq⟩:∃q,q=isRf KD r:=⟨_,rfl⟩
  rw [←eq] at K ⊢
  clear k0 e eq B1 hW hb
  go_enter Tryz.func141,Tryz.ntmps141
  go_wp2_with (first | refine qab _ (by rfl) _ _ _ _ hh rg (by rfl) ?_ | (go_at_call 151;refine K.mono ?_;rintro e w1 ⟨rfl,hb1⟩;have HB1:Hid (Below w.heap.size w w1):=ch HB.out hb1;clear hb1))
  go_ret
  exact ⟨rfl,HB1.out⟩
 ·have e:isNo r=false:=by unfold isNo;rw [decide_eq_false k0];rfl
  rw [e]
  have j0:(r.k == 0)=false:=by simpa using k0
  clear e
  go_enter Tryz.func141,Tryz.ntmps141
  go_wp2_with fail
  go_ret
  exact ⟨rfl,B1⟩
set_option maxRecDepth 100000 in
set_option maxHeartbeats 1600000 in
theorem qn2 {w:World} {r:Rf} {v:Value} (h:Rin w r v):Calls Tryz.prog 148 #[.agg (rcs r v).toArray] w fun e w'=>e=.returned (.bool (isNx KD r))∧Below w.heap.size w w':=by
 have B1:Below w.heap.size w (w.alloc (.cells (rcs r v).toArray 107)):=qaa _ _
 have rg:=qbd w r v 107
 have hh:=h.W.1
 obtain ⟨c0,c1,c2⟩:=qbm hh rg
 rw [Nat.zero_add] at c1 c2
 have KR:=qhj (h.keep B1)
 have KW:=fun h2=>qfs (h.keep B1).b (h.D h2)
 have heq:=fun w0=>qf4 w0 r.h z32 hh h.W.2.1 qac qco
 have HB:Hid (Below w.heap.size w (w.alloc (.cells (rcs r v).toArray 107))):=B1
 have HI:Hid (isNx KD r=if r.k=2 then decide (r.h=z32) && decide (KD r.b=3) else decide (r.k=1) && decide (r.b.length=0)):=rfl
 clear B1 h
 by_cases k2:r.k=2
 ·have KW:=KW k2
  rw [k2] at c0
  have HK:Hid (r.k=2):=k2
  clear k2 KR
  by_cases hz:r.h=z32
  ·rw [decide_eq_true hz] at heq
   have HZ:Hid (r.h=z32):=hz
   clear hz
   obtain ⟨kd,ekd⟩:∃k,k=KD r.b:=⟨_,rfl⟩
   rw [←ekd] at KW
   have HE:Hid (kd=KD r.b):=ekd
   clear ekd
   by_cases hk:kd=3
   ·subst hk
    go_enter Tryz.func148,Tryz.ntmps148
    go_wp2_with (first | refine qaj _ (by rfl) _ _ _ hh c1 (by rfl) ?_ | refine qan (by rfl) ?_ | (go_at_call 156;refine KW.mono ?_;rintro e w1 ⟨rfl,hb1⟩;have HB1:Hid (Below w.heap.size w w1):=ch HB.out hb1;clear hb1))
    go_ret
    rw [HI.out,if_pos HK.out,decide_eq_true HZ.out,←HE.out]
    exact ⟨rfl,HB1.out⟩
   ·have i0b:(kd == 3)=false:=by simpa using hk
    go_enter Tryz.func148,Tryz.ntmps148
    go_wp2_with (first | refine qaj _ (by rfl) _ _ _ hh c1 (by rfl) ?_ | refine qan (by rfl) ?_ | (go_at_call 156;refine KW.mono ?_;rintro e w1 ⟨rfl,hb1⟩;have HB1:Hid (Below w.heap.size w w1):=ch HB.out hb1;clear hb1))
    go_ret
    rw [HI.out,if_pos HK.out,decide_eq_true HZ.out,←HE.out,decide_eq_false hk]
    exact ⟨rfl,HB1.out⟩
  ·rw [decide_eq_false hz] at heq
   clear KW
   go_enter Tryz.func148,Tryz.ntmps148
   go_wp2_with (first | refine qaj _ (by rfl) _ _ _ hh c1 (by rfl) ?_ | refine qan (by rfl) ?_)
   go_ret
   rw [HI.out,if_pos HK.out,decide_eq_false hz]
   exact ⟨rfl,HB.out⟩
 ·have j2:(r.k == 2)=false:=by simpa using k2
  clear KW heq
  by_cases k1:r.k=1
  ·have e:isNx KD r=isRf KD r:=by unfold isRf;rw [HI.out,if_neg k2,if_neg (by omega),if_pos k1,decide_eq_true k1];rfl
   rw [e]
   obtain ⟨q,eq⟩:∃q,q=isRf KD r:=⟨_,rfl⟩
   rw [←eq] at KR ⊢
   rw [k1] at c0
   clear e eq k1 k2 j2
   go_enter Tryz.func148,Tryz.ntmps148
   go_wp2_with (first | refine qab _ (by rfl) _ _ _ _ hh rg (by rfl) ?_ | (go_at_call 151;refine KR.mono ?_;rintro e w1 ⟨rfl,hb1⟩;have HB1:Hid (Below w.heap.size w w1):=ch HB.out hb1;clear hb1))
   go_ret
   exact ⟨rfl,HB1.out⟩
  ·have j1:(r.k == 1)=false:=by simpa using k1
   clear KR
   go_enter Tryz.func148,Tryz.ntmps148
   go_wp2_with fail
   go_ret
   rw [HI.out,if_neg k2,decide_eq_false k1]
   exact ⟨rfl,HB.out⟩
end Go.Proofs.YtemcneddbhgadaaGreatDoor
