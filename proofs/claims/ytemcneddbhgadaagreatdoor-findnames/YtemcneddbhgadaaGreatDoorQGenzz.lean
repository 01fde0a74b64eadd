import Derived.Test.YtemcneddbhgadaaGreatDoorQSumMzz
import Derived.DeepKeys
import Derived.Test.YtemcneddbhgadaaGreatDoorQRMixzz
import Derived.Laws.IdiomStrings
import Derived.Lib.QuietBelow
import Derived.Deep.RegionLaw
import Derived.Deep.RegionHeld3
namespace Go.Proofs.YtemcneddbhgadaaGreatDoor.Dg
open Go.BigFrame
theorem mapM_some {α β:Type} (f:α→Option β) (g:α→β):∀l:List α,(∀x∈l,f x=some (g x))→l.mapM f=some (l.map g)
 | [],_=>rfl
 | x::l,h=>by
  rw [List.mapM_cons,h x (by simp),mapM_some f g l (fun y hy=>h y (by simp [hy]))]
  rfl
section
variable {P:Program}
theorem qe3 {ops : Array Oper} {rest : List Oper} {o : Oper} {a : Act} {w : World} {Q : Exit → Act → World → Prop} (hgd : Region.wanted o (yielded ops a.tmps) = true) (ty : TypeId) (x : Operand) (ho : o.op = .load ty x)
    (g:Nat) (hx:a.eval x=.pointer (some ⟨g,0,none⟩)) (cs:Array Value) (d:TypeDesc) (hc:∀j,j<cs.size→w.cell? ⟨g,j,none⟩=cs[j]?)
    (hu:P.underlying ty=some d) (hd:(match d with | .struct _ | .array _ _=>true | _=>false)=true) (hi:(P.info? ty).map (·.size)=some cs.size)
    (h:wpList P ops Q rest (a.put o.dst (.agg cs)) w):wpList P ops Q (o::rest) a w:=by
  refine wpList_want hgd fun K hK=>?_
  unfold Oper.wp execOp
  simp only [ho,hx,Instr.loadAt,Instr.sureAddr,Sem.run_bind,Sem.run_pure,Result.andThen_ok,qce w g ty cs d hc hu hd hi]
  exact hK _ _ h
end
def now {α:Type} (n:Nat) (k:Nat→α):α:=match n with | 0=>k 0 | m+1=>k (m+1)
theorem qib {α:Type} (n:Nat) (k:Nat→α):now n k=k n:=by cases n <;> rfl
def qut (k a b c d e f g h w:Nat) {α:Type} (r:Nat→Nat→α):α :=
 now (((((h+big1 e) % M+pick e f g) % M+k) % M+w) % M) fun x=>now ((x+(big0 a+most a b c) % M) % M) fun a'=>now ((d+x) % M) fun e'=>r a' e'
def qd3:List Nat→List Nat→Nat→Nat→Nat→Nat→Nat→Nat→Nat→Nat→W8
 | k::ks,w0::w1::w2::w3::w4::w5::w6::w7::w8::w9::w10::w11::w12::w13::w14::w15::r,a,b,c,d,e,f,g,h =>
  now (wnew w14 w9 w1 w0) fun w16 =>
   qut k a b c d e f g h w0 fun a' e'=>qd3 ks (w1::w2::w3::w4::w5::w6::w7::w8::w9::w10::w11::w12::w13::w14::w15::w16::r) a' a b c e' e f g
 | _,_,a,b,c,d,e,f,g,h=>⟨a,b,c,d,e,f,g,h⟩
theorem qj6 (k:Nat) (ks:List Nat) (w0 w1 w2 w3 w4 w5 w6 w7 w8 w9 w10 w11 w12 w13 w14 w15:Nat) (s:W8) :
  qd3 (k :: ks) [w0, w1, w2, w3, w4, w5, w6, w7, w8, w9, w10, w11, w12, w13, w14, w15] s.a s.b s.c s.d s.e s.f s.g s.h =
      qd3 ks [w1,w2,w3,w4,w5,w6,w7,w8,w9,w10,w11,w12,w13,w14,w15,wnew w14 w9 w1 w0] (qfl s k w0).a (qfl s k w0).b (qfl s k w0).c (qfl s k w0).d (qfl s k w0).e (qfl s k w0).f (qfl s k w0).g (qfl s k w0).h:=by
  rw [qd3,qib]
  unfold qut
  rw [qib,qib,qib]
  rfl
def win (B:Nat→Nat) (t:Nat):List Nat:=[sched B t,sched B (t+1),sched B (t+2),sched B (t+3),sched B (t+4),sched B (t+5),sched B (t+6),sched B (t+7),sched B (t+8),sched B (t+9),sched B (t+10),sched B (t+11),sched B (t+12),sched B (t+13),sched B (t+14),sched B (t+15)]
theorem qfn (B:Nat→Nat) (s:W8):∀(ks:List Nat) (t:Nat),(∀i,i<ks.length→ks[i]?=some (K (t+i))) →
 qd3 ks (win B t) (turns K (sched B) s t).a (turns K (sched B) s t).b (turns K (sched B) s t).c (turns K (sched B) s t).d (turns K (sched B) s t).e (turns K (sched B) s t).f (turns K (sched B) s t).g (turns K (sched B) s t).h=turns K (sched B) s (t+ks.length)
 | [],t,_=>by
  rw [qd3]
  ·rfl
  ·intro k ks' w0 w1 w2 w3 w4 w5 w6 w7 w8 w9 w10 w11 w12 w13 w14 w15 r h
   cases h
 | k::ks,t,h=>by
  have hk:k=K t:=by
   have:=h 0 (by simp)
   simpa using this
  unfold win
  rw [qj6]
  have e:wnew (sched B (t+14)) (sched B (t+9)) (sched B (t+1)) (sched B t)=sched B (t+16):=by
   rw [qc2 B (t:=t+16) (by omega)]
   rfl
  rw [e,hk]
  have ih:=qfn B s ks (t+1) (fun i hi=>by
   have:=h (i+1) (by simp;omega)
   rw [List.getElem?_cons_succ] at this
   rw [this,show t+(i+1)=t+1+i by omega])
  have e2:t+1+ks.length=t+(k::ks).length:=by simp;omega
  rw [e2] at ih
  rw [hk] at ih
  exact ih
def qj7:List Nat→List Nat
 | x0::x1::x2::x3::r=>now (((x0 <<< 24 ||| x1 <<< 16) ||| x2 <<< 8) ||| x3) fun w=>w::qj7 r
 | _=>[]
def eb (s:W8) (l:List Nat):W8 :=
 match s with
 | ⟨a,b,c,d,e,f,g,h⟩ =>
  match qd3 KL (qj7 l) a b c d e f g h with
  | ⟨a',b',c',d',e',f',g',h'⟩ =>
   now ((a+a') % M) fun a=>now ((b+b') % M) fun b=>now ((c+c') % M) fun c=>now ((d+d') % M) fun d=>now ((e+e') % M) fun e=>now ((f+f') % M) fun f=>now ((g+g') % M) fun g=>now ((h+h') % M) fun h=>⟨a,b,c,d,e,f,g,h⟩
def ego (T:Nat→Nat):Nat→Nat→W8→W8
 | 0,_,s=>s
 | f+1,k,s=>ego T f (k+1) (eb s ((List.range 64).map (fun i=>T (64*k+i))))
theorem qv1:List.range 64=[0,1,2,3,4,5,6,7,8,9,10,11,12,13,14,15,16,17,18,19,20,21,22,23,24,25,26,27,28,29,30,31,32,33,34,35,36,37,38,39,40,41,42,43,44,45,46,47,48,49,50,51,52,53,54,55,56,57,58,59,60,61,62,63]:=by decide
theorem qnt (B:Nat→Nat):qj7 ((List.range 64).map B)=win B 0:=by
 rw [qv1]
 simp only [List.map_cons,List.map_nil,qj7,qib]
 unfold win
 rw [qaw B (show 0<16 by decide),qaw B (show 0+1<16 by decide),qaw B (show 0+2<16 by decide),qaw B (show 0+3<16 by decide),qaw B (show 0+4<16 by decide),qaw B (show 0+5<16 by decide),qaw B (show 0+6<16 by decide),qaw B (show 0+7<16 by decide),qaw B (show 0+8<16 by decide),qaw B (show 0+9<16 by decide),qaw B (show 0+10<16 by decide),qaw B (show 0+11<16 by decide),qaw B (show 0+12<16 by decide),qaw B (show 0+13<16 by decide),qaw B (show 0+14<16 by decide),qaw B (show 0+15<16 by decide)]
 rfl
theorem qx9:∀i,i<KL.length→KL[i]?=some (K (0+i)):=by
 intro i hi
 rw [Nat.zero_add,List.getElem?_eq_getElem hi]
 unfold K
 rw [List.getD_eq_getElem?_getD,List.getElem?_eq_getElem hi]
 rfl
theorem qz1 (s:W8) (B:Nat→Nat):eb s ((List.range 64).map B)=qc1 s B:=by
 have h:=qfn B s KL 0 qx9
 rw [←qnt B] at h
 have h2:qd3 KL (qj7 ((List.range 64).map B)) s.a s.b s.c s.d s.e s.f s.g s.h=turns K (sched B) s 64:=h
 unfold eb qc1
 rw [←h2]
 cases s
 simp only [qib,plus]
theorem qj8 (T:Nat→Nat):∀f k,ego T f k (qav T k)=qav T (k+f)
 | 0,_=>rfl
 | f+1,k=>by
  rw [ego,qz1,show k+(f+1)=k+1+f by omega]
  exact qj8 T f (k+1)
theorem folds_ego (T:Nat→Nat) (k:Nat):qav T k=ego T k 0 H0:=by
 have:=qj8 T k 0
 rw [Nat.zero_add] at this
 exact this.symm
open Go.RowKit Go.Sort
structure Ground (w:World):Prop where
 first:qk6 w
 roots:qc3 w
 big:2<w.heap.size
theorem Ground.below {w w':World} (h:Ground w) (hb:Below w.heap.size w w'):Ground w' :=
 ⟨h.first.below hb (by have:=h.big;omega),h.roots.below hb h.big,Nat.lt_of_lt_of_le h.big hb.size⟩
theorem qp6 {w:World} {A:Option Addr} {b off m c:Nat} {Y:Nat→Nat} (hv:View w A b off m (fun i=>(Y i:Int))) (hc:m≤c) (hY:∀i,Y i<256) (t:TypeId) :
 qnu (w.alloc (.cells #[.slice A m c] t)) (some ⟨w.heap.size,0,none⟩) w.heap.size 0 1 (fun _=>A) (fun _=>b) (fun _=>off) (fun _=>m) (fun _=>c) (fun _=>Y):=by
 refine ⟨fun _=>rfl,fun i hi=>?_,fun i hi=>hv.below ((Below.refl _ _).alloc (Nat.le_refl _) _),fun i hi=>hc,fun _=>hY⟩
 have:i=0:=by omega
 subst this
 rw [cell_of_row _ _ _ _ t _ (heap_alloc_new w _)]
 rfl
theorem qp7 (m:Nat):tot (fun _=>m) 1=m:=by simp [tot]
theorem ch {a b c:World} (h1:Below a.heap.size a b) (h2:Below b.heap.size b c):Below a.heap.size a c:=h1.trans (h2.mono h1.size)
theorem qnv {P : Program} {ops : Array Oper} {C : World → Prop} {Q : Act → Prop} {a : Act} {o : Oper} {rest : List Oper} (hw : Region.wanted o (yielded ops a.tmps) = true) (ty : TypeId) (x : Operand) (ho : o.op = .load ty x)
    (g:Nat) (hx:a.eval x=.pointer (some ⟨g,0,none⟩)) (cs:Array Value) (d:TypeDesc) (hc:∀w,C w→∀j,j<cs.size→w.cell? ⟨g,j,none⟩=cs[j]?)
    (hu:P.underlying ty=some d) (hd:(match d with | .struct _ | .array _ _=>true | _=>false)=true) (hi:(P.info? ty).map (·.size)=some cs.size)
    (h:wpQuiet P ops C Q rest (a.put o.dst (.agg cs))):wpQuiet P ops C Q (o::rest) a:=by
  refine wpQuiet_step fun K hK=>?_
  rw [if_pos hw]
  refine ⟨.agg cs,fun w hC=>?_,hK _ h⟩
  unfold Oper.quietAt execOp
  simp only [ho,hx,Instr.loadAt,Instr.sureAddr,Sem.run_bind,Sem.run_pure,Result.andThen_ok,qce w g ty cs d (hc w hC) hu hd hi]
  exact ⟨rfl,rfl⟩
end Go.Proofs.YtemcneddbhgadaaGreatDoor.Dg
