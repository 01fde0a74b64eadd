import Derived.Test.YtemcneddbhgadaaGreatDoorChecked
import Derived.Test.YtemcneddbhgadaaGreatDoorQCopyzz
import Derived.WalkKit
import Derived.Deep.OwnRows
import Derived.Deep.LoopGhost
import Derived.Deep.QuietTactic
import Derived.BigQuiet
import Derived.Deep.Light
import Derived.Laws.BytesArg
import Derived.WalkSmall
import Derived.Deep.RegionHeld3
import Derived.Deep.AppendLies
import Derived.Laws.AppendOwnNone
import Derived.Deep.DeepHandedRow
import Derived.ProofKit
import Derived.Laws.CopyOwn
import Derived.OwnWalk
import Derived.ArgAppend
import Derived.Deep.MidRow
import Derived.Lib.QuietBelow
import Derived.Laws.Bits64b
namespace Go.Proofs.YtemcneddbhgadaaGreatDoor
open Go.RowKit
theorem ch {a b c:World} (h1:Below a.heap.size a b) (h2:Below b.heap.size b c):Below a.heap.size a c:=h1.trans (h2.mono h1.size)
theorem Tryz.info5:(Tryz.prog.info? 5).map (fun i=>(i.zero,i.size,i.bytes))=some (some (.int .u8 0),1,1):=by kernel_rfl
structure View (w:World) (a:Option Addr) (b off n:Nat) (Z:Nat→Int):Prop where
 at_:0<n→a=some ⟨b,off,none⟩
 cell:∀i,i<n→w.cell? ⟨b,off+i,none⟩=some (.int .u8 (Z i))
 bd:∀i,i<n→0≤Z i∧Z i≤255
 len:n≤281474976710656
theorem View.lt {w:World} {a:Option Addr} {b off n:Nat} {Z:Nat→Int} (h:View w a b off n Z) (hn:0<n):b<w.heap.size :=
 World.block_lt_of_cell? _ _ (h.cell 0 hn)
theorem View.of_cells {w w':World} {a:Option Addr} {b off n:Nat} {Z:Nat→Int} (h:View w a b off n Z) (hc:∀p:Addr,p.block<w.heap.size→w'.cell? p=w.cell? p):View w' a b off n Z :=
 ⟨h.at_,fun i hi=>(hc _ (h.lt (by omega))).trans (h.cell i hi),h.bd,h.len⟩
theorem View.drewN {w:World} {a:Option Addr} {b off n:Nat} {Z:Nat→Int} (h:View w a b off n Z) (q:Nat):View (w.drewN q) a b off n Z :=
 h.of_cells fun p _=>by simp
theorem View.below {w w':World} {a:Option Addr} {b off n:Nat} {Z:Nat→Int} (h:View w a b off n Z) (hb:Below w.heap.size w w'):View w' a b off n Z :=
 h.of_cells fun _ hp=>hb.cell hp
theorem View.congr {w:World} {a:Option Addr} {b off n:Nat} {Z Y:Nat→Int} (h:View w a b off n Z) (e:∀i,i<n→Z i=Y i):View w a b off n Y :=
 ⟨h.at_,fun i hi=>by rw [←e i hi];exact h.cell i hi,fun i hi=>by rw [←e i hi];exact h.bd i hi,h.len⟩
structure Turn (F:Nat→Prop) (w w':World):Prop where
 os:w'.os=w.os
 tape:w'.tape=w.tape
 output:w'.output=w.output
 size:w.heap.size≤w'.heap.size
 block:∀k,k<w.heap.size→¬F k→w'.heap[k]?=w.heap[k]?
theorem Turn.refl (F:Nat→Prop) (w:World):Turn F w w:=⟨rfl,rfl,rfl,Nat.le_refl _,fun _ _ _=>rfl⟩
theorem Turn.trans {F G:Nat→Prop} {a b c:World} (h:Turn F a b) (k:Turn G b c) (hG:∀i,G i→F i∨a.heap.size≤i):Turn F a c :=
 ⟨k.os.trans h.os,k.tape.trans h.tape,k.output.trans h.output,Nat.le_trans h.size k.size,fun i hi hF =>
  (k.block i (Nat.lt_of_lt_of_le hi h.size) (fun g=>by rcases hG i g with q | q;exact hF q;omega)).trans (h.block i hi hF)⟩
theorem Turn.mono {F G:Nat→Prop} {a b:World} (h:Turn F a b) (hFG:∀i,F i→G i∨a.heap.size≤i):Turn G a b :=
 ⟨h.os,h.tape,h.output,h.size,fun i hi hG=>h.block i hi (fun f=>by rcases hFG i f with q | q;exact hG q;omega)⟩
theorem Turn.of_below {F:Nat→Prop} {w w':World} (h:Below w.heap.size w w'):Turn F w w':=⟨h.os,h.tape,h.output,h.size,fun k hk _=>h.block k hk⟩
theorem Turn.of_grown {F:Nat→Prop} {w w':World} {row:Option Nat} (h:w.grownBy w' row) (hr:∀k,row=some k→F k):Turn F w w' :=
 ⟨h.os,h.tape,h.output,h.size,fun k hk hF=>h.block k hk (fun e=>hF (hr k e.symm))⟩
theorem Turn.setCell {F:Nat→Prop} (w:World) (a:Addr) (v:Value) (hb:F a.block):Turn F w (w.setCell a v) :=
 ⟨rfl,rfl,rfl,by simp [World.setCell],fun k _ hk=>Below.heap_setCell _ _ _ _ (fun e=>hk (e ▸ hb))⟩
theorem Turn.setRow {F:Nat→Prop} (w:World) (g:Nat) (cs:Array Value) (hb:F g):Turn F w (w.setRow g cs) :=
 ⟨rfl,rfl,rfl,by simp,fun k _ hk=>setRow_other w g k cs (fun e=>hk (e ▸ hb))⟩
theorem Turn.alloc {F:Nat→Prop} (w:World) (o:Obj):Turn F w (w.alloc o):=Turn.of_below ((Below.refl _ _).alloc (Nat.le_refl _) _)
theorem Turn.drew {F:Nat→Prop} (w:World):Turn F w w.drew:=⟨rfl,rfl,rfl,Nat.le_refl _,fun _ _ _=>rfl⟩
theorem Turn.below {F:Nat→Prop} {w w':World} (h:Turn F w w') {B:Nat} (hF:∀i,F i→B≤i) (hB:B≤w.heap.size):Below B w w' :=
 ⟨h.os,h.tape,h.output,h.size,fun k hk=>h.block k (by omega) (fun f=>by have:=hF k f;omega)⟩
theorem Turn.cell {F:Nat→Prop} {w w':World} (h:Turn F w w') {q:Addr} (hq:q.block<w.heap.size) (hp:¬F q.block):w'.cell? q=w.cell? q:=World.cell?_of_block (w:=w) (h.block q.block hq hp)
theorem View.turn {F:Nat→Prop} {w w':World} {a:Option Addr} {b off n:Nat} {Z:Nat→Int} (h:View w a b off n Z) (hs:Turn F w w') (hb:0<n→¬F b):View w' a b off n Z :=
 ⟨h.at_,fun i hi=>(hs.cell (q:=⟨b,off+i,none⟩) (h.lt (by omega)) (hb (by omega))).trans (h.cell i hi),h.bd,h.len⟩
theorem own_turn {F:Nat→Prop} {w w':World} {base e size n:Nat} {v:Value} {xs:List Value} (h:w.ownsRow base e size v n xs) (hs:Turn F w w') (hv:∀g,v.ownBlock=some g→¬F g):w'.ownsRow base e size v n xs:=by
 have hlt:=h.lt
 obtain ⟨h1,h2⟩:=h
 refine ⟨h1,?_⟩
 rcases h2 with hn | ⟨g,cap,cur,rfl,hb,hg,rest⟩
 ·exact Or.inl hn
 ·exact Or.inr ⟨g,cap,cur,rfl,hb,(hs.block g (hlt g rfl).2 (hv g rfl)).trans hg,rest⟩
def Bs (s:List Nat):Prop:=s.length≤281474976710656∧∀x∈s,x<256
def bv (s:List Nat):List Value:=s.map (fun x:Nat=>Value.int .u8 (x:Int))
theorem bv_len (s:List Nat):(bv s).length=s.length:=by simp [bv]
theorem gd_lt {s:List Nat} (h:∀x∈s,x<256) (i:Nat):gd s i<256:=by
 unfold gd
 rw [List.getD_eq_getElem?_getD]
 cases hi:s[i]? with
 | none=>decide
 | some x=>exact h x (List.mem_of_getElem? hi)
theorem bv_at {s:List Nat} {i:Nat} (h:i<s.length):(bv s)[i]?=some (.int .u8 (gd s i:Nat)):=by
 unfold bv
 rw [List.getElem?_map,List.getElem?_eq_getElem h,gd_get h]
 rfl
abbrev Vw (w:World) (a:Option Addr) (b off:Nat) (s:List Nat):Prop:=View w a b off s.length (fun i=>((gd s i:Nat):Int))
theorem vw_ok {w:World} {a:Option Addr} {b off:Nat} {s:List Nat} (h:Vw w a b off s):Bs s :=
 ⟨h.len,fun x hx=>by
  obtain ⟨i,hi,rfl⟩:=List.getElem_of_mem hx
  have:=h.bd i hi
  rw [gd_get hi]
  omega⟩
def lst (n:Nat) (Y:Nat→Nat):List Nat:=(List.range n).map Y
theorem lst_len (n:Nat) (Y:Nat→Nat):(lst n Y).length=n:=by simp [lst]
theorem lst_gd {n:Nat} {Y:Nat→Nat} {i:Nat} (h:i<n):gd (lst n Y) i=Y i:=by
 unfold gd lst
 rw [List.getD_eq_getElem?_getD,List.getElem?_map,List.getElem?_range h]
 rfl
structure Str (w:World) (F:Nat→Prop) (u:Value) (s:List Nat):Prop where
 own:w.ownsRow 0 5 1 u s.length (bv s)
 foot:∀g,u.ownBlock=some g→F g
 ok:Bs s
theorem Str.view {w:World} {F:Nat→Prop} {u:Value} {s:List Nat} (h:Str w F u s):∃a g c,u=.slice a s.length c∧s.length≤c∧Vw w a g 0 s∧(0<s.length→F g∧g<w.heap.size):=by
 have hf:=h.foot
 have hl:=h.own.lt
 obtain ⟨hn,ho⟩:=h.own
 rcases ho with ⟨rfl,h0⟩ | ⟨g,cap,cur,rfl,hb,hg,h1,h2,h3,h4⟩
 ·refine ⟨none,0,0,by rw [h0],by omega,⟨fun k=>by omega,fun i hi=>by omega,fun i hi=>by omega,by omega⟩,fun k=>by omega⟩
 ·refine ⟨_,g,cap,rfl,h1,⟨fun _=>rfl,fun i hi=>?_,fun i hi=>?_,h.ok.1⟩,fun _=>⟨hf g rfl,(hl g rfl).2⟩⟩
  ·have:=h.own.cells (g:=g) rfl i _ (bv_at hi)
   rw [show (⟨g,0,none⟩:Addr).add i=⟨g,0+i,none⟩ by unfold Addr.add;split <;> simp_all] at this
   exact this
  ·have:=gd_lt h.ok.2 i
   omega
theorem Str.turn {F G:Nat→Prop} {w w':World} {u:Value} {s:List Nat} (h:Str w F u s) (hs:Turn G w w') (hd:∀i,F i→i<w.heap.size→¬G i):Str w' F u s :=
 ⟨own_turn h.own hs (fun g hg=>hd g (h.foot g hg) (h.own.lt g hg).2),h.foot,h.ok⟩
def vals (Y:Nat→Int) (j:Nat):List Value:=(List.range j).map (fun i=>Value.int .u8 (Y i))
theorem vals_succ (Y:Nat→Int) (j:Nat):vals Y j++[.int .u8 (Y j)]=vals Y (j+1):=by
 unfold vals
 rw [List.range_succ]
 simp
theorem ql8 (Y:Nat→Int) (j:Nat):vals Y j++[.int .u8 (Y j),.int .u8 (Y (j+1))]=vals Y (j+2):=by
 rw [show j+2=(j+1)+1 by omega,←vals_succ Y (j+1),←vals_succ Y j]
 simp
def str (n:Nat) (Z:Nat→Int):ByteArray:=strOfNums ((List.range n).map Z)
theorem qjr {w:World} {a:Option Addr} {b off n:Nat} {Z:Nat→Int} (h:View w a b off n Z) (c:Nat) :
 (convert 33 9 (.slice a n c)).run Tryz.prog w=.ok (.string (str n Z)) w:=by
 by_cases hn:n=0
 ·subst hn
  rw [run_convert_bytes_string w 33 9 5 _ 0 c Tryz.underlying33 Tryz.underlying5 Tryz.underlying9]
  cases a with
  | none=>simp [Conv.bytesToString,str,strOfNums];rfl
  | some p =>
   rw [run_bytesToString w p 0 c [] (by simpa using run_loadCells_list (P:=Tryz.prog) w p [] (fun j v hj=>by simp at hj))]
   simp [str,strOfNums];rfl
 ·obtain rfl:=h.at_ (by omega)
  exact run_convert_bytes_arg (P:=Tryz.prog) w 33 5 Tryz.underlying33 Tryz.underlying5 b off n c ((List.range n).map Z) (by simp) (fun i hi=>by rw [h.cell i hi];simp [hi]) 9 Tryz.underlying9
theorem vals_cell {Y:Nat→Int} {n j:Nat} {u:Value} (hu:(vals Y n)[j]?=some u):j<n∧u=.int .u8 (Y j):=by
 have hj:j<n:=by
  rcases Nat.lt_or_ge j n with x | x
  ·exact x
  ·rw [List.getElem?_eq_none (by simpa [vals] using x)] at hu;cases hu
 refine ⟨hj,?_⟩
 unfold vals at hu
 rw [List.getElem?_map,List.getElem?_range hj] at hu
 exact (Option.some.inj hu).symm
theorem vals_one {Y:Nat→Int} {n:Nat}:∀u∈vals Y n,u.oneCell'=true:=by
 intro u hu
 obtain ⟨i,_,rfl⟩:=List.mem_map.1 hu
 rfl
theorem vals_congr {Y Z:Nat→Int} {n:Nat} (h:∀i,i<n→Y i=Z i):vals Y n=vals Z n:=by
 unfold vals
 refine List.map_congr_left (fun i hi=>?_)
 rw [h i (by simpa using hi)]
theorem grown_below {B:Nat} {w w':World} {v:Value} {e size n:Nat} {xs:List Value} {B0:Nat} (hg:w.grownBy w' v.ownBlock) (ho:w.ownsRow B0 e size v n xs) (h0:B≤B0) (hB:B≤w.heap.size):Below B w w' :=
 ⟨hg.os,hg.tape,hg.output,hg.size,fun k hk=>hg.block k (by omega) (fun e=>by have:=(ho.lt k e.symm).1;omega)⟩
theorem wpList_append_bytes {w : World} {ops : Array Oper} {rest : List Oper} {o : Oper} {a : Act} {Q : Exit → Act → World → Prop} (hgd : o.guard = none) (s x : Operand)
    (ho:o.op=.call { callee:=.builtin .append,args:=#[s,x],argTypes:=#[33,33] }) (base:Nat) (v:Value) (k:Nat) (xs:List Value) (hs:a.eval s=v) (hown:w.ownsRow base 5 1 v k xs)
    (sa:Option Addr) (b off n c:Nat) (Y:Nat→Int) (hx:a.eval x=.slice sa n c) (hv:View w sa b off n Y) (hnil:sa=none→c=0) (hk:k+n≤140737488355328) (hbase:base≤w.heap.size)
    (h:∀v' w',w'.ownsRow base 5 1 v' (k+n) (xs++vals Y n)→w.grownBy w' v.ownBlock→(v'=.slice none 0 0→v=.slice none 0 0)→wpList Tryz.prog ops Q rest (a.put o.dst v') w'):wpList Tryz.prog ops Q (o::rest) a w:=by
  obtain ⟨i0,hi0,hz0,hz1,hz2⟩:=info_parts Tryz.info5
  cases sa with
  | none =>
    have hn:n=0:=by
      rcases Nat.eq_zero_or_pos n with e | e
      · exact e
      · cases hv.at_ e
    subst hn
    obtain rfl:=hnil rfl
    refine wpList_append_own_none hgd s x 33 ho base 5 i0 1 Tryz.underlying33 hi0 v k xs hs hown hx ?_
    refine h v w ?_ ⟨rfl,rfl,rfl,Nat.le_refl _,fun _ _ _=>rfl⟩ id
    simpa [vals] using hown
  | some p =>
    refine wpList_append_own _ hgd s x 33 ho base 5 i0 (.int .u8 0) 1 1 Tryz.underlying33 hi0 hz0 hz1 hz2 rfl (by decide) v k xs hs hown p n c (vals Y n) hx (by simp [vals]) ?_ vals_one (by unfold maxLen;omega) (by omega) hbase (fun v' w' h1 h2 h3=>h v' w' h1 h2 (fun e=>(h3.1 e).1))
    intro j u hu
    obtain ⟨hj,rfl⟩:=vals_cell hu
    have hp:p=⟨b,off,none⟩:=Option.some.inj (hv.at_ (by omega))
    subst hp
    rw [Go.WideShapes.add_plain]
    exact hv.cell j hj
theorem info5size:(Tryz.prog.info? 5).map (·.size)=some 1:=by kernel_rfl
theorem own_base {w:World} {B e size n:Nat} {v:Value} {xs:List Value} (h:w.ownsRow B e size v n xs):w.ownsRow 0 e size v n xs:=by
 refine ⟨h.1,?_⟩
 rcases h.2 with q | ⟨g,cap,cur,hv,hb,r⟩
 ·exact Or.inl q
 ·exact Or.inr ⟨g,cap,cur,hv,Nat.zero_le _,r⟩
theorem qai {w:World} {B C e size n:Nat} {v:Value} {xs:List Value} (h:w.ownsRow B e size v n xs) (hc:∀g,v.ownBlock=some g→C≤g):w.ownsRow C e size v n xs:=by
 refine ⟨h.1,?_⟩
 rcases h.2 with q | ⟨g,cap,cur,hv,hb,r⟩
 ·exact Or.inl q
 ·exact Or.inr ⟨g,cap,cur,hv,hc g (by rw [hv];rfl),r⟩
theorem own_block {w:World} {base e size n:Nat} {v:Value} {xs:List Value} (h:w.ownsRow base e size v n xs) {g:Nat} (hv:v.ownBlock=some g):∃cur,w.heap[g]?=some (.cells cur e (0,0)):=by
 rcases h.2 with ⟨rfl,_⟩ | ⟨g',cap,cur,rfl,_,hg,_⟩
 ·simp [Value.ownBlock] at hv
 ·simp only [Value.ownBlock,Option.some.injEq] at hv
  subst hv
  exact ⟨cur,hg⟩
theorem own_ne_cells {w:World} {base e size n:Nat} {v:Value} {xs:List Value} (h:w.ownsRow base e size v n xs) {g:Nat} {cs:Array Value} {t:TypeId} {fz:Nat × Nat} (hg:w.heap[g]?=some (.cells cs t fz)) (ht:t≠e):v.ownBlock≠some g:=by
 intro q
 obtain ⟨cur,hc⟩:=own_block h q
 rw [hg] at hc
 injection hc with hc
 injection hc with _ h2
 exact ht h2
theorem own_slice {w:World} {B e s n:Nat} {v:Value} {xs:List Value} (h:w.ownsRow B e s v n xs):∃a c,v=.slice a n c:=by
 rcases h.2 with ⟨rfl,h0⟩ | ⟨g,cap,cur,rfl,_⟩
 ·exact ⟨none,0,by rw [h0]⟩
 ·exact ⟨_,cap,rfl⟩
theorem qa7 (g i:Nat):(⟨g,0,none⟩:Addr).add i=⟨g,i,none⟩:=by unfold Addr.add;split <;> simp_all
theorem vals_bv (s:List Nat):vals (fun i=>((gd s i:Nat):Int)) s.length=bv s:=by
 apply List.ext_getElem?
 intro i
 by_cases h:i<s.length
 ·rw [bv_at h]
  unfold vals
  rw [List.getElem?_map,List.getElem?_range h]
  rfl
 ·rw [List.getElem?_eq_none (by simp [vals];omega),List.getElem?_eq_none (by simp [bv];omega)]
theorem ql9 (s t:List Nat):bv (s++t)=bv s++bv t:=by simp [bv]
theorem qgh:Tryz.prog.elem 33=5:=by kernel_rfl
theorem qve (w:World):(sizeOf 5).run Tryz.prog w=.ok 1 w:=by
 have:=info5size
 cases hq:Tryz.prog.info? 5 with
 | none=>simp [hq] at this
 | some i=>simp [hq] at this;simp [sizeOf,typeInfo,hq,this]
theorem qei (a:Option Addr) (n c K:Nat) (h:K≤c) (w:World):(Instr.slice 33 (.slice a n c) none (some (.int .i64 K)) none).run Tryz.prog w=.ok (.slice a K c) w:=by
 rw [run_slice_h w 33 a n c (by rw [qgh];exact Tryz.underlying33) .i64 K (by omega) (by omega),qgh,qve]
 simp only [Result.andThen,sliced]
 congr 1
 cases a <;> simp [Addr.add]
theorem qjs (a:Option Addr) (n c K:Nat) (h:K≤c) (w:World):(Instr.sliceAt 33 (.slice a n c) none (some (.int .i64 K)) none).run Tryz.prog w=.ok (.slice a K c) w:=by
 rw [run_sliceAt_slice w 33 _ _ _ _ (by rw [qgh];exact Tryz.underlying33),qei a n c K h w]
def behind (a:Option Addr) (c K:Nat):Option Addr:=if c=K then a else a.map (·.add K)
theorem qbf (a:Option Addr) (n c K:Nat) (h:K≤n) (w:World):(Instr.slice 33 (.slice a n c) (some (.int .i64 K)) none none).run Tryz.prog w=.ok (.slice (behind a c K) (n - K) (c - K)) w:=by
 rw [run_slice_l w 33 a n c (by rw [qgh];exact Tryz.underlying33) .i64 K (by omega) (by omega),qgh,qve]
 simp only [Result.andThen,sliced,behind]
 simp
theorem qgi (a:Option Addr) (n c K:Nat) (h:K≤n) (w:World):(Instr.sliceAt 33 (.slice a n c) (some (.int .i64 K)) none none).run Tryz.prog w=.ok (.slice (behind a c K) (n - K) (c - K)) w:=by
 rw [run_sliceAt_slice w 33 _ _ _ _ (by rw [qgh];exact Tryz.underlying33),qbf a n c K h w]
theorem qa0 {w : World} {ops : Array Oper} {o : Oper} {a : Act} {K : Act → World → Prop} {Q : Exit → Act → World → Prop} {E : Prop} (hgd : o.guard = none) (s x : Operand)
    (ho:o.op=.call { callee:=.builtin .append,args:=#[s,x],argTypes:=#[33,33] }) (base:Nat) (v:Value) (k:Nat) (xs:List Value) (hs:a.eval s=v) (hown:w.ownsRow base 5 1 v k xs)
    (sa:Option Addr) (b off n c:Nat) (Y:Nat→Int) (hx:a.eval x=.slice sa n c) (hv:View w sa b off n Y) (hnil:sa=none→c=0) (hk:k+n≤140737488355328) (hbase:base≤w.heap.size)
    (h:∀v' w',w'.ownsRow base 5 1 v' (k+n) (xs++vals Y n)→w.grownBy w' v.ownBlock→(v'=.slice none 0 0→v=.slice none 0 0)→K (a.put o.dst v') w'):if Region.wanted o (yielded ops a.tmps)=true then Oper.wp Tryz.prog o a w K Q else E:=by
  have hw:Region.wanted o (yielded ops a.tmps)=true:=by simp [Region.wanted,hgd]
  rw [if_pos hw]
  obtain ⟨i0,hi0,hz0,hz1,hz2⟩:=info_parts Tryz.info5
  cases sa with
  | none =>
    have hn:n=0:=by
      rcases Nat.eq_zero_or_pos n with e | e
      · exact e
      · cases hv.at_ e
    subst hn
    obtain rfl:=hnil rfl
    have hrun:=run_append_owned_none (P:=Tryz.prog) (w:=w) base 33 o.type 5 i0 1 Tryz.underlying33 hi0 v k xs hown
    unfold Oper.wp
    simp [execOp,ho,resolve,invoke,builtin,hs,hx,hrun,Result.andThen]
    refine h v w ?_ ⟨rfl,rfl,rfl,Nat.le_refl _,fun _ _ _=>rfl⟩ id
    simpa [vals] using hown
  | some p =>
    refine wp_append_own _ s x 33 ho base 5 i0 (.int .u8 0) 1 1 Tryz.underlying33 hi0 hz0 hz1 hz2 rfl (by decide) v k xs hs hown p n c (vals Y n) hx (by simp [vals]) ?_ vals_one (by unfold maxLen;omega) (by omega) hbase (fun v' w' h1 h2 h3=>h v' w' h1 h2 (fun e=>(h3.1 e).1))
    intro j u hu
    obtain ⟨hj,rfl⟩:=vals_cell hu
    have hp:p=⟨b,off,none⟩:=Option.some.inj (hv.at_ (by omega))
    subst hp
    rw [Go.WideShapes.add_plain]
    exact hv.cell j hj
open Go.RowKit
set_option maxRecDepth 100000 in
set_option maxHeartbeats 800000 in
theorem qg1 (w:World) (a:Option Addr) (b off c:Nat) (s:List Nat) (hv:Vw w a b off s) :
 Calls Tryz.prog 145 #[.slice a s.length c] w fun e w'=>e=.returned (.bool (alone s))∧w'=w:=by
 by_cases h1:s.length=1
 ·obtain rfl:=hv.at_ (by omega)
  have c0:=hv.cell 0 (by omega)
  have ea:alone s=decide (gd s 0<128):=by simp [alone,h1]
  rw [ea,h1]
  generalize gd s 0=x at c0
  clear hv ea h1
  rw [Nat.add_zero] at c0
  by_cases h2:x<128
  ·have h2':(x:Int)<128:=by omega
   rw [decide_eq_true h2]
   go_enter Tryz.func145,Tryz.ntmps145
   go_wp2_with fail
   go_ret
   exact ⟨rfl,rfl⟩
  ·have h2':¬(x:Int)<128:=by omega
   rw [decide_eq_false h2]
   go_enter Tryz.func145,Tryz.ntmps145
   go_wp2_with fail
   go_ret
   exact ⟨rfl,rfl⟩
 ·have ea:alone s=false:=by simp [alone,h1]
  rw [ea]
  have hn:¬((s.length:Int)=1):=by omega
  generalize s.length=n at hn
  clear hv ea h1
  go_enter Tryz.func145,Tryz.ntmps145
  go_wp2_with fail
  go_ret
  exact ⟨rfl,rfl⟩
set_option maxRecDepth 100000 in
set_option maxHeartbeats 800000 in
theorem qet (w:World) (n:Nat) (hn:n<18446744073709551616) :
 Calls Tryz.prog 166 #[.int .u64 n] w fun e w'=>e=.returned (.int .i64 (digs n).length)∧w'=w:=by
 have HL:Hid ((digs n).length≤8):=qa4 (by omega)
 go_enter Tryz.func166,Tryz.ntmps166
 go_wp2_with fail
 go_loopg [0,3] n (fun gg u k wr=>∃(m j:Nat),gg=m∧m≤n∧u=.int .u64 m∧k=.int .i64 j∧j+(digs m).length=(digs n).length∧wr=w)
 case atStart=>exact ⟨n,0,rfl,Nat.le_refl _,rfl,rfl,Nat.zero_add _,rfl⟩
 case round =>
  obtain ⟨m,j,rfl,hm,rfl,rfl,hj,ewr⟩:=hrel
  subst ewr
  have HJ:Hid (j+(digs gk).length=(digs n).length):=hj
  clear hj
  by_cases h0:0<gk
  ·have i1:(0:Int)<(gk:Int):=by omega
   have e1:(digs gk).length=(digs (gk / 256)).length+1:=by rw [qb3 h0];simp
   have HE:Hid ((digs gk).length=(digs (gk / 256)).length+1):=e1
   clear e1
   have l1:j≤8:=by have:=HJ.out;have:=HL.out;omega
   go_wp2_with fail
   go_roundg (gk / 256)
   case measure=>omega
   case rel=>exact ⟨gk / 256,j+1,rfl,by omega,by go_num,by go_num,by have:=HJ.out;have:=HE.out;omega,rfl⟩
  ·have e0:gk=0:=by omega
   subst e0
   have hj2:j=(digs n).length:=by have:=HJ.out;rw [qb6] at this;simpa using this
   have HJ2:Hid (j=(digs n).length):=hj2
   clear hj2
   clear HJ
   go_wp2_with fail
   go_ret
   exact ⟨by rw [HJ2.out];rfl,rfl⟩
set_option maxRecDepth 100000 in
set_option maxHeartbeats 800000 in
theorem qjt (w:World) (n:Nat) (hn:n<9223372036854775808) :
 Calls Tryz.prog 163 #[.int .i64 n] w fun e w'=>e=.returned (.int .i64 (hdr 0 n).length)∧w'=w:=by
 by_cases h:n<56
 ·have e1:(hdr 0 n).length=1:=by unfold hdr;rw [if_pos h];rfl
  rw [e1]
  have i1:(n:Int)<56:=by omega
  go_enter Tryz.func163,Tryz.ntmps163
  go_wp2_with fail
  go_ret
  exact ⟨rfl,rfl⟩
 ·have e1:(hdr 0 n).length=1+(digs n).length:=by unfold hdr;rw [if_neg h];simp;omega
  have K:=qet w n (by omega)
  have l1:(digs n).length≤8:=qa4 (by omega)
  rw [e1]
  generalize (digs n).length=k at K l1
  clear e1
  have i1:¬(n:Int)<56:=by omega
  go_enter Tryz.func163,Tryz.ntmps163
  go_wp2_with (go_at_call 166;refine K.mono ?_;rintro e w' ⟨rfl,rfl⟩)
  go_ret
  exact ⟨by go_num,rfl⟩
theorem quh {s:List Nat} (h:∀x∈s,x<256):num s<256 ^ s.length:=by
  suffices ∀(m:Nat) (s:List Nat),s.length=m→(∀x∈s,x<256)→num s<256 ^ m from this _ s rfl h
  intro m
  induction m with
  | zero => intro s h _
            obtain rfl:s=[]:=List.eq_nil_of_length_eq_zero h
            decide
  | succ m ih =>
    intro s hl hb
    obtain ⟨t,x,rfl⟩:∃t x,s=t++[x]:=⟨s.dropLast,s.getLast (by intro e;simp [e] at hl),(List.dropLast_concat_getLast _).symm⟩
    have:=ih t (by simpa using hl) (fun y hy=>hb y (by simp [hy]))
    have:=hb x (by simp)
    rw [qfa,Nat.pow_succ]
    omega
theorem qvf {s:List Nat} {i:Nat} (h:i<s.length):s.take (i+1)=s.take i++[gd s i]:=by rw [List.take_succ_eq_append_getElem h,gd_get h]
theorem qsc {s:List Nat} {i:Nat} (h:i<s.length):num (s.take (i+1))=num (s.take i)*256+gd s i:=by rw [qvf h,qfa]
theorem qvg (m x:Nat) (hm:m<72057594037927936) (hx:x<256):bits .or .u64 ((m:Int)*256) (x:Int)=((m*256+x:Nat):Int):=by
 have e:((m:Int)*256)=((m*256:Nat):Int):=by omega
 rw [e,bits_or_u64_nat _ _ (by omega) (by omega)]
 have:m*256 ||| x=m*256+x:=by
  have:=Nat.two_pow_add_eq_or_of_lt (i:=8) (b:=x) (by omega) m
  rw [show 2 ^ 8*m=m*256 by omega] at this
  exact this.symm
 rw [this]
set_option maxRecDepth 100000 in
set_option maxHeartbeats 800000 in
theorem qju (w:World) (a:Option Addr) (b off c:Nat) (s:List Nat) (hv:Vw w a b off s) (h8:s.length≤8) :
 Calls Tryz.prog 158 #[.slice a s.length c] w fun e w'=>e=.returned (.int .u64 (num s))∧w'=w:=by
 have HV:Hid (Vw w a b off s):=hv
 obtain ⟨n,en⟩:∃n,n=s.length:=⟨_,rfl⟩
 have HN:Hid (n=s.length):=en
 rw [←en]
 have h8':n≤8:=by omega
 clear hv h8 en
 go_enter Tryz.func158,Tryz.ntmps158
 go_wp2_with fail
 go_loopg [3,8] n (fun gg u k wr=>∃(i:Nat),i≤n∧gg=n - i∧u=.int .u64 (num (s.take i))∧k=.int .i64 i∧wr=w)
 case atStart=>exact ⟨0,Nat.zero_le _,rfl,rfl,rfl,rfl⟩
 case round =>
  obtain ⟨i,hi,rfl,rfl,rfl,ewr⟩:=hrel
  subst ewr
  by_cases h0:i<n
  ·have i1:(i:Int)<(n:Int):=by omega
   obtain rfl:=HV.out.at_ (by have:=HN.out;omega)
   have c0:=HV.out.cell i (by have:=HN.out;omega)
   have hb:=(vw_ok HV.out).2
   have hx:=gd_lt hb i
   have ht:=quh (s:=s.take i) (fun x hx=>hb x (List.mem_of_mem_take hx))
   have e2:num (s.take (i+1))=num (s.take i)*256+gd s i:=qsc (by have:=HN.out;omega)
   have hl:(s.take i).length=i:=by simp;have:=HN.out;omega
   rw [hl] at ht
   have ht2:num (s.take i)<72057594037927936:=Nat.lt_of_lt_of_le ht (by
    have:(72057594037927936:Nat)=256 ^ 7:=by decide
    rw [this]
    exact Nat.pow_le_pow_right (by decide) (by omega))
   have HE:Hid (num (s.take (i+1))=num (s.take i)*256+gd s i):=e2
   clear e2 ht hl hb
   generalize num (s.take i)=m at *
   generalize gd s i=x at *
   have HO:Hid (bits .or .u64 ((m:Int)*256) (x:Int)=((m*256+x:Nat):Int)):=qvg m x ht2 hx
   go_wp2_with fail
   go_roundg (n - (i+1))
   case measure=>omega
   case rel=>exact ⟨i+1,h0,rfl,by rw [HE.out,HO.out],by go_num,rfl⟩
  ·have e0:i=n:=by omega
   have e2:num (s.take i)=num s:=by rw [List.take_of_length_le (by have:=HN.out;omega)]
   have HE:Hid (num (s.take i)=num s):=e2
   have i1:¬(i:Int)<(n:Int):=by omega
   clear e2
   go_wp2_with fail
   go_ret
   exact ⟨by rw [←HE.out,e0];rfl,rfl⟩
open Go.RowKit
def Rm (w:World) (g:Nat) (t:List Nat):Prop:=w.heap[g]?=some (.cells (bv t).toArray 5 (0,0))
theorem Rm.lt {w:World} {g:Nat} {t:List Nat} (h:Rm w g t):g<w.heap.size:=(Array.getElem?_eq_some_iff.1 h).1
theorem Rm.below {w w':World} {g:Nat} {t:List Nat} (h:Rm w g t) (k:Below w.heap.size w w'):Rm w' g t:=(k.block g h.lt).trans h
theorem qou (t s:List Nat) (o:Nat):bv (splice t o s)=splice (bv t) o (bv s):=by simp [splice,bv,List.map_take,List.map_drop]
set_option maxRecDepth 100000 in
set_option maxHeartbeats 800000 in
theorem qcl (w:World) (g L K N:Nat) (t:List Nat) (hr:Rm w g t) (hN:t.length=N) (hLN:L≤N) (hN63:N≤9223372036854775807) (a:Option Addr) (b off c:Nat) (s:List Nat) (hv:Vw w a b off s) (hL:L=K+s.length) :
  Calls Tryz.prog 164 #[.slice (some ⟨g, 0, none⟩) L N, .slice a s.length c] w fun e w' =>
      e=.returned (.slice (some ⟨g,0,none⟩) K N)∧Rm w' g (splice t K s)∧Turn (fun i=>i=g) w w':=by
  have j1:=qei (some ⟨g,0,none⟩) L N K (by omega)
  have j2:=qbf (some ⟨g,0,none⟩) L N K (by omega)
  have es:L - K=s.length:=by omega
  rw [es] at j2
  have hs:s.length≤L:=by omega
  have e1:(L:Int) - (s.length:Int)=(K:Int):=by omega
  have hK:K≤9223372036854775807:=by omega
  have HH:Hid (t.length=N∧L≤N∧L=K+s.length∧L - K=s.length∧Rm w g t∧Vw w a b off s):=⟨hN,hLN,hL,es,hr,hv⟩
  have hsl:s.length≤9223372036854775807:=by omega
  have hLl:L≤9223372036854775807:=by omega
  obtain ⟨k,ek⟩:∃k,k=s.length:=⟨_,rfl⟩
  have HK:Hid (k=s.length):=ek
  rw [←ek] at j2 e1 hsl hs ⊢
  clear hN hLN hL es hr hv ek
  by_cases h0:k=0
  · subst h0
    have eK:K=L:=by have:=HH.out.2.2.1;have:=HK.out;omega
    subst eK
    generalize behind (some ⟨g,0,none⟩) N K=bh at j2
    clear e1
    go_enter Tryz.func164,Tryz.ntmps164
    go_wp2_with (refine wpList_copy_nothing (by rfl) (.tmp 16) (.tmp 17) 33 33 (by rfl) 5 Tryz.underlying33 info5size _ _ _ _ _ _ (by rfl) (by rfl) (by simp) ?_)
    go_ret
    have e0:s=[]:=List.eq_nil_of_length_eq_zero HK.out.symm
    refine ⟨rfl,?_,Turn.refl _ _⟩
    rw [e0]
    simpa [splice] using HH.out.2.2.2.2.1
  · have hb:behind (some ⟨g,0,none⟩) N K=some ⟨g,K,none⟩:=by
      unfold behind
      rw [if_neg (by have:=HH.out.1;have:=HH.out.2.1;have:=HH.out.2.2.1;have:=HK.out;omega)]
      simp [qa7]
    rw [hb] at j2
    have ha:=HH.out.2.2.2.2.2.at_ (by have:=HK.out;omega)
    subst ha
    have hsrc:∀j v,(bv s)[j]?=some v→w.cell? ((⟨b,off,none⟩:Addr).add j)=some v:=fun j v hj=>by
      have hj2:j<s.length:=by
        have:=(List.getElem?_eq_some_iff.1 hj).1
        rwa [bv_len] at this
      rw [bv_at hj2] at hj
      rw [Go.WideShapes.add_plain,HH.out.2.2.2.2.2.cell j hj2]
      exact hj
    have hone:∀v∈bv s,v.oneCell'=true:=fun v hv=>by
      obtain ⟨x,_,rfl⟩:=List.mem_map.1 hv
      rfl
    have hn1:(bv s).length=Nat.min k k:=by rw [bv_len,←HK.out];simp
    have hft:K+(bv s).length≤(bv t).toArray.size:=by
      rw [bv_len,List.size_toArray,bv_len]
      have:=HH.out.1
      have:=HH.out.2.1
      have:=HH.out.2.2.1
      omega
    have hg:=HH.out.2.2.2.2.1
    unfold Rm at hg
    have H2:Hid ((∀j v,(bv s)[j]?=some v→w.cell? ((⟨b,off,none⟩:Addr).add j)=some v)∧(∀v∈bv s,v.oneCell'=true)∧(bv s).length=Nat.min k k∧K+(bv s).length≤(bv t).toArray.size∧w.heap[g]?=some (.cells (bv t).toArray 5 (0,0))):=⟨hsrc,hone,hn1,hft,hg⟩
    clear hsrc hone hn1 hft hg
    go_enter Tryz.func164,Tryz.ntmps164
    go_wp2_with (refine wpList_copy_own (by rfl) (.tmp 16) (.tmp 17) 33 33 (by rfl) 5 Tryz.underlying33 info5size g K k (N - K) ⟨b,off,none⟩ k c (by rfl) (by rfl) _ 5 H2.out.2.2.2.2 (bv s) H2.out.2.2.1 H2.out.1 H2.out.2.2.2.1 H2.out.2.1 ?_)
    go_ret
    refine ⟨rfl,?_,Turn.setRow w g _ rfl⟩
    unfold Rm
    rw [qou]
    simp only [splice]
    exact setRow_heap _ _ _ _ _ _ H2.out.2.2.2.2
theorem qnj {n i:Nat} (h:i<(digs n).length):gd (digs n) ((digs n).length - 1 - i)=n / 256 ^ i % 256:=by
 induction i generalizing n with
 | zero =>
  have hn:0<n:=by
   rcases Nat.eq_zero_or_pos n with e | e
   ·subst e;simp [qb6] at h
   ·exact e
  rw [qb3 hn]
  have:=qdg (s:=digs (n / 256)) (t:=[n % 256]) (i:=0)
  simp only [List.length_append,List.length_singleton,Nat.add_zero,Nat.add_sub_cancel,Nat.sub_zero] at this ⊢
  rw [this]
  simp [gd]
 | succ i ih =>
  have hn:0<n:=by
   rcases Nat.eq_zero_or_pos n with e | e
   ·subst e;simp [qb6] at h
   ·exact e
  rw [qb3 hn] at h ⊢
  simp only [List.length_append,List.length_singleton] at h ⊢
  have h':i<(digs (n / 256)).length:=by omega
  rw [show (digs (n / 256)).length+1 - 1 - (i+1)=(digs (n / 256)).length - 1 - i by omega,qdf (by omega),ih h',Nat.div_div_eq_div_mul,Nat.pow_succ,Nat.mul_comm]
structure Made (w w':World) (g:Nat) (t:List Nat):Prop where
 room:Rm w' g t
 new:w.heap.size≤g
 below:Below w.heap.size w w'
theorem Rm.view {w:World} {g:Nat} {t:List Nat} (h:Rm w g t) (hb:∀x∈t,x<256) (hl:t.length≤281474976710656):Vw w (some ⟨g,0,none⟩) g 0 t :=
 ⟨fun _=>rfl,fun i hi=>by
  rw [Nat.zero_add,cell_of_row _ _ _ _ 5 _ h]
  simpa using bv_at hi,fun i _=>by have:=gd_lt hb i;omega,hl⟩
theorem Rm.of_row {w:World} {g n:Nat} {f:Nat→Value} {t:List Nat} (h:w.rowIs g 5 n f) (hl:t.length=n) (hf:∀i,i<n→f i=.int .u8 ((gd t i:Nat):Int)):Rm w g t:=by
 obtain ⟨c,hc,hs,hi⟩:=h
 unfold Rm
 have e:c=(bv t).toArray:=by
  apply Array.ext_getElem?
  intro i
  by_cases q:i<n
  ·rw [hi i q,hf i q]
   simpa using (bv_at (s:=t) (by omega)).symm
  ·rw [Array.getElem?_eq_none (by omega),Array.getElem?_eq_none (by simp [bv_len];omega)]
 rw [←e]
 exact hc
set_option maxRecDepth 100000 in
set_option maxHeartbeats 800000 in
theorem qjv (w:World) (n:Nat) (hn:n<18446744073709551616) :
 Calls Tryz.prog 167 #[.int .u64 n] w fun e w'=>e=.returned (.slice (some ⟨w.heap.size,0,none⟩) (digs n).length (digs n).length)∧Made w w' w.heap.size (digs n):=by
 have K:=qet w n hn
 have HL:Hid ((digs n).length≤8):=qa4 (by omega)
 obtain ⟨k,ek⟩:∃k,k=(digs n).length:=⟨_,rfl⟩
 have HK:Hid (k=(digs n).length):=ek
 rw [←ek] at K ⊢
 have h8:k≤8:=by have:=HL.out;omega
 clear ek
 have hmk:=run_make_row' (P:=Tryz.prog) 33 5 (.int .u8 0) 1 Tryz.underlying33 Tryz.info5 rfl .i64 .i64 k (by omega) (by omega)
 go_enter Tryz.func167,Tryz.ntmps167
 go_wp2_with (go_at_call 166;refine K.mono ?_;rintro e w' ⟨rfl,rfl⟩)
 go_loopg [0,4] k (fun gg u i wr=>∃(m j:Nat) (f:Nat→Nat),j≤k∧gg=k - j∧m=n / 256 ^ j∧u=.int .u64 m∧i=.int .i64 ((k:Int) - 1 - j)∧Below w'.heap.size w' wr∧wr.rowIs w'.heap.size 5 k (fun i=>.int .u8 (f i:Nat))∧∀i,i<j→f (k - 1 - i)=n / 256 ^ i % 256)
 case atStart =>
  refine ⟨n,0,fun _=>0,Nat.zero_le _,rfl,by simp,rfl,by simp,(Below.refl _ _).alloc (Nat.le_refl _) _,World.rowIs_made w' _ k 5,fun i hi=>by omega⟩
 case round =>
  obtain ⟨m,j,f,hj,rfl,hm,rfl,ei,hb,hr,hd⟩:=hrel
  have HM:Hid (m=n / 256 ^ j):=hm
  have m64:m≤n:=by rw [hm];exact Nat.div_le_self _ _
  clear hm
  by_cases h0:j<k
  ·obtain ⟨q,hq⟩:∃q:Nat,(k:Int) - 1 - j=q:=⟨k - 1 - j,by omega⟩
   rw [hq] at ei
   subst ei
   have q1:¬(q:Int)<0:=by omega
   have q2:q<k:=by omega
   have g1:=hr.cell q2
   have g2:=hr.frozen q
   have HX:Hid (Below w'.heap.size w' (wr.setCell ⟨w'.heap.size,q,none⟩ (.int .u8 ((m:Int) % 256)))∧(wr.setCell ⟨w'.heap.size,q,none⟩ (.int .u8 ((m:Int) % 256))).rowIs w'.heap.size 5 k (fun i=>.int .u8 ((if i=q then m % 256 else f i:Nat):Int))) :=
    ⟨hb.setCell (Nat.le_refl _) _,(hr.set q _).congr (fun i _=>by
     by_cases e:i=q
     ·rw [if_pos e,if_pos e];simp
     ·rw [if_neg e,if_neg e])⟩
   have HQ:Hid ((k:Int) - 1 - j=q):=hq
   have HD:Hid (∀i,i<j→f (k - 1 - i)=n / 256 ^ i % 256):=hd
   clear hb hr hq hd
   go_wp2_with fail
   go_roundg (k - (j+1))
   case measure=>omega
   case rel =>
    have hq:=HQ.out
    refine ⟨m / 256,j+1,_,h0,rfl,?_,by go_num,?_,HX.out.1,HX.out.2,fun i hi=>?_⟩
    ·rw [HM.out,Nat.div_div_eq_div_mul,Nat.pow_succ]
    ·congr 1;omega
    ·by_cases e:i=j
     ·subst e
      rw [if_pos (by omega),HM.out]
     ·rw [if_neg (by omega)]
      exact HD.out i (by omega)
  ·have ej:j=k:=by omega
   subst ej
   have e1:(j:Int) - 1 - j=-1:=by omega
   rw [e1] at ei
   subst ei
   have HX:Hid (Made w' wr w'.heap.size (digs n)):=⟨Rm.of_row hr HK.out.symm (fun i hi=>by
    have h:=hd (j - 1 - i) (by omega)
    have h2:=qnj (n:=n) (i:=j - 1 - i) (by have:=HK.out;omega)
    rw [←HK.out,show j - 1 - (j - 1 - i)=i by omega] at h2
    rw [show j - 1 - (j - 1 - i)=i by omega] at h
    rw [h,h2]),Nat.le_refl _,hb⟩
   clear hb hr hd
   go_wp2_with fail
   go_ret
   exact ⟨rfl,HX.out⟩
open Go.RowKit
theorem qcc {t s:List Nat} {K:Nat} (h:K+s.length≤t.length):(splice t K s).length=t.length:=length_splice t K s h
theorem qg2 {t s:List Nat} {K i:Nat} (h:K+s.length≤t.length):gd (splice t K s) i=if K≤i∧i<K+s.length then gd s (i - K) else gd t i:=by
 unfold splice
 have lk:(t.take K).length=K:=by simp;omega
 by_cases h1:i<K
 ·rw [qdf (by omega),if_neg (by omega)]
  unfold gd
  rw [List.getD_eq_getElem?_getD,List.getD_eq_getElem?_getD,List.getElem?_take,if_pos h1]
 ·obtain ⟨j,rfl⟩:∃j,i=K+j:=⟨i - K,by omega⟩
  have e1:=qdg (s:=t.take K) (t:=s++t.drop (K+s.length)) (i:=j)
  rw [lk] at e1
  rw [e1]
  by_cases h2:j<s.length
  ·rw [qdf h2,if_pos (by omega),Nat.add_sub_cancel_left]
  ·obtain ⟨m,rfl⟩:∃m,j=s.length+m:=⟨j - s.length,by omega⟩
   rw [qdg,if_neg (by omega)]
   unfold gd
   rw [List.getD_eq_getElem?_getD,List.getD_eq_getElem?_getD,List.getElem?_drop,Nat.add_assoc]
theorem qcp {t s u:List Nat} {K L:Nat} (hL:L=K+u.length) (h:L+s.length≤t.length):splice (splice t L s) K u=splice t K (u++s):=by
 have l1:(splice t L s).length=t.length:=qcc h
 have l3:(u++s).length=u.length+s.length:=List.length_append
 apply ext_gd
 ·rw [qcc (by omega),l1,qcc (by omega)]
 ·intro i _
  rw [qg2 (by omega),qg2 (by omega),qg2 (by omega),l3]
  by_cases h1:K≤i∧i<K+u.length
  ·rw [if_pos h1,if_pos (by omega),qdf (by omega)]
  ·rw [if_neg h1]
   by_cases h2:L≤i∧i<L+s.length
   ·rw [if_pos h2,if_pos (by omega)]
    obtain ⟨m,rfl⟩:∃m,i=K+(u.length+m):=⟨i - K - u.length,by omega⟩
    rw [Nat.add_sub_cancel_left,qdg]
    congr 1
    omega
   ·rw [if_neg h2,if_neg (by omega)]
theorem qui (w:World) (x:Nat) (hx:x<256):Vw (w.alloc (.cells #[.int .u8 (x:Int)] 5)) (some ⟨w.heap.size,0,none⟩) w.heap.size 0 [x]:=by
 refine ⟨fun _=>rfl,fun i hi=>?_,fun i hi=>?_,by simp⟩
 ·have:i=0:=by simp at hi;omega
  subst this
  rw [cell_of_row _ _ _ _ 5 _ (heap_alloc_new w _)]
  rfl
 ·have:i=0:=by simp at hi;omega
  subst this
  simp [gd]
  omega
set_option maxRecDepth 100000 in
set_option maxHeartbeats 800000 in
theorem qfb (w:World) (g L K N n base:Nat) (t:List Nat) (hr:Rm w g t) (hN:t.length=N) (hLN:L≤N) (hN63:N≤9223372036854775807) (hn:n≤1048576) (hb:base≤192) (hL:L=K+(hdr base n).length) :
  Calls Tryz.prog 165 #[.slice (some ⟨g, 0, none⟩) L N, .int .i64 n, .int .u8 base] w fun e w' =>
      e=.returned (.slice (some ⟨g,0,none⟩) K N)∧Rm w' g (splice t K (hdr base n))∧Turn (fun i=>i=g) w w':=by
  by_cases h:n<56
  · have eh:hdr base n=[base+n]:=by unfold hdr;rw [if_pos h]
    rw [eh] at hL ⊢
    have i1:(n:Int)<56:=by omega
    have e2:(n:Int) % 256=n:=by omega
    have ec:((base+n:Nat):Int)=(base:Int)+n:=by omega
    have t0:Turn (fun i=>i=g) w (w.alloc (.cells #[.int .u8 ((base:Int)+n)] 5)):=Turn.alloc w _
    have K1:=qcl (w.alloc (.cells #[.int .u8 ((base+n:Nat):Int)] 5)) g L K N t (hr.below ((Below.refl _ _).alloc (Nat.le_refl _) _)) hN hLN hN63 _ _ _ 1 [base+n] (qui w (base+n) (by omega)) hL
    rw [ec] at K1
    have HT:Hid (Turn (fun i=>i=g) w (w.alloc (.cells #[.int .u8 ((base:Int)+n)] 5))):=t0
    clear t0 hL hN hLN hr ec
    go_enter Tryz.func165,Tryz.ntmps165
    go_wp2_with (go_at_call 164;refine K1.mono ?_;rintro e w1 ⟨rfl,hr1,ht1⟩;have HR:Hid (Rm w1 g (splice t K [base+n])∧Turn (fun i=>i=g) w w1):=⟨hr1,HT.out.trans ht1 (fun i q=>Or.inl q)⟩;clear hr1 ht1)
    go_ret
    exact ⟨rfl,HR.out⟩
  · have eh:hdr base n=(base+55+(digs n).length)::digs n:=by unfold hdr;rw [if_neg h]
    have i1:¬(n:Int)<56:=by omega
    have l3:(digs n).length≤3:=qa4 (by omega)
    have K0:=qjv w n (by omega)
    have HH:Hid (Rm w g t∧t.length=N∧L≤N∧L=K+1+(digs n).length∧∀x∈digs n,x<256):=⟨hr,hN,hLN,by rw [hL,eh];simp;omega,qot n⟩
    have HE:Hid (hdr base n=(base+55+(digs n).length)::digs n):=eh
    obtain ⟨k,ek⟩:∃k,k=(digs n).length:=⟨_,rfl⟩
    have HKK:Hid (k=(digs n).length):=ek
    rw [←ek] at K0 l3
    clear hr hN hLN hL eh ek
    have hw:g<w.heap.size:=HH.out.1.lt
    go_enter Tryz.func165,Tryz.ntmps165
    go_wp2_with (go_at_call 167;refine K0.mono ?_;rintro e w1 ⟨rfl,hm1⟩)
    have K1:=qcl w1 g L (K+1) N t (HH.out.1.below hm1.below) HH.out.2.1 HH.out.2.2.1 hN63 _ _ _ k (digs n) (hm1.room.view HH.out.2.2.2.2 (by have:=HKK.out;omega)) HH.out.2.2.2.1
    rw [←HKK.out] at K1
    have t1:Turn (fun i=>i=g) w w1:=Turn.of_below hm1.below
    have HT:Hid (Turn (fun i=>i=g) w w1):=t1
    clear t1 hm1
    go_wp2_with (go_at_call_of 164 (Value.slice (some ⟨w.heap.size,0,none⟩) k k);refine K1.mono ?_;rintro e w2 ⟨rfl,hr2,ht2⟩)
    have t2:Turn (fun i=>i=g) w w2:=HT.out.trans ht2 (fun i q=>Or.inl q)
    have q1:=HH.out.2.1
    have q2:=HH.out.2.2.1
    have q3:=HH.out.2.2.2.1
    have q4:(splice t (K+1) (digs n)).length=N:=by rw [qcc (by omega)];exact q1
    have q5:K+1≤N:=by omega
    have HQ:Hid (K+1+(digs n).length≤t.length):=by rw [←q3,q1];exact q2
    clear q1 q2 q3
    have K2:=qcl (w2.alloc (.cells #[.int .u8 ((base+55+k:Nat):Int)] 5)) g (K+1) K N (splice t (K+1) (digs n)) (hr2.below ((Below.refl _ _).alloc (Nat.le_refl _) _)) q4 q5 hN63 _ _ _ 1 [base+55+k] (qui w2 (base+55+k) (by omega)) (by simp)
    have ec:((base+55+k:Nat):Int)=(base:Int)+56 - 1+k:=by omega
    rw [ec] at K2
    have e4:(k:Int) % 256=k:=by omega
    have HT2:Hid (Turn (fun i=>i=g) w (w2.alloc (.cells #[.int .u8 ((base:Int)+56 - 1+k)] 5))):=t2.trans (Turn.alloc w2 _ (F:=fun i=>i=g)) (fun i q=>Or.inl q)
    clear hr2 ht2 t2 HT ec q4 q5
    go_wp2_with (go_at_call 164;refine K2.mono ?_;rintro e w3 ⟨rfl,hr3,ht3⟩;have HR:Hid (Rm w3 g (splice t K (hdr base n))∧Turn (fun i=>i=g) w w3):=⟨by rw [HE.out,←HKK.out];rw [qcp (by simp) HQ.out] at hr3;exact hr3,HT2.out.trans ht3 (fun i q=>Or.inl q)⟩;clear hr3 ht3)
    go_ret
    exact ⟨rfl,HR.out⟩
end Go.Proofs.YtemcneddbhgadaaGreatDoor
