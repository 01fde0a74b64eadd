import Derived.Test.YtemcneddbhgadaaGreatDoorCkzz
import Derived.Great.BuildSlice
import Derived.Laws.AppendOwnNone
import Derived.Deep.AppendLies
namespace Go.Proofs.YtemcneddbhgadaaGreatDoor.Z
open Go.RowKit
theorem fold_set (off : Nat) (xs : List Value) : ∀ (k : Nat) (cs : Array Value), off + k + xs.length ≤ cs.size →
    ((xs.zipIdx k).foldl (fun (cs:Array Value) (p:Value × Nat)=>cs.setIfInBounds (off+p.2) p.1) cs).size=cs.size ∧
    ∀i,((xs.zipIdx k).foldl (fun (cs:Array Value) (p:Value × Nat)=>cs.setIfInBounds (off+p.2) p.1) cs)[i]?=if off+k≤i∧i<off+k+xs.length then xs[i - (off+k)]? else cs[i]?:=by
  induction xs with
  | nil=>intro k cs _;exact ⟨rfl,fun i=>by rw [if_neg (by simp)];rfl⟩
  | cons x t ih =>
    intro k cs h
    simp only [List.length_cons] at h ⊢
    rw [List.zipIdx_cons,List.foldl_cons]
    obtain ⟨h1,h2⟩:=ih (k+1) (cs.setIfInBounds (off+k) x) (by rw [Array.size_setIfInBounds];omega)
    refine ⟨by rw [h1,Array.size_setIfInBounds],fun i=>?_⟩
    rw [h2 i]
    by_cases q:off+(k+1)≤i∧i<off+(k+1)+t.length
    · rw [if_pos q,if_pos (by omega),show i - (off+k)=(i - (off+(k+1)))+1 by omega,List.getElem?_cons_succ]
    · rw [if_neg q,Array.getElem?_setIfInBounds]
      by_cases q2:off+k=i
      · rw [if_pos q2,if_pos (by omega),if_pos (by omega),q2,Nat.sub_self]
        rfl
      · rw [if_neg q2,if_neg (by omega)]
theorem fill_step {place:Nat→Option (Nat × Nat)} {cells:Array Value} {i off size:Nat} {v:Value} {rest:List (Nat × Value)} (hp:place i=some (off,size)) (hs:v.cells.size=size) (hl:off+size≤cells.size) :
 Instr.fill place cells ((i,v)::rest)=Instr.fill place (v.cells.zipIdx.foldl (fun cs (c,j)=>cs.setIfInBounds (off+j) c) cells) rest:=by
 rw [Instr.fill,hp]
 simp only [hs]
 rw [if_neg (by simp;omega)]
theorem fold_list (off:Nat) (a x x' b:List Value) (ha:a.length=off) (hx:x'.length=x.length) :
 (x'.toArray.zipIdx.foldl (fun (cs:Array Value) (p:Value × Nat)=>cs.setIfInBounds (off+p.2) p.1) (a++(x++b)).toArray)=(a++(x'++b)).toArray:=by
 have key:=fold_set off x' 0 (a++(x++b)).toArray (by simp;omega)
 have e:x'.toArray.zipIdx.foldl (fun (cs:Array Value) (p:Value × Nat)=>cs.setIfInBounds (off+p.2) p.1) (a++(x++b)).toArray=(x'.zipIdx 0).foldl (fun (cs:Array Value) (p:Value × Nat)=>cs.setIfInBounds (off+p.2) p.1) (a++(x++b)).toArray:=by
  rw [←Array.foldl_toList]
  simp
 rw [e]
 apply Array.ext_getElem?
 intro i
 rw [key.2 i]
 simp only [List.getElem?_toArray,Nat.add_zero]
 by_cases h1:off≤i∧i<off+x'.length
 ·rw [if_pos h1,List.getElem?_append_right (by omega),List.getElem?_append_left (by omega),ha]
 ·rw [if_neg h1]
  by_cases h2:i<off
  ·rw [List.getElem?_append_left (by omega),List.getElem?_append_left (by omega)]
  ·rw [List.getElem?_append_right (by omega),List.getElem?_append_right (by omega),List.getElem?_append_right (by omega),List.getElem?_append_right (by omega),hx]
section
variable {ops:Array Oper} {S:World→Prop} {o:Oper} {a:Act}
theorem y_move (x:Operand) (ho:o.op=.move x) (v:Value) (hx:a.eval x=v) (hw:Region.wanted o (yielded ops a.tmps)=true:=by kernel_rfl):YieldsIf Tryz.prog ops S o v a :=
 .inl ⟨hw,fun w hs=>by
  unfold execOp
  simp only [ho,hx]
  rfl⟩
theorem y_assign (x:Operand) (ho:o.op=.assign x) (v:Value) (hx:a.eval x=v) (hw:Region.wanted o (yielded ops a.tmps)=true:=by kernel_rfl):YieldsIf Tryz.prog ops S o v a :=
 .inl ⟨hw,fun w hs=>by
  unfold execOp
  simp only [ho,hx]
  rfl⟩
theorem y_no (hw:Region.wanted o (yielded ops a.tmps)=false:=by kernel_rfl):YieldsIf Tryz.prog ops S o undef a:=.inr ⟨hw,rfl⟩
theorem y_pick_f (x y z:Operand) (ho:o.op=.pick x y z) (v:Value) (hx:a.eval x=.bool false) (hz:a.eval z=v) (hw:Region.wanted o (yielded ops a.tmps)=true:=by kernel_rfl):YieldsIf Tryz.prog ops S o v a :=
 .inl ⟨hw,fun w hs=>by
  unfold execOp
  simp only [ho,hx,hz]
  go_simp⟩
theorem y_ext (x:Operand) (i:Nat) (ho:o.op=.extract x i) (vs:Array Value) (v:Value) (hx:a.eval x=.tuple vs) (hv:vs[i]?=some v) (hw:Region.wanted o (yielded ops a.tmps)=true:=by kernel_rfl):YieldsIf Tryz.prog ops S o v a :=
 .inl ⟨hw,fun w hs=>by
  unfold execOp
  simp only [ho,hx,Instr.extract,hv]
  rfl⟩
theorem y_nil (x:Operand) (ho:o.op=.nilCheck x) (p:Addr) (hx:a.eval x=.pointer (some p)) (hw:Region.wanted o (yielded ops a.tmps)=true:=by kernel_rfl):YieldsIf Tryz.prog ops S o (.pointer (some p)) a :=
 .inl ⟨hw,fun w hs=>by
  unfold execOp
  simp only [ho,hx]
  go_simp⟩
theorem y_bd (t:TypeId) (L:List (Nat × Operand)) (ho:o.op=.build t L.toArray) (cells:Array Value)
 (hb:Tryz.prog.built t (L.map fun (i,x)=>(i,a.eval x))=some cells) (hw:Region.wanted o (yielded ops a.tmps)=true:=by kernel_rfl):YieldsIf Tryz.prog ops S o (.agg cells) a :=
 .inl ⟨hw,fun w _=>by
  have hb':Tryz.prog.built t (L.toArray.map fun (i,x)=>(i,a.eval x)).toList=some cells:=by simp only [List.map_toArray];exact hb
  unfold execOp
  simp only [ho,Sem.run_bind,run_build w t _ cells hb',Result.andThen_ok]
  rfl⟩
theorem y_l_int (x:Operand) (ho:o.op=.load 3 x) (g p:Nat) (hx:a.eval x=.pointer (some ⟨g,p,none⟩)) (v:Value) (hS:∀w,S w→w.cell? ⟨g,p,none⟩=some v) (hw:Region.wanted o (yielded ops a.tmps)=true:=by kernel_rfl):YieldsIf Tryz.prog ops S o v a :=
 .inl ⟨hw,fun w hs=>by
  have c:=hS w hs
  unfold execOp
  simp only [ho,hx]
  go_simp⟩
theorem y_l_book (x:Operand) (ho:o.op=.load 22 x) (g p:Nat) (hx:a.eval x=.pointer (some ⟨g,p,none⟩)) (v:Value) (hS:∀w,S w→w.cell? ⟨g,p,none⟩=some v) (hw:Region.wanted o (yielded ops a.tmps)=true:=by kernel_rfl):YieldsIf Tryz.prog ops S o v a :=
 .inl ⟨hw,fun w hs=>by
  have c:=hS w hs
  unfold execOp
  simp only [ho,hx]
  go_simp⟩
theorem y_l_src (x:Operand) (ho:o.op=.load 76 x) (g p:Nat) (hx:a.eval x=.pointer (some ⟨g,p,none⟩)) (v:Value) (hS:∀w,S w→w.cell? ⟨g,p,none⟩=some v) (hw:Region.wanted o (yielded ops a.tmps)=true:=by kernel_rfl):YieldsIf Tryz.prog ops S o v a :=
 .inl ⟨hw,fun w hs=>by
  have c:=hS w hs
  unfold execOp
  simp only [ho,hx]
  go_simp⟩
theorem y_l_byt (x:Operand) (ho:o.op=.load 33 x) (g p:Nat) (hx:a.eval x=.pointer (some ⟨g,p,none⟩)) (v:Value) (hS:∀w,S w→w.cell? ⟨g,p,none⟩=some v) (hw:Region.wanted o (yielded ops a.tmps)=true:=by kernel_rfl):YieldsIf Tryz.prog ops S o v a :=
 .inl ⟨hw,fun w hs=>by
  have c:=hS w hs
  unfold execOp
  simp only [ho,hx]
  go_simp⟩
theorem y_l_hs (x:Operand) (ho:o.op=.load 26 x) (g p:Nat) (hx:a.eval x=.pointer (some ⟨g,p,none⟩)) (v:Value) (hS:∀w,S w→w.cell? ⟨g,p,none⟩=some v) (hw:Region.wanted o (yielded ops a.tmps)=true:=by kernel_rfl):YieldsIf Tryz.prog ops S o v a :=
 .inl ⟨hw,fun w hs=>by
  have c:=hS w hs
  unfold execOp
  simp only [ho,hx]
  go_simp⟩
theorem y_l_tolds (x:Operand) (ho:o.op=.load 25 x) (g p:Nat) (hx:a.eval x=.pointer (some ⟨g,p,none⟩)) (v:Value) (hS:∀w,S w→w.cell? ⟨g,p,none⟩=some v) (hw:Region.wanted o (yielded ops a.tmps)=true:=by kernel_rfl):YieldsIf Tryz.prog ops S o v a :=
 .inl ⟨hw,fun w hs=>by
  have c:=hS w hs
  unfold execOp
  simp only [ho,hx]
  go_simp⟩
theorem y_f_Wy0 (x:Operand) (ho:o.op=.fieldAddr 117 x 0) (g p:Nat) (hx:a.eval x=.pointer (some ⟨g,p,none⟩)) (hw:Region.wanted o (yielded ops a.tmps)=true:=by kernel_rfl):YieldsIf Tryz.prog ops S o (.pointer (some ⟨g,p,none⟩)) a :=
 .inl ⟨hw,fun w hs=>by
  unfold execOp
  simp only [ho,hx]
  go_simp⟩
theorem y_f_Wy1 (x:Operand) (ho:o.op=.fieldAddr 117 x 1) (g p:Nat) (hx:a.eval x=.pointer (some ⟨g,p,none⟩)) (hw:Region.wanted o (yielded ops a.tmps)=true:=by kernel_rfl):YieldsIf Tryz.prog ops S o (.pointer (some ⟨g,p+1,none⟩)) a :=
 .inl ⟨hw,fun w hs=>by
  unfold execOp
  simp only [ho,hx]
  go_simp⟩
theorem y_f_Wy3 (x:Operand) (ho:o.op=.fieldAddr 117 x 3) (g p:Nat) (hx:a.eval x=.pointer (some ⟨g,p,none⟩)) (hw:Region.wanted o (yielded ops a.tmps)=true:=by kernel_rfl):YieldsIf Tryz.prog ops S o (.pointer (some ⟨g,p+3,none⟩)) a :=
 .inl ⟨hw,fun w hs=>by
  unfold execOp
  simp only [ho,hx]
  go_simp⟩
theorem y_f_Wy4 (x:Operand) (ho:o.op=.fieldAddr 117 x 4) (g p:Nat) (hx:a.eval x=.pointer (some ⟨g,p,none⟩)) (hw:Region.wanted o (yielded ops a.tmps)=true:=by kernel_rfl):YieldsIf Tryz.prog ops S o (.pointer (some ⟨g,p+4,none⟩)) a :=
 .inl ⟨hw,fun w hs=>by
  unfold execOp
  simp only [ho,hx]
  go_simp⟩
theorem y_f_Src0 (x:Operand) (ho:o.op=.fieldAddr 29 x 0) (g p:Nat) (hx:a.eval x=.pointer (some ⟨g,p,none⟩)) (hw:Region.wanted o (yielded ops a.tmps)=true:=by kernel_rfl):YieldsIf Tryz.prog ops S o (.pointer (some ⟨g,p,none⟩)) a :=
 .inl ⟨hw,fun w hs=>by
  unfold execOp
  simp only [ho,hx]
  go_simp⟩
theorem y_f_Src1 (x:Operand) (ho:o.op=.fieldAddr 29 x 1) (g p:Nat) (hx:a.eval x=.pointer (some ⟨g,p,none⟩)) (hw:Region.wanted o (yielded ops a.tmps)=true:=by kernel_rfl):YieldsIf Tryz.prog ops S o (.pointer (some ⟨g,p+1,none⟩)) a :=
 .inl ⟨hw,fun w hs=>by
  unfold execOp
  simp only [ho,hx]
  go_simp⟩
theorem y_f_Told0 (x:Operand) (ho:o.op=.fieldAddr 56 x 0) (g p:Nat) (hx:a.eval x=.pointer (some ⟨g,p,none⟩)) (hw:Region.wanted o (yielded ops a.tmps)=true:=by kernel_rfl):YieldsIf Tryz.prog ops S o (.pointer (some ⟨g,p,none⟩)) a :=
 .inl ⟨hw,fun w hs=>by
  unfold execOp
  simp only [ho,hx]
  go_simp⟩
theorem y_f_Told1 (x:Operand) (ho:o.op=.fieldAddr 56 x 1) (g p:Nat) (hx:a.eval x=.pointer (some ⟨g,p,none⟩)) (hw:Region.wanted o (yielded ops a.tmps)=true:=by kernel_rfl):YieldsIf Tryz.prog ops S o (.pointer (some ⟨g,p+32,none⟩)) a :=
 .inl ⟨hw,fun w hs=>by
  unfold execOp
  simp only [ho,hx]
  go_simp⟩
theorem y_f_Told2 (x:Operand) (ho:o.op=.fieldAddr 56 x 2) (g p:Nat) (hx:a.eval x=.pointer (some ⟨g,p,none⟩)) (hw:Region.wanted o (yielded ops a.tmps)=true:=by kernel_rfl):YieldsIf Tryz.prog ops S o (.pointer (some ⟨g,p+33,none⟩)) a :=
 .inl ⟨hw,fun w hs=>by
  unfold execOp
  simp only [ho,hx]
  go_simp⟩
theorem y_f_Blb0 (x:Operand) (ho:o.op=.fieldAddr 79 x 0) (g p:Nat) (hx:a.eval x=.pointer (some ⟨g,p,none⟩)) (hw:Region.wanted o (yielded ops a.tmps)=true:=by kernel_rfl):YieldsIf Tryz.prog ops S o (.pointer (some ⟨g,p,none⟩)) a :=
 .inl ⟨hw,fun w hs=>by
  unfold execOp
  simp only [ho,hx]
  go_simp⟩
theorem y_f_Blb1 (x:Operand) (ho:o.op=.fieldAddr 79 x 1) (g p:Nat) (hx:a.eval x=.pointer (some ⟨g,p,none⟩)) (hw:Region.wanted o (yielded ops a.tmps)=true:=by kernel_rfl):YieldsIf Tryz.prog ops S o (.pointer (some ⟨g,p+32,none⟩)) a :=
 .inl ⟨hw,fun w hs=>by
  unfold execOp
  simp only [ho,hx]
  go_simp⟩
theorem y_f_Ent0 (x:Operand) (ho:o.op=.fieldAddr 47 x 0) (g p:Nat) (hx:a.eval x=.pointer (some ⟨g,p,none⟩)) (hw:Region.wanted o (yielded ops a.tmps)=true:=by kernel_rfl):YieldsIf Tryz.prog ops S o (.pointer (some ⟨g,p,none⟩)) a :=
 .inl ⟨hw,fun w hs=>by
  unfold execOp
  simp only [ho,hx]
  go_simp⟩
theorem y_f_Ent1 (x:Operand) (ho:o.op=.fieldAddr 47 x 1) (g p:Nat) (hx:a.eval x=.pointer (some ⟨g,p,none⟩)) (hw:Region.wanted o (yielded ops a.tmps)=true:=by kernel_rfl):YieldsIf Tryz.prog ops S o (.pointer (some ⟨g,p+1,none⟩)) a :=
 .inl ⟨hw,fun w hs=>by
  unfold execOp
  simp only [ho,hx]
  go_simp⟩
theorem y_f_Row0 (x:Operand) (ho:o.op=.fieldAddr 105 x 0) (g p:Nat) (hx:a.eval x=.pointer (some ⟨g,p,none⟩)) (hw:Region.wanted o (yielded ops a.tmps)=true:=by kernel_rfl):YieldsIf Tryz.prog ops S o (.pointer (some ⟨g,p,none⟩)) a :=
 .inl ⟨hw,fun w hs=>by
  unfold execOp
  simp only [ho,hx]
  go_simp⟩
theorem y_f_Row1 (x:Operand) (ho:o.op=.fieldAddr 105 x 1) (g p:Nat) (hx:a.eval x=.pointer (some ⟨g,p,none⟩)) (hw:Region.wanted o (yielded ops a.tmps)=true:=by kernel_rfl):YieldsIf Tryz.prog ops S o (.pointer (some ⟨g,p+1,none⟩)) a :=
 .inl ⟨hw,fun w hs=>by
  unfold execOp
  simp only [ho,hx]
  go_simp⟩
theorem y_f_Node1 (x:Operand) (ho:o.op=.fieldAddr 110 x 1) (g p:Nat) (hx:a.eval x=.pointer (some ⟨g,p,none⟩)) (hw:Region.wanted o (yielded ops a.tmps)=true:=by kernel_rfl):YieldsIf Tryz.prog ops S o (.pointer (some ⟨g,p+1,none⟩)) a :=
 .inl ⟨hw,fun w hs=>by
  unfold execOp
  simp only [ho,hx]
  go_simp⟩
theorem y_len_byt (x:Operand) (ho:o.op=.call { callee:=.builtin .len,args:=#[x],argTypes:=#[33] }) (p:Option Addr) (n c:Nat) (hx:a.eval x=.slice p n c) (hw:Region.wanted o (yielded ops a.tmps)=true:=by kernel_rfl):YieldsIf Tryz.prog ops S o (.int .i64 (n:Int)) a :=
 .inl ⟨hw,fun w hs=>by
  unfold execOp
  simp only [ho,resolve,List.map_toArray,List.map_cons,List.map_nil,hx]
  go_simp⟩
theorem y_len_entries (x:Operand) (ho:o.op=.call { callee:=.builtin .len,args:=#[x],argTypes:=#[40] }) (p:Option Addr) (n c:Nat) (hx:a.eval x=.slice p n c) (hw:Region.wanted o (yielded ops a.tmps)=true:=by kernel_rfl):YieldsIf Tryz.prog ops S o (.int .i64 (n:Int)) a :=
 .inl ⟨hw,fun w hs=>by
  unfold execOp
  simp only [ho,resolve,List.map_toArray,List.map_cons,List.map_nil,hx]
  go_simp⟩
theorem y_s_Hash (x:Operand) (ho:o.op=.load 31 x) (g p:Nat) (hx:a.eval x=.pointer (some ⟨g,p,none⟩)) (k:List Nat) (hk:k.length=32) (hS:∀w,S w→w.rangeAt g p (bv k)) (hw:Region.wanted o (yielded ops a.tmps)=true:=by kernel_rfl):YieldsIf Tryz.prog ops S o (.agg (bv k).toArray) a :=
 yieldsIf_load_mid hw _ _ ho g p hx (bv k) _ hS Tryz.underlying31 rfl (qdi hk)
theorem y_eqlH (x y:Operand) (ho:o.op=.binOp .eql 31 x y 31) (s t:List Nat) (hx:a.eval x=.agg (bv s).toArray) (hy:a.eval y=.agg (bv t).toArray) (hs:s.length=32) (hf:∀x∈s,x<256) (ht:t.length=32) (hg:∀x∈t,x<256) (r:Bool) (hr:(decide (s=t))=r) (hw:Region.wanted o (yielded ops a.tmps)=true:=by kernel_rfl):YieldsIf Tryz.prog ops S o (.bool r) a :=
 .inl ⟨hw,fun w _=>by
  have e:=qf4 w s t hs hf ht hg
  unfold execOp
  simp only [ho,hx,hy]
  obtain ⟨p,hp⟩:∃p,p=(bv s).toArray:=⟨_,rfl⟩
  obtain ⟨q,hq⟩:∃q,q=(bv t).toArray:=⟨_,rfl⟩
  rw [←hp,←hq] at e
  rw [←hp,←hq]
  clear hp hq
  subst hr
  go_simp⟩
theorem y_neqH (x y:Operand) (ho:o.op=.binOp .neq 31 x y 31) (s t:List Nat) (hx:a.eval x=.agg (bv s).toArray) (hy:a.eval y=.agg (bv t).toArray) (hs:s.length=32) (hf:∀x∈s,x<256) (ht:t.length=32) (hg:∀x∈t,x<256) (r:Bool) (hr:(!(decide (s=t)))=r) (hw:Region.wanted o (yielded ops a.tmps)=true:=by kernel_rfl):YieldsIf Tryz.prog ops S o (.bool r) a :=
 .inl ⟨hw,fun w _=>by
  have e:=qf4 w s t hs hf ht hg
  unfold execOp
  simp only [ho,hx,hy]
  obtain ⟨p,hp⟩:∃p,p=(bv s).toArray:=⟨_,rfl⟩
  obtain ⟨q,hq⟩:∃q,q=(bv t).toArray:=⟨_,rfl⟩
  rw [←hp,←hq] at e
  rw [←hp,←hq]
  clear hp hq
  subst hr
  go_simp⟩
theorem y_lssIr (x y:Operand) (ho:o.op=.binOp .lss 3 x y 3) (d d':Int) (hx:a.eval x=.int .i64 d) (hy:a.eval y=.int .i64 d') (r:Bool) (hr:decide (d<d')=r) (hw:Region.wanted o (yielded ops a.tmps)=true:=by kernel_rfl):YieldsIf Tryz.prog ops S o (.bool r) a :=
 .inl ⟨hw,fun w _=>by
  unfold execOp
  simp only [ho,hx,hy]
  subst hr
  go_simp⟩
theorem y_addIr (x y:Operand) (ho:o.op=.binOp .add 3 x y 3) (d d' r:Int) (hx:a.eval x=.int .i64 d) (hy:a.eval y=.int .i64 d') (hr:IntKind.i64.wrap (d+d')=r) (hw:Region.wanted o (yielded ops a.tmps)=true:=by kernel_rfl):YieldsIf Tryz.prog ops S o (.int .i64 r) a :=
 .inl ⟨hw,fun w _=>by
  unfold execOp
  simp only [ho,hx,hy]
  subst hr
  go_simp⟩
end
section
variable {ops:Array Oper} {o:Oper} {a:Act} {Q:Exit→Act→World→Prop} {w:World} {K:Act→World→Prop} {E:Prop}
theorem qyk (hw:Region.wanted o (yielded ops a.tmps)=true) (v:Value) (w':World) (hr:(execOp a.eval o).run Tryz.prog w=.ok (.value v) w') (h:K (a.put o.dst v) w'):if Region.wanted o (yielded ops a.tmps)=true then Oper.wp Tryz.prog o a w K Q else E:=by
 rw [if_pos hw]
 unfold Oper.wp
 rw [hr]
 exact h
theorem qyl (hw:Region.wanted o (yielded ops a.tmps)=true) (w':World) (hr:(execOp a.eval o).run Tryz.prog w=.ok .skip w') (h:K (a.put o.dst undef) w'):if Region.wanted o (yielded ops a.tmps)=true then Oper.wp Tryz.prog o a w K Q else E:=by
 rw [if_pos hw]
 unfold Oper.wp
 rw [hr]
 exact h
theorem qtb {n:Nat} {v:Value} {cs:List Value} (base:Array Value) (hb:base.size=n) (hc:cs.length=n) (hv:v.cells=cs.toArray):Instr.fill (fun i=>some (i*n,n)) base [(0,v)]=some cs.toArray:=by
 rw [fill_step (off:=0) (size:=n) (by simp) (by rw [hv,List.size_toArray,hc]) (by omega),hv]
 have e:=fold_list 0 [] base.toList cs [] rfl (by rw [hc,Array.length_toList,hb])
 simp only [List.nil_append,List.append_nil,Array.toArray_toList] at e
 rw [show (fun (cs:Array Value) (x:Value × Nat)=>match x with | (c,j)=>cs.setIfInBounds (0+j) c)=(fun (cs:Array Value) (p:Value × Nat)=>cs.setIfInBounds (0+p.2) p.1) from rfl,e]
 rfl
theorem qqo (hw : Region.wanted o (yielded ops a.tmps) = true) (t e : TypeId) (x : Operand) (ho : o.op = .buildSlice t 1 #[(0, x)]) (v : Value) (cs : List Value) (hx : a.eval x = v) (hcs : v.cells = cs.toArray)
    (ie:TypeInfo) (z:Value) (ht:Tryz.prog.underlying t=some (.slice e)) (hi:Tryz.prog.info? e=some ie) (hz:ie.zero=some z) (hsz:ie.size=cs.length) (h0:0<cs.length) (h1:cs.length≤64)
    (h:K (a.put o.dst (.slice (some ⟨w.heap.size,0,none⟩) 1 1)) (w.alloc (.cells cs.toArray e))):if Region.wanted o (yielded ops a.tmps)=true then Oper.wp Tryz.prog o a w K Q else E:=by
  rw [if_pos hw]
  refine wp_buildSlice t e 1 #[(0,x)] ho cs.toArray ie z ht hi hz (by rw [hsz];omega) (by rw [hsz];omega) ?_ h
  simp only [List.map_toArray,List.map_cons,List.map_nil,hx]
  refine qtb _ ?_ hsz.symm hcs
  rw [Array.size_map,Array.size_range]
  omega
theorem qeq (hw : Region.wanted o (yielded ops a.tmps) = true) (s x : Operand) (t : TypeId) (ho : o.op = .call { callee := .builtin .append, args := #[s, x], argTypes := #[t, t] })
    (base:Nat) (e:TypeId) (i:TypeInfo) (z:Value) (size bytes:Nat) (ht:Tryz.prog.underlying t=some (.slice e)) (hi:Tryz.prog.info? e=some i) (hz:i.zero=some z)
    (hsize:i.size=size) (hby:i.bytes=bytes) (hzs:z.cells.size=size) (hsz:0<size)
    (v:Value) (n:Nat) (xs:List Value) (hs:a.eval s=v) (hown:w.ownsRow base e size v n xs)
    (ad:Addr) (m c:Nat) (news:List Value) (hx:a.eval x=.slice (some ad) m c) (hl:news.length=m*size) (hnews:∀j u,news[j]?=some u→w.cell? (ad.add j)=some u) (h1:∀u∈news,u.oneCell'=true)
    (h63:n+m≤maxLen) (hbytes:(n+m)*bytes≤140737488355328) (hbase:base≤w.heap.size)
    (h:∀v' w',w'.ownsRow base e size v' (n+m) (xs++news)→w.grownBy w' v.ownBlock→(v'.ownBlock=v.ownBlock∨v'.ownBlock=some w.heap.size)→K (a.put o.dst v') w') :
    if Region.wanted o (yielded ops a.tmps)=true then Oper.wp Tryz.prog o a w K Q else E:=by
  obtain ⟨v',w',hr,h2,h3,h4,h5⟩:=run_append_own_at (P:=Tryz.prog) w base t o.type e i z size bytes ht hi hz hsize hby hzs hsz v n xs hown ad m c news hl hnews h1 h63 hbytes hbase
  refine qyk hw v' w' ?_ (h v' w' h2 h3 h5)
  unfold execOp
  simp only [ho,resolve,invoke,builtin,Sem.run_bind,Sem.run_pure,Result.andThen_ok,List.map_toArray,List.map_cons,List.map_nil,hs,hx,hr]
theorem r_inv (f : Nat) (x y : Operand) (name : String) (ts : Array TypeId) (ho : o.op = .call { callee := .invoke x name, args := #[y], argTypes := ts }) (hw : Region.wanted o (yielded ops a.tmps) = true) (t : TypeId) (u v : Value) (hx : a.eval x = .iface t u) (hy : a.eval y = v)
    (hm:(method (Tryz.prog.types.size+Made.depth) t u name).run Tryz.prog w=.ok (f,u) w) (eg:∀args w,(callFunc f args).run Tryz.prog w=.ok (.enter f args) w) (hc:Calls Tryz.prog f #[u,v] w fun e w'=>∃z,e=.returned z∧K (a.put o.dst z) w') :
    if Region.wanted o (yielded ops a.tmps)=true then Oper.wp Tryz.prog o a w K Q else E:=by
  rw [if_pos hw]
  have e:(execOp a.eval o).run Tryz.prog w=.ok (.enter f #[u,v]) w:=by
    unfold execOp
    have:=eg #[u,v] w
    simp only [ho,resolve,invoke,callMethod,List.map_toArray,List.map_cons,List.map_nil,hx,hy,Sem.run_bind,Sem.run_pure,Result.andThen_ok]
    have hm2:=hm
    simp [go_sem] at hm2
    simp [go_sem]
    rw [hm2,Result.andThen_ok]
    exact this
  unfold Oper.wp
  rw [e,Oper.upon_enter]
  refine hc.mono ?_
  rintro _ w' ⟨z,rfl,h⟩
  exact h
end
open Go.RowKit
variable {P : Program} {md : Region.Mode} {ops : Array Oper} {Q : Exit → Act → World → Prop} {S : World → Prop} {fuel : Nat} {listed : Array Bool} {a : Act} {w : World}
theorem ly {G H : Prop} (h : H) (e : H → G := by (intro h; (try simp only [Act.put, List.setIfInBounds_toArray, List.set_cons_zero, List.set_cons_succ]); exact h)) : G := e h
theorem tk (i : Nat) (v : Value) {oi : Oper} (hi : ops[i]? = some oi := by (simp only [List.getElem?_toArray, List.getElem?_cons_zero, List.getElem?_cons_succ]; rfl)) (y : YieldsIf P ops S oi v a) (s : S w) (h : wpAnyH P md ops Q S fuel (listed.setIfInBounds i true) (a.put oi.dst v) w) (hs : Region.noSelect ops = true := by kernel_rfl) (hf : Region.free md ops listed i = true := by kernel_rfl) (hr : (Region.ready md ops listed).contains i = true := by kernel_rfl) (hQ : ∀ c a w, Q (.panic c) (a.put oi.dst v) w → Q (.panic c) a w := by exact fun _ _ _ h => h) : wpAnyH P md ops Q S (fuel + 1) listed a w := wpAnyH_take hi hs hf hr hQ y s h
theorem r1 (i : Nat) {o : Oper} (h : ∀ K' : Act → World → Prop, Shut (∀ a w, S w → (S w → wpAnyH P md ops Q S fuel (listed.setIfInBounds i true) a w) → K' a w) → if Region.wanted o (yielded ops a.tmps) = true then Oper.wp P o a w K' Q else K' (a.put o.dst undef) w) (hr : Region.ready md ops listed = [i] := by kernel_rfl) (ho : ops[i]? = some o := by (simp only [List.getElem?_toArray, List.getElem?_cons_zero, List.getElem?_cons_succ]; rfl)) : wpAnyH P md ops Q S (fuel + 1) listed a w := wpAnyH_ready hr (by simp) (AllReadyH.cons ho h AllReadyH.nil)
theorem r2 (i j : Nat) {o p : Oper} (h : ∀ K' : Act → World → Prop, Shut (∀ a w, S w → (S w → wpAnyH P md ops Q S fuel (listed.setIfInBounds i true) a w) → K' a w) → if Region.wanted o (yielded ops a.tmps) = true then Oper.wp P o a w K' Q else K' (a.put o.dst undef) w) (k : ∀ K' : Act → World → Prop, Shut (∀ a w, S w → (S w → wpAnyH P md ops Q S fuel (listed.setIfInBounds j true) a w) → K' a w) → if Region.wanted p (yielded ops a.tmps) = true then Oper.wp P p a w K' Q else K' (a.put p.dst undef) w) (hr : Region.ready md ops listed = [i, j] := by kernel_rfl) (ho : ops[i]? = some o := by (simp only [List.getElem?_toArray, List.getElem?_cons_zero, List.getElem?_cons_succ]; rfl)) (hp : ops[j]? = some p := by (simp only [List.getElem?_toArray, List.getElem?_cons_zero, List.getElem?_cons_succ]; rfl)) : wpAnyH P md ops Q S (fuel + 1) listed a w := wpAnyH_ready hr (by simp) (AllReadyH.cons ho h (AllReadyH.cons hp k AllReadyH.nil))
open Go.RowKit
section
variable {ops:Array Oper} {S:World→Prop} {o:Oper} {a:Act}
theorem y_i_tolds (x i:Operand) (ho:o.op=.indexAddr 25 x i) (g p n c j:Nat) (hx:a.eval x=.slice (some ⟨g,p,none⟩) n c) (hi:a.eval i=.int .i64 j) (hj:j<n) (hw:Region.wanted o (yielded ops a.tmps)=true:=by kernel_rfl):YieldsIf Tryz.prog ops S o (.pointer (some ⟨g,p+j*34,none⟩)) a :=
 .inl ⟨hw,fun w hs=>by
  have q:(j:Int)<(n:Int):=by omega
  unfold execOp
  simp only [ho,hx,hi]
  go_simp⟩
theorem y_i_blobs (x i:Operand) (ho:o.op=.indexAddr 43 x i) (g p n c j:Nat) (hx:a.eval x=.slice (some ⟨g,p,none⟩) n c) (hi:a.eval i=.int .i64 j) (hj:j<n) (hw:Region.wanted o (yielded ops a.tmps)=true:=by kernel_rfl):YieldsIf Tryz.prog ops S o (.pointer (some ⟨g,p+j*33,none⟩)) a :=
 .inl ⟨hw,fun w hs=>by
  have q:(j:Int)<(n:Int):=by omega
  unfold execOp
  simp only [ho,hx,hi]
  go_simp⟩
theorem y_i_entries (x i:Operand) (ho:o.op=.indexAddr 40 x i) (g p n c j:Nat) (hx:a.eval x=.slice (some ⟨g,p,none⟩) n c) (hi:a.eval i=.int .i64 j) (hj:j<n) (hw:Region.wanted o (yielded ops a.tmps)=true:=by kernel_rfl):YieldsIf Tryz.prog ops S o (.pointer (some ⟨g,p+j*2,none⟩)) a :=
 .inl ⟨hw,fun w hs=>by
  have q:(j:Int)<(n:Int):=by omega
  unfold execOp
  simp only [ho,hx,hi]
  go_simp⟩
theorem y_i_rows (x i:Operand) (ho:o.op=.indexAddr 103 x i) (g p n c j:Nat) (hx:a.eval x=.slice (some ⟨g,p,none⟩) n c) (hi:a.eval i=.int .i64 j) (hj:j<n) (hw:Region.wanted o (yielded ops a.tmps)=true:=by kernel_rfl):YieldsIf Tryz.prog ops S o (.pointer (some ⟨g,p+j*2,none⟩)) a :=
 .inl ⟨hw,fun w hs=>by
  have q:(j:Int)<(n:Int):=by omega
  unfold execOp
  simp only [ho,hx,hi]
  go_simp⟩
end
open Go.RowKit
section
variable {ops:Array Oper} {o:Oper} {a:Act} {Q:Exit→Act→World→Prop} {w:World} {K:Act→World→Prop}
theorem r_yield {v:Value} (hy:YieldsIf Tryz.prog ops (fun u=>u=w) o v a) (h:K (a.put o.dst v) w):if Region.wanted o (yielded ops a.tmps)=true then Oper.wp Tryz.prog o a w K Q else K (a.put o.dst undef) w:=by
 rcases hy with ⟨hw,hr⟩ | ⟨hw,rfl⟩
 ·rw [if_pos hw]
  unfold Oper.wp
  rw [hr w rfl]
  exact h
 ·rw [if_neg (by rw [hw];decide)]
  exact h
theorem r_s_hs {E:Prop} (x y:Operand) (ho:o.op=.store 26 x y) (g p:Nat) (hx:a.eval x=.pointer (some ⟨g,p,none⟩)) (v old:Value) (hy:a.eval y=v) (hv:∃b n c,v=.slice b n c) (hc:w.cell? ⟨g,p,none⟩=some old) (hf:w.frozen? ⟨g,p,none⟩=false) (h:K (a.put o.dst undef) (w.setCell ⟨g,p,none⟩ v)) (hw:Region.wanted o (yielded ops a.tmps)=true:=by kernel_rfl) :
 if Region.wanted o (yielded ops a.tmps)=true then Oper.wp Tryz.prog o a w K Q else E:=by
 refine qyl hw _ ?_ h
 obtain ⟨b,n,c,rfl⟩:=hv
 unfold execOp
 simp only [ho,hx,hy]
 go_simp
theorem i_hs:(Tryz.prog.info? 31).map (fun i=>(i.zero,i.size,i.bytes))=some (some (.agg (bv z32).toArray),32,32):=by kernel_rfl
theorem r_one_hs {E:Prop} (x:Operand) (ho:o.op=.buildSlice 26 1 #[(0,x)]) (v:Value) (cs:List Value) (hx:a.eval x=v) (hcs:v.cells=cs.toArray) (hl:cs.length=32)
 (h:K (a.put o.dst (.slice (some ⟨w.heap.size,0,none⟩) 1 1)) (w.alloc (.cells cs.toArray 31))) (hw:Region.wanted o (yielded ops a.tmps)=true:=by kernel_rfl):if Region.wanted o (yielded ops a.tmps)=true then Oper.wp Tryz.prog o a w K Q else E:=by
 obtain ⟨i0,hi0,hz0,hz1,hz2⟩:=info_parts i_hs
 exact qqo hw 26 31 x ho v cs hx hcs i0 _ Tryz.underlying26 hi0 hz0 (by rw [hz1,hl]) (by omega) (by omega) h
theorem r_app_hs {E : Prop} (B : Nat) (hw : Region.wanted o (yielded ops a.tmps) = true) (s x : Operand) (ho : o.op = .call { callee := .builtin .append, args := #[s, x], argTypes := #[26, 26] }) (v : Value) (n : Nat) (xs : List Value) (hs : a.eval s = v) (hown : w.ownsRow B 31 32 v n xs) (b : Nat) (news : List Value)
    (hx:a.eval x=.slice (some ⟨b,0,none⟩) 1 1) (hl:news.length=32) (hb:w.rangeAt b 0 news) (h1:∀u∈news,u.oneCell'=true) (hn:n≤1073741824) (hB:B≤w.heap.size)
    (h:∀v' w',w'.ownsRow B 31 32 v' (n+1) (xs++news)→w.grownBy w' v.ownBlock→(v'.ownBlock=v.ownBlock∨v'.ownBlock=some w.heap.size)→K (a.put o.dst v') w'):if Region.wanted o (yielded ops a.tmps)=true then Oper.wp Tryz.prog o a w K Q else E:=by
  obtain ⟨i0,hi0,hz0,hz1,hz2⟩:=info_parts i_hs
  refine qeq hw s x 26 ho B 31 i0 _ 32 32 Tryz.underlying26 hi0 hz0 hz1 hz2 ?_ (by decide) v n xs hs hown ⟨b,0,none⟩ 1 1 news hx (by omega) (fun j u hu=>?_) h1 (by unfold maxLen;omega) (by omega) hB h
  · kernel_rfl
  · rw [qa7]
    have:=hb j u hu
    rw [Nat.zero_add] at this
    exact this
theorem qrb:(Tryz.prog.info? 33).map (fun i=>(i.zero,i.size,i.bytes))=some (some (.slice none 0 0),1,24):=by kernel_rfl
theorem r_app_lists {E : Prop} (B : Nat) (hw : Region.wanted o (yielded ops a.tmps) = true) (s x : Operand) (ho : o.op = .call { callee := .builtin .append, args := #[s, x], argTypes := #[27, 27] }) (v : Value) (n : Nat) (xs : List Value) (hs : a.eval s = v) (hown : w.ownsRow B 33 1 v n xs) (b : Nat) (news : List Value)
    (hx:a.eval x=.slice (some ⟨b,0,none⟩) 1 1) (hl:news.length=1) (hb:w.rangeAt b 0 news) (h1:∀u∈news,u.oneCell'=true) (hn:n≤1073741824) (hB:B≤w.heap.size)
    (h:∀v' w',w'.ownsRow B 33 1 v' (n+1) (xs++news)→w.grownBy w' v.ownBlock→(v'.ownBlock=v.ownBlock∨v'.ownBlock=some w.heap.size)→K (a.put o.dst v') w'):if Region.wanted o (yielded ops a.tmps)=true then Oper.wp Tryz.prog o a w K Q else E:=by
  obtain ⟨i0,hi0,hz0,hz1,hz2⟩:=info_parts qrb
  refine qeq hw s x 27 ho B 33 i0 _ 1 24 Tryz.underlying27 hi0 hz0 hz1 hz2 ?_ (by decide) v n xs hs hown ⟨b,0,none⟩ 1 1 news hx (by omega) (fun j u hu=>?_) h1 (by unfold maxLen;omega) (by omega) hB h
  · kernel_rfl
  · rw [qa7]
    have:=hb j u hu
    rw [Nat.zero_add] at this
    exact this
theorem qrc:(Tryz.prog.info? 56).map (fun i=>(i.zero,i.size,i.bytes))=some (some (.agg (bv z32++[Value.slice none 0 0,Value.int .i64 0]).toArray),34,64):=by kernel_rfl
theorem r_one_tolds {E:Prop} (x:Operand) (ho:o.op=.buildSlice 25 1 #[(0,x)]) (v:Value) (cs:List Value) (hx:a.eval x=v) (hcs:v.cells=cs.toArray) (hl:cs.length=34)
 (h:K (a.put o.dst (.slice (some ⟨w.heap.size,0,none⟩) 1 1)) (w.alloc (.cells cs.toArray 56))) (hw:Region.wanted o (yielded ops a.tmps)=true:=by kernel_rfl):if Region.wanted o (yielded ops a.tmps)=true then Oper.wp Tryz.prog o a w K Q else E:=by
 obtain ⟨i0,hi0,hz0,hz1,hz2⟩:=info_parts qrc
 exact qqo hw 25 56 x ho v cs hx hcs i0 _ Tryz.underlying25 hi0 hz0 (by rw [hz1,hl]) (by omega) (by omega) h
theorem r_app_tolds {E : Prop} (B : Nat) (hw : Region.wanted o (yielded ops a.tmps) = true) (s x : Operand) (ho : o.op = .call { callee := .builtin .append, args := #[s, x], argTypes := #[25, 25] }) (v : Value) (n : Nat) (xs : List Value) (hs : a.eval s = v) (hown : w.ownsRow B 56 34 v n xs) (b : Nat) (news : List Value)
    (hx:a.eval x=.slice (some ⟨b,0,none⟩) 1 1) (hl:news.length=34) (hb:w.rangeAt b 0 news) (h1:∀u∈news,u.oneCell'=true) (hn:n≤1073741824) (hB:B≤w.heap.size)
    (h:∀v' w',w'.ownsRow B 56 34 v' (n+1) (xs++news)→w.grownBy w' v.ownBlock→(v'.ownBlock=v.ownBlock∨v'.ownBlock=some w.heap.size)→K (a.put o.dst v') w'):if Region.wanted o (yielded ops a.tmps)=true then Oper.wp Tryz.prog o a w K Q else E:=by
  obtain ⟨i0,hi0,hz0,hz1,hz2⟩:=info_parts qrc
  refine qeq hw s x 25 ho B 56 i0 _ 34 64 Tryz.underlying25 hi0 hz0 hz1 hz2 ?_ (by decide) v n xs hs hown ⟨b,0,none⟩ 1 1 news hx (by omega) (fun j u hu=>?_) h1 (by unfold maxLen;omega) (by omega) hB h
  · kernel_rfl
  · rw [qa7]
    have:=hb j u hu
    rw [Nat.zero_add] at this
    exact this
theorem qls:(Tryz.prog.info? 79).map (fun i=>(i.zero,i.size,i.bytes))=some (some (.agg (bv z32++[Value.slice none 0 0]).toArray),33,56):=by kernel_rfl
theorem r_one_blobs {E:Prop} (hw:Region.wanted o (yielded ops a.tmps)=true) (x:Operand) (ho:o.op=.buildSlice 43 1 #[(0,x)]) (v:Value) (cs:List Value) (hx:a.eval x=v) (hcs:v.cells=cs.toArray) (hl:cs.length=33)
 (h:K (a.put o.dst (.slice (some ⟨w.heap.size,0,none⟩) 1 1)) (w.alloc (.cells cs.toArray 79))):if Region.wanted o (yielded ops a.tmps)=true then Oper.wp Tryz.prog o a w K Q else E:=by
 obtain ⟨i0,hi0,hz0,hz1,hz2⟩:=info_parts qls
 exact qqo hw 43 79 x ho v cs hx hcs i0 _ Tryz.underlying43 hi0 hz0 (by rw [hz1,hl]) (by omega) (by omega) h
theorem r_app_blobs {E : Prop} (B : Nat) (hw : Region.wanted o (yielded ops a.tmps) = true) (s x : Operand) (ho : o.op = .call { callee := .builtin .append, args := #[s, x], argTypes := #[43, 43] }) (v : Value) (n : Nat) (xs : List Value) (hs : a.eval s = v) (hown : w.ownsRow B 79 33 v n xs) (b : Nat) (news : List Value)
    (hx:a.eval x=.slice (some ⟨b,0,none⟩) 1 1) (hl:news.length=33) (hb:w.rangeAt b 0 news) (h1:∀u∈news,u.oneCell'=true) (hn:n≤1073741824) (hB:B≤w.heap.size)
    (h:∀v' w',w'.ownsRow B 79 33 v' (n+1) (xs++news)→w.grownBy w' v.ownBlock→(v'.ownBlock=v.ownBlock∨v'.ownBlock=some w.heap.size)→K (a.put o.dst v') w'):if Region.wanted o (yielded ops a.tmps)=true then Oper.wp Tryz.prog o a w K Q else E:=by
  obtain ⟨i0,hi0,hz0,hz1,hz2⟩:=info_parts qls
  refine qeq hw s x 43 ho B 79 i0 _ 33 56 Tryz.underlying43 hi0 hz0 hz1 hz2 ?_ (by decide) v n xs hs hown ⟨b,0,none⟩ 1 1 news hx (by omega) (fun j u hu=>?_) h1 (by unfold maxLen;omega) (by omega) hB h
  · kernel_rfl
  · rw [qa7]
    have:=hb j u hu
    rw [Nat.zero_add] at this
    exact this
theorem i_entries:(Tryz.prog.info? 47).map (fun i=>(i.zero,i.size,i.bytes))=some (some (.agg #[.slice none 0 0,.slice none 0 0]),2,48):=by kernel_rfl
theorem r_one_entries {E:Prop} (x:Operand) (ho:o.op=.buildSlice 40 1 #[(0,x)]) (v:Value) (cs:List Value) (hx:a.eval x=v) (hcs:v.cells=cs.toArray) (hl:cs.length=2)
 (h:K (a.put o.dst (.slice (some ⟨w.heap.size,0,none⟩) 1 1)) (w.alloc (.cells cs.toArray 47))) (hw:Region.wanted o (yielded ops a.tmps)=true:=by kernel_rfl):if Region.wanted o (yielded ops a.tmps)=true then Oper.wp Tryz.prog o a w K Q else E:=by
 obtain ⟨i0,hi0,hz0,hz1,hz2⟩:=info_parts i_entries
 exact qqo hw 40 47 x ho v cs hx hcs i0 _ Tryz.underlying40 hi0 hz0 (by rw [hz1,hl]) (by omega) (by omega) h
theorem r_app_entries {E : Prop} (B : Nat) (hw : Region.wanted o (yielded ops a.tmps) = true) (s x : Operand) (ho : o.op = .call { callee := .builtin .append, args := #[s, x], argTypes := #[40, 40] }) (v : Value) (n : Nat) (xs : List Value) (hs : a.eval s = v) (hown : w.ownsRow B 47 2 v n xs) (b : Nat) (news : List Value)
    (hx:a.eval x=.slice (some ⟨b,0,none⟩) 1 1) (hl:news.length=2) (hb:w.rangeAt b 0 news) (h1:∀u∈news,u.oneCell'=true) (hn:n≤1073741824) (hB:B≤w.heap.size)
    (h:∀v' w',w'.ownsRow B 47 2 v' (n+1) (xs++news)→w.grownBy w' v.ownBlock→(v'.ownBlock=v.ownBlock∨v'.ownBlock=some w.heap.size)→K (a.put o.dst v') w'):if Region.wanted o (yielded ops a.tmps)=true then Oper.wp Tryz.prog o a w K Q else E:=by
  obtain ⟨i0,hi0,hz0,hz1,hz2⟩:=info_parts i_entries
  refine qeq hw s x 40 ho B 47 i0 _ 2 48 Tryz.underlying40 hi0 hz0 hz1 hz2 ?_ (by decide) v n xs hs hown ⟨b,0,none⟩ 1 1 news hx (by omega) (fun j u hu=>?_) h1 (by unfold maxLen;omega) (by omega) hB h
  · kernel_rfl
  · rw [qa7]
    have:=hb j u hu
    rw [Nat.zero_add] at this
    exact this
theorem qu0:(Tryz.prog.info? 105).map (fun i=>(i.zero,i.size,i.bytes))=some (some (.agg #[.slice none 0 0,.slice none 0 0]),2,48):=by kernel_rfl
theorem r_one_rows {E:Prop} (x:Operand) (ho:o.op=.buildSlice 103 1 #[(0,x)]) (v:Value) (cs:List Value) (hx:a.eval x=v) (hcs:v.cells=cs.toArray) (hl:cs.length=2)
 (h:K (a.put o.dst (.slice (some ⟨w.heap.size,0,none⟩) 1 1)) (w.alloc (.cells cs.toArray 105))) (hw:Region.wanted o (yielded ops a.tmps)=true:=by kernel_rfl):if Region.wanted o (yielded ops a.tmps)=true then Oper.wp Tryz.prog o a w K Q else E:=by
 obtain ⟨i0,hi0,hz0,hz1,hz2⟩:=info_parts qu0
 exact qqo hw 103 105 x ho v cs hx hcs i0 _ Tryz.underlying103 hi0 hz0 (by rw [hz1,hl]) (by omega) (by omega) h
theorem r_app_rows {E : Prop} (B : Nat) (hw : Region.wanted o (yielded ops a.tmps) = true) (s x : Operand) (ho : o.op = .call { callee := .builtin .append, args := #[s, x], argTypes := #[103, 103] }) (v : Value) (n : Nat) (xs : List Value) (hs : a.eval s = v) (hown : w.ownsRow B 105 2 v n xs) (b : Nat) (news : List Value)
    (hx:a.eval x=.slice (some ⟨b,0,none⟩) 1 1) (hl:news.length=2) (hb:w.rangeAt b 0 news) (h1:∀u∈news,u.oneCell'=true) (hn:n≤1073741824) (hB:B≤w.heap.size)
    (h:∀v' w',w'.ownsRow B 105 2 v' (n+1) (xs++news)→w.grownBy w' v.ownBlock→(v'.ownBlock=v.ownBlock∨v'.ownBlock=some w.heap.size)→K (a.put o.dst v') w'):if Region.wanted o (yielded ops a.tmps)=true then Oper.wp Tryz.prog o a w K Q else E:=by
  obtain ⟨i0,hi0,hz0,hz1,hz2⟩:=info_parts qu0
  refine qeq hw s x 103 ho B 105 i0 _ 2 48 Tryz.underlying103 hi0 hz0 hz1 hz2 ?_ (by decide) v n xs hs hown ⟨b,0,none⟩ 1 1 news hx (by omega) (fun j u hu=>?_) h1 (by unfold maxLen;omega) (by omega) hB h
  · kernel_rfl
  · rw [qa7]
    have:=hb j u hu
    rw [Nat.zero_add] at this
    exact this
end
section
variable {ops:Array Oper} {rest:List Oper} {o:Oper} {a:Act} {Q:Exit→Act→World→Prop} {w:World}
theorem p_app_lists (B : Nat) (hgd : o.guard = none) (s x : Operand) (ho : o.op = .call { callee := .builtin .append, args := #[s, x], argTypes := #[27, 27] }) (v : Value) (n : Nat) (xs : List Value) (hs : a.eval s = v) (hown : w.ownsRow B 33 1 v n xs) (b : Nat) (news : List Value)
    (hx:a.eval x=.slice (some ⟨b,0,none⟩) 1 1) (hl:news.length=1) (hb:w.rangeAt b 0 news) (h1:∀u∈news,u.oneCell'=true) (hn:n≤1073741824) (hB:B≤w.heap.size)
    (h:∀g cap w',w'.ownsRow B 33 1 (.slice (some ⟨g,0,none⟩) (n+1) cap) (n+1) (xs++news)→w.grownBy w' v.ownBlock→(v.ownBlock=some g∨g=w.heap.size)→wpList Tryz.prog ops Q rest (a.put o.dst (.slice (some ⟨g,0,none⟩) (n+1) cap)) w'):wpList Tryz.prog ops Q (o::rest) a w:=by
  obtain ⟨i0,hi0,hz0,hz1,hz2⟩:=info_parts qrb
  refine wpList_append_lies w hgd s x 27 ho B 33 i0 _ 1 24 Tryz.underlying27 hi0 hz0 hz1 hz2 ?_ (by decide) v n xs hs hown ⟨b,0,none⟩ 1 1 news hx (by omega) (fun j u hu=>?_) h1 (by decide) (by unfold maxLen;omega) (by omega) hB _ rfl (fun g cap w' q1 q2 q3 _=>h g cap w' q1 q2 q3)
  · kernel_rfl
  · rw [qa7]
    have:=hb j u hu
    rw [Nat.zero_add] at this
    exact this
theorem p_app_blobs (B : Nat) (hgd : o.guard = none) (s x : Operand) (ho : o.op = .call { callee := .builtin .append, args := #[s, x], argTypes := #[43, 43] }) (v : Value) (n : Nat) (xs : List Value) (hs : a.eval s = v) (hown : w.ownsRow B 79 33 v n xs) (b : Nat) (news : List Value)
    (hx:a.eval x=.slice (some ⟨b,0,none⟩) 1 1) (hl:news.length=33) (hb:w.rangeAt b 0 news) (h1:∀u∈news,u.oneCell'=true) (hn:n≤1073741824) (hB:B≤w.heap.size)
    (h:∀g cap w',w'.ownsRow B 79 33 (.slice (some ⟨g,0,none⟩) (n+1) cap) (n+1) (xs++news)→w.grownBy w' v.ownBlock→(v.ownBlock=some g∨g=w.heap.size)→wpList Tryz.prog ops Q rest (a.put o.dst (.slice (some ⟨g,0,none⟩) (n+1) cap)) w'):wpList Tryz.prog ops Q (o::rest) a w:=by
  obtain ⟨i0,hi0,hz0,hz1,hz2⟩:=info_parts qls
  refine wpList_append_lies w hgd s x 43 ho B 79 i0 _ 33 56 Tryz.underlying43 hi0 hz0 hz1 hz2 ?_ (by decide) v n xs hs hown ⟨b,0,none⟩ 1 1 news hx (by omega) (fun j u hu=>?_) h1 (by decide) (by unfold maxLen;omega) (by omega) hB _ rfl (fun g cap w' q1 q2 q3 _=>h g cap w' q1 q2 q3)
  · kernel_rfl
  · rw [qa7]
    have:=hb j u hu
    rw [Nat.zero_add] at this
    exact this
theorem p_app_entries (B : Nat) (hgd : o.guard = none) (s x : Operand) (ho : o.op = .call { callee := .builtin .append, args := #[s, x], argTypes := #[40, 40] }) (v : Value) (n : Nat) (xs : List Value) (hs : a.eval s = v) (hown : w.ownsRow B 47 2 v n xs) (b : Nat) (news : List Value)
    (hx:a.eval x=.slice (some ⟨b,0,none⟩) 1 1) (hl:news.length=2) (hb:w.rangeAt b 0 news) (h1:∀u∈news,u.oneCell'=true) (hn:n≤1073741824) (hB:B≤w.heap.size)
    (h:∀g cap w',w'.ownsRow B 47 2 (.slice (some ⟨g,0,none⟩) (n+1) cap) (n+1) (xs++news)→w.grownBy w' v.ownBlock→(v.ownBlock=some g∨g=w.heap.size)→wpList Tryz.prog ops Q rest (a.put o.dst (.slice (some ⟨g,0,none⟩) (n+1) cap)) w'):wpList Tryz.prog ops Q (o::rest) a w:=by
  obtain ⟨i0,hi0,hz0,hz1,hz2⟩:=info_parts i_entries
  refine wpList_append_lies w hgd s x 40 ho B 47 i0 _ 2 48 Tryz.underlying40 hi0 hz0 hz1 hz2 ?_ (by decide) v n xs hs hown ⟨b,0,none⟩ 1 1 news hx (by omega) (fun j u hu=>?_) h1 (by decide) (by unfold maxLen;omega) (by omega) hB _ rfl (fun g cap w' q1 q2 q3 _=>h g cap w' q1 q2 q3)
  · kernel_rfl
  · rw [qa7]
    have:=hb j u hu
    rw [Nat.zero_add] at this
    exact this
end
open Go.RowKit
section
variable {ops:Array Oper} {S:World→Prop} {o:Oper} {a:Act}
theorem y_slc (T:TypeId) (x:Operand) (lo hi mx:Option Operand) (ho:o.op=.slice T x lo hi mx) (v:Value) (hr:∀w,S w→(Instr.sliceAt T (a.eval x) (lo.map a.eval) (hi.map a.eval) (mx.map a.eval)).run Tryz.prog w=.ok v w) (hw:Region.wanted o (yielded ops a.tmps)=true:=by kernel_rfl):YieldsIf Tryz.prog ops S o v a :=
 .inl ⟨hw,fun w hs=>by
  have e:=hr w hs
  unfold execOp
  simp only [ho,Sem.run_bind,e,Result.andThen_ok]
  rfl⟩
end
section
variable {ops:Array Oper} {o:Oper} {a:Act}
theorem r_build0 {Q : Exit → Act → World → Prop} {w : World} {K : Act → World → Prop} {E : Prop} (ho : o.op = .buildSlice 33 0 #[]) (hw : Region.wanted o (yielded ops a.tmps) = true)
    (h:K (a.put o.dst (.slice (some ⟨w.heap.size,0,none⟩) 0 0)) (w.alloc (.cells #[] 5))) :
    if Region.wanted o (yielded ops a.tmps)=true then Oper.wp Tryz.prog o a w K Q else E:=by
  rw [if_pos hw]
  have e:(execOp a.eval o).run Tryz.prog w=.ok (.value (.slice (some ⟨w.heap.size,0,none⟩) 0 0)) (w.alloc (.cells #[] 5)):=by
    unfold execOp
    simp only [ho]
    go_simp
  unfold Oper.wp
  rw [e]
  exact h
end
end Go.Proofs.YtemcneddbhgadaaGreatDoor.Z
