import Derived.Test.YtemcneddbhgadaaGreatDoorMnzz
import Derived.Test.YtemcneddbhgadaaGreatDoorEnczz
import Derived.Test.YtemcneddbhgadaaGreatDoorFmzz
import Derived.Test.YtemcneddbhgadaaGreatDoorONbzz
import Derived.Test.YtemcneddbhgadaaGreatDoorCkzz
namespace Go.Proofs.YtemcneddbhgadaaGreatDoor
open Go.RowKit
theorem fill_step {place:Nat→Option (Nat × Nat)} {cells:Array Value} {i off size:Nat} {v:Value} {rest:List (Nat × Value)} (hp:place i=some (off,size)) (hs:v.cells.size=size) (hl:off+size≤cells.size) :
 Instr.fill place cells ((i,v)::rest)=Instr.fill place (v.cells.zipIdx.foldl (fun cs (c,j)=>cs.setIfInBounds (off+j) c) cells) rest:=by
 rw [Instr.fill,hp]
 simp only [hs]
 rw [if_neg (by simp;omega)]
theorem qki (parts:List (Nat × Value)):Tryz.prog.built 107 parts=Instr.fill (fun i=>(#[(0,1),(1,32),(33,1)]:Array (Nat × Nat))[i]?) (rcs rz (.slice none 0 0)).toArray parts:=by kernel_rfl
theorem qkj (parts:List (Nat × Value)):Tryz.prog.built 110 parts=Instr.fill (fun i=>(#[(0,1),(1,1),(2,1),(3,1),(4,34),(38,544)]:Array (Nat × Nat))[i]?) (nc nz uz).toArray parts:=by kernel_rfl
theorem fold_list (off:Nat) (a x x' b:List Value) (ha:a.length=off) (hx:x'.length=x.length) :
 (x'.toArray.zipIdx.foldl (fun (cs:Array Value) (p:Value × Nat)=>cs.setIfInBounds (off+p.2) p.1) (a++(x++b)).toArray)=(a++(x'++b)).toArray:=by
 have key:=fold_set off x' 0 (a++(x++b)).toArray (by simp;omega)
 have e:x'.toArray.zipIdx.foldl (fun (cs:Array Value) (p:Value × Nat)=>cs.setIfInBounds (off+p.2) p.1) (a++(x++b)).toArray=(x'.zipIdx 0).foldl (fun (cs:Array Value) (p:Value × Nat)=>cs.setIfInBounds (off+p.2) p.1) (a++(x++b)).toArray:=by
  rw [←Array.foldl_toList]
  simp
 rw [e]
 apply Array.ext_getElem?
 intro i
 rw [key.2 i]
 simp only [List.getElem?_toArray,Nat.add_zero]
 by_cases h1:off≤i∧i<off+x'.length
 ·rw [if_pos h1,List.getElem?_append_right (by omega),List.getElem?_append_left (by omega),ha]
 ·rw [if_neg h1]
  by_cases h2:i<off
  ·rw [List.getElem?_append_left (by omega),List.getElem?_append_left (by omega)]
  ·rw [List.getElem?_append_right (by omega),List.getElem?_append_right (by omega),List.getElem?_append_right (by omega),List.getElem?_append_right (by omega),hx]
theorem qgr (s:List Nat) (hs:s.length=32):Tryz.prog.built 107 [(0,.int .i64 1),(1,.agg (bv s).toArray)]=some (rcs ⟨1,s,[]⟩ (.slice none 0 0)).toArray:=by
 rw [qki,fill_step (off:=0) (size:=1) rfl rfl (by rw [List.size_toArray,qa5 qac];omega)]
 have e:((Value.int .i64 1).cells.zipIdx.foldl (fun (cs:Array Value) (p:Value × Nat)=>cs.setIfInBounds (0+p.2) p.1) (rcs rz (.slice none 0 0)).toArray)=([Value.int .i64 1]++(bv z32++[Value.slice none 0 0])).toArray:=by kernel_rfl
 rw [e,fill_step (off:=1) (size:=32) rfl (by simp [Value.cells,bv_len,hs]) (by simp [bv_len,qac])]
 rw [show (Value.agg (bv s).toArray).cells=(bv s).toArray from rfl,fold_list 1 _ _ (bv s) _ rfl (by rw [bv_len,bv_len,hs,qac])]
 rfl
theorem qn7 {w':World} {B:Nat} {v:Value} {s:List Nat} (h:Str w' (fun i=>B≤i) v s):w'.ownsRow B 5 1 v s.length (bv s):=qai h.own h.foot
theorem wpList_bdL {ops:Array Oper} {rest:List Oper} {op:Oper} {a:Act} {w:World} {Q:Exit→Act→World→Prop} (t:TypeId) (L:List (Nat × Operand)) (ho:op.op=.build t L.toArray) (cells:Array Value)
 (hb:Tryz.prog.built t (L.map fun (i,x)=>(i,a.eval x))=some cells) (h:wpList Tryz.prog ops Q rest (a.put op.dst (.agg cells)) w) (hw:Region.wanted op (yielded ops a.tmps)=true:=by kernel_rfl):wpList Tryz.prog ops Q (op::rest) a w :=
 qfj hw t _ ho cells (by simp only [List.map_toArray];exact hb) h
theorem qie {w:World} {B B' g n:Nat} {v:Value} {xs:List Value} (h:w.ownsRow B 5 1 v n xs) (hg:g<B) (hB:B'≤B) (cs:Array Value):(w.setRow g cs).ownsRow B' 5 1 v n xs :=
 qai (qal h (fun q hq=>setRow_other w g q cs (by have:=(h.lt q hq).1;omega))) (fun q hq=>by have:=(h.lt q hq).1;omega)
theorem qqu (w:World) (p:Option Addr) (c:Nat):(Instr.arrayAt 31 (.slice p 32 c)).run Tryz.prog w=.ok (.pointer p) w:=by
 simp [Instr.arrayAt,run_underlying Tryz.underlying31]
def qyp (x:It) (w:World) (e:Ending) (w':World):Prop :=
 ∃v,e=.returned (.tuple #[.agg (rcs ((itR x).getD rz) v).toArray,.bool (itR x).isSome])∧w'.ownsRow w.heap.size 5 1 v ((itR x).getD rz).b.length (bv ((itR x).getD rz).b)∧Below w.heap.size w w'∧∀y∈((itR x).getD rz).b,y<256
theorem qtl {w:World} {a:Option Addr} {b off n:Nat} {s:List Nat} (h:Vw w a b off s) (hn:s.length=n) (h0:0<n):a=some ⟨b,off,none⟩∧w.rangeAt b off (bv s):=by
 refine ⟨h.at_ (by omega),fun j v hv=>?_⟩
 have hj:j<s.length:=by rw [←bv_len s];exact (List.getElem?_eq_some_iff.1 hv).1
 rw [bv_at hj] at hv
 rw [←hv]
 exact h.cell j hj
theorem qll {fn:Func} {p t:Tmp} (h:fn.results=#[.cell p 107,.tmp t]) (tmps:Array Value) (w:World) (g:Nat) (r:Rf) (v:Value) (q:Value) (hr:r.h.length=32) (hg:w.rangeAt g 0 (rcs r v)) (hp:tmps.getD p undef=.pointer (some ⟨g,0,none⟩)) (ht:tmps.getD t undef=q) :
 (results fn tmps).run Tryz.prog w=.ok (.tuple #[.agg (rcs r v).toArray,q]) w :=
 res2 h tmps w g _ _ hp ht (run_loadVar_mid w g 0 107 _ _ hg Tryz.underlying107 rfl (qdh hr v))
set_option maxRecDepth 100000 in
set_option maxHeartbeats 1600000 in
theorem qhk {w:World} {x:It} {vb vi:Value} (h:Lies Vb w x vb vi):Calls Tryz.prog 147 #[iv x.l vb vi] w (qyp x w):=by
 have hz:=zv26
 have har:=qqu
 obtain ⟨a1,n1,k1,a2,n2,k2,rfl,rfl⟩:=h.form
 obtain ⟨l,el⟩:∃l,l=x.l:=⟨_,rfl⟩
 rw [←el]
 have HEL:Hid (l=x.l):=el
 have BB:∀lb,Below w.heap.size w ((w.alloc (.cells #[.bool lb,.slice a1 n1 k1,.slice a2 n2 k2] 191)).alloc (.cells (rcs rz (.slice none 0 0)).toArray 107)):=fun lb=>(qaa _ _).alloc (by simp) _
 have hg:∀lb,((w.alloc (.cells #[.bool lb,.slice a1 n1 k1,.slice a2 n2 k2] 191)).alloc (.cells (rcs rz (.slice none 0 0)).toArray 107)).heap[w.heap.size+1]?=some (.cells (rcs rz (.slice none 0 0)).toArray 107 (0,0)):=fun lb=>by
  have:=heap_alloc_new (w.alloc (.cells #[.bool lb,.slice a1 n1 k1,.slice a2 n2 k2] 191)) (.cells (rcs rz (.slice none 0 0)).toArray 107)
  simpa using this
 clear el
 cases l with
 | true =>
  have HR:Hid (itR x=some ⟨2,z32,enc x⟩):=by
   show itR x=_
   unfold itR
   rw [←HEL.out,if_pos rfl]
  have K:=qn3 x _ _ _ (h.keep (BB true))
  rw [←HEL.out] at K
  have g0:=hg true
  clear h hg
  go_enter Tryz.func147,Tryz.ntmps147
  have HBD:Hid (∀(a3:Option Addr) (c3:Nat),Tryz.prog.built 107 [(0,.int .i64 2),(2,.slice a3 (enc x).length c3)]=some (rcs ⟨2,z32,enc x⟩ (.slice a3 (enc x).length c3)).toArray):=fun a3 c3=>by kernel_rfl
  have HBB:Hid (Below w.heap.size w ((w.alloc (.cells #[.bool true,.slice a1 n1 k1,.slice a2 n2 k2] 191)).alloc (.cells (rcs rz (.slice none 0 0)).toArray 107))):=BB true
  clear BB
  go_wp2_with (first
   | (go_at_call 155;refine K.mono ?_;rintro e w3 ⟨v,rfl,hs,hb⟩;have own:=qn7 hs;have HY:Hid (∀y∈enc x,y<256):=hs.ok.2;obtain ⟨a3,c3,rfl⟩:=own_slice own;have g3:=(hb.block (w.heap.size+1) (by simp)).trans g0;have HZ:Hid (Below w.heap.size w w3∧w3.ownsRow ((w.alloc (.cells #[.bool true,.slice a1 n1 k1,.slice a2 n2 k2] 191)).alloc (.cells (rcs rz (.slice none 0 0)).toArray 107)).heap.size 5 1 (.slice a3 (enc x).length c3) (enc x).length (bv (enc x))):=⟨ch HBB.out hb,own⟩;have bd:=HBD.out a3 c3;clear hs own hb g0 K)
   | refine wpList_bdL _ _ (by rfl) _ bd ?_
   | refine qa3 _ _ (by rfl) _ ⟨2,z32,enc x⟩ rz (.slice a3 (enc x).length c3) (.slice none 0 0) qac qac (by rfl) g3 (by rfl) (by rfl) ?_)
  have hr3:=setRow_heap w3 (w.heap.size+1) _ (rcs ⟨2,z32,enc x⟩ (.slice a3 (enc x).length c3)).toArray _ _ g3
  refine bodyPost_ret (qll rfl _ _ (w.heap.size+1) _ _ _ qac (qah hr3) rfl rfl) rfl ?_
  refine ⟨.slice a3 (enc x).length c3,by rw [HR.out];rfl,?_,below_setRow HZ.out.1 (by omega) _,by rw [HR.out];exact HY.out⟩
  rw [HR.out]
  exact qie HZ.out.2 (by simp) (by simp;omega) _
 | false =>
  have HBB:Hid (Below w.heap.size w ((w.alloc (.cells #[.bool false,.slice a1 n1 k1,.slice a2 n2 k2] 191)).alloc (.cells (rcs rz (.slice none 0 0)).toArray 107))):=BB false
  have g0:=hg false
  obtain ⟨n,en⟩:∃n,n=x.b.length:=⟨_,rfl⟩
  have HV:∃bk off,n1=n∧Vw ((w.alloc (.cells #[.bool false,.slice a1 n1 k1,.slice a2 n2 k2] 191)).alloc (.cells (rcs rz (.slice none 0 0)).toArray 107)) a1 bk off x.b:=by
   have hk:=h.keep (BB false)
   rw [It.eta x] at hk
   obtain ⟨a',c',a,c,blk,off,e1,e2,hR,-⟩:=hk.opened
   obtain ⟨a'',b'',off'',c'',e3,hv,-⟩:=hR
   injection e1 with e1a e1b e1c
   injection e3 with e3a e3b e3c
   subst e3a
   exact ⟨b'',off'',by rw [e1b,en],hv⟩
  obtain ⟨bk,off,rfl,hv⟩:=HV
  have HR0:Hid (itR x=if n1=0 then some rz else if n1=32 then some ⟨1,x.b,[]⟩ else none):=by
   show itR x=_
   unfold itR
   rw [←HEL.out,if_neg (by simp),en]
  have hln:=hv.len
  rw [←en] at hln
  have HN:Hid (n1=x.b.length):=en
  have hxb:=(vw_ok hv).2
  clear h hg BB en
  by_cases h0:n1=0
  ·subst h0
   have HR:Hid (itR x=some rz):=by show itR x=_;rw [HR0.out,if_pos rfl]
   clear hv
   go_enter Tryz.func147,Tryz.ntmps147
   go_wp2_with (first
    | refine qcr (by rfl) ?_
    | refine qa3 _ _ (by rfl) _ rz rz (.slice none 0 0) (.slice none 0 0) qac qac (by rfl) g0 (by rfl) (by rfl) ?_)
   have hr3:=setRow_heap ((w.alloc (.cells #[.bool false,.slice a1 0 k1,.slice a2 n2 k2] 191)).alloc (.cells (rcs rz (.slice none 0 0)).toArray 107)) (w.heap.size+1) _ (rcs rz (.slice none 0 0)).toArray _ _ g0
   refine bodyPost_ret (qll rfl _ _ (w.heap.size+1) _ _ _ qac (qah hr3) rfl rfl) rfl ?_
   refine ⟨.slice none 0 0,by rw [HR.out];rfl,?_,below_setRow HBB.out (by omega) _,by rw [HR.out];exact fun y hy=>by cases hy⟩
   rw [HR.out]
   exact ⟨rfl,Or.inl ⟨rfl,rfl⟩⟩
  ·have j0:((n1:Int) == 0)=false:=by simp;omega
   have j0b:¬(n1:Int)=0:=by omega
   by_cases h32:n1=32
   ·subst h32
    obtain ⟨rfl,rg⟩:=qtl hv HN.out.symm (by omega)
    have HR:Hid (itR x=some ⟨1,x.b,[]⟩):=by show itR x=_;rw [HR0.out,if_neg (by omega),if_pos rfl]
    have hs:=HN.out.symm
    have bd:=qgr x.b hs
    have HS:Hid (x.b.length=32):=hs
    clear hv hs
    go_enter Tryz.func147,Tryz.ntmps147
    go_wp2_with (first
     | refine qaj _ (by rfl) _ _ _ HS.out rg (by rfl) ?_
     | refine wpList_bdL _ _ (by rfl) _ bd ?_
     | refine qa3 _ _ (by rfl) _ ⟨1,x.b,[]⟩ rz (.slice none 0 0) (.slice none 0 0) HS.out qac (by rfl) g0 (by rfl) (by rfl) ?_)
    have hr3:=setRow_heap ((w.alloc (.cells #[.bool false,.slice (some ⟨bk,off,none⟩) 32 k1,.slice a2 n2 k2] 191)).alloc (.cells (rcs rz (.slice none 0 0)).toArray 107)) (w.heap.size+1) _ (rcs ⟨1,x.b,[]⟩ (.slice none 0 0)).toArray _ _ g0
    refine bodyPost_ret (qll rfl _ _ (w.heap.size+1) _ _ _ HS.out (qah hr3) rfl rfl) rfl ?_
    refine ⟨.slice none 0 0,by rw [HR.out];rfl,?_,below_setRow HBB.out (by omega) _,by rw [HR.out];exact fun y hy=>by cases hy⟩
    rw [HR.out]
    exact ⟨rfl,Or.inl ⟨rfl,rfl⟩⟩
   ·have j32:((n1:Int) == 32)=false:=by simp;omega
    have j32b:¬(n1:Int)=32:=by omega
    have HR:Hid (itR x=none):=by show itR x=_;rw [HR0.out,if_neg h0,if_neg h32]
    clear hv
    go_enter Tryz.func147,Tryz.ntmps147
    go_wp2_with (first
     | refine qcr (by rfl) ?_
     | refine qa3 _ _ (by rfl) _ rz rz (.slice none 0 0) (.slice none 0 0) qac qac (by rfl) g0 (by rfl) (by rfl) ?_)
    have hr3:=setRow_heap ((w.alloc (.cells #[.bool false,.slice a1 n1 k1,.slice a2 n2 k2] 191)).alloc (.cells (rcs rz (.slice none 0 0)).toArray 107)) (w.heap.size+1) _ (rcs rz (.slice none 0 0)).toArray _ _ g0
    refine bodyPost_ret (qll rfl _ _ (w.heap.size+1) _ _ _ qac (qah hr3) rfl rfl) rfl ?_
    refine ⟨.slice none 0 0,by rw [HR.out];rfl,?_,below_setRow HBB.out (by omega) _,by rw [HR.out];exact fun y hy=>by cases hy⟩
    rw [HR.out]
    exact ⟨rfl,Or.inl ⟨rfl,rfl⟩⟩
open Go.RowKit
set_option maxRecDepth 100000 in
set_option maxHeartbeats 1600000 in
theorem qii (w:World) (base n:Nat) (hn:n≤1099511627776) (hb:base≤192) :
 Calls Tryz.prog 106 #[.int .i64 base,.int .i64 n] w fun e w'=>∃v,e=.returned v∧w'.ownsRow w.heap.size 5 1 v (hdr base n).length (bv (hdr base n))∧Below w.heap.size w w'∧v≠.slice none 0 0:=by
 by_cases h:n<56
 ·have eh:hdr base n=[base+n]:=by unfold hdr;rw [if_pos h]
  rw [eh]
  have i1:(n:Int)<56:=by omega
  have e1:((base:Int)+n) % 256=(base:Int)+n:=by omega
  have own0:=World.ownsRow_lit (base:=w.heap.size) (e:=5) (size:=1) w #[.int .u8 ((base:Int)+n)] 1 (Nat.le_refl _) (by decide) rfl
  have HO:Hid ((w.alloc (.cells #[.int .u8 ((base:Int)+n)] 5)).ownsRow w.heap.size 5 1 (.slice (some ⟨w.heap.size,0,none⟩) 1 1) 1 [.int .u8 ((base:Int)+n)]):=own0
  clear own0
  go_enter Tryz.func106,Tryz.ntmps106
  go_wp2_with fail
  go_ret
  refine ⟨_,rfl,?_,qaa _ _,by simp⟩
  have e2:bv [base+n]=[.int .u8 ((base:Int)+n)]:=by simp [bv]
  rw [e2]
  exact HO.out
 ·have eh:hdr base n=(base+55+(digs n).length)::digs n:=by unfold hdr;rw [if_neg h]
  have i0:¬(n:Int)<56:=by omega
  have HL:Hid ((digs n).length≤6):=qa4 (by omega)
  have HE:Hid (hdr base n=(base+55+(digs n).length)::digs n):=eh
  clear eh
  go_enter Tryz.func106,Tryz.ntmps106
  go_wp2_with fail
  go_loopg [5,6] n (fun gg v u wr=>∃(m:Nat) (t:List Nat),gg=m∧m≤n∧u=.int .i64 m∧digs n=digs m++t∧wr.ownsRow w.heap.size 5 1 v t.length (bv t)∧Below w.heap.size w wr∧(∀x∈t,x<256))
  case atStart=>exact ⟨n,[],rfl,Nat.le_refl _,rfl,by simp,⟨rfl,Or.inl ⟨rfl,rfl⟩⟩,Below.refl _ _,by simp⟩
  case round =>
   obtain ⟨m,t,rfl,hm,rfl,hd,ho,hb,hok⟩:=hrel
   have ht:t.length≤6:=by
    have:=HL.out
    rw [hd,List.length_append] at this
    omega
   obtain ⟨av,cv,ev⟩:=own_slice ho
   subst ev
   have vbt:=qa9 ho rfl hok (by omega)
   obtain ⟨a2,b2,off2,c2,e2,hv,-,hnil,-⟩:=vbt
   injection e2 with z1 _ z3
   subst z1
   subst z3
   by_cases h0:0<gk
   ·have i1:(0:Int)<(gk:Int):=by omega
    have own0:=World.ownsRow_lit (base:=wr.heap.size) (e:=5) (size:=1) wr #[.int .u8 ((gk:Int) % 256)] 1 (Nat.le_refl _) (by decide) rfl
    have HO:Hid ((wr.alloc (.cells #[.int .u8 ((gk:Int) % 256)] 5)).ownsRow wr.heap.size 5 1 (.slice (some ⟨wr.heap.size,0,none⟩) 1 1) 1 [.int .u8 ((gk:Int) % 256)]∧Below w.heap.size w wr∧digs n=digs gk++t∧∀x∈t,x<256):=⟨own0,hb,hd,hok⟩
    have HV:Hid (View (wr.alloc (.cells #[.int .u8 ((gk:Int) % 256)] 5)) av b2 off2 t.length (fun i=>((gd t i:Nat):Int))∧(av=none→cv=0)):=⟨hv.below (qaa _ _),hnil⟩
    have q1:(gk:Int) % 256 % 256=(gk:Int) % 256:=by omega
    have q2:(gk:Int).tmod 256=(gk:Int) % 256:=Int.tmod_eq_emod_of_nonneg (by omega)
    have q3:(gk:Int).tdiv 256=(gk:Int) / 256:=Int.tdiv_eq_ediv_of_nonneg (by omega)
    clear own0 hv hnil ho hb hd hok
    go_wp2_with (refine wpList_append_bytes (by rfl) (.tmp 22) (.tmp 23) (by rfl) wr.heap.size _ 1 _ (by rfl) HO.out.1 av b2 off2 t.length cv _ (by rfl) HV.out.1 HV.out.2 (by omega) (by simp) ?_)
    intro v1 w1 own1 gr1 nn1
    have b1:Below w.heap.size w w1:=(ch HO.out.2.1 (qaa _ _)).trans (grown_below gr1 HO.out.1 HO.out.2.1.size (by have:=HO.out.2.1.size;simp;omega))
    have own2:w1.ownsRow w.heap.size 5 1 v1 ((gk % 256)::t).length (bv ((gk % 256)::t)):=by
     have e1:(Value.int IntKind.u8 ((gk:Int) % 256)::vals (fun i=>((gd t i:Nat):Int)) t.length)=bv ((gk % 256)::t):=by
      rw [vals_bv]
      simp [bv]
     have:=qai own1 (C:=w.heap.size) (fun g hg=>by have:=(own1.lt g hg).1;have:=HO.out.2.1.size;omega)
     rw [show ((gk % 256)::t).length=1+t.length by simp;omega,←e1]
     simpa using this
    have HZ:Hid (w1.ownsRow w.heap.size 5 1 v1 ((gk % 256)::t).length (bv ((gk % 256)::t))∧Below w.heap.size w w1):=⟨own2,b1⟩
    clear own1 own2 gr1 nn1 b1
    go_wp2_with fail
    go_roundg (gk / 256)
    case measure=>omega
    case rel =>
     refine ⟨gk / 256,(gk % 256)::t,rfl,by omega,by go_num,?_,HZ.out.1,HZ.out.2,fun x hx=>?_⟩
     ·rw [HO.out.2.2.1,qb3 h0];simp
     ·rcases List.mem_cons.1 hx with rfl | hx
      ·omega
      ·exact HO.out.2.2.2 x hx
   ·have e0:gk=0:=by omega
    subst e0
    rw [qb6,List.nil_append] at hd
    have e1:((base:Int)+55+t.length) % 256=(base:Int)+55+t.length:=by omega
    have own0:=World.ownsRow_lit (base:=wr.heap.size) (e:=5) (size:=1) wr #[.int .u8 ((base:Int)+55+t.length)] 1 (Nat.le_refl _) (by decide) rfl
    have HO:Hid ((wr.alloc (.cells #[.int .u8 ((base:Int)+55+t.length)] 5)).ownsRow wr.heap.size 5 1 (.slice (some ⟨wr.heap.size,0,none⟩) 1 1) 1 [.int .u8 ((base:Int)+55+t.length)]∧Below w.heap.size w wr):=⟨own0,hb⟩
    have HV:Hid (View (wr.alloc (.cells #[.int .u8 ((base:Int)+55+t.length)] 5)) av b2 off2 t.length (fun i=>((gd t i:Nat):Int))∧(av=none→cv=0)∧digs n=t):=⟨hv.below (qaa _ _),hnil,hd⟩
    clear own0 hv hnil ho hb hd hok
    go_wp2_with (refine wpList_append_bytes (by rfl) (.tmp 31) (.tmp 32) (by rfl) wr.heap.size _ 1 _ (by rfl) HO.out.1 av b2 off2 t.length cv _ (by rfl) HV.out.1 HV.out.2.1 (by omega) (by simp) ?_)
    intro v1 w2 own1 gr1 nn1
    have b1:Below w.heap.size w w2:=(ch HO.out.2 (qaa _ _)).trans (grown_below gr1 HO.out.1 HO.out.2.size (by have:=HO.out.2.size;simp;omega))
    have own2:w2.ownsRow w.heap.size 5 1 v1 (hdr base n).length (bv (hdr base n)):=by
     have e3:(Value.int IntKind.u8 ((base:Int)+55+t.length)::vals (fun i=>((gd t i:Nat):Int)) t.length)=bv ((base+55+t.length)::t):=by
      rw [vals_bv]
      simp [bv]
     have:=qai own1 (C:=w.heap.size) (fun g hg=>by have:=(own1.lt g hg).1;have:=HO.out.2.size;omega)
     rw [HE.out,HV.out.2.2,show ((base+55+t.length)::t).length=1+t.length by simp;omega,←e3]
     simpa using this
    have HZ:Hid (w2.ownsRow w.heap.size 5 1 v1 (hdr base n).length (bv (hdr base n))∧Below w.heap.size w w2∧v1≠.slice none 0 0):=⟨own2,b1,nn1⟩
    clear own1 own2 gr1 nn1 b1
    go_wp2_with fail
    go_ret
    exact ⟨_,rfl,HZ.out⟩
open Go.RowKit
def sF (b:List Nat):List Nat:=form (.mk false b [])
theorem qjh {b:List Nat} (h:alone b=true):sF b=b:=by unfold sF;rw [qaq];simp [h]
theorem qlo {b:List Nat} (h:¬alone b=true):sF b=hdr 128 b.length++b:=by unfold sF;rw [qaq];simp [h]
theorem qhm {base n:Nat} (hn:n≤1099511627776):(hdr base n).length≤16:=by
 have:=qa4 (n:=n) (k:=6) (by omega)
 unfold hdr
 split <;> simp <;> omega
theorem qji {w0 w2:World} {B base n:Nat} {v2:Value} {b:List Nat} {hl:Nat} (e1:hl=(hdr base n).length) (e2:b.length=n) (h:w2.ownsRow B 5 1 v2 (hl+n) (bv (hdr base n)++vals (fun i=>((gd b i:Nat):Int)) n)) (hB:w0.heap.size≤B):w2.ownsRow w0.heap.size 5 1 v2 (hdr base n++b).length (bv (hdr base n++b)):=by
 have:=qai h (C:=w0.heap.size) (fun g hg=>by have:=(h.lt g hg).1;omega)
 subst e2
 rw [List.length_append,←e1,ql9,←vals_bv b]
 exact this
set_option maxRecDepth 100000 in
set_option maxHeartbeats 1600000 in
theorem qfw {w:World} {v:Value} {b:List Nat} (h:Vb w v b) (hlen:b.length≤1099511627776) :
 Calls Tryz.prog 78 #[v] w fun e w'=>∃v,e=.returned v∧w'.ownsRow w.heap.size 5 1 v (hdr 192 b.length++b).length (bv (hdr 192 b.length++b))∧Below w.heap.size w w':=by
 obtain ⟨a,b2,off,c,rfl,hv,-,hnil,-⟩:=h
 obtain ⟨nb,enb⟩:∃nb,nb=b.length:=⟨_,rfl⟩
 have HV:Hid (∀w',Below w.heap.size w w'→View w' a b2 off nb (fun i=>((gd b i:Nat):Int))):=fun w' k=>by rw [enb];exact hv.below k
 have HN:Hid (nb=b.length∧(a=none→c=0)):=⟨enb,hnil⟩
 have K1:=qii w 192 nb (by omega) (by omega)
 obtain ⟨hl,ehl⟩:∃hl,hl=(hdr 192 nb).length:=⟨_,rfl⟩
 have hl16:hl≤16:=by rw [ehl];exact qhm (by omega)
 rw [←ehl] at K1
 have HL:Hid (hl=(hdr 192 nb).length):=ehl
 rw [←enb]
 have nbl:nb≤1099511627776:=by omega
 clear hv hnil enb hlen ehl
 go_enter Tryz.func78,Tryz.ntmps78
 go_wp2_with (first
  | (go_at_call 106;refine K1.mono ?_;rintro e w1 ⟨v1,rfl,ho1,b1,hnn1⟩;have V1:=HV.out w1 b1;have HB:Hid (Below w.heap.size w w1):=b1;have s1:=b1.size;clear b1 K1)
  | (refine wpList_append_bytes (by rfl) (.tmp 5) (.tmp 6) (by rfl) w.heap.size v1 hl _ (by rfl) ho1 a b2 off nb c _ (by rfl) V1 HN.out.2 (by omega) s1 ?_;intro v2 w2 own2 gr2 nn2;have HZ:Hid (w2.ownsRow w.heap.size 5 1 v2 (hdr 192 nb++b).length (bv (hdr 192 nb++b))∧Below w.heap.size w w2):=⟨qji (w0:=w) HL.out HN.out.1.symm own2 (Nat.le_refl _),HB.out.trans (grown_below gr2 ho1 (Nat.le_refl _) s1)⟩;clear own2 gr2 nn2 ho1 V1))
 go_ret
 exact ⟨_,rfl,HZ.out⟩
set_option maxRecDepth 100000 in
set_option maxHeartbeats 1600000 in
theorem qcv {w:World} {v:Value} {b:List Nat} (h:Vb w v b) (hlen:b.length≤1099511627776) :
 Calls Tryz.prog 75 #[v] w fun e w'=>∃v,e=.returned v∧w'.ownsRow w.heap.size 5 1 v (sF b).length (bv (sF b))∧Below w.heap.size w w':=by
 obtain ⟨a,b2,off,c,rfl,hv,-,hnil,-⟩:=h
 by_cases ha:alone b=true
 ·have hb1:b.length=1∧gd b 0<128:=by simpa [alone] using ha
  have h1':=hv.at_
  have c0:=hv.cell 0 (by omega)
  have eb:b=[gd b 0]:=by
   match b,hb1.1 with
   | [y],_=>rfl
  rw [qjh ha,hb1.1]
  obtain rfl:=h1' (by omega)
  rw [eb]
  generalize gd b 0=y at *
  have i1:(y:Int)<128:=by omega
  have own0:=World.ownsRow_lit (base:=w.heap.size) (e:=5) (size:=1) w #[.int .u8 (y:Int)] 1 (Nat.le_refl _) (by decide) rfl
  have HO:Hid ((w.alloc (.cells #[.int .u8 (y:Int)] 5)).ownsRow w.heap.size 5 1 (.slice (some ⟨w.heap.size,0,none⟩) 1 1) 1 [.int .u8 (y:Int)]):=own0
  clear own0 hb1 ha eb hv hnil h1' hlen
  rw [Nat.add_zero] at c0
  go_enter Tryz.func75,Tryz.ntmps75
  go_wp2_with fail
  go_ret
  refine ⟨_,rfl,?_,qaa _ _⟩
  have e2:bv [y]=[.int .u8 (y:Int)]:=by simp [bv]
  rw [e2]
  exact HO.out
 ·rw [qlo ha]
  obtain ⟨nb,enb⟩:∃nb,nb=b.length:=⟨_,rfl⟩
  have HV:Hid (∀w',Below w.heap.size w w'→View w' a b2 off nb (fun i=>((gd b i:Nat):Int))):=fun w' k=>by rw [enb];exact hv.below k
  have HN:Hid (nb=b.length∧(a=none→c=0)):=⟨enb,hnil⟩
  have K1:=qii w 128 nb (by omega) (by omega)
  obtain ⟨hl,ehl⟩:∃hl,hl=(hdr 128 nb).length:=⟨_,rfl⟩
  have hl16:hl≤16:=by rw [ehl];exact qhm (by omega)
  rw [←ehl] at K1
  have HL:Hid (hl=(hdr 128 nb).length):=ehl
  have nbl:nb≤1099511627776:=by omega
  by_cases hn1:nb=1
  ·have c0:=hv.cell 0 (by omega)
   rw [Nat.add_zero] at c0
   have i1:¬((gd b 0:Nat):Int)<128:=fun q=>ha (by simp [alone,←enb];omega)
   obtain rfl:=hv.at_ (by omega)
   rw [←enb]
   generalize gd b 0=y at c0 i1
   subst hn1
   clear hv hnil enb hlen ehl ha
   go_enter Tryz.func75,Tryz.ntmps75
   go_wp2_with (first
    | (go_at_call 106;refine K1.mono ?_;rintro e w1 ⟨v1,rfl,ho1,b1,hnn1⟩;have V1:=HV.out w1 b1;have HB:Hid (Below w.heap.size w w1):=b1;have s1:=b1.size;clear b1 K1 c0)
    | (refine wpList_append_bytes (by rfl) (.tmp 18) (.tmp 19) (by rfl) w.heap.size v1 hl _ (by rfl) ho1 (some ⟨b2,off,none⟩) b2 off 1 c _ (by rfl) V1 HN.out.2 (by omega) s1 ?_;intro v2 w2 own2 gr2 nn2;have HZ:Hid (w2.ownsRow w.heap.size 5 1 v2 (hdr 128 1++b).length (bv (hdr 128 1++b))∧Below w.heap.size w w2):=⟨qji (w0:=w) HL.out HN.out.1.symm own2 (Nat.le_refl _),HB.out.trans (grown_below gr2 ho1 (Nat.le_refl _) s1)⟩;clear own2 gr2 nn2 ho1 V1))
   go_ret
   exact ⟨_,rfl,HZ.out⟩
  ·have i1:¬((nb:Int)=1):=by omega
   have i1b:((nb:Int) == 1)=false:=by simpa using i1
   rw [←enb]
   clear hv hnil enb hlen ehl ha
   go_enter Tryz.func75,Tryz.ntmps75
   go_wp2_with (first
    | (go_at_call 106;refine K1.mono ?_;rintro e w1 ⟨v1,rfl,ho1,b1,hnn1⟩;have V1:=HV.out w1 b1;have HB:Hid (Below w.heap.size w w1):=b1;have s1:=b1.size;clear b1 K1)
    | (refine wpList_append_bytes (by rfl) (.tmp 18) (.tmp 19) (by rfl) w.heap.size v1 hl _ (by rfl) ho1 a b2 off nb c _ (by rfl) V1 HN.out.2 (by omega) s1 ?_;intro v2 w2 own2 gr2 nn2;have HZ:Hid (w2.ownsRow w.heap.size 5 1 v2 (hdr 128 nb++b).length (bv (hdr 128 nb++b))∧Below w.heap.size w w2):=⟨qji (w0:=w) HL.out HN.out.1.symm own2 (Nat.le_refl _),HB.out.trans (grown_below gr2 ho1 (Nat.le_refl _) s1)⟩;clear own2 gr2 nn2 ho1 V1))
   go_ret
   exact ⟨_,rfl,HZ.out⟩
end Go.Proofs.YtemcneddbhgadaaGreatDoor
