import Derived.Test.YtemcneddbhgadaaGreatDoorFstzz
import Derived.Test.YtemcneddbhgadaaGreatDoorYrzz
import Derived.Test.YtemcneddbhgadaaGreatDoorGuzz
import Derived.Test.YtemcneddbhgadaaGreatDoorCkzz
namespace Go.Proofs.YtemcneddbhgadaaGreatDoor
open Go.RowKit
section
variable {ops:Array Oper} {S:World→Prop} {o:Oper} {a:Act}
theorem qqv (x:Operand) (f:Nat) (ho:o.op=.fieldAddr 191 x f) (g p:Nat) (hx:a.eval x=.pointer (some ⟨g,p,none⟩)) (hf:f<3) (hw:Region.wanted o (yielded ops a.tmps)=true:=by kernel_rfl):YieldsIf Tryz.prog ops S o (.pointer (some ⟨g,p+f,none⟩)) a :=
 .inl ⟨hw,fun w _=>by
  unfold execOp
  simp only [ho,hx]
  rcases (by omega:f=0∨f=1∨f=2) with rfl | rfl | rfl
  ·go_simp
  ·go_simp
  ·go_simp⟩
theorem qcx (x:Operand) (ho:o.op=.load 4 x) (g p:Nat) (hx:a.eval x=.pointer (some ⟨g,p,none⟩)) (v:Value) (hS:∀w,S w→w.cell? ⟨g,p,none⟩=some v) (hw:Region.wanted o (yielded ops a.tmps)=true:=by kernel_rfl):YieldsIf Tryz.prog ops S o v a :=
 .inl ⟨hw,fun w hs=>by
  have c:=hS w hs
  unfold execOp
  simp only [ho,hx]
  go_simp⟩
theorem qlm (x:Operand) (ho:o.op=.load 3 x) (g p:Nat) (hx:a.eval x=.pointer (some ⟨g,p,none⟩)) (v:Value) (hS:∀w,S w→w.cell? ⟨g,p,none⟩=some v) (hw:Region.wanted o (yielded ops a.tmps)=true:=by kernel_rfl):YieldsIf Tryz.prog ops S o v a :=
 .inl ⟨hw,fun w hs=>by
  have c:=hS w hs
  unfold execOp
  simp only [ho,hx]
  go_simp⟩
theorem qmy (x:Operand) (ho:o.op=.load 189 x) (g p:Nat) (hx:a.eval x=.pointer (some ⟨g,p,none⟩)) (v:Value) (hS:∀w,S w→w.cell? ⟨g,p,none⟩=some v) (hw:Region.wanted o (yielded ops a.tmps)=true:=by kernel_rfl):YieldsIf Tryz.prog ops S o v a :=
 .inl ⟨hw,fun w hs=>by
  have c:=hS w hs
  unfold execOp
  simp only [ho,hx]
  go_simp⟩
theorem qyq (x i:Operand) (ho:o.op=.indexAddr 189 x i) (g p n c j:Nat) (hx:a.eval x=.slice (some ⟨g,p,none⟩) n c) (hi:a.eval i=.int .i64 j) (hj:j<n) (hw:Region.wanted o (yielded ops a.tmps)=true:=by kernel_rfl):YieldsIf Tryz.prog ops S o (.pointer (some ⟨g,p+j*3,none⟩)) a :=
 .inl ⟨hw,fun w _=>by
  have q:(j:Int)<(n:Int):=by omega
  unfold execOp
  simp only [ho,hx,hi]
  go_simp⟩
theorem qau (x:Operand) (f:Nat) (ho:o.op=.fieldAddr 110 x f) (g:Nat) (hx:a.eval x=.pointer (some ⟨g,0,none⟩)) (hf:f<5) (hw:Region.wanted o (yielded ops a.tmps)=true:=by kernel_rfl):YieldsIf Tryz.prog ops S o (.pointer (some ⟨g,f,none⟩)) a :=
 .inl ⟨hw,fun w _=>by
  unfold execOp
  simp only [ho,hx]
  rcases (by omega:f=0∨f=1∨f=2∨f=3∨f=4) with rfl | rfl | rfl | rfl | rfl
  ·go_simp
  ·go_simp
  ·go_simp
  ·go_simp
  ·go_simp⟩
theorem qqw (x:Operand) (f:Nat) (ho:o.op=.fieldAddr 107 x f) (g p:Nat) (hx:a.eval x=.pointer (some ⟨g,p,none⟩)) (hf:f<2) (hw:Region.wanted o (yielded ops a.tmps)=true:=by kernel_rfl):YieldsIf Tryz.prog ops S o (.pointer (some ⟨g,p+f,none⟩)) a :=
 .inl ⟨hw,fun w _=>by
  unfold execOp
  simp only [ho,hx]
  rcases (by omega:f=0∨f=1) with rfl | rfl
  ·go_simp
  ·go_simp⟩
theorem qmz (x:Operand) (ho:o.op=.fieldAddr 107 x 2) (g p:Nat) (hx:a.eval x=.pointer (some ⟨g,p,none⟩)) (hw:Region.wanted o (yielded ops a.tmps)=true:=by kernel_rfl):YieldsIf Tryz.prog ops S o (.pointer (some ⟨g,p+33,none⟩)) a :=
 .inl ⟨hw,fun w _=>by
  unfold execOp
  simp only [ho,hx]
  go_simp⟩
theorem quw (x:Operand) (ho:o.op=.load 191 x) (g p:Nat) (hx:a.eval x=.pointer (some ⟨g,p,none⟩)) (u v z:Value) (hS:∀w,S w→w.cell? ⟨g,p,none⟩=some u∧w.cell? ⟨g,p+1,none⟩=some v∧w.cell? ⟨g,p+2,none⟩=some z) (hw:Region.wanted o (yielded ops a.tmps)=true:=by kernel_rfl):YieldsIf Tryz.prog ops S o (.agg #[u,v,z]) a :=
 yieldsIf_load_mid hw _ _ ho g p hx [u,v,z] _ (fun w hs=>quj (hS w hs).1 (hS w hs).2.1 (hS w hs).2.2) Tryz.underlying191 rfl qov
theorem qgs (x:Operand) (ho:o.op=.load 107 x) (g p:Nat) (hx:a.eval x=.pointer (some ⟨g,p,none⟩)) (r:Rf) (v:Value) (hr:r.h.length=32) (hS:∀w,S w→w.rangeAt g p (rcs r v)) (hw:Region.wanted o (yielded ops a.tmps)=true:=by kernel_rfl):YieldsIf Tryz.prog ops S o (.agg (rcs r v).toArray) a :=
 yieldsIf_load_mid hw _ _ ho g p hx (rcs r v) _ hS Tryz.underlying107 rfl (qdh hr v)
theorem qif (x:Operand) (ho:o.op=.load 31 x) (g p:Nat) (hx:a.eval x=.pointer (some ⟨g,p,none⟩)) (s:List Nat) (hr:s.length=32) (hS:∀w,S w→w.rangeAt g p (bv s)) (hw:Region.wanted o (yielded ops a.tmps)=true:=by kernel_rfl):YieldsIf Tryz.prog ops S o (.agg (bv s).toArray) a :=
 yieldsIf_load_mid hw _ _ ho g p hx (bv s) _ hS Tryz.underlying31 rfl (qdi hr)
theorem qyr (x:Operand) (ho:o.op=.load 110 x) (g:Nat) (hx:a.eval x=.pointer (some ⟨g,0,none⟩)) (n:Nd) (u:Nv) (hr:n.W) (hS:∀w,S w→w.rangeAt g 0 (nc n u)) (hw:Region.wanted o (yielded ops a.tmps)=true:=by kernel_rfl):YieldsIf Tryz.prog ops S o (.agg (nc n u).toArray) a :=
 yieldsIf_load_mid hw _ _ ho g 0 hx (nc n u) _ hS Tryz.underlying110 rfl (qd1 hr u)
theorem y_bd (t:TypeId) (L:List (Nat × Operand)) (ho:o.op=.build t L.toArray) (cells:Array Value)
 (hb:Tryz.prog.built t (L.map fun (i,x)=>(i,a.eval x))=some cells) (hw:Region.wanted o (yielded ops a.tmps)=true:=by kernel_rfl):YieldsIf Tryz.prog ops S o (.agg cells) a :=
 .inl ⟨hw,fun w _=>by
  have hb':Tryz.prog.built t (L.toArray.map fun (i,x)=>(i,a.eval x)).toList=some cells:=by simp only [List.map_toArray];exact hb
  unfold execOp
  simp only [ho,Sem.run_bind,run_build w t _ cells hb',Result.andThen_ok]
  rfl⟩
theorem qys (x:Operand) (ho:o.op=.unOp .not 4 x) (b:Bool) (hx:a.eval x=.bool b) (hw:Region.wanted o (yielded ops a.tmps)=true:=by kernel_rfl):YieldsIf Tryz.prog ops S o (.bool (!b)) a :=
 .inl ⟨hw,fun w _=>by
  unfold execOp
  simp only [ho,hx]
  go_simp⟩
theorem y_ext (x:Operand) (i:Nat) (ho:o.op=.extract x i) (vs:Array Value) (v:Value) (hx:a.eval x=.tuple vs) (hv:vs[i]?=some v) (hw:Region.wanted o (yielded ops a.tmps)=true:=by kernel_rfl):YieldsIf Tryz.prog ops S o v a :=
 .inl ⟨hw,fun w _=>by
  unfold execOp
  simp only [ho,hx,Instr.extract,hv]
  rfl⟩
theorem qje {Q : Exit → Act → World → Prop} {w : World} {K : Act → World → Prop} {E : Prop} (x y : Operand) (ho : o.op = .store 110 x y) (b : Nat) (n m : Nd) (u t : Nv) (hn : n.W) (hm : m.W) (h1 : (nc n u).toArray.all (·.oneCell') = true) (hb : w.heap[b]? = some (.cells (nc m t).toArray 110 (0, 0)))
    (hx:a.eval x=.pointer (some ⟨b,0,none⟩)) (hy:a.eval y=.agg (nc n u).toArray) (h:K (a.put o.dst undef) (w.setRow b (nc n u).toArray)) (hw:Region.wanted o (yielded ops a.tmps)=true:=by kernel_rfl) :
    if Region.wanted o (yielded ops a.tmps)=true then Oper.wp Tryz.prog o a w K Q else E:=by
  rw [if_pos hw]
  exact wp_store_row 110 x y ho b (nc n u).toArray hx hy 110 (nc m t).toArray hb (by rw [List.size_toArray];exact qd1 hn u) (by rw [List.size_toArray,List.size_toArray,qdt hn,qdt hm]) h1 h
end
open Go.RowKit
def nibs (s:List Nat):Bool:=s.all (fun x=>decide (x≤15))
theorem qq2 {s:List Nat} {i:Nat} (hi:i<s.length) (h:¬gd s i≤15):nibs s=false:=by
 unfold nibs
 rw [List.all_eq_false]
 exact ⟨s[i],List.getElem_mem hi,by rw [gd_get hi];simpa using h⟩
theorem qm0 {s:List Nat} (h:∀i,i<s.length→gd s i≤15):nibs s=true:=by
 unfold nibs
 rw [List.all_eq_true]
 intro x hx
 obtain ⟨i,hi,rfl⟩:=List.getElem_of_mem hx
 rw [gd_get hi]
 simpa using h i hi
def pthF (s:List Nat) (lo:Nat):Bool:=nibs s && (decide (lo≤s.length) && decide (s.length≤64))
set_option maxRecDepth 100000 in
set_option maxHeartbeats 1600000 in
theorem qkn {w:World} {v:Value} {s:List Nat} (h:Vb w v s) (lo:Nat) :
 Calls Tryz.prog 103 #[v,.int .i64 lo] w fun e w'=>e=.returned (.bool (pthF s lo))∧w'=w:=by
 obtain ⟨a,b2,off,c,rfl,hv,-,hnil,hsl⟩:=h
 obtain ⟨n,en⟩:∃n,n=s.length:=⟨_,rfl⟩
 have HV:Hid (∀i,i<n→a=some ⟨b2,off,none⟩∧w.cell? ⟨b2,off+i,none⟩=some (.int .u8 (gd s i:Nat))):=fun i hi=>⟨hv.at_ (by omega),hv.cell i (by omega)⟩
 have HN:Hid (n=s.length):=en
 obtain ⟨R,eR⟩:∃R,R=pthF s lo:=⟨_,rfl⟩
 have HR:Hid (R=pthF s lo):=eR
 rw [←en] at hsl ⊢
 rw [←eR]
 clear hv hnil en eR
 go_enter Tryz.func103,Tryz.ntmps103
 go_wp2_with fail
 go_loopg [5] n (fun gg k wr=>∃i:Nat,i≤n∧gg=n - i∧k=.int .i64 i∧wr=w∧∀j,j<i→gd s j≤15)
 case atStart=>exact ⟨0,by omega,rfl,rfl,rfl,fun j hj=>by omega⟩
 case round =>
  obtain ⟨i,hi,rfl,rfl,rfl,hj⟩:=hrel
  have HJ:Hid (∀j,j<i→gd s j≤15):=hj
  clear hj
  by_cases hin:i<n
  ·have i1:(i:Int)<n:=by omega
   obtain ⟨rfl,c0⟩:=HV.out i hin
   by_cases h15:gd s i≤15
   ·have i2:¬(15:Int)<((gd s i:Nat):Int):=by omega
    have HJ2:Hid (∀j,j<i+1→gd s j≤15):=fun j hj=>by
     by_cases e:j=i
     ·subst e;exact h15
     ·exact HJ.out j (by omega)
    generalize gd s i=y at c0 i2
    clear h15
    go_wp2_with fail
    go_roundg (n - (i+1))
    case measure=>omega
    case rel=>exact ⟨i+1,hin,rfl,by go_num,rfl,HJ2.out⟩
   ·have i2:(15:Int)<((gd s i:Nat):Int):=by omega
    have HF:Hid (R=false):=by
     have:R=false:=by rw [HR.out,pthF,qq2 (by rw [←HN.out];exact hin) h15];rfl
     exact this
    generalize gd s i=y at c0 i2
    clear h15
    go_wp2_with fail
    go_ret
    rw [HF.out]
    exact ⟨rfl,rfl⟩
  ·have i1:¬(i:Int)<n:=by omega
   have e:i=n:=by omega
   subst e
   have HF:Hid (R=(decide (lo≤i) && decide (i≤64))):=by
    have:R=(decide (lo≤i) && decide (i≤64)):=by
     rw [HR.out,pthF,qm0 (fun j hj=>HJ.out j (by rw [HN.out];exact hj)),←HN.out];rfl
    exact this
   by_cases h1:lo≤i
   ·have i2:(lo:Int)≤(i:Int):=by omega
    go_wp2_with fail
    go_ret
    rw [HF.out]
    simp [h1]
    try omega
   ·have i2:¬(lo:Int)≤(i:Int):=by omega
    go_wp2_with fail
    go_ret
    rw [HF.out]
    simp [h1]
theorem qij {w:World} {v:Value} {s:List Nat} (h:Vb w v s) :
 Calls Tryz.prog 104 #[v] w fun e w'=>e=.returned (.bool (isV s))∧w'=w:=by
 obtain ⟨a,b2,off,c,rfl,hv,-,hnil,hsl⟩:=h
 unfold isV
 generalize s.length=n at *
 clear hv hnil
 by_cases h1:0<n
 ·have i2:(1:Int)≤(n:Int):=by omega
  go_enter Tryz.func104,Tryz.ntmps104
  go_wp2_with fail
  go_ret
  simp [h1]
  try omega
 ·have i2:¬(1:Int)≤(n:Int):=by omega
  go_enter Tryz.func104,Tryz.ntmps104
  go_wp2_with fail
  go_ret
  simp
open Go.RowKit
structure Pt where
 l:Bool
 a:Nat
 e:Nat
 ok:Bool
def ptL (s:List Nat):Nat→Nat→Nat→Option Nat
 | 0,_,n=>some n
 | f+1,i,n=>if s.length≤i∨1048576<n then none else ptL s f (i+1) (256*n+gd s i)
def ptZ:Pt:=⟨false,0,0,false⟩
def ptF (s:List Nat):Pt :=
 if s.length=0 then ptZ
 else if gd s 0<128 then ⟨false,0,1,true⟩
 else if gd s 0 % 64<56 then ⟨decide (192≤gd s 0),1,1+gd s 0 % 64,decide (1+gd s 0 % 64≤s.length)⟩
 else match ptL s (gd s 0 % 64 - 55) 1 0 with
  | none=>ptZ
  | some n=>⟨decide (192≤gd s 0),1+(gd s 0 % 64 - 55),1+(gd s 0 % 64 - 55)+n,decide (1+(gd s 0 % 64 - 55)+n≤s.length)⟩
def Pt.v (p:Pt):Value:=.tuple #[.bool p.l,.int .i64 p.a,.int .i64 p.e,.bool p.ok]
theorem qoc {fn:Func} {p q r t:Tmp} (h:fn.results=#[.tmp p,.tmp q,.tmp r,.tmp t]) (tmps:Array Value) (w:World) (vp vq vr vt:Value) (hp:tmps.getD p undef=vp) (hq:tmps.getD q undef=vq) (hr:tmps.getD r undef=vr) (ht:tmps.getD t undef=vt) :
 (results fn tmps).run Tryz.prog w=.ok (.tuple #[vp,vq,vr,vt]) w:=by
 have hp':tmps[p]?.getD undef=vp:=by simpa using hp
 have hq':tmps[q]?.getD undef=vq:=by simpa using hq
 have hr':tmps[r]?.getD undef=vr:=by simpa using hr
 have ht':tmps[t]?.getD undef=vt:=by simpa using ht
 simp [results,h,hp',hq',hr',ht']
set_option maxRecDepth 100000 in
set_option maxHeartbeats 1600000 in
theorem qhn {w:World} {v:Value} {s:List Nat} (h:Vb w v s):Calls Tryz.prog 130 #[v] w fun e w'=>e=.returned (ptF s).v∧w'=w:=by
 obtain ⟨a,b2,off,c,rfl,hv,-,-,hsl⟩:=h
 obtain ⟨n,en⟩:∃n,n=s.length:=⟨_,rfl⟩
 have HV:Hid (∀i,i<n→a=some ⟨b2,off,none⟩∧w.cell? ⟨b2,off+i,none⟩=some (.int .u8 (gd s i:Nat))∧gd s i<256):=fun i hi=>⟨hv.at_ (by omega),hv.cell i (by omega),gd_lt (vw_ok hv).2 i⟩
 obtain ⟨R,eR⟩:∃R,R=ptF s:=⟨_,rfl⟩
 have HN:Hid (n=s.length):=en
 have HR:Hid (R=ptF s):=eR
 rw [←en] at hsl ⊢
 rw [←eR]
 clear hv en eR
 by_cases h0:n=0
 ·have HF:Hid (R=ptZ):=by show _=_;rw [HR.out,ptF,if_pos (by rw [←HN.out];exact h0)]
  subst h0
  go_enter Tryz.func130,Tryz.ntmps130
  go_wp2_with fail
  refine bodyPost_ret (qoc rfl _ _ _ _ _ _ rfl rfl rfl rfl) rfl ?_
  rw [HF.out]
  exact ⟨rfl,rfl⟩
 ·have i0:¬(n:Int)=0:=by omega
  have i0b:((n:Int) == 0)=false:=by simpa using i0
  have i0c:(0:Int)<n:=by omega
  obtain ⟨rfl,c0,x256⟩:=HV.out 0 (by omega)
  rw [Nat.add_zero] at c0
  obtain ⟨x,ex⟩:∃x,x=gd s 0:=⟨_,rfl⟩
  have HE:Hid (R=if x<128 then (⟨false,0,1,true⟩:Pt) else if x % 64<56 then ⟨decide (192≤x),1,1+x % 64,decide (1+x % 64≤n)⟩ else match ptL s (x % 64 - 55) 1 0 with | none=>ptZ | some m=>⟨decide (192≤x),1+(x % 64 - 55),1+(x % 64 - 55)+m,decide (1+(x % 64 - 55)+m≤n)⟩):=by
   show _=_
   rw [HR.out,ptF,if_neg (by rw [←HN.out];exact h0),ex,HN.out]
  rw [←ex] at c0 x256
  clear ex HR h0
  have q8:((x:Nat):Int) % 18446744073709551616=(x:Int):=by omega
  have qt:(x:Int).tmod 64=(x:Int) % 64:=Int.tmod_eq_emod_of_nonneg (by omega)
  by_cases h1:x<128
  ·have i1:(x:Int)<128:=by omega
   have HF:Hid (R=⟨false,0,1,true⟩):=by show _=_;rw [HE.out,if_pos h1]
   clear HE h1
   go_enter Tryz.func130,Tryz.ntmps130
   go_wp2_with fail
   refine bodyPost_ret (qoc rfl _ _ _ _ _ _ rfl rfl rfl rfl) rfl ?_
   rw [HF.out]
   exact ⟨rfl,rfl⟩
  ·have i1:¬(x:Int)<128:=by omega
   obtain ⟨l,el⟩:∃l,l=decide ((192:Int)≤(x:Int)):=⟨_,rfl⟩
   have el2:decide (192≤x)=l:=by rw [el];by_cases q:192≤x <;> simp [q] <;> omega
   obtain ⟨d,ed⟩:∃d,d=x % 64:=⟨_,rfl⟩
   have ed2:(x:Int) % 64=(d:Int):=by omega
   have d64:d<64:=by omega
   have HE2:Hid (R=if d<56 then (⟨l,1,1+d,decide (1+d≤n)⟩:Pt) else match ptL s (d - 55) 1 0 with | none=>ptZ | some m=>⟨l,1+(d - 55),1+(d - 55)+m,decide (1+(d - 55)+m≤n)⟩):=by
    show _=_
    rw [HE.out,if_neg h1,el2,ed]
   have el3:=el.symm
   clear HE h1 el2 ed el
   by_cases h2:d<56
   ·have i2:(d:Int)<56:=by omega
    have HF:Hid (R=⟨l,1,1+d,decide (1+d≤n)⟩):=by show _=_;rw [HE2.out,if_pos h2]
    have j2:decide ((1:Int)+(d:Int)≤(n:Int))=decide (1+d≤n):=by by_cases q:1+d≤n <;> simp [q] <;> omega
    clear HE2 h2
    go_enter Tryz.func130,Tryz.ntmps130
    go_wp2_with fail
    refine bodyPost_ret (qoc rfl _ _ _ _ _ _ rfl rfl rfl rfl) rfl ?_
    rw [HF.out,←j2]
    exact ⟨rfl,rfl⟩
   ·have i2:¬(d:Int)<56:=by omega
    obtain ⟨k,ek⟩:∃k,k=d - 55:=⟨_,rfl⟩
    have ek2:(d:Int) - 55=(k:Int):=by omega
    have k8:k≤8:=by omega
    have HF:Hid (R=match ptL s k 1 0 with | none=>ptZ | some m=>⟨l,1+k,1+k+m,decide (1+k+m≤n)⟩):=by show _=_;rw [HE2.out,if_neg h2,ek]
    clear HE2 h2 ek
    go_enter Tryz.func130,Tryz.ntmps130
    go_wp2_with fail
    go_loopg [9,10] k (fun gg u v wr=>∃(i m:Nat),1≤i∧i≤k+1∧gg=k+1 - i∧u=.int .i64 m∧v=.int .i64 i∧ptL s k 1 0=ptL s (k+1 - i) i m∧m≤268435711∧wr=w)
    case atStart=>exact ⟨1,0,by omega,by omega,by omega,rfl,rfl,by rw [show k+1 - 1=k by omega],by omega,rfl⟩
    case round =>
     obtain ⟨i,m,hi1,hik,rfl,rfl,rfl,hp,hm,rfl⟩:=hrel
     have HP:Hid (ptL s k 1 0=ptL s (k+1 - i) i m):=hp
     clear hp
     by_cases hin:i≤k
     ·have j1:(i:Int)≤k:=by omega
      have HU:Hid (ptL s k 1 0=if s.length≤i∨1048576<m then none else ptL s (k+1 - (i+1)) (i+1) (256*m+gd s i)):=by
       show _=_
       rw [HP.out,show k+1 - i=(k+1 - (i+1))+1 by omega,ptL]
      by_cases hni:n≤i
      ·have j2:(n:Int)≤i:=by omega
       have HG:Hid (R=ptZ):=by show _=_;rw [HF.out,HU.out,if_pos (Or.inl (by rw [←HN.out];exact hni))]
       clear HF HU HP
       go_wp2_with fail
       refine bodyPost_ret (qoc rfl _ _ _ _ _ _ rfl rfl rfl rfl) rfl ?_
       rw [HG.out]
       exact ⟨rfl,rfl⟩
      ·have j2:¬(n:Int)≤i:=by omega
       have j2b:(i:Int)<n:=by omega
       by_cases hm2:1048576<m
       ·have j3:(1048576:Int)<m:=by omega
        have HG:Hid (R=ptZ):=by show _=_;rw [HF.out,HU.out,if_pos (Or.inr hm2)]
        clear HF HU HP
        go_wp2_with fail
        refine bodyPost_ret (qoc rfl _ _ _ _ _ _ rfl rfl rfl rfl) rfl ?_
        rw [HG.out]
        exact ⟨rfl,rfl⟩
       ·have j3:¬(1048576:Int)<m:=by omega
        obtain ⟨-,c1,y256⟩:=HV.out i (by omega)
        have HG:Hid (ptL s k 1 0=ptL s (k+1 - (i+1)) (i+1) (256*m+gd s i)):=by show _=_;rw [HU.out,if_neg (by rw [←HN.out];omega)]
        generalize gd s i=y at c1 y256 HG
        have q9:((y:Nat):Int) % 18446744073709551616=(y:Int):=by omega
        clear HU HP
        go_wp2_with fail
        go_roundg (k+1 - (i+1))
        case measure=>omega
        case rel=>exact ⟨i+1,256*m+y,by omega,by omega,rfl,by go_num,by go_num,HG.out,by omega,rfl⟩
     ·have j1:¬(i:Int)≤k:=by omega
      have ei:i=k+1:=by omega
      subst ei
      have HG:Hid (R=⟨l,1+k,1+k+m,decide (1+k+m≤n)⟩):=by
       show _=_
       rw [HF.out,HP.out,show k+1 - (k+1)=0 by omega,ptL]
      have j4:decide ((1:Int)+(k:Int)+(m:Int)≤(n:Int))=decide (1+k+m≤n):=by by_cases q:1+k+m≤n <;> simp [q] <;> omega
      clear HF HP
      go_wp2_with fail
      refine bodyPost_ret (qoc rfl _ _ _ _ _ _ rfl rfl rfl rfl) rfl ?_
      rw [HG.out,←j4]
      exact ⟨rfl,rfl⟩
open Go.RowKit
theorem qux (s:List Nat):(ptF s).a≤(ptF s).e:=by
 unfold ptF ptZ
 split
 ·exact Nat.le_refl _
 ·split
  ·exact Nat.zero_le _
  ·split
   ·exact Nat.le_add_right _ _
   ·split
    ·exact Nat.le_refl _
    ·exact Nat.le_add_right _ _
theorem qm1 {w:World} {a:Option Addr} {b off c l z:Nat} {s:List Nat} (hv:Vw w a b off s) (hc:s.length≤c) (hn:a=none→c=0) (hl:s.length≤140737488351232) (h1:l≤z) (h2:z≤s.length) :
 Vw w (behind a c l) b (off+l) (cut s l z)∧(behind a c l=none→c - l=0):=by
 have e:(cut s l z).length=z - l:=qao h2
 refine ⟨⟨fun q=>?_,fun i hi=>?_,fun i hi=>?_,by rw [e];omega⟩,fun q=>?_⟩
 ·rw [e] at q
  have:=hv.at_ (by omega)
  subst this
  unfold behind
  rw [if_neg (by omega)]
  simp [Go.WideShapes.add_plain]
 ·rw [e] at hi
  have:=hv.cell (l+i) (by omega)
  rw [qb7 (by omega),Nat.add_assoc]
  exact this
 ·rw [e] at hi
  have:=hv.bd (l+i) (by omega)
  rw [qb7 (by omega)]
  exact this
 ·cases a with
  | none=>have:=hn rfl;omega
  | some p =>
   unfold behind at q
   split at q
   ·omega
   ·simp at q
set_option maxRecDepth 100000 in
set_option maxHeartbeats 1600000 in
theorem qcw {w:World} {v:Value} {s:List Nat} (h:Vb w v s) (he:(ptF s).e≤s.length) :
 Calls Tryz.prog 123 #[v] w fun e w'=>∃u,e=.returned (.tuple #[u,.bool ((ptF s).ok && !(ptF s).l)])∧w'.ownsRow w.heap.size 5 1 u (cut s (ptF s).a (ptF s).e).length (bv (cut s (ptF s).a (ptF s).e))∧Below w.heap.size w w':=by
 have K:=qhn h
 have hae:=qux s
 unfold Pt.v at K
 generalize ptF s=P at *
 obtain ⟨l,A,E,ok⟩:=P
 simp only at K hae he ⊢
 obtain ⟨a,b2,off,c,rfl,hv,hc,hnil,hsl⟩:=h
 have sb:=qcy a s.length c A E hae (by omega)
 obtain ⟨hcv,hcn⟩:=qm1 hv hc hnil hsl hae he
 have cl:(cut s A E).length=E - A:=qao he
 obtain ⟨t,et⟩:∃t,t=cut s A E:=⟨_,rfl⟩
 rw [←et] at hcv cl ⊢
 obtain ⟨bh,ebh⟩:∃bh,bh=behind a c A:=⟨_,rfl⟩
 rw [←ebh] at hcv hcn sb
 obtain ⟨d,ed⟩:∃d,d=E - A:=⟨_,rfl⟩
 rw [←ed] at cl sb
 have d47:d≤140737488351232:=by omega
 have HV:Hid (View (w.alloc (.cells #[] 5)) bh b2 (off+A) d (fun i=>((gd t i:Nat):Int))):=by
  have:=hcv.below (qaa w (.cells #[] 5))
  unfold Vw at this
  rw [cl] at this
  exact this
 have own0:=World.ownsRow_lit (base:=w.heap.size) (e:=5) (size:=1) w #[] 0 (Nat.le_refl _) (by decide) rfl
 have HT:Hid (t.length=d∧(bh=none→c - A=0)):=⟨cl,hcn⟩
 generalize s.length=n at *
 clear hv hcv hcn cl et ebh ed hnil hae
 cases ok with
 | true =>
  go_enter Tryz.func123,Tryz.ntmps123
  go_wp2_with (first
   | (go_at_call 130;refine K.mono ?_;rintro e w1 ⟨rfl,rfl⟩;clear K)
   | (refine wpList_append_bytes (by rfl) (.tmp 15) (.tmp 19) (by rfl) w1.heap.size _ 0 _ (by rfl) own0 bh b2 (off+A) d (c - A) _ (by rfl) HV.out HT.out.2 (by omega) (by simp) ?_;intro v2 w2 own2 gr2 nn2;have HZ:Hid (w2.ownsRow w1.heap.size 5 1 v2 t.length (bv t)∧Below w1.heap.size w1 w2):=⟨by rw [←vals_bv,HT.out.1];simpa using own2,(qaa w1 _).trans (grown_below gr2 own0 (Nat.le_refl _) (by simp))⟩;clear own2 gr2 nn2 own0))
  go_ret2
  exact ⟨_,rfl,HZ.out⟩
 | false =>
  go_enter Tryz.func123,Tryz.ntmps123
  go_wp2_with (first
   | (go_at_call 130;refine K.mono ?_;rintro e w1 ⟨rfl,rfl⟩;clear K)
   | (refine wpList_append_bytes (by rfl) (.tmp 15) (.tmp 19) (by rfl) w1.heap.size _ 0 _ (by rfl) own0 bh b2 (off+A) d (c - A) _ (by rfl) HV.out HT.out.2 (by omega) (by simp) ?_;intro v2 w2 own2 gr2 nn2;have HZ:Hid (w2.ownsRow w1.heap.size 5 1 v2 t.length (bv t)∧Below w1.heap.size w1 w2):=⟨by rw [←vals_bv,HT.out.1];simpa using own2,(qaa w1 _).trans (grown_below gr2 own0 (Nat.le_refl _) (by simp))⟩;clear own2 gr2 nn2 own0))
  go_ret2
  exact ⟨_,rfl,HZ.out⟩
open Go.RowKit
theorem qu1 {s:List Nat} (hs:∀x∈s,x<256):∀(f i n m:Nat),ptL s f i n=some m→n≤268435711→m≤268435711
 | 0,_,n,m,h,hn=>by rw [ptL] at h;injection h with e;omega
 | f+1,i,n,m,h,hn=>by
  rw [ptL] at h
  split at h
  ·cases h
  ·rename_i q
   have:=gd_lt hs i
   exact qu1 hs f (i+1) _ m h (by omega)
theorem qkr {s:List Nat} (h:(ptF s).ok=true):0<(ptF s).e∧(ptF s).e≤s.length:=by
 revert h
 unfold ptF ptZ
 split
 ·intro h;cases h
 ·rename_i h0
  split
  ·intro _;exact ⟨Nat.one_pos,by show 1≤_;omega⟩
  ·split
   ·intro h;exact ⟨by show 0<1+_;omega,of_decide_eq_true h⟩
   ·split
    ·intro h;cases h
    ·intro h;exact ⟨by show 0<1+_+_;omega,of_decide_eq_true h⟩
theorem qks {s:List Nat} (hs:∀x∈s,x<256):(ptF s).e≤268435800:=by
 unfold ptF ptZ
 split
 ·exact Nat.zero_le _
 ·split
  ·show 1≤_;omega
  ·split
   ·show 1+_≤_;omega
   ·split
    ·exact Nat.zero_le _
    ·rename_i n hn
     have:=qu1 hs _ _ _ _ hn (by omega)
     show 1+(_ - 55)+n≤_
     omega
theorem qog {B:Nat} {w w':World} {v:Value} {e size n:Nat} {xs:List Value} (ho:w.ownsRow B e size v n xs) {o:Obj} (gr:(w.alloc o).grownBy w' v.ownBlock) {C:Nat} (hC:C≤B) (hw:C≤w.heap.size):Below C w w' :=
 ⟨gr.os,gr.tape,gr.output,by have:=gr.size;rw [World.size_alloc] at this;omega,fun k hk=>by
  rw [gr.block k (by rw [World.size_alloc];omega) (fun e=>by have:=(ho.lt k e.symm).1;omega),heap_alloc_old _ _ (by omega)]⟩
def psGo (s:List Nat) (to:Nat):Nat→Nat→Option (List (Nat × Nat))
 | 0,_=>some []
 | f+1,i=>if i<to then (if (ptF (cut s i to)).ok then (psGo s to f (i+(ptF (cut s i to)).e)).map ((i,i+(ptF (cut s i to)).e)::·) else none) else some []
theorem qfy {s:List Nat} {to:Nat}:∀(f g i:Nat),to - i≤f→to - i≤g→psGo s to f i=psGo s to g i
 | 0,0,_,_,_=>rfl
 | 0,g+1,i,h1,_=>by rw [psGo,psGo,if_neg (by omega)]
 | f+1,0,i,_,h2=>by rw [psGo,psGo,if_neg (by omega)]
 | f+1,g+1,i,h1,h2=>by
  rw [psGo,psGo]
  split
  ·split
   ·rename_i ho
    have:=(qkr ho).1
    rw [qfy f g _ (by omega) (by omega)]
   ·rfl
  ·rfl
def prts (s:List Nat):Option (List (Nat × Nat)) :=
 if (ptF s).ok=true∧(ptF s).l=true∧(ptF s).e=s.length then psGo s s.length s.length (ptF s).a else none
def pvS (a:Option Addr) (c:Nat) (ps:List (Nat × Nat)):List Value:=ps.map (fun p=>.slice (behind a c p.1) (p.2 - p.1) (c - p.1))
set_option maxRecDepth 100000 in
set_option maxHeartbeats 1600000 in
theorem qge {w:World} {a:Option Addr} {b2 off c:Nat} {s:List Nat} (hv:Vw w a b2 off s) (hc:s.length≤c) (hnil:a=none→c=0) (hsl:s.length≤140737488351232) :
 Calls Tryz.prog 121 #[.slice a s.length c] w fun e w'=>∃u,e=.returned (.tuple #[u,.bool (prts s).isSome])∧w'.ownsRow w.heap.size 33 1 u ((prts s).getD []).length (pvS a c ((prts s).getD []))∧Below w.heap.size w w':=by
 have K:Calls Tryz.prog 130 #[.slice a s.length c] w fun e w'=>e=.returned (ptF s).v∧w'=w:=qhn ⟨a,b2,off,c,rfl,hv,hc,hnil,hsl⟩
 have hbd:=qks (vw_ok hv).2
 have hae:=qux s
 have HS:Hid (∀i w',i≤s.length→Below w.heap.size w w'→Calls Tryz.prog 130 #[.slice (behind a c i) (s.length - i) (c - i)] w' fun e w''=>e=.returned (ptF (cut s i s.length)).v∧w''=w'):=fun i w' hi k=>by
  obtain ⟨q1,q2⟩:=qm1 hv hc hnil hsl hi (Nat.le_refl _)
  have e:(cut s i s.length).length=s.length - i:=qao (Nat.le_refl _)
  exact qhn ⟨_,b2,off+i,c - i,by rw [e],q1.below k,by rw [e];omega,q2,by rw [e];omega⟩
 obtain ⟨R,eR⟩:∃R,R=prts s:=⟨_,rfl⟩
 have HR:Hid (R=if (ptF s).ok=true∧(ptF s).l=true∧(ptF s).e=s.length then psGo s s.length s.length (ptF s).a else none):=eR
 rw [←eR]
 obtain ⟨i0,hi0,hz0,hz1,hz2⟩:=info_parts infoB
 have HI0:Hid (Tryz.prog.info? 33=some i0∧i0.zero=some nilS∧i0.size=1∧i0.bytes=24):=⟨hi0,hz0,hz1,hz2⟩
 unfold Pt.v at K
 generalize ptF s=P at *
 obtain ⟨l,A,E,ok⟩:=P
 simp only at K hae hbd HR
 obtain ⟨n,en⟩:∃n,n=s.length:=⟨_,rfl⟩
 have HN:Hid (n=s.length):=en
 rw [←en] at K hc hsl HS HR ⊢
 clear hv hnil en eR hi0 hz0 hz1 hz2
 have bad:¬(ok=true∧l=true∧E=n)→R=none:=fun q=>by rw [HR.out,if_neg q]
 cases ok with
 | false =>
  have HB:Hid (R=none):=bad (by simp)
  clear bad HR HS
  go_enter Tryz.func121,Tryz.ntmps121
  go_wp2_with (go_at_call 130;refine K.mono ?_;rintro e w1 ⟨rfl,rfl⟩;clear K)
  go_ret2
  rw [HB.out]
  exact ⟨_,rfl,World.ownsRow_nil _ _ _ _,Below.refl _ _⟩
 | true =>
  cases l with
  | false =>
   have HB:Hid (R=none):=bad (by simp)
   clear bad HR HS
   go_enter Tryz.func121,Tryz.ntmps121
   go_wp2_with (go_at_call 130;refine K.mono ?_;rintro e w1 ⟨rfl,rfl⟩;clear K)
   go_ret2
   rw [HB.out]
   exact ⟨_,rfl,World.ownsRow_nil _ _ _ _,Below.refl _ _⟩
  | true =>
   by_cases hE:E=n
   ·have HF:Hid (R=psGo s n n A):=by show _=_;rw [HR.out,if_pos ⟨rfl,rfl,hE⟩]
    subst hE
    clear bad HR
    have nE:((E:Int) != (E:Int))=false:=by simp
    go_enter Tryz.func121,Tryz.ntmps121
    go_wp2_with (go_at_call 130;refine K.mono ?_;rintro e w1 ⟨rfl,rfl⟩;clear K)
    go_loopg [5,8] (E - A) (fun gg u v wr=>∃(i:Nat) (ps:List (Nat × Nat)),i≤E∧gg=E - i∧ps.length≤i∧u=.int .i64 i∧wr.ownsRow w1.heap.size 33 1 v ps.length (pvS a c ps)∧Below w1.heap.size w1 wr∧R=(psGo s E E i).map (ps++·))
    case atStart=>exact ⟨A,[],hae,rfl,Nat.zero_le _,rfl,World.ownsRow_nil _ _ _ _,Below.refl _ _,by rw [HF.out];simp⟩
    case round =>
     obtain ⟨i,ps,hi,rfl,hpl,rfl,ho,hb,hR⟩:=hrel
     have HP:Hid (R=(psGo s E E i).map (ps++·)):=hR
     clear HF hR
     have s6:=hb.size
     by_cases hin:i<E
     ·have i1:(i:Int)<E:=by omega
      have sb:=qcy a E c i E hi hc
      have K2:=HS.out i wr hi hb
      have HU:Hid (psGo s E E i=if (ptF (cut s i E)).ok then (psGo s E E (i+(ptF (cut s i E)).e)).map ((i,i+(ptF (cut s i E)).e)::·) else none):=by
       show _=_
       rw [qfy E (E - i+1) i (by omega) (by omega),psGo,if_pos hin]
       split
       ·rename_i q
        have:=(qkr q).1
        rw [qfy (E - i) E _ (by omega) (by omega)]
       ·rfl
      have hok:(ptF (cut s i E)).ok=true→0<(ptF (cut s i E)).e∧(ptF (cut s i E)).e≤E - i:=fun q=>by
       have q2:=qkr q
       rw [qao (by rw [HN.out];exact Nat.le_refl _)] at q2
       exact q2
      unfold Pt.v at K2
      generalize ptF (cut s i E)=P2 at *
      obtain ⟨l2,A2,E2,ok2⟩:=P2
      simp only at K2 hok HU
      obtain ⟨bh,ebh⟩:∃bh,bh=behind a c i:=⟨_,rfl⟩
      rw [←ebh] at K2 sb
      cases ok2 with
      | false =>
       have HG:Hid (R=none):=by show _=_;rw [HP.out,HU.out];rfl
       have HB:Hid (Below w1.heap.size w1 wr):=hb
       clear HP HU hok ho hb HS ebh
       go_wp2_with (go_at_call 130;refine K2.mono ?_;rintro e w2 ⟨rfl,rfl⟩;clear K2)
       go_ret2
       rw [HG.out]
       exact ⟨_,rfl,World.ownsRow_nil _ _ _ _,HB.out⟩
      | true =>
       obtain ⟨e1,e2⟩:=hok rfl
       have sb2:=qcy a E c i (i+E2) (by omega) (by omega)
       rw [←ebh,Nat.add_sub_cancel_left,Int.natCast_add] at sb2
       have HG:Hid (R=(psGo s E E (i+E2)).map ((ps++[(i,i+E2)])++·)):=by
        show _=_
        rw [HP.out,HU.out,if_pos rfl,Option.map_map]
        congr 1
        funext z
        simp
       have HT:Hid (pvS a c ps++[.slice bh E2 (c - i)]=pvS a c (ps++[(i,i+E2)])):=by
        show _=_
        rw [ebh]
        simp [pvS,Nat.add_sub_cancel_left]
       have ownA:=qal ho (w':=wr.alloc (.cells #[.slice bh E2 (c - i)] 33)) (fun g hg=>heap_alloc_old _ _ (ho.lt g hg).2)
       have HX:Hid (wr.ownsRow w1.heap.size 33 1 u8 ps.length (pvS a c ps)∧Below w1.heap.size w1 wr):=⟨ho,hb⟩
       have j9:(0:Int)≤(i:Int)+E2:=by omega
       clear HP HU hok ho hb HS ebh
       go_wp2_with (first
        | (go_at_call 130;refine K2.mono ?_;rintro e w2 ⟨rfl,rfl⟩;clear K2)
        | (refine wpList_append_lies _ (by rfl) (.tmp 47) (.tmp 54) 27 (by rfl) w1.heap.size 33 i0 nilS 1 24 Tryz.underlying27 HI0.out.1 HI0.out.2.1 HI0.out.2.2.1 HI0.out.2.2.2 (by rfl) (by decide) u8 ps.length (pvS a c ps) (by rfl) ownA ⟨w2.heap.size,0,none⟩ 1 1 [.slice bh E2 (c - i)] (by rfl) (by rfl) (World.news_of_block (w:=w2.alloc (.cells #[.slice bh E2 (c - i)] 33)) (B:=w2.heap.size) (cs:=#[.slice bh E2 (c - i)]) (t:=33) (fr:=(0,0)) (heap_alloc_new _ _)) (by simp [Value.oneCell']) (by decide) (by unfold maxLen;omega) (by omega) (Nat.le_trans s6 (qaa w2 _).size) _ (by rfl) ?_;intro g9 cap9 w9 own9 gr9 at9 lt9;have H9:Hid (w9.ownsRow w1.heap.size 33 1 (.slice (some ⟨g9,0,none⟩) (ps.length+1) cap9) (ps.length+1) (pvS a c ps++[.slice bh E2 (c - i)])∧Below w1.heap.size w1 w9):=⟨own9,HX.out.2.trans (qog HX.out.1 gr9 (Nat.le_refl _) s6)⟩;clear own9 gr9 at9 lt9))
       go_roundg (E - (i+E2))
       case measure=>omega
       case rel =>
        refine ⟨i+E2,ps++[(i,i+E2)],by omega,rfl,by simp;omega,by go_num,?_,H9.out.2,HG.out⟩
        rw [←HT.out,List.length_append]
        exact H9.out.1
     ·have i1:¬(i:Int)<E:=by omega
      have HG:Hid (R=some ps):=by
       show _=_
       rw [HP.out,qfy E 0 i (by omega) (by omega),psGo]
       simp
      have HX:Hid (wr.ownsRow w1.heap.size 33 1 u8 ps.length (pvS a c ps)∧Below w1.heap.size w1 wr):=⟨ho,hb⟩
      clear HP ho hb HS
      go_wp2_with fail
      go_ret2
      rw [HG.out]
      exact ⟨_,rfl,HX.out⟩
   ·have HB:Hid (R=none):=bad (fun q=>hE q.2.2)
    have nE:((E:Int) != (n:Int))=true:=by simp;omega
    have nE2:¬(E:Int)=n:=by omega
    clear bad HR HS
    go_enter Tryz.func121,Tryz.ntmps121
    go_wp2_with (go_at_call 130;refine K.mono ?_;rintro e w1 ⟨rfl,rfl⟩;clear K)
    go_ret2
    rw [HB.out]
    exact ⟨_,rfl,World.ownsRow_nil _ _ _ _,Below.refl _ _⟩
open Go.RowKit
def itF (r:Rf):List Nat:=if r.k=2 then r.b else if r.k=1 then sF r.h else sF []
theorem qzk {w:World} {b off:Nat} {s:List Nat} (h:w.rangeAt b off (bv s)) (hs:∀x∈s,x<256) (hl:s.length≤1048576) {n:Nat} (hn:s.length=n):Vb w (.slice (some ⟨b,off,none⟩) n n) s:=by
 subst hn
 exact ⟨_,b,off,s.length,rfl,⟨fun _=>rfl,fun i hi=>h i _ (bv_at hi),fun i hi=>by have:=gd_lt hs i;omega,by omega⟩,Nat.le_refl _,(fun h=>by cases h),by omega⟩
theorem qu5 {b:List Nat} (h:b.length≤1048576):(sF b).length≤1048592:=by
 by_cases ha:alone b=true
 ·rw [qjh ha];omega
 ·rw [qlo ha,List.length_append]
  have:=qhm (base:=128) (n:=b.length) (by omega)
  omega
theorem qu6 {b:List Nat} (h:b.length≤1048576) (hb:∀x∈b,x<256):∀x∈sF b,x<256:=qcm hb h
set_option maxRecDepth 100000 in
set_option maxHeartbeats 1600000 in
theorem qku {w:World} {r:Rf} {v:Value} (hW:r.W) (hb:Vb w v r.b):Calls Tryz.prog 77 #[.agg (rcs r v).toArray] w fun e w'=>∃v',e=.returned v'∧Vb w' v' (itF r)∧Below w.heap.size w w':=by
 have B1:Below w.heap.size w (w.alloc (.cells (rcs r v).toArray 107)):=qaa _ _
 have hvn:Vb (w.alloc (.cells (rcs r v).toArray 107)) v r.b:=Rel.keep hb B1
 obtain ⟨c0,c1,c2⟩:=qbm hW.1 (qbd w r v 107)
 rw [Nat.zero_add] at c1 c2
 by_cases k2:r.k=2
 ·have HE:Hid (itF r=r.b):=by show _=_;unfold itF;rw [if_pos k2]
  have HX:Hid (Vb (w.alloc (.cells (rcs r v).toArray 107)) v r.b∧Below w.heap.size w (w.alloc (.cells (rcs r v).toArray 107))):=⟨hvn,B1⟩
  rw [k2] at c0
  obtain ⟨a,b,off,c,rfl,-⟩:=hb
  generalize r.b.length=n at *
  clear k2 hW hvn B1 c1
  go_enter Tryz.func77,Tryz.ntmps77
  go_wp2_with fail
  go_ret
  rw [HE.out]
  exact ⟨_,rfl,HX.out⟩
 ·have j2:(r.k == 2)=false:=by simpa using k2
  by_cases k1:r.k=1
  ·have HE:Hid (itF r=sF r.h):=by show _=_;unfold itF;rw [if_neg k2,if_pos k1]
   have K:=qcv (qzk c1 hW.2.1 (by rw [hW.1];omega) hW.1) (by rw [hW.1];omega)
   have HX:Hid (r.W∧Below w.heap.size w (w.alloc (.cells (rcs r v).toArray 107))):=⟨hW,B1⟩
   rw [k1] at c0
   clear k1 k2 j2 hvn B1 hW c1 c2 hb
   go_enter Tryz.func77,Tryz.ntmps77
   go_wp2_with (go_at_call 75;refine K.mono ?_;rintro e w1 ⟨v1,rfl,ho1,b1⟩;have HZ:Hid (Vb w1 v1 (sF r.h)∧Below w.heap.size w w1):=⟨qa9 ho1 rfl (qu6 (by rw [HX.out.1.1];omega) HX.out.1.2.1) (by have:=qu5 (b:=r.h) (by rw [HX.out.1.1];omega);omega),ch HX.out.2 b1⟩;clear ho1 b1 K)
   go_ret
   rw [HE.out]
   exact ⟨_,rfl,HZ.out⟩
  ·have j1:(r.k == 1)=false:=by simpa using k1
   have HE:Hid (itF r=sF []):=by show _=_;unfold itF;rw [if_neg k2,if_neg k1]
   have K:=qcv (qc0 (w.alloc (.cells (rcs r v).toArray 107))) (by simp)
   have HX:Hid (Below w.heap.size w (w.alloc (.cells (rcs r v).toArray 107))):=B1
   obtain ⟨q,eq⟩:∃q,q=sF []:=⟨_,rfl⟩
   rw [←eq] at K HE
   have HQ:Hid (∀{B:Nat} {w1:World} {v1:Value},w1.ownsRow B 5 1 v1 q.length (bv q)→Vb w1 v1 q):=fun h=>by
    subst eq
    exact qa9 h rfl (qu6 (by simp) (by simp)) (by have:=qu5 (b:=[]) (by simp);omega)
   clear k1 k2 hvn B1 hW c1 c2 hb eq
   go_enter Tryz.func77,Tryz.ntmps77
   go_wp2_with (go_at_call 75;refine K.mono ?_;rintro e w1 ⟨v1,rfl,ho1,b1⟩;have HZ:Hid (Vb w1 v1 q∧Below w.heap.size w w1):=⟨HQ.out ho1,ch HX.out b1⟩;clear ho1 b1 K)
   go_ret
   rw [HE.out]
   exact ⟨_,rfl,HZ.out⟩
set_option maxRecDepth 100000 in
set_option maxHeartbeats 1600000 in
theorem qip {w:World} {r:Rf} {v:Value} (hW:r.W) (hb:Vb w v r.b):Calls Tryz.prog 105 #[.agg (rcs r v).toArray] w fun e w'=>e=.returned (.bool (isNo r))∧Below w.heap.size w w':=by
 have B1:Below w.heap.size w (w.alloc (.cells (rcs r v).toArray 107)):=qaa _ _
 obtain ⟨c0,c1,c2⟩:=qbm hW.1 (qbd w r v 107)
 rw [Nat.zero_add] at c1 c2
 have heq:=fun w0=>qf4 w0 r.h z32 hW.1 hW.2.1 qac qco
 obtain ⟨a,b,off,c,rfl,hv,hc,-,hl⟩:=hb
 obtain ⟨n,en⟩:∃n,n=r.b.length:=⟨_,rfl⟩
 have HI:Hid (isNo r=(decide (r.k=0) && (decide (r.h=z32) && decide (n=0)))):=by show _=_;rw [en];rfl
 rw [←en] at hl hc c2 B1 ⊢ c0 c1
 have HB:Hid (Below w.heap.size w (w.alloc (.cells (rcs r (.slice a n c)).toArray 107))):=B1
 have hh:=hW.1
 clear en B1 hW hv
 by_cases k0:r.k=0
 ·rw [k0] at c0
  have HK:Hid (r.k=0):=k0
  clear k0
  by_cases hz:r.h=z32
  ·rw [decide_eq_true hz] at heq
   have HZ:Hid (r.h=z32):=hz
   clear hz
   by_cases h0:n=0
   ·subst h0
    go_enter Tryz.func105,Tryz.ntmps105
    go_wp2_with (first | refine qaj _ (by rfl) _ _ _ hh c1 (by rfl) ?_ | refine qan (by rfl) ?_)
    go_ret
    rw [HI.out,decide_eq_true HK.out,decide_eq_true HZ.out]
    exact ⟨rfl,HB.out⟩
   ·have i0:¬(n:Int)=0:=by omega
    have i0b:((n:Int) == 0)=false:=by simpa using i0
    have HF:Hid (decide (n=0)=false):=decide_eq_false h0
    go_enter Tryz.func105,Tryz.ntmps105
    go_wp2_with (first | refine qaj _ (by rfl) _ _ _ hh c1 (by rfl) ?_ | refine qan (by rfl) ?_)
    go_ret
    rw [HI.out,decide_eq_true HK.out,decide_eq_true HZ.out,HF.out]
    exact ⟨rfl,HB.out⟩
  ·rw [decide_eq_false hz] at heq
   have HZ:Hid (decide (r.h=z32)=false):=decide_eq_false hz
   go_enter Tryz.func105,Tryz.ntmps105
   go_wp2_with (first | refine qaj _ (by rfl) _ _ _ hh c1 (by rfl) ?_ | refine qan (by rfl) ?_)
   go_ret
   rw [HI.out,decide_eq_true HK.out,HZ.out]
   exact ⟨rfl,HB.out⟩
 ·have j0:(r.k == 0)=false:=by simpa using k0
  have HK:Hid (decide (r.k=0)=false):=decide_eq_false k0
  go_enter Tryz.func105,Tryz.ntmps105
  go_wp2_with fail
  go_ret
  rw [HI.out,HK.out]
  exact ⟨rfl,HB.out⟩
end Go.Proofs.YtemcneddbhgadaaGreatDoor
