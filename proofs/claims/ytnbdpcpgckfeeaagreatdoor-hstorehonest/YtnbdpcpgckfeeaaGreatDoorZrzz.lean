import Derived.Test.YtnbdpcpgckfeeaaGreatDoorZmzz
import Derived.Test.YtnbdpcpgckfeeaaGreatDoorRows
import Derived.SizedLaws
import Derived.OpenShut
import Derived.Laws.BytesArg
import Derived.Deep.Slices
import Derived.Deep.Strs
import Derived.Carry
namespace Go.Proofs.YtnbdpcpgckfeeaaGreatDoor
open Go Go.Ev Go.Sy Go.ChangeShapes Go.WideShapes Go.ChangeAt Go.RowKit
set_option maxRecDepth 100000
theorem laidOut:laidOutB Tryz.prog=true:=by kernel_rfl
theorem cells5: Tryz.prog.cellsOf 5 =1:=by kernel_rfl
theorem cellsB: Tryz.prog.cellsOf 23 =1:=by kernel_rfl
theorem bytes5: Tryz.prog.bytesOf 5 =1:=by kernel_rfl
theorem bytesB: Tryz.prog.bytesOf 23 =24:=by kernel_rfl
theorem reach4:reachBytes=140737488351232:=by decide
def SlOk(v:Value)(A:List Nat):Prop:=A=[]∨∃b o N,v= .slice (some ⟨b,o,none⟩) A.length (sure N)∧A.length≤N
theorem wall_mem{H:Type}{P:Program}{e:TypeId}:∀{l:List (DataW H)} {d:DataW H},d∈l→∀n∈d.weights P e,n∈DataW.weightsAll P e l
 |x::l,d,h,n,hn=>by
  simp only[DataW.weightsAll,List.mem_append]
  rcases List.mem_cons.1 h with rfl|h
  ·exact Or.inl hn
  ·exact Or.inr (wall_mem h n hn)
theorem weach_mem{H:Type}{P:Program}:∀{ts:List TypeId} {l:List (DataW H)} {i:Nat} {t:TypeId} {d:DataW H},ts[i]? =some t→l[i]? =some d→∀n∈d.weights P t,n∈DataW.weightsEach P ts l
 |[],_,i,_,_,h,_,_,_=>by simp at h
 |_::_,[],i,_,_,_,h,_,_=>by simp at h
 |t0::ts,d0::l,i,t,d,h1,h2,n,hn=>by
  simp only[DataW.weightsEach,List.mem_append]
  cases i with
  |zero=>
   simp at h1 h2
   subst h1 h2
   exact Or.inl hn
  |succ i=>exact Or.inr (weach_mem (i:=i) (by simpa using h1) (by simpa using h2) n hn)
theorem ab_void{n:Nat}{a:Addr}{c:Nat}:ab n (.slice (some a) 0 c)= .slice (some ⟨0,0,some 0⟩) 0 0:=by
 obtain⟨b,o,p⟩:=a
 simp only[ab,if_true]
theorem ab_sl{H b o n c:Nat}(hn:0<n)(hb:b<H):ab H (.slice (some ⟨b,o,none⟩) n c)= .slice (some ⟨1000+b,o,none⟩) n (sure c):=by
 show (if n=0 then _ else if b<H∧none=none then _ else _)=_
 rw [if_neg (by omega),if_pos ⟨hb,rfl⟩]
theorem at_world{W:World}{b o:Nat}{cs:List Value}(h:∀i,i<cs.length→∃v,W.cell? ⟨b,o+i,none⟩=some v∧cs[i]? =some (ab W.heap.size v))(hz:cs≠[]):At (st0 W) (some ⟨1000+b,o,none⟩) cs∧b<W.heap.size:=by
 have hp:0<cs.length:=List.length_pos_iff.2 hz
 obtain⟨v0,h0,_⟩:=h 0 hp
 have hb:=World.block_lt_of_cell? _ _ h0
 unfold World.cell? at h0
 split at h0
 case h_2=>cases h0
 rename_i c t fr hw
 refine⟨at0 (c:=c) (t:=t) (fr:=fr) hw (fun i hi=>?_) hz,hb⟩
 obtain⟨v,h1,h2⟩:=h i hi
 unfold World.cell? at h1
 simp only at hw h1
 rw [hw]at h1
 exact⟨v,h1,h2⟩
theorem open_by{H:Type}{enc:TypeId×Value→H}{W:World}{fuel:Nat}{v:Value}{d:DataW H}{p:List MemPlace}
  (hf:DataW.trod enc Tryz.prog W 0 (fun _=>true) true fuel 23 [v]=some (d,p)) (hk:∀n∈d.weights Tryz.prog 23,n≤reachBytes):∃A:List Nat,BsV (st0 W) (ab W.heap.size v) A∧(∀x∈A,x<256)∧A.length≤140737488351232∧SlOk (ab W.heap.size v) A:=by
 rcases open_ints Tryz.underlying23 Tryz.underlying5 cells5 hf with⟨hcs,hx⟩|⟨a,len,cap,zs,hcs,_,hl,hm,hz,hx,hcell,hwz⟩
 ·simp only[List.cons.injEq,and_true]at hcs
  subst hcs
  exact⟨[],⟨none,0,rfl,.inl ⟨rfl,.inl rfl⟩,by decide⟩,by simp,by simp,.inl rfl⟩
 ·simp only[List.cons.injEq,and_true]at hcs
  subst hcs
  simp only[Prod.mk.injEq]at hx
  simp only[if_true]at hz
  have hlen:len≤140737488351232:=by
   have e:(lits (H:=H) .u8 (zs.take len)).length=len:=by simp[lits];omega
   have q:=hk ((lits (H:=H) .u8 (zs.take len)).length* Tryz.prog.bytesOf 5 +(lits (H:=H) .u8 (zs.drop len)).length* Tryz.prog.bytesOf 5) (by
    rw [hx.1,←Nat.add_mul]
    simp only[DataW.weights, Tryz.underlying23]
    exact List.mem_cons_self)
   rw [bytes5,reach4]at q
   omega
  by_cases h0:0<len
  ·obtain⟨b,off,rfl,hc⟩:=ints_at hcell (by omega)
   have bd:∀j,0≤zs.getD j 0∧zs.getD j 0≤255:=fun j=>by
    have:=range_u8 hwz j
    simpa[List.getD]using this
   obtain⟨A,hA⟩:∃A:List Nat,A=(List.range len).map fun i=>(zs.getD i 0).toNat:=⟨_,rfl⟩
   have hAl:A.length=len:=by rw [hA];simp
   obtain⟨a1,a2⟩:=at_world (W:=W) (b:=b) (o:=off) (cs:=A.map nB) (fun i hi=>by
    rw [List.length_map,hAl]at hi
    refine⟨_,hc i (by omega),?_⟩
    rw [hA,List.getElem?_map,List.getElem?_map,List.getElem?_range hi]
    show some (nB (zs.getD i 0).toNat)=some (Value.int .u8 (zs.getD i 0))
    have:=bd i
    have e:((zs.getD i 0).toNat:Int)=zs.getD i 0:=by omega
    rw [←e];rfl) (fun e=>by have:=congrArg List.length e;rw [List.length_map,hAl]at this;simp at this;omega)
   refine⟨A,⟨some ⟨1000+b,off,none⟩,sure cap,by rw [ab_sl h0 a2,hAl],a1,by omega⟩,fun x hx=>?_,by omega,.inr ⟨1000+b,off,cap,by rw [ab_sl h0 a2,hAl],by omega⟩⟩
   rw [hA]at hx
   obtain⟨i,_,rfl⟩:=List.mem_map.1 hx
   have:=bd i
   omega
  ·have e0:len=0:=by omega
   subst e0
   exact⟨[],⟨some ⟨0,0,some 0⟩,0,ab_void,.inl ⟨rfl,.inr ⟨0,0,0,rfl⟩⟩,by decide⟩,by simp,by simp,.inl rfl⟩
theorem open_rows{H:Type}{enc:TypeId×Value→H}{W:World}{fuel:Nat}{v:Value}{d:DataW H}{p:List MemPlace}{α:Type}{t e:TypeId}{k by_:Nat}(hk0:0<k)(ht: Tryz.prog.underlying t=some (.slice e))(hc: Tryz.prog.cellsOf e=k)(hby: Tryz.prog.bytesOf e=by_)(_hb0:0<by_)(cl:α→List Value)(hcl:∀x,(cl x).length=k)(R:α→Prop)
  (each:∀{n:Nat} {cs:List Value} {d:DataW H} {p:List MemPlace},DataW.trod enc Tryz.prog W 0 (fun _=>true) true n e cs=some (d,p)→(∀n∈d.weights Tryz.prog e,n≤reachBytes)→∃x:α,cs.map (ab W.heap.size)=cl x∧R x)
  (hf:DataW.trod enc Tryz.prog W 0 (fun _=>true) true fuel t [v]=some (d,p)) (hk:∀n∈d.weights Tryz.prog t,n≤reachBytes):
  ∃(q:Option Addr) (c:Nat) (l:List α),ab W.heap.size v= .slice q l.length c∧At (st0 W) q (l.flatMap cl)∧(∀x∈l,R x)∧l.length*by_≤140737488351232:=by
 rcases Deep.open_slice ht hf with⟨hcs,hx⟩|⟨a,len,cap,m,n,D,Pl,hcs,_,hl,hm,hmm,hx,hr⟩
 ·simp only[List.cons.injEq,and_true]at hcs
  subst hcs
  exact⟨none,0,[],rfl,.inl ⟨rfl,.inl rfl⟩,by simp,by simp⟩
 ·simp only[List.cons.injEq,and_true]at hcs
  subst hcs
  simp only[if_true]at hmm
  subst hmm
  simp only[Prod.mk.injEq]at hx
  have hlen:len*by_≤140737488351232:=by
   have z:=hk ((len+(m-len))* Tryz.prog.bytesOf e) (by
    rw [hx.1]
    simp only[DataW.weights,ht]
    refine List.mem_cons.2 (Or.inl ?_)
    simp)
   rw [hby,reach4,Nat.add_mul]at z
   omega
  by_cases h0:0<len
  ·have ea:∀i,i<len→∃x:α,(∀j,j<k→∃u,W.cell? (a.add (i*k+j))=some u∧(cl x)[j]? =some (ab W.heap.size u))∧R x:=fun i hi=>by
    obtain⟨cs',h1,h2⟩:=hr i (by omega)
    rw [hc]at h1
    obtain⟨_,hlen',hcell⟩:=World.cells?_some h1
    obtain⟨x,e1,e2⟩:=each h2 (fun n hn=>hk n (by
     rw [hx.1]
     simp only[DataW.weights,ht]
     exact List.mem_cons_of_mem _ (List.mem_append_left _ (wall_mem (d:=D i) (List.mem_map.2 ⟨i,List.mem_range.2 hi,rfl⟩) _ hn))))
    refine⟨x,fun j hj=>?_,e2⟩
    have c:=hcell j hj
    rw [Deep.add_add]at c
    refine⟨cs'[j],by rw [c,List.getElem?_eq_getElem (by omega)],?_⟩
    rw [←e1,List.getElem?_map,List.getElem?_eq_getElem (by omega)];rfl
   obtain⟨x0,hx0,_⟩:=ea 0 h0
   obtain⟨u0,hu0,_⟩:=hx0 0 hk0
   haveI:Inhabited α:=⟨x0⟩
   obtain⟨f,hf'⟩:=Deep.choose_lt ea
   have hspot:a=⟨a.block,a.off,none⟩:=by
    obtain⟨b,o,sp⟩:=a
    have:sp=none:=by simpa[Addr.add]using World.cell?_spot hu0
    rw [this]
   obtain⟨b,o,rfl⟩:∃b o,a=⟨b,o,none⟩:=⟨_,_,hspot⟩
   obtain⟨L,hL⟩:∃L,L=(List.range len).map f:=⟨_,rfl⟩
   have hLl:L.length=len:=by rw [hL];simp
   have fl:∀(L:List α) (j:Nat),j<L.length*k→∃x,L[j/k]? =some x∧(L.flatMap cl)[j]? =(cl x)[j%k]?:=fun L=>by
    induction L with
    |nil=>intro j hj;simp at hj
    |cons x L ih=>
     intro j hj
     by_cases hjk:j<k
     ·refine⟨x,by rw [Nat.div_eq_of_lt hjk];rfl,?_⟩
      rw [List.flatMap_cons,List.getElem?_append_left (by rw [hcl];exact hjk),Nat.mod_eq_of_lt hjk]
     ·obtain⟨y,h1,h2⟩:=ih (j-k) (by rw [List.length_cons,Nat.succ_mul]at hj;omega)
      have hd:j/k=(j-k)/k+1:=by rw [←Nat.add_div_right _ hk0];congr 1;omega
      have hmod:j%k=(j-k)%k:=(Nat.mod_eq_sub_mod (by omega))
      refine⟨y,by rw [hd];exact h1,?_⟩
      rw [List.flatMap_cons,List.getElem?_append_right (by rw [hcl];omega),hcl,h2,hmod]
   have hfl:(L.flatMap cl).length=len*k:=by
    have:∀L:List α,(L.flatMap cl).length=L.length*k:=fun L=>by
     induction L with
     |nil=>simp
     |cons x L ih=>rw [List.flatMap_cons,List.length_append,ih,hcl,List.length_cons,Nat.succ_mul];omega
    rw [this,hLl]
   obtain⟨a1,a2⟩:=at_world (W:=W) (b:=b) (o:=o) (cs:=L.flatMap cl) (fun j hj=>by
    rw [hfl]at hj
    obtain⟨x,h1,h2⟩:=fl L j (by rw [hLl];exact hj)
    have hjd:j/k<len:=(Nat.div_lt_iff_lt_mul hk0).2 hj
    rw [hL,List.getElem?_map,List.getElem?_range hjd]at h1
    injection h1 with h1
    subst h1
    obtain⟨u,h3,h4⟩:=(hf' (j/k) hjd).1 (j%k) (Nat.mod_lt _ hk0)
    refine⟨u,?_,by rw [h2];exact h4⟩
    rw [Go.WideShapes.add_plain]at h3
    rw [show j/k*k+j%k=j from Nat.div_add_mod' j k]at h3
    exact h3) (fun e=>by
     have:=congrArg List.length e
     rw [hfl]at this
     have hpos:=Nat.mul_pos h0 hk0
     simp at this;omega)
   refine⟨some ⟨1000+b,o,none⟩,sure m,L,by rw [ab_sl h0 a2,hLl],a1,fun x hx=>?_,by rw [hLl];exact hlen⟩
   rw [hL]at hx
   obtain⟨i,hi,rfl⟩:=List.mem_map.1 hx
   exact(hf' i (List.mem_range.1 hi)).2
  ·have e0:len=0:=by omega
   subst e0
   exact⟨some ⟨0,0,some 0⟩,0,[],ab_void,.inl ⟨rfl,.inr ⟨0,0,0,rfl⟩⟩,by simp,by simp⟩
theorem agh_of{H:Type}{enc:TypeId×Value→H}{W:World}{fuel:Nat}{v:Value}{d:DataW H}{p:List MemPlace}
  (hf:DataW.trod enc Tryz.prog W 0 (fun _=>true) true fuel 23 [v]=some (d,p)) (hk:∀n∈d.weights Tryz.prog 23,n≤reachBytes):∃A:List Nat,Agh (st0 W) (ab W.heap.size v) A:=by
 obtain⟨A,⟨q,c,e,a,_⟩,hb,hl,hs⟩:=open_by hf hk
 obtain⟨γ,S,lt⟩:=At.sl a
 refine⟨A,⟨q,c,γ,e,S,lt (wf0 W),?_⟩,hb,by omega⟩
 rcases hs with rfl|⟨b,o,N,e2,hN⟩
 ·exact⟨Nat.zero_le _,fun h=>absurd h (Nat.lt_irrefl 0)⟩
 ·rw [e]at e2
  injection e2 with _ _ e2
  rw [e2];exact Cap.sure hN
open Go Go.Ev Go.Sy Go.ChangeShapes Go.WideShapes Go.ChangeAt Go.RowKit
set_option maxRecDepth 100000
def isI(v:Value):Bool:=match v with
 | .int _ _=>true
 | .bool _=>true
 |_=>false
theorem tab0{W:World}(ht:∀p∈Dg.tabs,p.1<1000∧∃c t fr,W.heap[p.1]? =some (.cells c t fr)∧∀(i:Nat) (v:Value),p.2[i]? =some v→c[i]? =some v∧plain 1 v=true):TabAt (st0 W):=fun p hp=>by
 obtain⟨h1,c,t,fr,h2,h3⟩:=ht p hp
 have hi:∀v∈p.2,isI v=true:=fun v hv=>List.all_eq_true.1 (List.all_eq_true.1 (show (Dg.tabs.all fun p=>p.2.all isI)=true by kernel_rfl) p hp) v hv
 have hg:(st0 W).hp.get p.1=some (.ro (c.toList.map (ab W.heap.size))):=by
  rw [st0_get,if_pos h1];unfold ob0;rw [h2]
 refine .inr ⟨_,_,rfl,?_⟩
 have hcl:c.toList.length=c.size:=Array.length_toList
 have hl:p.2.length≤c.size:=by
  rcases Nat.eq_zero_or_pos p.2.length with e|e
  ·omega
  ·have:=(h3 (p.2.length-1) (p.2[p.2.length-1]'(by omega)) (List.getElem?_eq_getElem (by omega))).1
   have:=(Array.getElem?_eq_some_iff.1 this).1;omega
 rw [readAt_of (.inl hg) (by rw [List.length_drop,List.length_map];omega)]
 refine congrArg some (List.ext_getElem? fun i=>?_)
 by_cases hi':i<p.2.length
 ·have hv:=List.getElem?_eq_getElem hi'
  obtain⟨h4,_⟩:=h3 i _ hv
  have h5:=hi _ (List.getElem_mem hi')
  rw [List.getElem?_take_of_lt hi',List.getElem?_drop,List.getElem?_map,Array.getElem?_toList,Nat.zero_add,h4,hv]
  generalize p.2[i]=v at h5
  cases v<;>first|rfl|cases h5
 ·rw [List.getElem?_eq_none (by rw [List.length_take,List.length_drop,List.length_map];omega),List.getElem?_eq_none (by omega)]
namespace hstoreHonest
def arg0:Value:=.slice none 0 0
def arg1:Value:=.int .i64 0
def dat0{H:Type}:DataW H:=.nil
def dat1{H:Type}:DataW H:=.lit (.int .i64 0)
theorem contract(H:Type)(enc:TypeId×Value→H)(W:World)(base:Nat)(args:Array Value)(ds gs:List (DataW H))(before:List MemPlace)
  (hval:∀(j:Nat) t v, Tryz.f3.params[j]? =some t→args[j]? =some v→Value.okWide Tryz.prog W .any base t v)
  (hW:DataW.Whole enc Tryz.prog Tryz.f3.params.toList Rows.hstoreHonestSpec.vars false W args.toList ds gs before)
  (hsz0:(DataW.weightsEach Tryz.prog (Tryz.f3.params.toList++(OpenSpec.ofChange Rows.hstoreHonestSpec).bare.plain.varTypes Tryz.prog) (ds++gs)).all (· ≤reachBytes)=true)
  (hL:laidMetH Tryz.prog Rows.hstoreHonestRow.laid W):
  Calls Tryz.prog 3 args W fun e W'=> ∃v,e= .returned v∧Rows.hstoreHonestSpec.post enc Tryz.prog Tryz.f3 false true false false W args v W':=by
 have hW':=hW
 obtain⟨p,q,hA0,hV,rfl,hfz,hnd⟩:=hW
 have hA:DataW.TrodAll enc Tryz.prog W 0 (fun _=>true) true Tryz.f3.params.toList args.toList ds p:=hA0
 have hsz:(DataW.weightsEach Tryz.prog (Tryz.f3.params.toList++[]) (ds++gs)).all (· ≤reachBytes)=true:=hsz0
 rw [Tryz.params3]at hA hval hsz
 obtain⟨v0,v1,d0,d1,p0,p1,hargs,rfl,rfl,h0,h1⟩:=trodAll_two hA
 obtain rfl:args= #[v0,v1]:=by cases args;simp_all
 obtain⟨rfl,rfl⟩:=trodVars_none hV
 clear hA0 hsz0
 simp only[List.append_nil]at hW' hsz
 have hlt:∀x∈p0++p1,x.block<W.heap.size:=fun x hx=>by simpa using hW'.lt x (by simpa using hx)
 obtain⟨za,rfl⟩:∃z,v1= .int .i64 z:=by
  obtain⟨z,rfl⟩:=okWide_int Tryz.underlying3 (hval 1 3 v1 rfl rfl)
  exact⟨_,rfl⟩
 obtain⟨a0,la,ca,rfl⟩:=okWide_slice Tryz.underlying22 (hval 0 22 v0 rfl rfl)
 obtain⟨q0,c0,l,u1,u2,u3,u4⟩:∃(q:Option Addr) (c:Nat) (l:List (Value×List Nat)),ab W.heap.size (.slice a0 la ca)= .slice q l.length c∧At (st0 W) q (l.flatMap fun x=>[x.1])∧(∀x∈l,Agh (st0 W) x.1 x.2)∧l.length*24≤140737488351232:=by
  obtain⟨fuel,hf⟩:=h0
  exact open_rows (α:=Value×List Nat) (k:=1) (by_:=24) (by decide) Tryz.underlying22 cellsB bytesB (by decide) (fun x=>[x.1]) (fun _=>rfl)
   (fun x=>Agh (st0 W) x.1 x.2) (fun{n cs d p} hf hk=>by
    obtain⟨v,rfl⟩:∃v,cs=[v]:=by
     rcases Deep.open_slice Tryz.underlying23 hf with⟨e,_⟩|⟨_,_,_,_,_,_,_,e,_⟩
     ·exact⟨_,e⟩
     ·exact⟨_,e⟩
    obtain⟨A,hA⟩:=agh_of hf hk
    exact⟨(ab W.heap.size v,A),rfl,hA⟩) (by simpa[Value.cells]using hf) (fun n hn=>by
    have:=List.all_eq_true.1 hsz n (weach_mem (i:=0) (t:= 22) (d:=d0) (by simp) (by simp) n hn)
    simpa using this)
 have hat:At (st0 W) q0 (l.map (·.1)):=by
  rw [List.map_eq_flatMap];exact u2
 have hT:TabAt (st0 W):=tab0 (Dg.tabs_met (l:=Rows.hstoreHonestRow.laid) hL (.tail _ (.head _)) (.tail _ (.tail _ (.head _))) (.head _))
 have law:=law_ok (c0:=c0) (room:=za) quar_ok (wf0 W) hT hat (by omega) u3
 have call:=calls0 (B:=B) (args:=[.slice a0 la ca,.int .i64 za]) (w:=W) Dg.mixed fixK_ok (by
  show Cl B (.call 3 [ab W.heap.size (.slice a0 la ca),.int .i64 za]) (st0 W) _
  rw [u1];exact law)
 refine Calls.mono call fun e W' ⟨he,hg⟩=>?_
 subst he
 exact⟨_,rfl,_,_,_,[],_,[],hW',trodAll_cons_mk (shut_bool Tryz.underlying4 _) trodAll_mk0,
  trodAll_mk2 (Below.trod laidOut (by kernel_rfl) (of_decide_eq_true (by kernel_rfl)) h0 hg fun x hx=>hlt x (by simp[hx])) (Below.trod laidOut (by kernel_rfl) (of_decide_eq_true (by kernel_rfl)) h1 hg fun x hx=>hlt x (by simp[hx])),rfl,hg.frame _,fun h=>by cases h⟩
theorem laid_met(os:Os){V:World}(h:Dg.LaidIs os V):laidMet Tryz.prog Rows.hstoreHonestRow.laid (V.forCall (fun _ _=>0) ⟨#[], #[arg0,arg1],[]⟩).memory:=by
 subst h
 exact laidMet_of_run' 8 (by kernel_rfl) (by kernel_rfl)
theorem reads(os:Os){V:World}(h:Dg.LaidIs os V){H:Type}(enc:TypeId×Value→H):∃places,DataW.whole enc Tryz.prog (V.forCall (fun _ _=>0) ⟨#[], #[arg0,arg1],[]⟩).memory Tryz.f3.params.toList Rows.hstoreHonestSpec.vars false (#[arg0,arg1]:Array Value).toList 8=some ([dat0,dat1],[],places):=by
 subst h
 exact⟨[],by kernel_rfl⟩
theorem lifted(os:Os)(started:os.Started)(H:Type)(enc:TypeId×Value→H)(F:Stop.Interp):
  ReturnsInHanded {} Tryz.checked os 3 .any ((OpenSpec.ofChange Rows.hstoreHonestSpec).preRow enc Tryz.prog Tryz.f3 Rows.hstoreHonestRow.domain false Rows.hstoreHonestRow.laid) (((OpenSpec.ofChange Rows.hstoreHonestSpec).at F).post enc Tryz.prog Tryz.f3 false true false false):=by
 obtain⟨places,hx⟩:=reads os rfl enc
 refine returnsInHanded_of_row (C:= Tryz.checked) (s:=OpenSpec.ofChange Rows.hstoreHonestSpec) Dg.own started (by kernel_rfl) Tryz.func3
  (witness_row_at (enc:=enc) (C:= Tryz.checked) false _ #[arg0,arg1] rfl (by kernel_rfl) (by kernel_rfl) (by kernel_rfl)
   (OpenSpec.preRow_of_cond 8 hx (by kernel_rfl) (fun k hk=>by cases hk) (by kernel_rfl) (laid_met os rfl))) ?_
 intro W base args ds gs before hval hW _ _ hsz hL _ _
 exact contract H enc W base args ds gs before hval hW hsz hL
theorem f1: Tryz.pinned.checked.prog.inPlace 3 =Rows.hstoreHonestRow.inPlace:=by kernel_rfl
theorem f2: Tryz.pinned.checked.prog.unfollowed 3 =Rows.hstoreHonestRow.unfollowed:=by kernel_rfl
theorem f3: Tryz.pinned.checked.prog.recurses 3 =Rows.hstoreHonestRow.recurses:=by kernel_rfl
theorem f4: Tryz.pinned.checked.prog.varsNamed 3 =Rows.hstoreHonestRow.named:=by kernel_rfl
theorem facts:joinedFacts Tryz.pinned.checked.prog 3 Tryz.f3 (OpenSpec.ofChange Rows.hstoreHonestSpec).bare Rows.hstoreHonestRow=true:=by
 unfold joinedFacts
 rw [f1,f2,f3,f4]
 kernel_rfl
theorem said:Rows.HstoreHonestSaid:=
 OpenClaim.holds_of_cond 3 Tryz.f3 rfl rfl rfl rfl rfl rfl rfl ⟨rfl,rfl,rfl,rfl,rfl⟩ rfl rfl rfl rfl rfl (by kernel_rfl) Tryz.func3 facts
  (of_decide_eq_true (by kernel_rfl)) (by unfold Func.isWrapper;first|(rw [if_pos (by decide+kernel)];kernel_rfl)|(rw [if_neg (by decide+kernel)];exact⟨rfl,rfl⟩))
  (fun os started H enc _ F=>by rw [OpenClaim.pre_eq_preRow];exact lifted os started H enc F)
theorem plain(f:FuncId)(fn:Func)(hf: Tryz.pinned.checked.prog.funcNamed "cairn/cairnlaw10.HstoreHonest" =some f)(hfn: Tryz.pinned.checked.prog.funcs[f]? =some fn):
  false= Tryz.pinned.checked.prog.looks []∧∀(j:Nat) t,fn.params[j]? =some t→ Tryz.pinned.checked.prog.wantsStandIn t=false:=by
 obtain rfl:f= 3 :=Option.some.inj ((show Tryz.prog.funcNamed "cairn/cairnlaw10.HstoreHonest" =some 3 by kernel_rfl).symm.trans hf) |>.symm
 obtain rfl:fn= Tryz.f3 :=(Option.some.inj (Tryz.func3.symm.trans hfn)).symm
 refine⟨by kernel_rfl,fun j t ht=>?_⟩
 rw [Tryz.params3]at ht
 have ht':t= 22 ∨t= 3 :=by simpa using Array.mem_of_getElem? ht
 rcases ht' with rfl|rfl
 ·exact(show Tryz.prog.wantsStandIn 22 =false by kernel_rfl)
 ·exact(show Tryz.prog.wantsStandIn 3 =false by kernel_rfl)
theorem card:Rows.HstoreHonestCardSaid:=
 Claim7.holds_tied_plain_at .later [] _ _ _ _ said (fun _ h=>by cases h) (by kernel_rfl) (fun _ h=>by cases h) hstoreHonest_row_tie rfl ⟨rfl,rfl⟩ (by kernel_rfl) rfl plain (by kernel_rfl)
end hstoreHonest
theorem hstoreHonest_holds:Rows.HstoreHonestCardSaid:=hstoreHonest.card
end Go.Proofs.YtnbdpcpgckfeeaaGreatDoor
