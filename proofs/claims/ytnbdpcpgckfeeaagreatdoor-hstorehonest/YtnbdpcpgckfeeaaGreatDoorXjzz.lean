import Derived.Test.YtnbdpcpgckfeeaaGreatDoorW7zz
import Derived.Test.YtnbdpcpgckfeeaaGreatDoorXhzz
import Derived.Deep.MidRow
import Derived.Deep.WholeRow
import Derived.Laws.Tables
import Derived.Great.BuildSlice
import Derived.RangeFuncBound
import Derived.Shelf.SlIter.Collect
namespace Go.Sy
open Go Go.Ev
variable{s:St}{q r:Option Addr}{c d:Nat}{M N:List Nat}
theorem one_nB{A:List Nat}:∀v∈A.map nB,Ev.one v=true:=fun v hv=>by
 obtain⟨a,_,rfl⟩:=List.mem_map.1 hv;rfl
theorem mkRow_kn{s:St}{cs:List Value}:Kn s (mkRow s cs):=newRow_kn
theorem mkRow_wf{s:St}{cs:List Value}(w:Wf s):Wf (mkRow s cs):=newRow_kn.wf w
theorem mkRow_rw{s:St}{cs:List Value}:Rw (mkRow s cs) s.nx cs s.nx:=.new
theorem mkRow_sl{s:St}{cs:List Value}:Sl (mkRow s cs) (some ⟨s.nx,0,none⟩) cs s.nx:=by
 have:=(mkRow_rw (s:=s) (cs:=cs)).sl (o:=0) (n:=cs.length) (by omega)
 rwa[List.drop_zero,List.take_length]at this
theorem Gw.mk0{s:St}{cs:List Value}{n size:Nat}(h:cs.length=n*size):Gw (mkRow s cs) (some ⟨s.nx,0,none⟩) n (sure n) size cs s.nx:=⟨h,.inr ⟨s.nx,0,rfl,newRow_get,rfl,.inr rfl⟩⟩
theorem Bs.cells{A:List Nat}(h:Bs s q A):cellsFrom s 1 A.length (.slice q A.length c)=some (A.map nB):=cells_at h (by simp) (by decide)
theorem Bs.nil_of(h:Bs s none M):M=[]:=by
 rcases h with⟨h,_⟩|⟨b,o,h,_⟩
 ·simpa using h
 ·cases h
theorem Bs.kn{s':St}(h:Bs s q M)(w:Wf s)(k:Kn s s'):Bs s' q M:=At.kn h w k
theorem Kn.app{s s1 s2:St}{γ:Nat}(h:Kn s s1)(k:Kp (fun c=>c=γ) s1 s2)(hγ:s.nx≤γ):Kn s s2:=Kp.new h (k.mono fun _ e=>Nat.le_of_eq e.symm) hγ
theorem Kn.call{s s1 s2:St}(h:Kn s s1)(k:Kn s1 s2):Kn s s2:=h.trans k
theorem At.take{cs:List Value}(h:At s q cs){n:Nat}(hn:n≤cs.length):At s q (cs.take n):=by
 rcases h with⟨rfl,h⟩|⟨b,o,rfl,h⟩
 ·exact .inl ⟨by simp,h⟩
 ·obtain⟨l,h1,h2,h3⟩:=readAt_some h
  refine .inr ⟨b,o,rfl,?_⟩
  rw [List.length_take,Nat.min_eq_left hn,readAt_of h1 (by omega)]
  conv=>rhs;rw [h3]
  rw [List.take_take,Nat.min_eq_left hn]
def com:List Nat→List Nat→Nat
 |a::x,b::y=>if a=b then com x y+1 else 0
 |_,_=>0
theorem com_drop{A B:List Nat}{i:Nat}(h1:i<A.length)(h2:i<B.length):com (A.drop i) (B.drop i)=if A.getD i 0=B.getD i 0 then com (A.drop (i+1)) (B.drop (i+1))+1 else 0:=by
 rw [List.drop_eq_getElem_cons h1,List.drop_eq_getElem_cons h2,com]
 simp only[List.getD_eq_getElem?_getD,List.getElem?_eq_getElem h1,List.getElem?_eq_getElem h2,Option.getD_some]
theorem com_end{A B:List Nat}{i:Nat}(h:A.length≤i∨B.length≤i):com (A.drop i) (B.drop i)=0:=by
 rcases h with h|h
 ·rw [List.drop_eq_nil_of_le h];cases B.drop i<;>rfl
 ·rw [List.drop_eq_nil_of_le h];cases A.drop i<;>rfl
theorem com_le:∀(A B:List Nat),com A B≤A.length∧com A B≤B.length
 |[],B=>by cases B<;>exact⟨Nat.zero_le _,Nat.zero_le _⟩
 |a::A,[]=>⟨Nat.zero_le _,Nat.zero_le _⟩
 |a::A,b::B=>by
  have:=com_le A B
  rw [com]
  split<;>simp only[List.length_cons]<;>omega
theorem com_self:∀M:List Nat,com M M=M.length
 |[]=>rfl
 |a::M=>by rw [com,if_pos rfl,com_self M];rfl
theorem com_full:∀{M N:List Nat},com M N=M.length→com M N=N.length→M=N
 |[],[],_,_=>rfl
 |[],b::N,_,h=>by cases h
 |a::M,[],h,_=>by cases h
 |a::M,b::N,h,k=>by
  rw [com]at h k
  split at h
  ·rename_i e;rw [if_pos e]at k;simp only[List.length_cons,Nat.add_right_cancel_iff]at h k;rw [e,com_full h k]
  ·cases h
def cmp(M N:List Nat):Int:=if com M N=M.length∧com M N=N.length then 0 else if com M N=M.length then -1 else if com M N=N.length then 1 else if M.getD (com M N) 0<N.getD (com M N) 0 then -1 else 1
theorem cmp_zero{M N:List Nat}:cmp M N=0↔M=N:=by
 constructor
 ·intro h
  unfold cmp at h
  split at h
  ·rename_i e;exact com_full e.1 e.2
  ·split at h
   ·cases h
   ·split at h
    ·cases h
    ·split at h<;>cases h
 ·rintro rfl;unfold cmp;rw [com_self,if_pos ⟨rfl,rfl⟩]
end Go.Sy
namespace Go.Sy
open Go Go.Ev Go.RowKit
def ab(H:Nat)(v:Value):Value:=match v with
 | .bool b=>.bool b
 | .int k n=>.int k n
 | .string t=>.string t
 | .pointer none=>.pointer none
 | .pointer (some ⟨b,o,none⟩)=>if b<H then .pointer (some ⟨1000+b,o,none⟩)else .chan (some 0)
 | .slice none n c=>.slice none n c
 | .slice (some ⟨b,o,p⟩) n c=>if n=0 then .slice (some ⟨0,0,some 0⟩) 0 0 else if b<H∧p=none then .slice (some ⟨1000+b,o,none⟩) n (sure c)else .chan (some 0)
 | .nilFunc=>.nilFunc
 | .nilIface=>.nilIface
 | .map none=>.map none
 |v=>.chan (if Ev.one v=true then some 0 else none)
def abv(H:Nat)(v:Value):Value:=match v with
 | .agg cs=>.agg ⟨cs.toList.map (ab H)⟩
 |v=>ab H v
def En0(H:Nat):En:={nx:=1000+H,ι:=fun b=>if b<1000 then b else b-1000,sh:=fun _=>0,sz:=fun _=>0}
theorem ab_VR(H:Nat)(v:Value):VR (En0 H) (ab H v) v:=by
 have hι:∀b,(En0 H).ι (1000+b)=b:=fun b=>by show (if 1000+b<1000 then 1000+b else 1000+b-1000)=b;rw [if_neg (by omega)];omega
 unfold ab
 split
 ·exact .bool _
 ·exact .int _ _
 ·exact .str _
 ·exact .pnil
 ·rename_i b o
  split
  ·rename_i h
   have:=VR.ptr (E:=En0 H) (1000+b) o (by show 1000+b<1000+H;omega)
   rw [hι,show (En0 H).sh (1000+b)+o=o from Nat.zero_add o]at this;exact this
  ·exact .top _ rfl
 ·exact .snil _ _
 ·rename_i b o p n c
  split
  ·rename_i h
   subst h
   exact .slV _ 0 _ _
  ·split
   ·rename_i h
    obtain⟨h,rfl⟩:=h
    have:=VR.slS (E:=En0 H) (1000+b) o n c (by show 1000+b<1000+H;omega)
    rw [hι,show (En0 H).sh (1000+b)+o=o from Nat.zero_add o]at this;exact this
   ·exact .top _ rfl
 ·exact .fnil
 ·exact .inil
 ·exact .mnil
 ·split
  ·rename_i h;exact .top _ h
  ·exact .any _
theorem abs_VRs(H:Nat):∀l:List Value,VRs (En0 H) (l.map (ab H)) l
 |[]=>.nil
 |v::l=>.cons _ _ _ _ (ab_VR H v) (abs_VRs H l)
theorem abv_VR(H:Nat)(v:Value):VR (En0 H) (abv H v) v:=by
 unfold abv
 split
 ·rename_i cs;exact .agg _ _ (abs_VRs H cs.toList)
 ·exact ab_VR H v
theorem abvs_VRs(H:Nat):∀l:List Value,VRs (En0 H) (l.map (abv H)) l
 |[]=>.nil
 |v::l=>.cons _ _ _ _ (abv_VR H v) (abvs_VRs H l)
def ob0(w:World)(b:Nat):Option Ob:=match w.heap[b]? with
 |some (.cells c _ _)=>some (.ro (c.toList.map (ab w.heap.size)))
 |_=>none
def put0(w:World)(t:Tr Ob)(b:Nat):Tr Ob:=match ob0 w b with
 |some o=>(if b<1000 then t.set o b else t).set o (1000+b)
 |none=>t
def hp0(w:World):Nat→Tr Ob
 |0=>.nil
 |n+1=>put0 w (hp0 w n) n
theorem hp0_get(w:World):∀n k,(hp0 w n).get k=if k<1000 then(if k<n then ob0 w k else none)else(if k-1000<n then ob0 w (k-1000)else none)
 |0,k=>by show (Tr.nil:Tr Ob).get k=_;rw [Tr.get_nil];split<;>rfl
 |n+1,k=>by
  have ih:=hp0_get w n
  show (put0 w (hp0 w n) n).get k=_
  unfold put0
  cases ho:ob0 w n with
  |none=>
   simp only[ih]
   by_cases h1:k<1000
   ·rw [if_pos h1,if_pos h1]
    by_cases h2:k=n
    ·subst h2;rw [if_neg (Nat.lt_irrefl _),if_pos (Nat.lt_succ_self _),ho]
    ·by_cases h3:k<n
     ·rw [if_pos h3,if_pos (by omega)]
     ·rw [if_neg h3,if_neg (by omega)]
   ·rw [if_neg h1,if_neg h1]
    by_cases h2:k-1000=n
    ·rw [if_neg (by omega),if_pos (by omega),h2,ho]
    ·by_cases h3:k-1000<n
     ·rw [if_pos h3,if_pos (by omega)]
     ·rw [if_neg h3,if_neg (by omega)]
  |some o=>
   simp only[get_set']
   by_cases h0:k=1000+n
   ·rw [if_pos h0,if_neg (by omega),if_pos (by omega),show k-1000=n by omega,ho]
   ·rw [if_neg h0]
    by_cases h1:k<1000
    ·rw [if_pos h1]
     by_cases h2:k=n
     ·subst h2;rw [if_pos h1,get_set',if_pos rfl,if_pos (Nat.lt_succ_self _),ho]
     ·have e:(if n<1000 then(hp0 w n).set o n else hp0 w n).get k=(hp0 w n).get k:=by
       split
       ·rw [get_set',if_neg h2]
       ·rfl
      rw [e,ih,if_pos h1]
      by_cases h3:k<n
      ·rw [if_pos h3,if_pos (by omega)]
      ·rw [if_neg h3,if_neg (by omega)]
    ·rw [if_neg h1]
     have e:(if n<1000 then(hp0 w n).set o n else hp0 w n).get k=(hp0 w n).get k:=by
      split
      ·rw [get_set',if_neg (by omega)]
      ·rfl
     rw [e,ih,if_neg h1]
     by_cases h3:k-1000<n
     ·rw [if_pos h3,if_pos (by omega)]
     ·rw [if_neg h3,if_neg (by omega)]
def st0(w:World):St:=.mk (hp0 w w.heap.size) (1000+w.heap.size) .nil
theorem st0_get(w:World)(k:Nat):(st0 w).hp.get k=if k<1000 then ob0 w k else ob0 w (k-1000):=by
 show (hp0 w w.heap.size).get k=_
 rw [hp0_get]
 have hn:∀b,¬b<w.heap.size→ob0 w b=none:=fun b hb=>by unfold ob0;rw [Array.getElem?_eq_none (by omega)]
 split
 ·split
  ·rfl
  ·rename_i h;rw [hn _ h]
 ·split
  ·rfl
  ·rename_i h;rw [hn _ h]
theorem ob0_some{w:World}{b:Nat}{o:Ob}(h:ob0 w b=some o):∃c t fr,w.heap[b]? =some (.cells c t fr)∧o= .ro (c.toList.map (ab w.heap.size))∧b<w.heap.size:=by
 unfold ob0 at h
 split at h
 ·rename_i c t fr hc;cases h;exact⟨c,t,fr,hc,rfl,(Array.getElem?_eq_some_iff.1 hc).1⟩
 ·cases h
theorem st0_some{w:World}{k:Nat}{o:Ob}(h:(st0 w).hp.get k=some o):∃c t fr,w.heap[(En0 w.heap.size).ι k]? =some (.cells c t fr)∧o= .ro (c.toList.map (ab w.heap.size))∧(En0 w.heap.size).ι k<w.heap.size∧k<1000+w.heap.size:=by
 rw [st0_get]at h
 show ∃c t fr,w.heap[if k<1000 then k else k-1000]? =_∧_∧(if k<1000 then k else k-1000)<_∧_
 split at h
 ·rename_i hk;rw [if_pos hk];obtain⟨c,t,fr,h1,h2,h3⟩:=ob0_some h;exact⟨c,t,fr,h1,h2,h3,by omega⟩
 ·rename_i hk;rw [if_neg hk];obtain⟨c,t,fr,h1,h2,h3⟩:=ob0_some h;exact⟨c,t,fr,h1,h2,h3,by omega⟩
theorem rel0(w:World):Rel w.heap.size (En0 w.heap.size) (st0 w) w:=by
 refine⟨rfl,by show 1000≤1000+w.heap.size;omega,Nat.le_succ _,fun b hb=>⟨if_pos hb,rfl⟩,Nat.le_refl _,fun b o hb=>?_,fun b o hb ho=>?_,fun b o b' o' hb _ ho=>?_,fun b o hb hg=>?_,fun b o hb _ _=>?_⟩
 ·obtain⟨c,t,fr,h1,rfl,_,h3⟩:=st0_some hb
  refine⟨h3,c,t,fr,h1,fun i v hv=>?_⟩
  rw [List.getElem?_map,Array.getElem?_toList]at hv
  cases hc:c[i]? with
  |none=>rw [hc]at hv;cases hv
  |some u=>rw [hc]at hv;cases hv;exact⟨u,by show c[0+i]? =_;rw [Nat.zero_add];exact hc,ab_VR _ u⟩
 ·obtain⟨c,t,fr,h1,rfl,_⟩:=st0_some hb;exact ho.elim
 ·obtain⟨c,t,fr,h1,rfl,_⟩:=st0_some hb;exact ho.elim
 ·obtain⟨c,t,fr,h1,rfl,_⟩:=st0_some hb;exact absurd rfl hg
 ·obtain⟨c,t,fr,h1,rfl,h2,_⟩:=st0_some hb;exact h2
theorem wf0(w:World):Wf (st0 w):=by
 have hg:∀g,(st0 w).gr.get g=none:=fun g=>Tr.get_nil
 refine⟨fun b o hb=>?_,fun g ms m o h=>?_,fun b cs hb=>hg b,fun b cs g hb=>?_,fun b cs g hb=>?_,fun g ms h=>?_,fun g ms m h=>?_,by show 0<1000+w.heap.size;omega⟩
 ·obtain⟨c,t,fr,_,rfl,_,h⟩:=st0_some hb;exact⟨h,h⟩
 ·rw [hg]at h;cases h
 ·obtain⟨c,t,fr,_,h,_⟩:=st0_some hb;cases h
 ·obtain⟨c,t,fr,_,h,_⟩:=st0_some hb;cases h
 ·rw [hg]at h;cases h
 ·rw [hg]at h;cases h
theorem calls0{B:Bx}(hm:B.P.follows .mixedOrders=true){f:FuncId}{args:List Value}{w:World}(hH:HookOk w.heap.size B.P B.hook)(h:Cl B (.call f (args.map (abv w.heap.size))) (st0 w) fun v _=>v= .bool true):
  Calls B.P f ⟨args⟩ w fun e w'=>e= .returned (.bool true)∧Below w.heap.size w w':=by
 obtain⟨v,s',⟨n,hr⟩,rfl⟩:=h
 refine(eval_calls (fun rec R=>draw_ok hm R) hH (rel0 w) (abvs_VRs _ args) (hr n (Nat.le_refl _))).mono fun e W' ⟨E',v',h1,h2,h3⟩=>?_
 rw [h2.bool_inv]at h1
 exact⟨h1,h3.below (rel0 w)⟩
theorem at0{w:World}{b o:Nat}{c:Array Value}{t:TypeId}{fr:Nat×Nat}{cs:List Value}(h:w.heap[b]? =some (.cells c t fr))(hc:∀i,i<cs.length→∃v,c[o+i]? =some v∧cs[i]? =some (ab w.heap.size v))(hz:cs≠[]):At (st0 w) (some ⟨1000+b,o,none⟩) cs:=by
 have hg:(st0 w).hp.get (1000+b)=some (.ro (c.toList.map (ab w.heap.size))):=by
  rw [st0_get,if_neg (by omega),show 1000+b-1000=b by omega];unfold ob0;rw [h]
 refine .inr ⟨_,_,rfl,?_⟩
 have hcl:c.toList.length=c.size:=Array.length_toList
 have hl:o+cs.length≤c.size:=by
  have hp:0<cs.length:=List.length_pos_iff.2 hz
  obtain⟨v,h1,_⟩:=hc (cs.length-1) (by omega)
  have:=(Array.getElem?_eq_some_iff.1 h1).1;omega
 rw [readAt_of (.inl hg) (by rw [List.length_drop,List.length_map];omega)]
 refine congrArg some (List.ext_getElem? fun i=>?_)
 by_cases hi:i<cs.length
 ·obtain⟨v,h1,h2⟩:=hc i hi
  rw [List.getElem?_take_of_lt hi,List.getElem?_drop,List.getElem?_map,Array.getElem?_toList,h1,h2];rfl
 ·rw [List.getElem?_eq_none (by rw [List.length_take,List.length_drop,List.length_map];omega),List.getElem?_eq_none (by omega)]
end Go.Sy
namespace Go.Proofs.YtnbdpcpgckfeeaaGreatDoor
open Go Go.RowKit Go.Maps Go.Sort Go.Shelf
set_option maxRecDepth 100000
section
variable {F : Fence} {n : Nat} {P : Program} {ops : Array Oper} {rest : List Oper} {o : Oper} {a : Act} {w : World} {Q : Exit → Act → World → Prop}
theorem in_st (hg : o.guard = none) (ty : TypeId) (x y : Operand) (ho : o.op = .store ty x y) (g : Nat) (cells : Array Value) (hx : a.eval x = .pointer (some ⟨g, 0, none⟩)) (hy : a.eval y = .agg cells)
    (t : TypeId) (old : Array Value) (hb : w.heap[g]? = some (.cells old t (0, 0))) (hi : (P.info? ty).map (·.size) = some cells.size) (hold : old.size = cells.size) (h1 : cells.all (·.oneCell') = true)
    (h : wpListIn F n P ops Q rest (a.put o.dst undef) (w.setRow g cells)) : wpListIn F n P ops Q (o :: rest) a w := by
  refine wpListIn_plain hg fun K' hK' => ?_
  unfold Oper.wpIn
  refine ⟨by simp [Oper.about, ho], ?_⟩
  rw [Oper.semAt_plain F _ _ (by rw [ho]; intro c hc; cases hc)]
  unfold execOp
  simp only [ho, hx, hy, Instr.storeAt, Instr.sureAddr, Sem.run_bind, Sem.run_pure, Result.andThen_ok, run_storeVar_row w g t ty old cells hb hi hold h1]
  exact hK' _ _ h
theorem in_ld (hg : o.guard = none) (ty : TypeId) (x : Operand) (ho : o.op = .load ty x) (b f : Nat) (hx : a.eval x = .pointer (some ⟨b, f, none⟩)) (cs : List Value) (d : TypeDesc) (hc : w.rangeAt b f cs)
    (hu : P.underlying ty = some d) (hd : d.isRow = true) (hi : (P.info? ty).map (·.size) = some cs.length)
    (h : wpListIn F n P ops Q rest (a.put o.dst (.agg cs.toArray)) w) : wpListIn F n P ops Q (o :: rest) a w := by
  refine wpListIn_plain hg fun K' hK' => ?_
  unfold Oper.wpIn
  refine ⟨by simp [Oper.about, ho], ?_⟩
  rw [Oper.semAt_plain F _ _ (by rw [ho]; intro c hc; cases hc)]
  unfold execOp
  simp only [ho, hx, Instr.loadAt, Instr.sureAddr, Sem.run_bind, Sem.run_pure, Result.andThen_ok, run_loadVar_mid w b f ty cs d hc hu hd hi]
  exact hK' _ _ h
end
theorem uM : Tryz.prog.underlying 77 = some (.map 26 23) := by kernel_rfl
theorem iH : (Tryz.prog.info? 26).map (·.size) = some 32 := by kernel_rfl
theorem hv_cells (h : Hs) : hv h = .agg (h.k.map hb).toArray := rfl
theorem hperm {H : Type} {D0 : DataW H} {left : Lit → Bool} {ss : List Hs} {W : World} {b nn : Nat} {R : Value → Option (DataW H × List MemPlace)} (hC : Collected D0 left (ss.map hkb)) (hown : W.ownsMap Tryz.prog 26 R b nn D0) (hl : ∀ kl, left kl = false) : (ss.map hkb).Perm (strKeys D0) := by
  obtain ⟨es, hD, hpw, _⟩ := hown.entries keyed
  obtain ⟨es', hD', hko⟩ := hown.keysOf
  obtain rfl : es = es' := by rw [hD] at hD'; simpa using hD'
  subst hD
  exact perm_strKeys hpw (fun p hp => by
    obtain ⟨v, hv'⟩ := hko p hp
    obtain ⟨h, rfl⟩ := keyOf_inv hv'
    rw [keyOf_hash] at hv'
    injection hv' with e
    exact ⟨_, e.symm⟩) hC.1 (fun x => by rw [hC.2 x, hl]; simp)
set_option maxHeartbeats 1000000 in
theorem keys1_in {H : Type} (F : Fence) (n : Nat) (h10 : F.fn 95) (hro : F.round = none) (hn : 1 ≤ n) (l Bm o b nn : Nat) (D0 : DataW H) (J : List Hs → World → Prop)
    (hY : ∀ pre x W, J pre W → pre.length < Maps.size D0 → YieldAt F (n - 1) Tryz.prog l #[hv x] W fun e W' => e = .returned (.bool true) ∧ J (pre ++ [x]) W' ∧ KeepsWalks W W')
    (W : World) (hJ : AbidesFrom W.heap.size J) (hm : W.cell? ⟨Bm, o, none⟩ = some (.map (some b))) (hown : W.ownsMap Tryz.prog 26 (fun _ => some ((.nil : DataW H), ([] : List MemPlace))) b nn D0) (h0 : J [] W) :
    CallsIn F n Tryz.prog 95 #[.func (.yield l) #[] #[], .pointer (some ⟨Bm, o, none⟩)] W fun e W' => (∃ v, e = .returned v) ∧ ∃ ss : List Hs, (ss.map hkb).Perm (strKeys D0) ∧ J ss W' := by
  refine callsIn_of_wp Tryz.func95 rfl h10 ?_ hro
  unfold Tryz.f95
  simp only [List.size_toArray, List.length_cons, List.length_nil, Nat.reduceAdd, Nat.reduceSub, Array.replicate_succ, Array.replicate_zero, List.push_toArray, List.append_toArray, List.nil_append, List.cons_append]
  gi_wp2_with (first
    | (gi_at_range; refine wpListIn_range_own _ rfl _ 77 rfl 26 23 keyed uM _ b nn _ rfl hown ?_; intro w0 hrg0 hg0 hs0)
    | gi_in)
  go_frame
  gi_loopw [3] (fun _ wr => ∃ (left : Lit → Bool) (cnt : Nat) (ss : List Hs), wr.ranges Tryz.prog 26 (fun _ => some ((.nil : DataW H), ([] : List MemPlace))) b W.heap.size nn D0 left cnt ∧ ss.length + cnt ≤ Maps.size D0 ∧ Collected D0 left (ss.map hkb) ∧ J ss wr)
    (fun _ wr => wr.rangeLeft b W.heap.size)
  case atStart =>
    exact ⟨_, _, [], hrg0, by simp, Collected.start D0, hJ [] W w0 none h0 hg0 (fun r e => by cases e)⟩
  case round =>
    obtain ⟨left, cnt, ss, hrg, hcs, hC, hJs⟩ := hrel
    gi_wp2_with (first
      | (gi_at_next; refine wpListIn_next_ranges _ rfl _ rfl 26 keyed _ hv id (fun key kl hk => keyOf_inv hk) (fun v _ _ => ⟨v, rfl⟩) b W.heap.size nn _ _ _ rfl hrg ?_ ?_)
      | gi_in)
    · intro hc0 hl0
      gi_wp2
      go_end0
      exact ⟨⟨_, rfl⟩, ss, hperm hC hown hl0, hJs⟩
    · intro x c kl yd yp w2 cnt2 hkey hlk hR1 hR2 hat hrg2 hlt hg2 hs2 hen
      have hkl : kl = .string (hkb x) := by rw [keyOf_hash] at hkey; injection hkey with e; exact e.symm
      subst hkl
      have hJ2 : J ss w2 := hJ ss wr w2 (some W.heap.size) hJs hg2 (fun r e => by cases e; exact ⟨Nat.le_refl _, hrg.iter_walk⟩)
      have hxs : (x.k.map hb).toArray.size = 32 := by rw [List.size_toArray, List.length_map, x.len]
      obtain ⟨w4, hw4⟩ : ∃ w4, w4 = w2.alloc (.cells (x.k.map hb).toArray 26) := ⟨_, rfl⟩
      have hJ4 : J ss w4 := by rw [hw4]; exact hJ ss w2 _ none hJ2 (World.grownBy_alloc w2 _ none) (fun r e => by cases e)
      obtain ⟨fn, tmps, assign, body, hy, hR⟩ := hY ss x w4 hJ4 (by omega)
      have hxl : (x.k.map hb).length = 32 := by rw [List.length_map, x.len]
      have hrg4 : w4.rangeAt w2.heap.size 0 (x.k.map hb) := fun j v hj => by
        have hb4 : w4.heap[w2.heap.size]? = some (.cells (x.k.map hb).toArray 26 (0, 0)) := by rw [hw4]; exact World.alloc_heap_new w2 _
        unfold World.cell?
        rw [hb4]
        show (x.k.map hb).toArray[0 + j]? = some v
        rw [Nat.zero_add, List.getElem?_toArray]; exact hj
      have hran4 := hrg2.alloc (.cells (x.k.map hb).toArray 26)
      rw [← hw4] at hran4
      clear hs2
      gi_wp2_with (first
        | (refine in_st rfl 26 _ _ rfl w2.heap.size (x.k.map hb).toArray rfl rfl 26 _ (World.alloc_heap_new w2 _) (by rw [hxs]; exact iH) (by rw [hxs]; rfl) (by simp [hb, Value.oneCell']) ?_
           rw [World.setRow_alloc_new, ← hw4]; clear hw4)
        | (refine in_ld rfl 26 _ rfl w2.heap.size 0 rfl (x.k.map hb) _ hrg4 Tryz.underlying26 rfl (by rw [hxl]; exact iH) ?_; rw [← hv_cells])
        | gi_in)
      refine hR.mono ?_
      rintro e W3 ⟨rfl, hJ3, hk3⟩
      gi_wp2
      have hran5 := hran4.of_walks hk3
      go_roundw
      case rel => exact ⟨_, cnt2, ss ++ [x], hran5, by simp; omega, by rw [List.map_append]; exact hC.step hlk hat, hJ3⟩
      case measure => rw [hran5.left_eq, hrg.left_eq]; exact hlt
open Go Go.RowKit Go.Maps Go.Sort Go.Shelf
set_option maxRecDepth 100000
section
variable {F : Fence} {n : Nat} {P : Program} {ops : Array Oper} {rest : List Oper} {o : Oper} {a : Act} {w : World} {Q : Exit → Act → World → Prop}
theorem in_bsl (hg : o.guard = none) (t e : TypeId) (y : Operand) (ho : o.op = .buildSlice t 1 #[(0, y)]) (cells : Array Value) (hy : a.eval y = .agg cells) (ie : TypeInfo) (z : Value) (hu : P.underlying t = some (.slice e)) (hie : P.info? e = some ie) (hz : ie.zero = some z) (hs : ie.size = cells.size) (h0 : 0 < cells.size) (hsm : cells.size ≤ 2 ^ 24)
    (h : wpListIn F n P ops Q rest (a.put o.dst (.slice (some ⟨w.heap.size, 0, none⟩) 1 1)) (w.alloc (.cells cells e))) : wpListIn F n P ops Q (o :: rest) a w := by
  refine wpListIn_plain hg fun K' hK' => ?_
  unfold Oper.wpIn
  refine ⟨by simp [Oper.about, ho], ?_⟩
  rw [Oper.semAt_plain F _ _ (by rw [ho]; intro c hc; cases hc)]
  unfold execOp
  have hf : Instr.fill (fun i => some (i * ie.size, ie.size)) ((Array.range (1 * ie.size)).map (z.cells[· % z.cells.size]!)) (((#[(0, y)] : Array (Nat × Operand)).map fun (i, x) => (i, a.eval x)).toList) = some cells := by
    have := Go.Great.fill_whole (s := cells.size) h0 [.agg cells] ((Array.range (1 * ie.size)).map (z.cells[· % z.cells.size]!)) (fun v hv => by rw [List.mem_singleton.1 hv]; rfl) (by simp [hs])
    rw [hs]
    simpa [hy, Value.cells, hs] using this
  simp only [ho, Sem.run_bind, run_buildSlice w t e 1 _ cells ie z hu hie hz (by omega) (by omega) hf, Result.andThen_ok]
  exact hK' _ _ h
end
def apAssign : Code := .region 2 #[{ dst := some 5, op := .alloc 26, type := 0, pos := "iter.go:51", after := #[], guard := none }, { dst := none, op := .store 26 (.tmp 5) (.tmp 7), type := 0, pos := "iter.go:51", after := #[{ on := 0, ground := .data }, { on := 0, ground := .phase }], guard := none }] false
def apBody : Code := .block 1 (.region 3 #[{ dst := some 8, op := .load 41 (.tmp 2), type := 41, pos := "iter.go:52", after := #[], guard := none }, { dst := some 9, op := .load 26 (.tmp 5), type := 26, pos := "iter.go:52", after := #[], guard := none },
  { dst := some 10, op := .buildSlice 41 1 #[(0, .tmp 9)], type := 41, pos := "iter.go:52", after := #[{ on := 1, ground := .data }], guard := none },
  { dst := some 11, op := .call { callee := .builtin .append, args := #[.tmp 8, .tmp 10], argTypes := #[41, 41] }, type := 41, pos := "iter.go:52", after := #[{ on := 0, ground := .data }, { on := 2, ground := .data }], guard := none },
  { dst := none, op := .store 41 (.tmp 2) (.tmp 11), type := 0, pos := "iter.go:52", after := #[{ on := 3, ground := .data }, { on := 3, ground := .chain }, { on := 0, ground := .phase }, { on := 1, ground := .phase }, { on := 2, ground := .phase }, { on := 3, ground := .phase }], guard := none }] false)
def apRec (fn : FuncId) (sv : Value) (Bs D : Nat) (st : LoopState) (pend : Option Code) : Loop :=
  { state := st, pending := pend, fn, tmps := #[.slice none 0 0, sv, .pointer (some ⟨Bs, 0, none⟩), undef, .slice none 0 0, undef, sv, undef, undef, undef, undef, undef, undef], params := #[7], assign := apAssign, body := apBody, defers := D }
def hcs (ss : List Hs) : List Value := (ss.map fun x => x.k.map hb).flatten
structure ApAt (w0 : World) (fn : FuncId) (sv : Value) (Bs l D : Nat) (st : LoopState) (ss : List Hs) (W : World) : Prop where
  box : ∃ v, W.heap[Bs]? = some (.cells #[v] 41 (0, 0)) ∧ W.ownsRow w0.heap.size 26 32 v ss.length (hcs ss) ∧ (v = .slice none 0 0 ↔ ss = [])
  L : W.heap[l]? = some (.loop (apRec fn sv Bs D st none))
  K : W.heap[D]? = some (.deferred (some []))
  below : Below w0.heap.size w0 W
theorem ap_abides (w0 : World) (fn : FuncId) (sv : Value) (Bs l D B : Nat) (st : LoopState) (hB : w0.heap.size ≤ B) : AbidesFrom B (ApAt w0 fn sv Bs l D st) := fun s W W' row h hg hrow => by
  have hrow' : ∀ r, row = some r → ∃ o : Obj, W.heap[r]? = some o ∧ o.isWalk = true := fun r e => (hrow r e).2
  obtain ⟨v, hv, hr, hn⟩ := h.box
  exact ⟨⟨v, (grownBy_keeps hg hrow' hv rfl).trans hv, ownsRow_abides_a hr hg hrow', hn⟩, (grownBy_keeps hg hrow' h.L rfl).trans h.L, (grownBy_keeps hg hrow' h.K rfl).trans h.K,
    h.below.grown hg h.below.size (fun k e => Nat.le_trans hB (hrow k e).1)⟩
theorem range_new (w : World) (cs : List Value) (t : TypeId) : (w.alloc (.cells cs.toArray t)).rangeAt w.heap.size 0 cs := fun j v hj => by
  unfold World.cell?
  rw [World.alloc_heap_new w _]
  show cs.toArray[0 + j]? = some v
  rw [Nat.zero_add, List.getElem?_toArray]; exact hj
theorem uS : Tryz.prog.underlying 41 = some (.slice 26) := by kernel_rfl
theorem iS : (Tryz.prog.info? 26).map (fun i => (i.zero, i.size, i.bytes)) = some (some (.agg (List.replicate 32 (hb 0)).toArray), 32, 32) := by kernel_rfl
set_option maxHeartbeats 2000000 in
theorem apYield (F : Fence) (m : Nat) (w0 : World) (fn : FuncId) (hfn : F.fn fn) (sv : Value) (Bs l D : Nat) (hBl : Bs ≠ l) (hDl : D ≠ l) (hDB : D ≠ Bs) (h0B : w0.heap.size ≤ Bs) (h0l : w0.heap.size ≤ l)
    (N : Nat) (hN : N ≤ maxLen) (hNb : N * 32 ≤ 140737488355328) (ss : List Hs) (x : Hs) (W : World) (h : ApAt w0 fn sv Bs l D .ready ss W) (hlen : ss.length < N) :
    YieldAt F m Tryz.prog l #[hv x] W fun e W' => e = .returned (.bool true) ∧ ApAt w0 fn sv Bs l D .ready (ss ++ [x]) W' ∧ KeepsWalks W W' := by
  obtain ⟨i0, hi, hz0, hz1, hz2⟩ := info_parts iS
  obtain ⟨v, hv0, hrow, hvn⟩ := h.box
  refine ⟨fn, #[.slice none 0 0, sv, .pointer (some ⟨Bs, 0, none⟩), undef, .slice none 0 0, undef, sv, hv x, undef, undef, undef, undef, undef], apAssign, apBody, by simpa [apRec] using run_yield (P := Tryz.prog) (args := #[hv x]) h.L rfl, roundIn_of_wpIn hfn ?_⟩
  have hxs : (x.k.map hb).toArray.size = 32 := by rw [List.size_toArray, List.length_map, x.len]
  have hxl : (x.k.map hb).length = 32 := by rw [List.length_map, x.len]
  have hl : l < W.heap.size := (Array.getElem?_eq_some_iff.1 h.L).1
  have hBlt : Bs < W.heap.size := (Array.getElem?_eq_some_iff.1 hv0).1
  have hDlt : D < W.heap.size := (Array.getElem?_eq_some_iff.1 h.K).1
  have ne_of : ∀ {j : Nat} {o : Obj}, W.heap[j]? = some o → (∀ cur, o ≠ .cells cur 26 (0, 0)) → some j ≠ v.ownBlock := fun hj hno => by
    rcases ownsRow_ne_a hrow hj hno with e | e
    · rw [e]; simp
    · exact fun e' => e e'.symm
  obtain ⟨V1, hV1⟩ : ∃ V1, V1 = W.alloc (.cells (x.k.map hb).toArray 26) := ⟨_, rfl⟩
  have hr1 : V1.rangeAt W.heap.size 0 (x.k.map hb) := by rw [hV1]; exact range_new _ _ _
  have hs1 : V1.heap.size = W.heap.size + 1 := by rw [hV1]; simp
  have old1 : ∀ k, k < W.heap.size → V1.heap[k]? = W.heap[k]? := fun k hk => by rw [hV1]; exact Below.heap_alloc _ _ k hk
  have hrow1 : V1.ownsRow w0.heap.size 26 32 v ss.length (hcs ss) := by rw [hV1]; exact hrow.alloc _
  have hb1 : Below w0.heap.size w0 V1 := by rw [hV1]; exact h.below.alloc h.below.size _
  have hk1 : KeepsWalks W V1 := by rw [hV1]; exact KeepsWalks.alloc _ _
  have hL1 : V1.heap[l]? = some (.loop (apRec fn sv Bs D .ready none)) := (old1 l hl).trans h.L
  have hbr := run_beginRound (P := Tryz.prog) hL1 rfl
  obtain ⟨W2, hW2⟩ : ∃ W2, V1.putObj l (.loop { apRec fn sv Bs D .ready none with state := .busy }) = W2 := ⟨_, rfl⟩
  rw [hW2] at hbr
  have hs2 : W2.heap.size = V1.heap.size := by rw [← hW2]; simp
  have hg2 : V1.grownBy W2 (some l) := by rw [← hW2]; exact grownBy_putObj_a _ _ _
  have hk2 : KeepsWalks W W2 := hk1.trans (by rw [← hW2]; exact KeepsWalks.putObj _ hL1 rfl)
  have hv2 : W2.heap[Bs]? = some (.cells #[v] 41 (0, 0)) := by rw [← hW2]; exact (World.putObj_heap_other hBl).trans ((old1 Bs hBlt).trans hv0)
  have hK2 : W2.heap[D]? = some (.deferred (some [])) := by rw [← hW2]; exact (World.putObj_heap_other hDl).trans ((old1 D hDlt).trans h.K)
  have hL2 : W2.heap[l]? = some (.loop { apRec fn sv Bs D .ready none with state := .busy }) := by rw [← hW2]; exact World.putObj_heap_same (by omega)
  have hrow2 : W2.ownsRow w0.heap.size 26 32 v ss.length (hcs ss) := hrow1.kept hg2 (ownsRow_ne_a hrow1 hL1 (fun cur e => by cases e))
  have hb2 : Below w0.heap.size w0 W2 := hb1.grown hg2 hb1.size (fun k e => by cases e; exact h0l)
  have hr2 : W2.rangeAt W.heap.size 0 (x.k.map hb) := fun j u hj => by
    have := hr1 j u hj
    unfold World.cell? at this ⊢
    rw [show W2.heap[W.heap.size]? = V1.heap[W.heap.size]? by rw [← hW2]; exact World.putObj_heap_other (by omega)]
    exact this
  obtain ⟨hc2, hf2⟩ := cell_of_box_a hv2
  clear hW2
  obtain ⟨V2, hV2⟩ : ∃ V2, V2 = W2.alloc (.cells (x.k.map hb).toArray 26) := ⟨_, rfl⟩
  have hr3 : V2.rangeAt W2.heap.size 0 (x.k.map hb) := by rw [hV2]; exact range_new _ _ _
  have hs3 : V2.heap.size = W2.heap.size + 1 := by rw [hV2]; simp
  have old3 : ∀ k, k < W2.heap.size → V2.heap[k]? = W2.heap[k]? := fun k hk => by rw [hV2]; exact Below.heap_alloc _ _ k hk
  have hrow3 : V2.ownsRow w0.heap.size 26 32 v ss.length (hcs ss) := by rw [hV2]; exact hrow2.alloc _
  have hb3 : Below w0.heap.size w0 V2 := by rw [hV2]; exact hb2.alloc hb2.size _
  have hk3 : KeepsWalks W V2 := by rw [hV2]; exact hk2.trans (KeepsWalks.alloc _ _)
  unfold apAssign
  gi_wp2_with (first
    | (refine in_st rfl 26 _ _ rfl W.heap.size (x.k.map hb).toArray rfl rfl 26 _ (World.alloc_heap_new W _) (by rw [hxs]; exact iH) (by rw [hxs]; rfl) (by simp [hb, Value.oneCell']) ?_
       rw [World.setRow_alloc_new, ← hV1]; clear hV1)
    | (rw [Oper.semAt_eq _ _ _ (fun c h => by cases h)]; go_simp; try go_bits))
  have hr4 : ∀ j u, (x.k.map hb)[j]? = some u → V2.cell? ((⟨W.heap.size + 1, 0, none⟩ : Addr).add j) = some u := fun j u hj => by
    rw [Addr.add_mid]
    have := hr3 j u hj
    rw [hs2, hs1] at this
    exact this
  have hr5 : ∀ j u, (x.k.map hb)[j]? = some u → V2.cell? ((⟨W2.heap.size, 0, none⟩ : Addr).add j) = some u := fun j u hj => by
    rw [Addr.add_mid]
    exact hr3 j u hj
  have hone : ∀ u ∈ x.k.map hb, u.oneCell' = true := fun u hu => by
    obtain ⟨y, _, rfl⟩ := List.mem_map.1 hu
    rfl
  have hz3 := hb3.size
  unfold apBody
  gi_wp2_with (first
    | (refine in_ld rfl 26 _ rfl W.heap.size 0 rfl (x.k.map hb) _ hr2 Tryz.underlying26 rfl (by rw [hxl]; exact iH) ?_; rw [← hv_cells])
    | (refine in_bsl rfl 41 26 _ rfl (x.k.map hb).toArray rfl i0 _ uS hi hz0 (by rw [hz1, hxs]) (by rw [hxs]; decide) (by rw [hxs]; decide) ?_; rw [← hV2]; clear hV2)
    | (gi_at_builtin; refine wpListIn_append_own _ rfl _ _ 41 rfl w0.heap.size 26 i0 _ 32 32 uS hi hz0 hz1 hz2 rfl (by decide) _ _ _ rfl hrow3 _ 1 1 (x.k.map hb) rfl (by rw [hxl]) (by first | exact hr4 | exact hr5) hone (by omega) (by omega) hz3 ?_; intro v' w3 hown' hg3 hnil3
       have hv3 : w3.heap[Bs]? = some (.cells #[v] 41 (0, 0)) := (hg3.block Bs (by omega) (ne_of hv0 (fun cur e => absurd (Obj.cells.inj e).2.1 (by decide)))).trans ((old3 Bs (by omega)).trans hv2)
       obtain ⟨hc3, hf3⟩ := cell_of_box_a hv3
       obtain ⟨g', cap', cur', rfl, hbase', hgb', hq1, hq2, hq3, hq4⟩ : ∃ g' cap' cur', v' = .slice (some ⟨g', 0, none⟩) (ss.length + 1) cap' ∧ w0.heap.size ≤ g' ∧ w3.heap[g']? = some (.cells cur' 26 (0, 0)) ∧ ss.length + 1 ≤ cap' ∧ cap' ≤ maxLen ∧ cur'.size = cap' * 32 ∧ cur'.toList.take ((ss.length + 1) * 32) = hcs ss ++ x.k.map hb := by
         rcases hown'.2 with ⟨_, h0⟩ | h'
         · exact absurd h0 (by omega)
         · exact h'
       go_frame)
    | (rw [Oper.semAt_eq _ _ _ (fun c h => by cases h)]; go_simp; try go_bits))
  have hL3 : w3.heap[l]? = some (.loop { apRec fn sv Bs D .ready none with state := .busy }) := (hg3.block l (by omega) (ne_of h.L (fun cur e => by cases e))).trans ((old3 l (by omega)).trans hL2)
  have hK3 : w3.heap[D]? = some (.deferred (some [])) := (hg3.block D (by omega) (ne_of h.K (fun cur e => by cases e))).trans ((old3 D (by omega)).trans hK2)
  obtain ⟨w4, hw4⟩ : ∃ w4, w3.setCell ⟨Bs, 0, none⟩ (.slice (some ⟨g', 0, none⟩) (ss.length + 1) cap') = w4 := ⟨_, rfl⟩
  rw [hw4]
  have hg4 : w3.grownBy w4 (some Bs) := by rw [← hw4]; exact grownBy_setCell0_a _ _ _
  have hv4 : w4.heap[Bs]? = some (.cells #[.slice (some ⟨g', 0, none⟩) (ss.length + 1) cap'] 41 (0, 0)) := by rw [← hw4]; exact heap_setCell_box_a _ hv3
  have hL4 : w4.heap[l]? = some (.loop { apRec fn sv Bs D .ready none with state := .busy }) := (hg4.block l (Array.getElem?_eq_some_iff.1 hL3).1 (fun e => hBl (by cases e; rfl))).trans hL3
  have hK4 : w4.heap[D]? = some (.deferred (some [])) := (hg4.block D (Array.getElem?_eq_some_iff.1 hK3).1 (fun e => hDB (by cases e; rfl))).trans hK3
  have hrow4 := hown'.kept hg4 (ownsRow_ne_a hown' hv3 (fun cur e => absurd (Obj.cells.inj e).2.1 (by decide)))
  have hl4 : l < w4.heap.size := (Array.getElem?_eq_some_iff.1 hL4).1
  have hb4 : Below w0.heap.size w0 w3 := hb3.grown hg3 hb3.size (fun k e => (hrow.lt k e).1)
  have hb5 : Below w0.heap.size w0 w4 := hb4.grown hg4 hb4.size (fun k e => by cases e; exact h0B)
  have hk4 : KeepsWalks W w4 := (hk3.trans (KeepsWalks.of_grownBy hg3 (ownsRow_not_walk_a hrow3))).trans (by rw [← hw4]; exact KeepsWalks.setCell _ _ _)
  clear hw4
  refine ⟨_, _, run_endRound none hL4, rfl, ⟨⟨_, (World.putObj_heap_other hBl).trans hv4, ?_, by simp⟩, World.putObj_heap_same hl4, (World.putObj_heap_other hDl).trans hK4, hb5.grown (grownBy_putObj_a _ _ _) hb5.size (fun k e => by cases e; exact h0l)⟩, hk4.trans (KeepsWalks.putObj _ hL4 rfl)⟩
  have := hrow4.kept (grownBy_putObj_a w4 l (.loop { { apRec fn sv Bs D .ready none with state := .busy } with state := if (none : Option Code).isNone then .ready else .done, pending := none })) (ownsRow_ne_a hrow4 hL4 (fun cur e => by cases e))
  rw [show hcs (ss ++ [x]) = hcs ss ++ x.k.map hb by simp [hcs], List.length_append]
  exact this
end Go.Proofs.YtnbdpcpgckfeeaaGreatDoor
