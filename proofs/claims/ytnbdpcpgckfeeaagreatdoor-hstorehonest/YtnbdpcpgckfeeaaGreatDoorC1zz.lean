import Derived.Test.YtnbdpcpgckfeeaaGreatDoorG2zz
import Derived.Below
import Derived.Test.YtnbdpcpgckfeeaaGreatDoorH6zz
namespace Go.Ev
open Go Go.RowKit
section
variable{P:Program}{N:Nat}
def HookOk(N:Nat)(P:Program)(hook:FuncId→Option (List Value→St→Rv)):Prop:=
 ∀{f:FuncId} {g:List Value→St→Rv},hook f=some g→∀{args args':List Value} {s s':St} {v:Value} {E:En} {w:World},Rel N E s w→VRs E args args'→g args s= .ok v s'→
  Calls P f ⟨args'⟩ w fun e w'=> ∃E' v',e= .returned v'∧VR E' v v'∧Stp N E s w E' s' w'
theorem run_ok(hD:∀rec,RecOk N P rec→DrawOk N P rec){hook:FuncId→Option (List Value→St→Rv)}(hH:HookOk N P hook):∀n,RecOk N P (run P hook n):=by
 intro n
 induction n with
 |zero=>exact⟨fun _ _ hx=>(by cases hx),fun _ _ hx=>(by cases hx),fun _ _ _ hx=>(by cases hx)⟩
 |succ n ih=>
  refine⟨fun{f args args' s s' v E w} h ha hx cs=>?_,fun{f args args' s s' v E w} h ha hx c cs hc=>?_,fun{l args args' s s' v E w} h ha hl hx=>?_⟩
  ·have hx':(match hook f with
    |some g=>orElse (g args s) (enter P (run P hook n) f args) s
    |none=>enter P (run P hook n) f args s)= .ok v s':=hx
   split at hx'
   ·rename_i g hg
    unfold orElse at hx'
    split at hx'
    case h_2=>exact enter_ok ih (hD _ ih) h ha hx' .normal cs (.inl rfl)
    rename_i v2 s2 hg2
    cases hx'
    replace hx':=hg2
    obtain⟨e,w',fr,⟨E',v',rfl,q1,q2⟩,q3,q4,q5,q6,q7,fn,q8,q9⟩:=hH hg h ha hx' cs
    exact⟨E',w',v',fr,q2,q1,q3,q4,q7,q5,q6,fn,by rw [←q4];exact q8,q9⟩
   ·exact enter_ok ih (hD _ ih) h ha hx' .normal cs (.inl rfl)
  ·exact enter_ok ih (hD _ ih) h ha (show enter P (run P hook n) f args s= .ok v s' from hx) .deferred (c::cs) (.inr ⟨rfl,c,cs,rfl,hc⟩)
  ·exact round_ok ih (hD _ ih) h ha hl (show round P (run P hook n) l args s= .ok v s' from hx)
theorem eval_calls(hD:∀rec,RecOk N P rec→DrawOk N P rec){hook:FuncId→Option (List Value→St→Rv)}(hH:HookOk N P hook){n:Nat}{f:FuncId}{args args':List Value}{s s':St}{v:Value}{E:En}{w:World}(h:Rel N E s w)(ha:VRs E args args')
  (hx:run P hook n (.call f args) s= .ok v s'):Calls P f ⟨args'⟩ w fun e w'=> ∃E' v',e= .returned v'∧VR E' v v'∧Stp N E s w E' s' w':=by
 intro cs
 obtain⟨E',w',v',fr,z1,z2,z3,z4,z5,z6,z7,fn,z8,z9⟩:=(run_ok hD hH n).call h ha hx cs
 exact⟨.returned v',w',fr,⟨E',v',rfl,z2,z1⟩,z3,z4,z6,z7,z5,fn,by rw [z4];exact z8,z9⟩
theorem Stp.below{E E':En}{s s':St}{w w':World}(S:Stp N E s w E' s' w')(h:Rel N E s w):Below N w w':=
 ⟨S.os,S.tape,S.output,S.size,fun k hk=>S.kept k (Nat.lt_of_lt_of_le hk h.flr) fun b o hb ho e=>by have:=h.flo b o hb ho;omega⟩
def start:En:={nx:=1000,ι:=fun b=>b,sh:=fun _=>0,sz:=fun _=>0}
theorem rel_start{w:World}{hp:Tr Ob}(h:∀b o,hp.get b=some o→b<1000∧∃cs c t fr,o= .ro cs∧w.heap[b]? =some (.cells c t fr)∧∀(i:Nat) (v:Value),cs[i]? =some v→c[i]? =some v∧plain 1 v=true):Rel w.heap.size start (.mk hp 1000 .nil) w:=by
 refine⟨rfl,Nat.le_refl _,(by show 1000≤1000+1;decide),fun b _=>⟨rfl,rfl⟩,Nat.le_refl _,fun b o hb=>?_,fun b o hb ho=>?_,fun b o b' o' hb _ ho=>?_,fun b o hb hg=>?_,fun b o hb hd hr=>?_⟩
 ·obtain⟨h1,cs,c,t,fr,rfl,h2,h3⟩:=h b o hb
  exact⟨h1,c,t,fr,h2,fun i v hv=>⟨v,by show c[0+i]? =some v;rw [Nat.zero_add];exact(h3 i v hv).1,plain_VR _ 1 v (h3 i v hv).2⟩⟩
 ·obtain⟨_,cs,c,t,fr,rfl,_⟩:=h b o hb;exact ho.elim
 ·obtain⟨_,cs,c,t,fr,rfl,_⟩:=h b o hb;exact ho.elim
 ·obtain⟨_,cs,c,t,fr,rfl,_⟩:=h b o hb;exact absurd rfl hg
 ·obtain⟨_,cs,c,t,fr,rfl,h2,_⟩:=h b o hb
  exact ObR.lt (E:=start) (b:=b) (o:=.ro []) (w:=w) ⟨c,t,fr,h2,fun i v hv=>by simp at hv⟩ (fun e=>by cases e)
end
end Go.Ev
namespace Go.Ev
open Go
section
variable{P:Program}{rec:Rec}{C:Cx P rec}{N:Nat}{E0:En}{s0:St}{w0:World}
theorem getD_true{a:Array Bool}{i:Nat}(h:i<a.size):a.getD i true=a.getD i false:=by
 simp[Array.getD,h]
theorem Sim.upto{c:Nat}{D:List Nat}{E:En}{w:World}{act:Act}{ad:Nat→Nat×Nat}(I:Sim C N E0 s0 w0 c D E w act ad){m:Nat}{x:Sp}(hx:C.l[m]? =some x)(hk:x.kd= .acts)(hanc:∀k,Nat.testBit x.ms k=true→k∈D):
  ∀(d:Nat) (j:Nat) (y:Sp),j+d+1=m→c≤j→C.l[j]? =some y→x.ix∉D→(∀(j':Nat) (y':Sp),j<j'→j'<m→C.l[j']? =some y'→y'.kd≠ .acts)→y.ix∈D∧y.kd≠ .acts:=by
 intro d j y hj hcj hy hi hno
 have h1:=C.K.since m j x y hx hk (by omega) hy fun m2 x2 q1 q2 q3=>hno m2 x2 q1 q2 q3
 have h2:=hanc _ h1
 exact⟨h2,fun e=>I.acts j y hcj hy e h2⟩
theorem Sim.between{c:Nat}{D:List Nat}{E:En}{w:World}{act:Act}{ad:Nat→Nat×Nat}(I:Sim C N E0 s0 w0 c D E w act ad){m:Nat}{x:Sp}(hx:C.l[m]? =some x)(hk:x.kd= .acts)(hi:x.ix∉D)(hanc:∀k,Nat.testBit x.ms k=true→k∈D):
  ∀(d:Nat),c+d≤m→∀(j:Nat) (y:Sp),m-d≤j→c≤j→j<m→C.l[j]? =some y→y.ix∈D∧y.kd≠ .acts
 |0,_,j,y,h1,_,h3,_=>by omega
 |d+1,h,j,y,h1,h2,h3,hy=>by
  rcases Nat.lt_or_ge j (m-d)with hlt|hge
  ·refine I.upto hx hk hanc d j y (by omega) h2 hy hi fun j' y' q1 q2 q3=>?_
   exact(I.between hx hk hi hanc d (by omega) j' y' (by omega) (by omega) q2 q3).2
  ·exact I.between hx hk hi hanc d (by omega) j y hge h2 h3 hy
theorem draws_go(R:RecOk N P rec)(hN:N≤w0.heap.size){b:Frame}{k:List Item}{cs:List Frame}(hb:Calm C.rd b cs):∀(fuel t:Nat) (listed:Array Bool) {c:Nat} {D:List Nat} {E:En} {w:World} {act:Act} {ad:Nat→Nat×Nat},
  Sim C N E0 s0 w0 c D E w act ad→(∃q ps,C.pa c=(q,C.s c)::ps)→listed.size=C.A.size→(∀i,i<C.A.size→(listed.getD i true=true↔i∈D))→((List.range C.A.size).filter fun i=>!listed.getD i true).length≤fuel→
  ∃c' D' E' w' act' ad',Sim C N E0 s0 w0 c' D' E' w' act' ad'∧(∀i,i<C.A.size→i∈D')∧
   Steps P (lone (b.atR act (.inRegion C.A (Region.linearise.go .any C.A fuel t listed [])::k)) cs w) (lone (b.atR act' (.inRegion C.A []::k)) cs w'):=by
 intro fuel
 induction fuel with
 |zero=>
  intro t listed c D E w act ad I _ hsz hl hf
  have hnil:=List.eq_nil_of_length_eq_zero (Nat.le_zero.1 hf)
  refine⟨c,D,E,w,act,ad,I,fun i hi=>?_,.refl _ _⟩
  cases e:listed.getD i true with
  |true=>exact(hl i hi).1 e
  |false=>
   have:i∈(List.range C.A.size).filter fun i=>!listed.getD i true:=List.mem_filter.2 ⟨List.mem_range.2 hi,by rw [e];rfl⟩
   rw [hnil]at this
   cases this
 |succ fuel ih=>
  intro t listed c D E w act ad I hps hsz hl hf
  have hgo:Region.linearise.go .any C.A (fuel+1) t listed []=(match (Region.ready .any C.A listed)[t%(Region.ready .any C.A listed).length]? with
   |some i=>i::Region.linearise.go .any C.A fuel (t/(Region.ready .any C.A listed).length) (listed.setIfInBounds i true) []
   |none=>[]):=by
   simp only[Region.linearise.go]
   change (match (Region.ready .any C.A listed)[t%(Region.ready .any C.A listed).length]? with
    |some i=>Region.linearise.go .any C.A fuel (t/(Region.ready .any C.A listed).length) (listed.setIfInBounds i true) [i]
    |none=>[].reverse)=_
   cases (Region.ready .any C.A listed)[t%(Region.ready .any C.A listed).length]? with
   |none=>rfl
   |some i=>simp only[];rw [linearise_go_acc,List.reverse_singleton,List.singleton_append]
  rw [hgo]
  have mem_ready:∀i,i∈Region.ready .any C.A listed↔i<C.A.size∧(!listed.getD i true&&((C.A[i]?).map (·.after.all fun e=>!Region.binds .any e||listed.getD e.on false)).getD false)=true:=by
   intro i
   unfold Region.ready
   rw [List.mem_filter,List.mem_range]
  cases hr:(Region.ready .any C.A listed)[t%(Region.ready .any C.A listed).length]? with
  |none=>
   have hnil:Region.ready .any C.A listed=[]:=by
    cases hq:Region.ready .any C.A listed with
    |nil=>rfl
    |cons z zs=>
     rw [hq]at hr
     have hlt:t%(z::zs).length<(z::zs).length:=Nat.mod_lt _ (by simp)
     rw [List.getElem?_eq_getElem hlt]at hr
     cases hr
   have all:∀n i,i<n→i<C.A.size→listed.getD i true=true:=by
    intro n
    induction n with
    |zero=>intro i h;omega
    |succ n ihn=>
     intro i hi hs
     cases e:listed.getD i true with
     |true=>rfl
     |false=>
      have hA:C.A[i]? =some C.A[i]:=Array.getElem?_eq_getElem hs
      have:i∈Region.ready .any C.A listed:=by
       rw [mem_ready]
       refine⟨hs,?_⟩
       rw [e,hA]
       simp only[Bool.not_false,Bool.true_and,Option.map_some,Option.getD_some]
       rw [Array.all_eq_true']
       intro ed hed
       cases hbd:Region.binds .any ed with
       |false=>rfl
       |true=>
        have h1:=C.K.back i _ ed hA (by simpa using hed) hbd
        have h2:=ihn ed.on (by omega) (by omega)
        rw [getD_true (by omega)]at h2
        simpa using h2
      rw [hnil]at this
      cases this
   exact⟨c,D,E,w,act,ad,I,fun i hi=>(hl i hi).1 (all (i+1) i (by omega) hi),.refl _ _⟩
  |some i=>
   have hmem:=List.mem_of_getElem? hr
   obtain⟨his,hcond⟩:=(mem_ready i).1 hmem
   obtain⟨hun,haf⟩:=Bool.and_eq_true_iff.1 hcond
   have hA:C.A[i]? =some C.A[i]:=Array.getElem?_eq_getElem his
   have hunl:listed.getD i true=false:=by simpa using hun
   rw [hA]at haf
   simp only[Option.map_some,Option.getD_some]at haf
   rw [Array.all_eq_true']at haf
   have hiD:i∉D:=fun h=>by rw [(hl i his).2 h]at hunl;cases hunl
   obtain⟨m,x,hx,hxi⟩:=C.K.all i his
   obtain⟨hop,hkd,hms⟩:=C.K.op m x hx
   have hanc:∀q,Nat.testBit x.ms q=true→q∈D:=by
    intro q hq
    rw [hms,hxi]at hq
    obtain⟨ed,h1,h2,h3⟩:=C.K.anc i q _ hA hq
    have h4:=haf ed (by simpa using h1)
    rw [h2]at h4
    have h5:listed.getD ed.on false=true:=by simpa using h4
    have hlt:ed.on<C.A.size:=by
     have:=C.K.back i _ ed hA h1 h2
     omega
    have h6:ed.on∈D:=(hl ed.on hlt).1 (by rw [getD_true (by omega)];exact h5)
    rcases h3 with h3|h3
    ·rw [h3];exact h6
    ·exact I.dn _ h6 _ h3
   have hxD:x.ix∉D:=by rw [hxi];exact hiD
   have hcm:c≤m:=by
    rcases Nat.lt_or_ge m c with h|h
    ·exact absurd (I.done m x h hx) hxD
    ·exact h
   have one:∃c1 E1 w1 act1 ad1,Sim C N E0 s0 w0 c1 (x.ix::D) E1 w1 act1 ad1∧(∃q ps,C.pa c1=(q,C.s c1)::ps)∧
     Steps P (lone (b.atR act (.inRegion C.A (x.ix::Region.linearise.go .any C.A fuel (t/(Region.ready .any C.A listed).length) (listed.setIfInBounds i true) [])::k)) cs w) (lone (b.atR act1 (.inRegion C.A (Region.linearise.go .any C.A fuel (t/(Region.ready .any C.A listed).length) (listed.setIfInBounds i true) [])::k)) cs w1):=by
    by_cases hk:x.kd= .acts
    ·have hml:=getElem?_lt hx
     obtain⟨E1,I1⟩:=Sim.absorb hN (m-c) I (by omega) fun j y h1 h2 hy=>(I.between hx hk hxD hanc (m-c) (by omega) j y (by omega) h1 (by omega) hy).1
     rw [show c+(m-c)=m by omega]at I1
     obtain⟨E2,act2,w2,I2,h2⟩:=I1.act1 R hN hx hk hxD hanc (k:=k) hb
     exact⟨m+1,E2,w2,act2,ad,I2,⟨_,_,C.W.act m x hx hk⟩,h2⟩
    ·obtain⟨act2,w2,ad2,I2,h2⟩:=I.pre hps hx hk hxD hanc
     exact⟨c,E,w2,act2,ad2,I2,hps,h2⟩
   obtain⟨c1,E1,w1,act1,ad1,I1,hps1,hs1⟩:=one
   rw [hxi]at I1 hs1
   have hsz':(listed.setIfInBounds i true).size=C.A.size:=by simpa using hsz
   have hset:∀j,j<C.A.size→(listed.setIfInBounds i true).getD j true=(if j=i then true else listed.getD j true):=by
    intro j hj
    simp only[Array.getD_eq_getD_getElem?,Array.getElem?_setIfInBounds]
    by_cases e:i=j
    ·subst e
     rw [if_pos rfl,if_pos (by omega),if_pos rfl];rfl
    ·rw [if_neg e,if_neg (fun h=>e h.symm)]
   have hl':∀j,j<C.A.size→((listed.setIfInBounds i true).getD j true=true↔j∈i::D):=by
    intro j hj
    rw [hset j hj]
    by_cases e:j=i
    ·subst e;simp
    ·rw [if_neg e,hl j hj];simp[e]
   have hf':((List.range C.A.size).filter fun j=>!(listed.setIfInBounds i true).getD j true).length≤fuel:=by
    have h1:((List.range C.A.size).filter fun j=>!(listed.setIfInBounds i true).getD j true)=((List.range C.A.size).filter fun j=>!listed.getD j true).filter fun j=>!decide (j=i):=by
     rw [List.filter_filter]
     refine List.filter_congr fun j hj=>?_
     rw [hset j (List.mem_range.1 hj)]
     by_cases e:j=i<;>simp[e]
    rw [h1]
    have h2:(((List.range C.A.size).filter fun j=>!listed.getD j true).filter fun j=>!decide (j=i)).length<((List.range C.A.size).filter fun j=>!listed.getD j true).length:=by
     rw [List.length_filter_lt_length_iff_exists]
     exact⟨i,List.mem_filter.2 ⟨List.mem_range.2 his,by rw [hunl];rfl⟩,by simp⟩
    omega
   obtain⟨c',D',E',w',act',ad',J,hall,hs⟩:=ih (t/(Region.ready .any C.A listed).length) (listed.setIfInBounds i true) I1 hps1 hsz' hl' hf'
   exact⟨c',D',E',w',act',ad',J,hall,hs1.trans hs⟩
end
theorem draw_ok{P:Program}{N:Nat}{rec:Rec}(hm:P.follows .mixedOrders=true)(R:RecOk N P rec):DrawOk N P rec:=by
 intro id A rd E s s' w a a' act h ha hplan b k cs hb
 unfold planned at hplan
 cases hpl:planOf P A.toList with
 |none=>rw [hpl]at hplan;cases hplan
 |some l=>
 rw [hpl]at hplan
 obtain⟨af,sf,pa,W,e1,e2,e3,e4,e5⟩:=walk_run (show walk P rec rd A.toList l [(none,s)] a s= .ok a' s' from hplan)
 have hn:(af 0).nn≤4611686018427387904:=by
  rw [e1]
  exact(ha.size a.nn a.tm a.df a.eta).2
 let C:Cx P rec:=⟨rd,A,l,af,sf,pa,masks A.toList [],planOf_ok hpl,W,hn⟩
 have hh:=h.drawn (w.drawn+1)
 have hN:N≤({w with drawn:=w.drawn+1}:World).heap.size:=hh.flr
 have hstart:Sim C N E s {w with drawn:=w.drawn+1} 0 [] E {w with drawn:=w.drawn+1} act (fun _=>(0,0)):=by
  refine⟨?_,Nat.zero_le _,fun i hi=>by(cases hi),fun m x hm=>by omega,fun m x _ _ _ hin=>by(cases hin),fun m x t _ hin=>by(cases hin),fun t _=>?_,?_,?_,fun j x _ _ hin=>by(cases hin),fun j _ he=>?_,fun j j' _ _ he=>?_⟩
  ·show Stp N E s _ E (sf 0) _
   rw [e2]
   exact .refl hh
  ·show VR E (orUndef ((af 0).tm.get t)) _
   rw [e1]
   exact ha.tmps a.nn a.tm a.df a.eta t
  ·show act.tmps.size=(af 0).nn
   rw [e1]
   exact(ha.size a.nn a.tm a.df a.eta).1
  ·show DfRs E (af 0).df act.defers
   rw [e1]
   exact ha.defers a.nn a.tm a.df a.eta
  ·obtain⟨x,_,hin,_⟩:=he
   cases hin
  ·obtain⟨x,_,hin,_⟩:=he
   cases hin
 obtain⟨c',D',E',w',act',ad',I,hall,hs⟩:=draws_go (C:=C) R hN hb A.size (w.tape w.drawn (.order b.fn id)) (Array.replicate A.size false) hstart ⟨none,[],by show pa 0=(none,sf 0)::[];rw [e3,e2]⟩ (by simp[C]) (fun i hi=>by
   have hi':i<A.size:=hi
   simp[Array.getD,hi']) (by
   refine Nat.le_trans (List.length_filter_le _ _) ?_
   rw [List.length_range]
   exact Nat.le_refl _) (k:=k)
 obtain⟨E2,J⟩:=Sim.absorb hN (C.l.length-c') I (by have:=I.cl;omega) fun j x _ _ hx=>by
  have:=(C.K.op j x hx).1
  exact hall _ (by
   rcases Nat.lt_or_ge x.ix C.A.size with q|q
   ·exact q
   ·rw [Array.getElem?_eq_none q]at this;cases this)
 rw [show c'+(C.l.length-c')=C.l.length by have:=I.cl;omega]at J
 have hS:=J.stp
 rw [show C.s C.l.length=s' from e5]at hS
 refine⟨E2,act',w',(Stp.drawn h (w.drawn+1)).trans hS,?_,?_⟩
 ·have hsz:=J.size
  have hnn:(C.a C.l.length).nn=(C.a 0).nn:=C.W.size C.hn _ (Nat.le_refl _)
  rw [show a'=C.a C.l.length from e4.symm,(C.a C.l.length).eta]
  refine .mk' (by rw [hnn];exact hsz) (by rw [hnn];exact C.hn) (fun t=>?_) J.dfr
  by_cases hw:∃(m:Nat) (x:Sp),C.l[m]? =some x∧x.op.dst=some t
  ·obtain⟨m,x,hx,hd⟩:=hw
   have hml:=getElem?_lt hx
   exact J.t1 m x t hx (J.done m x hml hx) hd E2 (.refl _) fun j h1 h2=>by omega
  ·have hno:∀(j:Nat) (y:Sp),C.l[j]? =some y→y.op.dst≠some t:=fun j y hy hd=>hw ⟨j,y,hy,hd⟩
   rw [C.W.old C.hn (Nat.le_refl _) fun j y _ hy=>hno j y hy]
   exact J.t0 t fun j y hy _=>hno j y hy
 ·refine .head stepR_region_draw ?_
  have hsch:Region.schedule (P.follows .mixedOrders) A (w.tape w.drawn (.order b.fn id))=Region.linearise.go .any A A.size (w.tape w.drawn (.order b.fn id)) (Array.replicate A.size false) []:=by
   simp only[Region.schedule,hm,Bool.true_or,if_true]
   rfl
  rw [hsch]
  exact hs.trans (.one stepR_region_end)
end Go.Ev
namespace Go.Ev
open Go Go.RowKit
def tables(tabs:List (Nat×List Value)):Tr Ob:=tabs.foldr (fun p t=>t.set (.ro p.2) p.1) .nil
theorem tables_get:∀(tabs:List (Nat×List Value)),(∀p∈tabs,p.1<1000)→∀b o,(tables tabs).get b=some o→∃p∈tabs,b=p.1∧o= .ro p.2
 |[],_,b,o,h=>by rw [show tables []= .nil from rfl,Tr.get_nil]at h;cases h
 |p::tabs,hlt,b,o,h=>by
  have h':((tables tabs).set (.ro p.2) p.1).get b=some o:=h
  have:=hlt p List.mem_cons_self
  rw [Tr.get_set _ _ _ (by omega)]at h'
  split at h'
  ·rename_i e
   cases h'
   exact⟨p,List.mem_cons_self,e,rfl⟩
  ·obtain⟨q,h1,h2⟩:=tables_get tabs (fun q hq=>hlt q (List.mem_cons_of_mem _ hq)) b o h'
   exact⟨q,List.mem_cons_of_mem _ h1,h2⟩
def isT(r:Rv):Bool:=match r with
 | .ok (.bool true) _=>true
 |_=>false
theorem closed{P:Program}{hook:FuncId→Option (List Value→St→Rv)}(hm:P.follows .mixedOrders=true){f:FuncId}{n:Nat}{tabs:List (Nat×List Value)}{W:World}(hH:HookOk W.heap.size P hook)
  (ht:∀p∈tabs,p.1<1000∧∃c t fr,W.heap[p.1]? =some (.cells c t fr)∧∀(i:Nat) (v:Value),p.2[i]? =some v→c[i]? =some v∧plain 1 v=true)
  (hx:isT (run P hook n (.call f []) (.mk (tables tabs) 1000 .nil))=true):
  Calls P f #[] W fun e W'=>e= .returned (.bool true)∧Below W.heap.size W W':=by
 have hr:=rel_start (w:=W) (hp:=tables tabs) fun b o hb=>by
  obtain⟨p,h1,rfl,rfl⟩:=tables_get tabs (fun p hp=>(ht p hp).1) b o hb
  obtain⟨h2,c,t,fr,h3,h4⟩:=ht p h1
  exact⟨h2,p.2,c,t,fr,rfl,h3,h4⟩
 cases hv:run P hook n (.call f []) (.mk (tables tabs) 1000 .nil)with
 |no=>rw [hv]at hx;cases hx
 |ok v s'=>
  rw [hv]at hx
  have e:v= .bool true:=by
   unfold isT at hx
   split at hx
   ·rename_i h;cases h;rfl
   ·cases hx
  subst e
  refine(eval_calls (fun rec R=>draw_ok hm R) hH hr .nil hv).mono fun e W' ⟨E',v',h1,h2,h3⟩=>?_
  rw [h2.bool_inv]at h1
  exact⟨h1,h3.below hr⟩
end Go.Ev
namespace Go.Ev
open Go Go.RowKit
def eqM:List MapEntry→List MapEntry→Bool
 |[],[]=>true
 |⟨k,v,b⟩::xs,⟨k',v',b'⟩::ys=>cond (eqV 5 k k'&&eqV 5 v v'&&Nat.beq b b') (eqM xs ys) false
 |_,_=>false
def eqOb(x y:Ob):Bool:=match x,y with
 | .row a g,.row b h=>eqL (eqV 5) a b&&Nat.beq g h
 | .ro a,.ro b=>eqL (eqV 5) a b
 | .map a c,.map b d=>eqM a b&&Nat.beq c d
 |_,_=>false
def layT{α:Type}:List (Nat×α)→Tr α→Tr α
 |[],t=>t
 |(k,x)::l,t=>layT l (t.set x k)
def grpN(o:Ob):Nat:=match o with
 | .row _ g=>g
 |_=>0
def memN(b:Nat):List Nat→Bool
 |[]=>false
 |m::ms=>cond (Nat.beq m b) true (memN b ms)
def inGroup(g:Tr (List Nat))(b:Nat)(o:Ob):Bool:=cond (Nat.beq (grpN o) 0) true (memN b (membersOf (g.get (grpN o))))
def getIs(hp:Tr Ob)(b:Nat)(o:Ob):Bool:=match hp.get b with
 |some x=>eqOb o x
 |none=>false
def subL(hp:Tr Ob)(g:Tr (List Nat)):List (Nat×Ob)→Bool
 |[]=>true
 |(b,o)::l=>cond (Nat.blt b 4611686018427387905&&getIs hp b o&&inGroup g b o) (subL hp g l) false
structure Tl where
 bl:List (Nat×Ob)
 nx:Nat
 gr:List (Nat×List Nat)
def Tl.st(t:Tl):St:=.mk (layT t.bl .nil) t.nx (layT t.gr .nil)
def fits(t:Tl)(s:St):Bool:=match s with
 | .mk hp nx _=>Nat.beq nx t.nx&&subL hp (layT t.gr .nil) t.bl
structure Ck where
 f:FuncId
 args:List Value
 pre:Tl
 v:Value
 post:Tl
def isRv(v:Value)(t:Tl)(r:Rv):Bool:=match r with
 | .ok u s=>eqV 5 u v&&fits t s
 | .no=>false
def Ck.ok(c:Ck)(P:Program)(hook:FuncId→Option (List Value→St→Rv))(n:Nat):Bool:=isRv c.v c.post (run P hook n (.call c.f c.args) c.pre.st)
end Go.Ev
