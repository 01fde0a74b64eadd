import Derived.Test.YtnbdpcpgckfeeaaGreatDoorE1zz
namespace Go.Ev
open Go
def St.hp:St→Tr Ob| .mk hp _ _=>hp
def St.nx:St→Nat| .mk _ nx _=>nx
def St.gr:St→Tr (List Nat)| .mk _ _ gr=>gr
def Ob.rw:Ob→Prop
 | .ro _=>False
 | .dead=>False
 |_=>True
def Ob.grp:Ob→Nat
 | .row _ g=>g
 |_=>0
structure EntR(E:En)(e e':MapEntry):Prop where
 key:e'.key=e.key
 val:VR E e.val e'.val
 born:e'.born=e.born
inductive EntRs(E:En):List MapEntry→List MapEntry→Prop
 |nil:EntRs E [] []
 |cons (e e':MapEntry) (l l':List MapEntry):EntR E e e'→EntRs E l l'→EntRs E (e::l) (e'::l')
def TmR(E:En)(tm:Tr Value)(tmps:Array Value):Prop:= ∀t,VR E (orUndef (tm.get t)) (tmps.getD t undef)
structure LoopR(E:En)(lp:Loop)(n:Nat)(tm:Tr Value)(lp':Loop):Prop where
 state:lp'.state=lp.state
 pending:lp'.pending=lp.pending
 fn:lp'.fn=lp.fn
 params:lp'.params=lp.params
 assign:lp'.assign=lp.assign
 body:lp'.body=lp.body
 lt:lp.defers<E.nx
 defers:lp'.defers=E.ι lp.defers
 size:lp'.tmps.size=n
 tmps:TmR E tm lp'.tmps
inductive DfR(E:En):Deferred→Deferred→Prop
 |fn (f:FuncId) (y y' x x':List Value):VRs E y y'→VRs E x x'→DfR E ⟨.fn (.func f) ⟨y⟩,⟨x⟩⟩ ⟨.fn (.func f) ⟨y'⟩,⟨x'⟩⟩
 |col (r:Nat):r<E.nx→DfR E ⟨.collected r, #[]⟩ ⟨.collected (E.ι r), #[]⟩
inductive DfRs(E:En):List Deferred→List Deferred→Prop
 |nil:DfRs E [] []
 |cons (d d':Deferred) (l l':List Deferred):DfR E d d'→DfRs E l l'→DfRs E (d::l) (d'::l')
inductive DfO(E:En):Option (List Deferred)→Option (List Deferred)→Prop
 |none:DfO E none none
 |some (l l':List Deferred):DfRs E l l'→DfO E (some l) (some l')
def CellsR(E:En)(sh:Nat)(cs:List Value)(c:Array Value):Prop:= ∀i v,cs[i]? =some v→∃v',c[sh+i]? =some v'∧VR E v v'
def Thaw(g:Nat)(fr:Nat×Nat)(n:Nat):Prop:=fr.1=fr.2∨(n≤fr.1∧g≠0)
theorem Thaw.up{g g1:Nat}{fr:Nat×Nat}{n:Nat}(h:Thaw g fr n)(h1:g1≠0):Thaw g1 fr n:=h.imp id fun h=>⟨h.1,h1⟩
theorem Thaw.not{g:Nat}{fr:Nat×Nat}{n:Nat}(h:Thaw g fr n)(i:Nat)(hi:i<n):¬(fr.1≤i∧i<fr.2):=fun⟨a,b⟩=>by rcases h with h|h<;>omega
def ObR(E:En)(b:Nat)(w:World):Ob→Prop
 | .row cs g=> ∃c t fr,w.heap[E.ι b]? =some (.cells c t fr)∧c.size=E.sz b∧Thaw g fr c.size∧CellsR E (E.sh b) cs c
 | .ro cs=> ∃c ty fr,w.heap[E.ι b]? =some (.cells c ty fr)∧CellsR E (E.sh b) cs c
 | .map es clock=> ∃es',w.heap[E.ι b]? =some (.map es' clock)∧EntRs E es es'.toList
 | .loop lp n tm=> ∃lp',w.heap[E.ι b]? =some (.loop lp')∧LoopR E lp n tm lp'
 | .dfr c=> ∃c',w.heap[E.ι b]? =some (.deferred c')∧DfO E c c'
 | .iter m since seen last=>w.heap[E.ι b]? =some (.mapIter (m.map E.ι) since ⟨seen⟩ last)∧E.sh b=0∧∀r,m=some r→r<E.nx
 | .dead=>True
structure Rel(N:Nat)(E:En)(s:St)(w:World):Prop where
 nx:s.nx=E.nx
 lo:1000≤E.nx
 hi:E.nx≤E.nx+1
 base:∀b,b<1000→E.ι b=b∧E.sh b=0
 flr:N≤w.heap.size
 ob:∀b o,s.hp.get b=some o→b<E.nx∧ObR E b w o
 flo:∀b o,s.hp.get b=some o→o.rw→N≤E.ι b
 dis:∀b o b' o',s.hp.get b=some o→s.hp.get b'=some o'→o.rw→o'≠ .dead→b≠b'→E.ι b=E.ι b'→o.grp≠0∧o'.grp=o.grp∧E.sh b'=E.sh b
 grp:∀b o,s.hp.get b=some o→o.grp≠0→∃ms,s.gr.get o.grp=some ms∧b∈ms
 ro:∀b o,s.hp.get b=some o→o≠ .dead→¬o.rw→E.ι b<N
structure Obs(E:En)(s:St)(w:World):Prop where
 ob:∀b o,s.hp.get b=some o→b<E.nx∧ObR E b w o
theorem Rel.obs{N:Nat}{E:En}{s:St}{w:World}(h:Rel N E s w):Obs E s w:=⟨h.ob⟩
structure Stp(N:Nat)(E:En)(s:St)(w:World)(E':En)(s':St)(w':World):Prop where
 ext:Ext E E'
 rel:Rel N E' s' w'
 os:w'.os=w.os
 tape:w'.tape=w.tape
 output:w'.output=w.output
 size:w.heap.size≤w'.heap.size
 kept:∀B,B<w.heap.size→(∀b o,s.hp.get b=some o→o.rw→E.ι b≠B)→w'.heap[B]? =w.heap[B]?
 prov:∀b o,s'.hp.get b=some o→o.rw→w.heap.size≤E'.ι b∨∃b0 o0,s.hp.get b0=some o0∧o0.rw∧E.ι b0=E'.ι b
theorem Stp.refl{N:Nat}{E:En}{s:St}{w:World}(h:Rel N E s w):Stp N E s w E s w:=
 ⟨.refl E,h,rfl,rfl,rfl,Nat.le_refl _,fun _ _ _=>rfl,fun b o hb ho=>.inr ⟨b,o,hb,ho,rfl⟩⟩
theorem Stp.trans{N:Nat}{E E1 E2:En}{s s1 s2:St}{w w1 w2:World}(h:Stp N E s w E1 s1 w1)(k:Stp N E1 s1 w1 E2 s2 w2):Stp N E s w E2 s2 w2:=by
 refine⟨h.ext.trans k.ext,k.rel,k.os.trans h.os,k.tape.trans h.tape,k.output.trans h.output,Nat.le_trans h.size k.size,fun B hB hn=>?_,fun b o hb ho=>?_⟩
 ·rw [k.kept B (Nat.lt_of_lt_of_le hB h.size),h.kept B hB hn]
  intro b o hb ho e
  rcases h.prov b o hb ho with h1|⟨b0,o0,h1,h2,h3⟩
  ·omega
  ·exact hn b0 o0 h1 h2 (h3.trans e)
 ·rcases k.prov b o hb ho with h1|⟨b1,o1,h1,h2,h3⟩
  ·exact .inl (Nat.le_trans h.size h1)
  ·rcases h.prov b1 o1 h1 h2 with h4|⟨b0,o0,h4,h5,h6⟩
   ·exact .inl (by omega)
   ·exact .inr ⟨b0,o0,h4,h5,h6.trans h3⟩
theorem Rel.drawn{N:Nat}{E:En}{s:St}{w:World}(h:Rel N E s w)(n:Nat):Rel N E s {w with drawn:=n}:=by
 refine⟨h.nx,h.lo,h.hi,h.base,h.flr,fun b o hb=>⟨(h.ob b o hb).1,?_⟩,h.flo,h.dis,h.grp,h.ro⟩
 have:=(h.ob b o hb).2
 cases o<;>exact this
theorem Stp.drawn{N:Nat}{E:En}{s:St}{w:World}(h:Rel N E s w)(n:Nat):Stp N E s w E s {w with drawn:=n}:=
 ⟨.refl E,h.drawn n,rfl,rfl,rfl,Nat.le_refl _,fun _ _ _=>rfl,fun b o hb ho=>.inr ⟨b,o,hb,ho,rfl⟩⟩
theorem EntRs.ext{E E':En}(X:Ext E E'):∀{l l':List MapEntry},EntRs E l l'→EntRs E' l l'
 |_,_,.nil=>.nil
 |_,_,.cons e e' _ _ h k=>.cons e e' _ _ ⟨h.key,h.val.ext X,h.born⟩ (k.ext X)
theorem TmR.ext{E E':En}(X:Ext E E'){tm:Tr Value}{tmps:Array Value}(h:TmR E tm tmps):TmR E' tm tmps:=fun t=>(h t).ext X
theorem LoopR.ext{E E':En}(X:Ext E E'){lp:Loop}{n:Nat}{tm:Tr Value}{lp':Loop}(h:LoopR E lp n tm lp'):LoopR E' lp n tm lp':=
 ⟨h.state,h.pending,h.fn,h.params,h.assign,h.body,Nat.lt_of_lt_of_le h.lt X.nx,by rw [X.ι _ h.lt];exact h.defers,h.size,h.tmps.ext X⟩
theorem DfR.ext{E E':En}(X:Ext E E'){d d':Deferred}(h:DfR E d d'):DfR E' d d':=by
 cases h with
 |fn f y y' x x' hy hx=>exact .fn f y y' x x' (hy.ext X) (hx.ext X)
 |col r hr=>rw [←X.ι r hr];exact .col r (Nat.lt_of_lt_of_le hr X.nx)
theorem DfRs.ext{E E':En}(X:Ext E E'):∀{l l':List Deferred},DfRs E l l'→DfRs E' l l'
 |_,_,.nil=>.nil
 |_,_,.cons d d' _ _ h k=>.cons d d' _ _ (h.ext X) (k.ext X)
theorem DfO.ext{E E':En}(X:Ext E E'){c c':Option (List Deferred)}(h:DfO E c c'):DfO E' c c':=by
 cases h with
 |none=>exact .none
 |some l l' h=>exact .some l l' (h.ext X)
theorem CellsR.ext{E E':En}(X:Ext E E'){sh:Nat}{cs:List Value}{c:Array Value}(h:CellsR E sh cs c):CellsR E' sh cs c:=
 fun i v hv=>let ⟨v',h1,h2⟩:=h i v hv;⟨v',h1,h2.ext X⟩
theorem ObR.keep{E E':En}(X:Ext E E'){b:Nat}{o:Ob}{w w':World}(h:ObR E b w o)(hb:b<E.nx)(hw:w'.heap[E.ι b]? =w.heap[E.ι b]?):ObR E' b w' o:=by
 cases o with
 |row cs g=>
  obtain⟨c,t,fr,h1,h2,h3,h4⟩:=h
  exact⟨c,t,fr,by rw [X.ι b hb,hw];exact h1,by rw [X.sz b hb];exact h2,h3,by rw [X.sh b hb];exact h4.ext X⟩
 |ro cs=>
  obtain⟨c,t,fr,h1,h4⟩:=h
  exact⟨c,t,fr,by rw [X.ι b hb,hw];exact h1,by rw [X.sh b hb];exact h4.ext X⟩
 |map es clock=>obtain⟨es',h1,h2⟩:=h;exact⟨es',by rw [X.ι b hb,hw];exact h1,h2.ext X⟩
 |loop lp n tm=>obtain⟨lp',h1,h2⟩:=h;exact⟨lp',by rw [X.ι b hb,hw];exact h1,h2.ext X⟩
 |dfr c=>obtain⟨c',h1,h2⟩:=h;exact⟨c',by rw [X.ι b hb,hw];exact h1,h2.ext X⟩
 |iter m since seen last=>
  obtain⟨h1,h2,h3⟩:=h
  refine⟨?_,by rw [X.sh b hb];exact h2,fun r hr=>Nat.lt_of_lt_of_le (h3 r hr) X.nx⟩
  rw [X.ι b hb,hw,h1]
  cases m with
  |none=>rfl
  |some r=>rw [Option.map_some,Option.map_some,X.ι r (h3 r rfl)]
 |dead=>trivial
theorem ObR.lt{E:En}{b:Nat}{o:Ob}{w:World}(h:ObR E b w o)(hd:o≠ .dead):E.ι b<w.heap.size:=by
 have:(w.heap[E.ι b]?).isSome=true:=by
  cases o with
  |row=>obtain⟨_,_,_,h,_⟩:=h;rw [h];rfl
  |ro=>obtain⟨_,_,_,h,_⟩:=h;rw [h];rfl
  |map=>obtain⟨_,h,_⟩:=h;rw [h];rfl
  |loop=>obtain⟨_,h,_⟩:=h;rw [h];rfl
  |dfr=>obtain⟨_,h,_⟩:=h;rw [h];rfl
  |iter=>obtain⟨h,_⟩:=h;rw [h];rfl
  |dead=>exact absurd rfl hd
 rcases Nat.lt_or_ge (E.ι b) w.heap.size with h|h
 ·exact h
 ·rw [Array.getElem?_eq_none h]at this;cases this
def En.push(E:En)(a sh sz:Nat):En:=
 {nx:=E.nx+1,ι:=fun b=>if b=E.nx then a else E.ι b,sh:=fun b=>if b=E.nx then sh else E.sh b,sz:=fun b=>if b=E.nx then sz else E.sz b}
theorem En.push_ext(E:En)(a sh sz:Nat):Ext E (E.push a sh sz):=by
 refine⟨Nat.le_succ _,fun b hb=>?_,fun b hb=>?_,fun b hb=>?_⟩<;>exact if_neg (by omega)
theorem En.push_ι(E:En)(a sh sz:Nat):(E.push a sh sz).ι E.nx=a:=if_pos rfl
theorem En.push_sh(E:En)(a sh sz:Nat):(E.push a sh sz).sh E.nx=sh:=if_pos rfl
theorem En.push_sz(E:En)(a sh sz:Nat):(E.push a sh sz).sz E.nx=sz:=if_pos rfl
theorem setO_some{hp:Tr Ob}{nx:Nat}{gr:Tr (List Nat)}{b:Nat}{o:Ob}{s:St}(h:setO hp nx gr b o=some s):s= .mk (hp.set o b) nx gr:=by
 unfold setO at h
 cases e:hp.set o b with
 |nil=>rw [e]at h;cases h
 |node v a b c d=>rw [e]at h;cases h;rfl
theorem newO_some{β:Type}{s:St}{o:Ob}{k:Nat→St→Option β}{r:β}(h:newO s o k=some r):
  s.nx<s.nx+1∧k s.nx (.mk (s.hp.set o s.nx) (s.nx+1) s.gr)=some r:=by
 obtain⟨hp,nx,gr⟩:=s
 have h':cond (Nat.blt nx (Nat.succ nx)) (Tr.casesOn (motive:=fun _=>Option β) (hp.set o nx) none fun v a b c d=>fN (Nat.succ nx) fun n=>k nx (.mk (.node v a b c d) n gr)) none=some r:=h
 cases hb:Nat.blt nx (Nat.succ nx)with
 |false=>rw [hb]at h';cases h'
 |true=>
  rw [hb]at h'
  refine⟨Nat.le_of_ble_eq_true hb,?_⟩
  show k nx (.mk (hp.set o nx) (nx+1) gr)=some r
  cases e:hp.set o nx with
  |nil=>rw [e]at h';cases h'
  |node v a b c d=>rw [e]at h';exact(fN_eq (Nat.succ nx) fun n=>k nx (.mk (.node v a b c d) n gr)).symm.trans h'
theorem stp_new{N:Nat}{E:En}{s:St}{w w':World}(h:Rel N E s w)(hn:s.nx<s.nx+1){o:Ob}{o':Obj}{sz:Nat}(hg:o.grp=0)(hrw:o.rw)
  (hw:w'.heap=w.heap.push o') (hos:w'.os=w.os) (htp:w'.tape=w.tape) (hout:w'.output=w.output)
  (ho:ObR (E.push w.heap.size 0 sz) E.nx w' o):
  Stp N E s w (E.push w.heap.size 0 sz) (.mk (s.hp.set o s.nx) (s.nx+1) s.gr) w':=by
 have X:=En.push_ext E w.heap.size 0 sz
 have old:∀B,B<w.heap.size→w'.heap[B]? =w.heap[B]?:=fun B hB=>by rw [hw,Array.getElem?_push,if_neg (by omega)]
 have hsz:w'.heap.size=w.heap.size+1:=by rw [hw];simp
 have gets:∀b,(s.hp.set o s.nx).get b=if b=E.nx then some o else s.hp.get b:=fun b=>by
  rw [Tr.get_set _ _ _ (by have:=h.hi;have:=h.nx;omega),h.nx]
 have ι':∀b,b<E.nx→(E.push w.heap.size 0 sz).ι b=E.ι b:=X.ι
 refine⟨X,⟨by show s.nx+1=E.nx+1;rw [h.nx],Nat.le_trans h.lo (Nat.le_succ _),by show E.nx+1≤E.nx+1+1;rw [←h.nx];omega,fun b hb=>?_,by rw [hsz];exact Nat.le_succ_of_le h.flr,fun b ob hb=>?_,fun b ob hb hr=>?_,fun b ob b' ob' hb hb' hr hd hne he=>?_,fun b ob hb hgr=>?_,fun b ob hb hd hr=>?_⟩,hos,htp,hout,by rw [hsz];omega,fun B hB _=>old B hB,fun b ob hb hr=>?_⟩
 ·have hb':b<E.nx:=Nat.lt_of_lt_of_le hb h.lo
  rw [X.ι b hb',X.sh b hb'];exact h.base b hb
 ·rw [show (St.mk (s.hp.set o s.nx) (s.nx+1) s.gr).hp=s.hp.set o s.nx from rfl,gets]at hb
  split at hb
  ·rename_i e;cases hb;subst e;exact⟨Nat.lt_succ_self _,ho⟩
  ·obtain⟨h1,h2⟩:=h.ob b ob hb
   refine⟨Nat.lt_succ_of_lt h1,?_⟩
   by_cases e:ob= .dead
   ·subst e;trivial
   ·exact h2.keep X h1 (old _ (h2.lt e))
 ·rw [show (St.mk (s.hp.set o s.nx) (s.nx+1) s.gr).hp=s.hp.set o s.nx from rfl,gets]at hb
  split at hb
  ·rename_i e;subst e;rw [En.push_ι];exact h.flr
  ·rw [ι' b (h.ob b ob hb).1];exact h.flo b ob hb hr
 ·rw [show (St.mk (s.hp.set o s.nx) (s.nx+1) s.gr).hp=s.hp.set o s.nx from rfl,gets]at hb hb'
  split at hb
  ·rename_i e
   subst e
   rw [if_neg (fun e=>hne e.symm)]at hb'
   have:=(h.ob b' ob' hb').2.lt hd
   rw [En.push_ι,ι' b' (h.ob b' ob' hb').1]at he
   omega
  ·have h1:=(h.ob b ob hb).1
   split at hb'
   ·rename_i e
    subst e
    have:=(h.ob b ob hb).2.lt (fun e=>by subst e;exact hr)
    rw [En.push_ι,ι' b h1]at he
    omega
   ·have h2:=(h.ob b' ob' hb').1
    rw [ι' b h1,ι' b' h2]at he
    rw [X.sh b h1,X.sh b' h2]
    exact h.dis b ob b' ob' hb hb' hr hd hne he
 ·rw [show (St.mk (s.hp.set o s.nx) (s.nx+1) s.gr).hp=s.hp.set o s.nx from rfl,gets]at hb
  split at hb
  ·cases hb;exact absurd hg hgr
  ·exact h.grp b ob hb hgr
 ·rw [show (St.mk (s.hp.set o s.nx) (s.nx+1) s.gr).hp=s.hp.set o s.nx from rfl,gets]at hb
  split at hb
  ·cases hb;exact absurd hrw hr
  ·rw [ι' b (h.ob b ob hb).1];exact h.ro b ob hb hd hr
 ·rw [show (St.mk (s.hp.set o s.nx) (s.nx+1) s.gr).hp=s.hp.set o s.nx from rfl,gets]at hb
  split at hb
  ·rename_i e;subst e;rw [En.push_ι];exact .inl (Nat.le_refl _)
  ·exact .inr ⟨b,ob,hb,hr,(ι' b (h.ob b ob hb).1).symm⟩
end Go.Ev
namespace Go.Ev
open Go
def World.row(w:World)(g:Nat)(o:Obj):World:={w with heap:=w.heap.setIfInBounds g o}
theorem row_heap(w:World)(g:Nat)(o:Obj)(B:Nat)(hg:g<w.heap.size):(World.row w g o).heap[B]? =if B=g then some o else w.heap[B]?:=by
 simp only[World.row,Array.getElem?_setIfInBounds]
 by_cases h:g=B
 ·subst h;simp[hg]
 ·rw [if_neg h,if_neg (fun e=>h e.symm)]
theorem run_store1(P:Program)(w:World)(g i:Nat)(c:Array Value)(ty:TypeId)(fr:Nat×Nat)(v:Value)(hw:w.heap[g]? =some (.cells c ty fr))(hi:i<c.size)
  (hf:¬(fr.1≤i∧i<fr.2)) (hv:one v=true):(store ⟨g,i,none⟩ v).run P w= .ok () (World.row w g (.cells (c.setIfInBounds i v) ty fr)):=by
 have hg:g<w.heap.size:=by
  rcases Nat.lt_or_ge g w.heap.size with h|h
  ·exact h
  ·rw [Array.getElem?_eq_none h]at hw;cases hw
 have hc:w.cell? ⟨g,i,none⟩=some c[i]:=by simp[World.cell?,hw,hi]
 have hfz:w.frozen? ⟨g,i,none⟩=false:=by
  simp only[World.frozen?,hw,Bool.and_eq_false_iff,decide_eq_false_iff_not]
  rcases Nat.lt_or_ge i fr.1 with h|h
  ·exact .inl (by omega)
  ·exact .inr (fun h'=>hf ⟨h,h'⟩)
 have hset:w.setCell ⟨g,i,none⟩ v=World.row w g (.cells (c.setIfInBounds i v) ty fr):=by
  unfold World.setCell World.row
  congr 1
  apply Array.ext_getElem?
  intro k
  simp only[Array.getElem?_modify,Array.getElem?_setIfInBounds]
  by_cases e:g=k
  ·subst e
   have e2:w.heap[g]= .cells c ty fr:=by rw [Array.getElem?_eq_getElem hg]at hw;exact Option.some.inj hw
   simp[hg,e2]
  ·simp[e]
 have:∀v,one v=true→(Sem.store .plain ⟨g,i,none⟩ v (.pure ())).run P w= .ok () (w.setCell ⟨g,i,none⟩ v):=by
  intro v hv
  cases v<;>first|(cases hv;done)|(simp only[Sem.run,hc,hfz];rfl)
 rw [←hset]
 exact this v hv
theorem add_eq(g o i:Nat):(⟨g,o,none⟩:Addr).add i=⟨g,o+i,none⟩:=by
 unfold Addr.add
 split
 ·subst_vars;rfl
 ·rfl
def lay(c:Array Value)(o:Nat):List Value→Array Value
 |[]=>c
 |v::vs=>lay (c.setIfInBounds o v) (o+1) vs
theorem lay_size:∀(vs:List Value) (c:Array Value) (o:Nat),(lay c o vs).size=c.size
 |[],_,_=>rfl
 |v::vs,c,o=>by rw [lay,lay_size vs];simp
theorem lay_get:∀(vs:List Value) (c:Array Value) (o i:Nat),o+vs.length≤c.size→(lay c o vs)[i]? =if o≤i∧i<o+vs.length then vs[i-o]? else c[i]?
 |[],c,o,i,_=>by rw [lay,if_neg (by simp)]
 |v::vs,c,o,i,h=>by
  simp only[List.length_cons]at h
  rw [lay,lay_get vs _ (o+1) i (by simp;omega),Array.getElem?_setIfInBounds]
  simp only[List.length_cons]
  rcases Nat.lt_trichotomy i o with e|e|e
  ·rw [if_neg (by omega),if_neg (by omega),if_neg (by omega)]
  ·subst e
   rw [if_neg (by omega),if_pos rfl,if_pos (by omega),if_pos (by omega)]
   simp
  ·by_cases k:i<o+1+vs.length
   ·rw [if_pos (by omega),if_pos (by omega)]
    have:i-o=(i-(o+1))+1:=by omega
    rw [this];simp
   ·rw [if_neg (by omega),if_neg (by omega),if_neg (by omega)]
theorem run_storeCells_lay(P:Program)(g:Nat)(ty:TypeId)(fr:Nat×Nat)(o:Nat){gg:Nat}:∀(vs:List Value) (i:Nat) (c:Array Value) (w:World),w.heap[g]? =some (.cells c ty fr)→o+i+vs.length≤c.size→
  Thaw gg fr c.size→(∀v∈vs,one v=true)→(storeCells ⟨g,o,none⟩ vs i).run P w= .ok () (match vs with|[]=>w|_=>World.row w g (.cells (lay c (o+i) vs) ty fr))
 |[],i,c,w,_,_,_,_=>by simp[storeCells]
 |v::vs,i,c,w,hw,hi,ht,hv=>by
  simp only[List.length_cons]at hi
  have hg:g<w.heap.size:=by
   rcases Nat.lt_or_ge g w.heap.size with h|h
   ·exact h
   ·rw [Array.getElem?_eq_none h]at hw;cases hw
  have h1:=run_store1 P w g (o+i) c ty fr v hw (by omega) (ht.not _ (by omega)) (hv v (by simp))
  have h2:=run_storeCells_lay P g ty fr o vs (i+1) (c.setIfInBounds (o+i) v) (World.row w g (.cells (c.setIfInBounds (o+i) v) ty fr)) (by rw [row_heap _ _ _ _ hg,if_pos rfl]) (by simp;omega) (by simpa using ht) (fun u hu=>hv u (by simp[hu]))
  simp only[storeCells,Sem.run_bind,add_eq,h1,Result.andThen_ok,h2]
  cases vs with
  |nil=>rfl
  |cons u us=>
   simp only[lay,World.row,Array.setIfInBounds_setIfInBounds,Nat.add_assoc]
theorem cutTo_eq(n:Nat)(l:List Value):cutTo n l=l.take n:=by
 unfold cutTo
 cases h:takeO n l with
 |some ys=>exact(takeO_some.1 h).2
 |none=>
  rcases Nat.le_total n l.length with k|k
  ·rw [(takeO_some.2 ⟨k,rfl⟩)]at h;cases h
  ·exact(List.take_of_length_le k).symm
structure Cut(b n:Nat)(ms:List Nat)(s s':St):Prop where
 nx:s'.nx=s.nx
 gr:s'.gr=s.gr
 back:∀m o',s'.hp.get m=some o'→s.hp.get m=some o'∨m≠b∧∃cs g,s.hp.get m=some (.row cs g)∧o'= .row (cs.take n) g
 same:s'.hp.get b=s.hp.get b
 cut:∀m,m∈ms→m≠b→∀cs g,s'.hp.get m=some (.row cs g)→cs.length≤n
 all:∀m,(s'.hp.get m).isSome=(s.hp.get m).isSome
theorem spoilL_cut(b n:Nat):∀(ms:List Nat) (s s':St),(∀m o,s.hp.get m=some o→m<m+1)→spoilL b n ms s=some s'→Cut b n ms s s':=by
 intro ms
 induction ms with
 |nil=>intro s s' _ h;cases h;exact⟨rfl,rfl,fun m o h=>.inl h,rfl,fun m hm=>by simp at hm,fun _=>rfl⟩
 |cons m ms ih=>
  intro s s' hlt h
  obtain⟨hp,nx,gr⟩:=s
  have h':cond (Nat.beq m b) (spoilL b n ms (.mk hp nx gr)) (match hp.get m with
   |some (.row cs g)=>match setO hp nx gr m (.row (cutTo n cs) g)with
    |some s=>spoilL b n ms s
    |none=>none
   |_=>spoilL b n ms (.mk hp nx gr))=some s':=h
  have skip:(∀cs g,hp.get m=some (.row cs g)→m=b)→spoilL b n ms (.mk hp nx gr)=some s'→Cut b n (m::ms) (.mk hp nx gr) s':=by
   intro hm hh
   have c:=ih _ _ hlt hh
   refine⟨c.nx,c.gr,c.back,c.same,fun k hk hkb cs g hg=>?_,c.all⟩
   rcases List.mem_cons.1 hk with rfl|hk
   ·exfalso
    rcases c.back k _ hg with h1|⟨_,cs',g',h1,_⟩
    ·exact hkb (hm _ _ h1)
    ·exact hkb (hm _ _ h1)
   ·exact c.cut k hk hkb cs g hg
  cases hb:Nat.beq m b with
  |true=>
   rw [hb]at h'
   exact skip (fun _ _ _=>Nat.eq_of_beq_eq_true hb) h'
  |false=>
   rw [hb]at h'
   have hne:m≠b:=fun e=>by subst e;rw [Nat.beq_refl]at hb;cases hb
   cases hm:hp.get m with
   |none=>rw [hm]at h';exact skip (fun _ _ e=>by rw [hm]at e;cases e) h'
   |some o=>
    rw [hm]at h'
    cases o with
    |row cs g=>
     simp only[cond]at h'
     split at h'
     ·rename_i s1 hs1
      have e1:=setO_some hs1
      subst e1
      have hlt':m<m+1:=by have:=hlt m _ hm;omega
      have gets:∀k,(hp.set (.row (cutTo n cs) g) m).get k=if k=m then some (.row (cs.take n) g)else hp.get k:=fun k=>by rw [Tr.get_set _ _ _ hlt',cutTo_eq]
      have c:=ih _ _ (fun k o hk=>by
       rw [show (St.mk (hp.set (.row (cutTo n cs) g) m) nx gr).hp=hp.set (.row (cutTo n cs) g) m from rfl,gets]at hk
       split at hk
       ·rename_i e;subst e;exact hlt k _ hm
       ·exact hlt k o hk) h'
      refine⟨c.nx,c.gr,fun k o' hk=>?_,?_,fun k hk hkb cs' g' hg=>?_,fun k=>?_⟩
      ·rcases c.back k o' hk with h1|⟨h0,cs',g',h1,rfl⟩
       ·rw [show (St.mk (hp.set (.row (cutTo n cs) g) m) nx gr).hp=hp.set (.row (cutTo n cs) g) m from rfl,gets]at h1
        split at h1
        ·rename_i e;subst e;cases h1;exact .inr ⟨hne,cs,g,hm,rfl⟩
        ·exact .inl h1
       ·rw [show (St.mk (hp.set (.row (cutTo n cs) g) m) nx gr).hp=hp.set (.row (cutTo n cs) g) m from rfl,gets]at h1
        split at h1
        ·rename_i e;subst e;cases h1;exact .inr ⟨hne,cs,g,hm,by rw [List.take_take,Nat.min_self]⟩
        ·exact .inr ⟨h0,cs',g',h1,rfl⟩
      ·rw [c.same];show (hp.set (.row (cutTo n cs) g) m).get b=hp.get b;rw [gets,if_neg (fun e=>hne e.symm)]
      ·rcases List.mem_cons.1 hk with rfl|hk
       ·rcases c.back k _ hg with h1|⟨_,cs2,g2,h1,e⟩
        ·rw [show (St.mk (hp.set (.row (cutTo n cs) g) k) nx gr).hp=hp.set (.row (cutTo n cs) g) k from rfl,gets,if_pos rfl]at h1
         cases h1;simp;omega
        ·cases e;simp;omega
       ·exact c.cut k hk hkb cs' g' hg
      ·rw [c.all k]
       show ((hp.set (.row (cutTo n cs) g) m).get k).isSome=(hp.get k).isSome
       rw [gets]
       split
       ·rename_i e;subst e;rw [hm];rfl
       ·rfl
     ·cases h'
    |ro cs=>exact skip (fun _ _ e=>by rw [hm]at e;cases e) h'
    |map es c=>exact skip (fun _ _ e=>by rw [hm]at e;cases e) h'
    |loop l k tm=>exact skip (fun _ _ e=>by rw [hm]at e;cases e) h'
    |dfr c=>exact skip (fun _ _ e=>by rw [hm]at e;cases e) h'
    |iter=>exact skip (fun _ _ e=>by rw [hm]at e;cases e) h'
    |dead=>exact skip (fun _ _ e=>by rw [hm]at e;cases e) h'
theorem Cut.refl(b n:Nat)(s:St):Cut b n [] s s:=⟨rfl,rfl,fun m o h=>.inl h,rfl,fun m hm=>by simp at hm,fun _=>rfl⟩
theorem spoil_cut{s s':St}{g b n:Nat}(hlt:∀m o,s.hp.get m=some o→m<m+1)(h:spoil s g b n=some s'):
  ∃ms,Cut b n ms s s'∧(s.gr.get g=none∧ms=[]∨s.gr.get g=some ms):=by
 obtain⟨hp,nx,gr⟩:=s
 unfold spoil at h
 simp only at h
 split at h
 ·rename_i e;cases h;exact⟨[],Cut.refl _ _ _,.inl ⟨e,rfl⟩⟩
 ·rename_i ms e;exact⟨ms,spoilL_cut b n ms _ _ hlt h,.inr e⟩
end Go.Ev
namespace Go.Ev
open Go
theorem CellsR.bound{E:En}{sh:Nat}{cs:List Value}{c:Array Value}(h:CellsR E sh cs c){n:Nat}(hn:n≤cs.length)(h0:0<n):sh+n≤c.size:=by
 have:(cs[n-1]?).isSome=true:=by rw [List.getElem?_eq_getElem (by omega)];rfl
 obtain⟨v,hv⟩:=Option.isSome_iff_exists.1 this
 obtain⟨v',h1,_⟩:=h (n-1) v hv
 rcases Nat.lt_or_ge (sh+(n-1)) c.size with k|k
 ·omega
 ·rw [Array.getElem?_eq_none k]at h1;cases h1
theorem CellsR.take{E:En}{sh:Nat}{cs:List Value}{c:Array Value}(h:CellsR E sh cs c)(n:Nat):CellsR E sh (cs.take n) c:=by
 intro i v hv
 rw [List.getElem?_take]at hv
 split at hv
 ·exact h i v hv
 ·cases hv
theorem CellsR.ahead{E:En}{sh:Nat}{cs:List Value}{c:Array Value}(h:CellsR E sh cs c){o:Nat}{vs:List Value}(ho:sh+o+vs.length≤c.size)(hn:cs.length≤o):CellsR E sh cs (lay c (sh+o) vs):=by
 intro i v hv
 obtain⟨v',h1,h2⟩:=h i v hv
 have:i<cs.length:=by
  rcases Nat.lt_or_ge i cs.length with k|k
  ·exact k
  ·rw [List.getElem?_eq_none k]at hv;cases hv
 exact⟨v',by rw [lay_get _ _ _ _ ho,if_neg (by omega)];exact h1,h2⟩
theorem CellsR.laid{E:En}{sh:Nat}{cs:List Value}{c:Array Value}(h:CellsR E sh cs c){o:Nat}{vs vs':List Value}(hv:VRs E vs vs')(ho:o+vs.length≤cs.length)(ho':sh+o+vs'.length≤c.size):
  CellsR E sh (cs.take o++(vs++cs.drop (o+vs.length))) (lay c (sh+o) vs'):=by
 have hl:=hv.length
 intro i v hi
 rw [lay_get _ _ _ _ ho']
 rw [List.getElem?_append]at hi
 simp only[List.length_take,Nat.min_eq_left (show o≤cs.length by omega)]at hi
 split at hi
 ·rename_i k
  rw [List.getElem?_take,if_pos k]at hi
  rw [if_neg (by omega)]
  exact h i v hi
 ·rename_i k
  rw [List.getElem?_append]at hi
  split at hi
  ·rename_i k2
   obtain⟨v',h1,h2⟩:=hv.get hi
   exact⟨v',by rw [if_pos (by omega),show sh+i-(sh+o)=i-o by omega];exact h1,h2⟩
  ·rename_i k2
   rw [List.getElem?_drop]at hi
   rw [if_neg (by omega)]
   exact h i v (by rw [show i=o+vs.length+(i-o-vs.length)by omega];exact hi)
theorem Rel.lt{N:Nat}{E:En}{s:St}{w:World}(h:Rel N E s w):∀m o,s.hp.get m=some o→m<m+1:=fun m o hm=>by
 have:=(h.ob m o hm).1
 have:=h.hi
 omega
theorem stp_write{N:Nat}{E:En}{s s':St}{w:World}(P:Program)(h:Rel N E s w){b off:Nat}{vs vs':List Value}(hs:writeAt s b off vs=some s')(hv:VRs E vs vs'):
  ∃w',(storeCells ⟨E.ι b,E.sh b+off,none⟩ vs').run P w= .ok () w'∧Stp N E s w E s' w':=by
 cases hv with
 |nil=>cases hs;exact⟨w,by simp[storeCells],.refl h⟩
 |cons v v' vs vs' hv1 hv2=>
  have hv:VRs E (v::vs) (v'::vs'):=.cons _ _ _ _ hv1 hv2
  obtain⟨hp,nx,gr⟩:=s
  have hs1:writeOb hp nx gr b off (v::vs) (hp.get b)=some s':=hs
  unfold writeOb at hs1
  split at hs1
  case h_2=>cases hs1
  rename_i cs g hb
  split at hs1
  case h_1=>cases hs1
  rename_i cs' hsp
  obtain⟨hl,rfl,hone⟩:=splice_some hsp
  obtain⟨hbn,hob⟩:=h.ob b _ hb
  obtain⟨c,ct,fr,hc,hsz,hth,hcr⟩:=hob
  have hlen:=hv.length
  have hbd:E.sh b+off+(v'::vs').length≤c.size:=by
   have:=hcr.bound (n:=off+(v::vs).length) hl (by simp only[List.length_cons];omega)
   omega
  have hone':∀u∈v'::vs',one u=true:=by
   intro u hu
   obtain⟨i,hi⟩:=List.getElem?_of_mem hu
   have hil:i<(v::vs).length:=by
    rw [hlen]
    rcases Nat.lt_or_ge i (v'::vs').length with k|k
    ·exact k
    ·rw [List.getElem?_eq_none k]at hi;cases hi
   obtain⟨u',h1,h2⟩:=hv.get (List.getElem?_eq_getElem hil)
   rw [hi]at h1;cases h1
   exact h2.one (hone _ (List.getElem_mem hil))
  have hrun:=run_storeCells_lay P (E.ι b) ct fr (E.sh b+off) (v'::vs') 0 c w hc (by omega) hth hone'
  simp only[Nat.add_zero]at hrun
  have hιb:E.ι b<w.heap.size:=(h.ob b _ hb).2.lt (fun e=>by cases e)
  refine⟨_,hrun,?_⟩
  have hh:∀B,(World.row w (E.ι b) (.cells (lay c (E.sh b+off) (v'::vs')) ct fr)).heap[B]? =if B=E.ι b then some (.cells (lay c (E.sh b+off) (v'::vs')) ct fr)else w.heap[B]?:=fun B=>row_heap _ _ _ _ hιb
  have hhs:(World.row w (E.ι b) (.cells (lay c (E.sh b+off) (v'::vs')) ct fr)).heap.size=w.heap.size:=by simp[World.row]
  have main:∀ms,Cut b off ms (.mk (hp.set (.row (cs.take off++((v::vs)++cs.drop (off+(v::vs).length))) g) b) nx gr) s'→(g≠0→gr.get g=some ms)→
    Stp N E (.mk hp nx gr) w E s' (World.row w (E.ι b) (.cells (lay c (E.sh b+off) (v'::vs')) ct fr)):=by
   intro ms C hms
   have gets:∀k,(hp.set (.row (cs.take off++((v::vs)++cs.drop (off+(v::vs).length))) g) b).get k=if k=b then some (.row (cs.take off++((v::vs)++cs.drop (off+(v::vs).length))) g)else hp.get k:=
    fun k=>Tr.get_set _ _ _ (by have:=h.hi;omega) k
   have now:∀m o',s'.hp.get m=some o'→(m=b∧o'= .row (cs.take off++((v::vs)++cs.drop (off+(v::vs).length))) g)∨
     (m≠b∧∃o,hp.get m=some o∧o'.grp=o.grp∧(o'.rw↔o.rw)∧(o= .dead→o'= .dead)∧(o'=o∨∃cs1 g1,o= .row cs1 g1∧o'= .row (cs1.take off) g1)):=by
    intro m o' hm
    by_cases e:m=b
    ·subst e
     rw [C.same]at hm
     rw [show (St.mk (hp.set (.row (cs.take off++((v::vs)++cs.drop (off+(v::vs).length))) g) m) nx gr).hp=hp.set (.row (cs.take off++((v::vs)++cs.drop (off+(v::vs).length))) g) m from rfl,gets,if_pos rfl]at hm
     cases hm
     exact .inl ⟨rfl,rfl⟩
    ·refine .inr ⟨e,?_⟩
     rcases C.back m o' hm with h1|⟨_,cs1,g1,h1,rfl⟩
     ·rw [show (St.mk (hp.set (.row (cs.take off++((v::vs)++cs.drop (off+(v::vs).length))) g) b) nx gr).hp=hp.set (.row (cs.take off++((v::vs)++cs.drop (off+(v::vs).length))) g) b from rfl,gets,if_neg e]at h1
      exact⟨o',h1,rfl,Iff.rfl,id,.inl rfl⟩
     ·rw [show (St.mk (hp.set (.row (cs.take off++((v::vs)++cs.drop (off+(v::vs).length))) g) b) nx gr).hp=hp.set (.row (cs.take off++((v::vs)++cs.drop (off+(v::vs).length))) g) b from rfl,gets,if_neg e]at h1
      exact⟨_,h1,rfl,Iff.rfl,(fun e=>by cases e),.inr ⟨cs1,g1,rfl,rfl⟩⟩
   have was:∀m o',s'.hp.get m=some o'→∃o,hp.get m=some o∧o'.grp=o.grp∧(o'.rw↔o.rw)∧(o= .dead→o'= .dead):=by
    intro m o' hm
    rcases now m o' hm with⟨rfl,rfl⟩|⟨_,o,h1,h2,h3,h4,_⟩
    ·exact⟨_,hb,rfl,Iff.rfl,fun e=>by cases e⟩
    ·exact⟨o,h1,h2,h3,h4⟩
   refine⟨.refl E,⟨?_,h.lo,h.hi,h.base,by rw [hhs];exact h.flr,fun m o' hm=>?_,fun m o' hm hr=>?_,fun m o m' o' hm hm' hr hd hne he=>?_,fun m o hm hg=>?_,fun m o hm hd hr=>?_⟩,rfl,rfl,rfl,by rw [hhs];exact Nat.le_refl _,fun B hB hn=>?_,fun m o' hm hr=>?_⟩
   ·rw [C.nx];exact h.nx
   ·rcases now m o' hm with⟨rfl,rfl⟩|⟨hmb,o,ho,hgr,_,_,hoo⟩
    ·exact⟨hbn,_,ct,fr,by rw [hh,if_pos rfl],by rw [lay_size];exact hsz,by rw [lay_size];exact hth,hcr.laid hv hl hbd⟩
    ·obtain⟨h1,h2⟩:=h.ob m o ho
     refine⟨h1,?_⟩
     by_cases e:E.ι m=E.ι b
     ·by_cases hdd:o= .dead
      ·subst hdd
       rcases hoo with rfl|⟨_,_,e3,_⟩
       ·trivial
       ·cases e3
      obtain⟨hg0,hg1,hsh⟩:=h.dis b _ m o hb ho trivial hdd (fun e=>hmb e.symm) e.symm
      obtain⟨ms',hms1,hms2⟩:=h.grp m o ho (by rw [hg1];exact hg0)
      have hgg:gr.get g=some ms':=by rw [hg1]at hms1;exact hms1
      have:ms=ms':=Option.some.inj ((hms hg0).symm.trans hgg)
      subst this
      cases o with
      |row cs1 g1=>
       have hrow:∃cs2,o'= .row cs2 g1∧(∀(i:Nat) (u:Value),cs2[i]? =some u→cs1[i]? =some u):=by
        rcases hoo with rfl|⟨cs3,g3,e3,rfl⟩
        ·exact⟨cs1,rfl,fun _ _ h=>h⟩
        ·cases e3
         refine⟨_,rfl,fun i u hu=>?_⟩
         rw [List.getElem?_take]at hu
         split at hu
         ·exact hu
         ·cases hu
       obtain⟨cs2,rfl,hpre⟩:=hrow
       have hcut:=C.cut m hms2 hmb cs2 g1 hm
       obtain⟨c1,t1,fr1,k1,k2,k3,k4⟩:=h2
       rw [e,hc]at k1
       cases k1
       refine⟨_,ct,fr,by rw [hh,e,if_pos rfl],by rw [lay_size];exact k2,by rw [lay_size];exact k3,?_⟩
       have k5:CellsR E (E.sh m) cs2 c:=fun i u hu=>k4 i u (hpre i u hu)
       have:=CellsR.ahead (vs:=v'::vs') (o:=off) k5 (by rw [hsh];exact hbd) hcut
       rw [hsh]at this ⊢
       exact this
      |ro cs1=>exact absurd hg1.symm hg0
      |map es1 c1=>exact absurd hg1.symm hg0
      |loop l1 n1 t1=>exact absurd hg1.symm hg0
      |dfr c1=>exact absurd hg1.symm hg0
      |iter=>exact absurd hg1.symm hg0
      |dead=>exact absurd rfl hdd
     ·have hkeep:=h2.keep (.refl E) h1 (show (World.row w (E.ι b) (.cells (lay c (E.sh b+off) (v'::vs')) ct fr)).heap[E.ι m]? =w.heap[E.ι m]? by rw [hh,if_neg e])
      rcases hoo with rfl|⟨cs3,g3,rfl,rfl⟩
      ·exact hkeep
      ·obtain⟨c1,t1,fr1,k1,k2,k3,k4⟩:=hkeep
       exact⟨c1,t1,fr1,k1,k2,k3,k4.take off⟩
   ·obtain⟨o,h1,_,h3,_⟩:=was m o' hm
    exact h.flo m o h1 (h3.1 hr)
   ·obtain⟨q,h1,h2,h3,_⟩:=was m o hm
    obtain⟨q',h1',h2',h3',h4'⟩:=was m' o' hm'
    rw [h2,h2']
    exact h.dis m q m' q' h1 h1' (h3.1 hr) (fun e=>hd (h4' e)) hne he
   ·obtain⟨q,h1,h2,h3,_⟩:=was m o hm
    rw [h2]at hg ⊢
    rw [C.gr]
    exact h.grp m q h1 hg
   ·obtain⟨q,h1,h2,h3,h4⟩:=was m o hm
    exact h.ro m q h1 (fun e=>hd (h4 e)) (fun e=>hr (h3.2 e))
   ·rw [hh,if_neg (fun e=>hn b _ hb trivial e.symm)]
   ·obtain⟨q,h1,h2,h3,_⟩:=was m o' hm
    exact .inr ⟨m,q,h1,h3.1 hr,rfl⟩
  unfold wrote at hs1
  split at hs1
  case h_1=>cases hs1
  rename_i s1 he1
  have e1:=setO_some he1
  subst e1
  cases hg:Nat.beq g 0 with
  |true=>
   rw [hg]at hs1
   have hs2:some (St.mk (hp.set (.row (cs.take off++((v::vs)++cs.drop (off+(v::vs).length))) g) b) nx gr)=some s':=hs1
   cases hs2
   exact main [] (Cut.refl _ _ _) (fun hne=>absurd (Nat.eq_of_beq_eq_true hg) hne)
  |false=>
   rw [hg]at hs1
   have hs2:spoil (St.mk (hp.set (.row (cs.take off++((v::vs)++cs.drop (off+(v::vs).length))) g) b) nx gr) g b off=some s':=hs1
   have hg0:g≠0:=fun e=>by subst e;cases hg
   obtain⟨ms,C,hms⟩:=spoil_cut (fun m o hm=>by
    rw [show (St.mk (hp.set (.row (cs.take off++((v::vs)++cs.drop (off+(v::vs).length))) g) b) nx gr).hp=hp.set (.row (cs.take off++((v::vs)++cs.drop (off+(v::vs).length))) g) b from rfl,Tr.get_set _ _ _ (by have:=h.hi;omega)]at hm
    split at hm
    ·rename_i e;subst e;have:=h.hi;omega
    ·exact h.lt m o hm) hs2
   refine main ms C (fun _=>?_)
   rcases hms with⟨h1,_⟩|h1
   ·obtain⟨ms',h2,_⟩:=h.grp b _ hb hg0
    have h3:gr.get g=some ms':=h2
    have h4:gr.get g=none:=h1
    rw [h3]at h4;cases h4
   ·exact h1
end Go.Ev
