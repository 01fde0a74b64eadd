import Derived.Test.YtnbdpcpgckfeeaaGreatDoorF7zz
import Derived.AtR
import Derived.RangeFuncIn
namespace Go.Ev
open Go
structure AcR(E:En)(a:Ac)(act:Act):Prop where
 size:∀n tm df,a= .mk n tm df→act.tmps.size=n∧n≤4611686018427387904
 tmps:∀n tm df,a= .mk n tm df→TmR E tm act.tmps
 defers:∀n tm df,a= .mk n tm df→DfRs E df act.defers
theorem AcR.mk'{E:En}{n:Nat}{tm:Tr Value}{df:List Deferred}{act:Act}(h1:act.tmps.size=n)(h2:n≤4611686018427387904)(h3:TmR E tm act.tmps)(h4:DfRs E df act.defers):AcR E (.mk n tm df) act:=
 ⟨fun _ _ _ e=>by cases e;exact⟨h1,h2⟩,fun _ _ _ e=>by cases e;exact h3,fun _ _ _ e=>by cases e;exact h4⟩
theorem AcR.ext{E E':En}(X:Ext E E'){a:Ac}{act:Act}(h:AcR E a act):AcR E' a act:=
 ⟨h.size,fun n tm df e=>(h.tmps n tm df e).ext X,fun n tm df e=>(h.defers n tm df e).ext X⟩
theorem opd_sound{N:Nat}{E:En}{s:St}{w:World}(h:Rel N E s w){tm:Tr Value}{act:Act}(ht:TmR E tm act.tmps)(x:Operand):VR E (opd tm x) (act.eval x):=by
 cases x with
 |tmp t=>exact ht t
 |const v=>exact constV_VR E v
 |global g=>
  show VR E (globV g) (.pointer (some ⟨g,0,none⟩))
  unfold globV
  cases hg:Nat.blt g 1000 with
  |false=>exact .any _
  |true=>
   have hg':g<1000:=Nat.le_of_ble_eq_true hg
   obtain⟨h1,h2⟩:=h.base g hg'
   have:=VR.ptr (E:=E) g 0 (Nat.lt_of_lt_of_le hg' h.lo)
   rw [h1,h2]at this
   exact this
 |func f=>exact .func f [] [] [] [] .nil .nil
theorem put_sound{E:En}{n:Nat}{tm:Tr Value}{df:List Deferred}{act:Act}{d:Option Tmp}{v v':Value}{a':Ac}(h:AcR E (.mk n tm df) act)(hv:VR E v v')(hp:put d n tm df v=some a'):
  AcR E a' (act.put d v'):=by
 obtain⟨h1,h2⟩:=h.size n tm df rfl
 have h3:=h.tmps n tm df rfl
 have h4:=h.defers n tm df rfl
 cases d with
 |none=>cases hp;exact .mk' h1 h2 h3 h4
 |some d=>
  have hp':fV v (fun v=>setT n tm df d v)=some a':=hp
  rw [fV_eq]at hp'
  unfold setT at hp'
  cases hd:Nat.blt d n with
  |false=>rw [hd]at hp';cases hp'
  |true=>
   rw [hd]at hp'
   have hdn:Nat.lt d n:=Nat.le_of_ble_eq_true hd
   have hdn2:d+1≤n:=hdn
   have ha:a'= .mk n (tm.set v d) df:=by
    simp only[cond]at hp'
    cases e:tm.set v d with
    |nil=>rw [e]at hp';cases hp'
    |node x l r l' r'=>rw [e]at hp';cases hp';rfl
   subst ha
   refine .mk' (by simp[Act.put,h1]) h2 (fun t=>?_) h4
   rw [Tr.get_set _ _ _ (Nat.lt_succ_self _)]
   by_cases e:t=d
   ·subst e
    rw [if_pos rfl]
    have:(act.put (some t) v').tmps.getD t undef=v':=by simp only[Act.put,Array.getD_eq_getD_getElem?,Array.getElem?_setIfInBounds,if_true];rw [if_pos (by rw [h1];exact hdn)];rfl
    rw [this]
    exact hv
   ·rw [if_neg e]
    have:(act.put (some d) v').tmps.getD t undef=act.tmps.getD t undef:=by
     simp only[Act.put,Array.getD_eq_getD_getElem?,Array.getElem?_setIfInBounds]
     rw [if_neg (fun e2=>e e2.symm)]
    rw [this]
    exact h3 t
theorem VR.not_bool{E:En}{v v':Value}(h:VR E v v')(h1:∀b,v≠ .bool b)(h2:∀r,v≠ .chan r):∀b,v'≠ .bool b:=by
 intro b e
 subst e
 cases h
 ·exact h2 _ rfl
 ·exact h2 _ rfl
 ·exact h1 _ rfl
theorem wants_sound{E:En}{A:Array Oper}{tm:Tr Value}{act:Act}(ht:TmR E tm act.tmps){o:Oper}{r:Bool}(hw:wants A.toList tm o.guard=some r):Region.wanted o (yielded A act.tmps)=r:=by
 unfold wants at hw
 unfold Region.wanted
 cases hg:o.guard with
 |none=>rw [hg]at hw;cases hw;rfl
 |some p=>
  obtain⟨j,want⟩:=p
  rw [hg]at hw
  simp only at hw ⊢
  have hda:dstAt A.toList j=(A[j]?).bind (·.dst):=by
   unfold dstAt
   rw [Array.getElem?_toList]
   cases A[j]?<;>rfl
  rw [hda]at hw
  unfold yielded
  cases hd:(A[j]?).bind (·.dst)with
  |none=>rw [hd]at hw;cases hw;rfl
  |some d=>
   rw [hd]at hw
   have hv:=ht d
   simp only[Option.bind_some]
   have hget:act.tmps.getD d undef=(act.tmps[d]?).getD undef:=by simp[Array.getD_eq_getD_getElem?]
   rw [hget]at hv
   have hw':(match orUndef (tm.get d)with
    | .bool b=>some (eqB want b)
    | .chan _=>none
    |_=>some false)=some r:=hw
   split at hw'
   ·rename_i b hb
    rw [hb]at hv
    cases hw'
    have:=hv.bool_inv
    cases hq:act.tmps[d]? with
    |none=>rw [hq]at this;cases this
    |some u=>
     rw [hq]at this
     simp only[Option.getD_some]at this
     subst this
     cases b<;>cases want<;>rfl
   ·cases hw'
   ·rename_i h1 h2
    cases hw'
    have nb:=hv.not_bool (fun b e=>h1 b e) (fun r e=>h2 r e)
    cases hq:act.tmps[d]? with
    |none=>cases want<;>rfl
    |some u=>
     rw [hq]at nb
     simp only[Option.getD_some]at nb
     cases u<;>first|(exact absurd rfl (nb _))|(cases want<;>rfl)
def Calm(rd:Option Nat)(b:Frame)(cs:List Frame):Prop:=
 (rd=none→b.roundOf=none)∧b.kind≠ .early∧(b.kind= .normal∨(rd=none∧b.kind= .deferred∧∃c cs',cs=c::cs'∧c.mode= .returning))
structure RecOk(N:Nat)(P:Program)(rec:Rec):Prop where
 call:∀{f:FuncId} {args args':List Value} {s s':St} {v:Value} {E:En} {w:World},Rel N E s w→VRs E args args'→rec (.call f args) s= .ok v s'→
  ∀(cs:List Frame),
  ∃E' w' v' fr,Stp N E s w E' s' w'∧VR E' v v'∧Steps P (lone (Frame.enter P f ⟨args'⟩ .normal) cs w) (lone fr cs w')∧fr.fn=f∧fr.kind= .normal∧fr.mode= .returning∧fr.defers=[]∧
   ∃fn,P.funcs[f]? =some fn∧(results fn fr.tmps).run P w'= .ok v' w'
 late:∀{f:FuncId} {args args':List Value} {s s':St} {v:Value} {E:En} {w:World},Rel N E s w→VRs E args args'→rec (.late f args) s= .ok v s'→
  ∀(c:Frame) (cs:List Frame),c.mode= .returning→
  ∃E' w' v' fr,Stp N E s w E' s' w'∧VR E' v v'∧Steps P (lone (Frame.enter P f ⟨args'⟩ .deferred) (c::cs) w) (lone fr (c::cs) w')∧fr.fn=f∧fr.kind= .deferred∧fr.mode= .returning∧fr.defers=[]∧
   ∃fn,P.funcs[f]? =some fn∧(results fn fr.tmps).run P w'= .ok v' w'
 round:∀{l:Nat} {args args':List Value} {s s':St} {v:Value} {E:En} {w:World},Rel N E s w→VRs E args args'→l<E.nx→rec (.round l args) s= .ok v s'→
  ∃f tmps assign body,(Instr.yield (E.ι l) ⟨args'⟩).run P w= .ok (.round (E.ι l) f tmps assign body) w∧
  ∀(c:Frame) (cs:List Frame),∃E' w' v',Stp N E s w E' s' w'∧VR E' v v'∧Steps P (lone (Frame.round (E.ι l) f tmps assign body .normal) (c::cs) w) (lone (c.finish v') cs w')
section
variable{P:Program}{N:Nat}
theorem step_left{fr c:Frame}{cs:List Frame}{w:World}{v:Value}{f:FuncId}{fn:Func}(h1:fr.fn=f)(h2:fr.kind= .normal)(h3:fr.mode= .returning)(h4:fr.defers=[])(h5:P.funcs[f]? =some fn)(h6:(results fn fr.tmps).run P w= .ok v w):
  step P (lone fr (c::cs) w)= .next (lone (c.finish v) cs w):=
 step_leave_returned ⟨h3,h4,h2,fn,by rw [h1];exact h5,h6⟩
theorem exec_any{E:En}{s s1:St}{w:World}(h:Rel N E s w){tm:Tr Value}{ρ:Operand→Value}(o:Oper)(hρ:Seen E tm ρ o.op){x:Nx}(hx:exec P o.op tm s= .ok x s1):ActR N P E s w (execOp ρ o) x s1:=by
 cases hk:kindOf P o.op with
 |none=>
  rcases exec_pure o hρ hk with hno|⟨v,v',h1,h2,h3⟩
  ·rw [show exec P o.op tm s= .no from hno s]at hx;cases hx
  ·rw [show exec P o.op tm s= .ok (.val v) s from h1 s]at hx;cases hx;exact .val v v' E s w (.refl h) h2 (h3 w)
 |reads=>
  obtain⟨rfl,v,v',rfl,h2,h3⟩:=exec_reads h.obs o hρ hk hx
  exact .val v v' E _ w (.refl h) h2 h3
 |makes=>
  obtain⟨ob,v,rfl,h2,rfl,h4⟩:=exec_makes o hρ hk hx
  obtain⟨w',o',v',sz,k1,k2,k3,k4,k5,M⟩:=h4 w
  refine .val _ _ (E.push w.heap.size 0 sz) _ w' (stp_new h h2 M.grp M.rw k2 k3 k4 k5 (M.ob E _ w' (.refl E) (by rw [k2];simp))) ?_ k1
  rw [h.nx]
  exact M.vr E _ (.refl E)
 |acts=>exact exec_acts h o hρ hk hx
theorem roA_ok{a:Option Ac}{s s':St}{a':Ac}(h:roA a s= .ok a' s'):a=some a'∧s'=s:=by
 cases a with
 |none=>cases h
 |some a=>cases h;exact⟨rfl,rfl⟩
theorem oper_sound{rec:Rec}(R:RecOk N P rec){E:En}{s s':St}{w:World}(h:Rel N E s w){A:Array Oper}{i:Nat}{o:Oper}(hi:A[i]? =some o){rd:Option Nat}{a a':Ac}{act:Act}(ha:AcR E a act)
  (hx:oper P rec rd A.toList o a s= .ok a' s') {b:Frame} {k:List Item} {cs:List Frame} {rest:List Nat} (hb:Calm rd b cs):
  ∃E' act' w',Stp N E s w E' s' w'∧AcR E' a' act'∧Steps P (lone (b.atR act (.inRegion A (i::rest)::k)) cs w) (lone (b.atR act' (.inRegion A rest::k)) cs w'):=by
 obtain⟨n,tm,df⟩:=a
 have ht:=ha.tmps n tm df rfl
 obtain⟨hro,hke,hkind⟩:=hb
 have hfin:∀v,(b.atR act (.inRegion A (i::rest)::k)).finish v=b.atR (act.put o.dst v) (.inRegion A rest::k):=by
  intro v;rw [Frame.finish_atR,hi];rfl
 have hx':(match wants A.toList tm o.guard with
  |some true=>after rec rd o.dst n tm df (exec P o.op tm s)
  |some false=>roA (put o.dst n tm df undef) s
  |none=>.no)= .ok a' s':=by
  obtain⟨d,op,t1,t2,t3,g⟩:=o
  exact hx
 cases hw:wants A.toList tm o.guard with
 |none=>rw [hw]at hx';cases hx'
 |some r=>
 rw [hw]at hx'
 have hwant:=wants_sound ht hw
 cases r with
 |false=>
  simp only at hx'
  cases hp:put o.dst n tm df undef with
  |none=>rw [hp]at hx';cases hx'
  |some a1=>
   rw [hp]at hx'
   cases hx'
   refine⟨E,act.put o.dst undef,w,.refl h,put_sound ha .undef hp,.one ?_⟩
   have hs:=stepR_op_skip (P:=P) (b:=b) (a:=act) (k:=k) (cs:=cs) (w:=w) (ops:=A) (i:=i) (rest:=rest) (by rw [hi];simp[hwant])
   rw [hi]at hs
   exact hs
 |true=>
  simp only at hx'
  have hseen:Seen E tm act.eval o.op:=fun x _=>opd_sound h ht x
  cases he:exec P o.op tm s with
  |no=>rw [he]at hx';cases hx'
  |ok x s1=>
  rw [he]at hx'
  have hg:=stepGR_op (P:=P) (b:=b) (k:=k) (cs:=cs) (w:=w) (rest:=rest) hi hwant
  have hsem:o.semAt b.roundOf act.eval=execOp act.eval o:=by
   cases hrd:rd with
   |none=>rw [hro hrd];rfl
   |some l=>
    refine Oper.semAt_eq _ _ _ fun c hc=>?_
    rw [hc]at he
    have he':xDefer c tm s= .ok x s1:=he
    have hxd:∃d,x= .defer d:=by
     unfold xDefer at he'
     split at he'
     ·split at he'
      ·cases he';exact⟨_,rfl⟩
      ·cases he'
     ·cases he'
    obtain⟨d,rfl⟩:=hxd
    rw [hrd]at hx'
    cases hx'
  rw [hsem]at hg
  have A1:=exec_any h o hseen he
  cases A1 with
  |val v v' E' _ w' q1 q2 q3=>
   obtain⟨hp,rfl⟩:=roA_ok (show roA (put o.dst n tm df v) s1= .ok a' s' from hx')
   refine⟨E',act.put o.dst v',w',q1,put_sound (ha.ext q1.ext) q2 hp,.one (step_lone_go ?_)⟩
   rw [hg,←hfin];simp[stepG.apply,q3]
  |skip E' _ w' q1 q3=>
   obtain⟨hp,rfl⟩:=roA_ok (show roA (put o.dst n tm df undef) s1= .ok a' s' from hx')
   refine⟨E',act.put o.dst undef,w',q1,put_sound (ha.ext q1.ext) .undef hp,.one (step_lone_go ?_)⟩
   rw [hg,←hfin];simp[stepG.apply,q3]
  |enter f args args' q1 q3=>
   have hr:roV o.dst n tm df (rec (.call f args) s)= .ok a' s':=hx'
   cases hc:rec (.call f args) s with
   |no=>rw [hc]at hr;cases hr
   |ok v s2=>
    rw [hc]at hr
    obtain⟨hp,rfl⟩:=roA_ok (show roA (put o.dst n tm df v) s2= .ok a' s' from hr)
    obtain⟨E',w',v',fr,z1,z2,z3,z4,z5,z6,z7,fn,z8,z9⟩:=R.call h q1 hc (b.atR act (.inRegion A (i::rest)::k)::cs)
    refine⟨E',act.put o.dst v',w',z1,put_sound (ha.ext z1.ext) z2 hp,?_⟩
    have s1:step P (lone (b.atR act (.inRegion A (i::rest)::k)) cs w)= .next (lone (Frame.enter P f ⟨args'⟩ .normal) (b.atR act (.inRegion A (i::rest)::k)::cs) w):=step_lone_go (by rw [hg];simp[stepG.apply,q3,Frame.atR])
    have s2':=step_left (c:=b.atR act (.inRegion A (i::rest)::k)) (cs:=cs) z4 z5 z6 z7 z8 z9
    rw [hfin]at s2'
    exact .head s1 (z3.trans (.one s2'))
  |round l args args' q0 q1 q3=>
   have hr:roV o.dst n tm df (rec (.round l args) s)= .ok a' s':=hx'
   cases hc:rec (.round l args) s with
   |no=>rw [hc]at hr;cases hr
   |ok v s2=>
    rw [hc]at hr
    obtain⟨hp,rfl⟩:=roA_ok (show roA (put o.dst n tm df v) s2= .ok a' s' from hr)
    obtain⟨f,tmps,asg,body,y1,y2⟩:=R.round h q1 q0 hc
    obtain⟨E',w',v',z1,z2,z3⟩:=y2 (b.atR act (.inRegion A (i::rest)::k)) cs
    rw [hfin]at z3
    refine⟨E',act.put o.dst v',w',z1,put_sound (ha.ext z1.ext) z2 hp,.head ?_ z3⟩
    exact step_lone_go (by rw [hg];simp[stepG.apply,q3,y1])
  |defer d d' q1 q3=>
   cases hrd:rd with
   |some l=>rw [hrd]at hx';cases hx'
   |none=>
    rw [hrd]at hx'
    obtain⟨hp,rfl⟩:=roA_ok (show roA (put o.dst n tm (d::df) undef) s= .ok a' s' from hx')
    have ha2:AcR E (.mk n tm (d::df)) {act with defers:=d'::act.defers}:=.mk' (ha.size n tm df rfl).1 (ha.size n tm df rfl).2 ht (.cons _ _ _ _ q1 (ha.defers n tm df rfl))
    refine⟨E,({act with defers:=d'::act.defers}:Act).put o.dst undef,w,.refl h,put_sound ha2 .undef hp,.one (step_lone_go ?_)⟩
    rw [hg]
    have hf2:(({b.atR act (.inRegion A (i::rest)::k)with defers:=d'::act.defers}:Frame)).finish undef=b.atR (({act with defers:=d'::act.defers}:Act).put o.dst undef) (.inRegion A rest::k):=by
     have:=Frame.finish_atR b {act with defers:=d'::act.defers} A i rest k undef
     rw [hi]at this
     exact this
    rw [←hf2]
    simp[stepG.apply,q3,Frame.atR]
  |recover q3=>
   cases hrd:rd with
   |some l=>rw [hrd]at hx';cases hx'
   |none=>
    rw [hrd]at hx'
    obtain⟨hp,rfl⟩:=roA_ok (show roA (put o.dst n tm df .nilIface) s= .ok a' s' from hx')
    refine⟨E,act.put o.dst .nilIface,w,.refl h,put_sound ha .inil hp,.one (step_lone_go ?_)⟩
    have hno:tryRecover (b.atR act (.inRegion A (i::rest)::k)) cs=none:=by
     rcases hkind with e|⟨_,e,c,cs',rfl,hm⟩
     ·simp[tryRecover,Frame.atR,e]
     ·simp[tryRecover,Frame.atR,e,hm]
    have hrn:(b.atR act (.inRegion A (i::rest)::k)).roundOf=none:=hro hrd
    rw [hg,←hfin]
    simp[stepG.apply,q3,hno,hrn]
theorem opers_sound{rec:Rec}(R:RecOk N P rec){A:Array Oper}{rd:Option Nat}:∀(os:List Oper) (j:Nat) {E:En} {s s':St} {w:World} {a a':Ac} {act:Act},(∀m,os[m]? =A[j+m]?)→Rel N E s w→AcR E a act→opers P rec rd A.toList os a s= .ok a' s'→
  ∀{b:Frame} {k:List Item} {cs:List Frame},Calm rd b cs→∃E' act' w',Stp N E s w E' s' w'∧AcR E' a' act'∧Steps P (lone (b.atR act (.inRegion A (List.range' j os.length)::k)) cs w) (lone (b.atR act' (.inRegion A []::k)) cs w')
 |[],j,E,s,s',w,a,a',act,_,h,ha,hx,b,k,cs,hb=>by
  cases hx
  exact⟨E,act,w,.refl h,ha,.refl _ _⟩
 |o::os,j,E,s,s',w,a,a',act,hj,h,ha,hx,b,k,cs,hb=>by
  have hx':thenO (oper P rec rd A.toList o a s) (opers P rec rd A.toList os)= .ok a' s':=hx
  cases h1:oper P rec rd A.toList o a s with
  |no=>rw [h1]at hx';cases hx'
  |ok a1 s1=>
   rw [h1]at hx'
   have hi:A[j]? =some o:=by simpa using(hj 0).symm
   obtain⟨E1,act1,w1,q1,q2,q3⟩:=oper_sound R h hi ha h1 (k:=k) (rest:=List.range' (j+1) os.length) hb
   obtain⟨E2,act2,w2,z1,z2,z3⟩:=opers_sound R os (j+1) (fun m=>by have:=hj (m+1);simpa[Nat.add_assoc,Nat.add_comm 1 m]using this) q1.rel q2 hx' (b:=b) (k:=k) (cs:=cs) hb
   exact⟨E2,act2,w2,q1.trans z1,z2,q3.trans z3⟩
end
end Go.Ev
namespace Go.Ev
open Go
def Left(P:Program)(m:Machine)(b:Frame)(k:List Item)(cs:List Frame)(act':Act)(w':World):Ex→Prop
 | .normal=>Steps P m (lone (b.atR act' k) cs w')
 | .exit id=> ∃k1,exitTo id k1=exitTo id k∧Steps P m (lone (b.atR act' (.code (.exit id)::k1)) cs w')
 | .ret=> ∃k1,Steps P m (lone (b.atR act' (.code .ret::k1)) cs w')
 | .goto _=>False
theorem Left.of_steps{P:Program}{m m1:Machine}{b:Frame}{k:List Item}{cs:List Frame}{act':Act}{w':World}{e:Ex}(h:Steps P m m1)(h':Left P m1 b k cs act' w' e):Left P m b k cs act' w' e:=by
 cases e with
 |normal=>exact h.trans h'
 |exit id=>obtain⟨k1,h1,h2⟩:=h';exact⟨k1,h1,h.trans h2⟩
 |ret=>obtain⟨k1,h2⟩:=h';exact⟨k1,h.trans h2⟩
 |goto l=>exact h'
theorem Left.pass{P:Program}{m:Machine}{b:Frame}{x:Item}{k:List Item}{cs:List Frame}{act':Act}{w':World}{e:Ex}(hx:∀id,exitTo id (x::k)=exitTo id k)(hn:e≠ .normal)(h:Left P m b (x::k) cs act' w' e):Left P m b k cs act' w' e:=by
 cases e with
 |normal=>exact absurd rfl hn
 |exit id=>obtain⟨k1,h1,h2⟩:=h;exact⟨k1,h1.trans (hx id),h2⟩
 |ret=>exact h
 |goto l=>exact h
section
variable{P:Program}{N:Nat}
def DrawOk(N:Nat)(P:Program)(rec:Rec):Prop:=
 ∀(id:Nat) (A:Array Oper) {rd:Option Nat} {E:En} {s s':St} {w:World} {a a':Ac} {act:Act},Rel N E s w→AcR E a act→planned P rec rd A.toList (planOf P A.toList) a s= .ok a' s'→
  ∀{b:Frame} {k:List Item} {cs:List Frame},Calm rd b cs→∃E' act' w',Stp N E s w E' s' w'∧AcR E' a' act'∧Steps P (lone (b.atR act (.code (.region id A true)::k)) cs w) (lone (b.atR act' k) cs w')
def RoundAt(E:En)(rd:Option Nat)(b:Frame):Prop:= ∀l,rd=some l→l<E.nx∧b.roundOf=some (E.ι l)
theorem RoundAt.ext{E E':En}(X:Ext E E'){rd:Option Nat}{b:Frame}(h:RoundAt E rd b):RoundAt E' rd b:=
 fun l e=>⟨Nat.lt_of_lt_of_le (h l e).1 X.nx,by rw [X.ι l (h l e).1];exact(h l e).2⟩
def CodeOk(N:Nat)(P:Program)(fn:FuncId)(rd:Option Nat)(c:Code)(f:Ac→St→Rc):Prop:=
 ∀{E:En} {s s':St} {w:World} {a a':Ac} {act:Act} {e:Ex},Rel N E s w→AcR E a act→f a s= .ok e a' s'→
  ∀{b:Frame} {k:List Item} {cs:List Frame},Calm rd b cs→b.fn=fn→RoundAt E rd b→∃E' act' w',Stp N E s w E' s' w'∧AcR E' a' act'∧Left P (lone (b.atR act (.code c::k)) cs w) b k cs act' w' e
theorem thenC_ok{r:Rc}{f:Ac→St→Rc}{e:Ex}{a':Ac}{s':St}(h:thenC r f= .ok e a' s'):(∃a1 s1,r= .ok .normal a1 s1∧f a1 s1= .ok e a' s')∨(r= .ok e a' s'∧e≠ .normal):=by
 cases r with
 |no=>cases h
 |ok e1 a1 s1=>
  cases e1 with
  |normal=>exact .inl ⟨a1,s1,rfl,h⟩
  |exit i=>cases h;exact .inr ⟨rfl,fun e=>by cases e⟩
  |goto i=>cases h;exact .inr ⟨rfl,fun e=>by cases e⟩
  |ret=>cases h;exact .inr ⟨rfl,fun e=>by cases e⟩
theorem code_seq{fn:FuncId}{rd:Option Nat}{x y:Code}{f g:Ac→St→Rc}(hx:CodeOk N P fn rd x f)(hy:CodeOk N P fn rd y g):CodeOk N P fn rd (.seq x y) (fun a s=>thenC (f a s) g):=by
 intro E s s' w a a' act e h ha hh b k cs hb hf hra
 rcases thenC_ok hh with⟨a1,s1,h1,h2⟩|⟨h1,hn⟩
 ·obtain⟨E1,act1,w1,q1,q2,q3⟩:=hx h ha h1 (k:=.code y::k) hb hf hra
  obtain⟨E2,act2,w2,z1,z2,z3⟩:=hy q1.rel q2 h2 (k:=k) hb hf (hra.ext q1.ext)
  exact⟨E2,act2,w2,q1.trans z1,z2,.of_steps (.head stepR_seq q3) z3⟩
 ·obtain⟨E1,act1,w1,q1,q2,q3⟩:=hx h ha h1 (k:=.code y::k) hb hf hra
  exact⟨E1,act1,w1,q1,q2,.of_steps (.one stepR_seq) (q3.pass (fun id=>by simp[exitTo]) hn)⟩
theorem code_cond{fn:FuncId}{rd:Option Nat}{c:Operand}{x y:Code}{f g:Ac→St→Rc}(hx:CodeOk N P fn rd x f)(hy:CodeOk N P fn rd y g):CodeOk N P fn rd (.cond c x y) (fun a s=>condC c f g a s):=by
 intro E s s' w a a' act e h ha hh b k cs hb hf hra
 obtain⟨n,tm,df⟩:=a
 have hv:=opd_sound h (ha.tmps n tm df rfl) c
 unfold condC at hh
 simp only at hh
 split at hh
 ·rename_i hc
  rw [hc]at hv
  obtain⟨E1,act1,w1,q1,q2,q3⟩:=hx h ha hh (k:=k) hb hf hra
  exact⟨E1,act1,w1,q1,q2,.of_steps (.one (stepR_cond (t:=true) hv.bool_inv)) q3⟩
 ·rename_i hc
  rw [hc]at hv
  obtain⟨E1,act1,w1,q1,q2,q3⟩:=hy h ha hh (k:=k) hb hf hra
  exact⟨E1,act1,w1,q1,q2,.of_steps (.one (stepR_cond (t:=false) hv.bool_inv)) q3⟩
 ·cases hh
theorem code_block{fn:FuncId}{rd:Option Nat}{id:Nat}{x:Code}{f:Ac→St→Rc}(hx:CodeOk N P fn rd x f):CodeOk N P fn rd (.block id x) (fun a s=>blockC id (f a s)):=by
 intro E s s' w a a' act e h ha hh b k cs hb hf hra
 replace hh:blockC id (f a s)= .ok e a' s':=hh
 cases hr:f a s with
 |no=>rw [hr]at hh;cases hh
 |ok e1 a1 s1=>
  rw [hr]at hh
  obtain⟨E1,act1,w1,q1,q2,q3⟩:=hx h ha hr (k:=.inBlock id::k) hb hf hra
  cases e1 with
  |normal=>cases hh;exact⟨E1,act1,w1,q1,q2,.head stepR_block (q3.trans (.one stepR_inBlock))⟩
  |exit i=>
   obtain⟨k1,h1,h2⟩:=q3
   have hh':cond (Nat.beq i id) (Rc.ok .normal a1 s1) (.ok (.exit i) a1 s1)= .ok e a' s':=hh
   cases hi:Nat.beq i id with
   |true=>
    rw [hi]at hh'
    cases hh'
    have e1:=Nat.eq_of_beq_eq_true hi
    subst e1
    exact⟨E1,act1,w1,q1,q2,.head stepR_block (h2.trans (.one (stepR_exit (by rw [h1];simp[exitTo]))))⟩
   |false=>
    rw [hi]at hh'
    cases hh'
    have hne:(id==i)=false:=by
     cases hq:(id==i)with
     |false=>rfl
     |true=>
      have:id=i:=by simpa using hq
      subst this
      rw [Nat.beq_refl]at hi;cases hi
    exact⟨E1,act1,w1,q1,q2,k1,by rw [h1];simp[exitTo,hne],.head stepR_block h2⟩
  |ret=>cases hh;obtain⟨k1,h2⟩:=q3;exact⟨E1,act1,w1,q1,q2,k1,.head stepR_block h2⟩
  |goto l=>exact q3.elim
theorem code_loop{fn:FuncId}{rd:Option Nat}{x:Code}{f:Ac→St→Rc}(hx:CodeOk N P fn rd x f)(m:Nat):CodeOk N P fn rd (.loop x) (fun a s=>iter f m a s):=by
 intro E s s' w a a' act e h ha hh b k cs hb hf hra
 have key:∀(m:Nat) {E:En} {s s':St} {w:World} {a a':Ac} {act:Act} {e:Ex},Rel N E s w→AcR E a act→RoundAt E rd b→iter f m a s= .ok e a' s'→
   ∃E' act' w',Stp N E s w E' s' w'∧AcR E' a' act'∧Left P (lone (b.atR act (.code x:: .inLoop x::k)) cs w) b k cs act' w' e:=by
  intro m
  induction m with
  |zero=>intro E s s' w a a' act e _ _ _ hh;cases hh
  |succ m ih=>
   intro E s s' w a a' act e h ha hra hh
   rcases thenC_ok (show thenC (f a s) (iter f m)= .ok e a' s' from hh)with⟨a1,s1,h1,h2⟩|⟨h1,hn⟩
   ·obtain⟨E1,act1,w1,q1,q2,q3⟩:=hx h ha h1 (k:=.inLoop x::k) hb hf hra
    obtain⟨E2,act2,w2,z1,z2,z3⟩:=ih q1.rel q2 (hra.ext q1.ext) h2
    exact⟨E2,act2,w2,q1.trans z1,z2,.of_steps (Steps.trans q3 (.one stepR_inLoop)) z3⟩
   ·obtain⟨E1,act1,w1,q1,q2,q3⟩:=hx h ha h1 (k:=.inLoop x::k) hb hf hra
    exact⟨E1,act1,w1,q1,q2,q3.pass (fun id=>by simp[exitTo]) hn⟩
 obtain⟨E1,act1,w1,q1,q2,q3⟩:=key m h ha hra hh
 exact⟨E1,act1,w1,q1,q2,.of_steps (.one stepR_loop) q3⟩
theorem stepR_scope{b:Frame}{a:Act}{k:List Item}{cs:List Frame}{w:World}{c:Code}:step P (lone (b.atR a (.code (.scope c)::k)) cs w)= .next (lone (b.atR a (.code c:: .inScope c::k)) cs w):=
 step_lone_go (by simp[stepG,stepG.exec,Frame.atR])
theorem stepR_inScope{b:Frame}{a:Act}{k:List Item}{cs:List Frame}{w:World}{c:Code}:step P (lone (b.atR a (.inScope c::k)) cs w)= .next (lone (b.atR a k) cs w):=
 step_lone_go (by simp[stepG,stepG.exec,Frame.atR])
theorem code_scope{fn:FuncId}{rd:Option Nat}{x:Code}{f:Ac→St→Rc}(hx:CodeOk N P fn rd x f):CodeOk N P fn rd (.scope x) (fun a s=>noGoto (f a s)):=by
 intro E s s' w a a' act e h ha hh b k cs hb hf hra
 replace hh:noGoto (f a s)= .ok e a' s':=hh
 cases hr:f a s with
 |no=>rw [hr]at hh;cases hh
 |ok e1 a1 s1=>
  rw [hr]at hh
  obtain⟨E1,act1,w1,q1,q2,q3⟩:=hx h ha hr (k:=.inScope x::k) hb hf hra
  have hx2:∀id,exitTo id (.inScope x::k)=exitTo id k:=fun id=>by simp[exitTo]
  cases e1 with
  |normal=>cases hh;exact⟨E1,act1,w1,q1,q2,.head stepR_scope (q3.trans (.one stepR_inScope))⟩
  |exit i=>cases hh;exact⟨E1,act1,w1,q1,q2,.of_steps (.one stepR_scope) (q3.pass hx2 (fun e=>by cases e))⟩
  |ret=>cases hh;exact⟨E1,act1,w1,q1,q2,.of_steps (.one stepR_scope) (q3.pass hx2 (fun e=>by cases e))⟩
  |goto l=>exact q3.elim
theorem region_ok{rec:Rec}(R:RecOk N P rec)(D:DrawOk N P rec){fn:FuncId}{rd:Option Nat}(id:Nat)(A:Array Oper)(dr:Bool):CodeOk N P fn rd (.region id A dr) (fun a s=>region P rec rd A.toList dr a s):=by
 intro E s s' w a a' act e h ha hh b k cs hb hf hra
 have asn:∀{r:Ro},asN r= .ok e a' s'→e= .normal∧r= .ok a' s':=by
  intro r hr
  cases r with
  |no=>cases hr
  |ok a1 s1=>cases hr;exact⟨rfl,rfl⟩
 cases dr with
 |true=>
  obtain⟨rfl,hr⟩:=asn (show asN (planned P rec rd A.toList (planOf P A.toList) a s)= .ok e a' s' from hh)
  obtain⟨E1,act1,w1,q1,q2,q3⟩:=D id A h ha hr (k:=k) hb
  exact⟨E1,act1,w1,q1,q2,q3⟩
 |false=>
  obtain⟨rfl,hr⟩:=asn (show asN (opers P rec rd A.toList A.toList a s)= .ok e a' s' from hh)
  obtain⟨E1,act1,w1,q1,q2,q3⟩:=opers_sound R A.toList 0 (fun m=>by rw [Array.getElem?_toList,Nat.zero_add]) h ha hr (k:=k) hb
  refine⟨E1,act1,w1,q1,q2,.head stepR_region ?_⟩
  rw [Array.length_toList,←List.range_eq_range']at q3
  exact q3.trans (.one stepR_region_end)
end
end Go.Ev
