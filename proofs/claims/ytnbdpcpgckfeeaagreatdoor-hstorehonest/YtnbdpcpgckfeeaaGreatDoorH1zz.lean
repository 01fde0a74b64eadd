import Derived.Test.YtnbdpcpgckfeeaaGreatDoorF9zz
import Derived.Orders
namespace Go.Ev
open Go
section
variable{P:Program}{N:Nat}
theorem oper_core{rec:Rec}(R:RecOk N P rec){E:En}{s s':St}{w:World}(h:Rel N E s w){A:Array Oper}{i:Nat}{o:Oper}(hi:A[i]? =some o){rd:Option Nat}{n:Nat}{tm:Tr Value}{df:List Deferred}{a':Ac}{act:Act}
  (hseen:Seen E tm act.eval o.op) (hwan:∀r,wants A.toList tm o.guard=some r→Region.wanted o (yielded A act.tmps)=r) (hdf:DfRs E df act.defers)
  (hx:oper P rec rd A.toList o (.mk n tm df) s= .ok a' s') {b:Frame} {k:List Item} {cs:List Frame} {rest:List Nat} (hb:Calm rd b cs):
  ∃E' v v' df' dc w',Stp N E s w E' s' w'∧VR E' v v'∧DfRs E' df' dc∧put o.dst n tm df' v=some a'∧
   Steps P (lone (b.atR act (.inRegion A (i::rest)::k)) cs w) (lone (b.atR (({act with defers:=dc}:Act).put o.dst v') (.inRegion A rest::k)) cs w'):=by
 obtain⟨hro,hke,hkind⟩:=hb
 have hfin:∀v,(b.atR act (.inRegion A (i::rest)::k)).finish v=b.atR (act.put o.dst v) (.inRegion A rest::k):=by
  intro v;rw [Frame.finish_atR,hi];rfl
 have hx':(match wants A.toList tm o.guard with
  |some true=>after rec rd o.dst n tm df (exec P o.op tm s)
  |some false=>roA (put o.dst n tm df undef) s
  |none=>.no)= .ok a' s':=by
  obtain⟨d,op,t1,t2,t3,g⟩:=o
  exact hx
 cases hw:wants A.toList tm o.guard with
 |none=>rw [hw]at hx';cases hx'
 |some r=>
 rw [hw]at hx'
 have hwant:=hwan _ hw
 cases r with
 |false=>
  simp only at hx'
  cases hp:put o.dst n tm df undef with
  |none=>rw [hp]at hx';cases hx'
  |some a1=>
   rw [hp]at hx'
   cases hx'
   refine⟨E,undef,undef,df,act.defers,w,.refl h,.undef,hdf,hp,.one ?_⟩
   have hs:=stepR_op_skip (P:=P) (b:=b) (a:=act) (k:=k) (cs:=cs) (w:=w) (ops:=A) (i:=i) (rest:=rest) (by rw [hi];simp[hwant])
   rw [hi]at hs
   exact hs
 |true=>
  simp only at hx'
  cases he:exec P o.op tm s with
  |no=>rw [he]at hx';cases hx'
  |ok x s1=>
  rw [he]at hx'
  have hg:=stepGR_op (P:=P) (b:=b) (k:=k) (cs:=cs) (w:=w) (rest:=rest) hi hwant
  have hsem:o.semAt b.roundOf act.eval=execOp act.eval o:=by
   cases hrd:rd with
   |none=>rw [hro hrd];rfl
   |some l=>
    refine Oper.semAt_eq _ _ _ fun c hc=>?_
    rw [hc]at he
    have he':xDefer c tm s= .ok x s1:=he
    have hxd:∃d,x= .defer d:=by
     unfold xDefer at he'
     split at he'
     ·split at he'
      ·cases he';exact⟨_,rfl⟩
      ·cases he'
     ·cases he'
    obtain⟨d,rfl⟩:=hxd
    rw [hrd]at hx'
    cases hx'
  rw [hsem]at hg
  have A1:=exec_any h o hseen he
  cases A1 with
  |val v v' E' _ w' q1 q2 q3=>
   obtain⟨hp,rfl⟩:=roA_ok (show roA (put o.dst n tm df v) s1= .ok a' s' from hx')
   refine⟨E',v,v',df,act.defers,w',q1,q2,hdf.ext q1.ext,hp,.one (step_lone_go ?_)⟩
   rw [hg,←hfin];simp[stepG.apply,q3]
  |skip E' _ w' q1 q3=>
   obtain⟨hp,rfl⟩:=roA_ok (show roA (put o.dst n tm df undef) s1= .ok a' s' from hx')
   refine⟨E',undef,undef,df,act.defers,w',q1,.undef,hdf.ext q1.ext,hp,.one (step_lone_go ?_)⟩
   rw [hg,←hfin];simp[stepG.apply,q3]
  |enter f args args' q1 q3=>
   have hr:roV o.dst n tm df (rec (.call f args) s)= .ok a' s':=hx'
   cases hc:rec (.call f args) s with
   |no=>rw [hc]at hr;cases hr
   |ok v s2=>
    rw [hc]at hr
    obtain⟨hp,rfl⟩:=roA_ok (show roA (put o.dst n tm df v) s2= .ok a' s' from hr)
    obtain⟨E',w',v',fr,z1,z2,z3,z4,z5,z6,z7,fn,z8,z9⟩:=R.call h q1 hc (b.atR act (.inRegion A (i::rest)::k)::cs)
    refine⟨E',v,v',df,act.defers,w',z1,z2,hdf.ext z1.ext,hp,?_⟩
    have s1:step P (lone (b.atR act (.inRegion A (i::rest)::k)) cs w)= .next (lone (Frame.enter P f ⟨args'⟩ .normal) (b.atR act (.inRegion A (i::rest)::k)::cs) w):=step_lone_go (by rw [hg];simp[stepG.apply,q3,Frame.atR])
    have s2':=step_left (c:=b.atR act (.inRegion A (i::rest)::k)) (cs:=cs) z4 z5 z6 z7 z8 z9
    rw [hfin]at s2'
    exact .head s1 (z3.trans (.one s2'))
  |round l args args' q0 q1 q3=>
   have hr:roV o.dst n tm df (rec (.round l args) s)= .ok a' s':=hx'
   cases hc:rec (.round l args) s with
   |no=>rw [hc]at hr;cases hr
   |ok v s2=>
    rw [hc]at hr
    obtain⟨hp,rfl⟩:=roA_ok (show roA (put o.dst n tm df v) s2= .ok a' s' from hr)
    obtain⟨f,tmps,asg,body,y1,y2⟩:=R.round h q1 q0 hc
    obtain⟨E',w',v',z1,z2,z3⟩:=y2 (b.atR act (.inRegion A (i::rest)::k)) cs
    rw [hfin]at z3
    refine⟨E',v,v',df,act.defers,w',z1,z2,hdf.ext z1.ext,hp,.head ?_ z3⟩
    exact step_lone_go (by rw [hg];simp[stepG.apply,q3,y1])
  |defer d d' q1 q3=>
   cases hrd:rd with
   |some l=>rw [hrd]at hx';cases hx'
   |none=>
    rw [hrd]at hx'
    obtain⟨hp,rfl⟩:=roA_ok (show roA (put o.dst n tm (d::df) undef) s= .ok a' s' from hx')
    refine⟨E,undef,undef,d::df,d'::act.defers,w,.refl h,.undef,.cons _ _ _ _ q1 hdf,hp,.one (step_lone_go ?_)⟩
    rw [hg]
    have hf2:(({b.atR act (.inRegion A (i::rest)::k)with defers:=d'::act.defers}:Frame)).finish undef=b.atR (({act with defers:=d'::act.defers}:Act).put o.dst undef) (.inRegion A rest::k):=by
     have:=Frame.finish_atR b {act with defers:=d'::act.defers} A i rest k undef
     rw [hi]at this
     exact this
    rw [←hf2]
    simp[stepG.apply,q3,Frame.atR]
  |recover q3=>
   cases hrd:rd with
   |some l=>rw [hrd]at hx';cases hx'
   |none=>
    rw [hrd]at hx'
    obtain⟨hp,rfl⟩:=roA_ok (show roA (put o.dst n tm df .nilIface) s= .ok a' s' from hx')
    refine⟨E,.nilIface,.nilIface,df,act.defers,w,.refl h,.inil,hdf,hp,.one (step_lone_go ?_)⟩
    have hno:tryRecover (b.atR act (.inRegion A (i::rest)::k)) cs=none:=by
     rcases hkind with e|⟨_,e,c,cs',rfl,hm⟩
     ·simp[tryRecover,Frame.atR,e]
     ·simp[tryRecover,Frame.atR,e,hm]
    have hrn:(b.atR act (.inRegion A (i::rest)::k)).roundOf=none:=hro hrd
    rw [hg,←hfin]
    simp[stepG.apply,q3,hno,hrn]
theorem step_val{A:Array Oper}{i:Nat}{o:Oper}(hi:A[i]? =some o){act:Act}{w w':World}{v':Value}(hd:∀c,o.op≠ .defer c)(hw:Region.wanted o (yielded A act.tmps)=true)
  (hx:(execOp act.eval o).run P w= .ok (.value v') w') {b:Frame} {k:List Item} {cs:List Frame} {rest:List Nat}:
  Steps P (lone (b.atR act (.inRegion A (i::rest)::k)) cs w) (lone (b.atR (act.put o.dst v') (.inRegion A rest::k)) cs w'):=by
 have hg:=stepGR_op (P:=P) (b:=b) (k:=k) (cs:=cs) (w:=w) (rest:=rest) hi hw
 rw [Oper.semAt_eq _ _ _ hd]at hg
 have hfin:∀v,(b.atR act (.inRegion A (i::rest)::k)).finish v=b.atR (act.put o.dst v) (.inRegion A rest::k):=by
  intro v;rw [Frame.finish_atR,hi];rfl
 refine .one (step_lone_go ?_)
 rw [hg,←hfin];simp[stepG.apply,hx]
theorem step_skip{A:Array Oper}{i:Nat}{o:Oper}(hi:A[i]? =some o){act:Act}{w:World}(hw:Region.wanted o (yielded A act.tmps)=false){b:Frame}{k:List Item}{cs:List Frame}{rest:List Nat}:
  Steps P (lone (b.atR act (.inRegion A (i::rest)::k)) cs w) (lone (b.atR (act.put o.dst undef) (.inRegion A rest::k)) cs w):=by
 have hs:=stepR_op_skip (P:=P) (b:=b) (a:=act) (k:=k) (cs:=cs) (w:=w) (ops:=A) (i:=i) (rest:=rest) (by rw [hi];simp[hw])
 rw [hi]at hs
 exact .one hs
theorem put_get{d:Option Tmp}{n:Nat}{tm:Tr Value}{df:List Deferred}{v:Value}{a':Ac}(_hn:n≤4611686018427387904)(hp:put d n tm df v=some a'):
  ∃tm',a'= .mk n tm' df∧(∀t,d≠some t→tm'.get t=tm.get t)∧(∀t,d=some t→t<n∧tm'.get t=some v):=by
 cases d with
 |none=>cases hp;exact⟨tm,rfl,fun _ _=>rfl,fun _ e=>by cases e⟩
 |some d=>
  have hp':fV v (fun v=>setT n tm df d v)=some a':=hp
  rw [fV_eq]at hp'
  unfold setT at hp'
  cases hd:Nat.blt d n with
  |false=>rw [hd]at hp';cases hp'
  |true=>
   rw [hd]at hp'
   have hdn2:d+1≤n:=Nat.le_of_ble_eq_true hd
   have ha:a'= .mk n (tm.set v d) df:=by
    simp only[cond]at hp'
    cases e:tm.set v d with
    |nil=>rw [e]at hp';cases hp'
    |node x l r l' r'=>rw [e]at hp';cases hp';rfl
   subst ha
   have hg:=Tr.get_set v tm d (Nat.lt_succ_self _)
   refine⟨_,rfl,fun t ht=>?_,fun t ht=>?_⟩
   ·rw [hg,if_neg (fun e=>ht (by rw [e]))]
   ·cases ht;exact⟨hdn2,by rw [hg,if_pos rfl]⟩
theorem oper_put{rec:Rec}{rd:Option Nat}{ops:List Oper}{o:Oper}{n:Nat}{tm:Tr Value}{df:List Deferred}{s s':St}{a':Ac}(hn:n≤4611686018427387904)(hx:oper P rec rd ops o (.mk n tm df) s= .ok a' s'):
  ∃tm' df',a'= .mk n tm' df'∧(∀t,o.dst≠some t→tm'.get t=tm.get t)∧(∀t,o.dst=some t→∃v,tm'.get t=some v):=by
 have fin:∀{df1:List Deferred} {v:Value} {s1:St},roA (put o.dst n tm df1 v) s1= .ok a' s'→∃tm' df',a'= .mk n tm' df'∧(∀t,o.dst≠some t→tm'.get t=tm.get t)∧(∀t,o.dst=some t→∃v,tm'.get t=some v):=by
  intro df1 v s1 hr
  obtain⟨hp,_⟩:=roA_ok hr
  obtain⟨tm',e,h1,h2⟩:=put_get hn hp
  exact⟨tm',df1,e,h1,fun t ht=>⟨v,(h2 t ht).2⟩⟩
 have hx':(match wants ops tm o.guard with
  |some true=>after rec rd o.dst n tm df (exec P o.op tm s)
  |some false=>roA (put o.dst n tm df undef) s
  |none=>.no)= .ok a' s':=by
  obtain⟨d,op,t1,t2,t3,g⟩:=o
  exact hx
 split at hx'
 ·cases he:exec P o.op tm s with
  |no=>rw [he]at hx';cases hx'
  |ok x s1=>
   rw [he]at hx'
   cases x with
   |val v=>exact fin hx'
   |enter f args=>
    have hr:roV o.dst n tm df (rec (.call f args) s1)= .ok a' s':=hx'
    cases hc:rec (.call f args) s1 with
    |no=>rw [hc]at hr;cases hr
    |ok v s2=>rw [hc]at hr;exact fin hr
   |round l args=>
    have hr:roV o.dst n tm df (rec (.round l args) s1)= .ok a' s':=hx'
    cases hc:rec (.round l args) s1 with
    |no=>rw [hc]at hr;cases hr
    |ok v s2=>rw [hc]at hr;exact fin hr
   |defer d=>cases rd with
    |none=>exact fin hx'
    |some l=>cases hx'
   |recover=>cases rd with
    |none=>exact fin hx'
    |some l=>cases hx'
 ·exact fin hx'
 ·cases hx'
theorem reads_same{tm:Tr Value}{op:Op}{s s':St}{x:Nx}(hk:kindOf P op= .reads)(hx:exec P op tm s= .ok x s'):s'=s∧∃v,x= .val v:=by
 have ofo:∀{o:Option Value},ofO o s= .ok x s'→s'=s∧∃v,x= .val v:=by
  intro o h
  cases o with
  |none=>cases h
  |some v=>cases h;exact⟨rfl,v,rfl⟩
 have okn:∀{k:IntKind} {n:Nat},okN k n s= .ok x s'→s'=s∧∃v,x= .val v:=by
  intro k n h
  rw [okN_eq]at h
  cases h
  exact⟨rfl,_,rfl⟩
 cases op with
 |load t a=>
  have hx':xLoad P t (opd tm a) s= .ok x s':=hx
  unfold xLoad at hx'
  split at hx'
  ·exact ofo hx'
  ·cases hx'
 |lookup t m k ok=>
  have hx':xLookup P t (opd tm m) (opd tm k) ok s= .ok x s':=hx
  have okl:∀{v:Value} {b:Bool},okLook v b ok s= .ok x s'→s'=s∧∃v,x= .val v:=by
   intro v b h
   unfold okLook at h
   cases ok<;>(cases h;exact⟨rfl,_,rfl⟩)
  unfold xLookup at hx'
  split at hx'
  ·split at hx'
   ·split at hx'
    ·rename_i z _
     cases hp:plain 5 z with
     |false=>rw [hp]at hx';cases hx'
     |true=>rw [hp]at hx';exact okl hx'
    ·cases hx'
   ·split at hx'
    ·exact okl hx'
    ·cases hx'
   ·cases hx'
  ·cases hx'
 |convert src dst a=>
  have hx':xConv P src dst (opd tm a) s= .ok x s':=hx
  cases hs:P.underlying src with
  |none=>simp only[kindOf,hs]at hk;cases hk
  |some d1=>
   cases hd:P.underlying dst with
   |none=>simp only[kindOf,hs,hd]at hk;cases d1<;>cases hk
   |some d2=>
    have:((∃e,d1= .slice e)∧d2= .string)∨((∃t,d1= .pointer t)∧d2= .unsafePointer):=by
     simp only[kindOf,hs,hd]at hk
     cases d1<;>cases d2<;>first|(cases hk;done)|exact .inl ⟨⟨_,rfl⟩,rfl⟩|exact .inr ⟨⟨_,rfl⟩,rfl⟩
    rcases this with⟨⟨e,rfl⟩,rfl⟩|⟨⟨t,rfl⟩,rfl⟩
    case inr=>
     unfold xConv at hx'
     split at hx'
     ·rename_i k n hv
      rcases intTo_sound P (E:=⟨0,id,id,id⟩) src dst k n with hno|⟨v,v',h1,h2,h3⟩
      ·rw [show intTo P src dst k n s (P.underlying dst)= .no from hno s]at hx';cases hx'
      ·rw [show intTo P src dst k n s (P.underlying dst)= .ok (.val v) s from h1 s]at hx'
       cases hx'
       exact⟨rfl,v,rfl⟩
     ·simp only[hs,hd]at hx';cases hx'
     ·simp only[hs,hd]at hx';cases hx'
     ·rename_i q hv
      simp only[hs,hd]at hx'
      split at hx'
      ·rename_i t2 b off _ _
       cases hfl:filled (sizeOfT P t2)with
       |false=>rw [hfl]at hx';cases hx'
       |true=>
        rw [hfl]at hx'
        have hx3:toRaw b off (readAt1 s b off) s= .ok x s':=hx'
        unfold toRaw at hx3
        split at hx3
        ·cases hx3;exact⟨rfl,_,rfl⟩
        ·cases hx3
      ·cases hx'
     ·cases hx'
    unfold xConv at hx'
    split at hx'
    ·rename_i k n hv
     rcases intTo_sound P (E:=⟨0,id,id,id⟩) src dst k n with hno|⟨v,v',h1,h2,h3⟩
     ·rw [show intTo P src dst k n s (P.underlying dst)= .no from hno s]at hx';cases hx'
     ·rw [show intTo P src dst k n s (P.underlying dst)= .ok (.val v) s from h1 s]at hx'
      cases hx'
      exact⟨rfl,v,rfl⟩
    ·simp only[hs,hd]at hx';cases hx'
    ·rw [hs,hd]at hx'
     simp only at hx'
     unfold toStr at hx'
     cases hu:isU8 (P.underlying e)with
     |false=>rw [hu]at hx';cases hx'
     |true=>
      rw [hu]at hx'
      simp only[cond]at hx'
      split at hx'
      ·unfold okStr at hx'
       split at hx'
       ·cases hx';exact⟨rfl,_,rfl⟩
       ·cases hx'
      ·cases hx'
    ·simp only[hs,hd]at hx';cases hx'
    ·cases hx'
 |call c=>
  obtain⟨callee,args,ts⟩:=c
  cases callee with
  |builtin b=>
   cases b with
   |len=>
    have hx':xLen P ts.toList (opds tm args.toList) s= .ok x s':=hx
    unfold xLen at hx'
    split at hx'
    ·cases hx';exact⟨rfl,_,rfl⟩
    ·exact okn hx'
    ·exact okn hx'
    ·cases hx';exact⟨rfl,_,rfl⟩
    ·split at hx'
     ·exact okn hx'
     ·cases hx'
    ·cases hx'
   |_=>cases hk
  |value f=>cases hk
  |invoke r name=>cases hk
 |_=>cases hk
theorem oper_still{rec:Rec}{rd:Option Nat}{ops:List Oper}{o:Oper}{E:En}{ρ:Operand→Value}{n:Nat}{tm:Tr Value}{df:List Deferred}{s s':St}{a':Ac}(hk:kindOf P o.op≠ .acts)(hρ:Seen E tm ρ o.op)(hx:oper P rec rd ops o (.mk n tm df) s= .ok a' s'):
  (wants ops tm o.guard=some false∧put o.dst n tm df undef=some a'∧s'=s)∨(wants ops tm o.guard=some true∧∃v,exec P o.op tm s= .ok (.val v) s'∧put o.dst n tm df v=some a'∧(kindOf P o.op≠ .makes→s'=s)):=by
 have hx':(match wants ops tm o.guard with
  |some true=>after rec rd o.dst n tm df (exec P o.op tm s)
  |some false=>roA (put o.dst n tm df undef) s
  |none=>.no)= .ok a' s':=by
  obtain⟨d,op,t1,t2,t3,g⟩:=o
  exact hx
 split at hx'
 ·rename_i hw
  refine .inr ⟨hw,?_⟩
  cases he:exec P o.op tm s with
  |no=>rw [he]at hx';cases hx'
  |ok x s1=>
   rw [he]at hx'
   have val:∃v,x= .val v∧(kindOf P o.op≠ .makes→s1=s):=by
    cases hkk:kindOf P o.op with
    |none=>
     rcases exec_pure o hρ hkk with hno|⟨v,v',h1,h2,h3⟩
     ·rw [show exec P o.op tm s= .no from hno s]at he;cases he
     ·rw [show exec P o.op tm s= .ok (.val v) s from h1 s]at he;cases he;exact⟨v,rfl,fun _=>rfl⟩
    |reads=>obtain⟨rfl,v,rfl⟩:=reads_same hkk he;exact⟨v,rfl,fun _=>rfl⟩
    |makes=>obtain⟨ob,v,rfl,_⟩:=exec_makes o hρ hkk he;exact⟨_,rfl,fun h=>absurd rfl h⟩
    |acts=>exact absurd hkk hk
   obtain⟨v,rfl,hsm⟩:=val
   obtain⟨hp,rfl⟩:=roA_ok (show roA (put o.dst n tm df v) s1= .ok a' s' from hx')
   exact⟨v,rfl,hp,hsm⟩
 ·rename_i hw
  obtain⟨hp,rfl⟩:=roA_ok hx'
  exact .inl ⟨hw,hp,rfl⟩
 ·cases hx'
theorem bytes_beq{a b:ByteArray}(h:(a==b)=true):a=b:=by
 have h':(a.data==b.data)=true:=h
 obtain⟨a⟩:=a
 obtain⟨b⟩:=b
 rw [show a=b from beq_iff_eq.1 h']
theorem sameV_eq{x y:Value}(h:sameV x y=true):x=y:=by
 unfold sameV at h
 split at h
 ·rw [beq_iff_eq.1 h]
 ·obtain⟨h1,h2⟩:=Bool.and_eq_true_iff.1 h
  rw [beq_iff_eq.1 h1,beq_iff_eq.1 h2]
 ·rw [bytes_beq h]
 ·rw [beq_iff_eq.1 h]
 ·obtain⟨h1,h3⟩:=Bool.and_eq_true_iff.1 h
  obtain⟨h1,h2⟩:=Bool.and_eq_true_iff.1 h1
  rw [beq_iff_eq.1 h1,Nat.eq_of_beq_eq_true h2,Nat.eq_of_beq_eq_true h3]
 ·rw [beq_iff_eq.1 h]
 ·rfl
 ·rfl
 ·obtain⟨h1,h2⟩:=Bool.and_eq_true_iff.1 h
  rw [Nat.eq_of_beq_eq_true h1,beq_iff_eq.1 h2]
 ·cases h
theorem sameL_eq:∀{x y:List Value},sameL x y=true→x=y
 |[],[],_=>rfl
 |[],_::_,h=>by cases h
 |_::_,[],h=>by cases h
 |x::xs,y::ys,h=>by
  have h':cond (sameV x y) (sameL xs ys) false=true:=h
  cases e:sameV x y with
  |false=>rw [e]at h';cases h'
  |true=>rw [e]at h';rw [sameV_eq e,sameL_eq h']
theorem eqL_eq{p:Value→Value→Bool}(hp:∀x y,p x y=true→x=y):∀{x y:List Value},eqL p x y=true→x=y
 |[],[],_=>rfl
 |[],_::_,h=>by cases h
 |_::_,[],h=>by cases h
 |x::xs,y::ys,h=>by
  have h':cond (p x y) (eqL p xs ys) false=true:=h
  cases e:p x y with
  |false=>rw [e]at h';cases h'
  |true=>rw [e]at h';rw [hp x y e,eqL_eq hp h']
theorem eqF_eq{f g:Fn}(h:eqF f g=true):f=g:=by
 unfold eqF at h
 split at h
 ·rw [Nat.eq_of_beq_eq_true h]
 ·rw [Nat.eq_of_beq_eq_true h]
 ·rw [eq_of_beq h]
 ·cases h
theorem eqV_eq:∀(n:Nat) (x y:Value),eqV n x y=true→x=y
 |0,_,_,h=>by cases h
 |n+1,x,y,h=>by
  have ih:=eqV_eq n
  unfold eqV at h
  split at h
  ·obtain⟨h1,h3⟩:=Bool.and_eq_true_iff.1 h
   obtain⟨h1,h2⟩:=Bool.and_eq_true_iff.1 h1
   rw [eqF_eq h1,Array.ext' (eqL_eq ih h2),Array.ext' (eqL_eq ih h3)]
  ·obtain⟨h1,h2⟩:=Bool.and_eq_true_iff.1 h
   rw [Nat.eq_of_beq_eq_true h1,ih _ _ h2]
  ·rw [Array.ext' (eqL_eq ih h)]
  ·rw [Array.ext' (eqL_eq ih h)]
  ·rw [beq_iff_eq.1 h]
  ·exact sameV_eq h
end
end Go.Ev
