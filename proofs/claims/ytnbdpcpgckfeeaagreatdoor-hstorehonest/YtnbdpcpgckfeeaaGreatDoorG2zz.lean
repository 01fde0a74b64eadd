import Derived.Test.YtnbdpcpgckfeeaaGreatDoorH3zz
namespace Go.Ev
open Go
theorem DfRs.append{E:En}:∀{l l' m m':List Deferred},DfRs E l l'→DfRs E m m'→DfRs E (l++m) (l'++m')
 |_,_,_,_,.nil,k=>k
 |_,_,_,_,.cons d d' _ _ h hl,k=>.cons d d' _ _ h (hl.append k)
section
variable{P:Program}{N:Nat}
theorem run_takeDeferred{w:World}{r:Nat}{ds:List Deferred}(h:w.heap[r]? =some (.deferred (some ds))):(Instr.takeDeferred r).run P w= .ok ds (World.row w r (.deferred none)):=by
 have hg:(getObj r).run P w= .ok (.deferred (some ds)) w:=by simp[getObj,Sem.run,h]
 simp only[Instr.takeDeferred,Sem.run_bind,hg,Result.andThen_ok,run_setObj h (fun _ _ _ e=>by cases e),Sem.run_pure]
theorem step_collected{fr:Frame}{cs:List Frame}{w w':World}{r:Nat}{args:Array Value}{ds calls:List Deferred}(hm:fr.mode= .returning)(hd:fr.defers=⟨.collected r,args⟩::ds)(hr:(Instr.takeDeferred r).run P w= .ok calls w'):
  step P (lone fr cs w)= .next (lone {fr with defers:=calls++ds} cs w'):=
 step_lone_go (by simp[stepG,unwind,hm,hd,Sem.runT_eq,hr,GStep.bare_after])
theorem step_deferred{fr:Frame}{cs:List Frame}{w:World}{f:FuncId}{y args args':Array Value}{ds:List Deferred}(hm:fr.mode= .returning)(hd:fr.defers=⟨.fn (.func f) y,args⟩::ds)(hr:(callFunc f (args++y)).run P w= .ok (.enter f args') w):
  step P (lone fr cs w)= .next (lone (Frame.enter P f args' .deferred) ({fr with defers:=ds}::cs) w):=
 step_lone_go (by simp[stepG,unwind,hm,hd,callDeferred,invoke,Sem.runT_eq,hr,GStep.bare_after])
theorem step_left_deferred{fr c:Frame}{cs:List Frame}{w:World}{v:Value}{f:FuncId}{fn:Func}(h1:fr.fn=f)(h2:fr.kind= .deferred)(h3:fr.mode= .returning)(h4:fr.defers=[])(h5:P.funcs[f]? =some fn)(h6:(results fn fr.tmps).run P w= .ok v w)(hc:c.mode= .returning):
  step P (lone fr (c::cs) w)= .next (lone c cs w):=by
 subst h1
 exact step_lone_go (by simp[stepG,unwind,doReturn,h2,h3,h4,h5,Sem.runT_eq,h6,GStep.bare_after,hc])
theorem deferred_sound{rec:Rec}(R:RecOk N P rec):∀(m:Nat) (ds:List Deferred) {E:En} {s s':St} {w:World} {ds':List Deferred},Rel N E s w→DfRs E ds ds'→deferred P rec m ds s=some s'→
  ∀(fr:Frame) (cs:List Frame),fr.mode= .returning→fr.defers=ds'→∃E' w',Stp N E s w E' s' w'∧Steps P (lone fr cs w) (lone {fr with defers:=[]} cs w'):=by
 intro m
 induction m with
 |zero=>
  intro ds E s s' w ds' h hd hx fr cs hm hf
  cases hd with
  |nil=>cases hx;exact⟨E,w,.refl h,by rw [←hf];exact .refl _ _⟩
  |cons=>cases hx
 |succ m ih=>
  intro ds E s s' w ds' h hd hx fr cs hm hf
  cases hd with
  |nil=>cases hx;exact⟨E,w,.refl h,by rw [←hf];exact .refl _ _⟩
  |cons d d' l l' hdd hl=>
   cases hdd with
   |col r hr=>
    obtain⟨hp,nx,gr⟩:=s
    have hx':(match hp.get r with
     |some (.dfr (some cs))=>match setO hp nx gr r (.dfr none)with
      |some s=>deferred P rec m (cs++l) s
      |none=>none
     |_=>none)=some s':=hx
    split at hx'
    case h_2=>cases hx'
    rename_i cs0 hg
    split at hx'
    case h_2=>cases hx'
    rename_i s1 hs1
    have e1:=setO_some hs1
    subst e1
    obtain⟨c',h1,h2⟩:=(h.ob r _ hg).2
    cases h2 with
    |some _ calls hc=>
     have S:=stp_setob (o2:=.dfr none) (o2':=.deferred none) h hg trivial rfl trivial rfl fun w' hw'=>⟨none,hw',.none⟩
     obtain⟨E2,w2,z1,z2⟩:=ih _ S.rel (hc.append hl) hx' {fr with defers:=calls++l'} cs hm rfl
     exact⟨E2,w2,S.trans z1,.head (step_collected hm hf (run_takeDeferred h1)) z2⟩
   |fn f y y' x x' hy hxx=>
    have hx':enterD rec (callV P f (appO x y) s) (deferred P rec m l)=some s':=hx
    unfold enterD at hx'
    split at hx'
    case h_2=>cases hx'
    rename_i f2 args s2 hcv
    obtain⟨rfl,e2,kc⟩:=run_callFunc hcv
    cases e2
    split at hx'
    case h_2=>cases hx'
    rename_i v s3 hrec
    rw [appO_eq]at hrec
    obtain⟨E1,w1,v',fr1,z1,z2,z3,z4,z5,z6,z7,fd,z8,z9⟩:=R.late h (hxx.append hy) hrec {fr with defers:=l'} cs hm
    obtain⟨E2,w2,q1,q2⟩:=ih l z1.rel (hl.ext z1.ext) hx' {fr with defers:=l'} cs hm rfl
    refine⟨E2,w2,z1.trans q1,?_⟩
    have st1:=step_deferred (cs:=cs) (w:=w) (args':=⟨x'++y'⟩) hm hf (by rw [kc];congr 2;apply Array.ext';simp)
    have st2:=step_left_deferred (c:={fr with defers:=l'}) (cs:=cs) z4 z5 z6 z7 z8 z9 hm
    exact .head st1 (z3.trans (.head st2 q2))
theorem resOf_sound{E:En}{s:St}{w:World}(h:Rel N E s w){tm:Tr Value}{tmps:Array Value}(ht:TmR E tm tmps){f:ResultVar→Sem Value}(hf1:∀t,f (.tmp t)=pure (tmps.getD t undef))(hf2:∀a t,f (.cell a t)=(do loadVar t (←asAddr (tmps.getD a undef)))):∀(rs:List ResultVar) {vs:List Value},resOf P tm s rs=some vs→
  ∃vs',VRs E vs vs'∧(rs.mapM f).run P w= .ok vs' w
 |[],vs,hr=>by cases hr;exact⟨[],.nil,rfl⟩
 |r::rs,vs,hr=>by
  have cons:∀{v:Value} {o:Option (List Value)},consOV v o=some vs→∃vs0,o=some vs0∧vs=v::vs0:=by
   intro v o hh
   unfold consOV at hh
   rw [fV_eq]at hh
   exact consO_some.1 hh
  cases r with
  |tmp t=>
   obtain⟨vs0,h1,rfl⟩:=cons (show consOV (orUndef (tm.get t)) (resOf P tm s rs)=some vs from hr)
   obtain⟨vs',k1,k2⟩:=resOf_sound h ht hf1 hf2 rs h1
   refine⟨tmps.getD t undef::vs',.cons _ _ _ _ (ht t) k1,?_⟩
   rw [List.mapM_cons,Sem.run_bind,hf1]
   simp only[Sem.run_bind,Sem.run_pure,Result.andThen_ok,k2]
  |cell a t=>
   have hr':(match cell1 P (orUndef (tm.get a)) t s with
    |some v=>consOV v (resOf P tm s rs)
    |none=>none)=some vs:=hr
   split at hr'
   case h_2=>cases hr'
   rename_i v hv
   obtain⟨vs0,h1,rfl⟩:=cons hr'
   obtain⟨vs',k1,k2⟩:=resOf_sound h ht hf1 hf2 rs h1
   unfold cell1 at hv
   split at hv
   case h_2=>cases hv
   rename_i b off hb
   have hp:=ht a
   rw [hb]at hp
   obtain⟨_,ep⟩:=hp.ptr_inv
   unfold loadT loadG at hv
   split at hv
   ·rename_i hag
    split at hv
    ·rename_i n hn
     split at hv
     ·rename_i cs hcs
      cases hv
      obtain⟨r',z1,z2,z3⟩:=readAt_run (P:=P) h.obs hcs
      refine⟨.agg ⟨r'⟩::vs',.cons _ _ _ _ (.agg _ _ z1) k1,?_⟩
      have hh:(f (.cell a t)).run P w= .ok (.agg ⟨r'⟩) w:=by
       rw [hf2]
       simp only[Sem.run_bind,Sem.run_pure,Result.andThen_ok,ep,asAddr,loadVar,run_isAgg w hag,run_sizeOf w hn,z3,if_true]
      rw [List.mapM_cons,Sem.run_bind,hh]
      simp only[Sem.run_bind,Sem.run_pure,Result.andThen_ok,k2]
     ·cases hv
    ·cases hv
   ·rename_i hag
    obtain⟨v',z1,z2⟩:=readAt1_run (P:=P) h.obs hv
    refine⟨v'::vs',.cons _ _ _ _ z1 k1,?_⟩
    have hh:(f (.cell a t)).run P w= .ok v' w:=by
     rw [hf2]
     simp only[Sem.run_bind,Sem.run_pure,Result.andThen_ok,ep,asAddr,loadVar,run_isAgg w hag,Bool.false_eq_true,if_false,z2]
    rw [List.mapM_cons,Sem.run_bind,hh]
    simp only[Sem.run_bind,Sem.run_pure,Result.andThen_ok,k2]
   ·cases hv
theorem results_sound{E:En}{s s':St}{w:World}(h:Rel N E s w){tm:Tr Value}{tmps:Array Value}(ht:TmR E tm tmps){fn:Func}{v:Value}(hr:rvOf (resOf P tm s fn.results.toList) s= .ok v s'):
  s'=s∧∃v',VR E v v'∧(results fn tmps).run P w= .ok v' w:=by
 cases ho:resOf P tm s fn.results.toList with
 |none=>rw [ho]at hr;cases hr
 |some vs=>
  rw [ho]at hr
  obtain⟨vs',k1,hres⟩:∃vs',VRs E vs vs'∧(results fn tmps).run P w= .ok (if h:vs'.toArray.size=1 then vs'.toArray[0]else .tuple vs'.toArray) w:=by
   have key:∀f:ResultVar→Sem Value,(∀t,f (.tmp t)=pure (tmps.getD t undef))→(∀a t,f (.cell a t)=(do loadVar t (←asAddr (tmps.getD a undef))))→
     ∃vs',VRs E vs vs'∧(do let vs ←fn.results.mapM f;pure (if h:vs.size=1 then vs[0]else .tuple vs):Sem Value).run P w= .ok (if h:vs'.toArray.size=1 then vs'.toArray[0]else .tuple vs'.toArray) w:=by
    intro f hf1 hf2
    obtain⟨vs',k1,k2⟩:=resOf_sound (P:=P) h ht hf1 hf2 _ ho
    refine⟨vs',k1,?_⟩
    have hm:(fn.results.mapM f).run P w= .ok vs'.toArray w:=by
     rw [Array.mapM_eq_mapM_toList]
     simp only[Sem.run_map,k2,Result.andThen_ok]
    simp only[Sem.run_bind,hm,Result.andThen_ok,Sem.run_pure]
   exact key _ (fun _=>rfl) (fun _ _=>rfl)
  have hl:=k1.length
  cases k1 with
  |nil=>cases hr;exact⟨rfl,_,.tup _ _ .nil,by rw [hres];rfl⟩
  |cons a a' l l' ha hl2=>
   cases hl2 with
   |nil=>cases hr;exact⟨rfl,a',ha,by rw [hres];rfl⟩
   |cons b b' l l' hb hl3=>cases hr;exact⟨rfl,_,.tup _ _ (.cons _ _ _ _ ha (.cons _ _ _ _ hb hl3)),by rw [hres];rfl⟩
theorem argsTr_get:∀(vs:List Value) (i:Nat) (t:Tr Value),i+vs.length<4611686018427387905→∀j,(argsTr vs i t).get j=if i≤j∧j<i+vs.length then vs[j-i]? else t.get j
 |[],i,t,_,j=>by rw [if_neg (by simp)];rfl
 |v::vs,i,t,h,j=>by
  simp only[List.length_cons]at h
  show (argsTr vs (i+1) (t.set v i)).get j=_
  rw [argsTr_get vs (i+1) _ (by omega),Tr.get_set _ _ _ (by omega)]
  simp only[List.length_cons]
  rcases Nat.lt_trichotomy j i with e|e|e
  ·rw [if_neg (by omega),if_neg (by omega),if_neg (by omega)]
  ·subst e
   rw [if_neg (by omega),if_pos rfl,if_pos (by omega)]
   simp
  ·by_cases k:j<i+1+vs.length
   ·rw [if_pos (by omega),if_pos (by omega),show j-i=(j-(i+1))+1 by omega]
    simp
   ·rw [if_neg (by omega),if_neg (by omega),if_neg (by omega)]
theorem enter_tmps{E:En}{args args':List Value}(h:VRs E args args'){n:Nat}(hn:args.length≤n)(hm:n≤4611686018427387904):TmR E (argsTr args 0 .nil) ((⟨args'⟩:Array Value)++Array.replicate (n-args'.length) undef):=by
 have hl:=h.length
 intro t
 rw [argsTr_get _ _ _ (by omega)]
 by_cases k:t<args.length
 ·rw [if_pos (by omega),Nat.sub_zero]
  obtain⟨v',h1,h2⟩:=h.get (List.getElem?_eq_getElem k)
  rw [List.getElem?_eq_getElem k]
  have:((⟨args'⟩:Array Value)++Array.replicate (n-args'.length) undef).getD t undef=v':=by
   rw [Array.getD_eq_getD_getElem?,Array.getElem?_append_left (by show t<args'.length;omega)]
   have:(⟨args'⟩:Array Value)[t]? =some v':=by simpa using h1
   rw [this];rfl
  rw [this]
  exact h2
 ·rw [if_neg (by omega)]
  have:((⟨args'⟩:Array Value)++Array.replicate (n-args'.length) undef).getD t undef=undef:=by
   rw [Array.getD_eq_getD_getElem?,Array.getElem?_append_right (by show args'.length≤t;omega)]
   rw [Array.getElem?_replicate]
   split<;>rfl
  rw [this]
  rw [Tr.get_nil]
  exact .undef
theorem enter_ok{rec:Rec}(R:RecOk N P rec)(D:DrawOk N P rec){f:FuncId}{args args':List Value}{s s':St}{v:Value}{E:En}{w:World}(h:Rel N E s w)(ha:VRs E args args')(hx:enter P rec f args s= .ok v s')
  (kind:CallKind) (cs:List Frame) (hk:kind= .normal∨(kind= .deferred∧∃c cs',cs=c::cs'∧c.mode= .returning)):
  ∃E' w' v' fr,Stp N E s w E' s' w'∧VR E' v v'∧Steps P (lone (Frame.enter P f ⟨args'⟩ kind) cs w) (lone fr cs w')∧fr.fn=f∧fr.kind=kind∧fr.mode= .returning∧fr.defers=[]∧
   ∃fn,P.funcs[f]? =some fn∧(results fn fr.tmps).run P w'= .ok v' w':=by
 unfold enter at hx
 split at hx
 case h_1=>cases hx
 rename_i fn hfn
 split at hx
 case h_1=>cases hx
 rename_i c hc
 cases hch:(Nat.ble args.length fn.ntmps&&Nat.blt fn.ntmps 4611686018427387904)with
 |false=>rw [hch]at hx;cases hx
 |true=>
 rw [hch]at hx
 obtain⟨hc1,hc2⟩:=Bool.and_eq_true_iff.1 hch
 have hle:args.length≤fn.ntmps:=Nat.le_of_ble_eq_true hc1
 have hlt:fn.ntmps<4611686018427387904:=Nat.le_of_ble_eq_true hc2
 simp only[cond]at hx
 obtain⟨b,hbd⟩:∃b:Frame,b={(default:Frame)with fn:=f,kind:=kind,roundOf:=none}:=⟨_,rfl⟩
 obtain⟨act,hact⟩:∃act:Act,act={tmps:=(⟨args'⟩:Array Value)++Array.replicate (fn.ntmps-args'.length) undef,defers:=[]}:=⟨_,rfl⟩
 have hfr:Frame.enter P f ⟨args'⟩ kind=b.atR act [.code c]:=by
  rw [hbd,hact]
  simp[Frame.enter,Frame.atR,hfn,hc]
 have hcalm:Calm none b cs:=by
  rw [hbd]
  refine⟨fun _=>rfl,?_,?_⟩
  ·rcases hk with rfl|⟨rfl,_⟩<;>(intro e;cases e)
  ·rcases hk with rfl|⟨rfl,c,cs',e1,e2⟩
   ·exact .inl rfl
   ·exact .inr ⟨rfl,rfl,c,cs',e1,e2⟩
 have hAc:AcR E (.mk fn.ntmps (argsTr args 0 .nil) []) act:=by
  rw [hact]
  refine .mk' ?_ (by omega) (enter_tmps ha hle (by omega)) .nil
  have:=ha.length
  simp only[Array.size_append,Array.size_replicate]
  show args'.length+(fn.ntmps-args'.length)=fn.ntmps
  omega
 cases hcode:code P rec f none c (.mk fn.ntmps (argsTr args 0 .nil) []) s with
 |no=>rw [hcode]at hx;cases hx
 |ok e a1 s1=>
 rw [hcode]at hx
 obtain⟨E1,act1,w1,q1,q2,q3⟩:=code_ok R D f none c h hAc hcode (b:=b) (k:=[]) (cs:=cs) hcalm (by rw [hbd]) (fun l e=>by cases e)
 have hend:(e= .normal∨e= .ret)∧leave P rec fn.results.toList a1 s1= .ok v s':=by
  cases e with
  |normal=>exact⟨.inl rfl,hx⟩
  |ret=>exact⟨.inr rfl,hx⟩
  |exit i=>cases hx
  |goto i=>cases hx
 obtain⟨he,hlv⟩:=hend
 have hro:b.roundOf=none:=by rw [hbd]
 obtain⟨todo,hst⟩:∃todo,Steps P (lone (b.atR act [.code c]) cs w) (lone {b.atR act1 todo with mode:=.returning} cs w1):=by
  rcases he with rfl|rfl
  ·exact⟨[],Steps.trans q3 (.one (stepR_end hro))⟩
  ·obtain⟨k1,h2⟩:=q3
   exact⟨_,h2.trans (.one (stepR_ret hro))⟩
 obtain⟨n1,tm1,df1⟩:=a1
 unfold leave at hlv
 simp only at hlv
 split at hlv
 case h_1=>cases hlv
 rename_i s2 hdf
 obtain⟨E2,w2,z1,z2⟩:=deferred_sound R 100 df1 q1.rel (q2.defers n1 tm1 df1 rfl) hdf {b.atR act1 todo with mode:=.returning} cs rfl rfl
 obtain⟨rfl,v',k1,k2⟩:=results_sound (P:=P) z1.rel ((q2.tmps n1 tm1 df1 rfl).ext z1.ext) hlv
 rw [hfr]
 exact⟨E2,w2,v',_,q1.trans z1,k1,hst.trans z2,by rw [hbd];rfl,by rw [hbd];rfl,rfl,rfl,fn,hfn,k2⟩
theorem setPs_sound{E:En}{n:Nat}(hn:n≤4611686018427387904):∀(ps:List Tmp) (vs vs':List Value) (tm tm':Tr Value) (tmps:Array Value),VRs E vs vs'→tmps.size=n→TmR E tm tmps→setPs n ps vs tm=some tm'→
  ps.length=vs'.length∧((ps.zip vs').foldl (fun tmps (p:Tmp×Value)=>tmps.setIfInBounds p.1 p.2) tmps).size=n∧TmR E tm' ((ps.zip vs').foldl (fun tmps (p:Tmp×Value)=>tmps.setIfInBounds p.1 p.2) tmps)
 |[],vs,vs',tm,tm',tmps,hv,hs,ht,h=>by
  cases hv with
  |nil=>cases h;exact⟨rfl,hs,ht⟩
  |cons=>cases h
 |p::ps,vs,vs',tm,tm',tmps,hv,hs,ht,h=>by
  cases hv with
  |nil=>cases h
  |cons v v' l l' hvv hl=>
   have h':cond (Nat.blt p n) (setPs n ps l (tm.set v p)) none=some tm':=h
   cases hp:Nat.blt p n with
   |false=>rw [hp]at h';cases h'
   |true=>
    rw [hp]at h'
    have hpn:Nat.lt p n:=Nat.le_of_ble_eq_true hp
    have hpn2:p+1≤n:=hpn
    have ht2:TmR E (tm.set v p) (tmps.setIfInBounds p v'):=by
     intro t
     rw [Tr.get_set _ _ _ (Nat.lt_succ_self _)]
     rw [Array.getD_eq_getD_getElem?,Array.getElem?_setIfInBounds]
     by_cases e:t=p
     ·subst e
      rw [if_pos rfl,if_pos rfl,if_pos (by rw [hs];exact hpn)]
      exact hvv
     ·rw [if_neg e,if_neg (fun e2=>e e2.symm),←Array.getD_eq_getD_getElem?]
      exact ht t
    obtain⟨k1,k2,k3⟩:=setPs_sound hn ps l l' _ tm' (tmps.setIfInBounds p v') hl (by simp[hs]) ht2 h'
    exact⟨by simp[k1],k2,k3⟩
theorem round_ok{rec:Rec}(R:RecOk N P rec)(D:DrawOk N P rec){l:Nat}{args args':List Value}{s s':St}{v:Value}{E:En}{w:World}(h:Rel N E s w)(ha:VRs E args args')(hlt:l<E.nx)(hx:round P rec l args s= .ok v s'):
  ∃f tmps assign body,(Instr.yield (E.ι l) ⟨args'⟩).run P w= .ok (.round (E.ι l) f tmps assign body) w∧
  ∀(c:Frame) (cs:List Frame),∃E' w' v',Stp N E s w E' s' w'∧VR E' v v'∧Steps P (lone (Frame.round (E.ι l) f tmps assign body .normal) (c::cs) w) (lone (c.finish v') cs w'):=by
 obtain⟨hp,nx,gr⟩:=s
 unfold round at hx
 simp only at hx
 split at hx
 case h_2=>cases hx
 rename_i st pd fn tm0 ps asx bd df n tm hl
 split at hx
 case h_1=>cases hx
 rename_i tm2 hps
 cases hn6:Nat.ble n 4611686018427387904 with
 |false=>rw [hn6]at hx;cases hx
 |true=>
 rw [hn6]at hx
 have hn:n≤4611686018427387904:=Nat.le_of_ble_eq_true hn6
 simp only[cond]at hx
 obtain⟨lp',h1,L⟩:=(h.ob l _ hl).2
 obtain⟨k1,k2,k3⟩:=setPs_sound hn ps.toList args args' tm tm2 lp'.tmps ha L.size L.tmps hps
 have hpar:lp'.params=ps:=L.params
 have hzip:((lp'.params.zip ⟨args'⟩).foldl (fun tmps (t,a)=>tmps.setIfInBounds t a) lp'.tmps)=(ps.toList.zip args').foldl (fun tmps (p:Tmp×Value)=>tmps.setIfInBounds p.1 p.2) lp'.tmps:=by
  rw [hpar,←Array.foldl_toList]
  simp
 refine⟨lp'.fn,(ps.toList.zip args').foldl (fun tmps (p:Tmp×Value)=>tmps.setIfInBounds p.1 p.2) lp'.tmps,lp'.assign,lp'.body,?_,?_⟩
 ·have hsz:¬((⟨args'⟩:Array Value).size≠lp'.params.size):=by
   rw [hpar]
   intro hne
   apply hne
   show args'.length=ps.size
   rw [←k1,Array.length_toList]
  simp only[Instr.yield,Sem.run_bind,run_getLoop h1,Result.andThen_ok,hsz,if_false,Sem.run_pure]
  rw [←hzip]
 intro c cs
 obtain⟨b,hbd⟩:∃b:Frame,b={(default:Frame)with fn:=lp'.fn,kind:=.normal,roundOf:=some (E.ι l)}:=⟨_,rfl⟩
 obtain⟨act,hact⟩:∃act:Act,act={tmps:=(ps.toList.zip args').foldl (fun tmps (p:Tmp×Value)=>tmps.setIfInBounds p.1 p.2) lp'.tmps,defers:=[]}:=⟨_,rfl⟩
 have hfr:Frame.round (E.ι l) lp'.fn ((ps.toList.zip args').foldl (fun tmps (p:Tmp×Value)=>tmps.setIfInBounds p.1 p.2) lp'.tmps) lp'.assign lp'.body .normal=b.atR act [.code asx,.beginRound,.code bd]:=by
  rw [hbd,hact,L.assign,L.body]
  simp[Frame.round,Frame.atR]
 rw [hfr]
 have hcalm:Calm (some l) b (c::cs):=by rw [hbd];exact⟨fun e=>(by cases e),(fun e=>by cases e),.inl rfl⟩
 have hra:RoundAt E (some l) b:=by rw [hbd];exact fun l2 e=>by cases e;exact⟨hlt,rfl⟩
 have hAc:AcR E (.mk n tm2 []) act:=by rw [hact];exact .mk' k2 hn k3 .nil
 have hbf:b.fn=fn:=by rw [hbd];exact L.fn
 have hbk:b.kind= .normal:=by rw [hbd]
 have hbr:b.roundOf=some (E.ι l):=by rw [hbd]
 cases hcode:code P rec fn (some l) asx (.mk n tm2 []) (.mk hp nx gr)with
 |no=>rw [hcode]at hx;cases hx
 |ok e1 a1 s1=>
 rw [hcode]at hx
 obtain⟨E1,act1,w1,q1,q2,q3⟩:=code_ok R D fn (some l) asx h hAc hcode (b:=b) (k:=[.beginRound,.code bd]) (cs:=c::cs) hcalm hbf hra
 cases e1 with
 |exit i=>cases hx
 |goto i=>cases hx
 |ret=>cases hx
 |normal=>
 have hx2:(match beginR s1 l with
  |none=>Rv.no
  |some s=>roundEnd l (code P rec fn (some l) bd a1 s))= .ok v s':=hx
 split at hx2
 case h_1=>cases hx2
 rename_i s2 hbg
 have hιl:E1.ι l=E.ι l:=q1.ext.ι l hlt
 have begun:∃w2,(Instr.beginRound (E.ι l)).run P w1= .ok () w2∧Stp N E1 s1 w1 E1 s2 w2:=by
  obtain⟨hp1,nx1,gr1⟩:=s1
  unfold beginR at hbg
  simp only at hbg
  split at hbg
  case h_2=>cases hbg
  rename_i st1 pd1 fn1 tm1 ps1 as1 bd1 df1 n1 tmm1 hl1
  split at hbg
  case h_2=>cases hbg
  have e1:=setO_some hbg
  subst e1
  obtain⟨lq,z1,M⟩:=(q1.rel.ob l _ hl1).2
  rw [hιl]at z1
  refine⟨World.row w1 (E.ι l) (.loop {lq with state:=.busy}),?_,?_⟩
  ·have hst:lq.state= .ready:=M.state
   simp only[Instr.beginRound,Sem.run_bind,run_getLoop z1,Result.andThen_ok,run_setObj z1 (fun _ _ _ e=>by cases e),hst,Sem.run_pure]
  ·have:=stp_setob (o2:=.loop ⟨.busy,pd1,fn1,tm1,ps1,as1,bd1,df1⟩ n1 tmm1) (o2':=.loop {lq with state:=.busy}) q1.rel hl1 trivial rfl trivial rfl fun w' hw'=>⟨_,hw',⟨rfl,M.pending,M.fn,M.params,M.assign,M.body,M.lt,M.defers,M.size,M.tmps⟩⟩
   rw [hιl]at this
   exact this
 obtain⟨w2,hb1,S2⟩:=begun
 cases hcode2:code P rec fn (some l) bd a1 s2 with
 |no=>rw [hcode2]at hx2;cases hx2
 |ok e2 a2 s3=>
 rw [hcode2]at hx2
 obtain⟨E3,act3,w3,y1,y2,y3⟩:=code_ok R D fn (some l) bd S2.rel q2 hcode2 (b:=b) (k:=[]) (cs:=c::cs) hcalm hbf (hra.ext q1.ext)
 have hιl3:E3.ι l=E.ι l:=by rw [y1.ext.ι l (Nat.lt_of_lt_of_le hlt q1.ext.nx)];exact hιl
 have ended:∀(j:Option Code),endRound s3 l j= .ok v s'→∃w4,(Instr.endRound (E.ι l) j).run P w3= .ok v w4∧Stp N E3 s3 w3 E3 s' w4∧VR E3 v v:=by
  intro j hj
  obtain⟨hp3,nx3,gr3⟩:=s3
  unfold endRound at hj
  simp only at hj
  split at hj
  case h_2=>cases hj
  rename_i st1 pd1 fn1 tm1 ps1 as1 bd1 df1 n1 tmm1 hl1
  unfold okRv at hj
  split at hj
  case h_2=>cases hj
  rename_i s4 hs4
  cases hj
  have e1:=setO_some hs4
  subst e1
  obtain⟨lq,z1,M⟩:=(y1.rel.ob l _ hl1).2
  rw [hιl3]at z1
  refine⟨World.row w3 (E.ι l) (.loop {lq with state:=if j.isNone then .ready else .done,pending:=j}),?_,?_,.bool _⟩
  ·simp only[Instr.endRound,Sem.run_bind,run_getLoop z1,Result.andThen_ok,run_setObj z1 (fun _ _ _ e=>by cases e),Sem.run_pure]
  ·have:=stp_setob (o2:=.loop ⟨if j.isNone then .ready else .done,j,fn1,tm1,ps1,as1,bd1,df1⟩ n1 tmm1) (o2':=.loop {lq with state:=if j.isNone then .ready else .done,pending:=j}) y1.rel hl1 trivial rfl trivial rfl fun w' hw'=>⟨_,hw',⟨rfl,rfl,M.fn,M.params,M.assign,M.body,M.lt,M.defers,M.size,M.tmps⟩⟩
   rw [hιl3]at this
   exact this
 have pre:Steps P (lone (b.atR act [.code asx,.beginRound,.code bd]) (c::cs) w) (lone (b.atR act1 [.code bd]) (c::cs) w2):=Steps.trans q3 (.one (stepR_beginRound hbr hb1))
 cases e2 with
 |normal=>
  obtain⟨w4,r1,r2,r3⟩:=ended none hx2
  exact⟨E3,w4,v,((q1.trans S2).trans y1).trans r2,r3,pre.trans (Steps.trans y3 (.one (stepR_round_end hbr hbk r1)))⟩
 |exit id=>
  obtain⟨w4,r1,r2,r3⟩:=ended (some (.exit id)) hx2
  obtain⟨k1,hk1,hk2⟩:=y3
  exact⟨E3,w4,v,((q1.trans S2).trans y1).trans r2,r3,pre.trans (hk2.trans (.one (stepR_round_exit hbr hbk (by rw [hk1];rfl) r1)))⟩
 |ret=>
  obtain⟨w4,r1,r2,r3⟩:=ended (some .ret) hx2
  obtain⟨k1,hk2⟩:=y3
  exact⟨E3,w4,v,((q1.trans S2).trans y1).trans r2,r3,pre.trans (hk2.trans (.one (stepR_round_ret hbr hbk r1)))⟩
 |goto i=>cases hx2
end
end Go.Ev
