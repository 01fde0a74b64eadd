import Derived.Test.YtnbdpcpgckfeeaaGreatDoorZdzz
namespace Go.Sy
open Go Go.Ev
theorem Kp.low{C:Nat→Prop}{s s':St}(k:Kp (fun c=>C c∨s.nx≤c) s s'):Kp C s s':=⟨k.le,k.wf,fun w b o hb hc=>k.kp w b o hb fun e=>e.elim hc fun e=>by have:=(w.lt b o hb).2;omega⟩
section
variable{X:Fx}{env:Env}{df:List Deferred}{s:St}{Q:Post}{all os:List Oper}{d:Option Nat}{ty:TypeId}{pos:String}{af:Array Edge}{g:Option (Nat×Bool)}
theorem Wd.appo{i m:Nat}{L:List Sp}{past:Past}{x y:Operand}{t u e n0 nu size:Nat}{z0 zu:Option (List Value)}{z:List Value}{t0 t1 tu:Nat}{ke ku:Sh}(hgd:wantsE all env g=some true)(ht:tk X.B.T t=some ⟨t0,n0,.sl e,z0⟩)(he:tk X.B.T e=some ⟨t1,size,ke,some z⟩)(hu:tk X.B.T u=some ⟨tu,nu,ku,zu⟩)(hn:notI ku=true)(h0:Nat.blt 0 size=true)(hd:dOk X d=true)
  {q:Option Addr} {n c:Nat} {v:Value} {γ:Nat} {cs new:List Value} (hx:ev env x=some (.slice q n c)) (hy:ev env y=some v) (w:Wf s) (hg:Od s q n c size cs γ) (hk:lenOfV v=some 1) (hv:cellsFrom s size 1 v=some new) (hl:new.length=size) (h1:∀v∈new,Ev.one v=true) {y0:Nat} (hV:lkV X.B.V e=some y0) (hr:(5*(n+1)+3072)*y0≤1125899906842624) (hb:n<2^39)
  (K:∀q' c' γ' s',Od s' q' (n+1) c' size (cs++new) γ'→q'≠none→Kp (fun c=>q≠none∧c=γ) s s'→((q≠none∧γ'=γ)∨γ'=s.nx)→Wd X all L ((some i,s')::past) (up d (.slice q' (n+1) c') env) df s' Q):Wd X all (.mk .acts i ⟨d,.call ⟨.builtin .append, #[x,y], #[t,u]⟩,ty,pos,af,g⟩ m::L) past env df s Q:=by
 obtain⟨N,l,gw,a,hN',e⟩:=hg
 have h0':0<size:=Nat.le_of_ble_eq_true h0
 by_cases hnN:n=N
 ·subst hnN
  have el:l=cs:=by rw [←e,List.take_of_length_le (by rw [gw.len];exact Nat.le_refl _)]
  subst el
  refine Wd.app2 (k:=1) hgd ht he hu hn h0 hd hx hy w gw hk hv (by omega) h1 hV hr (by omega) ?_
  intro q' c' γ' s' G k hγ
  refine K q' c' γ' s' ⟨_,_,G,Nat.le_refl _,by omega,List.take_of_length_le (by rw [G.len];exact Nat.le_refl _)⟩ (fun e=>?_) k hγ
  rcases G.at' with⟨_,e2,_⟩|⟨b,_,e2,_⟩
  ·omega
  ·rw [e2]at e;cases e
 ·rcases gw.at' with⟨_,e2,_⟩|⟨b,g',rfl,hb1,hb2,hc⟩
  ·omega
  ·have hcN:capOf c=N:=by
    rcases hc with rfl|rfl
    ·exact(cap_least (by omega)).1
    ·exact cap_sure.1
   have hmul:(n+1)*size≤N*size:=Nat.mul_le_mul_right _ (by omega)
   have hmul':(n+1)*size=n*size+size:=by rw [Nat.add_mul,Nat.one_mul]
   have hgl:=gw.len
   refine Wd.appd (k:=1) hgd ht he hu hn hd hx hy ⟨g',hb1,hb2⟩ hk hv (by omega) h1 hV hr (by omega) (by omega) (by omega) fun s' r n' k=>?_
   refine K _ _ γ s' ⟨N,lov l (n*size) new,⟨by rw [lov_length (by omega),gw.len],.inr ?_⟩,by omega,hN',?_⟩ (Option.some_ne_none _) (k.mono fun c e=>⟨Option.some_ne_none _,e⟩) (.inl ⟨Option.some_ne_none _,rfl⟩)
   ·obtain⟨g2,r1,r2⟩:=r
    exact⟨b,g2,rfl,r1,r2,hc⟩
   ·unfold lov
    rw [e,←List.append_assoc,List.take_append_of_le_length (by rw [List.length_append,←e,List.length_take];omega),List.take_of_length_le (by rw [List.length_append,←e,List.length_take];omega)]
end
end Go.Sy
namespace Go.Proofs.YtnbdpcpgckfeeaaGreatDoor
open Go Go.Ev Go.Sy
set_option maxRecDepth 100000
variable{s t:St}{q r:Option Addr}{c n b m P D:Nat}{A H k:List Nat}{K:List (List Nat)}{Bl:List Nat→Option (List Nat)}{C F:Nat→Prop}
theorem cget_ok(w:Wf s)(h:Hsv s P D b m K Bl C F)(hk:k.length=32)(hAl:∀A,Bl k=some A→A.length<2^40):
  Cl B (.call 41 [.pointer (some ⟨P,2,none⟩),hsh k]) s fun u s'=>Kn s s'∧((k∉K∧u= .tuple ⟨[.slice none 0 0,.bool false]⟩)∨∃A q c γx,k∈K∧Bl k=some A∧u= .tuple ⟨[.slice q A.length c,.bool true]⟩∧Sl s' q (A.map nB) γx∧s.nx≤γx):=by
 obtain⟨γ,γo,rc,rb,qo,co,MC,h⟩:=h
 refine Cl.enter Tryz.f41 fn41 rfl rfl rfl ?_
 have lk:(k.map nB).length=32:=by rw [List.length_map,hk]
 have gp:good (some (⟨P,2,none⟩:Addr)):=⟨_,_,rfl⟩
 refine run1 ?_
 refine mk_gen (s:=s) (cs:=k.map nB) (M:=fun s'=>W _ _ _ _ s' _) fun s1 r1 n1 k1=>?_
 have w1:=k1.wf w
 have h1:=h.kp w k1 fun _ _=>id
 have lc:ldq s1 (qadd (some ⟨P,2,none⟩) 2)=some (.map (some rc)):=h1.row.f1 (i:=4) rfl
 have lk1:=r1.all (n:=32) lk (by decide)
 have lkp:∀{env:Env} {y z:Operand},ev env y=some (.map (some rc))→ev env z=some (hsh k)→Xv ⟨B, 41,none, Tryz.f41.ntmps⟩ (.lookup 77 y z true) env s1 (.tuple ⟨[(mget k MC).getD (.slice none 0 0),.bool (mget k MC).isSome]⟩) s1:=fun hy hz=>Xv.look (X:=⟨B, 41,none, Tryz.f41.ntmps⟩) (ok:=true) (t:= 77) (key:= 26) (elt:= 23) (e:= 5) (z:=.slice none 0 0) rfl Hdm zd1 rfl hy hz hk h1.mc
 have g:=h1.get k
 cases hm:mget k MC with
 |none=>
  rw [hm]at g lkp
  refine W.dr [(0,.none,0),(1,.none,1),(2,.none,3),(3,.reads,7),(4,.reads,0),(5,.reads,31),(6,.none,63),(7,.none,127),(8,.none,127),(9,.none,255),(10,.none,1023)] (by kernel_rfl) rfl (run1 ?_)
  refine Wd.val rfl (Xv.nilC rfl) rfl (Nat.le_refl _) (run1 ?_)
  refine Wd.read rfl (Xv.ld rfl rfl rfl lc) rfl eqV_map ⟨Xv.ld rfl rfl rfl lc,trivial⟩ (run1 ?_)
  refine Wd.read rfl (Xv.ldN rfl rfl rfl lk1) rfl eqV_h ⟨Xv.ldN rfl rfl rfl lk1,trivial⟩ (run1 ?_)
  refine Wd.read rfl (lkp rfl rfl) rfl eqV_t2 ⟨lkp rfl rfl,trivial⟩ (run1 ?_)
  refine Wo.call rfl (Xc.call ok39 rfl) rfl (bclone0_ok.mono ?_)
  rintro u s' ⟨rfl,e'⟩;rw [e'];clear e' s'
  refine run1 ?_
  exact Lv.ret rfl ⟨k1,.inl ⟨g,rfl⟩⟩
 |some v=>
  rw [hm]at g lkp
  obtain⟨g1,A,qa,ca,γb,g2,rfl,g3,_⟩:=g
  refine W.dr [(0,.none,0),(1,.none,1),(2,.none,3),(3,.reads,7),(4,.reads,0),(5,.reads,31),(6,.none,63),(7,.none,127),(8,.none,127),(9,.none,255),(10,.none,1023)] (by kernel_rfl) rfl (run1 ?_)
  refine Wd.val rfl (Xv.nilC rfl) rfl (Nat.le_refl _) (run1 ?_)
  refine Wd.read rfl (Xv.ld rfl rfl rfl lc) rfl eqV_map ⟨Xv.ld rfl rfl rfl lc,trivial⟩ (run1 ?_)
  refine Wd.read rfl (Xv.ldN rfl rfl rfl lk1) rfl eqV_h ⟨Xv.ldN rfl rfl rfl lk1,trivial⟩ (run1 ?_)
  refine Wd.read rfl (lkp rfl rfl) rfl eqV_t2 ⟨lkp rfl rfl,trivial⟩ (run1 ?_)
  have:=hAl A g2
  refine Wo.call rfl (Xc.call ok39 rfl) rfl ((clone_ok w1 g3.at (by omega)).mono ?_)
  rintro u s2 ⟨q2,c2,γ2,rfl,G2,k2,lo⟩
  refine run1 ?_
  have:=k1.le
  exact Lv.ret rfl ⟨k1.call k2,.inr ⟨A,q2,c2,γ2,g1,g2,rfl,G2.sl,by omega⟩⟩
theorem hasOther_ok(w:Wf s)(h:Hsv s P D b m K Bl C F)(hk:k.length=32)(hno:k∉K):
  Cl B (.call 59 [.pointer (some ⟨P,2,none⟩),hsh k,.slice q n c]) s fun u s'=>Kn s s'∧u= .bool false:=by
 obtain⟨γ,γo,rc,rb,qo,co,MC,h⟩:=h
 refine Cl.enter Tryz.f59 fn59 rfl rfl rfl ?_
 have lk:(k.map nB).length=32:=by rw [List.length_map,hk]
 have gp:good (some (⟨P,2,none⟩:Addr)):=⟨_,_,rfl⟩
 refine run1 ?_
 refine mk_gen (s:=s) (cs:=k.map nB) (M:=fun s'=>W _ _ _ _ s' _) fun s1 r1 n1 k1=>?_
 have w1:=k1.wf w
 have h1:=h.kp w k1 fun _ _=>id
 have lc:ldq s1 (qadd (some ⟨P,2,none⟩) 2)=some (.map (some rc)):=h1.row.f1 (i:=4) rfl
 have lk1:=r1.all (n:=32) lk (by decide)
 have lkp:∀{env:Env} {y z:Operand},ev env y=some (.map (some rc))→ev env z=some (hsh k)→Xv ⟨B, 59,none, Tryz.f59.ntmps⟩ (.lookup 77 y z true) env s1 (.tuple ⟨[(mget k MC).getD (.slice none 0 0),.bool (mget k MC).isSome]⟩) s1:=fun hy hz=>Xv.look (X:=⟨B, 59,none, Tryz.f59.ntmps⟩) (ok:=true) (t:= 77) (key:= 26) (elt:= 23) (e:= 5) (z:=.slice none 0 0) rfl Hdm zd1 rfl hy hz hk h1.mc
 have g:=h1.get k
 cases hm:mget k MC with
 |some v=>rw [hm]at g;exact absurd g.1 hno
 |none=>
  rw [hm]at g lkp
  refine W.dr [(0,.none,0),(1,.none,1),(2,.none,3),(3,.reads,7),(4,.reads,0),(5,.reads,31),(6,.none,63),(7,.none,127),(8,.none,127),(9,.none,255),(10,.none,1023)] (by kernel_rfl) rfl (run1 ?_)
  refine Wd.val rfl (Xv.nilC rfl) rfl (Nat.le_refl _) (run1 ?_)
  refine Wd.read rfl (Xv.ld rfl rfl rfl lc) rfl eqV_map ⟨Xv.ld rfl rfl rfl lc,trivial⟩ (run1 ?_)
  refine Wd.read rfl (Xv.ldN rfl rfl rfl lk1) rfl eqV_h ⟨Xv.ldN rfl rfl rfl lk1,trivial⟩ (run1 ?_)
  refine Wd.read rfl (lkp rfl rfl) rfl eqV_t2 ⟨lkp rfl rfl,trivial⟩ (run1 ?_)
  exact Lv.ret rfl ⟨k1,rfl⟩
theorem empty_ok(w:Wf s)(h:Hsv s P D b m K Bl C F):
  Cl B (.call 42 [.pointer (some ⟨P,2,none⟩)]) s fun _ s'=> ∃C' F',Hsv s' P D b m [] Bl C' F'∧(∀c,F' c→F c)∧Kp C s s':=by
 obtain⟨γ,γo,rc,rb,qo,co,MC,h⟩:=h
 obtain⟨x1,x2,x3,x4⟩:=h.ne
 refine Cl.enter Tryz.f42 fn42 rfl rfl rfl ?_
 have gp:good (some (⟨P,2,none⟩:Addr)):=⟨_,_,rfl⟩
 refine run1 ?_
 refine Wo.val rfl (Xv.nilC rfl) rfl (run1 ?_)
 refine Wo.st (vs:=[.slice none 0 0]) rfl rfl rfl rfl rfl rfl rfl (by intro v hv;rw [List.mem_singleton.1 hv];rfl) h.row (by show 2+1+1≤6;decide) fun s1 r1 n1 k1=>?_
 change Rw s1 P (hsc D b m (.slice none 0 0) rc rb) _ at r1
 have w1:=k1.wf w
 have m1:=h.mc.kp w k1 (fun e=>x1 e.symm)
 have b1:=h.bad.kp w k1 (fun e=>x2 e.symm)
 have lc:ldq s1 (qadd (some ⟨P,2,none⟩) 2)=some (.map (some rc)):=r1.f1 (i:=4) rfl
 refine run1 ?_
 refine Wo.val rfl (Xv.nilC rfl) rfl (run1 ?_)
 refine Wo.clr rfl rfl rfl rfl m1 fun s2 m2 n2 k2=>run1 ?_
 have w2:=k2.wf w1
 refine Lv.nrm rfl ⟨fun c=>c=γ∨c=rc∨c=rb,F,⟨γ,0,rc,rb,none,0,[],r1.kp w1 k2 x1,.nil,m2,b1.kp w1 k2 (fun e=>x3 e.symm),fun k=>List.not_mem_nil,fun k h=>absurd h List.not_mem_nil,.nil,Nat.zero_le _,fun c=>⟨fun h=>?_,fun h=>?_⟩,fun c hc=>h.sub c ((h.col c).2 ?_),fun c hc=>Nat.lt_of_lt_of_le (h.old c hc) (Nat.le_trans k1.le k2.le),⟨x1,x2,x3,fun h=>absurd rfl h⟩⟩,fun _=>id,(k1.mono fun c e=>(h.col c).2 (.inl e)).trans (k2.mono fun c e=>(h.col c).2 (.inr (.inl e)))⟩
 ·rcases h with h|h|h
  ·exact .inl h
  ·exact .inr (.inl h)
  ·exact .inr (.inr (.inl h))
 ·rcases h with h|h|h|⟨h,_⟩
  ·exact .inl h
  ·exact .inr (.inl h)
  ·exact .inr (.inr h)
  ·exact absurd rfl h
 ·rcases hc with e|e|e
  ·exact .inl e
  ·exact .inr (.inl e)
  ·exact .inr (.inr (.inl e))
open Go Go.Ev Go.Sy
set_option maxRecDepth 100000
variable{s t:St}{q r:Option Addr}{c n b m P D:Nat}{A H k:List Nat}{K:List (List Nat)}{Bl:List Nat→Option (List Nat)}{C F:Nat→Prop}
def kup(m:Nat)(K:List (List Nat))(k:List Nat):List (List Nat):=if k∈K then K else if K.length+1≤m then K++[k]else(K++[k]).tail
theorem hs_mk{s':St}{γ γo rc rb co γ' c' γc cc:Nat}{qo q' qc:Option Addr}{MC MC':MpE}{K':List (List Nat)}(h:HsX s P D b m K MC Bl γ γo rc rb qo co C F)(kC:Kp (fun c=>C c∨s.nx≤c) s s')(w:Wf s)(_w':Wf s')(row':Rw s' P (hsc D b m (.slice q' K'.length c') rc rb) γ)(ord':Od s' q' K'.length c' 32 (K'.flatMap (·.map nB)) γ')(hγ:(qo≠none∧γ'=γo)∨(s.nx≤γ'∧γ'<s'.nx))(mc':Mp s' rc MC')(bad':Mp s' rb [])(hB:Bl k=some A)(hS:Sl s' qc (A.map nB) γc)(h1:s.nx≤γc)(h2:γc<s'.nx)(h3:γc≠γ')
  (hget:∀key,match mget key MC' with
   |none=>key∉K'
   |some v=>key∈K'∧(mget key MC=some v∨(key=k∧v= .slice qc A.length cc)))
  (keys':∀k∈K',k.length=32∧∀y∈k,y<256) (nod':K'.Nodup) (le':K'.length≤m):∃C' F',Hsv s' P D b m K' Bl C' F'∧(∀c,F' c→F c∨s.nx≤c)∧Kp C s s':=by
 obtain⟨x1,x2,x3,x4⟩:=h.ne
 have o1:=h.old _ (h.sub _ ((h.col γ).2 (.inl rfl)))
 have o2:=h.old _ (h.sub _ ((h.col rc).2 (.inr (.inl rfl))))
 have o3:=h.old _ (h.sub _ ((h.col rb).2 (.inr (.inr (.inl rfl)))))
 have o4:qo≠none→γo<s.nx:=fun e=>h.old _ (h.sub _ ((h.col γo).2 (.inr (.inr (.inr ⟨e,rfl⟩)))))
 have g':γ'<s'.nx:=by
  rcases hγ with⟨e,e2⟩|e
  ·have:=o4 e;have:=kC.le;omega
  ·exact e.2
 refine⟨fun c=>c=γ∨c=rc∨c=rb∨(q'≠none∧c=γ'),fun c=>F c∨c=γ'∨c=γc,⟨γ,γ',rc,rb,q',c',MC',row',ord',mc',bad',fun key=>?_,keys',nod',le',fun c=>Iff.rfl,fun c e=>?_,fun c e=>?_,⟨x1,x2,x3,fun _=>?_⟩⟩,fun c e=>?_,kC.low⟩
 ·have g:=hget key
  revert g
  cases mget key MC' with
  |none=>exact id
  |some v=>
   rintro⟨a,e|⟨rfl,rfl⟩⟩
   ·have g:=h.get key
    rw [e]at g
    obtain⟨_,A',q2,c2,γb,b1,b2,b3,b4,b5⟩:=g
    have o5:=h.old _ b4
    refine⟨a,A',q2,c2,γb,b1,b2,b3.kp w kC (fun e=>e.elim b5 fun e=>by omega),.inl b4,fun e=>?_⟩
    rcases e with e|e|e|⟨_,e⟩
    ·exact b5 ((h.col _).2 (.inl e))
    ·exact b5 ((h.col _).2 (.inr (.inl e)))
    ·exact b5 ((h.col _).2 (.inr (.inr (.inl e))))
    ·rcases hγ with⟨e1,e2⟩|⟨e1,_⟩
     ·exact b5 ((h.col _).2 (.inr (.inr (.inr ⟨e1,e.trans e2⟩))))
     ·omega
   ·refine⟨a,A,qc,cc,γc,hB,rfl,hS,.inr (.inr rfl),fun e=>?_⟩
    rcases e with e|e|e|⟨_,e⟩
    ·omega
    ·omega
    ·omega
    ·exact h3 e
 ·rcases e with e|e|e|⟨_,e⟩
  ·exact .inl (h.sub _ ((h.col _).2 (.inl e)))
  ·exact .inl (h.sub _ ((h.col _).2 (.inr (.inl e))))
  ·exact .inl (h.sub _ ((h.col _).2 (.inr (.inr (.inl e)))))
  ·exact .inr (.inl e)
 ·rcases e with e|e|e
  ·have:=h.old _ e;have:=kC.le;omega
  ·omega
  ·omega
 ·rcases hγ with⟨e,e2⟩|⟨e,_⟩
  ·rw [e2];exact x4 e
  ·exact⟨by omega,by omega,by omega⟩
 ·rcases e with e|e|e
  ·exact .inl e
  ·rcases hγ with⟨e1,e2⟩|⟨e1,_⟩
   ·rw [e,e2];exact .inl (h.sub _ ((h.col _).2 (.inr (.inr (.inr ⟨e1,rfl⟩)))))
   ·exact .inr (by omega)
  ·exact .inr (by omega)
theorem cadd_ok{δ:Nat}(w:Wf s)(h:Hsv s P D b m K Bl C F)(hk:k.length=32)(hkb:∀y∈k,y<256)(hB:Bl k=some A)(hA:Sl s q (A.map nB) δ)(hδ:¬C δ)(hAl:A.length<2^40)(hA0:0<A.length)(hm:m≤256):
  Cl B (.call 32 [.pointer (some ⟨P,2,none⟩),hsh k,.slice q A.length c]) s fun _ s'=> ∃C' F',Hsv s' P D b m (kup m K k) Bl C' F'∧(∀c,F' c→F c∨s.nx≤c)∧Kp C s s':=by
 obtain⟨γ,γo,rc,rb,qo,co,MC,h⟩:=h
 obtain⟨x1,x2,x3,x4⟩:=h.ne
 have cγ:C γ:=(h.col _).2 (.inl rfl)
 have crc:C rc:=(h.col _).2 (.inr (.inl rfl))
 have cγo:qo≠none→C γo:=fun e=>(h.col _).2 (.inr (.inr (.inr ⟨e,rfl⟩)))
 have o1:=h.old _ (h.sub _ cγ)
 have o2:=h.old _ (h.sub _ crc)
 have o3:=h.old _ (h.sub _ ((h.col rb).2 (.inr (.inr (.inl rfl)))))
 have o4:qo≠none→γo<s.nx:=fun e=>h.old _ (h.sub _ (cγo e))
 refine Cl.enter Tryz.f32 fn32 rfl rfl rfl ?_
 have lk:(k.map nB).length=32:=by rw [List.length_map,hk]
 have gp:good (some (⟨P,2,none⟩:Addr)):=⟨_,_,rfl⟩
 refine run1 ?_
 refine mk_gen (s:=s) (cs:=k.map nB) (M:=fun s'=>W _ _ _ _ s' _) fun s1 r1 n1 k1=>?_
 have w1:=k1.wf w
 have h1:=h.kp w k1 fun _ _=>id
 have lc:ldq s1 (qadd (some ⟨P,2,none⟩) 2)=some (.map (some rc)):=h1.row.f1 (i:=4) rfl
 have lk1:=r1.all (n:=32) lk (by decide)
 have lkp:∀{env:Env} {y z:Operand},ev env y=some (.map (some rc))→ev env z=some (hsh k)→Xv ⟨B, 32,none, Tryz.f32.ntmps⟩ (.lookup 77 y z true) env s1 (.tuple ⟨[(mget k MC).getD (.slice none 0 0),.bool (mget k MC).isSome]⟩) s1:=fun hy hz=>Xv.look (X:=⟨B, 32,none, Tryz.f32.ntmps⟩) (ok:=true) (t:= 77) (key:= 26) (elt:= 23) (e:= 5) (z:=.slice none 0 0) rfl Hdm zd1 rfl hy hz hk h1.mc
 have g:=h1.get k
 cases hmk:mget k MC with
 |some v=>
  rw [hmk]at g lkp
  obtain⟨g1,A',qa,ca,γb,g2,rfl,g3,_⟩:=g
  refine W.dr [(0,.none,0),(1,.none,1),(2,.none,3),(3,.reads,7),(4,.reads,0),(5,.reads,31),(6,.none,63),(7,.none,127),(8,.none,127),(9,.none,255),(10,.none,1023)] (by kernel_rfl) rfl (run1 ?_)
  refine Wd.val rfl (Xv.nilC rfl) rfl (Nat.le_refl _) (run1 ?_)
  refine Wd.read rfl (Xv.ld rfl rfl rfl lc) rfl eqV_map ⟨Xv.ld rfl rfl rfl lc,trivial⟩ (run1 ?_)
  refine Wd.read rfl (Xv.ldN rfl rfl rfl lk1) rfl eqV_h ⟨Xv.ldN rfl rfl rfl lk1,trivial⟩ (run1 ?_)
  refine Wd.read rfl (lkp rfl rfl) rfl eqV_t2 ⟨lkp rfl rfl,trivial⟩ (run1 ?_)
  refine Lv.ret rfl ⟨C,F,?_,fun c e=>.inl e,k1.mono fun _ e=>e.elim⟩
  rw [kup,if_pos g1]
  exact⟨γ,γo,rc,rb,qo,co,MC,h1⟩
 |none=>
  rw [hmk]at g lkp
  refine W.dr [(0,.none,0),(1,.none,1),(2,.none,3),(3,.reads,7),(4,.reads,0),(5,.reads,31),(6,.none,63),(7,.none,127),(8,.none,127),(9,.none,255),(10,.none,1023)] (by kernel_rfl) rfl (run1 ?_)
  refine Wd.val rfl (Xv.nilC rfl) rfl (Nat.le_refl _) (run1 ?_)
  refine Wd.read rfl (Xv.ld rfl rfl rfl lc) rfl eqV_map ⟨Xv.ld rfl rfl rfl lc,trivial⟩ (run1 ?_)
  refine Wd.read rfl (Xv.ldN rfl rfl rfl lk1) rfl eqV_h ⟨Xv.ldN rfl rfl rfl lk1,trivial⟩ (run1 ?_)
  refine Wd.read rfl (lkp rfl rfl) rfl eqV_t2 ⟨lkp rfl rfl,trivial⟩ (run1 ?_)
  have lo:ldq s1 (qadd (some ⟨P,2,none⟩) 1)=some (.slice qo K.length co):=h1.row.f1 (i:=3) rfl
  have hle:=h.le
  refine W.dr [(1,.none,0),(2,.none,2),(3,.none,6),(4,.reads,14),(5,.reads,0),(6,.makes,32),(7,.acts,126),(0,.none,0),(8,.none,255),(9,.none,511),(10,.acts,1023)] (by kernel_rfl) rfl (run1 ?_)
  refine Wd.val rfl (Xv.nilC rfl) rfl (Nat.le_refl _) (run1 ?_)
  refine Wd.read rfl (Xv.ldN rfl rfl rfl lk1) rfl eqV_h ⟨Xv.ldN rfl rfl rfl lk1,trivial⟩ (run1 ?_)
  refine Wd.make rfl (Xv.bsl (cs:=k.map nB) rfl rfl rfl (fillN_ofY (fill_cons (vs:=k.map nB) rfl rfl rfl lk one_nB (by decide) (congrArg some (lov_all lk))))) rfl (Nat.le_succ _) ?_
  refine mk_gen (s:=s1) (cs:=k.map nB) (M:=fun s'=>Wd _ _ _ _ _ _ s' _) fun s2 r2 n2 k2=>?_
  have w2:=k2.wf w1
  have h2:=h1.kp w1 k2 fun _ _=>id
  refine Wd.appo rfl rfl rfl rfl rfl rfl rfl rfl rfl w2 h2.ord rfl (cells_at (k:=1) (size:=32) r2.ats lk (by decide)) lk one_nB rfl (by omega) (by omega) ?_
  intro q3 c3 γ3 s3 O3 hq3 k3 hγ
  have w3:=k3.wf w2
  have e2:=k2.le
  have e3:=k3.le
  have h3row:Rw s3 P (hsc D b m (.slice qo K.length co) rc rb) γ:=h2.row.kp w2 k3 fun e=>(x4 e.1).1 e.2.symm
  refine run1 ?_
  refine Wd.val rfl (Xv.nilC rfl) rfl (Nat.le_refl _) (run1 ?_)
  refine Wd.st (vs:=[.slice q3 (K.length+1) c3]) rfl rfl rfl rfl rfl rfl rfl (by intro v hv;rw [List.mem_singleton.1 hv];rfl) h3row (by show 2+1+1≤6;decide) fun s4 r4 n4 k4=>?_
  change Rw s4 P (hsc D b m (.slice q3 (K.length+1) c3) rc rb) _ at r4
  have w4:=k4.wf w3
  have kk4:Kp (fun c=>C c∨s.nx≤c) s s4:=((k1.mono fun _ e=>e.elim).trans (k2.mono fun _ e=>e.elim)).trans ((k3.mono fun c e=>.inl (by rw [e.2];exact cγo e.1)).trans (k4.mono fun c e=>.inl (by rw [e];exact cγ)))
  have hne:∀c,c<s.nx→c≠γ→(qo≠none→c≠γo)→¬(C c∨s.nx≤c)∨c=rc∨c=rb:=fun c hc a1 a2=>by
   by_cases e1:c=rc
   ·exact .inr (.inl e1)
   by_cases e2:c=rb
   ·exact .inr (.inr e2)
   refine .inl fun e=>e.elim (fun e=>?_) fun e=>by omega
   rcases(h.col c).1 e with e|e|e|⟨e,e'⟩
   ·exact a1 e
   ·exact e1 e
   ·exact e2 e
   ·exact a2 e e'
  have k24:Kp (fun c=>c=γ∨(qo≠none∧c=γo)) s2 s4:=(k3.mono fun c e=>.inr e).trans (k4.mono fun c e=>.inl e)
  have mc4:Mp s4 rc MC:=h2.mc.kp w2 k24 (by rintro(e|⟨e,e'⟩);exact x1 e.symm;exact(x4 e).2.1 e'.symm)
  have bad4:Mp s4 rb []:=h2.bad.kp w2 k24 (by rintro(e|⟨e,e'⟩);exact x2 e.symm;exact(x4 e).2.2 e'.symm)
  have hA2:Sl s2 q (A.map nB) δ:=(hA.kp w k1 id).kp w1 k2 id
  have hA4:Sl s4 q (A.map nB) δ:=hA2.kp w2 k24 (by rintro(e|⟨e,e'⟩);exact hδ (e▸cγ);exact hδ (e'▸cγo e))
  have r14:Rw s4 s.nx (k.map nB) s.nx:=(r1.kp w1 k2 id).kp w2 k24 (by rintro(e|⟨e,e'⟩);omega;have:=o4 e;omega)
  have O4:Od s4 q3 (K.length+1) c3 32 (K.flatMap (·.map nB)++k.map nB) γ3:=O3.keep w3 k4 fun _ e=>by
   rcases hγ with⟨e1,e2⟩|e1
   ·exact(x4 e1).1 (e2.symm.trans e)
   ·omega
  have g3:γ3<s4.nx∧((qo≠none∧γ3=γo)∨s.nx≤γ3):=by
   rcases hγ with⟨e1,e2⟩|e1
   ·exact⟨by have:=o4 e1;omega,.inl ⟨e1,e2⟩⟩
   ·exact⟨by have:=k3.wf w2;obtain⟨N,l,G,_⟩:=O4;exact G.ltn w4 hq3,.inr (by omega)⟩
  refine run1 ?_
  refine W.dr [(5,.none,0),(6,.acts,32),(0,.none,0),(1,.none,1),(2,.none,3),(3,.reads,7),(4,.reads,0),(7,.acts,127)] (by kernel_rfl) rfl (run1 ?_)
  refine Wd.call rfl (Xc.call ok39 rfl) rfl ((clone_ok w4 hA4.at (by omega)).mono ?_)
  rintro u s5 ⟨qc,cc,γc,rfl,Gc,k5,loc⟩
  have w5:=k5.wf w4
  have e5:=k5.le
  have r15:=r14.kp w4 k5 id
  have r5:=r4.kp w4 k5 id
  have lc4:ldq s4 (qadd (some ⟨P,2,none⟩) 2)=some (.map (some rc)):=r4.f1 (i:=4) rfl
  have lc5:ldq s5 (qadd (some ⟨P,2,none⟩) 2)=some (.map (some rc)):=r5.f1 (i:=4) rfl
  have lk4:=r14.all (n:=32) lk (by decide)
  have lk5:=r15.all (n:=32) lk (by decide)
  refine⟨k5.le,run1 ?_⟩
  refine Wd.val rfl (Xv.nilC rfl) rfl (Nat.le_refl _) (run1 ?_)
  refine Wd.read rfl (Xv.ld rfl rfl rfl lc5) rfl eqV_map ⟨Xv.ld rfl rfl rfl lc5,Xv.ld rfl rfl rfl lc4,trivial⟩ (run1 ?_)
  refine Wd.read rfl (Xv.ldN rfl rfl rfl lk5) rfl eqV_h ⟨Xv.ldN rfl rfl rfl lk5,Xv.ldN rfl rfl rfl lk4,trivial⟩ (run1 ?_)
  refine Wd.put rfl rfl rfl Hdm rfl rfl rfl hk hkb (mc4.kp w4 k5 id) fun s6 M6 n6 k6=>run1 ?_
  have w6:=k6.wf w5
  have e4:=k4.le
  have e6:=k6.le
  have r6:Rw s6 P (hsc D b m (.slice q3 (K.length+1) c3) rc rb) γ:=r5.kp w5 k6 x1
  have O6:Od s6 q3 (K.length+1) c3 32 (K.flatMap (·.map nB)++k.map nB) γ3:=(O4.keep w4 k5 fun _=>id).keep w5 k6 fun _ e=>by
   rcases g3.2 with⟨a1,a2⟩|a1
   ·exact(x4 a1).2.1 (a2.symm.trans e)
   ·omega
  have bad6:Mp s6 rb []:=(bad4.kp w4 k5 id).kp w5 k6 fun e=>x3 e.symm
  have ltc:γc<s5.nx:=Gc.ltn w5 (by rintro rfl;rcases Gc.at' with⟨_,e,_⟩|⟨_,_,e,_⟩;omega;cases e)
  have Sc6:Sl s6 qc (A.map nB) γc:=Gc.sl.kp w5 k6 (by omega)
  have kk6:Kp (fun c=>C c∨s.nx≤c) s s6:=(kk4.trans (k5.mono fun _ e=>e.elim)).trans (k6.mono fun c e=>.inl (e▸crc))
  have efl:(K++[k]).flatMap (·.map nB)=K.flatMap (·.map nB)++k.map nB:=by simp
  have lo6:ldq s6 (qadd (some ⟨P,2,none⟩) 1)=some (.slice q3 (K.length+1) c3):=r6.f1 (i:=3) rfl
  have lm6:ldq s6 (qadd (some ⟨P,2,none⟩) 0)=some (nI m):=r6.f1 (i:=2) rfl
  have hkeys:∀y∈K++[k],y.length=32∧∀z∈y,z<256:=fun y hy=>by
   rcases List.mem_append.1 hy with e|e
   ·exact h.keys y e
   ·rw [List.mem_singleton.1 e];exact⟨hk,hkb⟩
  have hnod:(K++[k]).Nodup:=List.nodup_append.2 ⟨h.nod,by simp,fun a ha c hc=>by
   rw [List.mem_singleton.1 hc];rintro rfl;exact g ha⟩
  have hget1:∀key,match mget key (mput k (.slice qc A.length cc) MC)with
    |none=>key∉K++[k]
    |some v=>key∈K++[k]∧(mget key MC=some v∨(key=k∧v= .slice qc A.length cc)):=fun key=>by
   rw [mget_put]
   by_cases e:key=k
   ·rw [if_pos e];exact⟨by rw [e];simp,.inr ⟨e,rfl⟩⟩
   ·rw [if_neg e]
    have g:=h.get key
    revert g
    cases hmm:mget key MC with
    |none=>intro g;rw [List.mem_append,List.mem_singleton];exact fun a=>a.elim g e
    |some v=>intro g;exact⟨List.mem_append_left _ g.1,.inl rfl⟩
  refine W.dr [(0,.none,0),(1,.none,1),(2,.none,3),(3,.reads,7),(4,.none,15),(5,.none,0),(6,.none,32),(7,.none,96),(8,.reads,224),(9,.none,511)] (by kernel_rfl) rfl ?_
  by_cases hfit:m<K.length+1
  ·refine run1 ?_
   refine Wd.val rfl (Xv.nilC rfl) rfl (Nat.le_refl _) (run1 ?_)
   refine Wd.val rfl (Xv.nilC rfl) rfl (Nat.le_refl _) (run1 ?_)
   obtain⟨x,rest,hx⟩:∃x rest,K++[k]=x::rest:=by
    cases hK:K++[k]with
    |nil=>simp at hK
    |cons x rest=>exact⟨x,rest,rfl⟩
   have hkup:kup m K k=rest:=by rw [kup,if_neg g,if_neg (by omega),hx];rfl
   have lrest:rest.length=K.length:=by
    have:=congrArg List.length hx
    rw [List.length_append,List.length_cons,List.length_cons,List.length_nil]at this;omega
   rw [hx]at hkeys hnod hget1
   have lx:=(hkeys x (by simp)).1
   have ecs:K.flatMap (·.map nB)++k.map nB=x.map nB++rest.flatMap (·.map nB):=by rw [←efl,hx,List.flatMap_cons]
   rw [ecs]at O6
   have lc6:ldq s6 (qadd (some ⟨P,2,none⟩) 2)=some (.map (some rc)):=r6.f1 (i:=4) rfl
   have gq3:good q3:=by
    obtain⟨N,l,G,_⟩:=O6
    rcases G.at' with⟨e,_⟩|⟨b3,_,e,_⟩
    ·exact absurd e hq3
    ·exact⟨b3,0,e⟩
   have lx6:ldn s6 (qadd q3 (0*32)) 32=some (x.map nB):=by
    rw [O6.at.ldn (i:=0*32) (n:=32) (by rw [O6.len];omega) (by decide),Nat.zero_mul,List.drop_zero,List.take_append_of_le_length (by rw [List.length_map,lx];omega),List.take_of_length_le (by rw [List.length_map,lx];omega)]
   have zpos:0<K.length+1:=Nat.succ_pos _
   refine W.dr [(0,.none,0),(1,.none,1),(2,.none,3),(3,.reads,7),(4,.none,0),(5,.none,16),(6,.none,48),(7,.reads,112),(8,.none,240),(9,.reads,496),(10,.acts,1023)] (by kernel_rfl) rfl (run1 ?_)
   refine Wd.val rfl (Xv.nilC rfl) rfl (Nat.le_refl _) (run1 ?_)
   refine Wd.read rfl (Xv.ld rfl rfl rfl lc6) rfl eqV_map ⟨Xv.ld rfl rfl rfl lc6,trivial⟩ (run1 ?_)
   refine Wd.val rfl (Xv.nilC rfl) rfl (Nat.le_refl _) (run1 ?_)
   refine Wd.read rfl (Xv.ldN rfl rfl rfl lx6) rfl eqV_h ⟨Xv.ldN rfl rfl rfl lx6,trivial⟩ (run1 ?_)
   refine Wd.del rfl rfl rfl Hdm rfl rfl lx M6 fun s7 M7 n7 k7=>run1 ?_
   have w7:=k7.wf w6
   have e7:=k7.le
   have r7:=r6.kp w6 k7 x1
   have nγ:γ3≠γ∧γ3≠rc∧γ3≠rb:=by
    rcases g3.2 with⟨a1,a2⟩|a1
    ·rw [a2];exact x4 a1
    ·exact⟨by omega,by omega,by omega⟩
   obtain⟨N,l,G7,a1,a2,el⟩:=O6.keep w6 k7 fun _ e=>nγ.2.1 e
   obtain⟨b3,gg,rfl,gb1,gb2,gc⟩:∃b g,q3=some ⟨b,0,none⟩∧s7.hp.get b=some (.row l g)∧grpOf g b=γ3∧(c3=least N 32∨c3=Ev.sure N):=by
    rcases G7.at' with⟨e,_⟩|e
    ·exact absurd e hq3
    ·exact e
   have lo7:ldq s7 (qadd (some ⟨P,2,none⟩) 1)=some (.slice (some ⟨b3,0,none⟩) (K.length+1) c3):=r7.f1 (i:=3) rfl
   have edr:(l.take ((K.length+1)*32)).drop 32=rest.flatMap (·.map nB):=by
    rw [el,List.drop_append_of_le_length (by rw [List.length_map,lx];omega),List.drop_of_length_le (by rw [List.length_map,lx];omega),List.nil_append]
   have ones:∀v∈(l.take ((K.length+1)*32)).drop 32,Ev.one v=true:=fun v hv=>by
    rw [edr]at hv
    obtain⟨y,_,hy⟩:=List.mem_flatMap.1 hv
    exact one_nB v hy
   refine Wo.val rfl (Xv.nilC rfl) rfl (run1 ?_)
   refine Wo.call rfl (Xc.call ok62 rfl) rfl ((hdel_ok (N:=N) (γ:=γ3) (l:=l) ⟨gg,gb1,gb2⟩ G7.len (by omega) (by omega) a1 gc ones).mono ?_)
   rintro v s8 ⟨rfl,⟨l',r8,l8,el8⟩,n8,k8⟩
   have w8:=k8.wf w7
   have O8:Od s8 (some ⟨b3,0,none⟩) rest.length c3 32 (rest.flatMap (·.map nB)) γ3:=by
    obtain⟨g8,r81,r82⟩:=r8
    refine⟨N,l',⟨l8,.inr ⟨b3,g8,rfl,r81,r82,gc⟩⟩,by omega,a2,?_⟩
    rw [←edr,←el8,lrest];rfl
   refine run1 ?_
   refine Wo.val rfl (Xv.nilC rfl) rfl (run1 ?_)
   refine Wo.st (vs:=[.slice (some ⟨b3,0,none⟩) K.length c3]) rfl rfl rfl rfl rfl rfl rfl (by intro v hv;rw [List.mem_singleton.1 hv];rfl) (r7.kp w7 k8 (fun e=>nγ.1 e.symm)) (by show 2+1+1≤6;decide) fun s9 r9 n9 k9=>?_
   change Rw s9 P (hsc D b m (.slice (some ⟨b3,0,none⟩) K.length c3) rc rb) _ at r9
   rw [←lrest]at r9
   have w9:=k9.wf w8
   have k79:Kp (fun c=>c=γ3∨c=γ) s7 s9:=(k8.mono fun c e=>.inl e).trans (k9.mono fun c e=>.inr e)
   have kk9:Kp (fun c=>C c∨s.nx≤c) s s9:=(kk6.trans (k7.mono fun c e=>.inl (e▸crc))).trans (k79.mono fun c e=>by
    rcases e with e|e
    ·rcases g3.2 with⟨b1,b2⟩|b1
     ·exact .inl (by rw [e,b2];exact cγo b1)
     ·exact .inr (by omega)
    ·exact .inl (e▸cγ))
   have e9:=k79.le
   have ncc:γc≠γ3∧γc≠γ∧γc≠rc:=⟨by omega,by omega,by omega⟩
   rw [hkup]
   refine run1 ?_
   refine Lv.nrm rfl (hs_mk (cc:=cc) h kk9 w w9 r9 (O8.keep w8 k9 fun _ e=>nγ.1 e) (g3.2.imp id fun e=>⟨e,by omega⟩) ((M7.kp w7 k8 (fun e=>nγ.2.1 e.symm)).kp w8 k9 (fun e=>x1 e.symm)) ((bad6.kp w6 k7 (fun e=>x3 e.symm)).kp w7 k79 (by rintro(e|e);exact nγ.2.2 e.symm;exact x2 e.symm)) hB ((Sc6.kp w6 k7 ncc.2.2).kp w7 k79 (by rintro(e|e);exact ncc.1 e;exact ncc.2.1 e)) (by omega) (by omega) ncc.1 (fun key=>?_) (fun y hy=>hkeys y (List.mem_cons_of_mem _ hy)) (List.nodup_cons.1 hnod).2 (by omega))
   rw [mget_del M6.nodup]
   by_cases e:key=x
   ·rw [if_pos e];exact fun a=>(List.nodup_cons.1 hnod).1 (e▸a)
   ·rw [if_neg e]
    have g:=hget1 key
    revert g
    cases mget key (mput k (.slice qc A.length cc) MC)with
    |none=>exact fun a b=>a (List.mem_cons_of_mem _ b)
    |some v=>exact fun a=>⟨(List.mem_cons.1 a.1).resolve_left e,a.2⟩
  ·refine run1 ?_
   refine Wd.val rfl (Xv.nilC rfl) rfl (Nat.le_refl _) (run1 ?_)
   refine Wd.val rfl (Xv.nilC rfl) rfl (Nat.le_refl _) (run1 ?_)
   have hkup:kup m K k=K++[k]:=by rw [kup,if_neg g,if_pos (by omega)]
   have lK1:(K++[k]).length=K.length+1:=by rw [List.length_append];rfl
   rw [hkup]
   refine Lv.nrm rfl (hs_mk (cc:=cc) h kk6 w w6 (by rw [lK1];exact r6) (by rw [lK1,efl];exact O6) (g3.2.imp id fun e=>⟨e,by omega⟩) M6 bad6 hB Sc6 (by omega) (by omega) (by omega) hget1 hkeys hnod (by rw [lK1];omega))
end Go.Proofs.YtnbdpcpgckfeeaaGreatDoor
