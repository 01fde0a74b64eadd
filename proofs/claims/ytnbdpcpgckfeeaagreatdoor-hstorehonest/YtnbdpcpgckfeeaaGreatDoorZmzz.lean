import Derived.Test.YtnbdpcpgckfeeaaGreatDoorZlzz
namespace Go.Sy
open Go Go.Ev
theorem Kp.ob{s:St}{r:Nat}{o o':Ob}(h:s.hp.get r=some o)(h1:∀cs g,o≠ .row cs g)(h2:o≠ .dead)(h3:∀cs g,o'≠ .row cs g):Kp (fun γ=>γ=r) s (.mk (s.hp.set o' r) s.nx s.gr):=by
 have hg:∀m,(St.mk (s.hp.set o' r) s.nx s.gr).hp.get m=if m=r then some o' else s.hp.get m:=fun m=>get_set' _ s.hp r m
 have hc:∀q:Ob,(∀cs g,q≠ .row cs g)→colr r q=r:=fun q hq=>by
  cases q<;>first|rfl|exact absurd rfl (hq _ _)
 refine⟨Nat.le_refl _,fun w=>⟨fun b q hb=>?_,fun g ms m q hgr hm hb=>?_,fun b cs hb=>?_,fun b cs g hb hg0=>?_,fun b cs g hb=>?_,w.glt,w.mlt,w.one⟩,fun w b q hb hcq=>?_⟩
 ·rw [hg]at hb
  split at hb
  ·rename_i e;cases hb;subst e
   have:=(w.lt b o h).1
   rw [hc o' h3];exact⟨this,this⟩
  ·exact w.lt b q hb
 ·rw [hg]at hb
  split at hb
  ·rename_i e;subst e
   rcases w.mem g ms m _ hgr hm h with a|⟨cs,a⟩
   ·exact absurd a h2
   ·exact absurd a (h1 _ _)
  ·exact w.mem g ms m q hgr hm hb
 ·rw [hg]at hb
  split at hb
  ·cases hb;exact absurd rfl (h3 _ _)
  ·exact w.zero b cs hb
 ·rw [hg]at hb
  split at hb
  ·cases hb;exact absurd rfl (h3 _ _)
  ·exact w.tag b cs g hb hg0
 ·rw [hg]at hb
  split at hb
  ·cases hb;exact absurd rfl (h3 _ _)
  ·exact w.pos b cs g hb
 ·rw [hg]
  split
  ·rename_i e;subst e
   rw [h]at hb
   cases hb
   exact absurd (hc o h1) hcq
  ·exact hb
section
variable{X:Fx}{env:Env}{df:List Deferred}{s:St}{Q:Post}
theorem W.rf0{f:Operand}{ps:Array Tmp}{asx bd:Code}{g:FuncId}{y:List Value}(w:Wf s)(hrd:X.rd=none)(hf:ev env f=some (.func (.func g) #[] ⟨y⟩))(hok:callOk X.P g=true)
  (h:∀s2 r l,Kn s s2→s2.hp.get r=some (.dfr (some []))→s.nx≤r→Cl X.B (.call g (.func (.yield l) #[] #[]::y)) s2 fun _ s3=>Kn s2 s3∧∀s4,Kn s s4→s4.hp.get r=some (.dfr (some []))→Q .normal env (⟨.collected r, #[]⟩::df) s4):W X (.rangeFunc f ps asx bd) env df s Q:=by
 constructor;intro tm hft
 obtain⟨hp,nx,gr⟩:=s
 have d1:∃s1,s1=St.mk (hp.set (.dfr (some [])) nx) (nx+1) gr:=⟨_,rfl⟩
 obtain⟨s1,e1⟩:=d1
 have k1:Kn (.mk hp nx gr) s1:=by rw [e1];exact Kn.new (s:=.mk hp nx gr) fun _ _ h=>by cases h
 have w1:=k1.wf w
 obtain⟨lo,elo⟩:∃lo:Ob,lo= .loop ⟨.ready,none,X.fn, #[],ps,asx,bd,nx⟩ X.nt tm:=⟨_,rfl⟩
 obtain⟨s2,e2⟩:∃s2,s2=St.mk (s1.hp.set lo s1.nx) (s1.nx+1) s1.gr:=⟨_,rfl⟩
 have k2:Kn s1 s2:=by rw [e2];exact Kn.new fun _ _ h=>by rw [elo]at h;cases h
 have w2:=k2.wf w1
 have g1:s1.hp.get nx=some (.dfr (some [])):=by rw [e1];show (hp.set _ nx).get nx=_;rw [get_set',if_pos rfl]
 have g2:s2.hp.get nx=some (.dfr (some [])):=k2.kp w1 _ _ g1 id
 have gl:s2.hp.get s1.nx=some lo:=by rw [e2];show (s1.hp.set lo s1.nx).get s1.nx=_;rw [get_set',if_pos rfl]
 obtain⟨v,s3,hev,k3,hQ⟩:=h s2 nx s1.nx (k1.call k2) g2 (Nat.le_refl _)
 have g3:s3.hp.get s1.nx=some lo:=k3.kp w2 _ _ gl id
 have n1:s1.nx=nx+1:=by rw [e1];rfl
 obtain⟨s4,e4⟩:∃s4,s4=St.mk (s3.hp.set (.loop ⟨.exhausted,none,X.fn, #[],ps,asx,bd,nx⟩ X.nt tm) s1.nx) s3.nx s3.gr:=⟨_,rfl⟩
 have k4:Kp (fun c=>c=s1.nx) s3 s4:=by rw [e4];exact Kp.ob g3 (fun _ _ h=>by rw [elo]at h;cases h) (fun h=>by rw [elo]at h;cases h) (fun _ _ h=>by cases h)
 have k04:Kn (.mk hp nx gr) s4:=(((k1.call k2).call k3).mono fun _ e=>e.elim).trans (k4.mono fun c e=>.inr (show nx≤c by omega)) |>.low
 have w3:=k3.wf w2
 have g4:s4.hp.get nx=some (.dfr (some [])):=k4.kp w3 _ _ (k3.kp w2 _ _ g2 id) (by show ¬nx=s1.nx;omega)
 refine⟨.normal,env,tm,_,s4,hev.mono fun m hm=>?_,hft,hQ s4 k04 g4⟩
 show rangeC X.P (run X.P X.hook m) X.fn X.rd f ps asx bd (.mk X.nt tm df) (.mk hp nx gr)=_
 unfold rangeC
 rw [hrd]
 show (match newO (.mk hp nx gr) (.dfr (some [])) (fun r s=>some (r,s))with
  |some (r,s)=>rangeIn X.P (run X.P X.hook m) X.fn f ps asx bd r (.mk X.nt tm (⟨.collected r, #[]⟩::df)) s
  |none=>.no)=_
 rw [newO_ok]
 show rangeIn X.P (run X.P X.hook m) X.fn f ps asx bd nx (.mk X.nt tm (⟨.collected nx, #[]⟩::df)) (.mk (hp.set (.dfr (some [])) nx) (nx+1) gr)=_
 rw [←e1]
 unfold rangeIn
 show (match newO s1 (.loop ⟨.ready,none,X.fn, #[],ps,asx,bd,nx⟩ X.nt tm) (fun l s=>some (l,s))with
  |none=>Rc.no
  |some (l,s)=>rangeF X.P (run X.P X.hook m) l (.mk X.nt tm (⟨.collected nx, #[]⟩::df)) (opd tm f) s)=_
 rw [newO_ok,←elo]
 show rangeF X.P (run X.P X.hook m) s1.nx (.mk X.nt tm (⟨.collected nx, #[]⟩::df)) (opd tm f) (.mk (s1.hp.set lo s1.nx) (s1.nx+1) s1.gr)=_
 rw [←e2,ev_opd hft hf]
 show rangeK (run X.P X.hook m) s1.nx (.mk X.nt tm (⟨.collected nx, #[]⟩::df)) (callV X.P g (appO [] (.func (.yield s1.nx) #[] #[]::y)) s2)=_
 rw [appO_eq,List.nil_append,callV_ok hok]
 show (match run X.P X.hook m (.call g (.func (.yield s1.nx) #[] #[]::y)) s2 with
  | .no=>Rc.no
  | .ok _ s=>endLoop s1.nx (.mk X.nt tm (⟨.collected nx, #[]⟩::df)) s)=_
 rw [show run X.P X.hook m (.call g (.func (.yield s1.nx) #[] #[]::y)) s2= .ok v s3 from hm]
 show endLoop s1.nx (.mk X.nt tm (⟨.collected nx, #[]⟩::df)) s3=_
 obtain⟨hp3,nx3,gr3⟩:=s3
 unfold endLoop
 rw [elo]at g3
 simp only[show hp3.get s1.nx=_ from g3]
 rw [setO_ok,e4];rfl
end
structure LvC(B:Bx)(rs:List ResultVar)(Q:Value→St→Prop)(e:Ex)(env:Env)(df:List Deferred)(s:St):Prop where
 h:(e= .normal∨e= .ret)∧∃r,df=[⟨.collected r, #[]⟩]∧s.hp.get r=some (.dfr (some []))∧∃vs,resE B.P env (.mk (s.hp.set (.dfr none) r) s.nx s.gr) rs=some vs∧Q (rv vs) (.mk (s.hp.set (.dfr none) r) s.nx s.gr)
theorem Cl.enterC{B:Bx}{f:FuncId}(fn:Func){c:Code}{args:List Value}{s:St}{Q:Value→St→Prop}(hf:B.P.funcs[f]? =some fn)(hk:B.hook f=none)(hb:fn.body=some c)(hn:entOk fn args.length=true)
  (h:W ⟨B,f,none,fn.ntmps⟩ c (argsE args 0) [] s (LvC B fn.results.toList Q)):Cl B (.call f args) s Q:=by
 have hn0:=hn
 unfold entOk at hn
 simp only[Bool.and_eq_true]at hn
 have h1:args.length≤fn.ntmps:=Nat.le_of_ble_eq_true hn.1
 have h2:fn.ntmps<4611686018427387904:=Nat.le_of_ble_eq_true hn.2
 obtain⟨e,env',tm',df',s',⟨n,k1⟩,k2,⟨he,r,rfl,g,vs,j2,j3⟩⟩:=h.w _ (fits_args args (by omega))
 refine⟨rv vs,_,⟨n+1,fun m hm=>?_⟩,j3⟩
 obtain⟨m,rfl⟩:∃k,m=k+1:=⟨m-1,by omega⟩
 show (match B.hook f with|some h=>orElse (h args s) (Ev.enter B.P (run B.P B.hook m) f args) s|none=>Ev.enter B.P (run B.P B.hook m) f args s)=_
 rw [hk]
 show Ev.enter B.P (run B.P B.hook m) f args s=_
 have a:=k1 m (by omega)
 unfold Ev.enter
 simp only[hf,hb]
 unfold entOk at hn0
 simp only[hn0,cond]
 have a':code B.P (run B.P B.hook m) f none c (.mk fn.ntmps (argsTr args 0 .nil) []) s= .ok e (.mk fn.ntmps tm' [⟨.collected r, #[]⟩]) s':=a
 rw [a']
 have hd:deferred B.P (run B.P B.hook m) 100 [⟨.collected r, #[]⟩] s'=some (.mk (s'.hp.set (.dfr none) r) s'.nx s'.gr):=by
  obtain⟨hp,nx,gr⟩:=s'
  unfold deferred
  simp only[show hp.get r=_ from g,setO_ok]
  rfl
 have hl:leave B.P (run B.P B.hook m) fn.results.toList (.mk fn.ntmps tm' [⟨.collected r, #[]⟩]) s'= .ok (rv vs) (.mk (s'.hp.set (.dfr none) r) s'.nx s'.gr):=by
  unfold leave
  simp only[hd,resE_ok k2 j2,rvOf_rv]
 rcases he with rfl|rfl<;>exact hl
section
variable{X:Fx}{env:Env}{s:St}
theorem Xv.rng0{t t0 n0 key elt r:Nat}{z0:Option (List Value)}{x:Operand}(ht:tk X.B.T t=some ⟨t0,n0,.mp key elt,z0⟩)(hx:ev env x=some (.map (some r)))(hm:Mp s r []):
  ∃s' c,Xv X (.range t x) env s (.pointer (some ⟨s.nx,0,none⟩)) s'∧s'.hp.get s.nx=some (.iter (some r) c [] c)∧Kn s s':=by
 have hu:X.P.underlying t=some (.map key elt):=X.B.un ht
 obtain⟨l,c,h1,h2,_,_⟩:=hm
 refine⟨.mk (s.hp.set (.iter (some r) c [] c) s.nx) (s.nx+1) s.gr,c,fun tm hf=>?_,?_,Kn.new (fun _ _ h=>by cases h)⟩
 ·show xRange X.P t (opd tm x) s=_
  rw [ev_opd hf hx]
  obtain⟨hp,nx,gr⟩:=s
  unfold xRange
  simp only[hu,show hp.get r=_ from h1]
  rw [newO_ok];rfl
 ·show (s.hp.set _ s.nx).get s.nx=_
  rw [get_set',if_pos rfl]
theorem Xv.nx0{b r c:Nat}{x:Operand}(hx:ev env x=some (.pointer (some ⟨b,0,none⟩)))(hm:Mp s r [])(hi:s.hp.get b=some (.iter (some r) c [] c)):Xv X (.next x false) env s (.tuple ⟨[.bool false]⟩) s:=fun tm hf=>by
 obtain⟨l,c',h1,h2,_,_⟩:=hm
 obtain rfl:l=[]:=List.map_eq_nil_iff.1 h2
 show xNext (opd tm x) false s=_
 rw [ev_opd hf hx]
 obtain⟨hp,nx,gr⟩:=s
 unfold xNext
 simp only[show hp.get b=_ from hi,show hp.get r=_ from h1]
 rfl
theorem Xv.ixStr{t:TypeId}{x y:Operand}{u:ByteArray}{k:IntKind}{n:Int}{v:Value}(hx:ev env x=some (.string u))(hy:ev env y=some (.int k n))(hv:ofPure X.P (Instr.index t (.string u) (.int k n)) s= .ok (.val v) s):Xv X (.index t x y) env s v s:=fun tm hf=>by
 show xIndex X.P t (opd tm x) (opd tm y) s=_
 rw [ev_opd hf hx,ev_opd hf hy]
 exact hv
theorem Wo.rng0{df:List Deferred}{Q:Post}{all os:List Oper}{d:Option Nat}{ty:TypeId}{pos:String}{af:Array Edge}{g:Option (Nat×Bool)}{t t0 n0 key elt r:Nat}{z0:Option (List Value)}{x:Operand}(hg:wantsE all env g=some true)(hd:dOk X d=true)(ht:tk X.B.T t=some ⟨t0,n0,.mp key elt,z0⟩)(hx:ev env x=some (.map (some r)))(hm:Mp s r [])
  (K:∀s' c,s'.hp.get s.nx=some (.iter (some r) c [] c)→Kn s s'→Wo X all os (up d (.pointer (some ⟨s.nx,0,none⟩)) env) df s' Q):Wo X all (⟨d,.range t x,ty,pos,af,g⟩::os) env df s Q:=by
 obtain⟨s',c,a,b,e⟩:=Xv.rng0 (X:=X) (env:=env) ht hx hm
 exact Wo.val hg a hd (K s' c b e)
end
end Go.Sy
namespace Go.Proofs.YtnbdpcpgckfeeaaGreatDoor
open Go Go.Ev Go.Sy
set_option maxRecDepth 100000
variable{s t:St}{γ r:Nat}
theorem each0_ok{p l:Nat}(w:Wf s)(hp:Rw s p [.map (some r)] γ)(hm:Mp s r []):
  Cl B (.call 76 [.func (.yield l) #[] #[],.pointer (some ⟨p,0,none⟩)]) s fun _ s'=>Kn s s':=by
 refine Cl.enter Tryz.f76 fn76 rfl rfl rfl ?_
 have l0:ldq s (some ⟨p,0,none⟩)=some (.map (some r)):=hp.f1 (i:=0) rfl
 refine run1 ?_
 refine Wo.rng0 rfl rfl rfl rfl hm fun s1 c i1 k1=>run1 ?_
 have m1:=hm.kp w k1 id
 refine W.loop (α:=Unit) (fun _=>[(5,.pointer (some ⟨s.nx,0,none⟩))]) (fun _=>[]) (fun _=>s1) (fun _=>True) (fun _=>0) () trivial (.cons rfl .nil) rfl rfl (by decide) ?_
 rintro _ _
 refine run1 ?_
 refine Wo.val rfl (Xv.nx0 rfl m1 i1) rfl (run1 ?_)
 exact Lv.nrm (vs:=[]) rfl k1
abbrev mkq(p:Nat):Value:=.func (.func 76) #[] #[.pointer (some ⟨p,0,none⟩)]
theorem apseq0_ok{p:Nat}(w:Wf s)(hp:Rw s p [.map (some r)] γ)(hm:Mp s r []):
  Cl B (.call 97 [.slice none 0 0,mkq p]) s fun v s'=>v= .slice none 0 0∧Kn s s':=by
 refine Cl.enterC Tryz.f97 fn97 rfl rfl rfl ?_
 refine run1 ?_
 refine mk_gen (s:=s) (cs:=[.slice none 0 0]) (M:=fun s'=>W _ _ _ _ s' _) fun s1 r1 n1 k1=>?_
 have w1:=k1.wf w
 refine W.rf0 w1 rfl rfl rfl fun s2 r' l k2 g2 lr=>(each0_ok (k2.wf w1) ((hp.kp w k1 id).kp w1 k2 id) ((hm.kp w k1 id).kp w1 k2 id)).mono ?_
 rintro v s3 k3
 refine⟨k3,fun s4 k4 g4=>?_⟩
 have r4:=r1.kp w1 k4 id
 have l4:ldq s4 (some ⟨s.nx,0,none⟩)=some (.slice none 0 0):=r4.f1 (i:=0) rfl
 refine run1 ?_
 have e1:=k1.le
 have kf:Kp (fun c=>c=r') s4 (.mk (s4.hp.set (.dfr none) r') s4.nx s4.gr):=Kp.ob g4 (fun _ _ h=>by cases h) (fun h=>by cases h) (fun _ _ h=>by cases h)
 exact⟨.inr rfl,r',rfl,g4,[.slice none 0 0],rfl,rfl,(((k1.call k4).mono fun _ e=>e.elim).trans (kf.mono fun c e=>.inr (by omega))).low⟩
theorem collect0_ok{p:Nat}(w:Wf s)(hp:Rw s p [.map (some r)] γ)(hm:Mp s r []):
  Cl B (.call 74 [mkq p]) s fun v s'=>v= .slice none 0 0∧Kn s s':=by
 refine Cl.enter Tryz.f74 fn74 rfl rfl rfl ?_
 refine run1 ?_
 refine Wo.call rfl (Xc.call ok97 rfl) rfl ((apseq0_ok w hp hm).mono ?_)
 rintro v s1 ⟨rfl,k1⟩
 refine run1 ?_
 exact Lv.ret rfl ⟨rfl,k1⟩
theorem len64_ok:Cl B (.call 125 [.int .u64 0]) s fun v s'=>v=nI 0∧s'=s:=by
 refine Cl.enter Tryz.f125 fn125 rfl rfl rfl ?_
 refine run1 ?_
 refine Wo.val rfl (Xv.ixStr (v:=.int .u8 (.ofNat 0)) rfl rfl rfl) rfl (run1 ?_)
 exact Lv.ret rfl ⟨rfl,rfl⟩
theorem len0_ok:Cl B (.call 99 [.int .u64 0]) s fun v s'=>v=nI 0∧s'=s:=by
 refine Cl.enter Tryz.f99 fn99 rfl rfl rfl ?_
 refine run1 ?_
 refine Wo.call rfl (Xc.call ok125 rfl) rfl (len64_ok.mono ?_)
 rintro v s' ⟨rfl,e'⟩;rw [e'];clear e' s'
 refine run1 ?_
 exact Lv.ret rfl ⟨rfl,rfl⟩
theorem ins0_ok{f:Value}:Cl B (.call 116 [.slice none 0 0,nI 0,nI 0,f]) s fun _ s'=>s'=s:=by
 refine Cl.enter Tryz.f116 fn116 rfl rfl rfl ?_
 refine run1 ?_
 refine W.loop (α:=Unit) (fun _=>[(2,nI 0),(8,nI 1)]) (fun _=>[]) (fun _=>s) (fun _=>True) (fun _=>0) () trivial (.cons rfl (.cons rfl .nil)) rfl rfl (by decide) ?_
 rintro _ _
 refine run1 ?_
 exact Lv.nrm (vs:=[]) rfl rfl
theorem pdq0_ok{f:Value}{n:Nat}:Cl B (.call 98 [.slice none 0 0,nI 0,nI 0,nI n,f]) s fun _ s'=>s'=s:=by
 refine Cl.enter Tryz.f98 fn98 rfl rfl rfl ?_
 refine run1 ?_
 refine W.loop (α:=Unit) (fun _=>[(0,.slice none 0 0),(1,nI 0),(2,nI 0),(4,f)]) (fun _=>[]) (fun _=>s) (fun _=>True) (fun _=>0) () trivial (.cons rfl (.cons rfl (.cons rfl (.cons rfl .nil)))) rfl rfl (by decide) ?_
 rintro _ _
 refine run1 ?_
 refine Wo.call rfl (Xc.call ok116 rfl) rfl (ins0_ok.mono ?_)
 rintro v s' e';rw [e'];clear e' s'
 refine run1 ?_
 exact Lv.ret (vs:=[]) rfl rfl
theorem sort0_ok{f:Value}:Cl B (.call 75 [.slice none 0 0,f]) s fun _ s'=>s'=s:=by
 refine Cl.enter Tryz.f75 fn75 rfl rfl rfl ?_
 refine run1 ?_
 refine Wo.call rfl (Xc.call ok99 rfl) rfl (len0_ok.mono ?_)
 rintro v s' ⟨rfl,e'⟩;rw [e'];clear e' s'
 refine run1 ?_
 refine Wo.call rfl (Xc.call ok98 rfl) rfl (pdq0_ok.mono ?_)
 rintro v s' e';rw [e'];clear e' s'
 refine run1 ?_
 exact Lv.nrm (vs:=[]) rfl rfl
theorem keysH_no{p:Nat}{f:Value}:keysH [mkq p,f] s= .no:=by
 unfold keysH
 rw [dif_neg]
 rintro⟨_,g⟩
 have:=g.a
 injection this with e _
 injection e with e _ _
 injection e with e
 exact absurd e (by decide)
theorem sorted0_ok{p:Nat}{f:Value}(w:Wf s)(hp:Rw s p [.map (some r)] γ)(hm:Mp s r []):
  Cl B (.call 44 [mkq p,f]) s fun v s'=>v= .slice none 0 0∧Kn s s':=by
 refine Cl.enterN Tryz.f44 fn44 (show B.hook _=some keysH from rfl) keysH_no rfl rfl ?_
 refine run1 ?_
 refine Wo.call rfl (Xc.call ok74 rfl) rfl ((collect0_ok w hp hm).mono ?_)
 rintro v s1 ⟨rfl,k1⟩
 refine run1 ?_
 refine Wo.call rfl (Xc.call ok75 rfl) rfl (sort0_ok.mono ?_)
 rintro v s' e';rw [e'];clear e' s'
 refine run1 ?_
 exact Lv.ret rfl ⟨rfl,k1⟩
theorem qkeys_ok(_w:Wf s):Cl B (.call 45 [.map (some r)]) s fun v s'=>v=mkq s.nx∧Rw s' s.nx [.map (some r)] s.nx∧Kn s s':=by
 refine Cl.enter Tryz.f45 fn45 rfl rfl rfl ?_
 refine run1 ?_
 refine mk_gen (s:=s) (cs:=[.map (some r)]) (M:=fun s'=>Wo _ _ _ _ _ s' _) fun s1 r1 n1 k1=>?_
 refine Wo.val rfl (Xv.mkF (vs:=[]) (ws:=[.pointer (some ⟨s.nx,0,none⟩)]) rfl rfl rfl) rfl (run1 ?_)
 exact Lv.ret rfl ⟨rfl,r1,k1⟩
theorem quar_ok:QOk:=by
 intro s D b P P' m m' u nb Bl Nt K K' F w h
 refine Cl.enter Tryz.f19 fn19 rfl rfl rfl ?_
 have gp:good (some (⟨P,0,none⟩:Addr)):=⟨_,_,rfl⟩
 obtain⟨Cs,Fs,⟨γ,γo,rc,rb,qo,co,MC,hx⟩,_,_⟩:=h.sto w
 have lb:ldq s (qadd (some ⟨P,0,none⟩) 5)=some (.map (some rb)):=hx.row.f1 rfl
 refine run1 ?_
 refine Wo.val rfl (Xv.pEq rfl rfl rfl) rfl (run1 ?_)
 refine Wo.val rfl (Xv.nilC rfl) rfl (run1 ?_)
 refine Wo.call rfl (Xc.call ok45 rfl) rfl ((qkeys_ok w).mono ?_)
 rintro v s1 ⟨rfl,r1,k1⟩
 refine run1 ?_
 refine Wo.call rfl (Xc.call ok44 rfl) rfl ((sorted0_ok (k1.wf w) r1 (hx.bad.kp w k1 id)).mono ?_)
 rintro v s2 ⟨rfl,k2⟩
 refine run1 ?_
 exact Lv.ret rfl ⟨rfl,k1.call k2⟩
end Go.Proofs.YtnbdpcpgckfeeaaGreatDoor
