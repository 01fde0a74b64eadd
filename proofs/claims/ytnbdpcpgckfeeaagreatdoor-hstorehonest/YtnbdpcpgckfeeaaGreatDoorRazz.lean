import Derived.Test.YtnbdpcpgckfeeaaGreatDoorBbzz
import Derived.Test.YtnbdpcpgckfeeaaGreatDoorWnzz
import Derived.Test.YtnbdpcpgckfeeaaGreatDoorKjzz
import Derived.Test.YtnbdpcpgckfeeaaGreatDoorSszz
namespace Go.Proofs.YtnbdpcpgckfeeaaGreatDoor
open Go Go.Ev Go.Sy
set_option maxRecDepth 100000
variable{s:St}{q r:Option Addr}{c d:Nat}{M N:List Nat}
theorem clone_ok(w:Wf s)(ha:Bs s q M)(hA:M.length<2^47-1024):
  Cl B (.call 39 [.slice q M.length c]) s fun v s'=> ∃q' c' γ,v= .slice q' M.length c'∧Gw s' q' M.length c' 1 (M.map nB) γ∧Kn s s'∧s.nx≤γ:=by
 refine Cl.enter Tryz.f39 fn39 rfl rfl rfl ?_
 by_cases hq:q=none
 ·refine run1 ?_
  subst hq
  have hM:=ha.nil_of
  subst hM
  exact Lv.ret rfl ⟨none,0,s.nx,rfl,Gw.nil,.refl,Nat.le_refl _⟩
 ·refine run1 ?_
  refine Wo.app rfl rfl rfl rfl rfl rfl rfl rfl rfl (mkRow_wf w) (Gw.mk0 rfl) rfl (ha.kn w mkRow_kn).cells (by simp) one_nB rfl (by omega) (by omega) ?_
  intro q' c' γ' s' h1 h2 h3
  refine run1 ?_
  refine Lv.ret rfl ⟨q',c',γ',?_,by rwa[Nat.zero_add]at h1,Kn.app mkRow_kn h2 (Nat.le_refl _),?_⟩
  ·show Value.slice q' (0+M.length) c'=_;rw [Nat.zero_add]
  ·rcases h3 with h|⟨h,_⟩
   ·exact Nat.le_of_eq h.symm
   ·rw [h];exact Nat.le_succ _
open Go Go.Ev Go.Sy
set_option maxRecDepth 100000
variable{s:St}{q r:Option Addr}{c d D γ rb rv rs:Nat}{A H:List Nat}{L cs:List Value}{M:MpE}{v:Value}
theorem Hdm:HT B.P 26 5 :=⟨B.un (t:= 26) rfl,B.un (t:= 5) rfl,B.sz (t:= 5) rfl⟩
theorem zd1:zeroOf B.P 23 =some (.slice none 0 0):=by kernel_rfl
theorem zd2:zeroOf B.P 22 =some (.slice none 0 0):=by kernel_rfl
theorem zd3:zeroOf B.P 113 =some (.slice none 0 0):=by kernel_rfl
def zh:List Nat:=List.replicate 32 0
def rqc(k:Nat)(h:List Nat)(v:Value):List Value:=nI k::(h.map nB++v::nI 0::nI 0::zh.map nB)
theorem rq_len{k:Nat}(h:H.length=32):(rqc k H v).length=68:=by unfold rqc zh;simp[h]
theorem rq_0{k:Nat}:(rqc k H v)[0]? =some (nI k):=rfl
theorem rq_h{k:Nat}(h:H.length=32):((rqc k H v).drop 1).take 32=H.map nB:=by
 unfold rqc
 rw [List.drop_succ_cons,List.drop_zero,List.take_append_of_le_length (by simp[h]),List.take_of_length_le (by simp[h])]
theorem rq_b{k:Nat}(h:H.length=32):(rqc k H v)[33]? =some v:=by
 unfold rqc
 rw [List.getElem?_cons_succ,List.getElem?_append_right (by simp[h])]
 simp[h]
theorem unless_ok{b:Bool}{e:Nat}:Cl B (.call 158 [.bool b,nI e]) s fun u s'=>u=nI (if b then 0 else e)∧s'=s:=by
 refine Cl.enter Tryz.f158 fn158 rfl rfl rfl ?_
 cases b with
 |true=>refine run1 ?_;exact Lv.ret rfl ⟨rfl,rfl⟩
 |false=>refine run1 ?_;exact Lv.ret rfl ⟨rfl,rfl⟩
theorem eqV_map{r:Option Nat}:eqV 5 (.map r) (.map r)=true:=by
 show (r==r)=true
 exact beq_self_eq_true r
theorem eqV_t2{q:Option Addr}{n c:Nat}{b:Bool}:eqV 5 (.tuple ⟨[.slice q n c,.bool b]⟩) (.tuple ⟨[.slice q n c,.bool b]⟩)=true:=by
 show eqL (eqV 4) [.slice q n c,.bool b] [.slice q n c,.bool b]=true
 have e:eqV 4 (.bool b) (.bool b)=true:=by cases b<;>rfl
 simp[eqL,eqV4,e]
theorem Xv.look2{X:Fx}{env:Env}{s:St}{x y:Operand}{t t0 n0 key e elt r:Nat}{z0:Option (List Value)}{h:List Nat}{M:MpE}(ht:tk X.B.T t=some ⟨t0,n0,.mp key elt,z0⟩)(H:HT X.P key e)(hz:zeroOf X.P elt=some (.slice none 0 0))
  (hx:ev env x=some (.map (some r))) (hy:ev env y=some (hsh h)) (hl:h.length=32) (hm:Mp s r M) {q:Option Addr} {n c:Nat} (hv:(mget h M).getD (.slice none 0 0)= .slice q n c):
  Xv X (.lookup t x y true) env s (.tuple ⟨[.slice q n c,.bool (mget h M).isSome]⟩) s:=by
 have:=Xv.look (X:=X) (env:=env) (ok:=true) ht H hz rfl hx hy hl hm
 rw [hv]at this
 exact this
def Sls(M:MpE):Prop:= ∀k v,mget k M=some v→∃q n c,v= .slice q n c
theorem Sls.get{k:List Nat}(h:Sls M):∃q n c,(mget k M).getD (.slice none 0 0)= .slice q n c:=by
 cases hk:mget k M with
 |none=>exact⟨none,0,0,rfl⟩
 |some v=>obtain⟨q,n,c,rfl⟩:=h k v hk;exact⟨q,n,c,rfl⟩
theorem refG_ok(w:Wf s)(hD:Rw s D L γ)(hb:L[2]? =some (.map (some rb)))(hM:Mp s rb M)(hS:Sls M)(hH:H.length=32):Cl B (.call 150 [.pointer (some ⟨D,0,none⟩),.agg ⟨rqc 1 H v⟩]) s fun u s'=>
  u=nI (if(mget H M).isSome then 0 else 81)∧Kn s s':=by
 refine Cl.enter Tryz.f150 fn150 rfl rfl rfl ?_
 refine run1 ?_
 refine mk_gen (s:=s) (cs:=rqc 1 H v) (M:=fun s'=>W _ _ _ _ s' _) fun s1 r1 n1 k1=>?_
 obtain⟨q0,n0,c0,e0⟩:=hS.get (k:=H)
 have w1:=k1.wf w
 have hD1:=hD.kp w k1 id
 have hM1:=hM.kp w k1 id
 have l2:ldq s1 (qadd (some ⟨D,0,none⟩) 2)=some (.map (some rb)):=hD1.f1 hb
 have lkd:ldq s1 (qadd (some ⟨s.nx,0,none⟩) 0)=some (nI 1):=r1.f1 rq_0
 have lh:ldn s1 (qadd (some ⟨s.nx,0,none⟩) 1) 32=some (H.map nB):=by
  rw [r1.fn (by rw [rq_len hH];decide) (by decide),rq_h hH]
 have gp:good (some (⟨s.nx,0,none⟩:Addr)):=⟨_,_,rfl⟩
 have gd:good (some (⟨D,0,none⟩:Addr)):=⟨_,_,rfl⟩
 refine W.dr [(0,.none,0),(1,.none,1),(2,.none,3),(3,.reads,7),(4,.none,0),(5,.reads,16),(6,.reads,63),(7,.none,127),(8,.none,255),(9,.none,255),(10,.none,511),(11,.none,2047)] (by kernel_rfl) rfl ?_
 refine run1 ?_
 refine Wd.val rfl (Xv.nilC rfl) rfl (Nat.le_refl _) (run1 ?_)
 have lk:∀{env:Env} {x y:Operand},ev env x=some (.map (some rb))→ev env y=some (hsh H)→Xv ⟨B, 150,none, Tryz.f150.ntmps⟩ (.lookup 77 x y true) env s1 (.tuple ⟨[.slice q0 n0 c0,.bool (mget H M).isSome]⟩) s1:=fun hx hy=>Xv.look2 (key:= 26) (elt:= 23) (e:= 5) rfl Hdm zd1 hx hy hH hM1 e0
 refine Wd.read rfl (Xv.ld rfl rfl rfl l2) rfl eqV_map ⟨Xv.ld rfl rfl rfl l2,trivial⟩ (run1 ?_)
 refine Wd.read rfl (Xv.ldN rfl rfl rfl lh) rfl eqV_h ⟨Xv.ldN rfl rfl rfl lh,trivial⟩ ?_
 refine Wd.read rfl (lk rfl rfl) rfl eqV_t2 ⟨lk rfl rfl,trivial⟩ ?_
 generalize (mget H M).isSome=g
 refine run1 ?_
 refine Wo.call rfl (Xc.call ok158 rfl) rfl ((unless_ok (s:=s1) (b:=g) (e:=81)).mono ?_)
 rintro u s2 ⟨rfl,e2⟩
 subst e2
 refine run1 ?_
 exact Lv.ret rfl ⟨rfl,k1⟩
theorem refP_ok{l:Nat}(w:Wf s)(hD:Rw s D L γ)(hb:L[2]? =some (.map (some rb)))(h0:L[0]? =some (nI l))(hM:Mp s rb M)(hS:Sls M)(hH:H.length=32)(hl:M.length<l):Cl B (.call 150 [.pointer (some ⟨D,0,none⟩),.agg ⟨rqc 2 H v⟩]) s fun u s'=>
  u=nI 0∧Kn s s':=by
 refine Cl.enter Tryz.f150 fn150 rfl rfl rfl ?_
 refine run1 ?_
 refine mk_gen (s:=s) (cs:=rqc 2 H v) (M:=fun s'=>W _ _ _ _ s' _) fun s1 r1 n1 k1=>?_
 obtain⟨q0,n0,c0,e0⟩:=hS.get (k:=H)
 have w1:=k1.wf w
 have hD1:=hD.kp w k1 id
 have hM1:=hM.kp w k1 id
 have l2:ldq s1 (qadd (some ⟨D,0,none⟩) 2)=some (.map (some rb)):=hD1.f1 hb
 have l0:ldq s1 (qadd (some ⟨D,0,none⟩) 0)=some (nI l):=hD1.f1 h0
 have lkd:ldq s1 (qadd (some ⟨s.nx,0,none⟩) 0)=some (nI 2):=r1.f1 rq_0
 have lh:ldn s1 (qadd (some ⟨s.nx,0,none⟩) 1) 32=some (H.map nB):=by
  rw [r1.fn (by rw [rq_len hH];decide) (by decide),rq_h hH]
 have gp:good (some (⟨s.nx,0,none⟩:Addr)):=⟨_,_,rfl⟩
 have gd:good (some (⟨D,0,none⟩:Addr)):=⟨_,_,rfl⟩
 refine W.dr [(0,.none,0),(1,.none,1),(2,.none,3),(3,.reads,7),(4,.none,0),(5,.reads,16),(6,.reads,63),(7,.none,127),(8,.none,255),(9,.none,255),(10,.none,511),(11,.none,2047)] (by kernel_rfl) rfl ?_
 refine run1 ?_
 refine Wd.val rfl (Xv.nilC rfl) rfl (Nat.le_refl _) (run1 ?_)
 have lk:∀{env:Env} {x y:Operand},ev env x=some (.map (some rb))→ev env y=some (hsh H)→Xv ⟨B, 150,none, Tryz.f150.ntmps⟩ (.lookup 77 x y true) env s1 (.tuple ⟨[.slice q0 n0 c0,.bool (mget H M).isSome]⟩) s1:=fun hx hy=>Xv.look2 (key:= 26) (elt:= 23) (e:= 5) rfl Hdm zd1 hx hy hH hM1 e0
 refine Wd.read rfl (Xv.ld rfl rfl rfl l2) rfl eqV_map ⟨Xv.ld rfl rfl rfl l2,trivial⟩ (run1 ?_)
 refine Wd.read rfl (Xv.ldN rfl rfl rfl lh) rfl eqV_h ⟨Xv.ldN rfl rfl rfl lh,trivial⟩ ?_
 refine Wd.read rfl (lk rfl rfl) rfl eqV_t2 ⟨lk rfl rfl,trivial⟩ ?_
 generalize (mget H M).isSome=g
 refine run1 ?_
 refine W.dr [(0,.none,0),(1,.none,1),(2,.none,3),(3,.none,7),(4,.none,15),(5,.reads,31),(6,.reads,63),(7,.none,3),(8,.none,131),(9,.none,387),(10,.reads,899),(11,.none,2047),(12,.none,4095),(13,.acts,8191),(14,.none,16383)] (by kernel_rfl) rfl ?_
 cases g with
 |true=>
  refine run1 ?_
  refine Wd.call rfl (Xc.call ok158 rfl) rfl ((unless_ok (s:=s1) (b:=true) (e:=6)).mono ?_)
  rintro u s2 ⟨rfl,e2⟩
  subst e2
  refine⟨Nat.le_refl _,run1 ?_⟩
  exact Lv.ret rfl ⟨rfl,k1⟩
 |false=>
  refine run1 ?_
  refine Wd.val rfl (Xv.nilC rfl) rfl (Nat.le_refl _) (run1 ?_)
  refine Wd.read rfl (Xv.ld rfl rfl rfl l2) rfl eqV_map ⟨Xv.ld rfl rfl rfl l2,trivial⟩ ?_
  refine Wd.read rfl (Xv.lenM rfl rfl hM1) rfl eqV_int ⟨Xv.lenM rfl rfl hM1,trivial⟩ (run1 ?_)
  refine Wd.val rfl (Xv.nilC rfl) rfl (Nat.le_refl _) (run1 ?_)
  refine Wd.call rfl (Xc.call ok158 rfl) rfl ((unless_ok (s:=s1) (b:=decide (M.length<l)) (e:=6)).mono ?_)
  rintro u s2 ⟨rfl,e2⟩
  subst e2
  rw [decide_eq_true hl]
  refine⟨Nat.le_refl _,run1 ?_⟩
  exact Lv.ret rfl ⟨rfl,k1⟩
theorem mayG_ok(_w:Wf s)(_hH:H.length=32):Cl B (.call 101 [.agg ⟨rqc 1 H v⟩]) s fun u s'=>u= .bool true∧Kn s s':=by
 refine Cl.enter Tryz.f101 fn101 rfl rfl rfl ?_
 refine run1 ?_
 refine mk_gen (s:=s) (cs:=rqc 1 H v) (M:=fun s'=>Wo _ _ _ _ _ s' _) fun s1 r1 n1 k1=>?_
 have lkd:ldq s1 (qadd (some ⟨s.nx,0,none⟩) 0)=some (nI 1):=r1.f1 rq_0
 have gp:good (some (⟨s.nx,0,none⟩:Addr)):=⟨_,_,rfl⟩
 refine run1 ?_
 exact Lv.ret rfl ⟨rfl,k1⟩
theorem mayP_ok{n:Nat}(_w:Wf s)(hH:H.length=32)(hn:n≤1024):Cl B (.call 101 [.agg ⟨rqc 2 H (.slice q n c)⟩]) s fun u s'=>u= .bool true∧Kn s s':=by
 refine Cl.enter Tryz.f101 fn101 rfl rfl rfl ?_
 refine run1 ?_
 refine mk_gen (s:=s) (cs:=rqc 2 H (.slice q n c)) (M:=fun s'=>Wo _ _ _ _ _ s' _) fun s1 r1 n1 k1=>?_
 have lkd:ldq s1 (qadd (some ⟨s.nx,0,none⟩) 0)=some (nI 2):=r1.f1 rq_0
 have l33:ldq s1 (qadd (some ⟨s.nx,0,none⟩) 33)=some (.slice q n c):=r1.f1 (rq_b hH)
 have gp:good (some (⟨s.nx,0,none⟩:Addr)):=⟨_,_,rfl⟩
 refine run1 ?_
 exact Lv.ret rfl ⟨congrArg Value.bool (decide_eq_true hn),k1⟩
theorem next_ok(w:Wf s)(hD:Rw s D L γ)(h6:L[38]? =some (.slice none 0 0)):Cl B (.call 102 [.pointer (some ⟨D,0,none⟩)]) s fun u s'=>u= .agg ⟨[nI 0,nI 0,nI 0]⟩∧Kn s s':=by
 refine Cl.enter Tryz.f102 fn102 rfl rfl rfl ?_
 refine run1 ?_
 refine mk_gen (s:=s) (cs:=[nI 0,nI 0,nI 0]) (M:=fun s'=>Wo _ _ _ _ _ s' _) fun s1 r1 n1 k1=>?_
 have w1:=k1.wf w
 have l:ldq s1 (qadd (some ⟨D,0,none⟩) 38)=some (.slice none 0 0):=(hD.kp w k1 id).f1 h6
 have gd:good (some (⟨D,0,none⟩:Addr)):=⟨_,_,rfl⟩
 refine Wo.val rfl (Xv.nilC rfl) rfl (run1 ?_)
 refine Wo.st (vs:=[nI 0,nI 0,nI 0]) rfl rfl rfl rfl rfl rfl rfl (by intro v hv;simp at hv;subst hv;rfl) r1 (by decide) fun s2 r2 n2 k2=>?_
 rw [lov_all rfl]at r2
 refine run1 ?_
 have hcl:=cell_at (B:=B) (t:= 110) rfl rfl r2 rfl rfl
 refine Lv.ret (vs:=[.agg ⟨[nI 0,nI 0,nI 0]⟩]) ?_ ⟨rfl,k1.app k2 (Nat.le_refl _)⟩
 show (match cell1 B.P (.pointer (some ⟨s.nx,0,none⟩)) 110 s2,some []with|some v,some vs=>some (v::vs)|_,_=>none)=_
 rw [hcl]
theorem time_ok{n:Nat}(hD:Rw s D L γ)(h6:L[42]? =some (.slice q n c)):Cl B (.call 141 [.pointer (some ⟨D,0,none⟩)]) s fun u s'=>u=nI n∧s'=s:=by
 refine Cl.enter Tryz.f141 fn141 rfl rfl rfl ?_
 have l:ldq s (qadd (some ⟨D,0,none⟩) 42)=some (.slice q n c):=hD.f1 h6
 have gd:good (some (⟨D,0,none⟩:Addr)):=⟨_,_,rfl⟩
 refine run1 ?_
 refine Wo.val rfl (Xv.nilC rfl) rfl (run1 ?_)
 exact Lv.ret rfl ⟨rfl,rfl⟩
abbrev fv(n:Nat):Value:=.func (.func n) #[] #[]
def dds:List Value:=let h:=fv 126;let c:=fv 135;let a:=fv 137;let b:=fv 134;let p:=fv 130
 [h,h,h,h,fv 127,fv 128,h,h,fv 129,p,p,h,fv 131,fv 132,fv 133,h,b,b,b,h,c,fv 136,c,h,c,c,c,c,a,a,a,a]
theorem deeds_ok(_w:Wf s):Cl B (.call 103 []) s fun u s'=>u= .agg ⟨dds⟩∧Kn s s':=by
 refine Cl.enter Tryz.f103 fn103 rfl rfl rfl ?_
 refine run1 ?_
 refine Wo.val rfl (Xv.buildA (cs:=dds) rfl rfl rfl) rfl (run1 ?_)
 generalize hs1:mkRow s _=s1
 have k1:Kn s s1:=hs1▸mkRow_kn
 have r1:Rw s1 s.nx _ s.nx:=hs1▸mkRow_rw
 refine Wo.st (vs:=dds) rfl rfl rfl rfl rfl rfl rfl (by decide) r1 (by decide) fun s2 r2 n2 k2=>?_
 change Rw s2 s.nx dds s.nx at r2
 refine run1 ?_
 have hcl:=cell_at (B:=B) (t:= 171) rfl rfl r2 rfl rfl
 refine Lv.ret (vs:=[.agg ⟨dds⟩]) ?_ ⟨rfl,k1.app k2 (Nat.le_refl _)⟩
 show (match cell1 B.P (.pointer (some ⟨s.nx,0,none⟩)) 171 s2,some []with|some v,some vs=>some (v::vs)|_,_=>none)=_
 rw [hcl]
theorem to1_ok{a b c e:Value}{k:Nat}(_w:Wf s)(hk:k=1∨k=2)(_ha:Ev.one a=true)(_hb:Ev.one b=true):Cl B (.call 104 [.agg ⟨[a,b,c,e]⟩,nI k]) s fun u s'=>u=(if k=1 then a else b)∧Kn s s':=by
 refine Cl.enter Tryz.f104 fn104 rfl rfl rfl ?_
 have r1:Rw (mkRow s [a,b,c,e]) s.nx [a,b,c,e] s.nx:=mkRow_rw
 have l0:ldq (mkRow s [a,b,c,e]) (qadd (some ⟨s.nx,0,none⟩) 0)=some a:=r1.f1 rfl
 have l1:ldq (mkRow s [a,b,c,e]) (qadd (some ⟨s.nx,0,none⟩) 1)=some b:=r1.f1 rfl
 have gp:good (some (⟨s.nx,0,none⟩:Addr)):=⟨_,_,rfl⟩
 rcases hk with rfl|rfl
 ·refine run1 ?_
  exact Lv.ret rfl ⟨rfl,mkRow_kn⟩
 ·refine run1 ?_
  exact Lv.ret rfl ⟨rfl,mkRow_kn⟩
open Go Go.Ev Go.Sy
set_option maxRecDepth 100000
variable{s:St}{p γ δ n c:Nat}{q:Option Addr}{w:W8}{R M A:List Nat}{E:List Value}
theorem fwN_add:∀{k j:Nat} {w:W8} {l:List Nat},fwN (k+j) w l=fwN j (fwN k w l) (l.drop (k*64))
 |0,j,w,l=>by rw [Nat.zero_add,Nat.zero_mul,List.drop_zero];rfl
 |k+1,j,w,l=>by
  rw [show k+1+j=(k+j)+1 by omega]
  show fwN (k+j) (Dg.eb w (l.take 64)) (l.drop 64)=fwN j (fwN k (Dg.eb w (l.take 64)) (l.drop 64)) (l.drop ((k+1)*64))
  rw [fwN_add,List.drop_drop,show 64+k*64=(k+1)*64 by omega]
theorem fwN_left:∀{k:Nat} {w:W8} {l r:List Nat},k*64≤l.length→fwN k w (l++r)=fwN k w l
 |0,_,_,_,_=>rfl
 |k+1,w,l,r,h=>by
  show fwN k (Dg.eb w ((l++r).take 64)) ((l++r).drop 64)=fwN k (Dg.eb w (l.take 64)) (l.drop 64)
  rw [List.take_append_of_le_length (by omega),List.drop_append_of_le_length (by omega),fwN_left (by rw [List.length_drop];omega)]
def mw(M:List Nat):W8:=fwN (M.length/64) Dg.H0 M
def mr(M:List Nat):List Nat:=M.drop (M.length/64*64)
def shaOf(M:List Nat):List Nat:=sumN (fwN ((M.length%64+(padL M.length).length)/64) (mw M) (mr M++padL M.length)) 8
theorem shaOf_length:(shaOf M).length=32:=sumN_length
theorem mw_app:fwN ((M.length%64+A.length)/64) (mw M) (mr M++A)=mw (M++A):=by
 unfold mw mr
 rw [show (M++A).length/64=M.length/64+(M.length%64+A.length)/64 by rw [List.length_append];omega,fwN_add (l:=M++A),fwN_left (k:=M.length/64) (l:=M) (r:=A) (by omega),List.drop_append_of_le_length (by omega)]
theorem mr_app:(mr M++A).drop ((M.length%64+A.length)/64*64)=mr (M++A):=by
 unfold mr
 rw [←List.drop_append_of_le_length (by omega),List.drop_drop,List.length_append]
 congr 1;omega
def Msg(s:St)(p γ:Nat)(E:List Value)(M:List Nat):Prop:= ∃R,Sst s p γ E (mw M) R M.length∧R.take (M.length%64)=mr M
theorem msg_write(w0:Wf s)(hT:∀s',Kp (fun c=>c=γ) s s'→TabAt s')(h:Msg s p γ E M)(hd:Sl s q (A.map nB) δ)(hne:δ≠γ)(hc:Cap A.length c 1)(hA:∀x∈A,x<256)(hn:M.length<2^60)(hl:A.length<2^60):
  Cl B (.call 66 [.pointer (some ⟨p,0,none⟩),.slice q A.length c]) s fun _ s'=>Msg s' p γ E (M++A)∧s'.nx=s.nx∧Kp (fun c=>c=γ) s s':=by
 obtain⟨R,h1,h2⟩:=h
 refine(write_ok w0 hT h1 hd hne hc hA hn hl).mono ?_
 rintro v s' ⟨⟨R',k1,k2⟩,k3,k4⟩
 rw [h2]at k1 k2
 rw [mw_app]at k1
 rw [mr_app]at k2
 refine⟨⟨R',by rw [List.length_append];exact k1,?_⟩,k3,k4⟩
 rw [←k2,List.length_append];congr 1;omega
theorem msg_sum(w0:Wf s)(hT:TabAt s)(h:Msg s p γ E M)(hn:M.length<2^59):Cl B (.call 67 [.pointer (some ⟨p,0,none⟩)]) s fun v s'=>v=hsh (shaOf M)∧Kn s s':=by
 obtain⟨R,h1,h2⟩:=h
 refine(ssum_ok w0 hT h1 hn).mono ?_
 rintro v s' ⟨rfl,k⟩
 refine⟨?_,k⟩
 unfold endW shaOf
 rw [h2]
theorem new_ok(hT:TabAt s):Cl B (.call 65 []) s fun v s'=>v= .pointer (some ⟨s.nx,0,none⟩)∧Msg s' s.nx s.nx [] []∧s'.nx=s.nx+1∧Kn s s':=by
 have ht:=hT (1,Dg.HV) (by simp[Dg.tabs])
 have hld:ldn s (some ⟨1,0,none⟩) 8=some (wv Dg.H0):=by
  rcases ht with⟨e,_⟩|⟨b,o,e,hr⟩
  ·cases e
  ·cases e;exact hr
 refine Cl.enter Tryz.f65 fn65 rfl rfl rfl ?_
 refine run1 ?_
 refine Lv.ret rfl ⟨rfl,⟨List.replicate 64 0,⟨mkRow_rw,⟨by decide,by decide,by decide,by decide,by decide,by decide,by decide,by decide⟩,rfl,fun x hx=>by rw [List.eq_of_mem_replicate hx];decide⟩,rfl⟩,rfl,mkRow_kn⟩
def Part(s:St)(x:Value×List Nat):Prop:= ∃q c,x.1= .slice q x.2.length c∧At s q (x.2.map nB)∧Cap x.2.length c 1∧∀y∈x.2,y<256
theorem sum_ok{P:List (Value×List Nat)}(w0:Wf s)(hT:TabAt s)(hq:At s q (P.map Prod.fst))(hP:∀x∈P,Part s x)(hn:(P.flatMap Prod.snd).length<2^59)(hl:P.length<2^60):
  Cl B (.call 36 [.slice q P.length c]) s fun v s'=>v=hsh (shaOf (P.flatMap Prod.snd))∧Kn s s':=by
 refine Cl.enter Tryz.f36 fn36 rfl rfl rfl ?_
 refine run1 ?_
 refine mkO (cs:=(List.replicate 32 0).map nB) ?_
 intro s1 c1 c2 c3
 have w1:Wf s1:=c3.wf w0
 have hT1:TabAt s1:=hT.kpN w0 (c3.w)
 refine Wo.call rfl (Xc.call ok65 rfl) rfl ((new_ok hT1).mono ?_)
 rintro v s2 ⟨rfl,d1,d2,d3⟩
 have w2:Wf s2:=d3.wf w1
 have kb2:Kp (fun c=>s.nx≤c) s s2:=(c3.w).trans (d3.w)
 have c1':Rw s2 s.nx ((List.replicate 32 0).map nB) s.nx:=c1.kp w1 d3 id
 refine run1 ?_
 refine W.loop (α:=Nat×St) (fun a=>[(2,.pointer (some ⟨s.nx,0,none⟩)),(3,.pointer (some ⟨s1.nx,0,none⟩)),(7,.slice q P.length c),(8,nI P.length),(9,nI a.1)]) (fun _=>[]) (fun a=>a.2)
  (fun a=>a.1≤P.length∧Msg a.2 s1.nx s1.nx [] ((P.take a.1).flatMap Prod.snd)∧a.2.nx=s2.nx∧Kp (fun c=>c=s1.nx) s2 a.2) (fun a=>P.length-a.1) (0,s2) ⟨Nat.zero_le _,d1,rfl,.refl⟩ (.cons rfl (.cons rfl (.cons rfl (.cons rfl (.cons rfl .nil))))) rfl rfl (by show P.length-0<_;omega) ?_
 rintro⟨i,t0⟩ ⟨i1,i2,i3,i4⟩
 simp only at i1 i2 i3 i4
 dsimp only
 have kb:Kp (fun c=>s.nx≤c) s t0:=kb2.trans (i4.mono fun c h=>by subst h;omega)
 have wt:Wf t0:=kb.wf w0
 have hl9:∀{A B:List (Value×List Nat)},((A++B).flatMap Prod.snd).length=(A.flatMap Prod.snd).length+(B.flatMap Prod.snd).length:=fun{A B}=>by rw [List.flatMap_append,List.length_append]
 by_cases hi:i<P.length
 ·obtain⟨γ0,g1,g2⟩:=hq.sl
  have hq':At t0 q (P.map Prod.fst):=(g1.kp w0 kb (by have:=g2 w0;omega)).at
  obtain⟨q1,k1,e1,e2,e3,e4⟩:=hP _ (List.getElem_mem hi)
  obtain⟨δ,f1,f2⟩:=e2.sl
  have f3:=f2 w0
  have f1':Sl t0 q1 ((P[i].2).map nB) δ:=f1.kp w0 kb (by omega)
  have hld:ldq t0 (qadd q (i*1))=some (.slice q1 P[i].2.length k1):=by
   rw [Nat.mul_one,hq'.ld (by rw [List.length_map];exact hi),List.getElem_map,e1]
  have hgood:good q:=hq'.good (i:=i) (by rw [List.length_map];exact hi)
  have hlen:((P.take i).flatMap Prod.snd).length+P[i].2.length<2^59:=by
   have:P=P.take i++(P[i]::P.drop (i+1)):=by rw [←List.drop_eq_getElem_cons hi,List.take_append_drop]
   rw [this,hl9,List.flatMap_cons,List.length_append]at hn
   omega
  refine run1 ?_
  refine Wo.call rfl (Xc.call ok66 rfl) rfl ((msg_write wt (fun s' k=>hT.kpN w0 (kb.trans (k.mono fun c h=>by subst h;omega))) i2 f1' (by omega) e3 e4 (by omega) (by omega)).mono ?_)
  rintro v t1 ⟨m1,m2,m3⟩
  refine run1 ?_
  have et:(P.take (i+1)).flatMap Prod.snd=(P.take i).flatMap Prod.snd++P[i].2:=by
   rw [List.take_succ_eq_append_getElem hi,List.flatMap_append];simp
  exact rnd.n (i+1,t1) ⟨hi,by show Msg t1 _ _ [] ((P.take (i+1)).flatMap Prod.snd);rw [et];exact m1,m2.trans i3,i4.trans m3⟩ (by show P.length-(i+1)<P.length-i;omega) (.cons rfl (.cons rfl (.cons rfl (.cons rfl (.cons rfl .nil))))) rfl rfl
 ·have e:i=P.length:=by omega
  subst e
  rw [List.take_length]at i2
  refine run1 ?_
  refine Wo.call rfl (Xc.call ok67 rfl) rfl ((msg_sum wt (hT.kpN w0 kb) i2 hn).mono ?_)
  rintro v t1 ⟨rfl,m2⟩
  obtain⟨D,hD⟩:∃D,D=shaOf (P.flatMap Prod.snd):=⟨_,rfl⟩
  have hDl:D.length=32:=by rw [hD];exact shaOf_length
  rw [←hD]
  refine run1 ?_
  refine Wo.st rfl rfl rfl rfl rfl rfl (by rw [List.length_map,hDl]) (by intro v hv;obtain⟨x,_,rfl⟩:=List.mem_map.1 hv;rfl) ((c1'.kp w2 i4 (by omega)).kp wt m2 id) (by rw [List.length_map,List.length_replicate];decide) ?_
  intro t2 q1 q2 q3
  rw [lov_all (by rw [List.length_map,List.length_map,hDl,List.length_replicate])]at q1
  refine run1 ?_
  have hc:=cell_at (B:=B) (t:= 26) (n:=32) (k:=.ar 32 5) rfl rfl q1 (by rw [List.length_map,hDl]) rfl
  refine Lv.ret (vs:=[hsh D]) ?_ ⟨rfl,?_⟩
  ·show (match cell1 B.P (.pointer (some ⟨s.nx,0,none⟩)) 26 t2,some []with|some v,some vs=>some (v::vs)|_,_=>none)=_
   rw [hc];rfl
  ·exact Kp.new (N:=s.nx) .refl ((kb.trans (m2.w)).trans (q3.mono fun c h=>by subst h;exact Nat.le_refl _)) (Nat.le_refl _)
end Go.Proofs.YtnbdpcpgckfeeaaGreatDoor
namespace Go.Sy
open Go Go.Ev
def anB(a b:Nat):Nat:=((BitVec.ofNat 8 a)&&& ~~~ (BitVec.ofNat 8 b)).toNat
theorem anB_lt{a b:Nat}:anB a b<256:=BitVec.isLt _
theorem wrap8{n:Nat}(h:n<256):IntKind.wrap .u8 (Int.ofNat n)=Int.ofNat n:=by
 show (if(false&&decide ((Int.ofNat n%256:Int)≥128))=true then(Int.ofNat n%256:Int)-256 else Int.ofNat n%256)=_
 rw [if_neg (by simp)]
 show ((n:Int)%256)=(n:Int)
 omega
section
variable{X:Fx}{env:Env}{s:St}
theorem Xv.anB{t t':TypeId}{x y:Operand}{a b:Nat}(hx:ev env x=some (nB a))(hy:ev env y=some (nB b)):Xv X (.binOp .andNot t x y t') env s (nB (Go.Sy.anB a b)) s:=fun tm hf=>by
 show xBin X.P .andNot t x y (opd tm x) (opd tm y) s=_
 rw [ev_opd hf hx,ev_opd hf hy]
 have e:pureRun X.P (binOp .andNot t (nB a) (nB b))=some (nB (Go.Sy.anB a b)):=by
  show some (Value.int .u8 (IntKind.wrap .u8 (Int.ofNat ((BitVec.ofInt 8 (Int.ofNat a)&&& ~~~BitVec.ofInt 8 (Int.ofNat b)).toNat))))=_
  rw [show BitVec.ofInt 8 (Int.ofNat a)=BitVec.ofNat 8 a from BitVec.ofInt_natCast 8 a,show BitVec.ofInt 8 (Int.ofNat b)=BitVec.ofNat 8 b from BitVec.ofInt_natCast 8 b,show IntKind.wrap .u8 (Int.ofNat (BitVec.ofNat 8 a&&& ~~~BitVec.ofNat 8 b).toNat)=_ from wrap8 (anB_lt (a:=a) (b:=b))]
  rfl
 show ofPure X.P (binOp .andNot t (nB a) (nB b)) s=_
 unfold ofPure
 rw [e]
 show fI (Int.ofNat (Go.Sy.anB a b)) (fun n=>Re.ok (.val (.int .u8 n)) s)=_
 rw [fI_eq]
theorem Xv.max0{x y:Operand}{ts:Array TypeId}{z:Int}{m:Nat}(hx:ev env x=some (.int .i64 z))(hy:ev env y=some (nI 0))(hm:(m:Int)=if 0≤z then z else 0):Xv X (.call ⟨.builtin .max, #[x,y],ts⟩) env s (nI m) s:=fun tm hf=>by
 show cond (allInt (opds tm [x,y])) (ofPure X.P (Builtin.max_ #[] 0 ⟨opds tm [x,y]⟩) s) .no=_
 rw [evs_opds hf (xs:=[x,y]) (vs:=[.int .i64 z,nI 0]) (by unfold evs evs evs;rw [hx,hy])]
 show ofV (.int .i64 (if(Int.ofNat 0)>z then Int.ofNat 0 else z)) s=_
 have e:(if(Int.ofNat 0)>z then Int.ofNat 0 else z)=Int.ofNat m:=by
  show (if(0:Int)>z then(0:Int)else z)=(m:Int)
  rw [hm]
  by_cases h:0≤z
  ·rw [if_pos h,if_neg (by omega)]
  ·rw [if_neg h,if_pos (by omega)]
 rw [e]
 show fI (Int.ofNat m) (fun n=>Re.ok (.val (.int .i64 n)) s)=_
 rw [fI_eq]
end
end Go.Sy
namespace Go.Proofs.YtnbdpcpgckfeeaaGreatDoor
open Go Go.Ev Go.Sy
set_option maxRecDepth 100000
variable{s:St}{n:Nat}{H:List Nat}
def ctN(H:List Nat)(n:Nat):Nat→List Nat
 |0=>H
 |i+1=>(ctN H n i).set i (anB ((ctN H n i).getD i 0) (255>>>(min (n-8*i) 8)))
theorem ctN_length:∀{i:Nat},(ctN H n i).length=H.length
 |0=>rfl
 |i+1=>by rw [ctN,List.length_set,ctN_length]
def cutOf(H:List Nat)(n:Nat):List Nat:=ctN H n 32
theorem cut_ok(w0:Wf s)(hl:H.length=32)(_hH:∀x∈H,x<256)(hn:n<2^59):Cl B (.call 35 [hsh H,nI n]) s fun v s'=>v=hsh (cutOf H n)∧Kn s s':=by
 refine Cl.enter Tryz.f35 fn35 rfl rfl rfl ?_
 refine run1 ?_
 obtain⟨s1,hs1⟩:∃s1,s1=mkRow s (H.map nB):=⟨_,rfl⟩
 have a1:Rw s1 s.nx (H.map nB) s.nx:=by rw [hs1];exact mkRow_rw
 have a2:s1.nx=s.nx+1:=by rw [hs1];rfl
 have a3:Kn s s1:=by rw [hs1];exact mkRow_kn
 have w1:Wf s1:=a3.wf w0
 obtain⟨s2,hs2⟩:∃s2,s2=mkRow s1 ((List.replicate 32 0).map nB):=⟨_,rfl⟩
 have b1:Rw s2 s1.nx ((List.replicate 32 0).map nB) s1.nx:=by rw [hs2];exact mkRow_rw
 have b2:s2.nx=s1.nx+1:=by rw [hs2];rfl
 have b3:Kn s1 s2:=by rw [hs2];exact mkRow_kn
 have w2:Wf s2:=b3.wf w1
 have a1':Rw s2 s.nx (H.map nB) s.nx:=a1.kp w1 b3 id
 have hst:mkRow (mkRow s (H.map nB)) ((List.replicate 32 0).map nB)=s2:=by rw [←hs1,←hs2]
 have hnx:(mkRow s (H.map nB)).nx=s1.nx:=by rw [←hs1]
 refine W.loop (α:=Nat×St) (fun a=>[(1,nI n),(2,.pointer (some ⟨s.nx,0,none⟩)),(4,.pointer (some ⟨s1.nx,0,none⟩)),(7,nI a.1)]) (fun _=>[]) (fun a=>a.2)
  (fun a=>a.1≤32∧Rw a.2 s.nx ((ctN H n a.1).map nB) s.nx∧a.2.nx=s2.nx∧Kp (fun c=>c=s.nx) s2 a.2) (fun a=>32-a.1) (0,s2) ⟨Nat.zero_le _,a1',rfl,.refl⟩ (.cons rfl (.cons rfl (.cons ?_ (.cons rfl .nil)))) rfl ?_ (by show 32-0<_;omega) ?_
 ·show some (Value.pointer (some ⟨(mkRow s (H.map nB)).nx,0,none⟩))=_
  rw [hnx]
 ·exact hst
 rintro⟨i,t0⟩ ⟨i1,i2,i3,i4⟩
 simp only at i1 i2 i3 i4
 dsimp only
 have wt:Wf t0:=i4.wf w2
 by_cases hi:i<32
 ·obtain⟨z,hz⟩:∃z:Int,z=(n:Int)-((8*i:Nat):Int):=⟨_,rfl⟩
  have hm:((n-8*i:Nat):Int)=if 0≤z then z else 0:=by
   split<;>omega
  refine run1 ?_
  refine Wo.val rfl (Xv.subZ rfl rfl (by omega) (by omega) hz) rfl (run1 ?_)
  refine Wo.val rfl (Xv.max0 rfl rfl hm) rfl (run1 ?_)
  have hlt:i<(ctN H n i).length:=by rw [ctN_length,hl];exact hi
  have hld:ldq t0 (some ⟨s.nx,0+i*1,none⟩)=some (nB ((ctN H n i).getD i 0)):=by
   have:=Bs.ld (A:=ctN H n i) (i:=i) (Rw.ats i2) hlt
   exact this
  refine W.dr [(0,.none,0),(1,.none,1),(2,.reads,3),(3,.none,0),(4,.none,8),(5,.none,31),(6,.none,63),(7,.acts,127)] (by kernel_rfl) rfl (run1 ?_)
  refine Wd.val rfl (Xv.iaP rfl rfl rfl rfl hi) rfl (Nat.le_refl _) (run1 ?_)
  have hsh:arN .shr .u8 255 (min (n-8*i) 8)=some (255>>>(min (n-8*i) 8)):=by
   show cond (Nat.ble (min (n-8*i) 8) 8) (some _) none=_
   rw [show Nat.ble (min (n-8*i) 8) 8=true from Nat.ble_eq_true_of_le (by omega)];rfl
  refine Wd.val rfl (Xv.ar (k:=.u8) (k':=.i64) rfl rfl rfl hsh) rfl (Nat.le_refl _) (run1 ?_)
  refine Wd.val rfl (Xv.anB rfl rfl) rfl (Nat.le_refl _) (run1 ?_)
  refine Wd.val rfl (Xv.iaP rfl rfl rfl rfl hi) rfl (Nat.le_refl _) (run1 ?_)
  refine Wd.st rfl rfl rfl rfl rfl rfl rfl (by intro v hv;rw [List.mem_singleton]at hv;rw [hv];rfl) i2 (by rw [List.length_map,ctN_length];omega) ?_
  intro t1 m1 m2 m3
  have m1':Rw t1 s.nx ((ctN H n (i+1)).map nB) s.nx:=by
   rw [ctN,←lay_set hlt]
   have e:i=0+i*1:=by omega
   have:=m1
   rw [←e]at this
   exact this
  refine run1 ?_
  exact rnd.n (i+1,t1) ⟨hi,m1',m2.trans i3,i4.trans m3⟩ (by show 32-(i+1)<32-i;omega) (.cons rfl (.cons rfl (.cons rfl (.cons rfl .nil)))) rfl rfl
 ·have e:i=32:=by omega
  subst e
  obtain⟨D,hD⟩:∃D,D=ctN H n 32:=⟨_,rfl⟩
  have hDl:D.length=32:=by rw [hD,ctN_length,hl]
  rw [←hD]at i2
  unfold cutOf
  rw [←hD]
  have hls:ldn t0 (some ⟨s.nx,0,none⟩) 32=some (D.map nB):=by
   have:=(Rw.ats i2).ldn (i:=0) (n:=32) (by rw [List.length_map,hDl];omega) (by decide)
   rw [List.drop_zero,List.take_of_length_le (by rw [List.length_map,hDl];omega)]at this
   exact this
  refine run1 ?_
  refine Wo.st rfl rfl rfl rfl rfl rfl (by rw [List.length_map,hDl]) (by intro v hv;obtain⟨x,_,rfl⟩:=List.mem_map.1 hv;rfl) (b1.kp w2 i4 (by omega)) (by rw [List.length_map,List.length_replicate];decide) ?_
  intro t1 q1 q2 q3
  rw [lov_all (by rw [List.length_map,List.length_map,hDl,List.length_replicate])]at q1
  refine run1 ?_
  have hc:=cell_at (B:=B) (t:= 26) (n:=32) (k:=.ar 32 5) rfl rfl q1 (by rw [List.length_map,hDl]) rfl
  refine Lv.ret (vs:=[hsh D]) ?_ ⟨rfl,?_⟩
  ·show (match cell1 B.P (.pointer (some ⟨s1.nx,0,none⟩)) 26 t1,some []with|some v,some vs=>some (v::vs)|_,_=>none)=_
   rw [hc];rfl
  ·exact Kp.new (N:=s.nx) .refl ((((a3.w).trans (b3.w)).trans (i4.mono fun c h=>by subst h;exact Nat.le_refl _)).trans (q3.mono fun c h=>by subst h;omega)) (Nat.le_refl _)
end Go.Proofs.YtnbdpcpgckfeeaaGreatDoor
namespace Go.Sy
open Go Go.Ev
def bcmp(A D:List Nat):Int:=Extern.BytealgCompare.cmp ⟨⟨A.map UInt8.ofNat⟩⟩ ⟨⟨D.map UInt8.ofNat⟩⟩
theorem bytesIn_at{s:St}{q:Option Addr}{A:List Nat}{c:Nat}(h:At s q (A.map nB)):bytesIn s q A.length c=some (A.map UInt8.ofNat):=by
 unfold bytesIn
 rw [cells_at h (by rw [List.length_map,Nat.mul_one]) (by decide)]
 exact bytesOf_map A
section
variable{X:Fx}{env:Env}{s:St}
theorem Xv.bcmp{f:FuncId}{fn:Func}{x y:Operand}{ts:Array TypeId}{q r:Option Addr}{A D:List Nat}{c d:Nat}(hf:X.P.funcs[f]? =some fn)(hb:fn.body=none)(ho:(fn.origin== "")=true)(hn:(fn.name== "internal/bytealg.Compare")=true)
  (hx:ev env x=some (.slice q A.length c)) (hy:ev env y=some (.slice r D.length d)) (h1:At s q (A.map nB)) (h2:At s r (D.map nB)):Xv X (.call ⟨.value (.func f), #[x,y],ts⟩) env s (.int .i64 (Go.Sy.bcmp A D)) s:=fun tm hft=>by
 show callE X.P f (appO [] (appO (opds tm [x,y]) [])) s=_
 rw [evs_opds hft (xs:=[x,y]) (vs:=[.slice q A.length c,.slice r D.length d]) (by unfold evs evs evs;rw [hx,hy]),appO_eq,appO_eq,List.append_nil,List.nil_append]
 unfold callE
 simp only[hf,hb,ho,cond_true]
 unfold extV
 simp only[hn,cond_true]
 rw [bytesIn_at h1,bytesIn_at h2]
 show fI (Go.Sy.bcmp A D) (fun n=>Re.ok (.val (.int .i64 n)) s)=_
 rw [fI_eq]
end
end Go.Sy
namespace Go.Proofs.YtnbdpcpgckfeeaaGreatDoor
open Go Go.Ev Go.Sy
set_option maxRecDepth 100000
variable{s:St}{q r:Option Addr}{A D:List Nat}{c d:Nat}
theorem bcompare_ok(h1:At s q (A.map nB))(h2:At s r (D.map nB)):Cl B (.call 77 [.slice q A.length c,.slice r D.length d]) s fun v s'=>v= .int .i64 (bcmp A D)∧s'=s:=by
 refine Cl.enter Tryz.f77 fn77 rfl rfl rfl ?_
 refine run1 ?_
 refine Wo.val rfl (Xv.bcmp (show B.P.funcs[100]? =some Tryz.f100 by kernel_rfl) rfl rfl rfl rfl rfl h1 h2) rfl ?_
 obtain⟨z,hz⟩:∃z,z=bcmp A D:=⟨_,rfl⟩
 rw [←hz]
 refine run1 ?_
 exact Lv.ret rfl ⟨rfl,rfl⟩
abbrev bcf:Value:=.func (.func 77) #[] #[]
def Strs(s:St)(q:Option Addr)(P:List (Value×List Nat)):Prop:=At s q (P.map Prod.fst)∧∀x∈P,∃q c,x.1= .slice q x.2.length c∧At s q (x.2.map nB)
open Go Go.Ev Go.Sy
set_option maxRecDepth 100000
variable{s:St}{p γ δ n c:Nat}{q:Option Addr}{S M A D O:List Nat}{E:List Value}
def kb(S:List Nat):List Nat:=let K:=if 64<S.length then shaOf S else S;K++List.replicate (64-K.length) 0
def mk(m:Nat)(D:List Nat):List Nat:=D.map fun x=>(x^^^m)%256
open Go Go.Ev Go.Sy
set_option maxRecDepth 100000
variable{s:St}{p γ δ n c:Nat}{q:Option Addr}{S M A D O R:List Nat}{E:List Value}{w:W8}
def out(S:List Nat):List Nat:=mk 92 (kb S)
end Go.Proofs.YtnbdpcpgckfeeaaGreatDoor
namespace Go.Sy
open Go Go.Ev
section
variable{X:Fx}{env:Env}{s:St}
end
end Go.Sy
namespace Go.Proofs.YtnbdpcpgckfeeaaGreatDoor
open Go Go.Ev Go.Sy
set_option maxRecDepth 100000
variable{s:St}{p γ δ n c m N:Nat}{q:Option Addr}{A D:List Nat}{L:List Value}
def dgs(n:Nat):List Nat:=if n=0 then []else dgs (n/256)++[n%256]
def hd(base n:Nat):List Nat:=if n<56 then [base+n]else(base+55+(dgs n).length)::dgs n
end Go.Proofs.YtnbdpcpgckfeeaaGreatDoor
