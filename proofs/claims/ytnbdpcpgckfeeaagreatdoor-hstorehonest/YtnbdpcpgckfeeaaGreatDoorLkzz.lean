import Derived.Test.YtnbdpcpgckfeeaaGreatDoorRazz
namespace Go.Proofs.YtnbdpcpgckfeeaaGreatDoor
open Go Go.Ev Go.Sy
set_option maxRecDepth 100000
variable{s:St}{q r:Option Addr}{c d D γ rb rv rs:Nat}{A H:List Nat}{L cs:List Value}{M:MpE}{v:Value}
theorem qadd_zero(h:good q):qadd q 0=q:=by obtain⟨b,o,rfl⟩:=h;rfl
def stc(a:Nat)(v:Value)(b:Bool):List Value:=[nI a,v,.bool b]
theorem stc_one{a:Nat}{b:Bool}(hv:Ev.one v=true):∀u∈stc a v b,Ev.one u=true:=fun u hu=>by
 unfold stc at hu
 simp only[List.mem_cons,List.not_mem_nil,or_false]at hu
 rcases hu with rfl|rfl|rfl
 ·rfl
 ·exact hv
 ·rfl
theorem under1_ok{a t:Nat}{b:Bool}(_w:Wf s)(ha:a<2^60)(ht:t<2^60):Cl B (.call 160 [.agg ⟨stc a v b⟩,nI t]) s fun u s'=>u= .int .i64 ((a:Int)-(t:Int))∧Kn s s':=by
 refine Cl.enter Tryz.f160 fn160 rfl rfl rfl ?_
 have r1:Rw (mkRow s (stc a v b)) s.nx (stc a v b) s.nx:=mkRow_rw
 have l0:ldq (mkRow s (stc a v b)) (qadd (some ⟨s.nx,0,none⟩) 0)=some (nI a):=r1.f1 rfl
 have gp:good (some (⟨s.nx,0,none⟩:Addr)):=⟨_,_,rfl⟩
 refine run1 ?_
 obtain⟨z,hz⟩:∃z,z=(a:Int)-(t:Int):=⟨_,rfl⟩
 refine Wo.val rfl (Xv.subZ rfl rfl ha ht hz) rfl (run1 ?_)
 refine Lv.ret rfl ⟨?_,mkRow_kn⟩
 rw [hz];rfl
abbrev uf:Value:=fv 160
theorem mbs1_ok{a t:Nat}{b:Bool}(w:Wf s)(hq:At s q (stc a v b))(_hv:Ev.one v=true)(ha:a<2^60)(ht:t<2^60):
  Cl B (.call 159 [.slice q 1 c,nI t,uf]) s fun u s'=>(∃g,u= .tuple ⟨[nI (if a<t then 1 else 0),.bool g]⟩)∧Kn s s':=by
 refine Cl.enter Tryz.f159 fn159 rfl rfl rfl ?_
 have hg:good q:=hq.good (i:=0) (by show 0<3;decide)
 refine run1 ?_
 refine W.loop (α:=Nat×Nat×St) (fun e=>[(0,.slice q 1 c),(1,nI t),(2,uf),(8,nI 1),(9,nI e.1),(10,nI e.2.1)]) (fun _=>[]) (fun e=>e.2.2)
  (fun e=>Kn s e.2.2∧((e.1=0∧e.2.1=1)∨(e.1=e.2.1∧e.1=if a<t then 1 else 0))) (fun e=>e.2.1-e.1) (0,1,s) ⟨.refl,.inl ⟨rfl,rfl⟩⟩ (.cons rfl (.cons rfl (.cons rfl (.cons rfl (.cons rfl (.cons rfl .nil)))))) rfl rfl (by show 1-0<_;decide) ?_
 rintro⟨i,j,s1⟩ ⟨k1,hij⟩
 simp only at k1 hij
 dsimp only
 have w1:=k1.wf w
 have ld:ldn s1 q 3=some (stc a v b):=by
  have:=(hq.kn w k1).ldn (i:=0) (n:=3) (by show 3≤3;decide) (by decide)
  rw [qadd_zero hg]at this
  exact this
 have ld0:∀{h:Nat},h=0→ldn s1 (qadd q (h*3)) 3=some (stc a v b):=fun e=>by subst e;rw [Nat.zero_mul,qadd_zero hg];exact ld
 rcases hij with⟨hi,hj⟩|⟨hj,hi⟩
 ·have hlt:i<j:=by omega
  refine run1 ?_
  refine Wo.val rfl (Xv.cv rfl rfl rfl (half_ok (by omega))) rfl ?_
  obtain⟨h,hh⟩:∃h,h=(i+j)/2:=⟨_,rfl⟩
  rw [←hh]
  have h0:h=0:=by omega
  have h1:h<1:=by omega
  have ldh:=ld0 h0
  refine run1 ?_
  refine Wo.call rfl (Xc.callv rfl ok160 rfl) rfl ((under1_ok w1 ha ht).mono ?_)
  rintro u s2 ⟨rfl,k2⟩
  obtain⟨z,hz⟩:∃z,z=(a:Int)-(t:Int):=⟨_,rfl⟩
  rw [←hz]
  refine run1 ?_
  refine W.cond rfl (fun hc=>?_) (fun hc=>?_)
  ·refine run1 ?_
   have hat:a<t:=by have:z<0:=hc;omega
   exact rnd.n (h+1,j,s2) ⟨k1.trans k2,.inr ⟨by show h+1=j;omega,by show h+1=_;rw [if_pos hat,h0]⟩⟩ (by show j-(h+1)<j-i;omega) (.cons rfl (.cons rfl (.cons rfl (.cons rfl (.cons rfl (.cons rfl .nil)))))) rfl rfl
  ·refine run1 ?_
   have hat:¬a<t:=by have:¬z<0:=hc;omega
   exact rnd.n (i,h,s2) ⟨k1.trans k2,.inr ⟨by show i=h;omega,by show i=_;rw [if_neg hat,hi]⟩⟩ (by show h-i<j-i;omega) (.cons rfl (.cons rfl (.cons rfl (.cons rfl (.cons rfl (.cons rfl .nil)))))) rfl rfl
 ·have hlt:¬i<j:=by omega
  by_cases h1:i<1
  ·have h0:i=0:=by omega
   have ldh:=ld0 h0
   refine run1 ?_
   refine Wo.call (gT rfl h1) (Xc.callv rfl ok160 rfl) rfl ((under1_ok w1 ha ht).mono ?_)
   rintro u s2 ⟨rfl,k2⟩
   obtain⟨z,hz⟩:∃z,z=(a:Int)-(t:Int):=⟨_,rfl⟩
   rw [←hz]
   refine run1 ?_
   exact Lv.ret rfl ⟨⟨_,by rw [←hi];rfl⟩,k1.trans k2⟩
  ·refine run1 ?_
   exact Lv.ret rfl ⟨⟨_,by rw [←hi];rfl⟩,k1⟩
theorem under_ok{a τ:Nat}{b:Bool}{MS:MpE}(w:Wf s)(hD:Rw s D L γ)(h9:L[41]? =some (.map (some rs)))(hM:Mp s rs MS)(hH:H.length=32)(hg:mget H MS=some (.slice q 1 c))(hq:At s q (stc a v b))(hv:Ev.one v=true)(ha:a<2^40)(ht:τ<2^40):
  Cl B (.call 140 [.pointer (some ⟨D,0,none⟩),hsh H,nI τ]) s fun u s'=>u= .agg ⟨if a≤τ then stc a v b else stc 0 (.slice none 0 0) false⟩∧Kn s s':=by
 refine Cl.enter Tryz.f140 fn140 rfl rfl rfl ?_
 refine run1 ?_
 generalize hsa:mkRow s (H.map nB)=sa
 have ra:Rw sa s.nx (H.map nB) s.nx:=hsa▸mkRow_rw
 have ka:Kn s sa:=hsa▸mkRow_kn
 have na:sa.nx=s.nx+1:=hsa▸rfl
 have wa:=ka.wf w
 refine mk_gen (s:=sa) (cs:=stc 0 (.slice none 0 0) false) (M:=fun s'=>W _ _ _ _ s' _) fun s1 r1 n1 k1'=>?_
 have k1:Kn s s1:=ka.trans k1'
 have w1:=k1.wf w
 have ra1:=ra.kp wa k1' id
 have lm:ldq s1 (qadd (some ⟨D,0,none⟩) 41)=some (.map (some rs)):=(hD.kp w k1 id).f1 h9
 have lh:ldn s1 (some ⟨s.nx,0,none⟩) 32=some (H.map nB):=ra1.all (by rw [List.length_map,hH]) (by decide)
 have gd:good (some (⟨D,0,none⟩:Addr)):=⟨_,_,rfl⟩
 have hM1:=hM.kp w k1 id
 have lk:∀{env:Env} {x y:Operand},ev env x=some (.map (some rs))→ev env y=some (hsh H)→Xv ⟨B, 140,none, Tryz.f140.ntmps⟩ (.lookup 90 x y false) env s1 (.slice q 1 c) s1:=fun{env x y} hx hy=>by
  have:=Xv.look (X:=⟨B, 140,none, Tryz.f140.ntmps⟩) (env:=env) (ok:=false) (t:= 90) (key:= 26) (elt:= 113) (e:= 5) (z:=.slice none 0 0) rfl Hdm zd3 rfl hx hy hH hM1
  rw [hg]at this
  exact this
 refine W.dr [(0,.none,0),(1,.none,1),(2,.none,3),(3,.reads,7),(4,.reads,0),(5,.reads,31),(6,.none,63)] (by kernel_rfl) rfl ?_
 refine run1 ?_
 refine Wd.val rfl (Xv.nilC rfl) rfl (Nat.le_refl _) (run1 ?_)
 refine Wd.read rfl (Xv.ld rfl rfl rfl lm) rfl eqV_map ⟨Xv.ld rfl rfl rfl lm,trivial⟩ (run1 ?_)
 refine Wd.read rfl (Xv.ldN rfl rfl rfl lh) rfl eqV_h ⟨Xv.ldN rfl rfl rfl lh,trivial⟩ ?_
 refine Wd.read rfl (lk rfl rfl) rfl eqV_slice ⟨lk rfl rfl,trivial⟩ (run1 ?_)
 refine Wo.call rfl (Xc.call ok159 rfl) rfl ((mbs1_ok (b:=b) w1 (hq.kn w k1) hv (by omega) (by omega)).mono ?_)
 rintro u s2 ⟨⟨g,rfl⟩,k2⟩
 have w2:=k2.wf w1
 have r2:=r1.kp w1 k2 id
 by_cases hat:a<τ+1
 ·rw [if_pos hat,if_pos (by omega)]
  have hg:=hq.good (i:=0) (by show 0<3;decide)
  have ld:ldn s2 (qadd q (0*3)) 3=some (stc a v b):=by
   have:=((hq.kn w k1).kn w1 k2).ldn (i:=0) (n:=3) (by show 3≤3;decide) (by decide)
   exact this
  refine run1 ?_
  refine Wo.st (vs:=stc a v b) rfl rfl rfl rfl rfl rfl rfl (stc_one hv) r2 (by show 3≤3;decide) fun s3 r3 n3 k3=>?_
  change Rw s3 sa.nx (stc a v b) sa.nx at r3
  refine run1 ?_
  have hcl:=cell_at (B:=B) (t:= 112) rfl rfl r3 rfl rfl
  refine Lv.ret (vs:=[.agg ⟨stc a v b⟩]) ?_ ⟨rfl,Kn.app (k1.trans k2) k3 (by omega)⟩
  show (match cell1 B.P (.pointer (some ⟨sa.nx,0,none⟩)) 112 s3,some []with|some v,some vs=>some (v::vs)|_,_=>none)=_
  rw [hcl]
 ·rw [if_neg hat,if_neg (by omega)]
  refine run1 ?_
  refine Wo.st (vs:=stc 0 (.slice none 0 0) false) rfl rfl rfl rfl rfl rfl rfl (stc_one rfl) r2 (by show 3≤3;decide) fun s3 r3 n3 k3=>?_
  change Rw s3 sa.nx (stc 0 (.slice none 0 0) false) sa.nx at r3
  refine run1 ?_
  have hcl:=cell_at (B:=B) (t:= 112) rfl rfl r3 rfl rfl
  refine Lv.ret (vs:=[.agg ⟨stc 0 (.slice none 0 0) false⟩]) ?_ ⟨rfl,Kn.app (k1.trans k2) k3 (by omega)⟩
  show (match cell1 B.P (.pointer (some ⟨sa.nx,0,none⟩)) 112 s3,some []with|some v,some vs=>some (v::vs)|_,_=>none)=_
  rw [hcl]
theorem mbequal_ok{e:Nat}(bA:∀x∈A,x<256)(bH:∀x∈H,x<256)(h1:At s q (A.map nB))(h2:At s r (H.map nB)):Cl B (.call 60 [.slice q A.length c,.slice r H.length e]) s fun v s'=>v= .bool (decide (A=H))∧s'=s:=by
 refine Cl.enter Tryz.f60 fn60 rfl rfl rfl ?_
 have hA:Bs s q A:=h1
 have hD:Bs s r H:=h2
 refine run1 ?_
 refine Wo.val rfl (Xv.b2s rfl rfl rfl rfl hA) rfl (run1 ?_)
 refine Wo.val rfl (Xv.b2s rfl rfl rfl rfl hD) rfl (run1 ?_)
 refine Wo.val rfl (Xv.seq rfl rfl) rfl (run1 ?_)
 refine Lv.ret rfl ⟨?_,rfl⟩
 refine congrArg Value.bool (decide_eq_decide.2 ⟨fun e=>?_,fun e=>by rw [e]⟩)
 exact strB_inj bA bH e
theorem msame_ok{a:Nat}(w:Wf s)(_hv:Ev.one v=true):Cl B (.call 142 [.agg ⟨stc 0 (.slice none 0 0) false⟩,.agg ⟨stc a v true⟩]) s fun u s'=>u= .bool false∧Kn s s':=by
 refine Cl.enter Tryz.f142 fn142 rfl rfl rfl ?_
 refine run1 ?_
 generalize hsa:mkRow s (stc 0 (.slice none 0 0) false)=sa
 have ra:Rw sa s.nx (stc 0 (.slice none 0 0) false) s.nx:=hsa▸mkRow_rw
 have ka:Kn s sa:=hsa▸mkRow_kn
 have wa:=ka.wf w
 refine mk_gen (s:=sa) (cs:=stc a v true) (M:=fun s'=>Wo _ _ _ _ _ s' _) fun s1 r1 n1 k1'=>?_
 have ra1:=ra.kp wa k1' id
 have la:ldq s1 (qadd (some ⟨s.nx,0,none⟩) 2)=some (.bool false):=ra1.f1 rfl
 have lb:ldq s1 (qadd (some ⟨sa.nx,0,none⟩) 2)=some (.bool true):=r1.f1 rfl
 have gp:good (some (⟨s.nx,0,none⟩:Addr)):=⟨_,_,rfl⟩
 have gd:good (some (⟨sa.nx,0,none⟩:Addr)):=⟨_,_,rfl⟩
 refine run1 ?_
 refine Wo.val rfl (Xv.eqB rfl rfl rfl) rfl (run1 ?_)
 exact Lv.ret rfl ⟨rfl,ka.trans k1'⟩
end Go.Proofs.YtnbdpcpgckfeeaaGreatDoor
namespace Go.Sy
open Go Go.Ev
section
variable{X:Fx}{env:Env}{s:St}
theorem Xv.mark0{f:FuncId}{fn:Func}{ts:Array TypeId}(hf:X.P.funcs[f]? =some fn)(hb:fn.body=none)(ho:(fn.origin== "")=true)(hn:(fn.name== "internal/race.Disable" ||fn.name== "internal/race.Enable")=true):Xv X (.call ⟨.value (.func f), #[],ts⟩) env s (.tuple ⟨[]⟩) s:=fun tm hft=>by
 show callE X.P f [] s=_
 unfold callE
 simp only[hf,hb,ho,cond_true]
 unfold extV
 simp only[hn,cond_true];rfl
theorem Xv.mark1{f:FuncId}{fn:Func}{x:Operand}{ts:Array TypeId}{b o:Nat}(hf:X.P.funcs[f]? =some fn)(hb:fn.body=none)(ho:(fn.origin== "")=true)(hn:(fn.name== "internal/race.Acquire" ||fn.name== "internal/race.ReleaseMerge")=true)(hx:ev env x=some (.pointer (some ⟨b,o,none⟩))):Xv X (.call ⟨.value (.func f), #[x],ts⟩) env s (.tuple ⟨[]⟩) s:=fun tm hft=>by
 show callE X.P f (appO [] (appO (opds tm [x]) [])) s=_
 rw [evs_opds hft (xs:=[x]) (vs:=[.pointer (some ⟨b,o,none⟩)]) (by unfold evs evs;rw [hx]),appO_eq,appO_eq,List.append_nil,List.nil_append]
 unfold callE
 simp only[hf,hb,ho,cond_true]
 unfold extV
 simp only[hn,cond_true];rfl
theorem Xv.raw{src dst t0 t1 n0 n1 e t2 n2:Nat}{z0 z1 z2:Option (List Value)}{k2:Sh}{x:Operand}{b o:Nat}{v:Value}(hs:tk X.B.T src=some ⟨t0,n0,.pt e,z0⟩)(hd:tk X.B.T dst=some ⟨t1,n1,.un,z1⟩)(he:tk X.B.T e=some ⟨t2,n2,k2,z2⟩)(hn:Nat.blt 0 n2=true)(hx:ev env x=some (.pointer (some ⟨b,o,none⟩)))(hr:readAt1 s b o=some v):Xv X (.convert src dst x) env s (.pointer (some ⟨b,o,none⟩)) s:=fun tm hf=>by
 show xConv X.P src dst (opd tm x) s=_
 rw [ev_opd hf hx]
 unfold xConv
 simp only[show X.P.underlying src=some (.pointer e)from X.B.un hs,show X.P.underlying dst=some .unsafePointer from X.B.un hd,show sizeOfT X.P e=some n2 from X.B.sz he,hr]
 show cond (Nat.blt 0 n2) (toRaw b o (some v) s) .no=_
 rw [hn];rfl
theorem Xv.cas{f:FuncId}{fn:Func}{x y z:Operand}{ts:Array TypeId}{b o γ:Nat}{l:List Value}{a c:Int}(hf:X.P.funcs[f]? =some fn)(hb:fn.body=none)(ho:(fn.origin== "")=true)(hn:(fn.name== "sync/atomic.CompareAndSwapInt32")=true)(hx:ev env x=some (.pointer (some ⟨b,o,none⟩)))(hy:ev env y=some (.int .i32 a))(hz:ev env z=some (.int .i32 c))(hr:Rw s b l γ)(hl:l[o]? =some (.int .i32 a)):
  ∃s',Xv X (.call ⟨.value (.func f), #[x,y,z],ts⟩) env s (.bool true) s'∧Rw s' b (lov l o [.int .i32 c]) γ∧s'.nx=s.nx∧Kp (fun c=>c=γ) s s':=by
 have hol:o<l.length:=(List.getElem?_eq_some_iff.1 hl).1
 have hr1:readAt1 s b o=some (.int .i32 a):=by
  have h1:At s (some ⟨b,0,none⟩) l:=by
   have:=(hr.sl (o:=0) (n:=l.length) (by omega)).at
   rwa[List.drop_zero,List.take_length]at this
  have:=h1.ld hol
  rw [(List.getElem?_eq_some_iff.1 hl).2]at this
  have e:qadd (some ⟨b,0,none⟩) o=some ⟨b,o,none⟩:=by show some (Addr.mk b (0+o) none)=_;rw [Nat.zero_add]
  rw [e]at this
  exact this
 obtain⟨g,hr2,rfl⟩:=hr
 obtain⟨s',a1,a2,a3,a4⟩:=writeAt_ok hr2 (vs:=[.int .i32 c]) (off:=o) (by simp;omega) (by intro v hv;rw [List.mem_singleton]at hv;rw [hv];rfl)
 refine⟨s',fun tm hft=>?_,⟨g,a2,rfl⟩,a3,a4⟩
 show callE X.P f (appO [] (appO (opds tm [x,y,z]) [])) s=_
 rw [evs_opds hft (xs:=[x,y,z]) (vs:=[.pointer (some ⟨b,o,none⟩),.int .i32 a,.int .i32 c]) (by unfold evs evs evs evs;rw [hx,hy,hz]),appO_eq,appO_eq,List.append_nil,List.nil_append]
 unfold callE
 simp only[hf,hb,ho,cond_true]
 unfold extV
 simp only[hn,cond_true]
 unfold casV
 rw [hr1]
 simp only[decide_true,cond_true,a1]
theorem Xv.addA{f:FuncId}{fn:Func}{x y:Operand}{ts:Array TypeId}{b o γ:Nat}{l:List Value}{a c d:Int}(hf:X.P.funcs[f]? =some fn)(hb:fn.body=none)(ho:(fn.origin== "")=true)(hn:(fn.name== "sync/atomic.AddInt32")=true)(hx:ev env x=some (.pointer (some ⟨b,o,none⟩)))(hy:ev env y=some (.int .i32 c))(hr:Rw s b l γ)(hl:l[o]? =some (.int .i32 a))(hd:IntKind.wrap .i32 (a+c)=d):
  ∃s',Xv X (.call ⟨.value (.func f), #[x,y],ts⟩) env s (.int .i32 d) s'∧Rw s' b (lov l o [.int .i32 d]) γ∧s'.nx=s.nx∧Kp (fun c=>c=γ) s s':=by
 have hol:o<l.length:=(List.getElem?_eq_some_iff.1 hl).1
 have hr1:readAt1 s b o=some (.int .i32 a):=by
  have h1:At s (some ⟨b,0,none⟩) l:=by
   have:=(hr.sl (o:=0) (n:=l.length) (by omega)).at
   rwa[List.drop_zero,List.take_length]at this
  have:=h1.ld hol
  rw [(List.getElem?_eq_some_iff.1 hl).2]at this
  have e:qadd (some ⟨b,0,none⟩) o=some ⟨b,o,none⟩:=by show some (Addr.mk b (0+o) none)=_;rw [Nat.zero_add]
  rw [e]at this
  exact this
 obtain⟨g,hr2,rfl⟩:=hr
 obtain⟨s',a1,a2,a3,a4⟩:=writeAt_ok hr2 (vs:=[.int .i32 d]) (off:=o) (by simp;omega) (by intro v hv;rw [List.mem_singleton]at hv;rw [hv];rfl)
 refine⟨s',fun tm hft=>?_,⟨g,a2,rfl⟩,a3,a4⟩
 show callE X.P f (appO [] (appO (opds tm [x,y]) [])) s=_
 rw [evs_opds hft (xs:=[x,y]) (vs:=[.pointer (some ⟨b,o,none⟩),.int .i32 c]) (by unfold evs evs evs;rw [hx,hy]),appO_eq,appO_eq,List.append_nil,List.nil_append]
 unfold callE
 simp only[hf,hb,ho,cond_true]
 unfold extV
 simp only[hn,cond_true]
 unfold addV
 rw [hr1]
 show addW s b o (some (.int .i32 (IntKind.wrap .i32 (a+c))))=_
 rw [hd]
 show fI d (fun n=>match writeAt s b o [.int .i32 n]with|some s=>Re.ok (.val (.int .i32 n)) s|none=>.no)=_
 rw [fI_eq,a1]
end
section
variable{X:Fx}{env:Env}{df:List Deferred}{s:St}{Q:Post}{all os:List Oper}{d:Option Nat}{ty:TypeId}{pos:String}{af:Array Edge}{gd:Option (Nat×Bool)}
theorem Wo.cas{f:FuncId}{fn:Func}{x y z:Operand}{ts:Array TypeId}{b o γ:Nat}{l:List Value}{a c:Int}(hg:wantsE all env gd=some true)(hdo:dOk X d=true)(hf:X.P.funcs[f]? =some fn)(hb:fn.body=none)(ho:(fn.origin== "")=true)(hn:(fn.name== "sync/atomic.CompareAndSwapInt32")=true)(hx:ev env x=some (.pointer (some ⟨b,o,none⟩)))(hy:ev env y=some (.int .i32 a))(hz:ev env z=some (.int .i32 c))(hr:Rw s b l γ)(hl:l[o]? =some (.int .i32 a))
  (K:∀s',Rw s' b (lov l o [.int .i32 c]) γ→s'.nx=s.nx→Kp (fun c=>c=γ) s s'→Wo X all os (up d (.bool true) env) df s' Q):Wo X all (⟨d,.call ⟨.value (.func f), #[x,y,z],ts⟩,ty,pos,af,gd⟩::os) env df s Q:=by
 obtain⟨s',k1,k2,k3,k4⟩:=Xv.cas (X:=X) (ts:=ts) hf hb ho hn hx hy hz hr hl
 exact Wo.val hg k1 hdo (K s' k2 k3 k4)
theorem Wo.addA{f:FuncId}{fn:Func}{x y:Operand}{ts:Array TypeId}{b o γ:Nat}{l:List Value}{a c e:Int}(hg:wantsE all env gd=some true)(hdo:dOk X d=true)(hf:X.P.funcs[f]? =some fn)(hb:fn.body=none)(ho:(fn.origin== "")=true)(hn:(fn.name== "sync/atomic.AddInt32")=true)(hx:ev env x=some (.pointer (some ⟨b,o,none⟩)))(hy:ev env y=some (.int .i32 c))(hr:Rw s b l γ)(hl:l[o]? =some (.int .i32 a))(hd:IntKind.wrap .i32 (a+c)=e)
  (K:∀s',Rw s' b (lov l o [.int .i32 e]) γ→s'.nx=s.nx→Kp (fun c=>c=γ) s s'→Wo X all os (up d (.int .i32 e) env) df s' Q):Wo X all (⟨d,.call ⟨.value (.func f), #[x,y],ts⟩,ty,pos,af,gd⟩::os) env df s Q:=by
 obtain⟨s',k1,k2,k3,k4⟩:=Xv.addA (X:=X) (ts:=ts) hf hb ho hn hx hy hr hl hd
 exact Wo.val hg k1 hdo (K s' k2 k3 k4)
end
end Go.Sy
namespace Go.Proofs.YtnbdpcpgckfeeaaGreatDoor
open Go Go.Ev Go.Sy
set_option maxRecDepth 100000
variable{s:St}{b o γ:Nat}{l:List Value}
theorem fx{f:FuncId}{fn:Func}(h: Tryz.prog.funcs[f]? =some fn):B.P.funcs[f]? =some fn:=h
theorem ilock_ok(_w0:Wf s)(hr:Rw s b l γ)(hl:l[o]? =some (.int .i32 0)):Cl B (.call 63 [.pointer (some ⟨b,o,none⟩)]) s fun _ s'=>Rw s' b (lov l o [.int .i32 1]) γ∧s'.nx=s.nx∧Kp (fun c=>c=γ) s s':=by
 have hgd:good (some ⟨b,o,none⟩):=⟨_,_,rfl⟩
 refine Cl.enter Tryz.f63 fn63 rfl rfl rfl ?_
 refine run1 ?_
 refine Wo.val rfl (Xv.mark0 (fx (f:= 82) (fn:= Tryz.f82) (by kernel_rfl)) rfl rfl rfl) rfl (run1 ?_)
 refine Wo.val rfl (Xv.nilC rfl) rfl (run1 ?_)
 refine Wo.cas rfl rfl (fx (f:= 83) (fn:= Tryz.f83) (by kernel_rfl)) rfl rfl rfl rfl rfl rfl hr hl ?_
 intro s1 k1 k2 k3
 have k1':Rw s1 b (lov l o [.int .i32 1]) γ:=k1
 have hlen:o<l.length:=(List.getElem?_eq_some_iff.1 hl).1
 have hrd:readAt1 s1 b o=some (.int .i32 1):=by
  have:=(Rw.ats k1').ld (i:=o) (by rw [lov_length (by simp;omega)];exact hlen)
  rw [show (lov l o [Value.int .i32 1])[o]'(by rw [lov_length (by simp;omega)];exact hlen)= .int .i32 1 by
   simp only[lov];rw [List.getElem_append_right (by rw [List.length_take];omega)];simp[List.length_take,Nat.min_eq_left (Nat.le_of_lt hlen)]]at this
  have e:qadd (some ⟨b,0,none⟩) o=some ⟨b,o,none⟩:=by show some (Addr.mk b (0+o) none)=_;rw [Nat.zero_add]
  rw [e]at this
  exact this
 refine run1 ?_
 refine Wo.val rfl (Xv.mark0 (fx (f:= 84) (fn:= Tryz.f84) (by kernel_rfl)) rfl rfl rfl) rfl (run1 ?_)
 refine Wo.val rfl (Xv.raw rfl rfl rfl rfl rfl hrd) rfl (run1 ?_)
 refine Wo.val rfl (Xv.mark1 (fx (f:= 85) (fn:= Tryz.f85) (by kernel_rfl)) rfl rfl rfl rfl) rfl (run1 ?_)
 exact Lv.ret rfl ⟨k1',k2,k3⟩
theorem lock_ok(w0:Wf s)(hr:Rw s b l γ)(hl:l[o]? =some (.int .i32 0)):Cl B (.call 33 [.pointer (some ⟨b,o,none⟩)]) s fun _ s'=>Rw s' b (lov l o [.int .i32 1]) γ∧s'.nx=s.nx∧Kp (fun c=>c=γ) s s':=by
 have hgd:good (some ⟨b,o,none⟩):=⟨_,_,rfl⟩
 refine Cl.enter Tryz.f33 fn33 rfl rfl rfl ?_
 refine run1 ?_
 refine Wo.val rfl (Xv.nilC rfl) rfl (run1 ?_)
 refine Wo.call rfl (Xc.call ok63 rfl) rfl ((ilock_ok w0 hr hl).mono ?_)
 rintro v s' k
 refine run1 ?_
 exact Lv.nrm rfl k
theorem Rw.rd1{v:Value}(hr:Rw s b l γ)(hl:l[o]? =some v):readAt1 s b o=some v:=by
 have hol:o<l.length:=(List.getElem?_eq_some_iff.1 hl).1
 have:=(Rw.ats hr).ld hol
 rw [(List.getElem?_eq_some_iff.1 hl).2]at this
 have e:qadd (some ⟨b,0,none⟩) o=some ⟨b,o,none⟩:=by show some (Addr.mk b (0+o) none)=_;rw [Nat.zero_add]
 rw [e]at this
 exact this
theorem iunlock_ok(hr:Rw s b l γ)(hl:l[o]? =some (.int .i32 1)):Cl B (.call 64 [.pointer (some ⟨b,o,none⟩)]) s fun _ s'=>Rw s' b (lov l o [.int .i32 0]) γ∧s'.nx=s.nx∧Kp (fun c=>c=γ) s s':=by
 have hgd:good (some ⟨b,o,none⟩):=⟨_,_,rfl⟩
 have hrd:=Rw.rd1 hr hl
 have hld:ldq s (qadd (some ⟨b,o,none⟩) 0)=some (.int .i32 1):=hrd
 refine Cl.enter Tryz.f64 fn64 rfl rfl rfl ?_
 refine run1 ?_
 refine Wo.val rfl (Xv.nilC rfl) rfl (run1 ?_)
 refine Wo.val rfl (Xv.raw rfl rfl rfl rfl rfl hrd) rfl (run1 ?_)
 refine Wo.val rfl (Xv.mark1 (fx (f:= 87) (fn:= Tryz.f87) (by kernel_rfl)) rfl rfl rfl rfl) rfl (run1 ?_)
 refine Wo.val rfl (Xv.mark0 (fx (f:= 82) (fn:= Tryz.f82) (by kernel_rfl)) rfl rfl rfl) rfl (run1 ?_)
 refine Wo.val rfl (Xv.nilC rfl) rfl (run1 ?_)
 refine Wo.addA (e:=0) rfl rfl (fx (f:= 88) (fn:= Tryz.f88) (by kernel_rfl)) rfl rfl rfl rfl rfl hr hl rfl ?_
 intro s1 k1 k2 k3
 refine run1 ?_
 refine Wo.val rfl (Xv.mark0 (fx (f:= 84) (fn:= Tryz.f84) (by kernel_rfl)) rfl rfl rfl) rfl (run1 ?_)
 exact Lv.nrm rfl ⟨k1,k2,k3⟩
theorem unlock_ok(hr:Rw s b l γ)(hl:l[o]? =some (.int .i32 1)):Cl B (.call 34 [.pointer (some ⟨b,o,none⟩)]) s fun _ s'=>Rw s' b (lov l o [.int .i32 0]) γ∧s'.nx=s.nx∧Kp (fun c=>c=γ) s s':=by
 have hgd:good (some ⟨b,o,none⟩):=⟨_,_,rfl⟩
 refine Cl.enter Tryz.f34 fn34 rfl rfl rfl ?_
 refine run1 ?_
 refine Wo.val rfl (Xv.nilC rfl) rfl (run1 ?_)
 refine Wo.call rfl (Xc.call ok64 rfl) rfl ((iunlock_ok hr hl).mono ?_)
 rintro v s' k
 refine run1 ?_
 exact Lv.nrm rfl k
end Go.Proofs.YtnbdpcpgckfeeaaGreatDoor
